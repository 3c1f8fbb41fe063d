import PyProof.Rows.All
import Wide.All
import OpenK.AllK
import Wide.FinOn
import HandS.ForMost
import HandS.Codes
import HandS.Wide
import HandS.WideBits
import HandS.IsInst
import HandS.RaiseMore
import HandS.Style
import HandS.NoneIn
import HandS.TupMul
import HandS.TupAny
import HandS.Walk
import HandS.SetFor
import HandS.Strs
import KE.LtSeq
import HandS.Conv
import HandS.Exc
import HandS.TryOnly
import HandS.ExcOwn
import HandS.ExcIs
import HandS.WordsExc
import HandS.Lambda
import HandS.EndTab
import HandS.EndOwn
import KE.KNestM
import HandS.ExcInit
import HandS.ExcField
import KE.KExcSuper
import KE.KExcIs
import HandS.Defaults
import KE.DatumOrd
import KE.SortData
import KE.SortKeyHeap
import KE.KSortKey
import KE.GoesMore
import HandS.SortInts
import HandS.Deep
import HandS.DictComp
import HandS.Evl
import HandS.SortKw
import HandS.RevRange
import HandS.TupLe
import KE.KDictZip
import PyProof.ListNew
import PySem.Challenge.RW_leapfit_k50_pins_checked
set_option Elab.async false
set_option linter.all false
set_option maxRecDepth 100000
set_option maxHeartbeats 4000000
set_option linter.all false
namespace Lf
/-! ### sums of rounded quotients -/
def fs : Nat → Int → Int → Int → Int
  | 0, _, _, _ => 0
  | n + 1, a, b, m => fs n a b m + (a * n + b) / m
def tri (n : Int) : Int := n * (n - 1) / 2
theorem tri_succ (n : Int) : tri (n + 1) = tri n + n := by
  unfold tri
  rw [show (n + 1) * (n + 1 - 1) = n * (n - 1) + n * 2 by
    rw [Int.add_sub_cancel, Int.mul_sub, Int.add_mul]; omega]
  rw [Int.add_mul_ediv_right _ _ (by decide)]
theorem tri_zero : tri 0 = 0 := rfl
theorem div_shift (x k m : Int) (h : 0 < m) : (x + m * k) / m = x / m + k := by
  rw [Int.add_mul_ediv_left _ _ (by omega)]
theorem fs_red (n : Nat) (a b m : Int) (h : 0 < m) : fs n a b m = fs n (a % m) b m + a / m * tri n := by
  induction n with
  | zero => simp [fs, tri_zero]
  | succ n ih =>
    show fs n a b m + (a * n + b) / m = fs n (a % m) b m + (a % m * n + b) / m + a / m * tri ((n + 1 : Nat) : Int)
    have e : a * n + b = (a % m * n + b) + m * (a / m * n) := by
      have q := Int.emod_add_mul_ediv a m
      have q2 : a * n = (a % m + m * (a / m)) * n := by rw [q]
      rw [q2, Int.add_mul, Int.mul_assoc]; omega
    rw [e, div_shift _ _ _ h, ih, Int.natCast_add, Int.natCast_one, tri_succ, Int.mul_add]
    omega
theorem fs_redb (n : Nat) (a b m : Int) (h : 0 < m) : fs n a b m = fs n a (b % m) m + b / m * n := by
  induction n with
  | zero => simp [fs]
  | succ n ih =>
    show fs n a b m + (a * n + b) / m = fs n a (b % m) m + (a * n + b % m) / m + b / m * ((n + 1 : Nat) : Int)
    have e : a * n + b = (a * n + b % m) + m * (b / m) := by
      have q := Int.emod_add_mul_ediv b m
      omega
    rw [e, div_shift _ _ _ h, ih, Int.natCast_add, Int.natCast_one, Int.mul_add, Int.mul_one]
    omega
/-- each term of the second sum grows by one when its offset grows by its divisor -/
theorem fs_up (n : Nat) (a b m : Int) (h : 0 < m) : fs n a (b + m) m = fs n a b m + n := by
  induction n with
  | zero => simp [fs]
  | succ n ih =>
    show fs n a (b + m) m + (a * n + (b + m)) / m = fs n a b m + (a * n + b) / m + ((n + 1 : Nat) : Int)
    rw [show a * n + (b + m) = (a * n + b) + m * 1 by omega, div_shift _ _ _ h, ih]
    omega
/-- the first term apart -/
theorem fs_first (n : Nat) (a b m : Int) : fs (n + 1) a b m = b / m + fs n a (b + a) m := by
  induction n with
  | zero => show 0 + (a * ((0 : Nat) : Int) + b) / m = b / m + 0; simp
  | succ n ih =>
    show fs (n + 1) a b m + (a * ((n + 1 : Nat) : Int) + b) / m = b / m + (fs n a (b + a) m + (a * n + (b + a)) / m)
    rw [ih, show a * ((n + 1 : Nat) : Int) + b = a * n + (b + a) by
      rw [Int.natCast_add, Int.natCast_one, Int.mul_add]; omega]
    omega
theorem fs_swap (n : Nat) (a b m : Int) (ha : 0 < a) (ham : a < m) (hb : 0 ≤ b) (hbm : b < m) :
    fs n a b m = fs ((a * n + b) / m).toNat m ((a * n + b) % m) a := by
  induction n with
  | zero =>
    have e : (a * ((0 : Nat) : Int) + b) / m = 0 := by
      rw [show a * ((0 : Nat) : Int) + b = b by simp]
      exact Int.ediv_eq_zero_of_lt hb hbm
    rw [e]; rfl
  | succ n ih =>
    show fs n a b m + (a * n + b) / m = fs ((a * ((n + 1 : Nat) : Int) + b) / m).toNat m ((a * ((n + 1 : Nat) : Int) + b) % m) a
    rw [ih]
    have hm : 0 < m := by omega
    have hy : 0 ≤ a * n + b := by
      have := Int.mul_nonneg (Int.le_of_lt ha) (Int.natCast_nonneg n); omega
    generalize hyd : a * (n : Int) + b = y at hy
    have e : a * ((n + 1 : Nat) : Int) + b = y + a := by
      rw [Int.natCast_add, Int.natCast_one, Int.mul_add]; omega
    rw [e]
    have hq : 0 ≤ y / m := Int.ediv_nonneg hy (by omega)
    have hr0 : 0 ≤ y % m := Int.emod_nonneg _ (by omega)
    have hr1 : y % m < m := Int.emod_lt_of_pos _ hm
    have hd := Int.emod_add_mul_ediv y m
    generalize y / m = q at *
    generalize y % m = r at *
    by_cases hc : r + a < m
    · have e1 : (y + a) / m = q := by
        rw [show y + a = (r + a) + m * q by omega, div_shift _ _ _ hm, Int.ediv_eq_zero_of_lt (by omega) hc]
        omega
      have e2 : (y + a) % m = r + a := by
        have := Int.emod_add_mul_ediv (y + a) m
        rw [e1] at this
        omega
      rw [e1, e2, fs_up _ _ _ _ ha]
      omega
    · have e1 : (y + a) / m = q + 1 := by
        rw [show y + a = (r + a - m) + m * (q + 1) by rw [Int.mul_add]; omega, div_shift _ _ _ hm, Int.ediv_eq_zero_of_lt (by omega) (by omega)]
        omega
      have e2 : (y + a) % m = r + a - m := by
        have := Int.emod_add_mul_ediv (y + a) m
        rw [e1, Int.mul_add] at this
        omega
      rw [e1, e2, show (q + 1).toNat = q.toNat + 1 by omega, fs_first, Int.ediv_eq_zero_of_lt (by omega) (by omega), show r + a - m + m = r + a by omega, fs_up _ _ _ _ ha]
      omega
/-- a whole turn of the loop -/
theorem fs_turn (n a b m : Int) (hn : 0 ≤ n) (hm : 0 < m) :
    fs n.toNat a b m = a / m * tri n + b / m * n + fs ((a % m * n + b % m) / m).toNat m ((a % m * n + b % m) % m) (a % m) := by
  have h1 := fs_red n.toNat a b m hm
  have h2 := fs_redb n.toNat (a % m) b m hm
  have en : ((n.toNat : Nat) : Int) = n := by omega
  rw [en] at h1 h2
  have ha0 : 0 ≤ a % m := Int.emod_nonneg _ (by omega)
  have ha1 : a % m < m := Int.emod_lt_of_pos _ hm
  have hb0 : 0 ≤ b % m := Int.emod_nonneg _ (by omega)
  have hb1 : b % m < m := Int.emod_lt_of_pos _ hm
  by_cases hz : a % m = 0
  · have e0 : (a % m * n + b % m) / m = 0 := by
      rw [hz, Int.zero_mul, Int.zero_add]
      exact Int.ediv_eq_zero_of_lt hb0 hb1
    have z : fs n.toNat (a % m) (b % m) m = 0 := by
      rw [hz]
      have : ∀ k : Nat, fs k 0 (b % m) m = 0 := fun k => by
        induction k with
        | zero => rfl
        | succ k ih =>
          show fs k 0 (b % m) m + (0 * (k : Int) + b % m) / m = 0
          rw [ih, Int.zero_mul, Int.zero_add, Int.zero_add]
          exact Int.ediv_eq_zero_of_lt hb0 hb1
      exact this _
    rw [e0]
    show _ = _ + fs 0 m _ _
    have e3 : fs 0 m ((a % m * n + b % m) % m) (a % m) = 0 := rfl
    have e4 : (0 : Int).toNat = 0 := rfl
    rw [e3, h1, h2, z]
    omega
  · have h3 := fs_swap n.toNat (a % m) (b % m) m (by omega) ha1 hb0 hb1
    rw [en] at h3
    rw [h1, h2, h3]
    omega
theorem turn_le (n a b m : Int) (hn : 0 < n) (hm : 0 < m) : (a % m * n + b % m) / m ≤ n ∧ 0 ≤ (a % m * n + b % m) / m := by
  have ha0 : 0 ≤ a % m := Int.emod_nonneg _ (by omega)
  have ha1 : a % m < m := Int.emod_lt_of_pos _ hm
  have hb0 : 0 ≤ b % m := Int.emod_nonneg _ (by omega)
  have hb1 : b % m < m := Int.emod_lt_of_pos _ hm
  have h0 : 0 ≤ a % m * n := Int.mul_nonneg ha0 (by omega)
  refine ⟨?_, Int.ediv_nonneg (by omega) (by omega)⟩
  have h1 : a % m * n ≤ (m - 1) * n := Int.mul_le_mul_of_nonneg_right (by omega) (by omega)
  rw [Int.sub_mul, Int.one_mul] at h1
  have h2 : (a % m * n + b % m) / m < n + 1 := by
    apply Int.ediv_lt_of_lt_mul hm
    rw [Int.add_mul, Int.one_mul, Int.mul_comm n m]
    omega
  omega
theorem turn_zero (n a b m : Int) (hm : 0 < m) (hz : a % m = 0) : (a % m * n + b % m) / m = 0 := by
  rw [hz, Int.zero_mul, Int.zero_add]
  exact Int.ediv_eq_zero_of_lt (Int.emod_nonneg _ (by omega)) (Int.emod_lt_of_pos _ hm)
/-! ### sizes -/
def Bd (k : Nat) (i : Int) : Prop := i.natAbs < 2 ^ k
theorem Bd.mono {k j : Nat} {i : Int} (h : Bd k i) (e : k ≤ j) : Bd j i := Nat.lt_of_lt_of_le h (Nat.pow_le_pow_right (by decide) e)
theorem Bd.le {k : Nat} {i j : Int} (h : Bd k j) (e : i.natAbs ≤ j.natAbs) : Bd k i := Nat.lt_of_le_of_lt e h
theorem Bd.mul {k j : Nat} {x y : Int} (h : Bd k x) (h2 : Bd j y) : Bd (k + j) (x * y) := by
  unfold Bd
  rw [Int.natAbs_mul, Nat.pow_add]
  exact Nat.mul_lt_mul'' h h2
theorem Bd.add {k : Nat} {x y : Int} (h : Bd k x) (h2 : Bd k y) : Bd (k + 1) (x + y) := by
  unfold Bd at *
  rw [Nat.pow_succ]
  omega
theorem Bd.sub {k : Nat} {x y : Int} (h : Bd k x) (h2 : Bd k y) : Bd (k + 1) (x - y) := by
  unfold Bd at *
  rw [Nat.pow_succ]
  omega
theorem Bd.neg {k : Nat} {x : Int} (h : Bd k x) : Bd k (-x) := by
  unfold Bd at *
  omega
theorem Bd.ediv {k : Nat} {x m : Int} (h : Bd k x) (hm : 0 < m) : Bd k (x / m) := by
  refine h.le ?_
  rcases Int.lt_or_le x 0 with hx | hx
  · have h1 : x / m < 0 := Int.ediv_neg_of_neg_of_pos hx hm
    have h2 : x ≤ x / m := by
      apply Int.le_ediv_of_mul_le hm
      have : (-x) * 1 ≤ (-x) * m := Int.mul_le_mul_of_nonneg_left (by omega) (by omega)
      rw [Int.neg_mul, Int.neg_mul, Int.mul_one] at this
      omega
    omega
  · have h1 : 0 ≤ x / m := Int.ediv_nonneg hx (by omega)
    have h2 : x / m ≤ x := Int.ediv_le_self _ hx
    omega
theorem Bd.emod {k : Nat} {x m : Int} (h : Bd k m) (hm : 0 < m) : Bd k (x % m) := by
  refine h.le ?_
  have := Int.emod_nonneg x (show m ≠ 0 by omega)
  have := Int.emod_lt_of_pos x hm
  omega
theorem Bd.log {k : Nat} {i : Int} (h : Bd k i) (hk : 0 < k) : i.natAbs.log2 < k := by
  by_cases e : i.natAbs = 0
  · rw [e]; exact hk
  · exact (Nat.log2_lt e).mpr h
theorem Bd.small {k : Nat} {i : Int} (c : Nat) (h : i.natAbs < 2 ^ c) (e : c ≤ k) : Bd k i := Bd.mono (k := c) h e
theorem Bd.between {k : Nat} {x y : Int} (h : Bd k y) (h0 : 0 ≤ x) (h1 : x ≤ y) : Bd k x := h.le (by omega)
/-! ### the greatest common divisor -/
theorem gcd_turn (x y : Int) (hx : 0 ≤ x) (hy : 0 < y) : Int.gcd y (x % y) = Int.gcd x y := by
  unfold Int.gcd
  rw [show (x % y).natAbs = x.natAbs % y.natAbs by
    obtain ⟨a, rfl⟩ := Int.eq_ofNat_of_zero_le hx
    obtain ⟨b, rfl⟩ := Int.eq_ofNat_of_zero_le (Int.le_of_lt hy)
    rfl]
  rw [Nat.gcd_comm, ← Nat.gcd_rec, Nat.gcd_comm]
end Lf
namespace Lf
theorem nab_ediv {x m : Int} (hm : 0 < m) : (x / m).natAbs ≤ x.natAbs := by
  rcases Int.lt_or_le x 0 with hx | hx
  · have h1 : x / m < 0 := Int.ediv_neg_of_neg_of_pos hx hm
    have h2 : x ≤ x / m := by
      apply Int.le_ediv_of_mul_le hm
      have : (-x) * 1 ≤ (-x) * m := Int.mul_le_mul_of_nonneg_left (by omega) (by omega)
      rw [Int.neg_mul, Int.neg_mul, Int.mul_one] at this
      omega
    omega
  · have h1 : 0 ≤ x / m := Int.ediv_nonneg hx (by omega)
    have h2 : x / m ≤ x := Int.ediv_le_self _ hx
    omega
theorem fs_nab (n : Nat) (a b m : Int) (hm : 0 < m) : (fs n a b m).natAbs ≤ n * (a.natAbs * n + b.natAbs) := by
  induction n with
  | zero => show (0 : Int).natAbs ≤ _; simp
  | succ n ih =>
    show (fs n a b m + (a * n + b) / m).natAbs ≤ (n + 1) * (a.natAbs * (n + 1) + b.natAbs)
    have h1 := nab_ediv (x := a * n + b) hm
    have h2 := Int.natAbs_add_le (a * n) b
    have h3 := Int.natAbs_add_le (fs n a b m) ((a * n + b) / m)
    have h4 : (a * (n : Int)).natAbs = a.natAbs * n := by rw [Int.natAbs_mul]; rfl
    rw [h4] at h2
    have h5 : n * (a.natAbs * n + b.natAbs) ≤ n * (a.natAbs * (n + 1) + b.natAbs) := Nat.mul_le_mul_left _ (Nat.add_le_add_right (Nat.mul_le_mul_left _ (by omega)) _)
    have h6 : a.natAbs * n ≤ a.natAbs * (n + 1) := Nat.mul_le_mul_left _ (by omega)
    rw [Nat.add_mul, Nat.one_mul]
    omega
theorem fs_bd {n k j : Nat} {a b m : Int} (hm : 0 < m) (hn : n < 2 ^ j) (ha : Bd k a) (hb : Bd k b) : Bd (j + (k + j + 1)) (fs n a b m) := by
  unfold Bd at *
  have h := fs_nab n a b m hm
  refine Nat.lt_of_le_of_lt h ?_
  rw [Nat.pow_add 2 j]
  have h1 : a.natAbs * n + b.natAbs < 2 ^ (k + j + 1) := by
    have e : a.natAbs * n ≤ 2 ^ k * 2 ^ j := Nat.mul_le_mul (Nat.le_of_lt ha) (Nat.le_of_lt hn)
    have e2 : 2 ^ k ≤ 2 ^ k * 2 ^ j := Nat.le_mul_of_pos_right _ (Nat.pow_pos (by decide))
    rw [Nat.pow_succ, Nat.pow_add]
    omega
  exact Nat.mul_lt_mul'' hn h1
def trm (p q c s : Int) (i : Nat) : Int := (p * (s + i) + c) / q
theorem trm_sum (p q c s : Int) (n : Nat) : ((List.range n).map (trm p q c s)).sum = fs n p (p * s + c) q := by
  induction n with
  | zero => rfl
  | succ n ih =>
    rw [List.range_succ, List.map_append, List.sum_append, ih]
    show _ + (trm p q c s n + 0) = fs n p (p * s + c) q + (p * n + (p * s + c)) / q
    unfold trm
    rw [show p * (s + (n : Int)) + c = p * n + (p * s + c) by rw [Int.mul_add]; omega]
    omega
end Lf
namespace Lf
/-! ### triples in lowest terms -/
def gg (p q : Int) : Int := (Int.gcd p q : Int)
theorem gg_pos {p q : Int} (h : 1 ≤ q) : 0 < gg p q := by
  have : 0 < Int.gcd p q := Int.gcd_pos_of_ne_zero_right _ (by omega)
  unfold gg
  omega
theorem gg_p (p q : Int) : p = gg p q * (p / gg p q) := (Int.mul_ediv_cancel' (Int.gcd_dvd_left ..)).symm
theorem gg_q (p q : Int) : q = gg p q * (q / gg p q) := (Int.mul_ediv_cancel' (Int.gcd_dvd_right ..)).symm
theorem gg_mul (g x y : Int) (h : 0 ≤ g) : gg (g * x) (g * y) = g * gg x y := by
  unfold gg
  rw [Int.gcd_mul_left, Int.natCast_mul, Int.natAbs_of_nonneg h]
/-- reduced, multiplied, reduced again -/
theorem gg_twice (p q u v : Int) (h : 1 ≤ q) : gg (u * p) (v * q) = gg p q * gg (u * (p / gg p q)) (v * (q / gg p q)) := by
  have hg := gg_pos (p := p) h
  rw [← gg_mul _ _ _ (Int.le_of_lt hg)]
  congr 1
  · rw [Int.mul_left_comm, ← gg_p]
  · rw [Int.mul_left_comm, ← gg_q]
theorem red_p (p q u v : Int) (h : 1 ≤ q) (hv : 1 ≤ v) : u * (p / gg p q) / gg (u * (p / gg p q)) (v * (q / gg p q)) = u * p / gg (u * p) (v * q) := by
  have hg := gg_pos (p := p) h
  have e := gg_twice p q u v h
  rw [e]
  have e2 : u * p = gg p q * (u * (p / gg p q)) := by rw [Int.mul_left_comm, ← gg_p]
  rw [e2, Int.mul_ediv_mul_of_pos _ _ hg]
theorem red_q (p q u v : Int) (h : 1 ≤ q) (hv : 1 ≤ v) : v * (q / gg p q) / gg (u * (p / gg p q)) (v * (q / gg p q)) = v * q / gg (u * p) (v * q) := by
  have hg := gg_pos (p := p) h
  have e := gg_twice p q u v h
  rw [e]
  have e2 : v * q = gg p q * (v * (q / gg p q)) := by rw [Int.mul_left_comm, ← gg_q]
  rw [e2, Int.mul_ediv_mul_of_pos _ _ hg]
theorem red_c (p q u v c : Int) (h : 1 ≤ q) (hv : 1 ≤ v) : c / gg p q / gg (u * (p / gg p q)) (v * (q / gg p q)) = c / gg (u * p) (v * q) := by
  have hg := gg_pos (p := p) h
  rw [gg_twice p q u v h, Int.ediv_ediv_of_nonneg (Int.le_of_lt hg)]
theorem red_shift (p q a b c : Int) (h : 1 ≤ q) : (p * a + q * b + c) / gg p q = p / gg p q * a + q / gg p q * b + c / gg p q := by
  have hg := gg_pos (p := p) h
  have e : p * a + q * b + c = c + gg p q * (p / gg p q * a + q / gg p q * b) := by
    rw [Int.mul_add, ← Int.mul_assoc, ← Int.mul_assoc, ← gg_p, ← gg_q]
    omega
  rw [e, div_shift _ _ _ hg]
  omega
theorem div_neg1 (c g : Int) (hg : 0 < g) : (-1 - c) / g = -1 - c / g := by
  have e := Int.emod_add_mul_ediv c g
  have h0 := Int.emod_nonneg c (show g ≠ 0 by omega)
  have h1 := Int.emod_lt_of_pos c hg
  have e2 : -1 - c = (g - 1 - c % g) + g * (-1 - c / g) := by
    rw [Int.mul_sub]
    omega
  rw [e2, div_shift _ _ _ hg, Int.ediv_eq_zero_of_lt (by omega) (by omega)]
  omega
theorem red_mirror (p q c : Int) (h : 1 ≤ q) : (q - 1 - c) / gg p q = q / gg p q - 1 - c / gg p q := by
  have hg := gg_pos (p := p) h
  have e : q - 1 - c = (-1 - c) + gg p q * (q / gg p q) := by
    rw [← gg_q]
    omega
  rw [e, div_shift _ _ _ hg, div_neg1 _ _ hg]
  omega
end Lf
namespace Lf
theorem gg1 {p q : Int} (h : Int.gcd p q = 1) : gg p q = 1 := by
  unfold gg
  rw [h]
  rfl
theorem thin2 (p q c j k : Int) (h : 1 ≤ q * j) (hk : 1 ≤ k) :
    p / gg p (q * j) / gg (p / gg p (q * j)) (q * j / gg p (q * j) * k) = p / gg p (q * (j * k)) ∧
    q * j / gg p (q * j) * k / gg (p / gg p (q * j)) (q * j / gg p (q * j) * k) = q * (j * k) / gg p (q * (j * k)) ∧
    c / gg p (q * j) / gg (p / gg p (q * j)) (q * j / gg p (q * j) * k) = c / gg p (q * (j * k)) := by
  have e : q * (j * k) = k * (q * j) := by rw [← Int.mul_assoc, Int.mul_comm]
  have h1 := red_p p (q * j) 1 k h hk
  have h2 := red_q p (q * j) 1 k h hk
  have h3 := red_c p (q * j) 1 k c h hk
  simp only [Int.one_mul] at h1 h2 h3
  rw [Int.mul_comm (q * j / gg p (q * j)) k, e]
  exact ⟨h1, h2, h3⟩
theorem sample2 (p q c j k : Int) (h : 1 ≤ q) :
    p * j / gg (p * j) q * k / gg (p * j / gg (p * j) q * k) (q / gg (p * j) q) = p * (j * k) / gg (p * (j * k)) q ∧
    q / gg (p * j) q / gg (p * j / gg (p * j) q * k) (q / gg (p * j) q) = q / gg (p * (j * k)) q ∧
    c / gg (p * j) q / gg (p * j / gg (p * j) q * k) (q / gg (p * j) q) = c / gg (p * (j * k)) q := by
  have e : p * (j * k) = k * (p * j) := by rw [← Int.mul_assoc, Int.mul_comm]
  have h1 := red_p (p * j) q k 1 h (by decide)
  have h2 := red_q (p * j) q k 1 h (by decide)
  have h3 := red_c (p * j) q k 1 c h (by decide)
  simp only [Int.one_mul] at h1 h2 h3
  rw [Int.mul_comm (p * j / gg (p * j) q) k, e]
  exact ⟨h1, h2, h3⟩
theorem both2 (p q c k : Int) (h : 1 ≤ q) (hk : 1 ≤ k) :
    p * k / gg (p * k) q / gg (p * k / gg (p * k) q) (q / gg (p * k) q * k) = k * p / gg (k * p) (k * q) ∧
    q / gg (p * k) q * k / gg (p * k / gg (p * k) q) (q / gg (p * k) q * k) = k * q / gg (k * p) (k * q) ∧
    c / gg (p * k) q / gg (p * k / gg (p * k) q) (q / gg (p * k) q * k) = c / gg (k * p) (k * q) := by
  have h1 := red_p (p * k) q 1 k h hk
  have h2 := red_q (p * k) q 1 k h hk
  have h3 := red_c (p * k) q 1 k c h hk
  simp only [Int.one_mul] at h1 h2 h3
  rw [Int.mul_comm (q / gg (p * k) q) k, Int.mul_comm k p]
  exact ⟨h1, h2, h3⟩
theorem one_le_mul {x y : Int} (h : 1 ≤ x) (h2 : 1 ≤ y) : 1 ≤ x * y := by
  have := Int.mul_le_mul h h2 (by decide) (by omega)
  omega
end Lf
namespace Lf
/-! ### sums over ranges -/
theorem fs_add (n m : Nat) (a b q : Int) : fs (n + m) a b q = fs n a b q + fs m a (a * n + b) q := by
  induction m with
  | zero => show fs n a b q = fs n a b q + 0; omega
  | succ m ih =>
    show fs (n + m) a b q + (a * ((n + m : Nat) : Int) + b) / q = fs n a b q + (fs m a (a * n + b) q + (a * m + (a * n + b)) / q)
    rw [ih, show a * ((n + m : Nat) : Int) + b = a * m + (a * n + b) by rw [Int.natCast_add, Int.mul_add]; omega]
    omega
/-- two neighbouring ranges -/
theorem fs_split (p q c s m e : Int) (h1 : s ≤ m) (h2 : m ≤ e) : fs (m - s).toNat p (p * s + c) q + fs (e - m).toNat p (p * m + c) q = fs (e - s).toNat p (p * s + c) q := by
  have e1 : (e - s).toNat = (m - s).toNat + (e - m).toNat := by omega
  rw [e1, fs_add, show ((m - s).toNat : Int) = m - s by omega, show p * (m - s) + (p * s + c) = p * m + c by rw [Int.mul_sub]; omega]
theorem fs_one (p b q : Int) : fs 1 p b q = b / q := by
  show 0 + (p * ((0 : Nat) : Int) + b) / q = b / q
  simp
/-- one step of the offset: a term grows by one exactly where the divisor divides -/
theorem step_div (x q : Int) (h : 0 < q) : (x + 1) / q = x / q + (if (x + 1) % q = 0 then 1 else 0) := by
  have e := Int.emod_add_mul_ediv x q
  have h0 := Int.emod_nonneg x (show q ≠ 0 by omega)
  have h1 := Int.emod_lt_of_pos x h
  by_cases hc : x % q + 1 = q
  · have e2 : x + 1 = 0 + q * (x / q + 1) := by rw [Int.mul_add]; omega
    have e3 : (x + 1) % q = 0 := by rw [e2, Int.zero_add, Int.mul_emod_right]
    rw [if_pos e3, e2, div_shift _ _ _ h, Int.zero_ediv]
    omega
  · have e2 : x + 1 = (x % q + 1) + q * (x / q) := by omega
    have e3 : (x + 1) % q = x % q + 1 := by
      rw [e2, Int.add_mul_emod_self_left]
      exact Int.emod_eq_of_lt (by omega) (by omega)
    rw [if_neg (by omega)]
    rw [e2, div_shift _ _ _ h, Int.ediv_eq_zero_of_lt (by omega) (by omega)]
    omega
theorem hit_once (p q b : Int) (hg : Int.gcd p q = 1) (i j : Int) (hi : 0 ≤ i) (hij : i < j) (hj : j < q) (h1 : (p * i + b) % q = 0) (h2 : (p * j + b) % q = 0) : False := by
  have d1 := Int.dvd_of_emod_eq_zero h1
  have d2 := Int.dvd_of_emod_eq_zero h2
  have d3 : q ∣ p * (j - i) := by
    have := Int.dvd_sub d2 d1
    rw [show p * j + b - (p * i + b) = p * (j - i) by rw [Int.mul_sub]; omega] at this
    exact this
  have d4 : q ∣ j - i := by
    have n1 : q.natAbs ∣ p.natAbs * (j - i).natAbs := by
      rw [← Int.natAbs_mul]
      exact Int.natAbs_dvd_natAbs.mpr d3
    have n2 : Nat.Coprime q.natAbs p.natAbs := by
      unfold Nat.Coprime
      rw [Nat.gcd_comm]
      exact hg
    exact Int.natAbs_dvd_natAbs.mp (Nat.Coprime.dvd_of_dvd_mul_left n2 n1)
  have := Int.le_of_dvd (by omega) d4
  omega
theorem fs_step_le (p q b : Int) (hq : 0 < q) (hg : Int.gcd p q = 1) (n : Nat) (hn : (n : Int) ≤ q) :
    fs n p (b + 1) q - fs n p b q = 0 ∧ (∀ i : Nat, i < n → (p * i + (b + 1)) % q ≠ 0) ∨ fs n p (b + 1) q - fs n p b q = 1 ∧ (∃ i : Nat, i < n ∧ (p * i + (b + 1)) % q = 0) := by
  induction n with
  | zero => exact .inl ⟨rfl, fun i h => absurd h (by omega)⟩
  | succ n ih =>
    have e : fs (n + 1) p (b + 1) q - fs (n + 1) p b q = (fs n p (b + 1) q - fs n p b q) + ((p * n + (b + 1)) / q - (p * n + b) / q) := by
      show fs n p (b + 1) q + (p * n + (b + 1)) / q - (fs n p b q + (p * n + b) / q) = _
      omega
    have s := step_div (p * n + b) q hq
    rw [show p * (n : Int) + b + 1 = p * n + (b + 1) by omega] at s
    rw [e]
    rcases ih (by omega) with ⟨h1, h2⟩ | ⟨h1, i, hi, h2⟩
    · by_cases hc : (p * (n : Int) + (b + 1)) % q = 0
      · rw [if_pos hc] at s
        exact .inr ⟨by omega, n, by omega, hc⟩
      · rw [if_neg hc] at s
        refine .inl ⟨by omega, fun i hi => ?_⟩
        by_cases hin : i = n
        · subst hin; exact hc
        · exact h2 i (by omega)
    · have hc : ¬ (p * (n : Int) + (b + 1)) % q = 0 := fun z => hit_once p q (b + 1) hg i n (by omega) (by omega) (by omega) h2 z
      rw [if_neg hc] at s
      exact .inr ⟨by omega, i, by omega, h2⟩
theorem fs_step (p q b : Int) (hq : 0 < q) (hg : Int.gcd p q = 1) : fs q.toNat p (b + 1) q = fs q.toNat p b q + 1 := by
  have hle : ∀ b, fs q.toNat p (b + 1) q - fs q.toNat p b q ≤ 1 := fun b => by
    rcases fs_step_le p q b hq hg q.toNat (by omega) with ⟨h, _⟩ | ⟨h, _⟩ <;> omega
  have many : ∀ (k : Nat) (b : Int), fs q.toNat p (b + k) q - fs q.toNat p b q ≤ k := fun k => by
    induction k with
    | zero => intro b; simp
    | succ k ih =>
      intro b
      have h1 := ih b
      have h2 := hle (b + k)
      rw [show b + ((k + 1 : Nat) : Int) = b + k + 1 by omega]
      omega
  have up := fs_up q.toNat p b q hq
  have h1 := many (q.toNat - 1) (b + 1)
  rw [show b + 1 + ((q.toNat - 1 : Nat) : Int) = b + q by omega] at h1
  have h2 := hle b
  omega
theorem fs_from (p q : Int) (hq : 0 < q) (hg : Int.gcd p q = 1) (k : Nat) (b : Int) : fs q.toNat p (b + k) q = fs q.toNat p b q + k := by
  induction k with
  | zero => simp
  | succ k ih =>
    rw [show b + ((k + 1 : Nat) : Int) = b + k + 1 by omega, fs_step p q _ hq hg, ih]
    omega
theorem fs_any (p q b : Int) (hq : 0 < q) (hg : Int.gcd p q = 1) : fs q.toNat p b q = fs q.toNat p 0 q + b := by
  rcases Int.lt_or_le b 0 with h | h
  · have := fs_from p q hq hg (-b).toNat b
    rw [show b + ((-b).toNat : Int) = 0 by omega] at this
    omega
  · have := fs_from p q hq hg b.toNat 0
    rw [show 0 + (b.toNat : Int) = b by omega] at this
    omega
/-- terms in reverse order -/
theorem fs_rev (n : Nat) (a b q : Int) : fs n a b q = fs n (-a) (a * (n - 1) + b) q := by
  induction n with
  | zero => rfl
  | succ n ih =>
    rw [fs_first n (-a)]
    show fs n a b q + (a * n + b) / q = _
    rw [ih, show a * (((n + 1 : Nat) : Int) - 1) + b = a * n + b by rw [show ((n + 1 : Nat) : Int) - 1 = n by omega],
      show a * (n : Int) + b + -a = a * (n - 1) + b by rw [Int.mul_sub]; omega]
    omega
/-- negated terms -/
theorem fs_neg (n : Nat) (a b q : Int) (hq : 0 < q) : fs n (-a) (-b) q = - fs n a (b + q - 1) q := by
  induction n with
  | zero => rfl
  | succ n ih =>
    show fs n (-a) (-b) q + (-a * n + -b) / q = - (fs n a (b + q - 1) q + (a * n + (b + q - 1)) / q)
    rw [ih]
    have h1 := div_neg1 (a * n + (b - 1)) q hq
    have h2 := div_shift (a * n + (b - 1)) 1 q hq
    rw [show -1 - (a * (n : Int) + (b - 1)) = -a * n + -b by rw [Int.neg_mul]; omega] at h1
    rw [show a * (n : Int) + (b - 1) + q * 1 = a * n + (b + q - 1) by omega] at h2
    omega
theorem fs_cycle (p q b : Int) (hq : 0 < q) (hg : Int.gcd p q = 1) : fs q.toNat p b q = b + (p - 1) * (q - 1) / 2 := by
  have h0 := fs_any p q b hq hg
  have r := fs_rev q.toNat p 0 q
  have ng := fs_neg q.toNat p (-(p * (q - 1))) q hq
  rw [show ((q.toNat : Nat) : Int) = q by omega, Int.add_zero] at r
  rw [Int.neg_neg] at ng
  have h2 := fs_any p q (-(p * (q - 1)) + q - 1) hq hg
  have key : 2 * fs q.toNat p 0 q = (p - 1) * (q - 1) := by
    have e : (p - 1) * (q - 1) = p * (q - 1) - (q - 1) := by rw [Int.sub_mul, Int.one_mul]
    omega
  have : (p - 1) * (q - 1) / 2 = fs q.toNat p 0 q := by
    rw [← key, Int.mul_ediv_cancel_left _ (by decide)]
  omega
/-- Hermite's identity -/
theorem fs_hermite (k y : Int) (hk : 0 < k) : fs k.toNat 1 y k = y := by
  have := fs_cycle 1 k y hk (by simp [Int.gcd])
  rw [this]
  simp
/-- mirrored -/
theorem fs_mirror (n : Nat) (p q c s : Int) (hq : 0 < q) : fs n p (p * (1 - (s + n)) + (q - 1 - c)) q = - fs n p (p * s + c) q := by
  induction n with
  | zero => rfl
  | succ n ih =>
    rw [fs_first]
    show _ = -(fs n p (p * s + c) q + (p * n + (p * s + c)) / q)
    have e1 : p * (1 - (s + ((n + 1 : Nat) : Int))) + (q - 1 - c) + p = p * (1 - (s + n)) + (q - 1 - c) := by
      rw [show (1 - (s + ((n + 1 : Nat) : Int))) = (1 - (s + n)) - 1 by omega, Int.mul_sub p _ 1]
      omega
    rw [e1, ih]
    have h1 := div_neg1 (p * n + (p * s + c)) q hq
    have h2 := div_shift (-1 - (p * n + (p * s + c))) 1 q hq
    rw [show -1 - (p * (n : Int) + (p * s + c)) + q * 1 = p * (1 - (s + ((n + 1 : Nat) : Int))) + (q - 1 - c) by
      rw [show (1 - (s + ((n + 1 : Nat) : Int))) = -(n : Int) - s by omega, Int.mul_sub, Int.mul_neg]; omega] at h2
    omega
theorem fs_lowest (n : Nat) (p q c s : Int) (hq : 1 ≤ q) : fs n (p / gg p q) (p / gg p q * s + c / gg p q) (q / gg p q) = fs n p (p * s + c) q := by
  have hg := gg_pos (p := p) hq
  induction n with
  | zero => rfl
  | succ n ih =>
    show fs n (p / gg p q) (p / gg p q * s + c / gg p q) (q / gg p q) + (p / gg p q * n + (p / gg p q * s + c / gg p q)) / (q / gg p q) = fs n p (p * s + c) q + (p * n + (p * s + c)) / q
    rw [ih]
    have e1 : p / gg p q * n + (p / gg p q * s + c / gg p q) = (p * n + (p * s + c)) / gg p q := by
      have : p * n + (p * s + c) = c + gg p q * (p / gg p q * n + p / gg p q * s) := by
        rw [Int.mul_add, ← Int.mul_assoc, ← Int.mul_assoc, ← gg_p]
        omega
      rw [this, div_shift _ _ _ hg]
      omega
    have e2 : (p * n + (p * s + c)) / gg p q / (q / gg p q) = (p * n + (p * s + c)) / q := by
      rw [Int.ediv_ediv_of_nonneg (Int.le_of_lt hg), ← gg_q]
    rw [e1, e2]
theorem sum_map_add {α : Type} (l : List α) (f g : α → Int) : (l.map fun x => f x + g x).sum = (l.map f).sum + (l.map g).sum := by
  induction l with
  | nil => rfl
  | cons x r ih => simp only [List.map_cons, List.sum_cons, ih]; omega
theorem range_fs (k : Nat) (a b q : Int) : ((List.range k).map fun (j : Nat) => (a * j + b) / q).sum = fs k a b q := by
  induction k with
  | zero => rfl
  | succ k ih =>
    rw [List.range_succ, List.map_append, List.sum_append, ih]
    show _ + ((a * k + b) / q + 0) = fs k a b q + (a * k + b) / q
    omega
theorem fs_thin (n : Nat) (p q b k : Int) (hq : 0 < q) (hk : 0 < k) : ((List.range k.toNat).map fun (j : Nat) => fs n p (b + q * j) (q * k)).sum = fs n p b q := by
  induction n with
  | zero =>
    show ((List.range k.toNat).map fun _ => (0 : Int)).sum = 0
    induction k.toNat with
    | zero => rfl
    | succ m ih => rw [List.range_succ, List.map_append, List.sum_append, ih]; rfl
  | succ n ih =>
    have e : (List.range k.toNat).map (fun (j : Nat) => fs (n + 1) p (b + q * j) (q * k)) = (List.range k.toNat).map (fun (j : Nat) => fs n p (b + q * j) (q * k) + (1 * (j : Int) + (p * n + b) / q) / k) := by
      apply List.map_congr_left
      intro j _
      show fs n p (b + q * j) (q * k) + (p * n + (b + q * j)) / (q * k) = _
      rw [← Int.ediv_ediv_of_nonneg (Int.le_of_lt hq), show p * (n : Int) + (b + q * j) = (p * n + b) + q * j by omega, div_shift _ _ _ hq, Int.one_mul, Int.add_comm]
      rw [Int.add_comm (j : Int)]
      omega
    rw [e, sum_map_add, ih, range_fs, fs_hermite _ _ hk]
    rfl
theorem fs_sample (n : Nat) (p q b k : Int) (hk : 0 ≤ k) : ((List.range k.toNat).map fun (j : Nat) => fs n (p * k) (b + p * j) q).sum = fs (k.toNat * n) p b q := by
  induction n with
  | zero =>
    show ((List.range k.toNat).map fun _ => (0 : Int)).sum = 0
    induction k.toNat with
    | zero => rfl
    | succ m ih => rw [List.range_succ, List.map_append, List.sum_append, ih]; rfl
  | succ n ih =>
    have e : (List.range k.toNat).map (fun (j : Nat) => fs (n + 1) (p * k) (b + p * j) q) = (List.range k.toNat).map (fun (j : Nat) => fs n (p * k) (b + p * j) q + (p * (j : Int) + (p * ((k.toNat * n : Nat) : Int) + b)) / q) := by
      apply List.map_congr_left
      intro j _
      show fs n (p * k) (b + p * j) q + (p * k * n + (b + p * j)) / q = _
      rw [Int.natCast_mul, show ((k.toNat : Nat) : Int) = k by omega, ← Int.mul_assoc]
      rw [show p * k * (n : Int) + (b + p * j) = p * j + (p * k * n + b) by omega]
    rw [e, sum_map_add, ih, range_fs, Nat.mul_succ, fs_add]
end Lf
namespace Lf
theorem fs_lin (n : Nat) (a b m i j : Int) (hm : 0 < m) : fs n (a + i * m) (b + j * m) m = fs n a b m + i * tri n + j * n := by
  induction n with
  | zero => simp [fs, tri_zero]
  | succ n ih =>
    show fs n (a + i * m) (b + j * m) m + ((a + i * m) * n + (b + j * m)) / m = fs n a b m + (a * n + b) / m + i * tri ((n + 1 : Nat) : Int) + j * ((n + 1 : Nat) : Int)
    rw [ih, show (a + i * m) * (n : Int) + (b + j * m) = (a * n + b) + m * (i * n + j) by
      rw [Int.add_mul, Int.mul_add, Int.mul_comm i m, Int.mul_assoc, Int.mul_comm j m]; omega, div_shift _ _ _ hm, Int.natCast_add, Int.natCast_one, tri_succ, Int.mul_add, Int.mul_add]
    omega
theorem fs_scale (n : Nat) (a b m k : Int) (hk : 0 < k) : fs n (a * k) (b * k) (m * k) = fs n a b m := by
  induction n with
  | zero => rfl
  | succ n ih =>
    show fs n (a * k) (b * k) (m * k) + (a * k * n + b * k) / (m * k) = fs n a b m + (a * n + b) / m
    rw [ih, show a * k * (n : Int) + b * k = (a * n + b) * k by rw [Int.add_mul, Int.mul_right_comm], Int.mul_ediv_mul_of_pos_left _ _ hk]
theorem fs_last (n a b m : Int) (hn : 0 < n) : fs n.toNat a b m - fs (n - 1).toNat a b m = (a * (n - 1) + b) / m := by
  have e : n.toNat = (n - 1).toNat + 1 := by omega
  rw [e]
  show fs (n - 1).toNat a b m + (a * ((n - 1).toNat : Int) + b) / m - fs (n - 1).toNat a b m = _
  rw [show ((n - 1).toNat : Int) = n - 1 by omega]
  omega
theorem fs_part (n k a b m : Int) (h0 : 0 ≤ k) (h1 : k ≤ n) : fs k.toNat a b m + fs (n - k).toNat a (a * k + b) m = fs n.toNat a b m := by
  rw [show n.toNat = k.toNat + (n - k).toNat by omega, fs_add, show ((k.toNat : Nat) : Int) = k by omega]
theorem Bd.grow3 {k : Nat} {r d : Int} (h0 : 0 ≤ r) (h : Bd k r) (d0 : 0 ≤ d) (d1 : d < 1000) : Bd (k + 10) (1000 * r + d) := by
  unfold Bd at *
  have e : (2 : Nat) ^ (k + 10) = 2 ^ k * 1024 := by rw [Nat.pow_add]
  rw [e]
  generalize (2 : Nat) ^ k = m at h
  omega
theorem Bd.grow1 {k : Nat} {r d : Int} (h0 : 0 ≤ r) (h : Bd k r) (d0 : 0 ≤ d) (d1 : d < 10) : Bd (k + 4) (10 * r + d) := by
  unfold Bd at *
  have e : (2 : Nat) ^ (k + 4) = 2 ^ k * 16 := by rw [Nat.pow_add]
  rw [e]
  generalize (2 : Nat) ^ k = m at h
  omega
end Lf
namespace Lf
/-! ### events -/
theorem gal {p q : Int} (c m t : Int) (hp : 1 ≤ p) (hq : 1 ≤ q) : m ≤ (p * t + c) / q ↔ (q * m + (p - 1 - c)) / p ≤ t := by
  rw [Int.le_ediv_iff_mul_le (by omega), ← Int.lt_add_one_iff (a := (q * m + (p - 1 - c)) / p), Int.ediv_lt_iff_lt_mul (by omega), Int.mul_comm m q, Int.add_mul, Int.one_mul, Int.mul_comm t p]
  omega
theorem ct_mono {p q c s t : Int} (hp : 0 ≤ p) (hq : 1 ≤ q) (h : s ≤ t) : (p * s + c) / q ≤ (p * t + c) / q := by
  apply Int.ediv_le_ediv (by omega)
  have := Int.mul_le_mul_of_nonneg_left h hp
  omega
theorem ev_at {p q c m t : Int} (hp : 1 ≤ p) (hq : 1 ≤ q) (h1 : (p * (t - 1) + c) / q < m) (h2 : m ≤ (p * t + c) / q) : (q * m + (p - 1 - c)) / p = t := by
  have a := (gal c m t hp hq).mp h2
  have b : ¬ (q * m + (p - 1 - c)) / p ≤ t - 1 := fun h => by
    have := (gal c m (t - 1) hp hq).mpr h
    omega
  omega
theorem fs_const (k : Nat) (a b m v : Int) (h : ∀ i : Nat, i < k → (a * i + b) / m = v) : fs k a b m = k * v := by
  induction k with
  | zero => simp [fs]
  | succ k ih =>
    show fs k a b m + (a * k + b) / m = ((k + 1 : Nat) : Int) * v
    rw [ih (fun i hi => h i (by omega)), h k (by omega), Int.natCast_add, Int.natCast_one, Int.add_mul]
    omega
/-- the sum of the counts of a range by the times of its events -/
theorem fs_dual (p q c s : Int) (hp : 1 ≤ p) (hq : 1 ≤ q) (n : Nat) :
    fs n p (p * s + c) q = n * ((p * (s - 1) + c) / q) + ((p * (s + n - 1) + c) / q - (p * (s - 1) + c) / q) * (s + n) - fs ((p * (s + n - 1) + c) / q - (p * (s - 1) + c) / q).toNat q (q * ((p * (s - 1) + c) / q + 1) + (p - 1 - c)) p := by
  induction n with
  | zero =>
    rw [show s + ((0 : Nat) : Int) - 1 = s - 1 by omega, Int.sub_self]
    simp [fs]
  | succ n ih =>
    show fs n p (p * s + c) q + (p * n + (p * s + c)) / q = _
    rw [ih]
    have e0 : p * (n : Int) + (p * s + c) = p * (s + ((n + 1 : Nat) : Int) - 1) + c := by
      rw [show s + ((n + 1 : Nat) : Int) - 1 = s + n by omega, Int.mul_add]
      omega
    rw [e0]
    have m1 : (p * (s - 1) + c) / q ≤ (p * (s + n - 1) + c) / q := ct_mono (by omega) hq (by omega)
    have m2 : (p * (s + n - 1) + c) / q ≤ (p * (s + ((n + 1 : Nat) : Int) - 1) + c) / q := ct_mono (by omega) hq (by omega)
    have key : ∀ i : Nat, (i : Int) < (p * (s + ((n + 1 : Nat) : Int) - 1) + c) / q - (p * (s + n - 1) + c) / q → (q * ((p * (s + n - 1) + c) / q + 1 + i) + (p - 1 - c)) / p = s + n := fun i hi => by
      apply ev_at hp hq
      · show (p * (s + n - 1) + c) / q < _
        omega
      · rw [show s + (n : Int) = s + ((n + 1 : Nat) : Int) - 1 by omega] at *
        omega
    generalize hl : (p * (s - 1) + c) / q = low at *
    generalize hh : (p * (s + n - 1) + c) / q = hi at *
    generalize hh2 : (p * (s + ((n + 1 : Nat) : Int) - 1) + c) / q = hi2 at *
    rw [show (hi2 - low).toNat = (hi - low).toNat + (hi2 - hi).toNat by omega, fs_add, show ((hi - low).toNat : Int) = hi - low by omega]
    have fc := fs_const (hi2 - hi).toNat q (q * (hi - low) + (q * (low + 1) + (p - 1 - c))) p (s + n) (fun i h => by
      have := key i (by omega)
      rw [show q * (i : Int) + (q * (hi - low) + (q * (low + 1) + (p - 1 - c))) = q * (hi + 1 + i) + (p - 1 - c) by
        have : q * (hi + 1 + i) = q * i + q * (hi - low) + q * (low + 1) := by rw [← Int.mul_add, ← Int.mul_add]; congr 1; omega
        omega]
      exact this)
    rw [fc, show ((hi2 - hi).toNat : Int) = hi2 - hi by omega]
    rw [show s + ((n + 1 : Nat) : Int) = s + n + 1 by omega, show ((n + 1 : Nat) : Int) = n + 1 by omega]
    generalize s + (n : Int) = x
    have e3 : (hi2 - low) * (x + 1) = hi2 * x - low * x + hi2 - low := by rw [Int.mul_add, Int.sub_mul]; omega
    have e4 : (hi - low) * x = hi * x - low * x := by rw [Int.sub_mul]
    have e5 : (hi2 - hi) * x = hi2 * x - hi * x := by rw [Int.sub_mul]
    have e6 : ((n : Int) + 1) * low = n * low + low := by rw [Int.add_mul, Int.one_mul]
    rw [e3, e4, e5, e6]
    omega
theorem ct_fast {p q c s : Int} (hq : 1 ≤ q) (h : q ≤ p) (n : Nat) : (n : Int) ≤ (p * (s + n) + c) / q - (p * s + c) / q := by
  induction n with
  | zero => simp
  | succ n ih =>
    have : (p * (s + n) + c) / q + 1 ≤ (p * (s + ((n + 1 : Nat) : Int)) + c) / q := by
      have e := div_shift (p * (s + n) + c) 1 q (by omega)
      rw [← e]
      apply Int.ediv_le_ediv (by omega)
      rw [show s + ((n + 1 : Nat) : Int) = s + n + 1 by omega, Int.mul_add p (s + n) 1]
      omega
    omega
theorem ct_slow {p q c s : Int} (hq : 1 ≤ q) (h : p ≤ q) (n : Nat) : (p * (s + n) + c) / q - (p * s + c) / q ≤ n := by
  induction n with
  | zero => simp
  | succ n ih =>
    have : (p * (s + ((n + 1 : Nat) : Int)) + c) / q ≤ (p * (s + n) + c) / q + 1 := by
      have e := div_shift (p * (s + n) + c) 1 q (by omega)
      rw [← e]
      apply Int.ediv_le_ediv (by omega)
      rw [show s + ((n + 1 : Nat) : Int) = s + n + 1 by omega, Int.mul_add p (s + n) 1]
      omega
    omega
end Lf

namespace Lf
open PySem PySem.Spec PyProof.Rows L2
def topS (i : Nat) : Stmt := PySem.Challenge.pw_leapfit_k50_pins_checked.main.body.getD i (.Pass ⟨0, 0, 0, 0⟩)
/-! ### heaps -/
theorem len10 {n : Nat} (h : n ≤ 1000) : n ≤ sizeLine := Nat.le_of_lt (small1000 h)
def penD (l : Addr) (t r : Int) : List (Key × V) := [(Sum.inr "cells", .ref l), (Sum.inr "spot", .int t), (Sum.inr "more", .int r)]
/-- all but the source's own dict stays -/
structure Fr (H H' : Hp) : Prop where
  k : ∀ b o, H b = some o → (∀ x : Addr × Int × Int, o ≠ .dK (penD x.1 x.2.1 x.2.2)) → H' b = some o
theorem Fr.t {H H' : Hp} (f : Fr H H') (b : Addr) (xs : List V) (h : H b = some (.tup xs)) : H' b = some (.tup xs) := f.k b _ h fun _ z => by cases z
theorem Fr.l {H H' : Hp} (f : Fr H H') (b : Addr) (xs : List V) (h : H b = some (.lst xs)) : H' b = some (.lst xs) := f.k b _ h fun _ z => by cases z
theorem Fr.refl (H : Hp) : Fr H H := ⟨fun _ _ h _ => h⟩
theorem Fr.trans {H H1 H2 : Hp} (a : Fr H H1) (b : Fr H1 H2) : Fr H H2 := ⟨fun c o h n => b.k c o (a.k c o h n) n⟩
theorem Fr.same {H H1 : Hp} (a : Same H H1) : Fr H H1 := ⟨fun c o h _ => a c _ h⟩
theorem sm_upd {H : Hp} {p : Addr} {o : HO} (h : H p = none) : Same H (upd H p o) := fun b x e => by
  rw [upd_ne (ne_of_none e h)]
  exact e
theorem Fr.new {H : Hp} {p : Addr} {o : HO} (h : H p = none) : Fr H (upd H p o) := Fr.same (sm_upd h)
theorem Fr.dict {H : Hp} {p l : Addr} {t r : Int} {o : HO} (h : H p = some (.dK (penD l t r))) : Fr H (upd H p o) :=
  ⟨fun b o e n => by rw [upd_ne (ne_of e h (n (l, t, r)))]; exact e⟩
theorem Fr.d0 {H H' : Hp} (f : Fr H H') (b : Addr) (h : H b = some (.dK [])) : H' b = some (.dK []) := f.k b _ h fun _ z => by cases z
/-! ### the source of numbers -/
theorem sct : ¬ ("cells" : Str) = "spot" := by decide +kernel
theorem scr : ¬ ("cells" : Str) = "more" := by decide +kernel
theorem str_ : ¬ ("spot" : Str) = "more" := by decide +kernel
theorem srt : ¬ ("more" : Str) = "spot" := by decide +kernel
theorem kct : ¬ (Sum.inr ("cells" : Str) : Key) = Sum.inr ("spot" : Str) := fun h => sct (Sum.inr.inj h)
theorem kcr : ¬ (Sum.inr ("cells" : Str) : Key) = Sum.inr ("more" : Str) := fun h => scr (Sum.inr.inj h)
theorem ktr : ¬ (Sum.inr ("spot" : Str) : Key) = Sum.inr ("more" : Str) := fun h => str_ (Sum.inr.inj h)
theorem krt : ¬ (Sum.inr ("more" : Str) : Key) = Sum.inr ("spot" : Str) := fun h => srt (Sum.inr.inj h)
theorem dg_rest {H : Hp} {a l : Addr} {t r : Int} (h : H a = some (.dK (penD l t r))) : DGet H a (.str "more") (some (.int r)) := by
  have e : valV (penD l t r) (Sum.inr "more" : Key) = some (.int r) := by
    unfold penD
    rw [valV_neg kcr, valV_neg ktr, valV_pos rfl]
  rw [← e]
  exact DGet.k (k := Sum.inr "more") h
theorem dg_turn {H : Hp} {a l : Addr} {t r : Int} (h : H a = some (.dK (penD l t r))) : DGet H a (.str "spot") (some (.int t)) := by
  have e : valV (penD l t r) (Sum.inr "spot" : Key) = some (.int t) := by
    unfold penD
    rw [valV_neg kct, valV_pos rfl]
  rw [← e]
  exact DGet.k (k := Sum.inr "spot") h
theorem dg_cells {H : Hp} {a l : Addr} {t r : Int} (h : H a = some (.dK (penD l t r))) : DGet H a (.str "cells") (some (.ref l)) := by
  have e : valV (penD l t r) (Sum.inr "cells" : Key) = some (.ref l) := by
    unfold penD
    rw [valV_pos rfl]
  rw [← e]
  exact DGet.k (k := Sum.inr "cells") h
theorem dp_rest {H : Hp} {a l : Addr} {t r y : Int} (h : H a = some (.dK (penD l t r))) : DPut H a (.str "more") (.int y) (upd H a (.dK (penD l t y))) := by
  have e : putK (penD l t r) (Sum.inr "more" : Key) (.int y) = penD l t y := by
    simp [putK, penD, scr, str_]
  rw [← e]
  exact DPut.k (k := Sum.inr "more") h (by show 3 < sizeLine; exact small1000 (by decide))
theorem dp_turn {H : Hp} {a l : Addr} {t r y : Int} (h : H a = some (.dK (penD l t r))) : DPut H a (.str "spot") (.int y) (upd H a (.dK (penD l y r))) := by
  have e : putK (penD l t r) (Sum.inr "spot" : Key) (.int y) = penD l y r := by
    simp [putK, penD, sct, srt]
  rw [← e]
  exact DPut.k (k := Sum.inr "spot") h (by show 3 < sizeLine; exact small1000 (by decide))
/-- where the source stands: its dict, its list of cells -/
structure PA where
  d : Addr
  l : Addr
instance : Coe PA Addr := ⟨PA.d⟩
structure Pen (H : Hp) (a : PA) (n : Nat) : Prop where
  ex : ∃ (cs : List Int) (t r : Int), H a.d = some (.dK (penD a.l t r)) ∧ H a.l = some (.lst (cs.map V.int)) ∧ cs.length ≤ 63 ∧ 0 ≤ t ∧ t ≤ n ∧ 0 ≤ r
theorem Pen.same {H H' : Hp} {a : PA} {n : Nat} (p : Pen H a n) (s : Same H H') : Pen H' a n := by
  obtain ⟨cs, t, r, h1, h2, h3⟩ := p.ex
  exact ⟨cs, t, r, s _ _ h1, s _ _ h2, h3⟩
theorem Pen.new {H : Hp} {a : PA} {p : Addr} {n : Nat} {o : HO} (q : Pen H a n) (h : H p = none) : Pen (upd H p o) a n := q.same (sm_upd h)
theorem Pen.mono {H : Hp} {a : PA} {n m : Nat} (p : Pen H a n) (h : n ≤ m) : Pen H a m := by
  obtain ⟨cs, t, r, h1, h2, h3, h4, h5, h6⟩ := p.ex
  exact ⟨cs, t, r, h1, h2, h3, h4, by omega, h6⟩
theorem Pen.put {H : Hp} {a l : Addr} {cs : List Int} {t r : Int} {n : Nat} {kvs : List (Key × V)} (ha : H a = some (.dK kvs)) (hl : H l = some (.lst (cs.map V.int))) (h1 : cs.length ≤ 63) (h2 : 0 ≤ t) (h3 : t ≤ n) (h4 : 0 ≤ r) :
    Pen (upd H a (.dK (penD l t r))) ⟨a, l⟩ n :=
  ⟨cs, t, r, upd_same, by show upd H a _ l = _; rw [upd_ne (ne_of hl ha (by intro z; cases z))]; exact hl, h1, h2, h3, h4⟩
/-- an address that was free when the source stood already -/
theorem Pen.over {H H' : Hp} {a : PA} {L : Addr} {n m : Nat} {o : HO} (p0 : Pen H a m) (hL : H L = none) (p : Pen H' a n) : Pen (upd H' L o) a n := by
  obtain ⟨_, _, _, g1, g2, _⟩ := p0.ex
  obtain ⟨cs, t, r, h1, h2, h3⟩ := p.ex
  exact ⟨cs, t, r, by rw [upd_ne (ne_of_none g1 hL)]; exact h1, by rw [upd_ne (ne_of_none g2 hL)]; exact h2, h3⟩
theorem Fr.over {H H' : Hp} {L : Addr} {o : HO} (f : Fr H H') (hL : H L = none) : Fr H (upd H' L o) :=
  ⟨fun b o e n => by rw [upd_ne (ne_of_none e hL)]; exact f.k _ _ e n⟩
/-! ### defs by their names -/
def Df (K : PySem.W.Frag) (mg : Str → Option Value) (x : Str) (st : Stmt) (ps : List Str) : Prop := ∃ f fd, Fun K x x st f fd ∧ mg x = some (.ref f) ∧ Binds K fd ps []
structure Bi (mg : Str → Option Value) : Prop where
  len_ : mg "len" = none
  abs_ : mg "abs" = none
  list_ : mg "list" = none
  range_ : mg "range" = none
  sum_ : mg "sum" = none
  repr_ : mg "repr" = none
  max_ : mg "max" = none
  min_ : mg "min" = none
  reversed_ : mg "reversed" = none
  divmod_ : mg "divmod" = none
  isinstance_ : mg "isinstance" = none
  all_ : mg "all" = none
  int_ : mg "int" = none
  bool_ : mg "bool" = none
  tuple_ : mg "tuple" = none
  sorted_ : mg "sorted" = none
  zip_ : mg "zip" = none
  enumerate_ : mg "enumerate" = none
  set_ : mg "set" = none
  str_ : mg "str" = none
theorem bt_len : bootBuiltins ("len" : Str) = Option.some (Value.builtin "len") := by decide +kernel
theorem bt_abs : bootBuiltins ("abs" : Str) = Option.some (Value.builtin "abs") := by decide +kernel
theorem bt_sum : bootBuiltins ("sum" : Str) = Option.some (Value.builtin "sum") := by decide +kernel
theorem bt_repr : bootBuiltins ("repr" : Str) = Option.some (Value.builtin "repr") := by decide +kernel
theorem bt_max : bootBuiltins ("max" : Str) = Option.some (Value.builtin "max") := by decide +kernel
theorem bt_min : bootBuiltins ("min" : Str) = Option.some (Value.builtin "min") := by decide +kernel
theorem bt_divmod : bootBuiltins ("divmod" : Str) = Option.some (Value.builtin "divmod") := by decide +kernel
theorem bt_isinstance : bootBuiltins ("isinstance" : Str) = Option.some (Value.builtin "isinstance") := by decide +kernel
theorem bt_all : bootBuiltins ("all" : Str) = Option.some (Value.builtin "all") := by decide +kernel
theorem bt_set : bootBuiltins ("set" : Str) = Option.some (Value.type "set") := by decide +kernel
theorem bt_str : bootBuiltins ("str" : Str) = Option.some (Value.type "str") := by decide +kernel
theorem bt_sorted : bootBuiltins ("sorted" : Str) = Option.some (Value.builtin "sorted") := by decide +kernel
theorem bt_list : bootBuiltins ("list" : Str) = Option.some (Value.type "list") := by decide +kernel
theorem bt_int : bootBuiltins ("int" : Str) = Option.some (Value.type "int") := by decide +kernel
theorem bt_bool : bootBuiltins ("bool" : Str) = Option.some (Value.type "bool") := by decide +kernel
theorem bt_tuple : bootBuiltins ("tuple" : Str) = Option.some (Value.type "tuple") := by decide +kernel
section
variable {P : Program} {w : World} {K : PySem.W.Frag} {mg : Str → Option Value} {base : Heap}
theorem cal_of {x : Str} {st : Stmt} {N ps : List Str} {k : Nat} {sp : Sp} (D : Df K mg x st ps) (S : FnScope N ps (defScope st)) (len : ∀ vs H Q E, sp vs H Q E → vs.length = ps.length)
    (hb : ∀ (f : Addr) (cdv : Value) (A : Around) (outer : List Env) (s : Shared) (H : Hp) (vs : List V) (Q : VK) (E : XK), Room k (A.deeper (envOfC x (defScope st) s.heap.objs.size f cdv)) → sp vs H Q E →
      ∃ t, PSs (cxOf CX0 P w K mg base N x (defScope st) f cdv A outer s H E).nox (defBody st) t ∧ t { nx := fun _ H' => Q .non H', rt := Q } (start N vs) H) : C8.Cal P w K mg base (k + 1) x sp [] := by
  obtain ⟨f, fd, F, hm, b⟩ := D
  exact ⟨⟨f, fd, ps, [], F.ok S len (fun cdv A outer s H vs Q E hr h => hb f cdv A outer s H vs Q E hr h), hm, F.kp, b, .nil⟩⟩
/-- the same, its own row known (for calls with keywords) -/
def CalF (P : Program) (w : World) (K : PySem.W.Frag) (mg : Str → Option Value) (base : Heap) (k : Nat) (x : Str) (st : Stmt) (ps : List Str) (sp : Sp) : Prop :=
  ∃ f fd, Fun K x x st f fd ∧ mg x = some (.ref f) ∧ FnOk P w K mg base CX0 k f fd ps sp ∧ Binds K fd ps []
theorem calF_of {x : Str} {st : Stmt} {N ps : List Str} {k : Nat} {sp : Sp} (D : Df K mg x st ps) (S : FnScope N ps (defScope st)) (len : ∀ vs H Q E, sp vs H Q E → vs.length = ps.length)
    (hb : ∀ (f : Addr) (cdv : Value) (A : Around) (outer : List Env) (s : Shared) (H : Hp) (vs : List V) (Q : VK) (E : XK), Room k (A.deeper (envOfC x (defScope st) s.heap.objs.size f cdv)) → sp vs H Q E →
      ∃ t, PSs (cxOf CX0 P w K mg base N x (defScope st) f cdv A outer s H E).nox (defBody st) t ∧ t { nx := fun _ H' => Q .non H', rt := Q } (start N vs) H) : CalF P w K mg base (k + 1) x st ps sp := by
  obtain ⟨f, fd, F, hm, b⟩ := D
  exact ⟨f, fd, F, hm, F.ok S len (fun cdv A outer s H vs Q E hr h => hb f cdv A outer s H vs Q E hr h), b⟩
theorem CalF.cal {x : Str} {st : Stmt} {ps : List Str} {k : Nat} {sp : Sp} (c : CalF P w K mg base k x st ps sp) : C8.Cal P w K mg base k x sp [] := by
  obtain ⟨f, fd, F, hm, G, b⟩ := c
  exact ⟨⟨f, fd, ps, [], G, hm, F.kp, b, .nil⟩⟩
/-! ### _law_pen -/
theorem cut_ints (ns : List Int) : ∃ cs : List Int, cutV (ns.map V.int) none (some 63) = cs.map V.int ∧ cs.length ≤ 63 := by
  refine ⟨ns.take 63, ?_, by rw [List.length_take]; omega⟩
  unfold cutV
  rw [HT.sIx_none, show HT.sIx (ns.map V.int).length (ns.map V.int).length (some 63) = min 63 (ns.map V.int).length from HT.sIx_nat _ _ 63]
  rw [List.drop_zero, Nat.sub_zero, List.map_take, List.length_map]
  by_cases h : 63 ≤ ns.length
  · rw [Nat.min_eq_left h]
  · rw [Nat.min_eq_right (by omega), List.take_of_length_le (by rw [List.length_map]; omega), List.take_of_length_le (by rw [List.length_map]; omega)]
def spPen (K : PySem.W.Frag) : Sp := fun vs H Q _ => ∃ (s : Addr) (ns : List Int), vs = [.ref s] ∧ SqL K H s (ns.map V.int) ∧ ∀ (a : PA) H', Pen H' a 0 → Same H H' → Q (.ref a) H'
abbrev s_l_pen : Stmt := topS 42
abbrev N_l_pen : List Str := ["_law_script"]
abbrev P_l_pen : List Str := ["_law_script"]
theorem sc_l_pen : FnScope N_l_pen P_l_pen (defScope s_l_pen) := ⟨rfl, rfl, rfl, by decide +kernel, rfl, by decide +kernel, by decide +kernel⟩
theorem ok_l_pen (D : Df K mg "_law_pen" s_l_pen P_l_pen) (B : Bi mg) : C8.Cal P w K mg base 1 "_law_pen" (spPen K) [] := by
  refine cal_of D sc_l_pen (fun vs H Q E h => ?_) (fun f cdv A outer s H vs Q E hr h => ?_)
  · obtain ⟨a, ns, rfl, _⟩ := h
    rfl
  · obtain ⟨a, ns, rfl, hS, q⟩ := h
    refine ⟨_, (pss_one (ps_ret (pe_disp (pps_cons pe_str (pe_callTy (call_list_of) (by rfl) B.list_ bt_list (pa_cons (pe_slice sl_list (pv 0) po_none (po_some pe_int)) pa_nil)) (pps_cons pe_str pe_int (pps_cons pe_str pe_int pps_nil))) (by rfl) (by rfl) (fun z => by cases z) (by decide)))), ?_⟩
    refine fun p np => ?_
    have s1 : Same H (upd H p (.dK [])) := sm_upd np
    refine ⟨_, rfl, 63, rfl, a, _, rfl, s1.seq hS, fun c nc => ?_⟩
    obtain ⟨cs, ec, hc⟩ := cut_ints ns
    rw [ec]
    refine ⟨c, _, rfl, .inl (SqL.of upd_same), fun l nl => ?_⟩
    have ncp : p ≠ c := ne_of_none upd_same nc
    have nlc : c ≠ l := ne_of_none upd_same nl
    have nlp : p ≠ l := ne_of_none (by rw [upd_ne ncp]; exact upd_same) nl
    refine ⟨by rw [upd_ne nlp, upd_ne ncp, upd_same], penD l 0 0, rfl, by show 3 ≤ 15; decide, ?_⟩
    have e : mergeK [] (penD l 0 0) = penD l 0 0 := by
      simp [mergeK, penD, putK, sct, scr, str_]
    rw [e]
    refine q ⟨p, l⟩ _ ⟨cs, 0, 0, upd_same, ?_, hc, by omega, by omega, by omega⟩ ?_
    · show upd _ p _ l = _
      rw [upd_ne nlp.symm, upd_same]
    · intro b o eb
      have nb : b ≠ p := ne_of_none eb np
      have nb2 : b ≠ c := ne_of_none (s1 _ _ eb) nc
      have nb3 : b ≠ l := ne_of_none (sm_upd nc _ _ (s1 _ _ eb)) nl
      rw [upd_ne nb, upd_ne nb3, upd_ne nb2, upd_ne nb]
      exact eb
end
end Lf
namespace Lf
open PySem PySem.Spec PyProof.Rows L2
/-! ### a try that catches, and keeps the exception in a name -/
abbrev dead : Ends := { nx := fun _ _ => False, rt := fun _ _ => False }
/-- the wish: the clause's class; then the suite; then, with the exception known, what follows -/
def wKeep (K : PySem.W.Frag) (c : Value) (i : Nat) (ts : Addr → TS) (go : Addr → Value → Option Addr → L2.St → Hp → Prop) : WX := fun cls d σ H =>
  PySem.W.exmOne K cls c = some true ∧ ∀ a, H a = none → ts a { nx := fun σ' H' => go a cls d (σ'.set i none) H', rt := fun _ _ => False } (σ.set i (some (.ref a))) H
/-- slots are as many as names -/
theorem takes_len {X : Cx} {W : WX} (t : Takes X W) : Takes X (fun cls d σ H => σ.length = X.N.length → W cls d σ H) := fun u s' ⟨a, B, sI, pins, σ, H, cls, d, e, I, nb, up, sky, na, os, ag, ww⟩ =>
  t u s' ⟨a, B, sI, pins, σ, H, cls, d, e, I, nb, up, sky, na, os, ag, ww I.len⟩
section
variable {X : Cx} {pins : List (Addr × Obj)} {σ : L2.St} {H : Hp} {s : Shared}
/-- an exception's object, known from now on -/
theorem pin_in (J : Inv X pins σ H s) {a : Addr} {oe : Obj} {vs : Array Value} (ge : s.heap.get? a = some oe) (dt : oe.data = .fields vs) (na : H a = none) (n1 : a ≠ X.env.locals) (n2 : a ∉ X.fs) : Inv (X.tr ((a, oe) :: (X.pn ++ pins)) X.xe) [] σ H s := by
  refine ⟨J.ok.toTry _ _, J.os, J.bare, J.base, J.loc, J.cell, J.free, J.freeC, fun p hp => ?_, J.hok, J.len⟩
  rw [List.append_nil] at hp
  rcases List.mem_cons.mp hp with rfl | hp
  · refine ⟨ge, na, n1, n2, fun v z => ?_⟩
    have z : oe.data = .cell v := z
    rw [dt] at z
    cases z
  · exact J.pin p hp
theorem pin_out {a : Addr} {oe : Obj} {pn : List (Addr × Obj)} (ok : X.Ok) (J : Inv (X.tr ((a, oe) :: (X.pn ++ pins)) X.xe) pn σ H s) : Inv X pins σ H s :=
  ⟨ok, J.os, J.bare, J.base, J.loc, J.cell, J.free, J.freeC, fun p hp => J.pin p (List.mem_append.mpr (.inl (List.mem_cons_of_mem _ hp))), J.hok, J.len⟩
theorem out_suite {a : Addr} {oe : Obj} {pn : List (Addr × Obj)} (ok : X.Ok) (J : Inv (X.suite a ((a, oe) :: (X.pn ++ pins))) pn σ H s) : Inv (X.tr ((a, oe) :: (X.pn ++ pins)) X.xe) [] σ H s :=
  ⟨ok.toTry _ _, J.os, J.bare, J.base, J.loc, J.cell, J.free, J.freeC, fun p hp => J.pin p (List.mem_append.mpr (.inl (by rw [List.append_nil] at hp; exact hp))), J.hok, J.len⟩
end
section
variable {X : Cx} {x n : Str} {c : Value} {i : Nat} {body suite rest : List Stmt} {b0 : Stmt} {np po pq : Pos} {tb : WX → TS} {ts : Addr → TS} {tr : Addr → Value → Option Addr → TS}
theorem pss_keep (stk : X.stack = X.env :: X.outer) (fr : X.env.frame = some X.env.locals) (nd : X.N.Nodup) (ni : X.N[i]? = some n) (kn : X.env.kindOf n = some .local) (hc : Names X x c)
    (hb : ∀ (W : WX) (pn : List (Addr × Obj)) (xe : Value → Shared → Prop), Takes (X.tr pn xe) W → PSs (X.tr pn xe) body (tb W))
    (hsu : ∀ (a : Addr) (oe : Obj) (pn : List (Addr × Obj)), PSs (X.suite a ((a, oe) :: pn)) (b0 :: suite) (ts a))
    (hre : ∀ (a : Addr) (oe : Obj) (cls : Value) (d : Option Addr) (pn : List (Addr × Obj)), Zc cls d oe → (∃ vs, oe.data = .fields vs) → PSs (X.tr ((a, oe) :: pn) X.xe) rest (tr a cls d)) :
    PSs X (.Try body [.ExceptHandler (some (.Name x np)) (some n) (b0 :: suite) pq] [] [] po :: rest) (fun D σ H => tb (wKeep X.K c i ts (fun a cls d σ' H' => tr a cls d D σ' H')) dead σ H) := by
  refine ⟨fun pins s σ H D I h => wpAny_execs_cons (wpAny_Try_except ?_)⟩
  have ok := I.ok
  have frm : X.A.frames = some (X.env :: X.outer) := by rw [ok.frames, stk]
  refine wpAny_mono ((hb (wKeep X.K c i ts (fun a cls d σ' H' => tr a cls d D σ' H')) (X.pn ++ pins) _ (fun u s' air => ?_)).run [] s σ H dead (I.toTry _) h) (fun f s1 z => ?_) (fun e s1 he => he)
  · obtain ⟨a, B, sI, pins', σ1, H1, cls, d, rfl, J0, nb, up, sky, na, os, ag, em, go⟩ := air
    have J : Inv X pins σ1 H1 sI := J0.ofTry ok
    rw [stk] at sky
    refine Sky.land Zc.steady frm fr sky fun h3 f3 u3 => ?_
    have J3 : Inv X pins σ1 H1 { s' with heap := h3 } := J.landed nb f3.1 (up.trans u3) os ag
    obtain ⟨o3, v3, g3, z3, d3⟩ := f3.there
    have nf : a ∉ frs (X.env :: X.outer) := fun hm => by
      obtain ⟨_, o', e', hn⟩ := f3.2.2.1.mem hm
      rw [g3] at e'
      cases e'
      exact hn _ d3
    have n1 : a ≠ X.env.locals := fun z => nf (List.mem_filterMap.mpr ⟨X.env, List.mem_cons_self, by rw [fr, z]⟩)
    have n2 : a ∉ X.fs := fun hm => by
      obtain ⟨e, he, q⟩ := List.mem_filterMap.mp hm
      exact nf (List.mem_filterMap.mpr ⟨e, List.mem_cons_of_mem _ he, q⟩)
    have S3 := J3.suite g3 d3 na n1 n2
    refine wpAny_handleBy_cons (codeAny_handlers_test ?_) (by intro q; cases q)
    have lt : PySem.W.Looks (model X.prog X.w) h3 (typeOf (.ref a)) cls := fun A Q E s k q => wpAny_typeOf_ref (k _ _ g3) (by rw [z3.1]; exact q)
    have lm := PySem.W.exm_one (M := model X.prog X.w) J3.kIn lt em
    have seen : ∀ {Q : Value → Shared → Prop} {E : Value → Shared → Prop}, Q c { s' with heap := h3 } → wpAny (model X.prog X.w) (X.A.mark (some (.ref a))) (eval (.Name x np) X.env) Q E { s' with heap := h3 } := fun {Q E} q => by
      obtain ⟨hg, hd, hm | ⟨hm, hv, hw⟩⟩ := hc
      · exact ld_glob S3 hg hm q hd
      · exact ld_blt S3 hg hm hv q hw hd
    refine seen (lm.here (codeAny_handlers_suite_as (HandSPX.lands_againZ f3 fun h4 f4 u4 => ?_)))
    have J4 : Inv X pins σ1 H1 { s' with heap := h4 } := J.landed nb f4.1 ((up.trans u3).trans u4) os ag
    obtain ⟨o4, v4, g4, z4, d4⟩ := f4.there
    have S4 := J4.suite g4 d4 na n1 n2
    refine store_ok (X := X.suite a ((a, o4) :: (X.pn ++ pins))) (v := .ref a) S4 nd ni (.inl kn) rfl (fun s5 S5 => ?_) (.inr kn)
    refine wpAny_mono ((hsu a o4 (X.pn ++ pins)).run [] s5 _ H1 _ S5 (go a na)) (fun f s6 q => ?_) (fun _ _ z => False.elim z)
    cases f with
    | next =>
      obtain ⟨σ6, H6, S6, q6⟩ := q
      refine gone_ok (X := X.tr ((a, o4) :: (X.pn ++ pins)) X.xe) (out_suite ok S6) nd ni kn fun s7 J7 => ?_
      refine wpAny_mono ((hre a o4 cls d (X.pn ++ pins) z4 ⟨_, d4⟩).run [] s7 _ H6 D J7 q6) (fun f s8 r => ?_) (fun _ _ z => z)
      cases f with
      | next =>
        obtain ⟨σ8, H8, J8, q8⟩ := r
        exact ⟨σ8, H8, pin_out ok J8, q8⟩
      | brk =>
        obtain ⟨σ8, H8, J8, q8⟩ := r
        exact ⟨σ8, H8, pin_out ok J8, q8⟩
      | cont =>
        obtain ⟨σ8, H8, J8, q8⟩ := r
        exact ⟨σ8, H8, pin_out ok J8, q8⟩
      | ret u =>
        obtain ⟨v8, σ8, H8, J8, r8, q8⟩ := r
        exact ⟨v8, σ8, H8, pin_out ok J8, r8, q8⟩
    | brk =>
      obtain ⟨_, _, _, q6⟩ := q
      exact False.elim q6
    | cont =>
      obtain ⟨_, _, _, q6⟩ := q
      exact False.elim q6
    | ret u =>
      obtain ⟨_, _, _, _, _, q6⟩ := q
      exact False.elim q6
  · cases f with
    | next =>
      obtain ⟨_, _, _, q6⟩ := z
      exact False.elim q6
    | brk =>
      obtain ⟨_, _, _, q6⟩ := z
      exact False.elim q6
    | cont =>
      obtain ⟨_, _, _, q6⟩ := z
      exact False.elim q6
    | ret u =>
      obtain ⟨_, _, _, _, _, q6⟩ := z
      exact False.elim q6
end
/-! ### isinstance of a known exception -/
/-- by one class, or by a tuple of classes -/
def rIsK (K : PySem.W.Frag) (D a : Addr) : List V → Hp → VK → Prop := fun xs H Q => ∃ (y : V) (b : Bool), xs = [.ref a, y] ∧ Q (.bl b) H ∧
  ((∃ cv, (∀ u, RelV y u → u = cv) ∧ PySem.W.kitOne K (.ref D) cv = some b) ∨ ∃ (tp : Addr) (cs : List Addr), y = .ref tp ∧ SqT K H tp (cs.map V.ref) ∧ PySem.W.kitAny K (.ref D) (cs.map Value.ref) = some b)
theorem vals_refs : ∀ {cs : List Addr} {us : List Value}, Vals (cs.map V.ref) us → us = cs.map Value.ref
  | [], _, r => by cases r; rfl
  | c :: cs, _, r => by
    cases r with
    | cons r1 r2 =>
      rw [vals_refs r2]
      cases r1
      rfl
theorem call_isK {X : Cx} {a D : Addr} {oe : Obj} {pn : List (Addr × Obj)} {xe : Value → Shared → Prop} (C : ExcC X.K D) (hz : Zc (.ref D) none oe) (hf : ∃ vs, oe.data = .fields vs) : CallR (X.tr ((a, oe) :: pn) xe) (.builtin "isinstance") (rIsK X.K D a) := by
  intro pins s σ H xs us Q I r h
  obtain ⟨y, b, rfl, q, h⟩ := h
  cases r with
  | cons rx rr =>
    cases rr with
    | cons rt rr =>
      cases rr
      cases rx
      obtain ⟨ge, _⟩ := I.pin (a, oe) (List.mem_append.mpr (.inl List.mem_cons_self))
      obtain ⟨vs, hv⟩ := hf
      have J : PySem.W.InstAt s.heap a oe D none := by
        obtain ⟨oc, od, oda, osl⟩ := oe
        obtain ⟨h1, h2⟩ := hz
        dsimp only at h1 h2 hv
        subst h1 h2 hv
        exact ⟨ge, rfl, rfl, trivial⟩
      have kx := PySem.W.handS_kitx_exc (x := a) (ox := oe) C.hg C.hk C.hs C.hd C.ha C.hn C.ht C.hm
      rcases h with ⟨cv, hcv, e⟩ | ⟨tp, cs, rfl, hT, e⟩
      · have ec := hcv _ rt
        subst ec
        exact PySem.W.kia_one kx I.kIn J e (fun z => nomatch z) fun tk => ⟨.bl b, H, I.kept (t' := tk) fun _ _ z => z, rfl, q⟩
      · obtain ⟨its, rv, ⟨o, e1, e2, nn, e3⟩, _⟩ := I.tuple hT
        have ei := vals_refs rv
        subst ei
        cases rt
        obtain ⟨oc, od, oda, osl⟩ := o
        dsimp only at e2 e3
        subst e2 e3
        exact PySem.W.kia_tup kx I.kIn J e1 e (fun z => nomatch z) fun tk => ⟨.bl b, H, I.kept (t' := tk) fun _ _ z => z, rfl, q⟩
/-! ### an own exception without arguments, made -/
theorem pmk_none {X : Cx} {C : Addr} {bmB : List Value} {B newId initId : String} {x : Str} {p po : Pos} (F : ExcBaseFacts B newId initId bmB) (q : PySem.W.excIn X.K C bmB newId = true) (gC : X.mg x = some (.ref C)) (kC : PySem.W.keepIn X.K (.ref C) = true) (r : Raises X (.ref C)) (hg : Gl X x)
    (hdb : (x == ("__debug__" : Str)) = false := by decide) : PMk X (.Call (.Name x p) [] [] po) (fun _ H Q => Q (.ref C) none H) := by
  intro pins s σ H Q I h
  refine wpAny_Call_Name_kw (ld_glob I hg gC ?_ hdb)
  refine PySem.W.callWith_K0 I.kIn kC ?_
  show wpAny _ _ (call (.ref C) []) _ _ _
  obtain ⟨bm, N, nm, qn, bs, hdct, sn, sub, ab, col, dd, k0, k1, k2, k3, k5, mN, hC, hN, hni, T⟩ := exc_obj I.kIn q
  refine wpAny_call_exc_subT F T hC hN hni (fun h' e hm => ?_) (by show 0 ≤ sizeLine; omega)
  exact mk_of I hm r h (I.hok.gone hm.new)
/-! ### what the top tells of the class NoEvents, at C, and of the classes beside it -/
structure NoEv (K : PySem.W.Frag) (mg : Str → Option Value) (C : Addr) : Prop where
  gC : mg "NoEvents" = some (.ref C)
  kC : PySem.W.keepIn K (.ref C) = true
  xi : PySem.W.excIn K C [.type "ValueError", .type "Exception", .type "BaseException", .type "object"] "ValueError.__new__" = true
  ex : ExcC K C
  ty : PySem.W.typeIn K (.ref C) = some (.type "type")
  sf : PySem.W.subIn K (.ref C) (.ref C) = some true
structure NoEvB (K : PySem.W.Frag) (mg : Str → Option Value) (C L N R E I : Addr) : Prop where
  gL : mg "LeapfitError" = some (.ref L)
  gN : mg "InvalidNumber" = some (.ref N)
  gR : mg "InvalidRule" = some (.ref R)
  gE : mg "NoRule" = some (.ref E)
  gI : mg "InvalidCounts" = some (.ref I)
  bV : mg "ValueError" = none
  oL : PySem.W.kitOne K (.ref C) (.ref L) = some true
  oV : PySem.W.kitOne K (.ref C) (.type "ValueError") = some true
  oN : PySem.W.kitAny K (.ref C) [.ref N, .ref R, .ref E, .ref I] = some false
theorem NoEv.raises {X : Cx} {C : Addr} (T : NoEv X.K X.mg C) : Raises X (.ref C) := raises_own T.ex.hs T.ty
theorem NoEv.meets {K : PySem.W.Frag} {mg : Str → Option Value} {C : Addr} (T : NoEv K mg C) : PySem.W.exmOne K (.ref C) (.ref C) = some true := PySem.W.exm_ref T.ex.hs T.ex.hd T.ty T.sf
/-- a def that raises, by its name -/
def CalX (P : Program) (w : World) (K : PySem.W.Frag) (mg : Str → Option Value) (base : Heap) (k : Nat) (x : Str) (sp : Sp) : Prop :=
  ∃ f fd ps, FnOk P w K mg base (L2.CX P w) k f fd ps sp ∧ mg x = some (.ref f) ∧ PySem.W.keepIn K (.ref f) = true ∧ Binds K fd ps []
theorem calx_of {P : Program} {w : World} {K : PySem.W.Frag} {mg : Str → Option Value} {base : Heap} {x : Str} {st : Stmt} {N ps : List Str} {k : Nat} {sp : Sp} (D : Df K mg x st ps) (S : FnScope N ps (defScope st)) (len : ∀ vs H Q E, sp vs H Q E → vs.length = ps.length)
    (hb : ∀ (f : Addr) (cdv : Value) (A : Around) (outer : List Env) (s : Shared) (H : Hp) (vs : List V) (Q : VK) (E : XK), Room k (A.deeper (envOfC x (defScope st) s.heap.objs.size f cdv)) → sp vs H Q E →
      ∃ t, PSs (cxOf (L2.CX P w) P w K mg base N x (defScope st) f cdv A outer s H E) (defBody st) t ∧ t { nx := fun _ H' => Q .non H', rt := Q } (start N vs) H) : CalX P w K mg base (k + 1) x sp := by
  obtain ⟨f, fd, F, hm, b⟩ := D
  exact ⟨f, fd, ps, F.okX S len (fun cdv A outer s H vs Q E hr h => hb f cdv A outer s H vs Q E hr h), hm, F.kp, b⟩
section
variable {X : Cx} {x : Str} {sp : Sp} {W : WX} {j k : Nat} {e : Expr} {es : List Expr} {t : TA} {p po : Pos}
/-- it is called where what it raises is taken -/
theorem pe_cx (c : CalX X.prog X.w X.K X.mg X.base k x sp) (hr : Room j X.A) (hk : k ≤ j) (tk : Takes X W) (hg : Gl X x) (ha : L2.PA X (e :: es) t)
    (hdb : (x == ("__debug__" : Str)) = false := by decide) (he : starEach (e :: es) X.env = (false, eval e X.env) :: starEach es X.env := by rfl) (hpl : (backTo po (starEach es X.env)).any (·.1) = false := by rfl) :
    PE X (.Call (.Name x p) (e :: es) [] po) (tCallS sp (WE W) t) := by
  obtain ⟨f, fd, ps, F, hm, kp, b⟩ := c
  exact pe_callS F (hr.mono hk) hg hm kp b (fun σ => passAt tk σ) ha hdb he hpl
end
end Lf
namespace Lf
open PySem PySem.Spec PyProof.Rows L2
/-! ### a def called where no repr is under way -/
structure FnG (P : Program) (w : World) (K : PySem.W.Frag) (mg : Str → Option Value) (base : Heap) (k : Nat) (f : Addr) (fd : FuncData) (ps : List Str) (sp : Sp) : Prop where
  lenG : ∀ vs H Q E, sp vs H Q E → vs.length = ps.length
  runG : ∀ (A : Around) (out : List Env) (sh : Shared) (H : Hp) (ar : Args) (us : List Value) (vs : List V) (Q : VK) (E : XK), Room k A → A.guards = some [] → Env0 P w K mg base A out sh H → BindsTo sh fd ar (ps.zip us) → Vals vs us → sp vs H Q E →
    codeAny (model P w) A (.call (.ref f) ar) (CR CX0 out P w H sh Q E) sh
theorem fnG_of {P : Program} {w : World} {K : PySem.W.Frag} {mg : Str → Option Value} {base : Heap} {x qual : Str} {st : Stmt} {f : Addr} {fd : FuncData} {N ps : List Str} {k : Nat} {sp : Sp} (F : Fun K x qual st f fd) (S : FnScope N ps (defScope st)) (ln : ∀ vs H Q E, sp vs H Q E → vs.length = ps.length)
    (bd : ∀ (cdv : Value) (A : Around) (out : List Env) (sh : Shared) (H : Hp) (vs : List V) (Q : VK) (E : XK), Room k (A.deeper (envOfC qual (defScope st) sh.heap.objs.size f cdv)) → A.guards = some [] → sp vs H Q E →
      ∃ t, PSs (cxOf CX0 P w K mg base N qual (defScope st) f cdv A out sh H E).nox (defBody st) t ∧ t { nx := fun _ H' => Q .non H', rt := Q } (start N vs) H) : FnG P w K mg base (k + 1) f fd ps sp := by
  obtain ⟨oc, od, kV, doc, pm, an, cdv, ct, osl, rfl, lkp, cin⟩ := F.ex
  refine ⟨ln, fun A out sh H ar us vs Q E rm gd en bnd rel pr => ?_⟩
  have lv := ln _ _ _ _ pr
  have inK : K.In sh.heap := en.mod.kin.keeps fun b o e => (en.bs b o e).1
  have nol : sh.heap.NoLimit := en.mod.nolimit.keeps fun b o e => (en.bs b o e).1
  have knd : ∀ y ∈ ps.zip us, (defScope st).names.lookup y.1 = some .local ∨ ((defScope st).names.lookup y.1 = some .cell ∧ ((cellsFrom (sh.heap.objs.size + 1) (defScope st).names []).lookup y.1).isSome = true) := fun ⟨n, v⟩ hy => by
    rcases S.par n (List.of_mem_zip hy).1 with z | z
    · exact .inl z
    · exact .inr ⟨z, PySem.W.cellsFrom_some _ _ _ (.inl z)⟩
  refine codeAny_call_function rm.depth (inK _ _ lkp) rfl S.co S.gen rfl (PySem.W.codeRec_of inK cin) (bnd _ _ _ _ ?_)
  refine wpAny_newFunctionEnv_cells S.kind knd fun env he sh1 x1 => ?_
  subst he
  refine ⟨nol.keeps x1.toInCall.keep, codeAny_func ?_⟩
  obtain ⟨t, ht, hq⟩ := bd cdv A out sh H vs Q E (rm.deeper _) gd pr
  have inv := inv_start (CX := CX0) (P := P) (w := w) (K := K) (mg := mg) (base := base) (E := E) (f := f) (cd := cdv) (qual := qual) S rm.hd en lv rel x1
  refine wpAny_mono (ht.nox.run [] sh1 (start N vs) H _ inv hq) (fun fl sh' hs => ?_) fun e sh' hs => hs
  cases fl with
  | ret u =>
    obtain ⟨v, σ', H', J, rv, z⟩ := hs
    exact ⟨v, H', J.os, J.bare, J.base, J.hok, rv, z⟩
  | next =>
    obtain ⟨σ', H', J, z⟩ := hs
    exact ⟨V.non, H', J.os, J.bare, J.base, J.hok, rfl, z⟩
  | brk =>
    obtain ⟨_, _, _, z⟩ := hs
    exact False.elim z
  | cont =>
    obtain ⟨_, _, _, z⟩ := hs
    exact False.elim z
/-- the law called, at the heap behind the top -/
theorem lawG {P : Program} {w : World} {K : PySem.W.Frag} {mg mb : Str → Option Value} {k : Nat} {fa ad : Addr} {fd : FuncData} {x : Str} {sp : Sp} {sh : Shared} {vs : List Value} {ns : List Int}
    (inK : K.In sh.heap) (nsm : sh.heap.Ns mainGlobals mg) (nsb : sh.heap.Ns builtinsNs mb) (bb : ∀ x : Str, x ≠ "__name__" → mb x = bootBuiltins x) (nol : sh.heap.NoLimit) (gn : sh.gens = #[])
    (ga : sh.heap.get? ad = some { cls := .type "list", data := .seq vs.toArray }) (isI : IntsAre vs ns) (len : ns.length ≤ sizeLine) (rm : Room k callerA)
    (F : ∀ base : Heap, K.In base → base.Ns mainGlobals mg → FnG P w K mg base k fa fd [x] sp) (bnd : ∀ (s : Shared) (u : Value), BindsTo s fd ⟨[u], []⟩ [(x, u)])
    (pr : ∀ H : Hp, SqL K H ad (ns.map V.int) → sp [.ref ad] H (fun v _ => v = .bl true) fun _ _ _ => False) :
    codeAny (model P w) callerA (.call (.ref fa) ⟨[.ref ad], []⟩) (fun r sh' => r = .ok (.ret (.bool true)) ∧ OldK sh.heap sh'.heap ∧ sh'.os = sh.os ∧ AllBare sh'.gens) sh := by
  have rel := vals_ints isI
  have lnv := isI.length
  have main : ∀ H : Hp, Only H → SqL K H ad (ns.map V.int) → HOk P w H sh.heap → (∀ b, H b ≠ none → b = ad) → (H ad ≠ none → K.lookup ad = none) →
      codeAny (model P w) callerA (.call (.ref fa) ⟨[.ref ad], []⟩) (fun r sh' => r = .ok (.ret (.bool true)) ∧ OldK sh.heap sh'.heap ∧ sh'.os = sh.os ∧ AllBare sh'.gens) sh := by
    intro H only seq hok one nk
    have lay : ∀ {b : Addr} {o : Obj}, sh.heap.get? b = some o → H b = none → (hidT sh.heap H).get? b = some o := fun e n => hidT_get e n
    have nod : ∀ {b : Addr} {o : Obj} {es : Array DictEntry} {ep : Nat}, sh.heap.get? b = some o → o.data = .dict es ep → H b = none := fun {b o es ep} e d => by
      cases z : H b with
      | none => rfl
      | some u =>
        have eb : b = ad := one b (by rw [z]; simp)
        subst eb
        rw [ga] at e
        cases e
        exact (nomatch (show Data.seq vs.toArray _ = Data.dict es ep from d))
    have nsL : ∀ {b : Addr} {m : Str → Option Value}, sh.heap.Ns b m → (hidT sh.heap H).Ns b m := fun {b m} ⟨o, es, ep, e, d, r⟩ => ⟨o, es, ep, lay e (nod e d), d, r⟩
    have inB : K.In (hidT sh.heap H) := fun b o e => lay (inK b o e) (by
      cases z : H b with
      | none => rfl
      | some u =>
        have eb : b = ad := one b (by rw [z]; simp)
        subst eb
        rw [nk (by rw [z]; simp)] at e
        cases e)
    have md : Mod K mg (hidT sh.heap H) := ⟨inB, nsL nsm, ⟨mb, nsL nsb, bb⟩, let ⟨mc, h1, h2⟩ := nol; ⟨mc, nsL h1, h2⟩⟩
    have en : Env0 P w K mg (hidT sh.heap H) callerA [] sh H := ⟨rfl, md, fun b o e => of_hidT e, Nat.le_of_eq (hidT_size _ _), trivial, fun b hb => absurd (show b ∈ ([] : List Addr) from hb) (by simp), hok, .of_eq gn⟩
    refine codeAny_mono ((F _ inB (nsL nsm)).runG callerA [] sh H ⟨[.ref ad], []⟩ [.ref ad] [.ref ad] _ _ rm rfl en (bnd sh (.ref ad)) (.cons rfl .nil) (pr H seq)) fun r sh' h => ?_
    match r, h with
    | .error e, h => exact (show False from h).elim
    | .ok .next, h => exact False.elim h
    | .ok .brk, h => exact False.elim h
    | .ok .cont, h => exact False.elim h
    | .ok (.ret u), h =>
      obtain ⟨v, H', os, bare, un, hok', rv, z⟩ := h
      have z' : v = .bl true := z
      subst z'
      have eu : u = Value.bool true := rv
      subst eu
      refine ⟨rfl, OldK.of_keep (fun b o e => ?_), os, bare⟩
      cases zb : H b with
      | none => exact un.keep b o e zb (fun z => absurd (show b ∈ ([] : List Addr) from z) (by simp)) (by simp)
      | some u =>
        rcases only b with z | ⟨ob, xs, z⟩
        · rw [zb] at z
          cases z
        · have e1 := (hok b _ z).1
          have e2 := (hok' b _ (un.frzs b ob _ z)).1
          rw [e] at e1
          cases e1
          exact e2
  cases hk : K.lookup ad with
  | some o =>
    have e := inK ad o hk
    rw [ga] at e
    cases e
    exact main (fun _ => none) (fun _ => .inl rfl) (.inr ⟨_, vs.toArray, _, hk, rfl, rfl, rfl, by rw [List.size_toArray, lnv]; exact len, by simpa using rel⟩) (fun b u z => nomatch (show (none : Option HO) = some u from z)) (fun b z => absurd rfl z) (fun z => absurd rfl z)
  | none =>
    refine main (fun b => if b = ad then some (.frz { cls := .type "list", data := .seq vs.toArray } (.lst (ns.map V.int))) else none) (fun b => ?_) (.inl (.inr ⟨{ cls := .type "list", data := .seq vs.toArray }, if_pos rfl⟩)) (fun b u z => ?_) (fun b z => ?_) (fun _ => hk)
    · by_cases eb : b = ad
      · exact .inr ⟨_, _, if_pos eb⟩
      · exact .inl (if_neg eb)
    · by_cases eb : b = ad
      · subst eb
        have z' := (if_pos rfl).symm.trans z
        cases z'
        exact ⟨ga, by rw [List.length_map]; exact len, vs, _, rel, ga⟩
      · exact (nomatch (if_neg eb).symm.trans z)
    · by_cases eb : b = ad
      · exact eb
      · exact absurd (if_neg eb) z
theorem walkG {l : PySem.W.OpenLaw} {n k : Nat} {q : Program} {loose : List Str} {XP : (Str → Option Value) → Heap → Prop} {YP : World → Heap → Prop} {d : DefRec} {K : Params → PySem.W.Frag} {sp : World → Sp} {x : Str}
    (most : l.most = some n) (nsz : n ≤ sizeLine) (nodf : d.params.defaults = []) (rm : Room k callerA) (inY : ∀ (w : World) (h : Heap), YP w h → (K w.params).In h)
    (F : ∀ (w : World) (mg : Str → Option Value) (fa : Addr) (h : Heap), (K w.params).In h → h.Ns mainGlobals mg → mg d.name = some (.ref fa) → ∃ fd : FuncData, (∀ (s : Shared) (u : Value), BindsTo s fd ⟨[u], []⟩ [(x, u)]) ∧ ∀ base : Heap, (K w.params).In base → base.Ns mainGlobals mg → FnG l.prog w (K w.params) mg base k fa fd [x] (sp w))
    (pr : ∀ (w : World) (H : Hp) (a : Addr) (ns : List Int), ns.length ≤ n → SqL (K w.params) H a (ns.map V.int) → sp w [.ref a] H (fun v _ => v = .bl true) fun _ _ _ => False) : PySem.W.WalkO q loose XP YP l.row.toRowW d [] (fun f vs => PySem.call f vs) := by
  refine Att.attach_call most nodf fun w s₀ sh mg mb fa o pm cd doc a vs ns G Y ho hd hcd hmg hobj hints hlen hg => ?_
  have inK := inY w _ Y
  obtain ⟨fd, hb, hF⟩ := F w mg fa _ inK G.T.g hmg
  exact lawG inK G.T.g G.T.b G.T.builtins G.T.nolimit hg hobj hints (Nat.le_trans hlen nsz) rm hF hb (fun H hS => pr w H a ns hlen hS)
/-! ### repr of data -/
theorem repr_data {X : Cx} (gd : X.A.guards = some []) (hu : X.A.units + 70 < cLine) : CallR X (.builtin "repr") (fun xs H Q => ∃ (a : Addr) (d : PyData), xs = [.ref a] ∧ Dp X.K H (.ref a) d ∧ d.showable = true ∧ d.hasDict = false ∧ d.depth ≤ 60 ∧ d.shown.length ≤ sizeLine ∧ Q (.str d.shown) H) := by
  intro pins s σ H xs us Q I rel h
  obtain ⟨a, d, rfl, dp, sw, nd, dd, sz, hq⟩ := h
  obtain ⟨u, hu1, ru⟩ := vals1 rel
  subst hu1
  obtain ⟨as, rd⟩ := Dp.reads I d (.ref a) u dp ru
  have eu : u = Value.ref a := ru
  subst eu
  refine repr_of_reads' rd sw (fun z => by rw [nd] at z; cases z) gd (by omega) (fun _ _ e => e) (fun h' u tk hk => ?_) sz
  exact ⟨.str d.shown, H, I.kept hk, ⟨u, rfl⟩, hq⟩
theorem show_fits (ds : List Int) (hb : ∀ z ∈ ds, Bd 1900 z) (hl : ds.length ≤ 100) : (PyData.tuple (ds.map PyData.int)).showable = true ∧ (PyData.tuple (ds.map PyData.int)).hasDict = false ∧ (PyData.tuple (ds.map PyData.int)).depth ≤ 60 ∧ (PyData.tuple (ds.map PyData.int)).shown.length ≤ sizeLine := by
  have lg : ∀ z ∈ ds, z.natAbs.log2 < 1920 := fun z hz => ((hb z hz).mono (show 1900 ≤ 1920 by decide)).log (by decide)
  have key : ∀ l : List Int, (∀ z ∈ l, z.natAbs.log2 < 1920) → PyData.showableAll (l.map PyData.int) = true ∧ PyData.hasDictAll (l.map PyData.int) = false ∧ PyData.depthAll (l.map PyData.int) = 0 ∧ ((PyData.shownAll (l.map PyData.int)).map (·.length)).sum ≤ 1921 * l.length ∧ (PyData.shownAll (l.map PyData.int)).length = l.length := by
    intro l
    induction l with
    | nil => intro _; exact ⟨rfl, rfl, rfl, by simp [PyData.shownAll], rfl⟩
    | cons z r ih =>
      intro h
      obtain ⟨i1, i2, i3, i4, i5⟩ := ih fun y hy => h y (List.mem_cons_of_mem _ hy)
      have hz := h z (List.mem_cons_self ..)
      refine ⟨?_, ?_, ?_, ?_, ?_⟩
      · simp [PyData.showableAll, PyData.showable, hz, i1]
      · simp [PyData.hasDictAll, PyData.hasDict, i2]
      · simp [PyData.depthAll, PyData.depth, i3]
      · have := PyProof.Rows.int_text_len_1921 hz
        simp only [List.map_cons, PyData.shownAll, PyData.shown, List.sum_cons, List.length_cons]
        omega
      · simp [PyData.shownAll, i5]
  obtain ⟨k1, k2, k3, k4, k5⟩ := key ds lg
  refine ⟨by simpa [PyData.showable] using k1, by simpa [PyData.hasDict] using k2, by simp [PyData.depth, k3], ?_⟩
  have := tupleText_len_le (PyData.shownAll (ds.map PyData.int))
  rw [k5] at this
  show (tupleText (PyData.shownAll (ds.map PyData.int))).length ≤ sizeLine
  rw [sizeLine_eq]
  omega
theorem dpAll_ints {K : PySem.W.Frag} {H : Hp} : ∀ ds : List Int, DpAll K H (ds.map V.int) (ds.map PyData.int)
  | [] => .nil
  | c :: r => .cons (.int c) (dpAll_ints r)
/-- repr of a tuple of ints -/
theorem rp_ints {K : PySem.W.Frag} {H : Hp} {a : Addr} {Q : VK} (ds : List Int) (e : H a = some (.tup (ds.map V.int))) (hb : ∀ z ∈ ds, Bd 1900 z) (hl : ds.length ≤ 100) (h : Q (.str (PyData.tuple (ds.map PyData.int)).shown) H) :
    ∃ (a' : Addr) (d : PyData), [V.ref a] = [.ref a'] ∧ Dp K H (.ref a') d ∧ d.showable = true ∧ d.hasDict = false ∧ d.depth ≤ 60 ∧ d.shown.length ≤ sizeLine ∧ Q (.str d.shown) H := by
  obtain ⟨f1, f2, f3, f4⟩ := show_fits ds hb hl
  exact ⟨a, _, rfl, Dp.tup (SqT.of e) (dpAll_ints ds), f1, f2, f3, f4, h⟩
end Lf
namespace Lf
open PySem PySem.Spec PyProof.Rows L2
/-! ### guards and a table of code objects together -/
theorem lawGT {P : Program} {w : World} {K : PySem.W.Frag} {mg mb : Str → Option Value} {k : Nat} {fa ad cT PT : Addr} {fd : FuncData} {x : Str} {sp : Sp} {sh : Shared} {vs : List Value} {ns : List Int}
    (inK : K.In sh.heap) (nsm : sh.heap.Ns mainGlobals mg) (nsb : sh.heap.Ns builtinsNs mb) (bb : ∀ x : Str, x ≠ "__name__" → mb x = bootBuiltins x) (nol : sh.heap.NoLimit) (gn : sh.gens = #[])
    (tP : sh.heap.get? PT = some { cls := .none, data := .fields #[] }) (nP : K.lookup PT = none) (hC : PySem.W.CodeHd sh.heap cT PT)
    (bM : ∃ (bm : Addr) (ob : Obj), mg "__builtins__" = some (.ref bm) ∧ bm ≠ builtinsNs ∧ sh.heap.get? bm = some ob ∧ ob.cls = .type "module" ∧ ob.dict = some builtinsNs ∧ ob.data = .plain)
    (ga : sh.heap.get? ad = some { cls := .type "list", data := .seq vs.toArray }) (isI : IntsAre vs ns) (len : ns.length ≤ sizeLine) (rm : Room k callerA)
    (F : ∀ base : Heap, K.In base → base.Ns mainGlobals mg → LamX.TabB base mg cT PT → FnG P w K mg base k fa fd [x] sp) (bnd : ∀ (s : Shared) (u : Value), BindsTo s fd ⟨[u], []⟩ [(x, u)])
    (pr : ∀ H : Hp, H PT = some (.tbl #[]) → SqL K H ad (ns.map V.int) → sp [.ref ad] H (fun v _ => v = .bl true) fun _ _ _ => False) :
    codeAny (model P w) callerA (.call (.ref fa) ⟨[.ref ad], []⟩) (fun r sh' => r = .ok (.ret (.bool true)) ∧ OldK sh.heap sh'.heap ∧ sh'.os = sh.os ∧ AllBare sh'.gens) sh := by
  have rel := vals_ints isI
  have lnv := isI.length
  have nab : ¬ ad = PT := fun z => by
    rw [z, tP] at ga
    cases ga
  have main : ∀ H : Hp, H PT = some (.tbl #[]) → (∀ b, H b = none ∨ b = PT ∨ ∃ o xs, H b = some (.frz o (.lst xs))) → SqL K H ad (ns.map V.int) → HOk P w H sh.heap → (∀ b, H b ≠ none → b = ad ∨ b = PT) → (H ad ≠ none → K.lookup ad = none) →
      codeAny (model P w) callerA (.call (.ref fa) ⟨[.ref ad], []⟩) (fun r sh' => r = .ok (.ret (.bool true)) ∧ OldK sh.heap sh'.heap ∧ sh'.os = sh.os ∧ AllBare sh'.gens) sh := by
    intro H hT only seq hok one nk
    have lay : ∀ {b : Addr} {o : Obj}, sh.heap.get? b = some o → H b = none → (hidT sh.heap H).get? b = some o := fun e n => hidT_get e n
    -- what is no list and no empty record is not tracked
    have off : ∀ {b : Addr} {o : Obj}, sh.heap.get? b = some o → (∀ zs m, o.data ≠ .seq zs m) → o.data ≠ .fields #[] → H b = none := fun {b o} e n1 n2 => by
      cases z : H b with
      | none => rfl
      | some u =>
        rcases one b (by rw [z]; simp) with eb | eb
        · rw [eb, ga] at e
          cases e
          exact absurd rfl (n1 _ _)
        · rw [eb, tP] at e
          cases e
          exact absurd rfl n2
    have nsL : ∀ {b : Addr} {m : Str → Option Value}, sh.heap.Ns b m → (hidT sh.heap H).Ns b m := fun {b m} ⟨o, es, ep, e, d, r⟩ =>
      ⟨o, es, ep, lay e (off e (fun zs m z => by rw [d] at z; cases z) (fun z => by rw [d] at z; cases z)), d, r⟩
    have inB : K.In (hidT sh.heap H) := fun b o e => lay (inK b o e) (by
      cases z : H b with
      | none => rfl
      | some u =>
        rcases one b (by rw [z]; simp) with eb | eb
        · subst eb
          rw [nk (by rw [z]; simp)] at e
          cases e
        · rw [eb, nP] at e
          cases e)
    have md : Mod K mg (hidT sh.heap H) := ⟨inB, nsL nsm, ⟨mb, nsL nsb, bb⟩, let ⟨mc, h1, h2⟩ := nol; ⟨mc, nsL h1, h2⟩⟩
    have gP : ¬ mainGlobals = PT := fun z => by
      obtain ⟨o, es, ep, e, d, _⟩ := nsm
      rw [z, tP] at e
      cases e
      cases d
    have tb : LamX.TabB (hidT sh.heap H) mg cT PT := by
      refine ⟨?_, ?_, gP⟩
      · obtain ⟨o, us, fi, tf, fl, tg, iF, tx, tt, e1, r1, r2, r3, rr⟩ := hC
        refine ⟨o, us, fi, tf, fl, tg, iF, tx, tt, lay e1 (off e1 (fun zs m z => by rw [r2] at z; cases z) (fun z => ?_)), r1, r2, r3, rr⟩
        rw [r2] at z
        cases z
        simp at r3
      · obtain ⟨bm, ob, b1, b2, b3, b4, b5, b6⟩ := bM
        refine ⟨bm, ob, b1, b2, fun z => ?_, fun z => ?_, lay b3 (off b3 (fun zs m z => by rw [b6] at z; cases z) (fun z => by rw [b6] at z; cases z)), b4, b5, b6⟩
        · obtain ⟨o, es, ep, e, d, _⟩ := nsm
          rw [z, e] at b3
          cases b3
          rw [d] at b6
          cases b6
        · rw [z, tP] at b3
          cases b3
          cases b6
    have en : Env0 P w K mg (hidT sh.heap H) callerA [] sh H := ⟨rfl, md, fun b o e => of_hidT e, Nat.le_of_eq (hidT_size _ _), trivial, fun b hb => absurd (show b ∈ ([] : List Addr) from hb) (by simp), hok, .of_eq gn⟩
    refine codeAny_mono ((F _ inB (nsL nsm) tb).runG callerA [] sh H ⟨[.ref ad], []⟩ [.ref ad] [.ref ad] _ _ rm rfl en (bnd sh (.ref ad)) (.cons rfl .nil) (pr H hT seq)) fun r sh' h => ?_
    match r, h with
    | .error e, h => exact (show False from h).elim
    | .ok .next, h => exact False.elim h
    | .ok .brk, h => exact False.elim h
    | .ok .cont, h => exact False.elim h
    | .ok (.ret u), h =>
      obtain ⟨v, H', os, bare, un, hok', rv, z⟩ := h
      have z' : v = .bl true := z
      subst z'
      have eu : u = Value.bool true := rv
      subst eu
      have old : ∀ b o, ¬ b = PT → sh.heap.get? b = some o → sh'.heap.get? b = some o := fun b o nb e => by
        cases zb : H b with
        | none => exact un.keep b o e zb (fun z => absurd (show b ∈ ([] : List Addr) from z) (by simp)) (by simp)
        | some u =>
          rcases only b with z | z | ⟨ob, xs, z⟩
          · rw [zb] at z
            cases z
          · exact absurd z nb
          · have e1 := (hok b _ z).1
            have e2 := (hok' b _ (un.frzs b ob _ z)).1
            rw [e] at e1
            cases e1
            exact e2
      obtain ⟨more, zm⟩ := un.tbls PT #[] hT
      have grown : sh'.heap.get? PT = some { cls := .none, data := .fields (#[] ++ more) } := hok' PT _ zm
      refine ⟨rfl, ⟨fun b o e => ?_, fun b o e => ?_⟩, os, bare⟩
      · by_cases hb : b = PT
        · rw [hb] at e ⊢
          rw [tP] at e
          cases e
          exact .inr (.inl ⟨(hC.tab tP).isCodeTable, rfl, #[], more, rfl, grown⟩)
        · exact .inl (old b o hb e)
      · by_cases hb : b = PT
        · rw [hb]
          exact ⟨_, grown⟩
        · exact ⟨o, old b o hb e⟩
  cases hk : K.lookup ad with
  | some o =>
    have e := inK ad o hk
    rw [ga] at e
    cases e
    refine main (fun b => if b = PT then some (.tbl #[]) else none) (if_pos rfl) (fun b => ?_) (.inr ⟨_, vs.toArray, _, hk, rfl, rfl, rfl, by rw [List.size_toArray, lnv]; exact len, by simpa using rel⟩) (fun b u z => ?_) (fun b z => ?_) (fun z => absurd (if_neg nab) z)
    · by_cases hb : b = PT
      · exact .inr (.inl hb)
      · exact .inl (if_neg hb)
    · by_cases hb : b = PT
      · rw [hb] at z ⊢
        have z' := (if_pos rfl).symm.trans z
        cases z'
        exact tP
      · exact (nomatch (if_neg hb).symm.trans z)
    · by_cases hb : b = PT
      · exact .inr hb
      · exact absurd (if_neg hb) z
  | none =>
    refine main (fun b => if b = ad then some (.frz { cls := .type "list", data := .seq vs.toArray } (.lst (ns.map V.int))) else if b = PT then some (.tbl #[]) else none) ((if_neg (fun z => nab z.symm)).trans (if_pos rfl)) (fun b => ?_) (.inl (.inr ⟨{ cls := .type "list", data := .seq vs.toArray }, if_pos rfl⟩)) (fun b u z => ?_) (fun b z => ?_) (fun _ => hk)
    · by_cases eb : b = ad
      · exact .inr (.inr ⟨_, _, if_pos eb⟩)
      · by_cases hb : b = PT
        · exact .inr (.inl hb)
        · exact .inl ((if_neg eb).trans (if_neg hb))
    · by_cases eb : b = ad
      · subst eb
        have z' := (if_pos rfl).symm.trans z
        cases z'
        exact ⟨ga, by rw [List.length_map]; exact len, vs, _, rel, ga⟩
      · have z1 := (if_neg eb).symm.trans z
        by_cases hb : b = PT
        · rw [hb] at z1 ⊢
          have z' := (if_pos rfl).symm.trans z1
          cases z'
          exact tP
        · exact (nomatch (if_neg hb).symm.trans z1)
    · by_cases eb : b = ad
      · exact .inl eb
      · by_cases hb : b = PT
        · exact .inr hb
        · exact absurd ((if_neg eb).trans (if_neg hb)) z
/-- what the head tells of the law, of the table PT of the code object cT -/
structure LawGT (l : PySem.W.OpenLaw) (w : World) (K : PySem.W.Frag) (k : Nat) (x : Str) (mg : Str → Option Value) (fa : Addr) (h : Heap) : Prop where
  ex : ∃ (fd : FuncData) (cT PT : Addr) (sp : Sp), h.get? PT = some { cls := .none, data := .fields #[] } ∧ K.lookup PT = none ∧ PySem.W.CodeHd h cT PT ∧ (∀ (s : Shared) (u : Value), BindsTo s fd ⟨[u], []⟩ [(x, u)]) ∧
    (∀ (H : Hp) (a : Addr) (ns : List Int), ns.length ≤ 63 → H PT = some (.tbl #[]) → SqL K H a (ns.map V.int) → sp [.ref a] H (fun v _ => v = .bl true) fun _ _ _ => False) ∧
    ∀ base : Heap, K.In base → base.Ns mainGlobals mg → LamX.TabB base mg cT PT → FnG l.prog w K mg base k fa fd [x] sp
theorem walkGT {l : PySem.W.OpenLaw} {k : Nat} {q : Program} {loose : List Str} {XP : (Str → Option Value) → Heap → Prop} {YP : World → Heap → Prop} {d : DefRec} {K : Params → PySem.W.Frag} {x : Str}
    (most : l.most = some 63) (nodf : d.params.defaults = []) (rm : Room k callerA) (inY : ∀ (w : World) (h : Heap), YP w h → (K w.params).In h)
    (F : ∀ (w : World) (mg : Str → Option Value) (fa : Addr) (h : Heap), YP w h → (K w.params).In h → h.Ns mainGlobals mg → mg d.name = some (.ref fa) → LawGT l w (K w.params) k x mg fa h) : PySem.W.WalkO q loose XP YP l.row.toRowW d [] (fun f vs => PySem.call f vs) := by
  refine Att.attach_call most nodf fun w s₀ sh mg mb fa o pm cd doc a vs ns G Y ho hd hcd hmg hobj hints hlen hg => ?_
  have inK := inY w _ Y
  obtain ⟨fd, cT, PT, sp, tP, nP, hC, hb, hp, hF⟩ := (F w mg fa _ Y inK G.T.g hmg).ex
  exact lawGT inK G.T.g G.T.b G.T.builtins G.T.nolimit hg tP nP hC G.T.bmain hobj hints (Nat.le_trans hlen (by decide)) rm hF hb (fun H hH hS => hp H a ns hlen hH hS)
/-! ### a def by its row, called where no repr is under way -/
theorem fnG_lk {P : Program} {w : World} {K : PySem.W.Frag} {mg : Str → Option Value} {base : Heap} {x : Str} {st : Stmt} {f : Addr} {N ps : List Str} {k : Nat} {sp : Sp} {oc kV doc pm cdv ct : Value} {od an : Option Addr} {osl : Array (Option Value)}
    (lkp : K.lookup f = some ⟨oc, od, .func (PySem.W.fnOf x x (defArgs st) (defBody st) (defScope st) .none kV doc pm an cdv ct), osl⟩) (cin : PySem.W.codeIn K cdv x = true) (S : FnScope N ps (defScope st)) (ln : ∀ vs H Q E, sp vs H Q E → vs.length = ps.length)
    (bd : ∀ (A : Around) (out : List Env) (sh : Shared) (H : Hp) (vs : List V) (Q : VK) (E : XK), Room k (A.deeper (envOfC x (defScope st) sh.heap.objs.size f cdv)) → A.guards = some [] → sp vs H Q E →
      ∃ t, PSs (cxOf CX0 P w K mg base N x (defScope st) f cdv A out sh H E).nox (defBody st) t ∧ t { nx := fun _ H' => Q .non H', rt := Q } (start N vs) H) : FnG P w K mg base (k + 1) f (PySem.W.fnOf x x (defArgs st) (defBody st) (defScope st) .none kV doc pm an cdv ct) ps sp := by
  refine ⟨ln, fun A out sh H ar us vs Q E rm gd en bnd rel pr => ?_⟩
  have lv := ln _ _ _ _ pr
  have kIn : K.In sh.heap := en.mod.kin.keeps fun b o e => (en.bs b o e).1
  have nol : sh.heap.NoLimit := en.mod.nolimit.keeps fun b o e => (en.bs b o e).1
  have knd : ∀ y ∈ ps.zip us, (defScope st).names.lookup y.1 = some .local ∨ ((defScope st).names.lookup y.1 = some .cell ∧ ((cellsFrom (sh.heap.objs.size + 1) (defScope st).names []).lookup y.1).isSome = true) := fun ⟨n, v⟩ hy => by
    rcases S.par n (List.of_mem_zip hy).1 with z | z
    · exact .inl z
    · exact .inr ⟨z, PySem.W.cellsFrom_some _ _ _ (.inl z)⟩
  refine codeAny_call_function rm.depth (kIn _ _ lkp) rfl S.co S.gen rfl (PySem.W.codeRec_of kIn cin) (bnd _ _ _ _ ?_)
  refine wpAny_newFunctionEnv_cells S.kind knd fun env he sh1 x1 => ?_
  subst he
  refine ⟨nol.keeps x1.toInCall.keep, codeAny_func ?_⟩
  obtain ⟨t, ht, hq⟩ := bd A out sh H vs Q E (rm.deeper _) gd pr
  have inv := inv_start (CX := CX0) (P := P) (w := w) (K := K) (mg := mg) (base := base) (E := E) (f := f) (cd := cdv) (qual := x) S rm.hd en lv rel x1
  refine wpAny_mono (ht.nox.run [] sh1 (start N vs) H _ inv hq) (fun fl sh' hs => ?_) fun e sh' hs => hs
  cases fl with
  | ret u =>
    obtain ⟨v, σ', H', J, rv, z⟩ := hs
    exact ⟨v, H', J.os, J.bare, J.base, J.hok, rv, z⟩
  | next =>
    obtain ⟨σ', H', J, z⟩ := hs
    exact ⟨V.non, H', J.os, J.bare, J.base, J.hok, rfl, z⟩
  | brk =>
    obtain ⟨_, _, _, z⟩ := hs
    exact False.elim z
  | cont =>
    obtain ⟨_, _, _, z⟩ := hs
    exact False.elim z
section
variable {X : Cx} {x : Str} {sp : Sp} {W : WX} {j k i : Nat} {f : Addr} {fd : FuncData} {ps : List Str} {e : Expr} {es : List Expr} {t : TA} {p po : Pos}
/-- such a def, called by its name -/
theorem pe_g (F : FnG X.prog X.w X.K X.mg X.base k f fd ps sp) (gd : X.A.guards = some []) (hr : Room j X.A) (hk : k ≤ j) (hg : Gl X x) (hm : X.mg x = some (.ref f)) (kp : PySem.W.keepIn X.K (.ref f) = true) (hb : Binds X.K fd ps []) (ha : L2.PA X (e :: es) t)
    (hdb : (x == ("__debug__" : Str)) = false := by decide) (he : starEach (e :: es) X.env = (false, eval e X.env) :: starEach es X.env := by rfl) (hpl : (backTo po (starEach es X.env)).any (·.1) = false := by rfl) :
    PE X (.Call (.Name x p) (e :: es) [] po) (fun σ H Q => t σ H fun vs H1 => sp vs H1 Q (fun _ _ _ => False)) := by
  refine ⟨fun pins s σ H Q I h => wpAny_Call_Name_kw (ld_glob I hg hm ?_ hdb)⟩
  refine PySem.W.callWith_K (h₀ := X.base) I.ok.mod.kin kp (thn (ha.run po pins s σ H _ I h) fun us s1 ⟨vs, H1, I1, rv, q⟩ => ⟨I1.kIn, ?_⟩) he hpl
  have hl : us.length = ps.length := by rw [← rv.length]; exact F.lenG _ _ _ _ q
  have b := hb s1 us I1.kIn (by rw [List.append_nil]; exact hl)
  rw [List.append_nil] at b
  refine wpAny_call (codeAny_mono (F.runG X.A X.stack s1 H1 ⟨us, []⟩ us vs Q _ (hr.mono hk) gd I1.env0 b rv q) fun r s' hq => ?_)
  cases r with
  | error e => exact (show False from hq).elim
  | ok fl =>
    cases fl with
    | ret u => exact I1.after hq
    | next => exact False.elim hq
    | brk => exact False.elim hq
    | cont => exact False.elim hq
/-- a name that holds one of some defs that raise -/
theorem pe_vx (S : Addr → Prop) (hS : ∀ f, S f → ∃ fd ps, FnOk X.prog X.w X.K X.mg X.base (L2.CX X.prog X.w) k f fd ps sp ∧ PySem.W.keepIn X.K (.ref f) = true ∧ Binds X.K fd ps []) (hr : Room j X.A) (hk : k ≤ j) (tk : Takes X W) (hN : X.N[i]? = some x) (hv : Vis X.env.scope x) (ha : L2.PA X (e :: es) t)
    (hd : (x == ("__debug__" : Str)) = false := by decide) (hcd : (x == ("__classdict__" : Str)) = false := by decide) (he : starEach (e :: es) X.env = (false, eval e X.env) :: starEach es X.env := by rfl) (hpl : (backTo po (starEach es X.env)).any (·.1) = false := by rfl) :
    PE X (.Call (.Name x p) (e :: es) [] po) (fun σ H Q => ∃ f, σ[i]? = some (some (.ref f)) ∧ S f ∧ t σ H fun vs H1 => sp vs H1 Q (WE W σ)) := by
  refine ⟨fun pins s σ H Q I h => ?_⟩
  obtain ⟨f, hs, hf, h⟩ := h
  obtain ⟨fd, ps, F, kp, b⟩ := hS f hf
  refine wpAny_Call_Name_kw (thn ((pe_var (pos := p) (i := i) hN hv hd hcd).run pins s σ H (fun v H1 => v = .ref f ∧ H1 = H) I ⟨.ref f, hs, rfl, rfl⟩) fun u s1 ⟨v, H1, I1, r1, q1, q2⟩ => ?_)
  subst q1
  rw [q2] at I1
  cases r1
  refine PySem.W.callWith_K (h₀ := X.base) I1.ok.mod.kin kp (thn (ha.run po pins s1 σ H _ I1 h) fun us s2 ⟨vs, H2, I2, rv, q⟩ => ⟨I2.kIn, ?_⟩) he hpl
  exact run_fnS F (hr.mono hk) b (passAt tk σ) I2 rv q
end
end Lf
namespace Lf
open PySem PySem.Spec PyProof.Rows L2
/-! ### an own exception class over ValueError whose __init__ says super().__init__(text), self.x = x -/
/-- the context of such an __init__ at its entry -/
def cxSup (P : Program) (w : World) (K : PySem.W.Frag) (mg : Str → Option Value) (base : Heap) (N : List Str) (env : Env) (A : Around) (outer : List Env) (s : Shared) (H : Hp) : Cx where
  prog := P
  w := w
  K := K
  mg := mg
  base := base
  A := A.deeper env
  N := N
  s_0 := s
  H_0 := H
  env := env
  outer := outer
  stack := env :: outer
  ex := []
  calm := true
  fn := fun _ => false
  pn := []
  xe := fun _ _ => False
/-- what it promises -/
def spIni (C : Addr) (x : Str) : Sp := fun vs H Q _ => ∃ (a : Addr) (v : V), vs = [.ref a, v] ∧ H a = some (exo a C none) ∧
  ∀ dx, H dx = none → dx ≠ a → Q .non (upd (upd H dx (exd dx [(x, v)])) a (exo a C (some dx)))
/-- its text -/
structure IniT (x : Str) (params : Arguments) (body : List Stmt) (scope : Scope) : Prop where
  pa : ∃ ar, (params.posonlyargs ++ params.args).head? = some ar ∧ ar.arg = "self"
  bd : ∃ txt p0 p1 p2 p3 p4 p5 p6 p7 p8 p9 j, body = [.Expr (.Call (.Attribute (.Call (.Name "super" p0) [] [] p1) "__init__" p2) [.Constant (.str txt) j p3] [] p4) p5, .Assign [.Attribute (.Name "self" p6) x p7] (.Name x p8) p9] ∧
    ∃ pl : Env → Sem Bool, ∀ env : Env, eval (.Call (.Attribute (.Call (.Name "super" p0) [] [] p1) "__init__" p2) [.Constant (.str txt) j p3] [] p4) env = (do
      let ov ← attributeBase (.Call (.Name "super" p0) [] [] p1) "__init__" env (eval (.Call (.Name "super" p0) [] [] p1) env)
      standAt p2.atName
      let (f, first) ← holding [ov] (getMethod ov "__init__" (pl env))
      callWith p4 f first (backTo p4 (starEach [.Constant (.str txt) j p3] env)) [])
  ls : scope.names.lookup ("self" : Str) = some .local
  lx : scope.names.lookup x = some .local
  lc : scope.names.lookup ("__class__" : Str) = some .free
  lu : scope.names.lookup ("super" : Str) = some .globalImplicit
  nc : ∀ y ∈ scope.names, y.2 ≠ .cell
  nf : ∀ y ∈ scope.names, y.2 = .free → y.1 = "__class__"
  co : scope.isCoroutine = false
  ge : scope.isGenerator = false
  kd : scope.kind = .function
  ne : x ≠ "self"
  dx : (x == ("__debug__" : Str)) = false
  dc : (x == ("__classdict__" : Str)) = false
/-- what the written part tells of it -/
structure SupC (P : Program) (K : PySem.W.Frag) (C cda cc : Addr) (x : Str) : Prop where
  cls : OexC K C
  code : ∃ ccl cdd vs ccs file tf, K.lookup cda = some ⟨ccl, cdd, .fields vs, ccs⟩ ∧ vs[2]? = some (.str file tf) ∧ ((P.main.file : Str) == file) = true
  cell : ∃ cl cld csl, K.lookup cc = some ⟨cl, cld, .cell (some (.ref C)), csl⟩
  sub : PySem.W.mroIn K C (.ref C) = some true
  st : PySem.W.nsIn K cStatics "thirdparty.any" = some none
  sup : PySem.W.ks_superIn K C C "__init__" = some (some (.builtin "ValueError.__init__"))
  ve : PySem.W.subIn K (.ref C) (.type "ValueError") = some true
  no : PySem.W.findIn K (.ref C) x = some none
  top : (P.main.scope.names.lookup ("super" : Str)).isSome = false
theorem bt_super : bootBuiltins ("super" : Str) = Option.some (Value.type "super") := by decide +kernel
section
variable {P : Program} {w : World} {K : PySem.W.Frag} {mg : Str → Option Value} {base : Heap}
theorem fn_sup {CX : CXT} {C f cda cc : Addr} {name qual x : Str} {params : Arguments} {body : List Stmt} {scope : Scope} {dV kV doc pm ct oc : Value} {an od : Option Addr} {osl : Array (Option Value)}
    (lk : K.lookup f = some ⟨oc, od, .func (PySem.W.ksFn name qual params body scope dV kV doc pm an (.ref cda) ct cc), osl⟩) (hcd : PySem.W.codeIn K (.ref cda) qual = true) (T : IniT x params body scope) (S : SupC P K C cda cc x) (ms : mg "super" = none) :
    FnOk P w K mg base CX 1 f (PySem.W.ksFn name qual params body scope dV kV doc pm an (.ref cda) ct cc) ["self", x] (spIni C x) := by
  refine ⟨fun vs H Q E h => ?_, fun A outer s H args us vs Q E hr e0 hb r hsp => ?_⟩
  · obtain ⟨a, v, rfl, _⟩ := h
    rfl
  obtain ⟨a, v, rfl, ea, q⟩ := hsp
  obtain ⟨u, rfl, ru⟩ : ∃ u, us = [.ref a, u] ∧ RelV v u := by
    cases r with
    | cons ra r =>
      cases r with
      | cons rv r =>
        cases r
        cases ra
        exact ⟨_, rfl, rv⟩
  have KX : K.In s.heap := e0.mod.kin.keeps fun b o e => (e0.bs b o e).1
  have lim : s.heap.NoLimit := e0.mod.nolimit.keeps fun b o e => (e0.bs b o e).1
  refine ks_codeAny_call_defAt (fd := PySem.W.ksFn name qual params body scope dV kV doc pm an (.ref cda) ct cc) (body := body) hr.depth (KX _ _ lk) rfl lim (PySem.W.codeRec_of KX hcd) rfl hb T.nc (fun y hy => ?_) (fun h₀ hns hk => ?_) T.co T.ge T.kd
  · have : y = (("self" : Str), Value.ref a) ∨ y = (x, u) := by simpa using hy
    rcases this with rfl | rfl
    · exact T.ls
    · exact T.lx
  obtain ⟨txt, p0, p1, p2, p3, p4, p5, p6, p7, p8, p9, j, rfl, pl, hpl⟩ := T.bd
  obtain ⟨ar, har, ear⟩ := T.pa
  obtain ⟨cl, cld, csl, hcell⟩ := S.cell
  obtain ⟨ccl, cdd, fvs, ccs, file, tf, hcode, hvs, hfile⟩ := S.code
  show _root_.PySem.wpAt _ (A.deeper (PySem.W.ksEnv qual scope s.heap.objs.size f (.ref cda) cc)) (.func _ (PySem.W.ksEnv qual scope s.heap.objs.size f (.ref cda) cc)) (execs _ (PySem.W.ksEnv qual scope s.heap.objs.size f (.ref cda) cc)) _ _ _
  generalize hX : cxSup P w K mg base ["self", x] (PySem.W.ksEnv qual scope s.heap.objs.size f (.ref cda) cc) A outer s H = X
  have bcell : base.get? cc = some ⟨cl, cld, .cell (some (.ref C)), csl⟩ := e0.mod.kin _ _ hcell
  have luc : ∀ y c, List.lookup y [(("__class__" : Str), cc)] = some c → y = "__class__" ∧ c = cc := fun y c h => by
    rw [List.lookup_cons] at h
    by_cases hy : (y == ("__class__" : Str)) = true
    · rw [hy] at h
      exact ⟨by simpa using hy, (Option.some.inj h).symm⟩
    · rw [Bool.not_eq_true] at hy
      rw [hy] at h
      cases h
  have noA : ∀ b : Addr, b ∉ ([] : List Addr) := fun b z => nomatch z
  have I : Inv X [] [some (.ref a), some v] H { s with heap := h₀, toks := s.toks + [(("self" : Str), Value.ref a), (x, u)].length } := by
    subst hX
    refine ⟨⟨e0.mod, T.kd, rfl, rfl, Nat.le_refl _, fun y z c h1 h2 => ?_, fun y hy => ?_, fun y c z _ => (nomatch z), fun _ => hr.hd, Around.frames_deeper e0.frames, .inr ⟨rfl, rfl⟩, fun b z => absurd z (noA b), e0.bs, e0.bsz, fun b _ _ => noA b, fun b z => absurd z (noA b), e0.funs, e0.frf⟩,
      rfl, e0.bare, Un.kept hk, ⟨_, hns, fun i y v' h1 h2 h3 => ?_⟩, fun y c h => ?_, e0.hok.fresh (Nat.le_refl _), fun y c h => ?_, fun p hp => absurd (show p ∈ ([] : List (Addr × Obj)) from hp) (by simp), e0.hok.kept hk, rfl⟩
    · rw [(luc y c h1).1, (luc z c h2).1]
    · have hy : scope.names.lookup y = some .cell ∨ scope.names.lookup y = some .free := hy
      rcases hy with hy | hy
      · exact absurd rfl (T.nc _ (PySem.mem_of_lookup hy))
      · have := T.nf _ (PySem.mem_of_lookup hy) rfl
        dsimp only at this
        subst this
        exact ⟨cc, rfl⟩
    · match i, h1, h2 with
      | 0, h1, h2 =>
        cases h1
        cases h2
        refine ⟨.ref a, rfl, .inl ⟨T.ls, ?_⟩⟩
        show List.lookup _ [(x, u), ("self", .ref a)] = _
        rw [List.lookup_cons, show (("self" : Str) == x) = false by simpa using fun z => T.ne z.symm]
        rfl
      | 1, h1, h2 =>
        cases h1
        cases h2
        refine ⟨u, ru, .inl ⟨T.lx, ?_⟩⟩
        show List.lookup _ [(x, u), ("self", .ref a)] = _
        rw [List.lookup_cons, beq_self_eq_true]
    · obtain ⟨_, rfl⟩ := luc y c h
      exact ⟨_, _, hk _ _ ((e0.bs _ _ bcell).1), rfl⟩
    · obtain ⟨_, rfl⟩ := luc y c h
      exact (e0.bs _ _ bcell).2
  have eE : X.env = PySem.W.ksEnv qual scope s.heap.objs.size f (.ref cda) cc := by subst hX; rfl
  have eA : X.A = A.deeper (PySem.W.ksEnv qual scope s.heap.objs.size f (.ref cda) cc) := by subst hX; rfl
  have eP : X.prog = P ∧ X.w = w ∧ X.K = K ∧ X.mg = mg ∧ X.base = base ∧ X.N = [("self" : Str), x] ∧ X.stack = PySem.W.ksEnv qual scope s.heap.objs.size f (.ref cda) cc :: outer ∧ X.s_0 = s ∧ X.H_0 = H ∧ X.outer = outer ∧ X.ex = [] := by subst hX; exact ⟨rfl, rfl, rfl, rfl, rfl, rfl, rfl, rfl, rfl, rfl, rfl⟩
  have Z : ∀ s', (∃ σ' H', Inv X [] σ' H' s' ∧ Q .non H') → CR CX outer P w H s Q E (.ok (.ret .none)) s' := fun s' ⟨σ', H', J, q'⟩ => by
    subst hX
    exact ⟨.non, H', J.os, J.bare, J.base, J.hok, rfl, q'⟩
  have hxe : ∀ e s', X.xe e s' → False := by subst hX; exact fun _ _ z => z
  have hprog : X.prog = P := by subst hX; rfl
  have hw : X.w = w := by subst hX; rfl
  have hK : X.K = K := by subst hX; rfl
  have hmg : X.mg = mg := by subst hX; rfl
  have hN : X.N = [("self" : Str), x] := by subst hX; rfl
  subst hprog hw hK hmg
  rw [← eA, ← eE]
  obtain ⟨nm, qn, N, bs, bm, sn, sub, ab, col, dd, k0, k1, k2, k3, k5, hC, hbm⟩ := S.cls.cls
  obtain ⟨t1, ho⟩ := exo_at I.hok ea
  obtain ⟨cdD, hcl⟩ : ∃ cdD, PySem.W.clsIn X.K C = some cdD := ⟨_, by unfold PySem.W.clsIn; rw [hC] <;> rfl⟩
  have hne : ¬ (("__init__" : Str) == ("__class__" : Str)) = true := by decide
  have hbase : ∀ s', Inv X [] [some (.ref a), some v] H s' → (∃ m, s'.heap.Ns X.env.locals m ∧ m "self" = some (.ref a)) := fun s' J => by
    obtain ⟨m, hn, hl⟩ := J.loc
    obtain ⟨u', ru', lk'⟩ := hl 0 "self" (.ref a) (by rw [hN]; rfl) rfl (by rw [eE]; exact .inl T.ls)
    cases ru'
    rcases lk' with ⟨_, e⟩ | ⟨z, _⟩
    · exact ⟨m, hn, e⟩
    · rw [eE] at z
      have z : scope.names.lookup ("self" : Str) = some .cell ∨ scope.names.lookup ("self" : Str) = some .free := z
      rw [T.ls] at z
      rcases z with z | z <;> cases z
  obtain ⟨m, hn, hself⟩ := hbase _ I
  obtain ⟨mb, hb1, hb2⟩ := I.mod.blt
  have hfr : ∀ {s'} , Inv X [] [some (.ref a), some v] H s' → ∃ o, s'.heap.get? a = some o ∧ o.cls = .ref C ∧ ∀ c, o.data ≠ .cls c := fun {s'} J => by
    obtain ⟨t1, h1⟩ := exo_at J.hok ea
    exact ⟨_, h1, rfl, fun c z => by cases z⟩
  obtain ⟨oD, hD1, hD2⟩ : ∃ oD, h₀.get? C = some oD ∧ oD.data = .cls cdD := by
    unfold PySem.W.clsIn at hcl
    split at hcl
    · rename_i c d cd' sl hoo
      cases hcl
      exact ⟨_, I.kIn _ _ hoo, rfl⟩
    · cases hcl
  refine ks_wpAt_execs_cons (ks_wpAt_Expr_any (ks_wpAt_MethodCall (pl := pl X.env) ?_ (hpl X.env)) ?hi ?hs)
  case hi => exact I.quiet
  case hs => rfl
  refine ks_wpAt_super_base (env := X.env) (attr := "__init__") (f := f) (cc := cda) (fd := PySem.W.ksFn name qual params _ scope dV kV doc pm an (.ref cda) ct cc) (ar := ar) (by rw [eE]; exact T.lu) (by rw [eE]; exact T.lc) (by decide) (by rw [eE]) (I.kIn _ _ lk) rfl har (by rw [eE]) (I.kIn _ _ hcode) rfl hvs hfile S.top ?_
  refine PySem.W.ks_loadName_global I.ok.kind (by rw [eE]; exact T.lu) (Calls.loadGlobal_builtin (by rw [I.ok.glob]; exact I.mod.glob.keeps I.bk) ms (by rw [I.ok.blt]; exact hb1.keeps I.bk) ((hb2 _ (by decide)).trans bt_super) ⟨rfl, ?_⟩)
  refine wpAny_loadName_free I.ok.kind (by rw [eE]; exact T.lc) (by rw [eE]; rfl) ⟨_, I.kIn _ _ hcell, rfl⟩ ?_
  rw [ear]
  refine wpAny_loadName_local I.ok.kind (by rw [eE]; exact T.ls) hn hself ?_
  refine ks_wpAny_isType_cls hD1 hD2 ⟨rfl, ?_⟩
  refine ks_wpAny_call_super hD1 hD2 ho rfl (fun c z => by cases z) (PySem.W.looks_mroIn I.kIn S.sub) (fun h1 e1 kk1 => ?_)
  have I1 := I.kept (t' := s.toks + [(("self" : Str), Value.ref a), (x, u)].length) kk1
  have hm : PySem.W.alongIn X.K "__init__" ((cdD.mro.dropWhile (· != .ref C)).drop 1) = some (some (.builtin "ValueError.__init__")) := by
    have z := S.sup
    unfold PySem.W.ks_superIn at z
    rw [hcl, Option.bind_some] at z
    exact z
  obtain ⟨t2, ho1⟩ := exo_at I1.hok ea
  have IA : PySem.W.InstAt h1 a { cls := .ref C, dict := none, data := .fields #[.ref t2, .none, .none, .none, .bool false, .none] } C none := ⟨ho1, rfl, rfl, trivial⟩
  refine PySem.W.kxs_getMethod PySem.W.kxs_ValueError e1 (PySem.W.looks_opaque I1.kIn S.st) (l₀ := cdD.mro) (fun A Q E s k q => wpAny_bind ((PySem.W.looks_clsIn I1.kIn hcl) A _ E s k (wpAny_pure q))) rfl I1.kIn hm (IA.type.andThen (PySem.W.looks_subIn I1.kIn S.ve)) (PySem.W.ks_ne I1.kIn IA hcl) (by decide) ?_
  have I2 := I1.kept (h' := h1.push (PySem.W.kxs_mw "ValueError.__init__" a)) (t' := s.toks + [(("self" : Str), Value.ref a), (x, u)].length + 1) (fun b o e => Heap.get?_push_of_some _ e)
  have hmw : (h1.push (PySem.W.kxs_mw "ValueError.__init__" a)).get? h1.objs.size = some (PySem.W.kxs_mw "ValueError.__init__" a) := Heap.get?_push_at rfl rfl
  have I3 : Inv X [(h1.objs.size, PySem.W.kxs_mw "ValueError.__init__" a)] [some (.ref a), some v] H _ := I2.pins_of (fun p hp => by
    have hp : p = (h1.objs.size, PySem.W.kxs_mw "ValueError.__init__" a) := by simpa using hp
    subst hp
    exact ⟨hmw, I1.hok.fresh (Nat.le_refl _), fun z => absurd I1.lt (by rw [← z]; exact Nat.lt_irrefl _), I1.nofs (Nat.le_refl _), fun v z => by cases z⟩)
  have hst : starEach [Expr.Constant (Const.str txt) j p3] X.env = (false, eval (Expr.Constant (Const.str txt) j p3) X.env) :: starEach [] X.env := rfl
  refine PySem.W.kxs_callWith (i := "ValueError.__init__") (x := a) (by rfl) ?_
  show wpAny _ _ (evalArgs _ true ((false, eval (Expr.Constant (Const.str txt) j p3) X.env) :: _) []) _ _ _
  refine Calls.evalArgs_plain ?_
  have hpa : L2.PA X [Expr.Constant (Const.str txt) j p3] (tCons (tC (.str txt)) tNil) := pa_cons pe_str pa_nil
  refine thn (hpa.run p4 _ _ _ H (fun vs H' => H' = H ∧ vs = [.str txt]) I3 ⟨rfl, rfl⟩) fun us s4 ⟨vs, H4, I4, r4, eH, ev⟩ => ?_
  subst eH ev
  have hu4 := (I4.pin (h1.objs.size, PySem.W.kxs_mw "ValueError.__init__" a) (by simp)).1
  refine ⟨hu4, ?_⟩
  obtain ⟨t3, ho4⟩ := exo_at I4.hok ea
  have hlen : us.length ≤ sizeLine := by
    rw [← r4.length]
    rw [sizeLine_eq]; exact (by show 1 ≤ _; omega)
  obtain ⟨h4, g4, d4, t4, os4⟩ := s4
  refine wpAny_call (codeAny_of_tree ?_)
  show wpAny _ _ (callAny (.ref h1.objs.size) ⟨us, []⟩) _ _ _
  simp only [callAny]
  refine wpAny_bind (wpAny_load hu4 ?_)
  simp only [PySem.W.kxs_mw, show (Value.type "method-wrapper" == Value.type "method" || Value.type "method-wrapper" == Value.type "builtin_function_or_method" || Value.type "method-wrapper" == Value.type "method-wrapper") = true by decide, if_true]
  refine PySem.W.KFB.if_so (by decide) ?_
  refine wpAny_bind (PySem.W.check_bound_init F.excBase_ValueError.toExcCallFacts (I4.kIn _ _ hC) ho4 rfl ?_)
  refine wpAny_bind (wpAny_pure (wpAny_pure ?_))
  refine ⟨plainId_quiet F.excBase_ValueError.init.plain _, codeAny_builtin F.excBase_ValueError.initEntry ?_⟩
  refine PySem.W.exc_init_tree (cls := .ref C) (t0 := t3) (dv := none) (c2 := .none) (c3 := .none) (b4 := .bool false) ho4 hlen (fun h5 k5 e5 _ => ?_)
  have J5 := I4.write (t' := t4) (x := a) (e := a) (o := exo a C none) (by rw [ea]; exact True.intro) (.inl rfl) k5 ⟨_, e5⟩ (exo_ok e5)
  have eu : upd H4 a (exo a C none) = H4 := by
    funext b
    by_cases hb : b = a
    · rw [hb, upd_same, ea]
    · rw [upd_ne hb]
  rw [eu] at J5
  have J6 : Inv X [] [some (.ref a), some v] H4 _ := J5.pins_of (fun p hp => nomatch hp)
  have hps : PSs X [Stmt.Assign [(Expr.Name "self" p6).Attribute x p7] (Expr.Name x p8) p9] (tOst X.K x (tVar 0) (tVar 1)) :=
    pss_one (ps_ost (pe_var (by rw [hN]; rfl) (by rw [eE]; exact .inl T.ls) (by decide) (by decide)) (pe_var (by rw [hN]; rfl) (by rw [eE]; exact .inl T.lx) T.dx T.dc))
  show _root_.PySem.wpAt _ _ _ _ _ _ _
  refine wpAt_of_wpAny (wpAny_mono (hps.run [] _ _ H4 { nx := fun _ H' => Q .non H', rt := fun _ _ => False } J6 ?_) (fun fl s' hs => ?_) fun e s' hs => ?_)
  · exact ⟨_, rfl, _, rfl, a, C, rfl, S.cls, S.no, .inl ⟨ea, fun dx n ne => q dx n ne⟩⟩
  · cases fl with
    | ret u =>
      obtain ⟨v, σ', H', J, rv, q⟩ := hs
      exact False.elim q
    | next =>
      obtain ⟨σ', H', J, q⟩ := hs
      exact Z s' ⟨σ', H', J, q⟩
    | brk =>
      obtain ⟨_, _, _, q⟩ := hs
      exact False.elim q
    | cont =>
      obtain ⟨_, _, _, q⟩ := hs
      exact False.elim q
  · exact (hxe _ _ hs).elim
end

section
variable {P : Program} {w : World} {K : PySem.W.Frag} {mg : Str → Option Value} {base : Heap}
/-- what the top tells of such a class: at C, its __init__ at fI, its name nm, its field x -/
structure ValC (P : Program) (K : PySem.W.Frag) (mg : Str → Option Value) (C : Addr) (nm x : Str) : Prop where
  gC : mg nm = some (.ref C)
  ini : ∃ (fI cda cc : Addr) (qual : Str) (params : Arguments) (body : List Stmt) (scope : Scope) (kV doc pm ct oc : Value) (an od : Option Addr) (osl : Array (Option Value)),
    K.lookup fI = some ⟨oc, od, .func (PySem.W.ksFn "__init__" qual params body scope .none kV doc pm an (.ref cda) ct cc), osl⟩ ∧ PySem.W.codeIn K (.ref cda) qual = true ∧ IniT x params body scope ∧ SupC P K C cda cc x ∧
    PySem.W.findIn K (.ref C) "__init__" = some (some (.ref fI)) ∧ PySem.W.typeIn K (.ref fI) = some (.type "function") ∧ Binds K (PySem.W.ksFn "__init__" qual params body scope .none kV doc pm an (.ref cda) ct cc) ["self", x] []
  ms : mg "super" = none
  ex : ExcC K C
  sf : PySem.W.subIn K (.ref C) (.ref C) = some true
theorem ValC.oex {C : Addr} {nm x : Str} (T : ValC P K mg C nm x) : OexC K C := by
  obtain ⟨fI, cda, cc, qual, params, body, scope, kV, doc, pm, ct, oc, an, od, osl, _, _, _, S, _⟩ := T.ini
  exact S.cls
theorem ValC.raises {X : Cx} {C : Addr} {nm x : Str} (T : ValC P X.K X.mg C nm x) : Raises X (.ref C) := raises_own T.oex.exC T.oex.tyC
theorem ValC.meets {C : Addr} {nm x : Str} (T : ValC P K mg C nm x) : PySem.W.exmOne K (.ref C) (.ref C) = some true := PySem.W.exm_ref T.ex.hs T.ex.hd T.oex.tyC T.sf
theorem ValC.no {C : Addr} {nm x : Str} (T : ValC P K mg C nm x) : PySem.W.findIn K (.ref C) x = some none := by
  obtain ⟨fI, cda, cc, qual, params, body, scope, kV, doc, pm, ct, oc, an, od, osl, _, _, _, S, _⟩ := T.ini
  exact S.no
theorem ValC.xf {C : Addr} {nm x : Str} (T : ValC P K mg C nm x) : XfC K C := ⟨T.ex.hg, T.ex.hk, T.ex.hs, T.ex.hd⟩
theorem back_to {H1 : Hp} {a d C : Addr} {fs : List (Str × V)} (ha : H1 a = none) (hd : d ≠ a) :
    upd (del (upd (upd (upd H1 a (exo a C none)) d (exd d fs)) a (exo a C (some d))) a) d (.xd fs) = upd H1 d (.xd fs) := by
  funext b
  by_cases h1 : b = d
  · subst h1
    rw [upd_same, upd_same]
  · rw [upd_ne h1, upd_ne h1]
    by_cases h2 : b = a
    · subst h2
      rw [del_same, ha]
    · rw [del_ne h2, upd_ne h2, upd_ne h1, upd_ne h2]
/-- nm(e): the exception, its value -/
theorem pmk_val {X : Cx} {C : Addr} {nm x : Str} {e : Expr} {te : TE} {p pos : Pos} {j : Nat} (T : ValC X.prog X.K X.mg C nm x) (hr : Room j X.A) (hj : 2 ≤ j) (hg : Gl X nm) (he : PE X e te)
    (hdb : (nm == ("__debug__" : Str)) = false := by decide) (hs : starEach [e] X.env = (false, eval e X.env) :: starEach [] X.env := by rfl) :
    PMk X (.Call (.Name nm p) [e] [] pos) (tMkO C (spIni C x) [] (tCons te tNil)) := by
  obtain ⟨fI, cda, cc, qual, params, body, scope, kV, doc, pm, ct, oc, an, od, osl, lk, hcd, iT, S, fi, ti, bi⟩ := T.ini
  have F := fn_sup (P := X.prog) (w := X.w) (base := X.base) (CX := CX0) lk hcd iT S T.ms
  exact pmk_oex (X := X) (p := p) (pos := pos) (x := nm) S.cls fi ti F (hr.mono hj) bi .nil (fun _ _ _ _ _ _ _ z => z.elim) hg T.gC (pa_cons he pa_nil hs) hdb hs
theorem mkv {C : Addr} {x : Str} {v : V} {H1 : Hp} {Q : XK} (h : ∀ d, H1 d = none → Q (.ref C) (some d) (upd H1 d (.xd [(x, v)]))) : [v].length ≤ 1000 ∧ ∀ a, H1 a = none → spIni C x (.ref a :: ([v] ++ [])) (upd H1 a (exo a C none))
    (fun v H2 => v = .non ∧ ∃ (d : Addr) (fs : List (Str × V)), H2 a = some (exo a C (some d)) ∧ H2 d = some (exd d fs) ∧ H1 d = none ∧ Q (.ref C) (some d) (upd (del H2 a) d (.xd fs))) (fun _ _ _ => False) := by
  refine ⟨by show 1 ≤ 1000; decide, fun a ha => ⟨a, v, rfl, upd_same, fun dx hx hne => ⟨rfl, dx, [(x, v)], upd_same, ?_, ?_, ?_⟩⟩⟩
  · rw [upd_ne hne, upd_same]
  · rw [upd_ne hne] at hx
    exact hx
  · rw [back_to ha hne]
    rw [upd_ne hne] at hx
    exact h dx hx
/-! ### isinstance of a caught exception that has its dict -/
/-- in the suite -/
def rIsV (K : PySem.W.Frag) (D a dd : Addr) : List V → Hp → VK → Prop := fun xs H Q => ∃ (c : V) (cv : Value) (b : Bool) (fs : List (Str × V)), xs = [.ref a, c] ∧ (∀ u, RelV c u → u = cv) ∧ PySem.W.kitOne K (.ref D) cv = some b ∧ H dd = some (.xd fs) ∧ Q (.bl b) H
theorem call_isV {X : Cx} {a D dd : Addr} {oe : Obj} {pn : List (Addr × Obj)} (C : ExcC X.K D) (hz : Zc (.ref D) (some dd) oe) (hf : ∃ vs, oe.data = .fields vs) : CallR (X.suite a ((a, oe) :: pn)) (.builtin "isinstance") (rIsV X.K D a dd) := by
  intro pins s σ H xs us Q I r h
  obtain ⟨c, cv, b, fs, rfl, hcv, e, ed, q⟩ := h
  cases r with
  | cons rx rr =>
    cases rr with
    | cons rt rr =>
      cases rr
      cases rx
      obtain ⟨ge, _⟩ := I.pin (a, oe) (List.mem_append.mpr (.inl List.mem_cons_self))
      obtain ⟨vs, hv⟩ := hf
      obtain ⟨mA, hns, _⟩ := (show ObjOk X.prog X.w H s.heap dd (.xd fs) from I.hok dd _ ed)
      obtain ⟨od, _, _, ho, _⟩ := hns
      have J : PySem.W.InstAt s.heap a oe D (some od) := by
        obtain ⟨oc, od', oda, osl⟩ := oe
        obtain ⟨h1, h2⟩ := hz
        dsimp only at h1 h2 hv
        subst h1 h2 hv
        exact ⟨ge, rfl, rfl, ho⟩
      have hcl : (PySem.W.clsIn X.K D).isSome = true := by
        obtain ⟨cd, hc, _⟩ := PySem.W.any_some C.hd
        rw [hc]
        rfl
      have kx := PySem.W.kitx_exc (x := a) (ox := oe) (od := some od) hcl C.hg C.hk C.hs C.ha C.hn C.ht C.hm
      have ec := hcv _ rt
      subst ec
      exact PySem.W.kia_one kx I.kIn J e (fun z => nomatch z) fun tk => ⟨.bl b, H, I.kept (t' := tk) fun _ _ z => z, rfl, q⟩
end
end Lf
namespace Lf
open PySem PySem.Spec PyProof.Rows L2
/-! ### data of any kind -/
mutual
inductive Dv (H : Hp) : V → PyData → Prop
  | non : Dv H .non .none
  | bl (b : Bool) : Dv H (.bl b) (.bool b)
  | int (i : Int) : Dv H (.int i) (.int i)
  | str (x : Str) : Dv H (.str x) (.str x)
  | lst {a : Addr} {xs : List V} {ds : List PyData} : a ≠ 1 → H a = some (.lst xs) → DvAll H xs ds → Dv H (.ref a) (.list ds)
  | tup {a : Addr} {xs : List V} {ds : List PyData} : H a = some (.tup xs) → DvAll H xs ds → Dv H (.ref a) (.tuple ds)
  | dk0 {a : Addr} : H a = some (.dK []) → Dv H (.ref a) (.dict [])
  | dk1 {a : Addr} {x : Str} {v : V} {d : PyData} : H a = some (.dK [(Sum.inr x, v)]) → Dv H v d → Dv H (.ref a) (.dict [(.str x, d)])
inductive DvAll (H : Hp) : List V → List PyData → Prop
  | nil : DvAll H [] []
  | cons {v : V} {vs : List V} {d : PyData} {ds : List PyData} : Dv H v d → DvAll H vs ds → DvAll H (v :: vs) (d :: ds)
end
/-- what such data leans on stays -/
structure Kp (H H' : Hp) : Prop where
  l : ∀ b xs, H b = some (.lst xs) → H' b = some (.lst xs)
  t : ∀ b xs, H b = some (.tup xs) → H' b = some (.tup xs)
  d0 : ∀ b, H b = some (.dK []) → H' b = some (.dK [])
  d1 : ∀ b x v, H b = some (.dK [(Sum.inr x, v)]) → H' b = some (.dK [(Sum.inr x, v)])
theorem Fr.kp {H H' : Hp} (f : Fr H H') : Kp H H' := ⟨f.l, f.t, f.d0, fun b x v h => f.k _ _ h fun _ z => by cases z⟩
theorem ext_kp {H H' : Hp} (e : LamX.ExtN H H') : Kp H H' := ⟨fun _ _ h => e _ _ h (fun _ z => by cases z), fun _ _ h => e _ _ h (fun _ z => by cases z), fun _ h => e _ _ h (fun _ z => by cases z), fun _ _ _ h => e _ _ h (fun _ z => by cases z)⟩
mutual
theorem Dv.kp {H H' : Hp} (f : Kp H H') : ∀ (d : PyData) (v : V), Dv H v d → Dv H' v d
  | .none, _, .non => .non
  | .bool _, _, .bl b => .bl b
  | .int _, _, .int i => .int i
  | .str _, _, .str x => .str x
  | .list ds, _, .lst n h hs => .lst n (f.l _ _ h) (Dv.kpAll f ds _ hs)
  | .tuple ds, _, .tup h hs => .tup (f.t _ _ h) (Dv.kpAll f ds _ hs)
  | .dict [], _, .dk0 h => .dk0 (f.d0 _ h)
  | .dict [(.str _, d)], _, .dk1 h h2 => .dk1 (f.d1 _ _ _ h) (Dv.kp f d _ h2)
theorem Dv.kpAll {H H' : Hp} (f : Kp H H') : ∀ (ds : List PyData) (vs : List V), DvAll H vs ds → DvAll H' vs ds
  | [], _, .nil => .nil
  | d :: ds, _, .cons h hs => .cons (Dv.kp f d _ h) (Dv.kpAll f ds _ hs)
end
theorem Dv.fr {H H' : Hp} (f : Fr H H') (d : PyData) (v : V) (h : Dv H v d) : Dv H' v d := Dv.kp f.kp d v h
section
variable {X : Cx} {pins : List (Addr × Obj)} {σ : L2.St} {H : Hp} {s : Shared}
mutual
theorem Dv.reads (I : Inv X pins σ H s) : ∀ (d : PyData) (v : V) (u : Value), Dv H v d → RelV v u → ∃ as, Reads s.heap u d as ∧ sysModules ∉ as
  | .none, _, _, .non, r => by
    cases r
    exact ⟨_, Reads.none, by simp⟩
  | .bool b, _, _, .bl _, r => by
    cases r
    exact ⟨_, Reads.bool b, by simp⟩
  | .int i, _, _, .int _, r => by
    obtain ⟨t, rfl⟩ := r
    exact ⟨_, Reads.int i t, by simp⟩
  | .str x, _, _, .str _, r => by
    obtain ⟨t, rfl⟩ := r
    exact ⟨_, Reads.str x t, by simp⟩
  | .list ds, _, _, .lst n1 h hs, r => by
    cases r
    obtain ⟨its, rv, ⟨o, n, ho, hc, _, hd⟩, _⟩ := I.list (SqL.of h)
    obtain ⟨as, hr, ns⟩ := Dv.readsAll I ds _ its hs rv
    exact ⟨_, Reads.list ho hc hd hr, fun z => (List.mem_cons.mp z).elim (fun e => n1 e.symm) ns⟩
  | .tuple ds, _, _, .tup h hs, r => by
    cases r
    obtain ⟨its, rv, ⟨o, ho, hc, n, hd⟩, _⟩ := I.tuple (SqT.of h)
    obtain ⟨as, hr, ns⟩ := Dv.readsAll I ds _ its hs rv
    exact ⟨_, Reads.tuple ho hc hd hr, ns⟩
  | .dict [], _, _, .dk0 (a := a) h, r => by
    cases r
    obtain ⟨_, hne, vs, kv, o, es, ep, ho, hx, hd, hk, hp, hn⟩ := (show ObjOk X.prog X.w H s.heap a (.dK []) from I.hok a _ h)
    cases kv
    have he : es.toList = [] := by
      cases hE : es.toList with
      | nil => rfl
      | cons x y => rw [hE] at hp; cases hp
    refine ⟨_, Reads.dict (kvs := []) ho hx.1 hd (by rw [he]; exact .nil) (by rw [he]; exact .nil), ?_⟩
    intro z
    have z' : sysModules = a := by simpa using z
    rw [z'] at hne
    simp at hne
  | .dict [(.str x, d)], _, _, .dk1 (a := a) (v := v) h h2, r => by
    cases r
    obtain ⟨_, hne, vs, kv, o, es, ep, ho, hx, hd, hk, hp, hn⟩ := (show ObjOk X.prog X.w H s.heap a (.dK [(Sum.inr x, v)]) from I.hok a _ h)
    cases kv with
    | @cons _ q _ _ k1 k2 =>
      cases k2
      obtain ⟨qk, qv⟩ := q
      obtain ⟨ek, rv⟩ := k1
      dsimp only at ek rv
      subst ek
      obtain ⟨as, hr, ns⟩ := Dv.reads I d v qv h2 rv
      have hE : ∃ e t, es.toList = [e] ∧ e.key = .str x t ∧ e.val = qv := by
        generalize es.toList = l at hp
        cases hp with
        | @cons e _ es' _ hi hv hr =>
          cases hr
          rcases keyIs_shape (show keyIs (Sum.inr x) e.key = true from hi) with ⟨i, t, z, _⟩ | ⟨y, t, z, ev⟩
          · cases z
          · cases z
            exact ⟨e, t, rfl, ev, hv⟩
      obtain ⟨e, t, hE1, hE2, hE3⟩ := hE
      have q1 : ReadsAll s.heap (es.toList.map (·.key)) [PyData.str x] ([] ++ []) := by
        rw [hE1]
        simp only [List.map_cons, List.map_nil]
        rw [hE2]
        exact .cons (Reads.str x t) .nil
      have q2 : ReadsAll s.heap (es.toList.map (·.val)) [d] (as ++ []) := by
        rw [hE1]
        simp only [List.map_cons, List.map_nil]
        rw [hE3]
        exact .cons hr .nil
      refine ⟨_, Reads.dict (kvs := [(.str x, d)]) ho hx.1 hd q1 q2, fun z => ?_⟩
      have z' : sysModules = a ∨ sysModules ∈ as := by simpa using z
      rcases z' with z' | z'
      · rw [z'] at hne
        simp at hne
      · exact ns z'
theorem Dv.readsAll (I : Inv X pins σ H s) : ∀ (ds : List PyData) (vs : List V) (us : List Value), DvAll H vs ds → Vals vs us → ∃ as, ReadsAll s.heap us ds as ∧ sysModules ∉ as
  | [], _, _, .nil, r => by
    cases r
    exact ⟨_, ReadsAll.nil, by simp⟩
  | d :: ds, _, _, .cons h1 h2, r => by
    cases r with
    | cons r1 r2 =>
      obtain ⟨as, q1, n1⟩ := Dv.reads I d _ _ h1 r1
      obtain ⟨bs, q2, n2⟩ := Dv.readsAll I ds _ _ h2 r2
      exact ⟨_, ReadsAll.cons q1 q2, fun z => (List.mem_append.mp z).elim n1 n2⟩
end
end
/-- repr of such data -/
theorem repr_any {X : Cx} (gd : X.A.guards = some []) (hu : X.A.units + 70 < cLine) : CallR X (.builtin "repr") (fun xs H Q => ∃ (v : V) (d : PyData), xs = [v] ∧ Dv H v d ∧ d.showable = true ∧ d.depth ≤ 60 ∧ d.shown.length ≤ sizeLine ∧ Q (.str d.shown) H) := by
  intro pins s σ H xs us Q I rel h
  obtain ⟨v, d, rfl, dp, sw, dd, sz, hq⟩ := h
  obtain ⟨u, hu1, ru⟩ := vals1 rel
  subst hu1
  obtain ⟨as, rd, hsm⟩ := Dv.reads I d v u dp ru
  have big : ∀ a, u = Value.ref a → wpAny (model X.prog X.w) X.A (call (.builtin "repr") [u]) (EP X pins σ Q) X.xe s := fun a ea => by
    subst ea
    refine repr_of_reads' rd sw (fun _ => hsm) gd (by omega) (fun _ _ e => e) (fun h' u tk hk => ?_) sz
    exact ⟨.str d.shown, H, I.kept hk, ⟨u, rfl⟩, hq⟩
  cases dp with
  | non =>
    have eu : u = Value.none := ru
    subst eu
    exact PySem.P.repr_of_none ⟨.str "None", H, I.tok _, ⟨_, rfl⟩, hq⟩
  | bl b =>
    have eu : u = Value.bool b := ru
    subst eu
    refine PySem.P.repr_of_bool ⟨.str (if b then "True" else "False"), H, I.tok _, ⟨_, rfl⟩, ?_⟩
    cases b <;> exact hq
  | int i =>
    obtain ⟨t, rfl⟩ := ru
    refine PySem.P.repr_of_int (by simpa [PyData.showable] using sw) ⟨.str (toString i), H, I.tok _, ⟨_, rfl⟩, hq⟩
  | str x =>
    obtain ⟨t, rfl⟩ := ru
    exact PySem.P.repr_of_str ⟨.str (reprText x), H, I.tok _, ⟨_, rfl⟩, hq⟩ sz
  | lst _ h hs => exact big _ ru
  | tup h hs => exact big _ ru
  | dk0 h => exact big _ ru
  | dk1 h h2 => exact big _ ru
/-- the name of its type -/
def tyN : PyData → String
  | .none => "NoneType"
  | .bool _ => "bool"
  | .int _ => "int"
  | .str _ => "str"
  | .list _ => "list"
  | .tuple _ => "tuple"
  | .dict _ => "dict"
def isB : PyData → Bool
  | .bool _ => true
  | _ => false
def isIB : PyData → Bool
  | .bool _ => true
  | .int _ => true
  | _ => false
/-- an integer, not a bool -/
def isI : PyData → Bool
  | .int _ => true
  | _ => false
theorem Dv.ty {K : PySem.W.Frag} {H : Hp} {v : V} {d : PyData} (h : Dv H v d) : TyX K H v (.type (tyN d)) := by
  cases h with
  | non => exact .base .non
  | bl b => exact .base (.bl b)
  | int i => exact .base (.int i)
  | str x => exact .base (.str x)
  | lst _ h _ => exact .base (.lst h)
  | tup h _ => exact .base (.tup h)
  | dk0 h => exact .base (.dK h)
  | dk1 h _ => exact .base (.dK h)
theorem kit_int (d : PyData) : kitB (tyN d) "int" = some (isIB d) := by
  cases d
  · show kitB "NoneType" "int" = some false; decide +kernel
  · show kitB "bool" "int" = some true; decide +kernel
  · show kitB "int" "int" = some true; decide +kernel
  · show kitB "str" "int" = some false; decide +kernel
  · show kitB "list" "int" = some false; decide +kernel
  · show kitB "tuple" "int" = some false; decide +kernel
  · show kitB "dict" "int" = some false; decide +kernel
theorem kit_bool (d : PyData) : kitB (tyN d) "bool" = some (isB d) := by
  cases d
  · show kitB "NoneType" "bool" = some false; decide +kernel
  · show kitB "bool" "bool" = some true; decide +kernel
  · show kitB "int" "bool" = some false; decide +kernel
  · show kitB "str" "bool" = some false; decide +kernel
  · show kitB "list" "bool" = some false; decide +kernel
  · show kitB "tuple" "bool" = some false; decide +kernel
  · show kitB "dict" "bool" = some false; decide +kernel
/-- a new list is not where the modules are -/
def tLst1 (t : TA) : TE := fun σ H Q => t σ H fun xs H1 => xs.length ≤ sizeLine ∧ ∀ l, H1 l = none → l ≠ 1 → Q (.ref l) (upd H1 l (.lst xs))
theorem pe_lst1 {X : Cx} {es : List Expr} {t : TA} {pos : Pos} (h : L2.PA X es t) : PE X (.List es pos) (tLst1 t) := by
  constructor
  intro pins s σ H Q I hq
  refine wpAny_List_spliced (thn (h.run pos pins s σ H _ I hq) fun us s1 ⟨xs, H1, J, r, z, q⟩ => ?_)
  refine ⟨r.length ▸ z, ?_⟩
  have fresh := J.hok.fresh (Nat.le_refl s1.heap.objs.size)
  have n1 : s1.heap.objs.size ≠ 1 := by
    obtain ⟨o, _, _, e, _⟩ := J.mod.glob
    have lt := Heap.lt_size (J.bk _ _ e)
    intro c
    rw [c] at lt
    exact absurd lt (by decide)
  refine ⟨.ref s1.heap.objs.size, upd H1 s1.heap.objs.size (.lst xs), ?_, rfl, q _ fresh n1⟩
  exact J.laid (t' := s1.toks) (fun b u e => Heap.get?_push_of_some _ e) (Nat.le_refl _) ⟨z, us, 0, r, Heap.get?_push_size _ rfl⟩
end Lf
namespace Lf
open PySem PySem.Spec PyProof.Rows L2
/-! ### enumerate of a tuple; of a list or a tuple -/
set_option maxHeartbeats 4000000 in
theorem meets_enum1 {v : Value} {o : Obj} {G : Heap → Prop} (B : Begins v o G) :
    Meets (Builtin.«enumerate.__new__» ⟨[.type "enumerate", v], []⟩) (fun _ R s => G s.heap ∧
      R (.ok (.ret (.ref (s.heap.push o).objs.size))) { s with heap := (s.heap.push o).push { cls := .type "enumerate", data := .fields #[.none, .bool false, .ref s.heap.objs.size, rawInt 0, .none, .none] } }) :=
  .of_wp fun prog w A R s h => by
    obtain ⟨hp, g, d, tk, os⟩ := s
    obtain ⟨h1, h⟩ := h
    have hsub := sub_enumerate
    have q1 : ∀ {A' : Around} {E : Value → Shared → Prop} {Q : Value → Shared → Prop}, Q (.ref hp.objs.size) ⟨hp.push o, g, d, tk, os⟩ → wpAny (model prog w) A' (pyIter v) Q E ⟨hp, g, d, tk, os⟩ :=
      fun q => B.iter prog w _ _ ⟨hp, g, d, tk, os⟩ _ h1 q
    wp_walk using q1
    refine wpAny_stack_any fun st => wpAny_pure ?_
    split
    · rename_i c _ _ _ _ _
      cases (c == Value.type "enumerate")
      · wp_walk using q1
        exact ⟨_, rfl, h⟩
      · wp_walk using q1
        exact ⟨_, rfl, h⟩
    · wp_walk using q1
      exact ⟨_, rfl, h⟩
theorem enum_begins1 {prog : Program} {w : World} {A : Around} {E : Value → Shared → Prop} {s : Shared} {v : Value} {o : Obj} {G : Heap → Prop} {Q : Value → Shared → Prop} (B : Begins v o G) (h1 : G s.heap)
    (h : ∀ h', IsEnum h' (s.heap.objs.size + 1) s.heap.objs.size 0 .none → h'.get? s.heap.objs.size = some o → h'.objs.size = s.heap.objs.size + 2 →
      (∀ b o, s.heap.get? b = some o → h'.get? b = some o) → Q (.ref (s.heap.objs.size + 1)) { s with heap := h' }) :
    wpAny (model prog w) A (call (.type "enumerate") [v]) Q E s := by
  refine callType_new F.called_enumerate (by decide) (F.typeCall_enumerate_1 _) (F.newCall_enumerate_1 _) (fun obj => F.args_object_init_2 obj _) F.entry_enumerate_new
    (meets_enum1 B) ⟨h1, ?_⟩
  have hz : (s.heap.push o).objs.size = s.heap.objs.size + 1 := Heap.size_push ..
  show _ ∧ _
  rw [hz]
  have he : IsEnum ((s.heap.push o).push { cls := .type "enumerate", data := .fields #[.none, .bool false, .ref s.heap.objs.size, rawInt 0, .none, .none] }) (s.heap.objs.size + 1) s.heap.objs.size 0 .none := by
    have := Heap.get?_push_size (s.heap.push o) (o := { cls := .type "enumerate", data := .fields #[.none, .bool false, .ref s.heap.objs.size, rawInt 0, .none, .none] }) rfl
    rw [hz] at this
    exact this
  exact ⟨⟨_, he, rfl⟩, h _ he (Heap.get?_push_of_some _ (Heap.get?_push_size _ B.free)) (by rw [Heap.size_push, hz]) fun b o x => Heap.get?_push_of_some _ (Heap.get?_push_of_some _ x)⟩
def IteT (K : PySem.W.Frag) (a : Addr) : It :=
  ⟨fun i H => ∃ (xs : List V) (x : V), SqT K H a xs ∧ xs[i]? = some x, fun i H v H' => ∃ T x, v = .ref T ∧ H T = none ∧ H' = upd H T (.tup [.int (i : Nat), x]) ∧ ∀ xs, SqT K H a xs → xs[i]? = some x, fun i H => ∃ xs : List V, SqT K H a xs ∧ xs.length = i⟩
theorem turn_enumT {P : Program} {w : World} {K : PySem.W.Frag} {elts : List Expr} {kk : Nat} {tpos : Pos} (a e it : Addr) (ne1 : e ≠ it) (ne2 : a ≠ it) (ne3 : e ≠ a) :
    Turn P w K (.Tuple elts kk tpos) (IteT K a) [e, it] e (fun i h => (∃ old, IsEnum h e it ((i : Nat) : Int) old) ∧ h.IsTupleIter it a i) where
  mem := by simp
  obj := fun i h st b hb => by
    obtain ⟨⟨old, he⟩, ⟨o, ho, hc, hd⟩⟩ := st
    have e' : b = e ∨ b = it := by simpa using hb
    rcases e' with z | z
    · rw [z]; exact ⟨_, he, fun v q => nomatch q⟩
    · rw [z]; exact ⟨o, ho, fun v q => by rw [hd] at q; cases q⟩
  keep := fun i h h' st k => let ⟨⟨old, he⟩, hi⟩ := st; ⟨⟨old, k e (by simp) _ he⟩, hi.at fun o q => k it (by simp) o q⟩
  item := by
    intro X hP hw hK hc i pins s σ H E I hf st hg
    subst hP hw hK
    obtain ⟨⟨old, he⟩, hit⟩ := st
    obtain ⟨xs, x, hq, hx⟩ := hg
    obtain ⟨its, rv, p, hz⟩ := I.tuple hq
    obtain ⟨u, hu, ru⟩ := rv.get hx
    have hel : e < s.heap.objs.size := Heap.lt_size he
    have hil : it < s.heap.objs.size := by obtain ⟨_, q, _⟩ := hit; exact Heap.lt_size q
    have hlt : i < its.toArray.size := by
      have := (List.getElem?_eq_some_iff.mp hu).1
      simpa using this
    have D := Draws.tuple (prog := X.prog) (w := X.w) (A := X.A.in1) (I.ok.hd hc) it a ne2 its.toArray
    refine wpAny_pyNext_enum_itemD D he ⟨hit, p⟩ hlt ne1 (by simp [ne1, ne3]) fun x' h' tk hP ho hit' hT hsz hk => ?_
    have eu : x' = u := by
      have hP : its.toArray[i]? = some x' := hP
      rw [show its.toArray[i]? = some u by simpa using hu] at hP
      exact (Option.some.inj hP).symm
    subst eu
    refine ⟨_, rfl, wpAny_letOwnedTupleGo_enum (s := { s with heap := h', toks := tk + 1 }) ho fun h'' he' sb => ?_⟩
    have hT2 : h''.get? s.heap.objs.size = some { cls := .type "tuple", data := .seq #[.int i tk, x'] } := (sb.2 _ (Nat.ne_of_gt hel)).trans hT
    have new : ObjOk X.prog X.w (upd H s.heap.objs.size (.tup [.int (i : Nat), x])) h'' s.heap.objs.size (.tup [.int (i : Nat), x]) :=
      ⟨by show 2 ≤ sizeLine; decide, [.int i tk, x'], .cons ⟨_, rfl⟩ (.cons ru .nil), ⟨_, hT2, rfl, _, rfl⟩⟩
    have I1 : Inv X pins σ (upd H s.heap.objs.size (.tup [.int (i : Nat), x])) { s with heap := h'', toks := tk + 1 } :=
      I.turnedNew (ch := [e, it]) (fun b ob hb q => (sb.2 b (fun z => hb (by simp [z]))).trans (hk b ob (fun z => hb (by simp [z])) (fun z => hb (by simp [z])) q)) hf (Nat.le_refl _) new
    refine ⟨.ref s.heap.objs.size, _, I1, rfl, ⟨_, x, rfl, I.hok.fresh (Nat.le_refl _), rfl, fun ys hy => by rw [I.tuple_inj hy hq]; exact hx⟩, ⟨⟨x', ?_⟩, hit'.1.at fun o q => (sb.2 it (Ne.symm ne1)).trans q⟩, fun b hb => ?_⟩
    · have e1 : ((i + 1 : Nat) : Int) = (i : Int) + 1 := by omega
      rw [e1]; exact he'
    · have hb' : b < s.heap.objs.size := by
        have e' : b = e ∨ b = it := by simpa using hb
        rcases e' with z | z
        · rw [z]; exact hel
        · rw [z]; exact hil
      rw [upd_ne (Nat.ne_of_lt hb')]
      exact (hf b hb).1
  done := by
    intro X hP hw hK hc i pins s σ H E I hf st hg
    subst hP hw hK
    obtain ⟨⟨old, he⟩, hit⟩ := st
    obtain ⟨xs, hq, hx⟩ := hg
    obtain ⟨its, rv, p, hz⟩ := I.tuple hq
    obtain ⟨f0, f1, f2, f3, f4, f5⟩ := hf it (by simp)
    have hl := rv.length
    have ei : i = its.toArray.size := by
      simp
      omega
    have D := Draws.tuple (prog := X.prog) (w := X.w) (A := X.A.in1) (I.ok.hd hc) it a ne2 its.toArray
    refine wpAny_pyNext_enum_endD D he ⟨ei ▸ hit, p⟩ fun h' eb => ⟨rfl, I.turned (t' := s.toks) (fun b o hb q => eb b o hb q) f0 f1 f3 f4 f5⟩
  self := fun A i s Q E st h => let ⟨⟨_, he⟩, _⟩ := st; wpAny_pyIter_enum he h
/-! ### a list or a tuple -/
def SqB (K : PySem.W.Frag) : Bool → Hp → Addr → List V → Prop
  | true => SqL K
  | false => SqT K
def sqO : Bool → List V → HO
  | true, xs => .lst xs
  | false, xs => .tup xs
theorem SqB.of {K : PySem.W.Frag} {b : Bool} {H : Hp} {a : Addr} {xs : List V} (h : H a = some (sqO b xs)) : SqB K b H a xs := by
  cases b
  · exact SqT.of h
  · exact SqL.of h
def Itb (K : PySem.W.Frag) : Bool → Addr → It
  | true => Itl K
  | false => Itt K
def IteB (K : PySem.W.Frag) : Bool → Addr → It
  | true => Ite K
  | false => IteT K
theorem walk_seq {K : PySem.W.Frag} {b : Bool} {a : Addr} {xs : List V} : Walk (Itb K b a) xs.length (fun H => SqB K b H a xs) (YAt xs) := by
  cases b
  · exact walk_tup
  · exact walk_list
theorem walk_enumT {K : PySem.W.Frag} {a : Addr} {xs : List V} : Walk (IteT K a) xs.length (fun H => SqT K H a xs) (YPair (fun i => some (.int (i : Nat))) (fun i => xs[i]?)) := by
  refine ⟨fun i _ hi q => ⟨xs, xs[i], q, by simp [hi]⟩, fun _ q => ⟨xs, q, rfl⟩, fun i H v H' _ q y => ?_⟩
  obtain ⟨T, x, h1, h2, h3, h4⟩ := y
  exact ⟨T, .int (i : Nat), x, h1, h2, h3, rfl, h4 xs q⟩
theorem walk_enumB {K : PySem.W.Frag} {b : Bool} {a : Addr} {xs : List V} : Walk (IteB K b a) xs.length (fun H => SqB K b H a xs) (YPair (fun i => some (.int (i : Nat))) (fun i => xs[i]?)) := by
  cases b
  · exact walk_enumT
  · exact walk_enum
def iSeq (K : PySem.W.Frag) (tl : TE) : TI := fun σ H R => tl σ H fun x H1 => ∃ a b xs, x = .ref a ∧ SqB K b H1 a xs ∧ R (Itb K b a) H1
theorem pi_seq {X : Cx} {tg l : Expr} {tl : TE} (hl : PE X l tl) : PI X tg l (iSeq X.K tl) := by
  refine ⟨fun pins s σ H R I h => ?_⟩
  refine thn (hl.run pins s σ H _ I h) fun v s1 ⟨x, H1, I1, r1, q1⟩ => ?_
  obtain ⟨a, b, xs, e, hq, q⟩ := q1
  subst e
  cases r1
  cases b with
  | true =>
    obtain ⟨its, rv, p, hz⟩ := I1.list hq
    refine wpAny_pyIter_list p.isList ?_
    refine ⟨s1.heap.objs.size, [s1.heap.objs.size], _, _, H1, rfl, I1.kept (t' := s1.toks) fun b o e => Heap.get?_push_of_some _ e, turn_list a _, ⟨_, Heap.get?_push_size _ rfl, rfl, rfl⟩, fun b hb => ?_, q⟩
    have e : b = s1.heap.objs.size := by simpa using hb
    subst e
    exact I1.fpOk (Nat.le_refl _) (I1.hok.fresh (Nat.le_refl _))
  | false =>
    obtain ⟨its, rv, p, hz⟩ := I1.tuple hq
    refine wpAny_pyIter_tuple (show s1.heap.IsTuple a its.toArray from p) ?_
    refine ⟨s1.heap.objs.size, [s1.heap.objs.size], _, _, H1, rfl, I1.kept (t' := s1.toks) fun b o e => Heap.get?_push_of_some _ e, turn_tuple a _, ⟨_, Heap.get?_push_size _ rfl, rfl, rfl⟩, fun b hb => ?_, q⟩
    have e : b = s1.heap.objs.size := by simpa using hb
    subst e
    exact I1.fpOk (Nat.le_refl _) (I1.hok.fresh (Nat.le_refl _))
def iEnumB (K : PySem.W.Frag) (ta : TA) : TI := fun σ H R => ta σ H fun vs H1 => ∃ a b xs, vs = [.ref a] ∧ SqB K b H1 a xs ∧ R (IteB K b a) H1
theorem pi_enumB {X : Cx} {e : Expr} {ta : TA} {p pos tpos : Pos} {elts : List Expr} {kk : Nat} (hg : Gl X "enumerate") (hm : X.mg "enumerate" = none) (ha : L2.PA X [e] ta) (hs : starEach [e] X.env = [(false, eval e X.env)] := by rfl) :
    PI X (.Tuple elts kk tpos) (.Call (.Name "enumerate" p) [e] [] pos) (iEnumB X.K ta) := by
  refine ⟨fun pins s σ H R I h => ?_⟩
  refine Call_ (ld_blt I hg hm boot_enumerate (PyProof.Rows.callWith_type1 (thn (ha.run pos pins s σ H _ I h) fun us s1 ⟨vs, H1, I1, r1, q1⟩ => ?_) hs rfl))
  obtain ⟨a, b, xs, ex, hq, q⟩ := q1
  subst ex
  cases r1 with
  | cons r rr =>
    cases rr
    cases r
    cases b with
    | true =>
      obtain ⟨its, rv, p', hz⟩ := I1.list hq
      refine call_enumerate_list p'.isList fun h' he hit hsz hk => wpAny_pyIter_enum he ?_
      have I2 : Inv X pins σ H1 { s1 with heap := h' } := I1.kept (t' := s1.toks) hk
      refine ⟨s1.heap.objs.size + 1, [s1.heap.objs.size + 1, s1.heap.objs.size], _, _, H1, rfl, I2, turn_enum a (s1.heap.objs.size + 1) s1.heap.objs.size, ⟨⟨.none, he⟩, hit, Nat.succ_ne_self _⟩, fun b hb => ?_, q⟩
      have e' : b = s1.heap.objs.size + 1 ∨ b = s1.heap.objs.size := by simpa using hb
      have hle : s1.heap.objs.size ≤ b := by
        rcases e' with z | z
        · rw [z]; exact Nat.le_add_right _ _
        · rw [z]; exact Nat.le_refl _
      exact I1.fpOk hle (I1.hok.fresh hle)
    | false =>
      obtain ⟨its, rv, p', hz⟩ := I1.tuple hq
      have hal : a < s1.heap.objs.size := by
        obtain ⟨_, q, _⟩ := p'
        exact Heap.lt_size q
      refine enum_begins1 (begins_tuple a its.toArray) p' fun h' he hit hsz hk => wpAny_pyIter_enum he ?_
      have I2 : Inv X pins σ H1 { s1 with heap := h' } := I1.kept (t' := s1.toks) hk
      refine ⟨s1.heap.objs.size + 1, [s1.heap.objs.size + 1, s1.heap.objs.size], _, _, H1, rfl, I2, turn_enumT a (s1.heap.objs.size + 1) s1.heap.objs.size (Nat.succ_ne_self _) (Nat.ne_of_lt hal) (Nat.ne_of_gt (Nat.lt_succ_of_lt hal)), ⟨⟨.none, he⟩, ⟨_, hit, rfl, rfl⟩⟩, fun b hb => ?_, q⟩
      have e' : b = s1.heap.objs.size + 1 ∨ b = s1.heap.objs.size := by simpa using hb
      have hle : s1.heap.objs.size ≤ b := by
        rcases e' with z | z
        · rw [z]; exact Nat.le_add_right _ _
        · rw [z]; exact Nat.le_refl _
      exact I1.fpOk hle (I1.hok.fresh hle)
end Lf
namespace Lf
open PySem PySem.Spec PyProof.Rows L2
section
variable {P : Program} {w : World} {K : PySem.W.Frag} {mg : Str → Option Value} {base : Heap}
/-! ### _law_draw -/
theorem at_mod (cs : List Int) (t : Int) (h : cs ≠ []) : ∃ c, atI (cs.map V.int) (t % ((cs.map V.int).length : Int)) = some (.int c) := by
  have hl : 0 < cs.length := List.length_pos_iff.mpr h
  rw [List.length_map]
  have h0 := Int.emod_nonneg t (show (cs.length : Int) ≠ 0 by omega)
  have h1 := Int.emod_lt_of_pos t (show (0 : Int) < cs.length by omega)
  generalize t % (cs.length : Int) = i at h0 h1
  obtain ⟨j, rfl⟩ := Int.eq_ofNat_of_zero_le h0
  have hj : j < cs.length := by omega
  refine ⟨cs[j], atI_nat ?_⟩
  rw [List.getElem?_map, List.getElem?_eq_getElem hj]
  rfl
theorem dp_ints {K : PySem.W.Frag} {H : Hp} : ∀ cs : List Int, DpAll K H (cs.map V.int) (cs.map PyData.int)
  | [] => .nil
  | c :: r => .cons (.int c) (dp_ints r)
theorem sh_ints (cs : List Int) : SeqAt.shaped (.list (cs.map PyData.int)) = true := by
  have h : ∀ cs : List Int, PyData.canLayAll0 (cs.map PyData.int) = true ∧ PyData.depthAll (cs.map PyData.int) = 0 := by
    intro cs
    induction cs with
    | nil => exact ⟨rfl, rfl⟩
    | cons c r ih => exact ⟨by simpa [PyData.canLayAll0, PyData.canLay0] using ih.1, by simpa [PyData.depthAll, PyData.depth] using ih.2⟩
  simp [SeqAt.shaped, PyData.canLay0, PyData.depth, (h cs).1, (h cs).2]
def spDraw : Sp := fun vs H Q _ => ∃ (a : PA) (n : Nat) (many : Int), vs = [.ref a, .int many] ∧ Pen H a n ∧ n < 2 ^ 40 ∧ 0 < many ∧ Bd 9000 many ∧
  ∀ d H', 0 ≤ d → d < many → Pen H' a (n + 1) → Fr H H' → Q (.int d) H'
end
end Lf
namespace Lf
open PySem PySem.Spec PyProof.Rows L2
section
variable {P : Program} {w : World} {K : PySem.W.Frag} {mg : Str → Option Value} {base : Heap}
abbrev s_l_draw : Stmt := topS 43
abbrev N_l_draw : List Str := ["_law_pen_here", "_law_many", "_law_digit", "_law_spot", "_law_cell", "_law_mix"]
abbrev P_l_draw : List Str := ["_law_pen_here", "_law_many"]
theorem sc_l_draw : FnScope N_l_draw P_l_draw (defScope s_l_draw) := ⟨rfl, rfl, rfl, by decide +kernel, rfl, by decide +kernel, by decide +kernel⟩
theorem ok_l_draw (D : Df K mg "_law_draw" s_l_draw P_l_draw) (B : Bi mg) : C8.Cal P w K mg base 1 "_law_draw" spDraw [] := by
  refine cal_of D sc_l_draw (fun vs H Q E h => ?_) (fun f cdv A outer s H vs Q E hr h => ?_)
  · obtain ⟨a, n, many, rfl, _⟩ := h
    rfl
  · obtain ⟨⟨a, l⟩, n, many, rfl, hP, hn, h0, hb, q⟩ := h
    have hu := hu_of hr
    have hd : CDivW 0 many := ⟨h0, hb.log (by decide)⟩
    obtain ⟨cs, t, r, ea, el, hl, ht0, htn, hr0⟩ := hP.ex
    have ea : H a = some (.dK (penD l t r)) := ea
    have el : H l = some (.lst (cs.map V.int)) := el
    refine ⟨_, (pss_cons (ps_if (pt_cmpR op_gt (pe_dget hu (pv 0) pe_str (fun _ _ => rfl)) pe_int (nomark _))
      (pss_cons (ps_set (i := 2) sc_l_draw.nd rfl (Or.inl rfl) (pe_op op_mod (pe_dget hu (pv 0) pe_str (fun _ _ => rfl)) (pv 1)))
    (pss_cons (ps_dput hu (pv 0) pe_str (pe_op op_fdivW (pe_dget hu (pv 0) pe_str (fun _ _ => rfl)) (pv 1)) rfl)
    (pss_one (ps_ret (pv 2)))))
      pss_nil)
    (pss_cons (ps_set (i := 3) sc_l_draw.nd rfl (Or.inl rfl) (pe_dget hu (pv 0) pe_str (fun _ _ => rfl)))
    (pss_cons (ps_dput hu (pv 0) pe_str (pe_op op_add (pv 3) pe_int) rfl)
    (C8.pss_cut (ps_set (i := 4) sc_l_draw.nd rfl (Or.inl rfl) (pe_ifExp (pt_cmpR (op_neD hr.units) (pe_dget hu (pv 0) pe_str (fun _ _ => rfl)) (pe_lst pa_nil) (nomark _)) (pe_ix (r := rIxL K) ix_list (pe_dget hu (pv 0) pe_str (fun _ _ => rfl)) (pe_op op_mod (pv 3) (pe_callB (call_len_seq) (by rfl) B.len_ bt_len (pa_cons (pe_dget hu (pv 0) pe_str (fun _ _ => rfl)) pa_nil))) (fun _ _ => rfl)) (pe_op op_add (pe_op op_mul pe_int (pv 3)) pe_int)))
    (C8.pss_cut (ps_if (PW.pt (pw_and (pt_cmpR op_lt (pv 3) (pe_callB (call_len_seq) (by rfl) B.len_ bt_len (pa_cons (pe_dget hu (pv 0) pe_str (fun _ _ => rfl)) pa_nil)) (nomark _)) (pw_and1 (pt_cmpR op_ge (pe_callB (call_abs) (by rfl) B.abs_ bt_abs (pa_cons (pv 4) pa_nil)) (pe_op op_pow pe_int pe_int) (nomark _)))))
      (pss_cons (ps_dput hu (pv 0) pe_str (pe_op op_fdivW (pe_op op_sub (pe_callB (call_abs) (by rfl) B.abs_ bt_abs (pa_cons (pv 4) pa_nil)) (pe_op op_pow pe_int pe_int)) (pv 1)) rfl)
    (pss_one (ps_ret (pe_op op_mod (pe_op op_sub (pe_callB (call_abs) (by rfl) B.abs_ bt_abs (pa_cons (pv 4) pa_nil)) (pe_op op_pow pe_int pe_int)) (pv 1)))))
      pss_nil)
    (pss_cons (ps_set (i := 5) sc_l_draw.nd rfl (Or.inl rfl) (pe_op op_mod (pe_op op_add (pe_op op_add (pe_op op_add (pe_op op_mul (pe_op op_mod (pv 4) pe_int) pe_int) (pe_op op_mul (pe_op op_mul pe_int (pv 3)) (pv 3))) (pe_op op_mul pe_int (pv 3))) pe_int) pe_int))
    (pss_cons (ps_set (i := 5) sc_l_draw.nd rfl (Or.inl rfl) (pe_op op_mod (pe_op op_add (pe_op op_add (pe_op op_add (pe_op op_mul (pv 5) (pv 5)) (pe_op op_mul pe_int (pv 5))) (pe_op op_mul pe_int (pv 3))) pe_int) pe_int))
    (pss_one (ps_ret (pe_op op_mod (pe_op op_fdiv (pe_op op_mod (pe_op op_mul (pv 5) (pe_op op_add (pv 5) pe_int)) pe_int) pe_int) (pv 1))))))))))), ?_⟩
    -- the rest > 0
    refine ⟨_, rfl, a, _, rfl, dg_rest ea, _, _, rfl, rfl, _, rfl, ite2 (fun e => ?_) (fun e => ?_)⟩
    · refine ⟨_, rfl, a, _, rfl, dg_rest ea, _, rfl, _, _, rfl, rfl, h0, ?_⟩
      refine ⟨_, rfl, a, _, rfl, dg_rest ea, _, rfl, _, _, rfl, rfl, hd, _, rfl, a, _, rfl, dp_rest ea, ?_⟩
      refine ⟨_, rfl, ?_⟩
      exact q _ _ (Int.emod_nonneg _ (by omega)) (Int.emod_lt_of_pos _ h0) (Pen.put ea el hl ht0 (by omega) (Int.ediv_nonneg hr0 (by omega))) (Fr.dict ea)
    · refine ⟨_, rfl, a, _, rfl, dg_turn ea, ?_⟩
      refine ⟨_, rfl, _, _, rfl, rfl, _, rfl, a, _, rfl, dp_turn ea, ?_⟩
      have ea1 : upd H a (.dK (penD l (t + 1) r)) a = some (.dK (penD l (t + 1) r)) := upd_same
      have nla : l ≠ a := ne_of el ea (by intro z; cases z)
      have el1 : upd H a (.dK (penD l (t + 1) r)) l = some (.lst (cs.map V.int)) := by rw [upd_ne nla]; exact el
      have f1 : Fr H (upd H a (.dK (penD l (t + 1) r))) := Fr.dict ea
      generalize upd H a (.dK (penD l (t + 1) r)) = H1 at ea1 el1 f1
      refine ⟨fun σ' H' => ∃ c : Int, σ' = [some (.ref a), some (.int many), none, some (.int t), some (.int c), none] ∧ Same H1 H', ?_, ?_⟩
      · refine ⟨_, rfl, a, _, rfl, dg_cells ea1, Nat.zero_le _, fun p np => ?_⟩
        have s1 : Same H1 (upd H1 p (.lst [])) := sm_upd np
        refine ⟨.list (cs.map PyData.int), .list [], Dp.lst (SqL.of (s1 _ _ el1)) (dp_ints cs), Dp.lst (SqL.of upd_same) .nil, sh_ints cs, rfl, _, rfl, ?_⟩
        by_cases hc : cs = []
        · subst hc
          refine iteF ?_
          refine ⟨_, rfl, _, _, rfl, rfl, .inl ⟨by decide, by decide⟩, _, _, rfl, rfl, ?_⟩
          exact ⟨_, rfl, s1⟩
        · obtain ⟨c, r', rfl⟩ : ∃ c r', cs = c :: r' := by
            cases cs with
            | nil => exact absurd rfl hc
            | cons c r' => exact ⟨c, r', rfl⟩
          refine iteT ?_
          obtain ⟨v, hv⟩ := at_mod (c :: r') t hc
          refine ⟨_, rfl, a, _, rfl, dg_cells (s1 _ _ ea1), _, rfl, _, rfl, a, _, rfl, dg_cells (s1 _ _ ea1), l, _, rfl, .inl (SqL.of (s1 _ _ el1)), _, _, rfl, rfl, ?_, l, _, _, _, rfl, rfl, SqL.of (s1 _ _ el1), hv, ?_⟩
          · show (0 : Int) < (((c :: r').map V.int).length : Int)
            rw [List.length_map, List.length_cons]
            omega
          · exact ⟨v, rfl, s1⟩
      · rintro σ' H2 ⟨c, rfl, s2⟩
        have ea2 := s2 _ _ ea1
        have el2 := s2 _ _ el1
        have f2 : Fr H H2 := f1.trans (Fr.same s2)
        refine ⟨fun σ' H' => σ' = [some (.ref a), some (.int many), none, some (.int t), some (.int c), none] ∧ H' = H2, ?_, ?_⟩
        · refine ⟨_, rfl, _, rfl, a, _, rfl, dg_cells ea2, l, _, rfl, .inl (SqL.of el2), _, _, rfl, rfl, _, rfl, ite2 (fun e1 => ?_) (fun e1 => ?_)⟩
          · refine ⟨_, rfl, _, rfl, _, _, rfl, rfl, ⟨by decide, by decide, by decide⟩, _, _, rfl, rfl, _, rfl, ite2 (fun e2 => ?_) (fun e2 => ?_)⟩
            · have e3 := of_decide_eq_true e2
              refine ⟨_, rfl, _, rfl, _, _, rfl, rfl, ⟨by decide, by decide, by decide⟩, _, _, rfl, rfl, _, rfl, _, _, rfl, rfl, hd, _, rfl, a, _, rfl, dp_rest ea2, ?_⟩
              refine ⟨_, rfl, _, rfl, _, _, rfl, rfl, ⟨by decide, by decide, by decide⟩, _, _, rfl, rfl, _, rfl, _, _, rfl, rfl, h0, ?_⟩
              exact q _ _ (Int.emod_nonneg _ (by omega)) (Int.emod_lt_of_pos _ h0) (Pen.put ea2 el2 hl (by omega) (by omega) (Int.ediv_nonneg (by omega) (by omega))) (f2.trans (Fr.dict ea2))
            · exact ⟨rfl, rfl⟩
          · exact iteF ⟨rfl, rfl⟩
        · rintro σ' H' ⟨rfl, rfl⟩
          refine ⟨_, rfl, _, _, rfl, rfl, (by show (0 : Int) < 2147483647; decide), _, _, rfl, rfl, .inr ⟨by decide, by decide⟩, _, rfl, _, _, rfl, rfl, .inl ⟨by decide, by decide⟩, _, rfl, _, _, rfl, rfl, .inr ⟨by omega, by omega⟩, _, _, rfl, rfl, _, rfl, _, _, rfl, rfl, .inl ⟨by decide, by decide⟩, _, _, rfl, rfl, _, _, rfl, rfl, _, _, rfl, rfl, (by show (0 : Int) < 2147483629; decide), ?_⟩
          have d0 := Int.emod_nonneg (c % 2147483647 * 69621 + 48271 * t * t + 30011 * t + 13) (show (2147483629 : Int) ≠ 0 by decide)
          have d1 := Int.emod_lt_of_pos (c % 2147483647 * 69621 + 48271 * t * t + 30011 * t + 13) (show (0 : Int) < 2147483629 by decide)
          dsimp only
          generalize (c % 2147483647 * 69621 + 48271 * t * t + 30011 * t + 13) % 2147483629 = x1 at d0 d1
          refine ⟨_, rfl, _, rfl, _, _, rfl, rfl, .inl ⟨by omega, by omega⟩, _, rfl, _, _, rfl, rfl, .inl ⟨by decide, by decide⟩, _, _, rfl, rfl, _, rfl, _, _, rfl, rfl, .inl ⟨by decide, by decide⟩, _, _, rfl, rfl, _, _, rfl, rfl, _, _, rfl, rfl, (by show (0 : Int) < 2147483587; decide), ?_⟩
          have d20 := Int.emod_nonneg (x1 * x1 + 40692 * x1 + 7 * t + 3) (show (2147483587 : Int) ≠ 0 by decide)
          have d21 := Int.emod_lt_of_pos (x1 * x1 + 40692 * x1 + 7 * t + 3) (show (0 : Int) < 2147483587 by decide)
          dsimp only
          generalize (x1 * x1 + 40692 * x1 + 7 * t + 3) % 2147483587 = x2 at d20 d21
          refine ⟨_, rfl, _, rfl, _, _, rfl, rfl, _, _, rfl, rfl, .inl ⟨by omega, by omega⟩, _, _, rfl, rfl, (by show (0 : Int) < 2147483579; decide), _, _, rfl, rfl, ⟨by decide, by decide⟩, _, rfl, _, _, rfl, rfl, h0, ?_⟩
          have hP2 : Pen H' ⟨a, l⟩ (n + 1) := ⟨cs, t + 1, r, ea2, el2, hl, by omega, by omega, hr0⟩
          exact q _ _ (Int.emod_nonneg _ (by omega)) (Int.emod_lt_of_pos _ h0) hP2 f2
end
end Lf
namespace Lf
open PySem PySem.Spec PyProof.Rows L2
section
variable {P : Program} {w : World} {K : PySem.W.Frag} {mg : Str → Option Value} {base : Heap}
/-! ### _law_pick -/
def spPick : Sp := fun vs H Q _ => ∃ (a : PA) (l : Addr) (n : Nat) (xs : List V), vs = [.ref a, .ref l] ∧ Pen H a n ∧ n < 2 ^ 40 ∧ H l = some (.lst xs) ∧ xs ≠ [] ∧ xs.length ≤ 1000 ∧
  ∀ x H', x ∈ xs → Pen H' a (n + 1) → Fr H H' → Q x H'
abbrev s_l_pick : Stmt := topS 44
abbrev N_l_pick : List Str := ["_law_pen_here", "_law_some"]
abbrev P_l_pick : List Str := ["_law_pen_here", "_law_some"]
theorem sc_l_pick : FnScope N_l_pick P_l_pick (defScope s_l_pick) := ⟨rfl, rfl, rfl, by decide +kernel, rfl, by decide +kernel, by decide +kernel⟩
theorem ok_l_pick (D : Df K mg "_law_pick" s_l_pick P_l_pick) (B : Bi mg) (c_l_draw : C8.Cal P w K mg base 1 "_law_draw" spDraw []) : C8.Cal P w K mg base 2 "_law_pick" spPick [] := by
  refine cal_of D sc_l_pick (fun vs H Q E h => ?_) (fun f cdv A outer s H vs Q E hr h => ?_)
  · obtain ⟨a, l, n, xs, rfl, _⟩ := h
    rfl
  · obtain ⟨a, l, n, xs, rfl, hP, hn, el, hx, hxl, q⟩ := h
    have hu := hu_of hr
    refine ⟨_, (pss_one (ps_ret (pe_ix (r := rIxL K) ix_list (pv 1) (C8.pe_c c_l_draw hr (by decide) (by rfl) (pa_cons (pv 0) (pa_cons (pe_callB (call_len_seq) (by rfl) B.len_ bt_len (pa_cons (pv 1) pa_nil)) pa_nil))) (fun _ _ => rfl)))), ?_⟩
    have hl : 0 < xs.length := List.length_pos_iff.mpr hx
    refine ⟨_, rfl, _, rfl, _, rfl, l, _, rfl, .inl (SqL.of el), a, n, _, rfl, hP, hn, by omega, Bd.small 20 (by omega) (by decide), fun d H' d0 d1 hP' f' => ?_⟩
    obtain ⟨j, rfl⟩ := Int.eq_ofNat_of_zero_le d0
    have hj : j < xs.length := by omega
    refine ⟨l, _, _, _, rfl, rfl, SqL.of (f'.l _ _ el), atI_nat (List.getElem?_eq_getElem hj), ?_⟩
    exact q _ _ (List.getElem_mem hj) hP' f'
end
end Lf
namespace Lf
open PySem PySem.Spec PyProof.Rows L2
theorem Bd.grow {k : Nat} {r d : Int} (h0 : 0 ≤ r) (h : Bd k r) (d0 : 0 ≤ d) (d1 : d < 10 ^ 6) : Bd (k + 20) (r * 10 ^ 6 + d) := by
  unfold Bd at *
  have e : (2 : Nat) ^ (k + 20) = 2 ^ k * 1048576 := by rw [Nat.pow_add]
  rw [e]
  generalize (2 : Nat) ^ k = m at h
  omega
/-- a rule, its numbers within k bits -/
structure RuleB (k : Nat) (p q c : Int) : Prop where
  p0 : 0 ≤ p
  q1 : 1 ≤ q
  g : Int.gcd p q = 1
  bp : Bd k p
  bq : Bd k q
  bc : Bd k c
theorem RuleB.mono {k j : Nat} {p q c : Int} (h : RuleB k p q c) (e : k ≤ j) : RuleB j p q c := ⟨h.p0, h.q1, h.g, h.bp.mono e, h.bq.mono e, h.bc.mono e⟩
theorem gcd_pos {p q : Int} (h : 1 ≤ q) : 0 < (Int.gcd p q : Int) := by
  have : 0 < Int.gcd p q := Int.gcd_pos_of_ne_zero_right _ (by omega)
  omega
theorem gcd_le {p q : Int} (h : 1 ≤ q) : (Int.gcd p q : Int) ≤ q := Int.le_of_dvd (by omega) (Int.gcd_dvd_right ..)
theorem low_rule {k : Nat} {p q c : Int} (h0 : 0 ≤ p) (h1 : 1 ≤ q) (bp : Bd k p) (bq : Bd k q) (bc : Bd k c) : RuleB k (p / (Int.gcd p q : Int)) (q / (Int.gcd p q : Int)) (c / (Int.gcd p q : Int)) := by
  have hg := gcd_pos (p := p) h1
  refine ⟨Int.ediv_nonneg h0 (by omega), ?_, ?_, bp.ediv hg, bq.ediv hg, bc.ediv hg⟩
  · exact Int.le_ediv_of_mul_le hg (by rw [Int.one_mul]; exact gcd_le h1)
  · have : 0 < Int.gcd p q := by omega
    exact Int.gcd_ediv_gcd_ediv_gcd this
/-- a new rule stands at r -/
abbrev tup3 (p q c : Int) : HO := .tup [.int p, .int q, .int c]
theorem low_rule' {k : Nat} {p q c : Int} (h0 : 0 ≤ p) (h1 : 1 ≤ q) (bp : Bd k p) (bq : Bd k q) (bc : Bd k c) : RuleB k (p / gg p q) (q / gg p q) (c / gg p q) := low_rule h0 h1 bp bq bc
theorem low_le {p q : Int} (h1 : 1 ≤ q) : q / (Int.gcd p q : Int) ≤ q := Int.ediv_le_self _ (by omega)
section
variable {P : Program} {w : World} {K : PySem.W.Frag} {mg : Str → Option Value} {base : Heap}
/-! ### _law_gcd, _law_lowest -/
def spGcd : Sp := fun vs H Q _ => ∃ (x y : Int), vs = [.int x, .int y] ∧ 0 ≤ x ∧ 0 ≤ y ∧ Q (.int (Int.gcd x y : Int)) H
def mu1 : L2.St → Hp → Nat := fun σ _ => match σ with
  | _ :: some (.int v) :: _ => v.toNat
  | _ => 0
abbrev s_l_gcd : Stmt := topS 46
abbrev N_l_gcd : List Str := ["_law_one", "_law_other"]
abbrev P_l_gcd : List Str := ["_law_one", "_law_other"]
theorem sc_l_gcd : FnScope N_l_gcd P_l_gcd (defScope s_l_gcd) := ⟨rfl, rfl, rfl, by decide +kernel, rfl, by decide +kernel, by decide +kernel⟩
theorem ok_l_gcd (D : Df K mg "_law_gcd" s_l_gcd P_l_gcd) : C8.Cal P w K mg base 1 "_law_gcd" spGcd [] := by
  refine cal_of D sc_l_gcd (fun vs H Q E h => ?_) (fun f cdv A outer s H vs Q E hr h => ?_)
  · obtain ⟨x, y, rfl, _⟩ := h
    rfl
  · obtain ⟨x, y, rfl, hx, hy, q⟩ := h
    refine ⟨_, (pss_cons (ps_while PassesOwn.never (pt_cmpR op_gt (pv 1) pe_int (nomark _))
      (pss_one (ps_par (i := 0) (j := 1) rfl sc_l_gcd.nd rfl rfl (by decide) rfl rfl (pa_cons (pv 1) (pa_cons (pe_op op_mod (pv 0) (pv 1)) pa_nil)) rfl)))
    (pss_one (ps_ret (pv 0)))), ?_⟩
    refine while_by (fun σ H' => ∃ u v : Int, σ = [some (.int u), some (.int v)] ∧ 0 ≤ u ∧ 0 ≤ v ∧ Int.gcd u v = Int.gcd x y ∧ H' = H) mu1 ⟨x, y, rfl, hx, hy, rfl, rfl⟩ ?_ ?_
    · rintro σ H' ⟨u, v, rfl, hu, hv, e, rfl⟩
      refine ⟨_, rfl, _, _, rfl, rfl, _, rfl, ite2 (fun c => ?_) (fun c => ?_)⟩
      · have hv0 : 0 < v := of_decide_eq_true c
        refine ⟨_, rfl, _, rfl, _, rfl, _, _, rfl, rfl, hv0, _, _, rfl, ⟨v, u % v, rfl, hv, Int.emod_nonneg _ (by omega), ?_, rfl⟩, ?_⟩
        · rw [gcd_turn u v hu hv0]; exact e
        · show (u % v).toNat < v.toNat
          have := Int.emod_lt_of_pos u hv0
          omega
      · have hv0 : v = 0 := by
          have : ¬ 0 < v := fun z => c (decide_eq_true z)
          omega
        subst hv0
        refine ⟨_, rfl, ?_⟩
        have e2 : (Int.gcd x y : Int) = u := by
          rw [← e, Int.gcd_zero_right]
          omega
        rw [← e2]
        exact q
    · rintro σ H' Q1 Q2 hQ ⟨v, h1, i, j, h2, h3, b, h4, h5⟩
      exact ⟨v, h1, i, j, h2, h3, b, h4, hQ _ _ h5⟩
end
end Lf
namespace Lf
open PySem PySem.Spec PyProof.Rows L2
/-! ### objects in a row -/
inductive Obs {α : Type} (O : α → HO) (H : Hp) : List V → List α → Prop
  | nil : Obs O H [] []
  | cons {r : Addr} {vs : List V} {d : α} {ds : List α} : H r = some (O d) → Obs O H vs ds → Obs O H (.ref r :: vs) (d :: ds)
section
variable {α : Type} {O : α → HO} {H H' : Hp}
theorem Obs.len {vs : List V} {ds : List α} (h : Obs O H vs ds) : vs.length = ds.length := by
  induction h with
  | nil => rfl
  | cons _ _ ih => rw [List.length_cons, List.length_cons, ih]
theorem Obs.at {vs : List V} {ds : List α} (h : Obs O H vs ds) : ∀ {i : Nat} {x : V}, vs[i]? = some x → ∃ r d, x = .ref r ∧ H r = some (O d) ∧ ds[i]? = some d := by
  induction h with
  | nil =>
    intro i x e
    cases e
  | cons e0 _ ih =>
    intro i x e
    cases i with
    | zero =>
      cases e
      exact ⟨_, _, rfl, e0, rfl⟩
    | succ i => exact ih e
theorem Obs.on {vs : List V} {ds : List α} (h : Obs O H vs ds) : ∀ {i : Nat} {d : α}, ds[i]? = some d → ∃ r, vs[i]? = some (.ref r) ∧ H r = some (O d) := by
  induction h with
  | nil =>
    intro i x e
    cases e
  | cons e0 _ ih =>
    intro i x e
    cases i with
    | zero =>
      cases e
      exact ⟨_, rfl, e0⟩
    | succ i => exact ih e
theorem Obs.keep {vs : List V} {ds : List α} (h : Obs O H vs ds) (f : ∀ b d, H b = some (O d) → H' b = some (O d)) : Obs O H' vs ds := by
  induction h with
  | nil => exact .nil
  | cons e0 _ ih => exact .cons (f _ _ e0) ih
theorem Obs.same {vs : List V} {ds : List α} (h : Obs O H vs ds) (s : Same H H') : Obs O H' vs ds := h.keep fun b d e => s _ _ e
theorem Obs.snoc {vs : List V} {ds : List α} {r : Addr} {d : α} (h : Obs O H vs ds) (e : H r = some (O d)) : Obs O H (vs ++ [.ref r]) (ds ++ [d]) := by
  induction h with
  | nil => exact .cons e .nil
  | cons e0 _ ih => exact .cons e0 ih
theorem Obs.app {vs us : List V} {ds es : List α} (h : Obs O H vs ds) (h2 : Obs O H us es) : Obs O H (vs ++ us) (ds ++ es) := by
  induction h with
  | nil => exact h2
  | cons e0 _ ih => exact .cons e0 ih
theorem Obs.drop {vs : List V} {ds : List α} (h : Obs O H vs ds) : ∀ n, Obs O H (vs.drop n) (ds.drop n) := by
  induction h with
  | nil =>
    intro n
    rw [List.drop_nil, List.drop_nil]
    exact .nil
  | cons e0 h ih =>
    intro n
    cases n with
    | zero => exact .cons e0 h
    | succ n => exact ih n
theorem Obs.take {vs : List V} {ds : List α} (h : Obs O H vs ds) : ∀ n, Obs O H (vs.take n) (ds.take n) := by
  induction h with
  | nil =>
    intro n
    rw [List.take_nil, List.take_nil]
    exact .nil
  | cons e0 h ih =>
    intro n
    cases n with
    | zero => exact .nil
    | succ n => exact .cons e0 (ih n)
end
/-! ### records -/
structure Rec where
  lo : Bool
  t : Int
  n : Int
def wd : Bool → Str
  | true => "at least"
  | false => "at most"
abbrev rcO (d : Rec) : HO := .tup [.str (wd d.lo), .int d.t, .int d.n]
theorem w_lo (b : Bool) : decide (V.str (wd b) = V.str ("at least" : Str)) = b := by
  cases b
  · exact decide_eq_false (by intro z; exact absurd (V.str.inj z) (by decide +kernel))
  · exact decide_eq_true rfl
theorem w_hi (b : Bool) : decide (V.str (wd b) = V.str ("at most" : Str)) = !b := by
  cases b
  · exact decide_eq_true rfl
  · exact decide_eq_false (by intro z; exact absurd (V.str.inj z) (by decide +kernel))
def RcB (k : Nat) (ds : List Rec) : Prop := ∀ d ∈ ds, Bd k d.t ∧ Bd k d.n
theorem RcB.mono {k j : Nat} {ds : List Rec} (h : RcB k ds) (e : k ≤ j) : RcB j ds := fun d hd => ⟨(h d hd).1.mono e, (h d hd).2.mono e⟩
theorem Obs.fr {H H' : Hp} {vs : List V} {ds : List Rec} (h : Obs rcO H vs ds) (f : Fr H H') : Obs rcO H' vs ds := h.keep fun b d e => f.t _ _ e
/-- what split_records gives: index, time, count -/
abbrev T3 := Int × Int × Int
abbrev trO (x : T3) : HO := .tup [.int x.1, .int x.2.1, .int x.2.2]
def sel (b : Bool) : Nat → List Rec → List T3
  | _, [] => []
  | k, d :: ds => if d.lo = b then ((k : Int), d.t, d.n) :: sel b (k + 1) ds else sel b (k + 1) ds
theorem sel_snoc (b : Bool) (k : Nat) (ds : List Rec) (d : Rec) : sel b k (ds ++ [d]) = sel b k ds ++ (if d.lo = b then [(((k + ds.length : Nat) : Int), d.t, d.n)] else []) := by
  induction ds generalizing k with
  | nil =>
    show (if d.lo = b then _ else _) = _
    by_cases h : d.lo = b
    · rw [if_pos h, if_pos h]
      rfl
    · rw [if_neg h, if_neg h]
      rfl
  | cons e r ih =>
    show (if e.lo = b then ((k : Int), e.t, e.n) :: sel b (k + 1) (r ++ [d]) else sel b (k + 1) (r ++ [d])) = (if e.lo = b then _ else _) ++ _
    rw [ih (k + 1), List.length_cons, show k + 1 + r.length = k + (r.length + 1) by omega]
    by_cases h : e.lo = b
    · rw [if_pos h, if_pos h]
      rfl
    · rw [if_neg h, if_neg h]
theorem sel_len (b : Bool) (k : Nat) (ds : List Rec) : (sel b k ds).length ≤ ds.length := by
  induction ds generalizing k with
  | nil => exact Nat.le_refl _
  | cons e r ih =>
    show (if e.lo = b then _ else _ : List T3).length ≤ _
    have := ih (k + 1)
    by_cases h : e.lo = b
    · rw [if_pos h, List.length_cons, List.length_cons]
      omega
    · rw [if_neg h, List.length_cons]
      omega
theorem sel_take {b : Bool} {ds : List Rec} {i : Nat} {d : Rec} (e : ds[i]? = some d) : sel b 0 (ds.take (i + 1)) = sel b 0 (ds.take i) ++ (if d.lo = b then [((i : Int), d.t, d.n)] else []) := by
  have hi : i < ds.length := (List.getElem?_eq_some_iff.mp e).1
  rw [List.take_add_one, e]
  show sel b 0 (ds.take i ++ [d]) = _
  rw [sel_snoc, List.length_take, Nat.min_eq_left (by omega), Nat.zero_add]
/-- each of them speaks of a record at its index -/
theorem sel_mem {b : Bool} {k : Nat} {ds : List Rec} {x : T3} (h : x ∈ sel b k ds) : ∃ (i : Nat) (d : Rec), ds[i]? = some d ∧ d.lo = b ∧ x = (((k + i : Nat) : Int), d.t, d.n) := by
  induction ds generalizing k with
  | nil => cases h
  | cons e r ih =>
    have h : x ∈ (if e.lo = b then ((k : Int), e.t, e.n) :: sel b (k + 1) r else sel b (k + 1) r) := h
    have up : x ∈ sel b (k + 1) r → ∃ (i : Nat) (d : Rec), (e :: r)[i]? = some d ∧ d.lo = b ∧ x = (((k + i : Nat) : Int), d.t, d.n) := fun z => by
      obtain ⟨i, d, h1, h2, h3⟩ := ih z
      exact ⟨i + 1, d, h1, h2, by rw [h3, show k + 1 + i = k + (i + 1) by omega]⟩
    by_cases hb : e.lo = b
    · rw [if_pos hb] at h
      rcases List.mem_cons.mp h with rfl | h
      · exact ⟨0, e, rfl, hb, rfl⟩
      · exact up h
    · rw [if_neg hb] at h
      exact up h
theorem mem_sel {b : Bool} {ds : List Rec} {i : Nat} {d : Rec} (e : ds[i]? = some d) (hb : d.lo = b) : ∀ k, (((k + i : Nat) : Int), d.t, d.n) ∈ sel b k ds := by
  induction ds generalizing i with
  | nil => cases e
  | cons f r ih =>
    intro k
    show _ ∈ (if f.lo = b then _ else _)
    cases i with
    | zero =>
      cases e
      rw [if_pos hb]
      exact List.mem_cons_self
    | succ i =>
      have := ih e (k + 1)
      rw [show k + 1 + i = k + (i + 1) by omega] at this
      by_cases h : f.lo = b
      · rw [if_pos h]
        exact List.mem_cons_of_mem _ this
      · rw [if_neg h]
        exact this
theorem sel_bd {k : Nat} {b : Bool} {ds : List Rec} (h : RcB k ds) {x : T3} (hx : x ∈ sel b 0 ds) : Bd k x.2.1 ∧ Bd k x.2.2 := by
  obtain ⟨i, d, e, _, rfl⟩ := sel_mem hx
  exact h d (List.mem_of_getElem? e)
/-- what a list has as its greatest -/
def IsMx (l : List Int) : Option Int → Prop
  | none => l = []
  | some m => m ∈ l ∧ ∀ y ∈ l, y ≤ m
def IsMn (l : List Int) : Option Int → Prop
  | none => l = []
  | some m => m ∈ l ∧ ∀ y ∈ l, m ≤ y
def oV : Option Int → V
  | none => .non
  | some i => .int i
theorem maxOf_mx (x : Int) (xs : List Int) : PySem.W.maxOf x xs ∈ x :: xs ∧ ∀ y ∈ x :: xs, y ≤ PySem.W.maxOf x xs := by
  induction xs generalizing x with
  | nil => exact ⟨List.mem_cons_self, fun y hy => by rw [List.mem_singleton.mp hy]; exact Int.le_refl _⟩
  | cons z r ih =>
    have e : PySem.W.maxOf x (z :: r) = PySem.W.maxOf (if decide (x < z) = true then z else x) r := rfl
    rw [e]
    obtain ⟨h1, h2⟩ := ih (if decide (x < z) = true then z else x)
    refine ⟨?_, fun y hy => ?_⟩
    · rcases List.mem_cons.mp h1 with h | h
      · rw [h]
        by_cases c : x < z
        · rw [if_pos (decide_eq_true c)]
          exact List.mem_cons_of_mem _ List.mem_cons_self
        · rw [if_neg (fun h => c (of_decide_eq_true h))]
          exact List.mem_cons_self
      · exact List.mem_cons_of_mem _ (List.mem_cons_of_mem _ h)
    · have g := h2 _ List.mem_cons_self
      have gx : x ≤ PySem.W.maxOf (if decide (x < z) = true then z else x) r ∧ z ≤ PySem.W.maxOf (if decide (x < z) = true then z else x) r := by
        by_cases c : x < z
        · rw [if_pos (decide_eq_true c)] at g ⊢
          exact ⟨by omega, g⟩
        · rw [if_neg (fun h => c (of_decide_eq_true h))] at g ⊢
          exact ⟨g, by omega⟩
      rcases List.mem_cons.mp hy with rfl | hy
      · exact gx.1
      · rcases List.mem_cons.mp hy with rfl | hy
        · exact gx.2
        · exact h2 _ (List.mem_cons_of_mem _ hy)
theorem minOf_mn (x : Int) (xs : List Int) : PySem.W.minOf x xs ∈ x :: xs ∧ ∀ y ∈ x :: xs, PySem.W.minOf x xs ≤ y := by
  induction xs generalizing x with
  | nil => exact ⟨List.mem_cons_self, fun y hy => by rw [List.mem_singleton.mp hy]; exact Int.le_refl _⟩
  | cons z r ih =>
    have e : PySem.W.minOf x (z :: r) = PySem.W.minOf (if decide (z < x) = true then z else x) r := rfl
    rw [e]
    obtain ⟨h1, h2⟩ := ih (if decide (z < x) = true then z else x)
    refine ⟨?_, fun y hy => ?_⟩
    · rcases List.mem_cons.mp h1 with h | h
      · rw [h]
        by_cases c : z < x
        · rw [if_pos (decide_eq_true c)]
          exact List.mem_cons_of_mem _ List.mem_cons_self
        · rw [if_neg (fun h => c (of_decide_eq_true h))]
          exact List.mem_cons_self
      · exact List.mem_cons_of_mem _ (List.mem_cons_of_mem _ h)
    · have g := h2 _ List.mem_cons_self
      have gx : PySem.W.minOf (if decide (z < x) = true then z else x) r ≤ x ∧ PySem.W.minOf (if decide (z < x) = true then z else x) r ≤ z := by
        by_cases c : z < x
        · rw [if_pos (decide_eq_true c)] at g ⊢
          exact ⟨by omega, g⟩
        · rw [if_neg (fun h => c (of_decide_eq_true h))] at g ⊢
          exact ⟨g, by omega⟩
      rcases List.mem_cons.mp hy with rfl | hy
      · exact gx.1
      · rcases List.mem_cons.mp hy with rfl | hy
        · exact gx.2
        · exact h2 _ (List.mem_cons_of_mem _ hy)
/-- max(list, default=d), min(list, default=d) -/
def rMxD (K : PySem.W.Frag) : List V → List V → Hp → VK → Prop := fun vs zs H Q => ∃ (a : Addr) (ns : List Int), vs = [V.ref a] ∧ zs = [.non] ∧ SqL K H a (ns.map V.int) ∧ ∀ m, IsMx ns m → Q (oV m) H
def rMnD (K : PySem.W.Frag) : List V → List V → Hp → VK → Prop := fun vs zs H Q => ∃ (a : Addr) (ns : List Int), vs = [V.ref a] ∧ zs = [.non] ∧ SqL K H a (ns.map V.int) ∧ ∀ m, IsMn ns m → Q (oV m) H
theorem cr_maxD {X : Cx} (hc : X.calm = true) (hu : X.A.units + 64 < cLine) : CallRK X (.builtin "max") [Str.ofString "default"] (rMxD X.K) := by
  intro pins s σ H xs zs us ws Q I r rz h
  obtain ⟨a, ns, rfl, rfl, hs, q⟩ := h
  obtain ⟨its, rv, hl, _⟩ := I.list hs
  rw [Vals.ref1 r]
  obtain ⟨d, rfl, rd⟩ := vals1 rz
  have ed : d = Value.none := rd
  subst ed
  refine PySem.W.max_list_datum_default (α := Int) (xs := ns) (I.ok.hd hc) hl.isList (by simpa using PySem.W.HoldAll.of_ints rv.ints) (by show _ + 1 + 0 < _; omega) (fun e h' tk hk => ⟨.non, H, I.kept hk, rfl, q none e⟩) fun y ys i v h' tk e hv hh hk => ?_
  obtain ⟨as, hr⟩ := hh
  obtain ⟨t, rfl⟩ : ∃ t, v = Value.int (PySem.W.maxOf y ys) t := by
    cases hr
    exact ⟨_, rfl⟩
  exact ⟨.int _, H, I.kept hk, ⟨_, rfl⟩, q (some _) (by rw [e]; exact maxOf_mx y ys)⟩
theorem cr_minD {X : Cx} (hc : X.calm = true) (hu : X.A.units + 64 < cLine) : CallRK X (.builtin "min") [Str.ofString "default"] (rMnD X.K) := by
  intro pins s σ H xs zs us ws Q I r rz h
  obtain ⟨a, ns, rfl, rfl, hs, q⟩ := h
  obtain ⟨its, rv, hl, _⟩ := I.list hs
  rw [Vals.ref1 r]
  obtain ⟨d, rfl, rd⟩ := vals1 rz
  have ed : d = Value.none := rd
  subst ed
  refine PySem.W.min_list_datum_default (α := Int) (xs := ns) (I.ok.hd hc) hl.isList (by simpa using PySem.W.HoldAll.of_ints rv.ints) (by show _ + 1 + 0 < _; omega) (fun e h' tk hk => ⟨.non, H, I.kept hk, rfl, q none e⟩) fun y ys i v h' tk e hv hh hk => ?_
  obtain ⟨as, hr⟩ := hh
  obtain ⟨t, rfl⟩ : ∃ t, v = Value.int (PySem.W.minOf y ys) t := by
    cases hr
    exact ⟨_, rfl⟩
  exact ⟨.int _, H, I.kept hk, ⟨_, rfl⟩, q (some _) (by rw [e]; exact minOf_mn y ys)⟩
end Lf
namespace Lf
open PySem PySem.Spec PyProof.Rows L2
theorem iteD {c A B : Prop} [Decidable c] (hc : c) (h : A) : if decide c = true then A else B := by
  rw [if_pos (decide_eq_true hc)]
  exact h
theorem iteDn {c A B : Prop} [Decidable c] (hc : ¬ c) (h : B) : if decide c = true then A else B := by
  rw [if_neg (fun z => hc (of_decide_eq_true z))]
  exact h
theorem iteTs {b : Bool} {A B : Prop} (h : b = true) (hA : A) : if b = true then A else B := by
  rw [h, if_pos rfl]
  exact hA
theorem iteFz {b : Bool} {A B : Prop} (h : b = false) (hB : B) : if b = true then A else B := by
  rw [h, if_neg Bool.false_ne_true]
  exact hB
theorem bool_f {b : Bool} (h : ¬ b = true) : b = false := by
  cases b
  · rfl
  · exact absurd rfl h
theorem lenS {n : Nat} (h : n ≤ 100000) : n ≤ sizeLine := by
  rw [sizeLine_eq]
  omega
theorem ltS {n : Nat} (h : n ≤ 100000) : n < sizeLine := by
  rw [sizeLine_eq]
  omega
theorem flat_is (ns : List Int) : (ns.map V.int).all flatV = true := by
  induction ns with
  | nil => rfl
  | cons n r ih => simpa [flatV] using ih
theorem mulW {a b : Nat} {x y : Int} (h : Bd a x) (h2 : Bd b y) (ha : 0 < a) (hb : 0 < b) (hab : a + b ≤ 1000000) : CMulW x y := wide_mul h h2 ha hb hab
theorem divW {b : Nat} {x y : Int} (h0 : 0 < y) (h : Bd b y) (hb : b ≤ 9000) : CDivW x y := ⟨h0, (h.mono hb).log (by decide)⟩
theorem divP {b : Nat} {x y : Int} (h0 : 0 < y) (h : Bd b y) (hb : b ≤ 9000) : CDivP x y := ⟨h0, PyProof.noPylong_of_log2 ((h.mono hb).log (by decide))⟩
theorem kii : kitB "int" "int" = some true := by decide +kernel
theorem kib : kitB "int" "bool" = some false := by decide +kernel
theorem ktt : kitB "tuple" "tuple" = some true := by decide +kernel
section
variable {P : Program} {w : World} {K : PySem.W.Frag} {mg : Str → Option Value} {base : Heap}
/-! ### integers -/
def spIsInt : Sp := fun vs H Q _ => ∃ i : Int, vs = [.int i] ∧ Q (.bl true) H
abbrev s_is_integer : Stmt := topS 6
abbrev N_is_integer : List Str := ["value"]
abbrev P_is_integer : List Str := ["value"]
theorem sc_is_integer : FnScope N_is_integer P_is_integer (defScope s_is_integer) := ⟨rfl, rfl, rfl, by decide +kernel, rfl, by decide +kernel, by decide +kernel⟩
theorem ok_is_integer (D : Df K mg "is_integer" s_is_integer P_is_integer) (B : Bi mg) : C8.Cal P w K mg base 1 "is_integer" spIsInt [] := by
  refine cal_of D sc_is_integer (fun vs H Q E h => ?_) (fun f cdv A outer s H vs Q E hr h => ?_)
  · obtain ⟨i, rfl, _⟩ := h
    rfl
  · obtain ⟨i, rfl, q⟩ := h
    refine ⟨_, (pss_one (ps_ret (pe_and (pe_callB (call_isi) (by rfl) B.isinstance_ bt_isinstance (pa_cons (pv 0) (pa_cons (pe_bltn (v := .ty "int") (by rfl) B.int_ bt_int rfl) pa_nil))) (pe_one (pe_not (pe_callB (call_isi) (by rfl) B.isinstance_ bt_isinstance (pa_cons (pv 0) (pa_cons (pe_bltn (v := .ty "bool") (by rfl) B.bool_ bt_bool rfl) pa_nil)))))))), ?_⟩
    refine ⟨_, rfl, _, _, _, _, true, rfl, .ty "int", .base (.int i), kit_ty kii, true, rfl, iteT ?_⟩
    exact ⟨_, rfl, _, _, _, _, false, rfl, .ty "bool", .base (.int i), kit_ty kib, false, rfl, q⟩
def spCheckInt : Sp := fun vs H Q _ => ∃ i : Int, vs = [.int i] ∧ Q .non H
end
end Lf
namespace Lf
open PySem PySem.Spec PyProof.Rows L2
section
variable {P : Program} {w : World} {K : PySem.W.Frag} {mg : Str → Option Value} {base : Heap}
abbrev s_gcd : Stmt := topS 8
abbrev N_gcd : List Str := ["first", "second"]
abbrev P_gcd : List Str := ["first", "second"]
theorem sc_gcd : FnScope N_gcd P_gcd (defScope s_gcd) := ⟨rfl, rfl, rfl, by decide +kernel, rfl, by decide +kernel, by decide +kernel⟩
theorem ok_gcd (D : Df K mg "gcd" s_gcd P_gcd) : C8.Cal P w K mg base 1 "gcd" spGcd [] := by
  refine cal_of D sc_gcd (fun vs H Q E h => ?_) (fun f cdv A outer s H vs Q E hr h => ?_)
  · obtain ⟨x, y, rfl, _⟩ := h
    rfl
  · obtain ⟨x, y, rfl, hx, hy, q⟩ := h
    refine ⟨_, (pss_cons (ps_while PassesOwn.never (pt_truth (pv 1) (fun _ => rfl))
      (pss_one (ps_par (i := 0) (j := 1) rfl sc_gcd.nd rfl rfl (by decide) rfl rfl (pa_cons (pv 1) (pa_cons (pe_op op_mod (pv 0) (pv 1)) pa_nil)) rfl)))
    (pss_one (ps_ret (pv 0)))), ?_⟩
    refine while_by (fun σ H' => ∃ u v : Int, σ = [some (.int u), some (.int v)] ∧ 0 ≤ u ∧ 0 ≤ v ∧ Int.gcd u v = Int.gcd x y ∧ H' = H) mu1 ⟨x, y, rfl, hx, hy, rfl, rfl⟩ ?_ ?_
    · rintro σ H' ⟨u, v, rfl, hu, hv, e, rfl⟩
      refine ⟨_, rfl, _, rfl, ite2 (fun c => ?_) (fun c => ?_)⟩
      · have hv0 : 0 < v := by
          have : v ≠ 0 := by simpa using c
          omega
        refine ⟨_, rfl, _, rfl, _, rfl, _, _, rfl, rfl, hv0, _, _, rfl, ⟨v, u % v, rfl, hv, Int.emod_nonneg _ (by omega), ?_, rfl⟩, ?_⟩
        · rw [gcd_turn u v hu hv0]; exact e
        · show (u % v).toNat < v.toNat
          have := Int.emod_lt_of_pos u hv0
          omega
      · have hv0 : v = 0 := by simpa using c
        subst hv0
        refine ⟨_, rfl, ?_⟩
        have e2 : (Int.gcd x y : Int) = u := by
          rw [← e, Int.gcd_zero_right]
          omega
        rw [← e2]
        exact q
    · rintro σ H' Q1 Q2 hQ ⟨v, h1, b, h4, h5⟩
      exact ⟨v, h1, b, h4, hQ _ _ h5⟩
/-! ### rules -/
def spIsRule : Sp := fun vs H Q _ => ∃ (r : Addr) (p q c : Int) (k : Nat), vs = [.ref r] ∧ H r = some (.tup [.int p, .int q, .int c]) ∧ RuleB k p q c ∧ ∀ H', Same H H' → Q (.bl true) H'
abbrev s_is_rule : Stmt := topS 24
abbrev N_is_rule : List Str := ["value", "item"]
abbrev P_is_rule : List Str := ["value"]
theorem sc_is_rule : FnScope N_is_rule P_is_rule (defScope s_is_rule) := ⟨rfl, rfl, rfl, by decide +kernel, rfl, by decide +kernel, by decide +kernel⟩
theorem ok_is_rule (D : Df K mg "is_rule" s_is_rule P_is_rule) (B : Bi mg) (c_is_integer : C8.Cal P w K mg base 1 "is_integer" spIsInt []) (c_gcd : C8.Cal P w K mg base 1 "gcd" spGcd []) : C8.Cal P w K mg base 2 "is_rule" spIsRule [] := by
  refine cal_of D sc_is_rule (fun vs H Q E h => ?_) (fun f cdv A outer s H vs Q E hr h => ?_)
  · obtain ⟨r, p, q, c, k, rfl, _⟩ := h
    rfl
  · obtain ⟨r, p, q, c, k, rfl, er, R, kk⟩ := h
    refine ⟨_, (pss_cons (ps_if (PW.pt (pw_or (pt_not (pt_val (pe_callB (call_isi) (by rfl) B.isinstance_ bt_isinstance (pa_cons (pv 0) (pa_cons (pe_bltn (v := .ty "tuple") (by rfl) B.tuple_ bt_tuple rfl) pa_nil))))) (pw_or1 (pt_cmpR op_ne (pe_callB (call_len_seq) (by rfl) B.len_ bt_len (pa_cons (pv 0) pa_nil)) pe_int (nomark _)))))
      (pss_one (ps_ret pe_bl))
      pss_nil)
    (pss_cons (ps_if (pt_not (pt_val (pe_callB (cr_all rfl) (by rfl) B.all_ bt_all (pa_cons (pe_lc (own := [("item", 1)]) (g := (gName 1)) (by rfl) sc_is_rule.nd (pi_tup (pv 0)) (blkOk_by (own := [("item", 1)]) (N := N_is_rule) (sc := defScope s_is_rule) (by decide +kernel)) (fun _ _ _ _ _ => (pg_name (i := 1) sc_is_rule.nd rfl (Or.inl rfl))) (fun _ _ _ _ _ => pts_nil) (fun _ _ _ _ _ => (C8.pe_c c_is_integer hr (by decide) (by rfl) (pa_cons (pv 1) pa_nil)))) pa_nil))))
      (pss_one (ps_ret pe_bl))
      pss_nil)
    (pss_one (ps_ret (pe_and (pe_cmpR op_ge (pe_ix (r := rIxT K) ix_tup (pv 0) pe_int (fun _ _ => rfl)) pe_int (nomark _)) (pe_and (pe_cmpR op_ge (pe_ix (r := rIxT K) ix_tup (pv 0) pe_int (fun _ _ => rfl)) pe_int (nomark _)) (pe_one (pe_cmpR op_eq (C8.pe_c c_gcd hr (by decide) (by rfl) (pa_cons (pe_ix (r := rIxT K) ix_tup (pv 0) pe_int (fun _ _ => rfl)) (pa_cons (pe_ix (r := rIxT K) ix_tup (pv 0) pe_int (fun _ _ => rfl)) pa_nil))) pe_int (nomark _))))))))), ?_⟩
    refine ⟨_, rfl, _, _, _, _, true, rfl, .ty "tuple", .base (.tup er), kit_ty ktt, true, rfl, iteF ?_⟩
    refine ⟨_, rfl, r, _, rfl, .inr (SqT.of er), rfl, _, rfl, iteNS rfl ?_⟩
    refine ⟨_, rfl, r, rfl, ⟨_, SqT.of er⟩, fun L nL => ?_⟩
    refine lc_tup (K := K) (a := r) (xs := [.int p, .int q, .int c]) (fun i H' => Same H H' ∧ H' L = some (.lst (List.replicate i (V.bl true)))) ?_ ?_ ?_ ?_
    · exact ⟨sm_upd nL, upd_same⟩
    · rintro i H' hi ⟨s1, _⟩
      exact SqT.of (s1 _ _ er)
    · rintro i x H' hx ⟨s1, eL⟩
      have hi : i < 3 := (List.getElem?_eq_some_iff.mp hx).1
      obtain ⟨z, rfl⟩ : ∃ z, x = V.int z := by
        match i, hi with
        | 0, _ => exact ⟨p, (Option.some.inj hx).symm⟩
        | 1, _ => exact ⟨q, (Option.some.inj hx).symm⟩
        | 2, _ => exact ⟨c, (Option.some.inj hx).symm⟩
      refine ⟨rfl, _, rfl, z, rfl, _, eL, ?_, ?_, ?_⟩
      · rw [List.length_replicate]
        exact small1000 (by omega)
      · intro b o eb
        rw [upd_ne (ne_of_none eb nL)]
        exact s1 _ _ eb
      · rw [upd_same, ← List.replicate_succ']
    · rintro H' ⟨s1, eL⟩
      have eL' : H' L = some (.lst ([true, true, true].map V.bl)) := eL
      refine ⟨L, [true, true, true], rfl, SqL.of eL', true, rfl, iteF ?_⟩
      have er' := s1 _ _ er
      refine ⟨_, rfl, r, _, _, _, rfl, rfl, SqT.of er', atI_nat (j := 0) rfl, _, _, rfl, rfl, _, rfl, iteD R.p0 ?_⟩
      refine ⟨_, rfl, r, _, _, _, rfl, rfl, SqT.of er', atI_nat (j := 1) rfl, _, _, rfl, rfl, _, rfl, iteD R.q1 ?_⟩
      refine ⟨_, rfl, r, _, _, _, rfl, rfl, SqT.of er', atI_nat (j := 0) rfl, _, rfl, r, _, _, _, rfl, rfl, SqT.of er', atI_nat (j := 1) rfl, p, q, rfl, R.p0, by have := R.q1; omega, rfl, ?_⟩
      rw [R.g]
      exact kk _ s1
def spCheckRule : Sp := fun vs H Q _ => ∃ (r : Addr) (p q c : Int) (k : Nat), vs = [.ref r] ∧ H r = some (.tup [.int p, .int q, .int c]) ∧ RuleB k p q c ∧ ∀ H', Same H H' → Q .non H'
abbrev s_check_rule : Stmt := topS 25
abbrev N_check_rule : List Str := ["value"]
abbrev P_check_rule : List Str := ["value"]
theorem sc_check_rule : FnScope N_check_rule P_check_rule (defScope s_check_rule) := ⟨rfl, rfl, rfl, by decide +kernel, rfl, by decide +kernel, by decide +kernel⟩
theorem ok_check_rule (D : Df K mg "check_rule" s_check_rule P_check_rule) (c_is_rule : C8.Cal P w K mg base 2 "is_rule" spIsRule []) : C8.Cal P w K mg base 3 "check_rule" spCheckRule [] := by
  refine cal_of D sc_check_rule (fun vs H Q E h => ?_) (fun f cdv A outer s H vs Q E hr h => ?_)
  · obtain ⟨r, p, q, c, k, rfl, _⟩ := h
    rfl
  · obtain ⟨r, p, q, c, k, rfl, er, R, kk⟩ := h
    refine ⟨_, (pss_one (ps_if (pt_not (pt_val (C8.pe_c c_is_rule hr (by decide) (by rfl) (pa_cons (pv 0) pa_nil))))
      (pss_one ps_never)
      pss_nil)), ?_⟩
    exact ⟨_, rfl, r, p, q, c, k, rfl, er, R, fun H' s1 => ⟨true, rfl, iteF (kk _ s1)⟩⟩
end
end Lf
namespace Lf
open PySem PySem.Spec PyProof.Rows L2
def Btw (p q t b x y : Int) : Prop := p * y < x * q ∧ x * b < t * y
structure Sim (p q t b N D : Int) : Prop where
  d1 : 1 ≤ D
  n1 : 1 ≤ N
  bt : Btw p q t b N D
  mi : ∀ x y, 1 ≤ y → Btw p q t b x y → D ≤ y ∧ N ≤ x
theorem pos_of_mul {a b : Int} (h : 0 < a * b) (hb : 0 ≤ b) : 0 < a := by
  rcases Int.lt_or_le 0 a with z | z
  · exact z
  · have := Int.mul_le_mul_of_nonneg_right z hb
    rw [Int.zero_mul] at this
    omega
theorem sim_base {p q t b : Int} (hp : 0 ≤ p) (hq : 1 ≤ q) (h : (p / q + 1) * b < t) : Sim p q t b (p / q + 1) 1 := by
  have w0 : 0 ≤ p / q := Int.ediv_nonneg hp (by omega)
  have w1 : p < (p / q + 1) * q := Int.lt_ediv_add_one_mul_self p (by omega)
  have w2 : p / q * q ≤ p := Int.ediv_mul_le p (by omega)
  generalize p / q = w at *
  refine ⟨by omega, by omega, ⟨by omega, by omega⟩, fun x y hy hb => ⟨hy, ?_⟩⟩
  have h1 := Int.mul_le_mul_of_nonneg_right w2 (show 0 ≤ y by omega)
  have h2 : 0 < (x - w * y) * q := by
    have e : w * q * y = w * y * q := by grind
    have := hb.1
    rw [Int.sub_mul]
    omega
  have h3 := pos_of_mul h2 (by omega)
  have h4 := Int.mul_le_mul_of_nonneg_left hy w0
  omega
theorem sim_step {p q t b N D : Int} (hp : 0 ≤ p) (hq : 1 ≤ q) (s : Sim b (t - p / q * b) q (p - p / q * q) N D) : Sim p q t b (p / q * N + D) N := by
  have w0 : 0 ≤ p / q := Int.ediv_nonneg hp (by omega)
  have w2 : p / q * q ≤ p := Int.ediv_mul_le p (by omega)
  generalize p / q = w at *
  obtain ⟨d1, n1, ⟨b1, b2⟩, mi⟩ := s
  have n0 := Int.mul_nonneg w0 (show 0 ≤ N by omega)
  refine ⟨n1, by omega, ⟨by grind, by grind⟩, fun x y hy ⟨g1, g2⟩ => ?_⟩
  have h1 := Int.mul_le_mul_of_nonneg_right w2 (show 0 ≤ y by omega)
  have h2 : 0 < (x - w * y) * q := by grind
  have h3 := pos_of_mul h2 (by omega)
  obtain ⟨m1, m2⟩ := mi y (x - w * y) (by omega) ⟨by grind, by grind⟩
  have h4 := Int.mul_le_mul_of_nonneg_left m2 w0
  exact ⟨m2, by omega⟩
/-- what the loop of wholes says, read backwards -/
def fold2 : List Int → Int × Int → Int × Int
  | [], x => x
  | w :: r, x => (w * (fold2 r x).1 + (fold2 r x).2, (fold2 r x).1)
theorem fold2_snoc (l : List Int) (w N D : Int) : fold2 (l ++ [w]) (N, D) = fold2 l (w * N + D, N) := by
  induction l with
  | nil => rfl
  | cons v r ih =>
    show (v * (fold2 (r ++ [w]) (N, D)).1 + (fold2 (r ++ [w]) (N, D)).2, (fold2 (r ++ [w]) (N, D)).1) = _
    rw [ih]
    rfl
structure Iv (k : Nat) (p q t b : Int) : Prop where
  p0 : 0 ≤ p
  q1 : 1 ≤ q
  b0 : 0 ≤ b
  lt : p * b < t * q
  bp : Bd k p
  bq : Bd k q
  bt : Bd k t
  bb : Bd k b
theorem Iv.mono {k j : Nat} {p q t b : Int} (I : Iv k p q t b) (h : k ≤ j) : Iv j p q t b := ⟨I.p0, I.q1, I.b0, I.lt, I.bp.mono h, I.bq.mono h, I.bt.mono h, I.bb.mono h⟩
theorem Iv.t1 {k : Nat} {p q t b : Int} (I : Iv k p q t b) : 1 ≤ t := by
  have h1 := Int.mul_nonneg I.p0 I.b0
  have h2 := I.lt
  have := pos_of_mul (a := t) (b := q) (by omega) (by have := I.q1; omega)
  omega
theorem Iv.next {k : Nat} {p q t b : Int} (I : Iv k p q t b) (h : t ≤ (p / q + 1) * b) : Iv k b (t - p / q * b) q (p - p / q * q) ∧ 1 ≤ b ∧ t - p / q * b ≤ b ∧ p - p / q * q < q := by
  have t1 := I.t1
  obtain ⟨p0, q1, b0, lt, bp, bq, bt, bb⟩ := I
  have w0 : 0 ≤ p / q := Int.ediv_nonneg p0 (by omega)
  have w1 : p < (p / q + 1) * q := Int.lt_ediv_add_one_mul_self p (by omega)
  have w2 : p / q * q ≤ p := Int.ediv_mul_le p (by omega)
  generalize p / q = w at *
  have b1 : 1 ≤ b := by
    rcases Int.lt_or_le 0 b with z | z
    · exact z
    · have : b = 0 := by omega
      subst this
      rw [Int.mul_zero] at h
      omega
  have h1 : 0 < (t - w * b) * q := by
    have := Int.mul_le_mul_of_nonneg_right w2 b0
    grind
  have h2 := pos_of_mul h1 (by omega)
  have h3 : t - w * b ≤ b := by
    rw [Int.add_mul] at h
    omega
  have h4 : p - w * q < q := by
    rw [Int.add_mul] at w1
    omega
  exact ⟨⟨b0, by omega, by omega, by grind, bb, bb.between (by omega) h3, bq, bq.between (by omega) (by omega)⟩, b1, h3, h4⟩
theorem Iv.med {k : Nat} {p q t b N D : Int} (I : Iv k p q t b) (s : Sim p q t b N D) : D ≤ q + b ∧ N ≤ p + t := by
  have h := I.lt
  have := I.q1
  have := I.b0
  exact s.mi (p + t) (q + b) (by omega) ⟨by grind, by grind⟩
theorem Iv.bds {k : Nat} {p q t b N D : Int} (I : Iv k p q t b) (s : Sim p q t b N D) : Bd (k + 1) N ∧ Bd (k + 1) D := by
  obtain ⟨m1, m2⟩ := I.med s
  have := s.n1
  have := s.d1
  exact ⟨(Bd.add I.bp I.bt).between (by omega) m2, (Bd.add I.bq I.bb).between (by omega) m1⟩
structure Lw (k : Nat) (p0 q0 t0 b0 : Int) (ws : List Int) (p q t b : Int) : Prop where
  iv : Iv k p q t b
  c : ∀ l1 l2, ws = l1 ++ l2 → ∀ N D, Sim p q t b N D → Bd (k + 1) (fold2 l2 (N, D)).1 ∧ Bd (k + 1) (fold2 l2 (N, D)).2
  a : ∀ N D, Sim p q t b N D → Sim p0 q0 t0 b0 (fold2 ws (N, D)).1 (fold2 ws (N, D)).2
  d : ∀ w ∈ ws, Bd k w
  n : (ws = [] ∧ q = q0 ∧ b = b0) ∨ (q ≤ p ∧ (p * b).toNat * 2 ^ ws.length ≤ (2 * (q0 * b0)).toNat)
theorem Lw.init {k : Nat} {p q t b : Int} (I : Iv k p q t b) : Lw k p q t b [] p q t b :=
  ⟨I, fun l1 l2 e N D s => by
    have : l2 = [] := (List.append_eq_nil_iff.mp e.symm).2
    subst this
    exact I.bds s, fun N D s => s, fun w hw => by simp at hw, .inl ⟨rfl, rfl, rfl⟩⟩
theorem Lw.next {k : Nat} {p0 q0 t0 b0 p q t b : Int} {ws : List Int} (L : Lw k p0 q0 t0 b0 ws p q t b) (h : t ≤ (p / q + 1) * b) : Lw k p0 q0 t0 b0 (ws ++ [p / q]) b (t - p / q * b) q (p - p / q * q) := by
  have I := L.iv
  obtain ⟨I2, b1, h3, h4⟩ := I.next h
  have st : ∀ N D, Sim b (t - p / q * b) q (p - p / q * q) N D → Sim p q t b (p / q * N + D) N := fun N D s => sim_step I.p0 I.q1 s
  refine ⟨I2, fun l1 l2 e N D s => ?_, fun N D s => ?_, fun w hw => ?_, .inr ⟨h3, ?_⟩⟩
  · rcases List.eq_nil_or_concat l2 with rfl | ⟨l', w', rfl⟩
    · exact I2.bds s
    · rw [List.concat_eq_append, ← List.append_assoc] at e
      obtain ⟨e1, e2⟩ := List.append_inj' e rfl
      have e3 : p / q = w' := by simpa using e2
      rw [List.concat_eq_append, ← e3, fold2_snoc]
      exact L.c l1 l' e1 _ _ (st N D s)
  · rw [fold2_snoc]
    exact L.a _ _ (st N D s)
  · rcases List.mem_append.mp hw with z | z
    · exact L.d w z
    · rw [List.mem_singleton.mp z]
      exact I.bp.ediv (by have := I.q1; omega)
  · have r0 := I2.b0
    rw [List.length_append, List.length_singleton, Nat.pow_succ]
    rcases L.n with ⟨rfl, rfl, rfl⟩ | ⟨hq, hn⟩
    · have := Int.mul_le_mul_of_nonneg_left (show p - p / q * q ≤ q by omega) (show 0 ≤ b by omega)
      rw [Int.mul_comm q b]
      simp only [List.length_nil, Nat.pow_zero, Nat.one_mul]
      generalize b * (p - p / q * q) = x at *
      generalize b * q = y at *
      omega
    · refine Nat.le_trans ?_ hn
      rw [Nat.mul_comm (2 ^ ws.length) 2, ← Nat.mul_assoc]
      refine Nat.mul_le_mul_right _ ?_
      have w1 : 1 ≤ p / q := Int.le_ediv_of_mul_le (by have := I.q1; omega) (by omega)
      have h5 := Int.mul_le_mul_of_nonneg_right w1 (show 0 ≤ q by have := I.q1; omega)
      have h6 := Int.mul_le_mul_of_nonneg_left (show 2 * (p - p / q * q) ≤ p by omega) (show 0 ≤ b by omega)
      generalize p - p / q * q = r at *
      have e1 : b * (2 * r) = 2 * (b * r) := by grind
      rw [e1, Int.mul_comm b p] at h6
      have := Int.mul_nonneg (show 0 ≤ b by omega) r0
      generalize b * r = x at *
      generalize p * b = y at *
      omega
theorem Lw.len {k : Nat} {p0 q0 t0 b0 p q t b : Int} {ws : List Int} (L : Lw k p0 q0 t0 b0 ws p q t b) (b1 : 1 ≤ b) (bq : Bd k q0) (bb : Bd k b0) : ws.length < 2 * k + 2 := by
  rcases L.n with ⟨rfl, _⟩ | ⟨hq, hn⟩
  · simp
  · have B1 : Bd (k + k + 1) (2 * (q0 * b0)) := by
      have := Bd.add (Bd.mul bq bb) (Bd.mul bq bb)
      rw [show 2 * (q0 * b0) = q0 * b0 + q0 * b0 by omega]
      exact this
    have p1 : 1 ≤ p * b := by
      have := Int.mul_le_mul (show 1 ≤ p by have := L.iv.q1; omega) b1 (by omega) (by have := L.iv.p0; omega)
      omega
    unfold Bd at B1
    have h2 : 2 ^ ws.length ≤ (p * b).toNat * 2 ^ ws.length := Nat.le_mul_of_pos_left _ (by omega)
    have h3 : 2 ^ ws.length < 2 ^ (k + k + 1) := by omega
    have := (Nat.pow_lt_pow_iff_right (by decide)).mp h3
    omega
section
variable {P : Program} {w : World} {K : PySem.W.Frag} {mg : Str → Option Value} {base : Heap}
/-! ### rates -/
structure Rt (k : Nat) (p q : Int) : Prop where
  p0 : 0 ≤ p
  q1 : 1 ≤ q
  g : Int.gcd p q = 1
  bp : Bd k p
  bq : Bd k q
theorem Rt.mono {k j : Nat} {p q : Int} (h : Rt k p q) (e : k ≤ j) : Rt j p q := ⟨h.p0, h.q1, h.g, h.bp.mono e, h.bq.mono e⟩
abbrev tup2 (p q : Int) : HO := .tup [.int p, .int q]
def spIsRate : Sp := fun vs H Q _ => ∃ (r : Addr) (p q : Int) (k : Nat), vs = [.ref r] ∧ H r = some (tup2 p q) ∧ Rt k p q ∧ Q (.bl true) H
abbrev s_is_rate : Stmt := topS 16
abbrev N_is_rate : List Str := ["value"]
abbrev P_is_rate : List Str := ["value"]
theorem sc_is_rate : FnScope N_is_rate P_is_rate (defScope s_is_rate) := ⟨rfl, rfl, rfl, by decide +kernel, rfl, by decide +kernel, by decide +kernel⟩
theorem ok_is_rate (D : Df K mg "is_rate" s_is_rate P_is_rate) (B : Bi mg) (c_is_integer : C8.Cal P w K mg base 1 "is_integer" spIsInt []) (c_gcd : C8.Cal P w K mg base 1 "gcd" spGcd []) : C8.Cal P w K mg base 2 "is_rate" spIsRate [] := by
  refine cal_of D sc_is_rate (fun vs H Q E h => ?_) (fun f cdv A outer s H vs Q E hr h => ?_)
  · obtain ⟨r, p, q, k, rfl, _⟩ := h
    rfl
  · obtain ⟨r, p, q, k, rfl, er, R, kk⟩ := h
    refine ⟨_, (pss_cons (ps_if (PW.pt (pw_or (pt_not (pt_val (pe_callB (call_isi) (by rfl) B.isinstance_ bt_isinstance (pa_cons (pv 0) (pa_cons (pe_bltn (v := .ty "tuple") (by rfl) B.tuple_ bt_tuple rfl) pa_nil))))) (pw_or1 (pt_cmpR op_ne (pe_callB (call_len_seq) (by rfl) B.len_ bt_len (pa_cons (pv 0) pa_nil)) pe_int (nomark _)))))
      (pss_one (ps_ret pe_bl))
      pss_nil)
    (pss_cons (ps_if (PW.pt (pw_or (pt_not (pt_val (C8.pe_c c_is_integer hr (by decide) (by rfl) (pa_cons (pe_ix (r := rIxT K) ix_tup (pv 0) pe_int (fun _ _ => rfl)) pa_nil)))) (pw_or1 (pt_not (pt_val (C8.pe_c c_is_integer hr (by decide) (by rfl) (pa_cons (pe_ix (r := rIxT K) ix_tup (pv 0) pe_int (fun _ _ => rfl)) pa_nil)))))))
      (pss_one (ps_ret pe_bl))
      pss_nil)
    (pss_one (ps_ret (pe_and (pe_cmpR op_ge (pe_ix (r := rIxT K) ix_tup (pv 0) pe_int (fun _ _ => rfl)) pe_int (nomark _)) (pe_and (pe_cmpR op_ge (pe_ix (r := rIxT K) ix_tup (pv 0) pe_int (fun _ _ => rfl)) pe_int (nomark _)) (pe_one (pe_cmpR op_eq (C8.pe_c c_gcd hr (by decide) (by rfl) (pa_cons (pe_ix (r := rIxT K) ix_tup (pv 0) pe_int (fun _ _ => rfl)) (pa_cons (pe_ix (r := rIxT K) ix_tup (pv 0) pe_int (fun _ _ => rfl)) pa_nil))) pe_int (nomark _))))))))), ?_⟩
    refine ⟨_, rfl, _, _, _, _, true, rfl, .ty "tuple", .base (.tup er), kit_ty ktt, true, rfl, iteF ?_⟩
    refine ⟨_, rfl, r, _, rfl, .inr (SqT.of er), rfl, _, rfl, iteNS rfl ?_⟩
    refine ⟨_, rfl, r, _, _, _, rfl, rfl, SqT.of er, atI_nat (j := 0) rfl, p, rfl, true, rfl, iteF ?_⟩
    refine ⟨_, rfl, r, _, _, _, rfl, rfl, SqT.of er, atI_nat (j := 1) rfl, q, rfl, true, rfl, iteF ?_⟩
    refine ⟨_, rfl, r, _, _, _, rfl, rfl, SqT.of er, atI_nat (j := 0) rfl, _, _, rfl, rfl, _, rfl, iteD R.p0 ?_⟩
    refine ⟨_, rfl, r, _, _, _, rfl, rfl, SqT.of er, atI_nat (j := 1) rfl, _, _, rfl, rfl, _, rfl, iteD R.q1 ?_⟩
    refine ⟨_, rfl, r, _, _, _, rfl, rfl, SqT.of er, atI_nat (j := 0) rfl, _, rfl, r, _, _, _, rfl, rfl, SqT.of er, atI_nat (j := 1) rfl, p, q, rfl, R.p0, by have := R.q1; omega, rfl, ?_⟩
    rw [R.g]
    exact kk
def spCheckRate : Sp := fun vs H Q _ => ∃ (r : Addr) (p q : Int) (k : Nat), vs = [.ref r] ∧ H r = some (tup2 p q) ∧ Rt k p q ∧ Q .non H
abbrev s_check_rate : Stmt := topS 17
abbrev N_check_rate : List Str := ["value"]
abbrev P_check_rate : List Str := ["value"]
theorem sc_check_rate : FnScope N_check_rate P_check_rate (defScope s_check_rate) := ⟨rfl, rfl, rfl, by decide +kernel, rfl, by decide +kernel, by decide +kernel⟩
theorem ok_check_rate (D : Df K mg "check_rate" s_check_rate P_check_rate) (c_is_rate : C8.Cal P w K mg base 2 "is_rate" spIsRate []) : C8.Cal P w K mg base 3 "check_rate" spCheckRate [] := by
  refine cal_of D sc_check_rate (fun vs H Q E h => ?_) (fun f cdv A outer s H vs Q E hr h => ?_)
  · obtain ⟨r, p, q, k, rfl, _⟩ := h
    rfl
  · obtain ⟨r, p, q, k, rfl, er, R, kk⟩ := h
    refine ⟨_, (pss_one (ps_if (pt_not (pt_val (C8.pe_c c_is_rate hr (by decide) (by rfl) (pa_cons (pv 0) pa_nil))))
      (pss_one ps_never)
      pss_nil)), ?_⟩
    exact ⟨_, rfl, r, p, q, k, rfl, er, R, true, rfl, iteF kk⟩
/-! ### simplest_inside -/
def spInside : Sp := fun vs H Q _ => ∃ (l h : Addr) (p q t b : Int) (k : Nat), vs = [.ref l, .ref h] ∧ H l = some (tup2 p q) ∧ H h = some (tup2 t b) ∧ Iv k p q t b ∧ 0 < k ∧ k ≤ 2000 ∧
  ∀ r H' N D, Same H H' → H r = none → H' r = some (tup2 N D) → Sim p q t b N D → Bd (k + 1) N → Bd (k + 1) D → Q (.ref r) H'
def muF : L2.St → Hp → Nat := fun σ _ => match σ with
  | _ :: _ :: _ :: some (.int q) :: _ :: some (.int b) :: _ => (q + b).toNat
  | _ => 0
abbrev s_simplest_inside : Stmt := topS 20
abbrev N_simplest_inside : List Str := ["low", "high", "p", "q", "top", "bottom", "wholes", "whole", "numerator", "denominator"]
abbrev P_simplest_inside : List Str := ["low", "high"]
theorem sc_simplest_inside : FnScope N_simplest_inside P_simplest_inside (defScope s_simplest_inside) := ⟨rfl, rfl, rfl, by decide +kernel, rfl, by decide +kernel, by decide +kernel⟩
theorem ok_simplest_inside (D : Df K mg "simplest_inside" s_simplest_inside P_simplest_inside) (B : Bi mg) : C8.Cal P w K mg base 1 "simplest_inside" spInside [] := by
  refine cal_of D sc_simplest_inside (fun vs H Q E h => ?_) (fun f cdv A outer s H vs Q E hr h => ?_)
  · obtain ⟨l, h, p, q, t, b, k, rfl, _⟩ := h
    rfl
  · obtain ⟨l, h, p0, q0, t0, b0, k, rfl, el, eh, I, k0, k4, kk⟩ := h
    refine ⟨_, (pss_cons (ps_asg (pv 0) (pg_tup rfl (pgs_cons (pg_name (i := 2) sc_simplest_inside.nd rfl (Or.inl rfl)) (pgs_cons (pg_name (i := 3) sc_simplest_inside.nd rfl (Or.inl rfl)) pgs_nil))))
    (pss_cons (ps_asg (pv 1) (pg_tup rfl (pgs_cons (pg_name (i := 4) sc_simplest_inside.nd rfl (Or.inl rfl)) (pgs_cons (pg_name (i := 5) sc_simplest_inside.nd rfl (Or.inl rfl)) pgs_nil))))
    (pss_cons (ps_set (i := 6) sc_simplest_inside.nd rfl (Or.inl rfl) (pe_lst pa_nil))
    (pss_cons (ps_set (i := 7) sc_simplest_inside.nd rfl (Or.inl rfl) (pe_op op_fdivW (pv 2) (pv 3)))
    (pss_cons (ps_while PassesOwn.never (pt_cmpR op_ge (pe_op op_mulW (pe_op op_add (pv 7) pe_int) (pv 5)) (pv 4) (nomark _))
      (pss_cons (ps_expr (pe_bm PySem.F.plainAttrs_list PySem.F.slot_list_append PySem.F.type_list_append mt_append (pv 6) (pa_cons (pv 7) pa_nil)))
    (pss_cons (ps_asg (pe_tup (pa_cons (pv 5) (pa_cons (pe_op op_sub (pv 4) (pe_op op_mulW (pv 7) (pv 5))) (pa_cons (pv 3) (pa_cons (pe_op op_sub (pv 2) (pe_op op_mulW (pv 7) (pv 3))) pa_nil))))) (pg_tup rfl (pgs_cons (pg_name (i := 2) sc_simplest_inside.nd rfl (Or.inl rfl)) (pgs_cons (pg_name (i := 3) sc_simplest_inside.nd rfl (Or.inl rfl)) (pgs_cons (pg_name (i := 4) sc_simplest_inside.nd rfl (Or.inl rfl)) (pgs_cons (pg_name (i := 5) sc_simplest_inside.nd rfl (Or.inl rfl)) pgs_nil))))))
    (pss_one (ps_set (i := 7) sc_simplest_inside.nd rfl (Or.inl rfl) (pe_op op_fdivW (pv 2) (pv 3)))))))
    (pss_cons (ps_par (i := 8) (j := 9) rfl sc_simplest_inside.nd rfl rfl (by decide) rfl rfl (pa_cons (pe_op op_add (pv 7) pe_int) (pa_cons pe_int pa_nil)) rfl)
    (pss_cons (ps_for PassesOwn.never rfl (pi_reversed (by rfl) B.reversed_ (pa_cons (pv 6) pa_nil)) (pg_name (i := 7) sc_simplest_inside.nd rfl (Or.inl rfl))
      (pss_one (ps_par (i := 8) (j := 9) rfl sc_simplest_inside.nd rfl rfl (by decide) rfl rfl (pa_cons (pe_op op_add (pe_op op_mulW (pv 7) (pv 8)) (pv 9)) (pa_cons (pv 8) pa_nil)) rfl)))
    (pss_one (ps_ret (pe_tup (pa_cons (pv 8) (pa_cons (pv 9) pa_nil)))))))))))), ?_⟩
    refine ⟨_, rfl, l, _, rfl, SqT.of el, rfl, _, _, rfl, _, _, rfl, rfl, ?_⟩
    refine ⟨_, rfl, h, _, rfl, SqT.of eh, rfl, _, _, rfl, _, _, rfl, rfl, ?_⟩
    refine ⟨Nat.zero_le _, fun lv nlv => ?_⟩
    refine ⟨_, rfl, _, rfl, _, _, rfl, rfl, divW (by have := I.q1; omega) I.bq (by omega), ?_⟩
    refine while_by (fun σ H' => ∃ (p q t b : Int) (ws : List Int), σ = [some (.ref l), some (.ref h), some (.int p), some (.int q), some (.int t), some (.int b), some (.ref lv), some (.int (p / q)), none, none] ∧ Lw k p0 q0 t0 b0 ws p q t b ∧ Same H H' ∧ H' lv = some (.lst (ws.map V.int))) muF ⟨p0, q0, t0, b0, [], rfl, Lw.init I, sm_upd nlv, upd_same⟩ ?_ ?_
    · rintro σ H1 ⟨p, q, t, b, ws, rfl, L, sH, elv⟩
      have J := L.iv
      have q1 := J.q1
      have bw : Bd k (p / q) := J.bp.ediv (by omega)
      have bw1 : Bd (k + 1) (p / q + 1) := Bd.add bw (Bd.small 1 (by decide) (by omega))
      refine ⟨_, rfl, _, _, rfl, rfl, _, rfl, _, _, rfl, rfl, mulW bw1 J.bb (by omega) k0 (by omega), _, rfl, _, _, rfl, rfl, _, rfl, ite2 (fun c => ?_) (fun c => ?_)⟩
      · have hc : t ≤ (p / q + 1) * b := of_decide_eq_true c
        obtain ⟨_, b1, h3, h4⟩ := J.next hc
        have LN := L.next hc
        have ln := L.len b1 I.bq I.bb
        have q1' := LN.iv.q1
        refine ⟨_, rfl, .inl ⟨rfl, _, SqL.of elv⟩, _, rfl, lv, _, _, rfl, rfl, elv, ?_, ?_⟩
        · rw [List.length_map]
          exact (Nat.lt_of_le_of_lt (show _ ≤ 5000 by omega) (by decide))
        · refine ⟨_, rfl, _, rfl, _, rfl, _, rfl, _, _, rfl, rfl, mulW bw J.bb k0 k0 (by omega), _, _, rfl, rfl, _, rfl, _, rfl, _, rfl, _, rfl, _, _, rfl, rfl, mulW bw J.bq k0 k0 (by omega), _, _, rfl, rfl, len10 (by simp), fun t2 nt2 => ?_⟩
          refine ⟨t2, _, rfl, SqT.of upd_same, rfl, _, _, rfl, _, _, rfl, _, _, rfl, _, _, rfl, rfl, ?_⟩
          refine ⟨_, rfl, _, rfl, _, _, rfl, rfl, divW (by omega) LN.iv.bq (by omega), ?_⟩
          refine ⟨⟨_, _, _, _, ws ++ [p / q], rfl, LN, ?_, ?_⟩, ?_⟩
          · intro x o ex
            have z := sH _ _ ex
            have nx : x ≠ lv := ne_of_none ex nlv
            have z2 : upd H1 lv (.lst (ws.map V.int ++ [.int (p / q)])) x = some o := by
              rw [upd_ne nx]
              exact z
            exact sm_upd nt2 _ _ z2
          · have z2 : upd H1 lv (.lst (ws.map V.int ++ [.int (p / q)])) lv = some (.lst ((ws ++ [p / q]).map V.int)) := by
              rw [upd_same, List.map_append]
              rfl
            exact sm_upd nt2 _ _ z2
          · show (t - p / q * b + (p - p / q * q)).toNat < (q + b).toNat
            have := LN.iv.b0
            omega
      · have hc : (p / q + 1) * b < t := by
          have : ¬ t ≤ (p / q + 1) * b := fun z => c (decide_eq_true z)
          omega
        have S := sim_base J.p0 J.q1 hc
        refine ⟨_, rfl, _, _, rfl, rfl, _, _, rfl, ?_⟩
        refine ⟨_, rfl, lv, _, rfl, SqL.of elv, ?_⟩
        have CC := L.c
        have CA := L.a
        generalize hN : p / q + 1 = N at S
        refine for_it walk_rev (fun i σ H2 => ∃ (y : Option V), σ = [some (.ref l), some (.ref h), some (.int p), some (.int q), some (.int t), some (.int b), some (.ref lv), y, some (.int (fold2 (ws.drop (ws.length - i)) (N, 1)).1), some (.int (fold2 (ws.drop (ws.length - i)) (N, 1)).2)] ∧ H2 = H1) ?_ ?_ ?_ ?_
        · refine ⟨some (.int (p / q)), ?_, rfl⟩
          rw [Nat.sub_zero, List.drop_length, ← hN]
          rfl
        · rintro i σ H2 _ ⟨_, _, rfl⟩
          exact SqL.of elv
        · rintro i x σ H2 H3 hi ⟨y, rfl, rfl⟩ ⟨rfl, hx⟩
          rw [List.length_map] at hi hx
          have hj : ws.length - 1 - i < ws.length := by omega
          rw [List.getElem?_map, List.getElem?_eq_getElem hj] at hx
          have ex : x = V.int ws[ws.length - 1 - i] := (Option.some.inj hx).symm
          subst ex
          have d1 := L.d _ (List.getElem_mem hj)
          have cc := CC (ws.take (ws.length - i)) (ws.drop (ws.length - i)) (List.take_append_drop _ _).symm N 1 S
          have ed : ws.drop (ws.length - (i + 1)) = ws[ws.length - 1 - i] :: ws.drop (ws.length - i) := by
            rw [show ws.length - (i + 1) = ws.length - 1 - i by omega, List.drop_eq_getElem_cons hj, show ws.length - 1 - i + 1 = ws.length - i by omega]
          generalize ws[ws.length - 1 - i] = e at *
          refine ⟨_, rfl, _, rfl, _, _, rfl, rfl, mulW d1 cc.1 k0 (by omega) (by omega), _, rfl, _, _, rfl, rfl, _, rfl, _, _, rfl, ?_⟩
          refine ⟨some (.int e), ?_, rfl⟩
          rw [ed]
          rfl
        · rintro σ H2 ⟨y, rfl, rfl⟩
          have e0 : ws.drop (ws.length - (ws.map V.int).length) = ws := by
            rw [List.length_map, Nat.sub_self]
            rfl
          rw [e0]
          refine ⟨_, rfl, _, rfl, len10 (by simp), fun r nr => ?_⟩
          have F2 := CA N 1 S
          have bd := I.bds F2
          refine kk r _ _ _ (sH.trans (sm_upd nr)) ?_ upd_same F2 bd.1 bd.2
          cases z : H r with
          | none => rfl
          | some o =>
            rw [sH _ _ z] at nr
            cases nr
    · rintro σ H' Q1 Q2 hQ ⟨v, h1, i, j, h2, h3, v2, g1, i2, j2, g2, g3, gm, v3, g4, i3, j3, g5, g6, b, h4, h5⟩
      exact ⟨v, h1, i, j, h2, h3, v2, g1, i2, j2, g2, g3, gm, v3, g4, i3, j3, g5, g6, b, h4, hQ _ _ h5⟩
end
end Lf
namespace Lf
open PySem PySem.Spec PyProof.Rows L2
theorem obs_cut {α : Type} {O : α → HO} {H : Hp} {vs : List V} {ds : List α} (h : Obs O H vs ds) (lo hi : Option Int) : ∃ es, Obs O H (cutV vs lo hi) es ∧ (∀ d ∈ es, d ∈ ds) ∧ es.length ≤ ds.length := by
  unfold cutV
  generalize HT.sIx vs.length 0 lo = i
  generalize HT.sIx vs.length vs.length hi - i = j
  refine ⟨(ds.drop i).take j, (h.drop i).take j, fun d hd => List.mem_of_mem_drop (List.mem_of_mem_take hd), ?_⟩
  rw [List.length_take, List.length_drop]
  omega
theorem at_map {cs : List Int} {i : Nat} {x : V} (h : (cs.map V.int)[i]? = some x) : ∃ c, c ∈ cs ∧ x = .int c := by
  rw [List.getElem?_map] at h
  cases e : cs[i]? with
  | none =>
    rw [e] at h
    cases h
  | some c =>
    rw [e] at h
    cases h
    exact ⟨c, List.mem_of_getElem? e, rfl⟩
theorem in_words (b : Bool) : inV (.str (wd b)) [.str "at least", .str "at most"] = true := by
  cases b <;> decide +kernel
theorem kit_lt {K : PySem.W.Frag} : PySem.W.kitAny K (.type "list") [.type "list", .type "tuple"] = some true :=
  kitAny_cons (b := true) (kit_ty (by decide +kernel)) (fun z => by cases z) (fun _ => rfl)
def lph (p q : Int) (ds : List Rec) : List Int := (sel true 0 ds).map fun x => x.2.2 * q - p * x.2.1
def hph (p q : Int) (ds : List Rec) : List Int := (sel false 0 ds).map fun x => (x.2.2 + 1) * q - p * x.2.1 - 1
def okPh : Option Int → Option Int → Bool
  | some x, some y => decide (x ≤ y)
  | _, _ => true
theorem mx_uniq {l : List Int} {a b : Option Int} (h : IsMx l a) (h2 : IsMx l b) : a = b := by
  cases a with
  | none =>
    cases b with
    | none => rfl
    | some y =>
      have e : l = [] := h
      subst e
      cases h2.1
  | some x =>
    cases b with
    | none =>
      have e : l = [] := h2
      subst e
      cases h.1
    | some y =>
      have h1 := h.2 y h2.1
      have h3 := h2.2 x h.1
      rw [show x = y by omega]
theorem mn_uniq {l : List Int} {a b : Option Int} (h : IsMn l a) (h2 : IsMn l b) : a = b := by
  cases a with
  | none =>
    cases b with
    | none => rfl
    | some y =>
      have e : l = [] := h
      subst e
      cases h2.1
  | some x =>
    cases b with
    | none =>
      have e : l = [] := h2
      subst e
      cases h.1
    | some y =>
      have h1 := h.2 y h2.1
      have h3 := h2.2 x h.1
      rw [show x = y by omega]
def fitB (p q c : Int) (d : Rec) : Bool := if d.lo = true then decide (d.n ≤ (p * d.t + c) / q) else decide ((p * d.t + c) / q ≤ d.n)
structure Bc (mg : Str → Option Value) : Prop where
  most_ : ∃ t, mg "MOST_RECORDS" = some (.int 200 t)
section
variable {P : Program} {w : World} {K : PySem.W.Frag} {mg : Str → Option Value} {base : Heap}
/-! ### is_record, check_records -/
def spIsRec : Sp := fun vs H Q _ => ∃ (r : Addr) (d : Rec), vs = [.ref r] ∧ H r = some (rcO d) ∧ ∀ H', Same H H' → Q (.bl true) H'
abbrev s_is_record : Stmt := topS 22
abbrev N_is_record : List Str := ["value"]
abbrev P_is_record : List Str := ["value"]
theorem sc_is_record : FnScope N_is_record P_is_record (defScope s_is_record) := ⟨rfl, rfl, rfl, by decide +kernel, rfl, by decide +kernel, by decide +kernel⟩
theorem ok_is_record (D : Df K mg "is_record" s_is_record P_is_record) (B : Bi mg) (c_is_integer : C8.Cal P w K mg base 1 "is_integer" spIsInt []) : C8.Cal P w K mg base 2 "is_record" spIsRec [] := by
  refine cal_of D sc_is_record (fun vs H Q E h => ?_) (fun f cdv A outer s H vs Q E hr h => ?_)
  · obtain ⟨r, d, rfl, _⟩ := h
    rfl
  · obtain ⟨r, d, rfl, er, kk⟩ := h
    refine ⟨_, (pss_cons (ps_if (PW.pt (pw_or (pt_not (pt_val (pe_callB (call_isi) (by rfl) B.isinstance_ bt_isinstance (pa_cons (pv 0) (pa_cons (pe_bltn (v := .ty "tuple") (by rfl) B.tuple_ bt_tuple rfl) pa_nil))))) (pw_or1 (pt_cmpR op_ne (pe_callB (call_len_seq) (by rfl) B.len_ bt_len (pa_cons (pv 0) pa_nil)) pe_int (nomark _)))))
      (pss_one (ps_ret pe_bl))
      pss_nil)
    (pss_one (ps_ret (pe_and (pe_cmpR op_in_seq (pe_ix (r := rIxT K) ix_tup (pv 0) pe_int (fun _ _ => rfl)) (pe_tup (pa_cons pe_str (pa_cons pe_str pa_nil))) rfl) (pe_and (C8.pe_c c_is_integer hr (by decide) (by rfl) (pa_cons (pe_ix (r := rIxT K) ix_tup (pv 0) pe_int (fun _ _ => rfl)) pa_nil)) (pe_one (C8.pe_c c_is_integer hr (by decide) (by rfl) (pa_cons (pe_ix (r := rIxT K) ix_tup (pv 0) pe_int (fun _ _ => rfl)) pa_nil)))))))), ?_⟩
    refine ⟨_, rfl, _, _, _, _, true, rfl, .ty "tuple", .base (.tup er), kit_ty ktt, true, rfl, iteF ?_⟩
    refine ⟨_, rfl, r, _, rfl, .inr (SqT.of er), rfl, _, rfl, iteNS rfl ?_⟩
    refine ⟨_, rfl, r, _, _, _, rfl, rfl, SqT.of er, atI_nat (j := 0) rfl, len10 (by simp), fun p np => ?_⟩
    have er1 := sm_upd (o := .tup [.str "at least", .str "at most"]) np _ _ er
    refine ⟨p, _, rfl, .inr (SqT.of upd_same), rfl, rfl, _, rfl, iteTs (in_words d.lo) ?_⟩
    refine ⟨_, rfl, r, _, _, _, rfl, rfl, SqT.of er1, atI_nat (j := 1) rfl, d.t, rfl, true, rfl, iteT ?_⟩
    refine ⟨_, rfl, r, _, _, _, rfl, rfl, SqT.of er1, atI_nat (j := 2) rfl, d.n, rfl, ?_⟩
    exact kk _ (sm_upd np)
def spCkRec : Sp := fun vs H Q _ => ∃ (L : Addr) (xs : List V) (ds : List Rec), vs = [.ref L] ∧ H L = some (.lst xs) ∧ Obs rcO H xs ds ∧ ds.length ≤ 200 ∧ ∀ H', Same H H' → Q .non H'
/-! ### split_records -/
def spSplit : Sp := fun vs H Q _ => ∃ (L : Addr) (xs : List V) (ds : List Rec), vs = [.ref L] ∧ H L = some (.lst xs) ∧ Obs rcO H xs ds ∧ ds.length ≤ 1000 ∧
  ∀ T H' A B as bs, Same H H' → H' T = some (.tup [.ref A, .ref B]) → H' A = some (.lst as) → Obs trO H' as (sel true 0 ds) → H' B = some (.lst bs) → Obs trO H' bs (sel false 0 ds) → Q (.ref T) H'
abbrev s_split_records : Stmt := topS 27
abbrev N_split_records : List Str := ["records", "lows", "highs", "i", "word", "t", "n", "j", "u", "m"]
abbrev P_split_records : List Str := ["records"]
theorem sc_split_records : FnScope N_split_records P_split_records (defScope s_split_records) := ⟨rfl, rfl, rfl, by decide +kernel, rfl, by decide +kernel, by decide +kernel⟩
theorem ok_split_records (D : Df K mg "split_records" s_split_records P_split_records) (B : Bi mg) : C8.Cal P w K mg base 1 "split_records" spSplit [] := by
  refine cal_of D sc_split_records (fun vs H Q E h => ?_) (fun f cdv A outer s H vs Q E hr h => ?_)
  · obtain ⟨L, xs, ds, rfl, _⟩ := h
    rfl
  · obtain ⟨L, xs, ds, rfl, eL, hO, hl, kk⟩ := h
    refine ⟨_, (pss_cons (ps_setLc (i := 1) (own := [("i", 3), ("word", 4), ("t", 5), ("n", 6)]) (g := (gTup K 2 (gCons (gName 3) (gCons (gTup K 3 (gCons (gName 4) (gCons (gName 5) (gCons (gName 6) gNil)))) gNil)))) (by rfl) sc_split_records.nd rfl rfl (sw_true rfl rfl rfl (by decide +kernel)) (pi_enum (by rfl) B.enumerate_ (pa_cons (pv 0) pa_nil)) (blkOk_by (own := [("i", 3), ("word", 4), ("t", 5), ("n", 6)]) (N := N_split_records) (sc := defScope s_split_records) (by decide +kernel)) (fun _ _ _ _ _ => (pg_tup rfl (pgs_cons (pg_name (i := 3) sc_split_records.nd rfl (Or.inl rfl)) (pgs_cons (pg_tup rfl (pgs_cons (pg_name (i := 4) sc_split_records.nd rfl (Or.inl rfl)) (pgs_cons (pg_name (i := 5) sc_split_records.nd rfl (Or.inl rfl)) (pgs_cons (pg_name (i := 6) sc_split_records.nd rfl (Or.inl rfl)) pgs_nil)))) pgs_nil)))) (fun _ _ _ _ _ => (pts_one (pt_cmpR op_eq (pv 4) pe_str (nomark _)))) (fun _ _ _ _ _ => (pe_tup (pa_cons (pv 3) (pa_cons (pv 5) (pa_cons (pv 6) pa_nil))))))
    (pss_cons (ps_setLc (i := 2) (own := [("j", 7), ("word", 4), ("u", 8), ("m", 9)]) (g := (gTup K 2 (gCons (gName 7) (gCons (gTup K 3 (gCons (gName 4) (gCons (gName 8) (gCons (gName 9) gNil)))) gNil)))) (by rfl) sc_split_records.nd rfl rfl (sw_true rfl rfl rfl (by decide +kernel)) (pi_enum (by rfl) B.enumerate_ (pa_cons (pv 0) pa_nil)) (blkOk_by (own := [("j", 7), ("word", 4), ("u", 8), ("m", 9)]) (N := N_split_records) (sc := defScope s_split_records) (by decide +kernel)) (fun _ _ _ _ _ => (pg_tup rfl (pgs_cons (pg_name (i := 7) sc_split_records.nd rfl (Or.inl rfl)) (pgs_cons (pg_tup rfl (pgs_cons (pg_name (i := 4) sc_split_records.nd rfl (Or.inl rfl)) (pgs_cons (pg_name (i := 8) sc_split_records.nd rfl (Or.inl rfl)) (pgs_cons (pg_name (i := 9) sc_split_records.nd rfl (Or.inl rfl)) pgs_nil)))) pgs_nil)))) (fun _ _ _ _ _ => (pts_one (pt_cmpR op_eq (pv 4) pe_str (nomark _)))) (fun _ _ _ _ _ => (pe_tup (pa_cons (pv 7) (pa_cons (pv 8) (pa_cons (pv 9) pa_nil))))))
    (pss_one (ps_ret (pe_tup (pa_cons (pv 1) (pa_cons (pv 2) pa_nil))))))), ?_⟩
    refine ⟨_, rfl, L, _, rfl, SqL.of eL, fun A nA => ?_⟩
    refine lc_it (walk_enum (K := K) (a := L) (xs := xs)) (fun i H' => ∃ as, H' A = some (.lst as) ∧ Obs trO H' as (sel true 0 (ds.take i)) ∧ Same H H') ⟨_, upd_same, .nil, sm_upd nA⟩ ?_ ?_ ?_
    · rintro i H1 _ ⟨_, _, _, s1⟩
      exact SqL.of (s1 _ _ eL)
    · rintro i v H1 H2 hi ⟨as, eA, oA, s1⟩ ⟨T, x, y, rfl, nT, rfl, hx, hy⟩
      cases hx
      obtain ⟨r, d, rfl, er, hd⟩ := hO.at hy
      have z := sm_upd (o := .tup [.int (i : Nat), .ref r]) nT
      have s2 := s1.trans z
      have al : as.length < sizeLine := by
        have h1 := oA.len
        have h2 := sel_len true 0 (ds.take i)
        rw [List.length_take] at h2
        exact small1000 (by omega)
      refine ⟨T, _, rfl, SqT.of upd_same, rfl, _, _, rfl, _, _, rfl, r, _, rfl, SqT.of (s2 _ _ er), rfl, _, _, rfl, _, _, rfl, _, _, rfl, rfl, rfl, ?_⟩
      refine ⟨rfl, _, rfl, rfl, _, rfl, ?_⟩
      rw [w_lo]
      cases hb : d.lo with
      | true =>
        refine iteT ⟨_, rfl, _, rfl, _, rfl, len10 (by simp), fun t nt => ?_⟩
        have z2 := sm_upd (o := .tup [.int (i : Nat), .int d.t, .int d.n]) nt
        have nA2 : t ≠ A := (ne_of_none (z _ _ eA) nt).symm
        refine ⟨as, z2 _ _ (z _ _ eA), al, _, upd_same, ?_, ?_⟩
        · rw [sel_take hd, if_pos hb]
          refine Obs.snoc (Obs.keep ((oA.same z).same z2) fun b d' e => ?_) ?_
          · rw [upd_ne (ne_of e (z2 _ _ (z _ _ eA)) (by intro q; cases q))]
            exact e
          · rw [upd_ne nA2]
            exact upd_same
        · intro b o e
          rw [upd_ne (ne_of_none e nA)]
          exact z2 _ _ (s2 _ _ e)
      | false =>
        refine iteF ⟨as, z _ _ eA, ?_, s2⟩
        rw [sel_take hd, if_neg (by rw [hb]; exact Bool.false_ne_true), List.append_nil]
        exact oA.same z
    rintro H1 ⟨as, eA, oA, s1⟩
    rw [List.take_of_length_le (by rw [hO.len]; exact Nat.le_refl _)] at oA
    refine ⟨_, rfl, L, _, rfl, SqL.of (s1 _ _ eL), fun B2 nB => ?_⟩
    refine lc_it (walk_enum (K := K) (a := L) (xs := xs)) (fun i H' => ∃ bs, H' B2 = some (.lst bs) ∧ Obs trO H' bs (sel false 0 (ds.take i)) ∧ Same H1 H') ⟨_, upd_same, .nil, sm_upd nB⟩ ?_ ?_ ?_
    · rintro i H2 _ ⟨_, _, _, s2⟩
      exact SqL.of (s2 _ _ (s1 _ _ eL))
    · rintro i v H2 H3 hi ⟨bs, eB, oB, s2⟩ ⟨T, x, y, rfl, nT, rfl, hx, hy⟩
      cases hx
      obtain ⟨r, d, rfl, er, hd⟩ := hO.at hy
      have z := sm_upd (o := .tup [.int (i : Nat), .ref r]) nT
      have s3 := s2.trans z
      have al : bs.length < sizeLine := by
        have h1 := oB.len
        have h2 := sel_len false 0 (ds.take i)
        rw [List.length_take] at h2
        exact small1000 (by omega)
      refine ⟨T, _, rfl, SqT.of upd_same, rfl, _, _, rfl, _, _, rfl, r, _, rfl, SqT.of (s3 _ _ (s1 _ _ er)), rfl, _, _, rfl, _, _, rfl, _, _, rfl, rfl, rfl, ?_⟩
      refine ⟨rfl, _, rfl, rfl, _, rfl, ?_⟩
      rw [w_hi]
      cases hb : d.lo with
      | false =>
        refine iteT ⟨_, rfl, _, rfl, _, rfl, len10 (by simp), fun t nt => ?_⟩
        have z2 := sm_upd (o := .tup [.int (i : Nat), .int d.t, .int d.n]) nt
        have nB2 : t ≠ B2 := (ne_of_none (z _ _ eB) nt).symm
        refine ⟨bs, z2 _ _ (z _ _ eB), al, _, upd_same, ?_, ?_⟩
        · rw [sel_take hd, if_pos hb]
          refine Obs.snoc (Obs.keep ((oB.same z).same z2) fun b d' e => ?_) ?_
          · rw [upd_ne (ne_of e (z2 _ _ (z _ _ eB)) (by intro q; cases q))]
            exact e
          · rw [upd_ne nB2]
            exact upd_same
        · intro b o e
          rw [upd_ne (ne_of_none e nB)]
          exact z2 _ _ (s3 _ _ e)
      | true =>
        refine iteF ⟨bs, z _ _ eB, ?_, s3⟩
        rw [sel_take hd, if_neg (by rw [hb]; exact fun q => Bool.false_ne_true q.symm), List.append_nil]
        exact oB.same z
    rintro H2 ⟨bs, eB, oB, s2⟩
    rw [List.take_of_length_le (by rw [hO.len]; exact Nat.le_refl _)] at oB
    refine ⟨_, rfl, _, rfl, len10 (by simp), fun T nT => ?_⟩
    have z := sm_upd (o := .tup [.ref A, .ref B2]) nT
    exact kk T _ A B2 as bs ((s1.trans s2).trans z) upd_same (z _ _ (s2 _ _ eA)) ((oA.same s2).same z) (z _ _ eB) (oB.same z)
end
end Lf
namespace Lf
open PySem PySem.Spec PyProof.Rows L2
/-! ### checks of integers: any value -/
def atLeast (l : Int) : PyData → Bool
  | .int i => decide (l ≤ i)
  | _ => false
theorem isI_b {d : PyData} (h : isI d = true) : isIB d = true ∧ isB d = false := by
  cases d <;> first | exact ⟨rfl, rfl⟩ | cases h
section
variable {P : Program} {w : World} {K : PySem.W.Frag} {mg : Str → Option Value} {base : Heap} {C : Addr}
def spIsAny : Sp := fun vs H Q _ => ∃ (v : V) (d : PyData), vs = [v] ∧ Dv H v d ∧ Q (.bl (isI d)) H
theorem okA_is_integer (D : Df K mg "is_integer" s_is_integer P_is_integer) (B : Bi mg) : C8.Cal P w K mg base 1 "is_integer" spIsAny [] := by
  refine cal_of D sc_is_integer (fun vs H Q E h => ?_) (fun f cdv A outer s H vs Q E hr h => ?_)
  · obtain ⟨v, d, rfl, _⟩ := h
    rfl
  · obtain ⟨v, d, rfl, dv, q⟩ := h
    refine ⟨_, (pss_one (ps_ret (pe_and (pe_callB (call_isi) (by rfl) B.isinstance_ bt_isinstance (pa_cons (pv 0) (pa_cons (pe_bltn (v := .ty "int") (by rfl) B.int_ bt_int rfl) pa_nil))) (pe_one (pe_not (pe_callB (call_isi) (by rfl) B.isinstance_ bt_isinstance (pa_cons (pv 0) (pa_cons (pe_bltn (v := .ty "bool") (by rfl) B.bool_ bt_bool rfl) pa_nil)))))))), ?_⟩
    refine ⟨_, rfl, _, _, _, _, isIB d, rfl, .ty "int", dv.ty, kit_ty (kit_int d), isIB d, rfl, ?_⟩
    by_cases hb : isIB d = true
    · rw [if_pos hb]
      refine ⟨_, rfl, _, _, _, _, isB d, rfl, .ty "bool", dv.ty, kit_ty (kit_bool d), isB d, rfl, ?_⟩
      have e : (!isB d) = isI d := by
        cases d <;> first | rfl | cases hb
      rw [e]
      exact q
    · rw [if_neg hb]
      have e : isI d = false := by
        cases d <;> first | rfl | exact absurd rfl hb
      rw [e] at q
      exact q
/-- InvalidNumber, with the value -/
def Out (C : Addr) (v : V) (H : Hp) (E : XK) : Prop := ∀ dd, H dd = none → E (.ref C) (some dd) (upd H dd (.xd [("value", v)]))
def spCkI (C : Addr) : Sp := fun vs H Q E => ∃ (v : V) (d : PyData), vs = [v] ∧ Dv H v d ∧ (isI d = true → Q .non H) ∧ (isI d = false → Out C v H E)
def spCkL (C : Addr) : Sp := fun vs H Q E => ∃ (v : V) (d : PyData) (l : Int), vs = [v, .int l] ∧ Dv H v d ∧ (atLeast l d = true → Q .non H) ∧ (atLeast l d = false → Out C v H E)
end
end Lf
namespace Lf
open PySem PySem.Spec PyProof.Rows L2
/-! ### records: any value -/
/-- x in a tuple whose items are data of any depth -/
def rInDT (K : PySem.W.Frag) : R2 := fun x y H Q => ∃ d ds, Dp K H x d ∧ Dp K H y (.tuple ds) ∧ SeqAt.shaped d = true ∧ SeqAt.shaped (.tuple ds) = true ∧ Q (.bl (ds.any fun z => PyData.eqv z d)) H
theorem op_inDT {X : Cx} (hu : X.A.units + 65 < cLine) : OpR X (compareOp .In) (rInDT X.K) := by
  intro pins s σ H x y v u Q I rx ry h
  obtain ⟨d, ds, hd, he, sd, se, q⟩ := h
  obtain ⟨as, r1⟩ := Dp.reads I d x v hd rx
  obtain ⟨bs, r2⟩ := Dp.reads I (.tuple ds) y u he ry
  exact SeqAt.in_tuple_reads r2 r1 (SeqAt.canLay_of_shaped se) (SeqAt.canLay_of_shaped sd) (room_in_shaped sd hu) ⟨.bl _, H, I, rfl, q⟩
mutual
theorem Dv.dp {K : PySem.W.Frag} {H : Hp} : ∀ (d : PyData) (v : V), Dv H v d → d.hasDict = false → Dp K H v d
  | .none, _, .non, _ => .non
  | .bool _, _, .bl b, _ => .bl b
  | .int _, _, .int i, _ => .int i
  | .str _, _, .str x, _ => .str x
  | .list ds, _, .lst _ h hs, n => .lst (SqL.of h) (Dv.dpAll ds _ hs (by simpa [PyData.hasDict] using n))
  | .tuple ds, _, .tup h hs, n => .tup (SqT.of h) (Dv.dpAll ds _ hs (by simpa [PyData.hasDict] using n))
  | .dict [], _, .dk0 h, n => by simp [PyData.hasDict] at n
  | .dict [(.str _, d)], _, .dk1 h h2, n => by simp [PyData.hasDict] at n
theorem Dv.dpAll {K : PySem.W.Frag} {H : Hp} : ∀ (ds : List PyData) (vs : List V), DvAll H vs ds → PyData.hasDictAll ds = false → DpAll K H vs ds
  | [], _, .nil, _ => .nil
  | d :: ds, _, .cons h hs, n => by
    have n : d.hasDict = false ∧ PyData.hasDictAll ds = false := by simpa [PyData.hasDictAll] using n
    exact .cons (Dv.dp d _ h n.1) (Dv.dpAll ds _ hs n.2)
end
def words : List PyData := [.str "at least", .str "at most"]
def recB : PyData → Bool
  | .tuple [d0, d1, d2] => words.any (fun z => PyData.eqv z d0) && (isI d1 && isI d2)
  | _ => false
/-- its first part may be looked for -/
def rgB : PyData → Bool
  | .tuple [d0, _, _] => !d0.hasDict && SeqAt.shaped d0
  | _ => true
theorem rec_three {ds : List PyData} (h : ds.length ≠ 3) : recB (.tuple ds) = false := by
  match ds, h with
  | [], _ => rfl
  | [_], _ => rfl
  | [_, _], _ => rfl
  | [_, _, _], h => exact absurd rfl h
  | _ :: _ :: _ :: _ :: _, _ => rfl
theorem len_ne3 {n : Nat} (h : n ≠ 3) : (!decide (V.int (n : Int) = V.int 3)) = true := by
  have : ¬ V.int (n : Int) = V.int 3 := fun z => h (by
    have := V.int.inj z
    omega)
  rw [decide_eq_false this]
  rfl
def isT' : PyData → Bool
  | .tuple _ => true
  | _ => false
theorem kit_tup' (d : PyData) : kitB (tyN d) "tuple" = some (isT' d) := by
  cases d
  · show kitB "NoneType" "tuple" = some false; decide +kernel
  · show kitB "bool" "tuple" = some false; decide +kernel
  · show kitB "int" "tuple" = some false; decide +kernel
  · show kitB "str" "tuple" = some false; decide +kernel
  · show kitB "list" "tuple" = some false; decide +kernel
  · show kitB "tuple" "tuple" = some true; decide +kernel
  · show kitB "dict" "tuple" = some false; decide +kernel
theorem dva_length {H : Hp} {vs : List V} {ds : List PyData} (h : DvAll H vs ds) : vs.length = ds.length := by
  induction ds generalizing vs with
  | nil =>
    cases h
    rfl
  | cons d ds ih =>
    cases h with
    | cons _ h2 => rw [List.length_cons, List.length_cons, ih h2]
/-- the exception, with what it keeps -/
def OutY (C : Addr) (x : Str) (v : V) (H : Hp) (E : XK) : Prop := ∀ dd, H dd = none → E (.ref C) (some dd) (upd H dd (.xd [(x, v)]))
def opp (d : Rec) : Rec := ⟨!d.lo, d.t, if d.lo = true then d.n - 1 else d.n + 1⟩
section
variable {P : Program} {w : World} {K : PySem.W.Frag} {mg : Str → Option Value} {base : Heap} {C : Addr}
def spIsRecD : Sp := fun vs H Q _ => ∃ (v : V) (d : PyData), vs = [v] ∧ Dv H v d ∧ rgB d = true ∧ ∀ H', Same H H' → Q (.bl (recB d)) H'
theorem okA_is_record (D : Df K mg "is_record" s_is_record P_is_record) (B : Bi mg) (cA_is_integer : C8.Cal P w K mg base 1 "is_integer" spIsAny []) : C8.Cal P w K mg base 2 "is_record" spIsRecD [] := by
  refine cal_of D sc_is_record (fun vs H Q E h => ?_) (fun f cdv A outer s H vs Q E hr h => ?_)
  · obtain ⟨v, d, rfl, _⟩ := h
    rfl
  · obtain ⟨v, d, rfl, dv, rg, kk⟩ := h
    have c_is_integer := cA_is_integer
    have hu : (A.deeper (envOfC "is_record" (defScope s_is_record) s.heap.objs.size f cdv)).units + 65 < cLine := by
      have := hr.un
      omega
    refine ⟨_, (pss_cons (ps_if (PW.pt (pw_or (pt_not (pt_val (pe_callB (call_isi) (by rfl) B.isinstance_ bt_isinstance (pa_cons (pv 0) (pa_cons (pe_bltn (v := .ty "tuple") (by rfl) B.tuple_ bt_tuple rfl) pa_nil))))) (pw_or1 (pt_cmpR op_ne (pe_callB (call_len_seq) (by rfl) B.len_ bt_len (pa_cons (pv 0) pa_nil)) pe_int (nomark _)))))
      (pss_one (ps_ret pe_bl))
      pss_nil)
    (pss_one (ps_ret (pe_and (pe_cmpR (op_inDT hu) (pe_ix (r := rIxT K) ix_tup (pv 0) pe_int (fun _ _ => rfl)) (pe_tup (pa_cons pe_str (pa_cons pe_str pa_nil))) rfl) (pe_and (C8.pe_c c_is_integer hr (by decide) (by rfl) (pa_cons (pe_ix (r := rIxT K) ix_tup (pv 0) pe_int (fun _ _ => rfl)) pa_nil)) (pe_one (C8.pe_c c_is_integer hr (by decide) (by rfl) (pa_cons (pe_ix (r := rIxT K) ix_tup (pv 0) pe_int (fun _ _ => rfl)) pa_nil)))))))), ?_⟩
    refine ⟨_, rfl, _, _, _, _, isT' d, rfl, .ty "tuple", dv.ty, kit_ty (kit_tup' d), isT' d, rfl, ?_⟩
    cases ht : isT' d with
    | false =>
      have e : recB d = false := by
        cases d <;> first | rfl | cases ht
      rw [e] at kk
      exact iteT (iteT (kk _ (Same.refl _)))
    | true =>
      cases dv with
      | tup er hs =>
        rename_i r xs ds
        refine iteF ⟨_, rfl, r, _, rfl, .inr (SqT.of er), rfl, _, rfl, ?_⟩
        have hl := dva_length hs
        by_cases h3 : xs.length = 3
        · match xs, ds, hs, h3, hl with
          | [v0, v1, v2], [d0, d1, d2], hs, _, _ =>
            cases hs with
            | cons g0 hs =>
              cases hs with
              | cons g1 hs =>
                cases hs with
                | cons g2 hs =>
                  have rg : (!d0.hasDict && SeqAt.shaped d0) = true := rg
                  rw [Bool.and_eq_true] at rg
                  have nd : d0.hasDict = false := by
                    have := rg.1
                    cases h : d0.hasDict with
                    | false => rfl
                    | true =>
                      rw [h] at this
                      cases this
                  refine iteNS rfl ?_
                  refine ⟨_, rfl, r, _, _, _, rfl, rfl, SqT.of er, atI_nat (j := 0) rfl, len10 (by simp), fun p np => ?_⟩
                  have z := sm_upd (o := .tup [.str "at least", .str "at most"]) np
                  have er1 := z _ _ er
                  have kz := (Fr.same z).kp
                  refine ⟨d0, words, Dv.dp d0 _ (Dv.kp kz _ _ g0) nd, Dp.tup (SqT.of upd_same) (.cons (.str _) (.cons (.str _) .nil)), rg.2, by decide +kernel, _, rfl, ?_⟩
                  have kk : ∀ H', Same H H' → Q (.bl (words.any (fun z => PyData.eqv z d0) && (isI d1 && isI d2))) H' := kk
                  cases c0 : words.any (fun z => PyData.eqv z d0) with
                  | false =>
                    rw [c0] at kk
                    exact iteF (kk _ z)
                  | true =>
                    rw [c0] at kk
                    refine iteT ⟨_, rfl, r, _, _, _, rfl, rfl, SqT.of er1, atI_nat (j := 1) rfl, v1, d1, rfl, Dv.kp kz _ _ g1, isI d1, rfl, ?_⟩
                    cases c1 : isI d1 with
                    | false =>
                      rw [c1] at kk
                      exact iteF (kk _ z)
                    | true =>
                      rw [c1] at kk
                      refine iteT ⟨_, rfl, r, _, _, _, rfl, rfl, SqT.of er1, atI_nat (j := 2) rfl, v2, d2, rfl, Dv.kp kz _ _ g2, ?_⟩
                      exact kk _ z
        · rw [rec_three (by omega)] at kk
          exact iteTs (len_ne3 h3) (kk _ (Same.refl _))
      | _ => cases ht
/-! ### opposite -/
def spOpp : Sp := fun vs H Q _ => ∃ (r : Addr) (d : Rec), vs = [.ref r] ∧ H r = some (rcO d) ∧ ∀ e H', Same H H' → H' e = some (rcO (opp d)) → Q (.ref e) H'
def spOppX (C : Addr) : Sp := fun vs H _ E => ∃ (v : V) (d : PyData), vs = [v] ∧ Dv H v d ∧ rgB d = true ∧ recB d = false ∧ ∀ H', Same H H' → OutY C "index" (.int 0) H' E
end
/-- n.x of an exception that a name keeps -/
theorem pe_xk {Y : Cx} {a C : Addr} {oe : Obj} {cls : Value} {d : Option Addr} {e : Expr} {te : TE} {pos : Pos} {n : Str} (T : XfC Y.K C) (hno : PySem.W.findIn Y.K (.ref C) n = some none)
    (hz : Zc cls d oe) (hf : ∃ vs, oe.data = .fields vs) (hin : (a, oe) ∈ Y.pn) (he : PE Y e te) (hb : attributeBase e n Y.env (eval e Y.env) = eval e Y.env := by rfl) : PE Y (.Attribute e n pos) (tXf a cls d C n te) := by
  constructor
  intro pins s σ H Q I h
  refine attr_of hb (thn (he.run pins s σ H _ I h) fun u s1 hh => ?_)
  obtain ⟨x, H1, J1, rx, ex, ec, dd, fs, v, ed, ea, l, q⟩ := hh
  subst ex ec ed
  obtain rfl : u = Value.ref a := rx
  obtain ⟨there, _⟩ := J1.pin (a, oe) (List.mem_append_left _ hin)
  obtain ⟨vs, hd⟩ := hf
  obtain ⟨mA, hns, hr⟩ := (show ObjOk Y.prog Y.w H1 s1.heap dd (.xd fs) from J1.hok dd _ ea)
  obtain ⟨od, ho, hl⟩ := lookIn_ns hns
  obtain ⟨u, hu, ru⟩ := RelO.some_of (v := v) (o := mA n) (by rw [← l]; exact hr n)
  have inst : PySem.W.InstAt s1.heap a oe C (some od) := ⟨there, hz.1, by unfold PySem.W.notCls; rw [hd] <;> rfl, by rw [hz.2]; exact ho⟩
  have found := PySem.W.findObj_own T.hdC hno rfl (by rw [hl, hu])
  exact HandSPX.exc_get J1.kIn inst T.ga T.gg T.exC found (handed_of ru) ⟨v, H1, J1.tok _, ru, q⟩
end Lf
namespace Lf
open PySem PySem.Spec PyProof.Rows L2
/-! ### rates: any value -/
def isT : PyData → Bool
  | .tuple _ => true
  | _ => false
theorem kit_tup (d : PyData) : kitB (tyN d) "tuple" = some (isT d) := by
  cases d
  · show kitB "NoneType" "tuple" = some false; decide +kernel
  · show kitB "bool" "tuple" = some false; decide +kernel
  · show kitB "int" "tuple" = some false; decide +kernel
  · show kitB "str" "tuple" = some false; decide +kernel
  · show kitB "list" "tuple" = some false; decide +kernel
  · show kitB "tuple" "tuple" = some true; decide +kernel
  · show kitB "dict" "tuple" = some false; decide +kernel
def rateD : PyData → Bool
  | .tuple [.int p, .int q] => decide (0 ≤ p) && (decide (1 ≤ q) && decide (V.int (Int.gcd p q : Int) = V.int 1))
  | _ => false
theorem rateD_inv {d : PyData} (h : rateD d = true) : ∃ p q, d = .tuple [.int p, .int q] ∧ 0 ≤ p ∧ 1 ≤ q ∧ Int.gcd p q = 1 := by
  unfold rateD at h
  split at h
  · rename_i p q
    rw [Bool.and_eq_true, Bool.and_eq_true] at h
    have h3 := V.int.inj (of_decide_eq_true h.2.2)
    exact ⟨p, q, rfl, of_decide_eq_true h.1, of_decide_eq_true h.2.1, by omega⟩
  · cases h
theorem dv_rate {H : Hp} {v : V} {p q : Int} (h : Dv H v (.tuple [.int p, .int q])) : ∃ r, v = .ref r ∧ H r = some (tup2 p q) := by
  cases h with
  | tup e hs =>
    cases hs with
    | cons h1 hs =>
      cases hs with
      | cons h2 hs =>
        cases hs
        cases h1
        cases h2
        exact ⟨_, rfl, e⟩
/-- a value's own pair, within bounds, where it is a rate -/
def BR (d : PyData) : Prop := rateD d = true → ∃ p q, d = .tuple [.int p, .int q] ∧ Rt 30 p q
def bad : PyData → Bool
  | .none => false
  | d => !rateD d
def isN : PyData → Bool
  | .none => true
  | _ => false
def pr : PyData → Int × Int
  | .tuple [.int p, .int q] => (p, q)
  | _ => (0, 1)
def due (d1 d2 : PyData) : Option Bool :=
  if bad d1 = true then some true else if bad d2 = true then some false else if isN d2 = true then none
  else if (pr d2).1 * (pr d1).2 ≤ (pr d1).1 * (pr d2).2 then some false else none
theorem dv_non {H : Hp} {v : V} {d : PyData} (h : Dv H v d) : decide (v = .non) = isN d := by
  cases h <;> first | rfl | exact decide_eq_false (by intro z; cases z)
theorem isI_inv {H : Hp} {v : V} {d : PyData} (h : Dv H v d) (hi : isI d = true) : ∃ z, v = .int z ∧ d = .int z := by
  cases h with
  | int z => exact ⟨z, rfl, rfl⟩
  | _ => cases hi
theorem dva_len {H : Hp} {vs : List V} {ds : List PyData} (h : DvAll H vs ds) : vs.length = ds.length := by
  induction ds generalizing vs with
  | nil =>
    cases h
    rfl
  | cons d ds ih =>
    cases h with
    | cons _ h2 => rw [List.length_cons, List.length_cons, ih h2]
theorem rate_two {ds : List PyData} (h : ds.length ≠ 2) : rateD (.tuple ds) = false := by
  unfold rateD
  split
  · rename_i p q e
    cases e
    exact absurd rfl h
  · rfl
theorem rate_i {d0 d1 : PyData} (h : isI d0 = false ∨ isI d1 = false) : rateD (.tuple [d0, d1]) = false := by
  unfold rateD
  split
  · rename_i p q e
    cases e
    rcases h with h | h <;> cases h
  · rfl
theorem len_ne {n : Nat} (h : n ≠ 2) : (!decide (V.int (n : Int) = V.int 2)) = true := by
  have : ¬ V.int (n : Int) = V.int 2 := fun z => h (by
    have := V.int.inj z
    omega)
  rw [decide_eq_false this]
  rfl
section
variable {P : Program} {w : World} {K : PySem.W.Frag} {mg : Str → Option Value} {base : Heap} {C : Addr}
def spIsRateD : Sp := fun vs H Q _ => ∃ (v : V) (d : PyData), vs = [v] ∧ Dv H v d ∧ Q (.bl (rateD d)) H
theorem okA_is_rate (D : Df K mg "is_rate" s_is_rate P_is_rate) (B : Bi mg) (cA_is_integer : C8.Cal P w K mg base 1 "is_integer" spIsAny []) (c_gcd : C8.Cal P w K mg base 1 "gcd" spGcd []) : C8.Cal P w K mg base 2 "is_rate" spIsRateD [] := by
  refine cal_of D sc_is_rate (fun vs H Q E h => ?_) (fun f cdv A outer s H vs Q E hr h => ?_)
  · obtain ⟨v, d, rfl, _⟩ := h
    rfl
  · obtain ⟨v, d, rfl, dv, kk⟩ := h
    have c_is_integer := cA_is_integer
    refine ⟨_, (pss_cons (ps_if (PW.pt (pw_or (pt_not (pt_val (pe_callB (call_isi) (by rfl) B.isinstance_ bt_isinstance (pa_cons (pv 0) (pa_cons (pe_bltn (v := .ty "tuple") (by rfl) B.tuple_ bt_tuple rfl) pa_nil))))) (pw_or1 (pt_cmpR op_ne (pe_callB (call_len_seq) (by rfl) B.len_ bt_len (pa_cons (pv 0) pa_nil)) pe_int (nomark _)))))
      (pss_one (ps_ret pe_bl))
      pss_nil)
    (pss_cons (ps_if (PW.pt (pw_or (pt_not (pt_val (C8.pe_c c_is_integer hr (by decide) (by rfl) (pa_cons (pe_ix (r := rIxT K) ix_tup (pv 0) pe_int (fun _ _ => rfl)) pa_nil)))) (pw_or1 (pt_not (pt_val (C8.pe_c c_is_integer hr (by decide) (by rfl) (pa_cons (pe_ix (r := rIxT K) ix_tup (pv 0) pe_int (fun _ _ => rfl)) pa_nil)))))))
      (pss_one (ps_ret pe_bl))
      pss_nil)
    (pss_one (ps_ret (pe_and (pe_cmpR op_ge (pe_ix (r := rIxT K) ix_tup (pv 0) pe_int (fun _ _ => rfl)) pe_int (nomark _)) (pe_and (pe_cmpR op_ge (pe_ix (r := rIxT K) ix_tup (pv 0) pe_int (fun _ _ => rfl)) pe_int (nomark _)) (pe_one (pe_cmpR op_eq (C8.pe_c c_gcd hr (by decide) (by rfl) (pa_cons (pe_ix (r := rIxT K) ix_tup (pv 0) pe_int (fun _ _ => rfl)) (pa_cons (pe_ix (r := rIxT K) ix_tup (pv 0) pe_int (fun _ _ => rfl)) pa_nil))) pe_int (nomark _))))))))), ?_⟩
    refine ⟨_, rfl, _, _, _, _, isT d, rfl, .ty "tuple", dv.ty, kit_ty (kit_tup d), isT d, rfl, ?_⟩
    cases ht : isT d with
    | false =>
      have e : rateD d = false := by
        cases d <;> first | rfl | cases ht
      rw [e] at kk
      exact iteT (iteT kk)
    | true =>
      cases dv with
      | tup er hs =>
        rename_i r xs ds
        refine iteF ⟨_, rfl, r, _, rfl, .inr (SqT.of er), rfl, _, rfl, ?_⟩
        have hl := dva_len hs
        by_cases h2 : xs.length = 2
        · match xs, ds, hs, h2, hl with
          | [v0, v1], [d0, d1], hs, _, _ =>
            cases hs with
            | cons g0 hs =>
              cases hs with
              | cons g1 hs =>
                refine iteNS rfl ?_
                refine ⟨_, rfl, r, _, _, _, rfl, rfl, SqT.of er, atI_nat (j := 0) rfl, v0, d0, rfl, g0, isI d0, rfl, ?_⟩
                cases i0 : isI d0 with
                | false =>
                  rw [rate_i (.inl i0)] at kk
                  exact iteT (iteT kk)
                | true =>
                  refine iteF ⟨_, rfl, r, _, _, _, rfl, rfl, SqT.of er, atI_nat (j := 1) rfl, v1, d1, rfl, g1, isI d1, rfl, ?_⟩
                  cases i1 : isI d1 with
                  | false =>
                    rw [rate_i (.inr i1)] at kk
                    exact iteT kk
                  | true =>
                    obtain ⟨p, rfl, rfl⟩ := isI_inv g0 i0
                    obtain ⟨q, rfl, rfl⟩ := isI_inv g1 i1
                    have kk : Q (.bl (decide (0 ≤ p) && (decide (1 ≤ q) && decide (V.int (Int.gcd p q : Int) = V.int 1)))) H := kk
                    refine iteF ⟨_, rfl, r, _, _, _, rfl, rfl, SqT.of er, atI_nat (j := 0) rfl, _, _, rfl, rfl, _, rfl, ite2 (fun c => ?_) (fun c => ?_)⟩
                    · have c : p ≥ 0 := of_decide_eq_true c
                      rw [decide_eq_true (show 0 ≤ p from c), Bool.true_and] at kk
                      refine ⟨_, rfl, r, _, _, _, rfl, rfl, SqT.of er, atI_nat (j := 1) rfl, _, _, rfl, rfl, _, rfl, ite2 (fun c2 => ?_) (fun c2 => ?_)⟩
                      · have c2 : q ≥ 1 := of_decide_eq_true c2
                        rw [decide_eq_true (show 1 ≤ q from c2), Bool.true_and] at kk
                        exact ⟨_, rfl, r, _, _, _, rfl, rfl, SqT.of er, atI_nat (j := 0) rfl, _, rfl, r, _, _, _, rfl, rfl, SqT.of er, atI_nat (j := 1) rfl, p, q, rfl, c, by omega, rfl, kk⟩
                      · have c2 : ¬ q ≥ 1 := fun z => c2 (decide_eq_true z)
                        rw [decide_eq_false (show ¬ 1 ≤ q from c2), Bool.false_and] at kk
                        exact kk
                    · have c : ¬ p ≥ 0 := fun z => c (decide_eq_true z)
                      rw [decide_eq_false (show ¬ 0 ≤ p from c), Bool.false_and] at kk
                      exact kk
        · rw [rate_two (by omega)] at kk
          exact iteTs (len_ne h2) kk
      | _ => cases ht
/-- the exception, with the value -/
def OutX (C : Addr) (x : Str) (v : V) (H : Hp) (E : XK) : Prop := ∀ dd, H dd = none → E (.ref C) (some dd) (upd H dd (.xd [(x, v)]))
def spCkRate (C : Addr) : Sp := fun vs H Q E => ∃ (v : V) (d : PyData), vs = [v] ∧ Dv H v d ∧ (rateD d = true → Q .non H) ∧ (rateD d = false → OutX C "value" v H E)
theorem okx_check_rate (D : Df K mg "check_rate" s_check_rate P_check_rate) (T : ValC P K mg C "InvalidRate" "value") (cA_is_rate : C8.Cal P w K mg base 2 "is_rate" spIsRateD []) : CalX P w K mg base 3 "check_rate" (spCkRate C) := by
  refine calx_of D sc_check_rate (fun vs H Q E h => ?_) (fun f cdv A outer s H vs Q E hr h => ?_)
  · obtain ⟨v, d, rfl, _⟩ := h
    rfl
  · obtain ⟨v, d, rfl, dv, hq, he⟩ := h
    have c_is_rate := cA_is_rate
    refine ⟨_, (pss_one (ps_if (pt_not (pt_val (C8.pe_c c_is_rate hr (by decide) (by rfl) (pa_cons (pv 0) pa_nil))))
      (pss_one (ps_raise rfl (takes_of rfl rfl rfl rfl) (pmk_val T hr (by decide) rfl (pv 0))))
      pss_nil)), ?_⟩
    refine ⟨_, rfl, v, d, rfl, dv, rateD d, rfl, ?_⟩
    cases hd : rateD d with
    | true => exact iteF (hq hd)
    | false => exact iteT ⟨_, rfl, mkv (he hd)⟩
end
end Lf
namespace Lf
open PySem PySem.Spec PyProof.Rows L2
def Odp (Pd : PyData → Prop) (H : Hp) (x : V) : Prop := ∃ d, Dv H x d ∧ Pd d
def OdpL (Pd : PyData → Prop) (H : Hp) (xs : List V) : Prop := ∀ x ∈ xs, Odp Pd H x
section
variable {Pd : PyData → Prop} {H H' : Hp} {xs ys : List V}
theorem OdpL.kp (h : OdpL Pd H xs) (f : Kp H H') : OdpL Pd H' xs := fun x hx => by
  obtain ⟨d, h1, h2⟩ := h x hx
  exact ⟨d, Dv.kp f _ _ h1, h2⟩
theorem OdpL.same (h : OdpL Pd H xs) (s : Same H H') : OdpL Pd H' xs := h.kp (Fr.same s).kp
theorem OdpL.snoc {x : V} (h : OdpL Pd H xs) (o : Odp Pd H x) : OdpL Pd H (xs ++ [x]) := fun y hy => by
  rcases List.mem_append.mp hy with hy | hy
  · exact h y hy
  · rw [List.mem_singleton.mp hy]
    exact o
theorem OdpL.app (h : OdpL Pd H xs) (h2 : OdpL Pd H ys) : OdpL Pd H (xs ++ ys) := fun y hy => (List.mem_append.mp hy).elim (h y) (h2 y)
theorem OdpL.nil : OdpL Pd H [] := fun _ z => (nomatch z)
end
def Pd37 (d : PyData) : Prop := rgB d = true ∧ recB d = false
theorem odd_by {d : PyData} (h : (rgB d && !recB d) = true) : Pd37 d := by
  rw [Bool.and_eq_true] at h
  refine ⟨h.1, ?_⟩
  cases e : recB d with
  | false => rfl
  | true =>
    rw [e] at h
    cases h.2
theorem rec_i {d0 d1 d2 : PyData} (h : isI d1 = false ∨ isI d2 = false) : recB (.tuple [d0, d1, d2]) = false := by
  show (words.any (fun z => PyData.eqv z d0) && (isI d1 && isI d2)) = false
  rcases h with h | h <;> rw [h] <;> simp
theorem rec_s {x : Str} {t n : Int} (h : (words.any fun z => PyData.eqv z (.str x)) = false) : recB (.tuple [.str x, .int t, .int n]) = false := by
  show (words.any (fun z => PyData.eqv z (.str x)) && (isI (.int t) && isI (.int n))) = false
  rw [h]
  rfl
theorem rg_w (b : Bool) {d1 d2 : PyData} : rgB (.tuple [.str (wd b), d1, d2]) = true := by
  show (!PyData.hasDict (.str (wd b)) && SeqAt.shaped (.str (wd b))) = true
  cases b <;> decide +kernel
theorem rg_lw (b : Bool) {d1 d2 : PyData} : rgB (.tuple [.list [.str (wd b)], d1, d2]) = true := by
  show (!PyData.hasDict (.list [.str (wd b)]) && SeqAt.shaped (.list [.str (wd b)])) = true
  cases b <;> decide +kernel
theorem mergeK1 {x : Str} {v : V} : mergeK [] [(Sum.inr x, v)] = [(Sum.inr x, v)] := by
  simp [mergeK, putK]
end Lf
namespace Lf
open PySem PySem.Spec PyProof.Rows L2
section
variable {P : Program} {w : World} {K : PySem.W.Frag} {mg : Str → Option Value} {base : Heap}
def spOddR37 : Sp := fun vs H Q _ => ∃ (a : PA) (n : Nat) (r : Addr) (d : Rec), vs = [.ref a, .ref r] ∧ Pen H a n ∧ n < 2 ^ 39 ∧ H r = some (rcO d) ∧ Bd 1900 d.n ∧ ∀ x H', Odp Pd37 H' x → Pen H' a (n + 1) → Fr H H' → Q x H'
abbrev s_l_odd_record : Stmt := topS 54
abbrev N_l_odd_record : List Str := ["_law_pen_here", "_law_record_here", "_law_bound", "_law_time_here", "_law_number", "_law_some"]
abbrev P_l_odd_record : List Str := ["_law_pen_here", "_law_record_here"]
theorem sc_l_odd_record : FnScope N_l_odd_record P_l_odd_record (defScope s_l_odd_record) := ⟨rfl, rfl, rfl, by decide +kernel, rfl, by decide +kernel, by decide +kernel⟩
theorem ok_l_odd_record (D : Df K mg "_law_odd_record" s_l_odd_record P_l_odd_record) (B : Bi mg) (c_l_pick : C8.Cal P w K mg base 2 "_law_pick" spPick []) : C8.Cal P w K mg base 3 "_law_odd_record" spOddR37 [] := by
  refine cal_of D sc_l_odd_record (fun vs H Q E h => ?_) (fun f cdv A outer s H vs Q E hr h => ?_)
  · obtain ⟨a, n, r, d, rfl, _⟩ := h
    rfl
  · obtain ⟨a, n, r, d, rfl, hP, hn, er, bn, kk⟩ := h
    have hlog : d.n.natAbs.log2 < 1920 := (bn.mono (by decide)).log (by decide)
    refine ⟨_, (pss_cons (ps_asg (pv 1) (pg_tup rfl (pgs_cons (pg_name (i := 2) sc_l_odd_record.nd rfl (Or.inl rfl)) (pgs_cons (pg_name (i := 3) sc_l_odd_record.nd rfl (Or.inl rfl)) (pgs_cons (pg_name (i := 4) sc_l_odd_record.nd rfl (Or.inl rfl)) pgs_nil)))))
    (C8.pss_cut (ps_set (i := 5) sc_l_odd_record.nd rfl (Or.inl rfl) (pe_lst1 (pa_cons pe_non (pa_cons pe_bl (pa_cons pe_str (pa_cons (pe_tup (pa_cons (pv 2) (pa_cons (pv 3) pa_nil))) (pa_cons (pe_tup (pa_cons (pv 2) (pa_cons (pv 3) (pa_cons (pv 4) (pa_cons pe_int pa_nil))))) (pa_cons (pe_lst1 (pa_cons (pv 2) (pa_cons (pv 3) (pa_cons (pv 4) pa_nil)))) pa_nil))))))))
    (C8.pss_cut (ps_set (i := 5) sc_l_odd_record.nd rfl (Or.inl rfl) (pe_op op_cat (pv 5) (pe_lst1 (pa_cons (pe_tup (pa_cons (pv 3) (pa_cons (pv 2) (pa_cons (pv 4) pa_nil)))) (pa_cons (pe_tup (pa_cons pe_str (pa_cons (pv 3) (pa_cons (pv 4) pa_nil)))) (pa_cons (pe_tup (pa_cons pe_str (pa_cons (pv 3) (pa_cons (pv 4) pa_nil)))) pa_nil))))))
    (C8.pss_cut (ps_set (i := 5) sc_l_odd_record.nd rfl (Or.inl rfl) (pe_op op_cat (pv 5) (pe_lst1 (pa_cons (pe_tup (pa_cons pe_str (pa_cons (pv 3) (pa_cons (pv 4) pa_nil)))) (pa_cons (pe_tup (pa_cons pe_non (pa_cons (pv 3) (pa_cons (pv 4) pa_nil)))) pa_nil)))))
    (C8.pss_cut (ps_set (i := 5) sc_l_odd_record.nd rfl (Or.inl rfl) (pe_op op_cat (pv 5) (pe_lst1 (pa_cons (pe_tup (pa_cons (pv 2) (pa_cons pe_bl (pa_cons (pv 4) pa_nil)))) (pa_cons (pe_tup (pa_cons (pv 2) (pa_cons (pv 3) (pa_cons pe_bl pa_nil)))) (pa_cons (pe_tup (pa_cons (pv 2) (pa_cons pe_non (pa_cons (pv 4) pa_nil)))) (pa_cons (pe_tup (pa_cons (pv 2) (pa_cons (pv 3) (pa_cons (pe_callTy (call_str_int) (by rfl) B.str_ bt_str (pa_cons (pv 4) pa_nil)) pa_nil)))) (pa_cons pe_dnewK pa_nil))))))))
    (pss_one (ps_ret (C8.pe_c c_l_pick hr (by decide) (by rfl) (pa_cons (pv 0) (pa_cons (pe_op op_cat (pv 5) (pe_lst1 (pa_cons (pe_tup (pa_cons (pv 2) (pa_cons (pe_tup (pa_cons (pv 3) pa_nil)) (pa_cons (pv 4) pa_nil)))) (pa_cons (pe_tup (pa_cons (pe_lst1 (pa_cons (pv 2) pa_nil)) (pa_cons (pv 3) (pa_cons (pv 4) pa_nil)))) (pa_cons (pe_tup pa_nil) (pa_cons pe_int pa_nil)))))) pa_nil)))))))))), ?_⟩
    refine ⟨_, rfl, r, _, rfl, SqT.of er, rfl, _, _, rfl, _, _, rfl, _, _, rfl, rfl, ?_⟩
    refine ⟨fun σ' H' => ∃ (O : Addr) (xs : List V), σ' = [some (.ref a), some (.ref r), some (.str (wd d.lo)), some (.int d.t), some (.int d.n), some (.ref O)] ∧ H' O = some (.lst xs) ∧ OdpL Pd37 H' xs ∧ xs.length = 6 ∧ Same H H', ?_, ?_⟩
    · have s0 := Same.refl H
      have l0 := OdpL.nil (Pd := Pd37) (H := H)
      have l0 := l0.snoc (x := .non) ⟨_, .non, odd_by (by decide +kernel)⟩
      have l0 := l0.snoc (x := .bl true) ⟨_, .bl true, odd_by (by decide +kernel)⟩
      have l0 := l0.snoc (x := .str "at least") ⟨_, .str "at least", odd_by (by decide +kernel)⟩
      refine ⟨_, rfl, _, rfl, len10 (by simp), fun o1 n1 => ?_⟩
      have z1 := sm_upd (o := .tup [.str (wd d.lo), .int d.t]) n1
      have s1 := s0.trans z1
      have l1 := (l0.same z1).snoc (x := .ref o1) ⟨_, .tup upd_same (.cons (.str _) (.cons (.int _) (.nil))), ⟨rfl, rfl⟩⟩
      refine ⟨_, rfl, _, rfl, _, rfl, len10 (by simp), fun o2 n2 => ?_⟩
      have z2 := sm_upd (o := .tup [.str (wd d.lo), .int d.t, .int d.n, .int 0]) n2
      have s2 := s1.trans z2
      have l2 := (l1.same z2).snoc (x := .ref o2) ⟨_, .tup upd_same (.cons (.str _) (.cons (.int _) (.cons (.int _) (.cons (.int 0) (.nil))))), ⟨rfl, rfl⟩⟩
      refine ⟨_, rfl, _, rfl, _, rfl, len10 (by simp), fun o3 n3 m3 => ?_⟩
      have z3 := sm_upd (o := .lst [.str (wd d.lo), .int d.t, .int d.n]) n3
      have s3 := s2.trans z3
      have l3 := (l2.same z3).snoc (x := .ref o3) ⟨_, .lst m3 upd_same (.cons (.str _) (.cons (.int _) (.cons (.int _) (.nil)))), ⟨rfl, rfl⟩⟩
      refine ⟨len10 (by simp), fun O N M => ?_⟩
      have z := sm_upd (o := .lst [.non, .bl true, .str "at least", .ref o1, .ref o2, .ref o3]) N
      exact ⟨O, _, rfl, upd_same, l3.same z, rfl, s3.trans z⟩
    rintro σ' G1 ⟨O1, xs1, rfl, e1, ol1, ln1, sH1⟩
    refine ⟨fun σ' H' => ∃ (O : Addr) (xs : List V), σ' = [some (.ref a), some (.ref r), some (.str (wd d.lo)), some (.int d.t), some (.int d.n), some (.ref O)] ∧ H' O = some (.lst xs) ∧ OdpL Pd37 H' xs ∧ xs.length = 9 ∧ Same H H', ?_, ?_⟩
    · have s0 := Same.refl G1
      have l0 := OdpL.nil (Pd := Pd37) (H := G1)
      refine ⟨_, rfl, ?_⟩
      refine ⟨_, rfl, _, rfl, _, rfl, len10 (by simp), fun o1 n1 => ?_⟩
      have z1 := sm_upd (o := .tup [.int d.t, .str (wd d.lo), .int d.n]) n1
      have s1 := s0.trans z1
      have l1 := (l0.same z1).snoc (x := .ref o1) ⟨_, .tup upd_same (.cons (.int _) (.cons (.str _) (.cons (.int _) (.nil)))), ⟨rfl, rec_i (.inl rfl)⟩⟩
      refine ⟨_, rfl, _, rfl, len10 (by simp), fun o2 n2 => ?_⟩
      have z2 := sm_upd (o := .tup [.str "at  least", .int d.t, .int d.n]) n2
      have s2 := s1.trans z2
      have l2 := (l1.same z2).snoc (x := .ref o2) ⟨_, .tup upd_same (.cons (.str "at  least") (.cons (.int _) (.cons (.int _) (.nil)))), ⟨by show (!false && SeqAt.shaped (.str "at  least")) = true; decide +kernel, rec_s (by decide +kernel)⟩⟩
      refine ⟨_, rfl, _, rfl, len10 (by simp), fun o3 n3 => ?_⟩
      have z3 := sm_upd (o := .tup [.str "At least", .int d.t, .int d.n]) n3
      have s3 := s2.trans z3
      have l3 := (l2.same z3).snoc (x := .ref o3) ⟨_, .tup upd_same (.cons (.str "At least") (.cons (.int _) (.cons (.int _) (.nil)))), ⟨by show (!false && SeqAt.shaped (.str "At least")) = true; decide +kernel, rec_s (by decide +kernel)⟩⟩
      refine ⟨len10 (by simp), fun O N M => ?_⟩
      have z := sm_upd (o := .lst [.ref o1, .ref o2, .ref o3]) N
      have s := s3.trans z
      refine ⟨O1, O, _, _, rfl, rfl, s _ _ e1, upd_same, len10 (by rw [ln1]; show 6 + 3 ≤ 1000; decide), fun O2 N2 => ?_⟩
      have z2 := sm_upd (o := .lst (xs1 ++ [.ref o1, .ref o2, .ref o3])) N2
      refine ⟨O2, _, rfl, upd_same, ?_, by rw [List.length_append, ln1]; rfl, sH1.trans (s.trans z2)⟩
      intro x hx
      rcases List.mem_append.mp hx with hx | hx
      · exact ((ol1.same s).same z2) x hx
      · exact ((l3.same z).same z2) x hx
    rintro σ' G2 ⟨O2, xs2, rfl, e2, ol2, ln2, sH2⟩
    refine ⟨fun σ' H' => ∃ (O : Addr) (xs : List V), σ' = [some (.ref a), some (.ref r), some (.str (wd d.lo)), some (.int d.t), some (.int d.n), some (.ref O)] ∧ H' O = some (.lst xs) ∧ OdpL Pd37 H' xs ∧ xs.length = 11 ∧ Same H H', ?_, ?_⟩
    · have s0 := Same.refl G2
      have l0 := OdpL.nil (Pd := Pd37) (H := G2)
      refine ⟨_, rfl, ?_⟩
      refine ⟨_, rfl, _, rfl, len10 (by simp), fun o1 n1 => ?_⟩
      have z1 := sm_upd (o := .tup [.str "", .int d.t, .int d.n]) n1
      have s1 := s0.trans z1
      have l1 := (l0.same z1).snoc (x := .ref o1) ⟨_, .tup upd_same (.cons (.str "") (.cons (.int _) (.cons (.int _) (.nil)))), ⟨by show (!false && SeqAt.shaped (.str "")) = true; decide +kernel, rec_s (by decide +kernel)⟩⟩
      refine ⟨_, rfl, _, rfl, len10 (by simp), fun o2 n2 => ?_⟩
      have z2 := sm_upd (o := .tup [.non, .int d.t, .int d.n]) n2
      have s2 := s1.trans z2
      have l2 := (l1.same z2).snoc (x := .ref o2) ⟨_, .tup upd_same (.cons (.non) (.cons (.int _) (.cons (.int _) (.nil)))), ⟨rfl, rfl⟩⟩
      refine ⟨len10 (by simp), fun O N M => ?_⟩
      have z := sm_upd (o := .lst [.ref o1, .ref o2]) N
      have s := s2.trans z
      refine ⟨O2, O, _, _, rfl, rfl, s _ _ e2, upd_same, len10 (by rw [ln2]; show 9 + 2 ≤ 1000; decide), fun O2 N2 => ?_⟩
      have z2 := sm_upd (o := .lst (xs2 ++ [.ref o1, .ref o2])) N2
      refine ⟨O2, _, rfl, upd_same, ?_, by rw [List.length_append, ln2]; rfl, sH2.trans (s.trans z2)⟩
      intro x hx
      rcases List.mem_append.mp hx with hx | hx
      · exact ((ol2.same s).same z2) x hx
      · exact ((l2.same z).same z2) x hx
    rintro σ' G3 ⟨O3, xs3, rfl, e3, ol3, ln3, sH3⟩
    refine ⟨fun σ' H' => ∃ (O : Addr) (xs : List V), σ' = [some (.ref a), some (.ref r), some (.str (wd d.lo)), some (.int d.t), some (.int d.n), some (.ref O)] ∧ H' O = some (.lst xs) ∧ OdpL Pd37 H' xs ∧ xs.length = 16 ∧ Same H H', ?_, ?_⟩
    · have s0 := Same.refl G3
      have l0 := OdpL.nil (Pd := Pd37) (H := G3)
      refine ⟨_, rfl, ?_⟩
      refine ⟨_, rfl, _, rfl, len10 (by simp), fun o1 n1 => ?_⟩
      have z1 := sm_upd (o := .tup [.str (wd d.lo), .bl true, .int d.n]) n1
      have s1 := s0.trans z1
      have l1 := (l0.same z1).snoc (x := .ref o1) ⟨_, .tup upd_same (.cons (.str _) (.cons (.bl true) (.cons (.int _) (.nil)))), ⟨rg_w d.lo, rec_i (.inl rfl)⟩⟩
      refine ⟨_, rfl, _, rfl, len10 (by simp), fun o2 n2 => ?_⟩
      have z2 := sm_upd (o := .tup [.str (wd d.lo), .int d.t, .bl false]) n2
      have s2 := s1.trans z2
      have l2 := (l1.same z2).snoc (x := .ref o2) ⟨_, .tup upd_same (.cons (.str _) (.cons (.int _) (.cons (.bl false) (.nil)))), ⟨rg_w d.lo, rec_i (.inr rfl)⟩⟩
      refine ⟨_, rfl, _, rfl, len10 (by simp), fun o3 n3 => ?_⟩
      have z3 := sm_upd (o := .tup [.str (wd d.lo), .non, .int d.n]) n3
      have s3 := s2.trans z3
      have l3 := (l2.same z3).snoc (x := .ref o3) ⟨_, .tup upd_same (.cons (.str _) (.cons (.non) (.cons (.int _) (.nil)))), ⟨rg_w d.lo, rec_i (.inl rfl)⟩⟩
      refine ⟨_, rfl, _, rfl, _, rfl, _, rfl, hlog, len10 (by simp), fun o4 n4 => ?_⟩
      have z4 := sm_upd (o := .tup [.str (wd d.lo), .int d.t, .str (toString d.n)]) n4
      have s4 := s3.trans z4
      have l4 := (l3.same z4).snoc (x := .ref o4) ⟨_, .tup upd_same (.cons (.str _) (.cons (.int _) (.cons (.str _) (.nil)))), ⟨rg_w d.lo, rec_i (.inr rfl)⟩⟩
      refine fun o5 n5 => ?_
      have z5 := sm_upd (o := .dK []) n5
      have s5 := s4.trans z5
      have l5 := (l4.same z5).snoc (x := .ref o5) ⟨_, .dk0 upd_same, odd_by (by decide +kernel)⟩
      refine ⟨len10 (by simp), fun O N M => ?_⟩
      have z := sm_upd (o := .lst [.ref o1, .ref o2, .ref o3, .ref o4, .ref o5]) N
      have s := s5.trans z
      refine ⟨O3, O, _, _, rfl, rfl, s _ _ e3, upd_same, len10 (by rw [ln3]; show 11 + 5 ≤ 1000; decide), fun O2 N2 => ?_⟩
      have z2 := sm_upd (o := .lst (xs3 ++ [.ref o1, .ref o2, .ref o3, .ref o4, .ref o5])) N2
      refine ⟨O2, _, rfl, upd_same, ?_, by rw [List.length_append, ln3]; rfl, sH3.trans (s.trans z2)⟩
      intro x hx
      rcases List.mem_append.mp hx with hx | hx
      · exact ((ol3.same s).same z2) x hx
      · exact ((l5.same z).same z2) x hx
    rintro σ' G4 ⟨O4, xs4, rfl, e4, ol4, ln4, sH4⟩
    have s0 := Same.refl G4
    have l0 := OdpL.nil (Pd := Pd37) (H := G4)
    refine ⟨_, rfl, _, rfl, ?_⟩
    refine ⟨_, rfl, _, rfl, len10 (by simp), fun o1 n1 => ?_⟩
    have z1 := sm_upd (o := .tup [.int d.t]) n1
    have s1 := s0.trans z1
    have l1 := l0.same z1
    refine ⟨_, rfl, len10 (by simp), fun o2 n2 => ?_⟩
    have z2 := sm_upd (o := .tup [.str (wd d.lo), .ref o1, .int d.n]) n2
    have s2 := s1.trans z2
    have l2 := (l1.same z2).snoc (x := .ref o2) ⟨_, .tup upd_same (.cons (.str _) (.cons (.tup (z2 _ _ upd_same) (.cons (.int _) .nil)) (.cons (.int _) (.nil)))), ⟨rg_w d.lo, rec_i (.inl rfl)⟩⟩
    refine ⟨_, rfl, len10 (by simp), fun o3 n3 m3 => ?_⟩
    have z3 := sm_upd (o := .lst [.str (wd d.lo)]) n3
    have s3 := s2.trans z3
    have l3 := l2.same z3
    refine ⟨_, rfl, _, rfl, len10 (by simp), fun o4 n4 => ?_⟩
    have z4 := sm_upd (o := .tup [.ref o3, .int d.t, .int d.n]) n4
    have s4 := s3.trans z4
    have l4 := (l3.same z4).snoc (x := .ref o4) ⟨_, .tup upd_same (.cons (.lst m3 (z4 _ _ upd_same) (.cons (.str _) .nil)) (.cons (.int _) (.cons (.int _) (.nil)))), ⟨rg_lw d.lo, rfl⟩⟩
    refine ⟨Nat.zero_le _, fun o5 n5 => ?_⟩
    have z5 := sm_upd (o := .tup []) n5
    have s5 := s4.trans z5
    have l5 := (l4.same z5).snoc (x := .ref o5) ⟨_, .tup upd_same (.nil), odd_by (by decide +kernel)⟩
    have l5 := l5.snoc (x := .int 7) ⟨_, .int 7, odd_by (by decide +kernel)⟩
    refine ⟨len10 (by simp), fun O N M => ?_⟩
    have z := sm_upd (o := .lst [.ref o2, .ref o4, .ref o5, .int 7]) N
    have s := s5.trans z
    refine ⟨O4, O, _, _, rfl, rfl, s _ _ e4, upd_same, len10 (by rw [ln4]; show 16 + 4 ≤ 1000; decide), fun O2 N2 => ?_⟩
    have z2 := sm_upd (o := .lst (xs4 ++ [.ref o2, .ref o4, .ref o5, .int 7])) N2
    have ol : OdpL Pd37 _ (xs4 ++ [.ref o2, .ref o4, .ref o5, .int 7]) := ((ol4.same s).same z2).app ((l5.same z).same z2)
    have sF := sH4.trans (s.trans z2)
    refine ⟨a, O2, _, _, rfl, hP.same sF, by omega, upd_same, (fun e => by have := congrArg List.length e; rw [List.length_append, ln4] at this; cases this), by rw [List.length_append, ln4]; show 16 + 4 ≤ 1000; decide, fun x H' hx hP' f' => ?_⟩
    exact kk x H' ((ol.kp f'.kp) x hx) hP' ((Fr.same sF).trans f')
end
end Lf
namespace Lf
open PySem PySem.Spec PyProof.Rows L2
theorem at_in {xs : List V} {d : Int} (h0 : 0 ≤ d) (h1 : d < (xs.length : Int)) : ∃ x, atI xs d = some x ∧ x ∈ xs := by
  obtain ⟨j, rfl⟩ := Int.eq_ofNat_of_zero_le h0
  have hj : j < xs.length := by omega
  exact ⟨_, atI_nat (List.getElem?_eq_getElem hj), List.getElem_mem hj⟩
section
variable {P : Program} {w : World} {K : PySem.W.Frag} {mg : Str → Option Value} {base : Heap}
/-! ### _law_far, _law_rule, _law_count, _law_time, _law_record -/
def spFar : Sp := fun vs H Q _ => ∃ (a : PA) (n : Nat) (dg : Int) (m : Nat), vs = [.ref a, .int dg] ∧ Pen H a n ∧ n < 2 ^ 39 ∧ dg / 6 = (m : Int) ∧ 1 ≤ m ∧ m ≤ 60 ∧
  ∀ z H', Bd (20 * m) z → Pen H' a (n + m + 2) → Fr H H' → Q (.int z) H'
abbrev s_l_far : Stmt := topS 45
abbrev N_l_far : List Str := ["_law_pen_here", "_law_digits", "_law_number", "_law_k"]
abbrev P_l_far : List Str := ["_law_pen_here", "_law_digits"]
theorem sc_l_far : FnScope N_l_far P_l_far (defScope s_l_far) := ⟨rfl, rfl, rfl, by decide +kernel, rfl, by decide +kernel, by decide +kernel⟩
theorem ok_l_far (D : Df K mg "_law_far" s_l_far P_l_far) (B : Bi mg) (c_l_draw : C8.Cal P w K mg base 1 "_law_draw" spDraw []) : C8.Cal P w K mg base 2 "_law_far" spFar [] := by
  refine cal_of D sc_l_far (fun vs H Q E h => ?_) (fun f cdv A outer s H vs Q E hr h => ?_)
  · obtain ⟨a, n, dg, m, rfl, _⟩ := h
    rfl
  · obtain ⟨a, n, dg, m, rfl, hP, hn, hm, m1, m40, q⟩ := h
    refine ⟨_, (pss_cons (ps_set (i := 2) sc_l_far.nd rfl (Or.inl rfl) pe_int)
    (pss_cons (ps_for PassesOwn.never rfl (pi_range1 rfl B.range_ (pa_cons (C8.pe_c c_l_draw hr (by decide) (by rfl) (pa_cons (pv 0) (pa_cons (pe_op op_add (pe_op op_fdiv (pv 1) pe_int) pe_int) pa_nil))) pa_nil)) (pg_name (i := 3) sc_l_far.nd rfl (Or.inl rfl))
      (pss_one (ps_set (i := 2) sc_l_far.nd rfl (Or.inl rfl) (pe_op op_add (pe_op op_mul (pv 2) (pe_op op_pow pe_int pe_int)) (C8.pe_c c_l_draw hr (by decide) (by rfl) (pa_cons (pv 0) (pa_cons (pe_op op_pow pe_int pe_int) pa_nil)))))))
    (pss_one (ps_ret (pe_ix (r := rIxL K) ix_list (pe_lst (pa_cons (pv 2) (pa_cons (pe_op op_sub pe_int (pv 2)) pa_nil))) (C8.pe_c c_l_draw hr (by decide) (by rfl) (pa_cons (pv 0) (pa_cons pe_int pa_nil))) (fun _ _ => rfl)))))), ?_⟩
    refine ⟨_, rfl, _, rfl, _, _, rfl, rfl, ⟨by decide, by decide⟩, _, _, rfl, rfl, a, n, _, rfl, hP, by omega, by omega, Bd.small 20 (by omega) (by decide), fun dd H1 d0 d1 hP1 f1 => ?_⟩
    refine ⟨_, rfl, by omega, by omega, ?_⟩
    refine for_range (lo := 0) (n := dd.toNat) (fun i σ H2 => ∃ (r : Int) (y : Option V), σ = [some (.ref a), some (.int dg), some (.int r), y] ∧ 0 ≤ r ∧ Bd (20 * i) r ∧ Pen H2 a (n + 1 + i) ∧ Fr H H2) ?_ ?_ ?_
    · exact ⟨0, none, rfl, by omega, by show (0 : Int).natAbs < 2 ^ 0; decide, hP1, f1⟩
    · rintro i σ H2 hi ⟨r, y, rfl, r0, rb, hP2, f2⟩
      refine ⟨_, rfl, _, _, rfl, rfl, ⟨by decide, by decide, by decide⟩, _, _, rfl, rfl, .inr ⟨by decide, by decide⟩, _, rfl, _, _, rfl, rfl, ⟨by decide, by decide, by decide⟩, a, _, _, rfl, hP2, by omega, by decide, Bd.small 20 (by decide) (by decide), fun e H3 e0 e1 hP3 f3 => ?_⟩
      refine ⟨_, _, rfl, rfl, ?_⟩
      refine ⟨_, _, rfl, ?_, ?_, hP3, f2.trans f3⟩
      · have : (0 : Int) ≤ 10 ^ (6 : Int).toNat := by decide
        have := Int.mul_nonneg r0 this
        omega
      · exact Bd.grow r0 rb e0 e1
    · rintro σ H2 ⟨r, y, rfl, r0, rb, hP2, f2⟩
      have rm : Bd (20 * m) r := rb.mono (by omega)
      refine ⟨_, rfl, _, rfl, _, _, rfl, rfl, len10 (by simp), fun l nl => ?_⟩
      refine ⟨_, rfl, a, _, _, rfl, hP2.new nl, by omega, by decide, Bd.small 20 (by decide) (by decide), fun d H3 d20 d21 hP3 f3 => ?_⟩
      have el := f3.l _ _ (upd_same (H := H2) (a := l) (o := .lst [.int r, .int (0 - r)]))
      obtain ⟨x, hx, mx⟩ := at_in (xs := [.int r, .int (0 - r)]) d20 (by show d < 2; omega)
      refine ⟨l, _, _, _, rfl, rfl, SqL.of el, hx, ?_⟩
      have fF : Fr H H3 := f2.trans ((Fr.new nl).trans f3)
      simp only [List.mem_cons, List.not_mem_nil, or_false] at mx
      rcases mx with rfl | rfl
      · exact q _ _ rm (hP3.mono (by omega)) fF
      · exact q _ _ (by rw [Int.zero_sub]; exact rm.neg) (hP3.mono (by omega)) fF
theorem absB {k : Nat} {z : Int} (h : Bd k z) : 0 ≤ (if z < 0 then -z else z) ∧ Bd k (if z < 0 then -z else z) := by
  by_cases c : z < 0
  · rw [if_pos c]
    exact ⟨by omega, h.neg⟩
  · rw [if_neg c]
    exact ⟨by omega, h⟩
def spRule30 : Sp := fun vs H Q _ => ∃ (a : PA) (n : Nat) (dg : Int) (m : Nat), vs = [.ref a, .int dg] ∧ Pen H a n ∧ n < 2 ^ 38 ∧ dg / 6 = (m : Int) ∧ 2 ≤ m ∧ m ≤ 20 ∧
  ∀ r H' p q c, RuleB (20 * m + 4) p q c → H' r = some (.tup [.int p, .int q, .int c]) → Pen H' a (n + 100) → Fr H H' → Q (.ref r) H'
def spCount30 : Sp := fun vs H Q _ => ∃ (r : Addr) (p q c t : Int) (k : Nat), vs = [.ref r, .int t] ∧ H r = some (.tup [.int p, .int q, .int c]) ∧ RuleB k p q c ∧ Bd k t ∧ 0 < k ∧ k ≤ 3000 ∧ Q (.int ((p * t + c) / q)) H
abbrev s_l_count : Stmt := topS 47
abbrev N_l_count : List Str := ["_law_rule", "_law_time_here"]
abbrev P_l_count : List Str := ["_law_rule", "_law_time_here"]
theorem sc_l_count : FnScope N_l_count P_l_count (defScope s_l_count) := ⟨rfl, rfl, rfl, by decide +kernel, rfl, by decide +kernel, by decide +kernel⟩
theorem ok_l_count (D : Df K mg "_law_count" s_l_count P_l_count) : C8.Cal P w K mg base 1 "_law_count" spCount30 [] := by
  refine cal_of D sc_l_count (fun vs H Q E h => ?_) (fun f cdv A outer s H vs Q E hr h => ?_)
  · obtain ⟨r, p, q, c, t, k, rfl, _⟩ := h
    rfl
  · obtain ⟨r, p, q, c, t, k, rfl, er, R, bt, k0, k3, kk⟩ := h
    refine ⟨_, (pss_one (ps_ret (pe_op op_fdivW (pe_op op_add (pe_op op_mulW (pe_ix (r := rIxT K) ix_tup (pv 0) pe_int (fun _ _ => rfl)) (pv 1)) (pe_ix (r := rIxT K) ix_tup (pv 0) pe_int (fun _ _ => rfl))) (pe_ix (r := rIxT K) ix_tup (pv 0) pe_int (fun _ _ => rfl))))), ?_⟩
    refine ⟨_, rfl, r, _, _, _, rfl, rfl, SqT.of er, atI_nat (j := 0) rfl, _, rfl, _, _, rfl, rfl, mulW R.bp bt k0 k0 (by omega), ?_⟩
    refine ⟨_, rfl, r, _, _, _, rfl, rfl, SqT.of er, atI_nat (j := 2) rfl, _, _, rfl, rfl, ?_⟩
    refine ⟨_, rfl, r, _, _, _, rfl, rfl, SqT.of er, atI_nat (j := 1) rfl, _, _, rfl, rfl, divW (by have := R.q1; omega) R.bq (by omega), kk⟩
def spTime30 : Sp := fun vs H Q _ => ∃ (a : PA) (n : Nat) (dg : Int) (m : Nat), vs = [.ref a, .int dg] ∧ Pen H a n ∧ n < 2 ^ 38 ∧ dg / 6 = (m : Int) ∧ 1 ≤ m ∧ m ≤ 60 ∧
  ∀ z H', Bd (20 * m) z → Pen H' a (n + m + 5) → Fr H H' → Q (.int z) H'
abbrev s_l_time : Stmt := topS 49
abbrev N_l_time : List Str := ["_law_pen_here", "_law_digits"]
abbrev P_l_time : List Str := ["_law_pen_here", "_law_digits"]
theorem sc_l_time : FnScope N_l_time P_l_time (defScope s_l_time) := ⟨rfl, rfl, rfl, by decide +kernel, rfl, by decide +kernel, by decide +kernel⟩
theorem ok_l_time (D : Df K mg "_law_time" s_l_time P_l_time) (B : Bi mg) (c_l_draw : C8.Cal P w K mg base 1 "_law_draw" spDraw []) (c_l_far : C8.Cal P w K mg base 2 "_law_far" spFar []) : C8.Cal P w K mg base 3 "_law_time" spTime30 [] := by
  refine cal_of D sc_l_time (fun vs H Q E h => ?_) (fun f cdv A outer s H vs Q E hr h => ?_)
  · obtain ⟨a, n, dg, m, rfl, _⟩ := h
    rfl
  · obtain ⟨a, n, dg, m, rfl, hP, hn, hm, m1, m20, kk⟩ := h
    refine ⟨_, (pss_one (ps_ret (pe_ix (r := rIxL K) ix_list (pe_lst (pa_cons (pe_op op_sub (C8.pe_c c_l_draw hr (by decide) (by rfl) (pa_cons (pv 0) (pa_cons pe_int pa_nil))) pe_int) (pa_cons (pe_op op_sub (C8.pe_c c_l_draw hr (by decide) (by rfl) (pa_cons (pv 0) (pa_cons pe_int pa_nil))) pe_int) (pa_cons (C8.pe_c c_l_far hr (by decide) (by rfl) (pa_cons (pv 0) (pa_cons (pv 1) pa_nil))) pa_nil)))) (C8.pe_c c_l_draw hr (by decide) (by rfl) (pa_cons (pv 0) (pa_cons pe_int pa_nil))) (fun _ _ => rfl)))), ?_⟩
    have sB : ∀ {x : Int}, x.natAbs < 2 ^ 20 → Bd (20 * m) x := fun h => Bd.small 20 h (by omega)
    refine ⟨_, rfl, a, _, _, rfl, hP, by omega, by decide, Bd.small 20 (by decide) (by decide), fun e1 H1 e10 e11 hP1 f1 => ?_⟩
    refine ⟨_, _, rfl, rfl, _, rfl, a, _, _, rfl, hP1, by omega, by decide, Bd.small 20 (by decide) (by decide), fun e2 H2 e20 e21 hP2 f2 => ?_⟩
    refine ⟨_, _, rfl, rfl, _, rfl, _, rfl, a, _, dg, m, rfl, hP2, by omega, hm, by omega, by omega, fun z H3 bz hP3 f3 => ?_⟩
    refine ⟨len10 (by simp), fun l nl => ?_⟩
    refine ⟨_, rfl, a, _, _, rfl, hP3.new nl, by omega, by decide, Bd.small 20 (by decide) (by decide), fun d H4 d0 d1 hP4 f4 => ?_⟩
    have el := f4.l _ _ (upd_same (H := H3) (a := l) (o := .lst [.int (e1 - 4), .int (e2 - 30), .int z]))
    obtain ⟨x, hx, mx⟩ := at_in (xs := [.int (e1 - 4), .int (e2 - 30), .int z]) d0 (by show d < 3; omega)
    refine ⟨l, _, _, _, rfl, rfl, SqL.of el, hx, ?_⟩
    have fF := f1.trans (f2.trans (f3.trans ((Fr.new nl).trans f4)))
    simp only [List.mem_cons, List.not_mem_nil, or_false] at mx
    rcases mx with rfl | rfl | rfl
    · exact kk _ _ (sB (by omega)) (hP4.mono (by omega)) fF
    · exact kk _ _ (sB (by omega)) (hP4.mono (by omega)) fF
    · exact kk _ _ bz (hP4.mono (by omega)) fF
def spRec30 : Sp := fun vs H Q _ => ∃ (a : PA) (n : Nat) (r L : Addr) (p q c : Int) (offs : List Int) (dg : Int) (m k : Nat), vs = [.ref a, .ref r, .ref L, .int dg] ∧ Pen H a n ∧ n < 2 ^ 37 ∧ H r = some (.tup [.int p, .int q, .int c]) ∧ RuleB k p q c ∧
  H L = some (.lst (offs.map V.int)) ∧ offs ≠ [] ∧ offs.length ≤ 1000 ∧ (∀ z ∈ offs, Bd 200 z) ∧ dg / 6 = (m : Int) ∧ 1 ≤ m ∧ m ≤ 60 ∧ 100 ≤ k ∧ 20 * m ≤ k ∧ k ≤ 3000 ∧
  ∀ e H' d o, H' e = some (rcO d) → Bd k d.t → Bd (2 * k + 2) d.n → o ∈ offs → d.n = (p * d.t + c) / q + (if d.lo = true then o else -o) → Pen H' a (n + m + 10) → Fr H H' → Q (.ref e) H'
abbrev s_l_record : Stmt := topS 50
abbrev N_l_record : List Str := ["_law_pen_here", "_law_rule", "_law_offs", "_law_digits", "_law_time_here", "_law_off"]
abbrev P_l_record : List Str := ["_law_pen_here", "_law_rule", "_law_offs", "_law_digits"]
theorem sc_l_record : FnScope N_l_record P_l_record (defScope s_l_record) := ⟨rfl, rfl, rfl, by decide +kernel, rfl, by decide +kernel, by decide +kernel⟩
theorem ok_l_record (D : Df K mg "_law_record" s_l_record P_l_record) (B : Bi mg) (c_l_draw : C8.Cal P w K mg base 1 "_law_draw" spDraw []) (c_l_pick : C8.Cal P w K mg base 2 "_law_pick" spPick []) (c_l_count : C8.Cal P w K mg base 1 "_law_count" spCount30 []) (c_l_time : C8.Cal P w K mg base 3 "_law_time" spTime30 []) : C8.Cal P w K mg base 4 "_law_record" spRec30 [] := by
  refine cal_of D sc_l_record (fun vs H Q E h => ?_) (fun f cdv A outer s H vs Q E hr h => ?_)
  · obtain ⟨a, n, r, L, p, q, c, offs, dg, m, k, rfl, _⟩ := h
    rfl
  · obtain ⟨a, n, r, L, p, q, c, offs, dg, m, k, rfl, hP, hn, er, R, eL, ho0, hol, hob, hm, m1, m20, k0, km, k3, kk⟩ := h
    refine ⟨_, (pss_cons (ps_par (i := 4) (j := 5) rfl sc_l_record.nd rfl rfl (by decide) rfl rfl (pa_cons (C8.pe_c c_l_time hr (by decide) (by rfl) (pa_cons (pv 0) (pa_cons (pv 3) pa_nil))) (pa_cons (C8.pe_c c_l_pick hr (by decide) (by rfl) (pa_cons (pv 0) (pa_cons (pv 2) pa_nil))) pa_nil)) rfl)
    (pss_cons (ps_if (pt_cmpR op_eq (C8.pe_c c_l_draw hr (by decide) (by rfl) (pa_cons (pv 0) (pa_cons pe_int pa_nil))) pe_int (nomark _))
      (pss_one (ps_ret (pe_tup (pa_cons pe_str (pa_cons (pv 4) (pa_cons (pe_op op_add (C8.pe_c c_l_count hr (by decide) (by rfl) (pa_cons (pv 1) (pa_cons (pv 4) pa_nil))) (pv 5)) pa_nil))))))
      pss_nil)
    (pss_one (ps_ret (pe_tup (pa_cons pe_str (pa_cons (pv 4) (pa_cons (pe_op op_sub (C8.pe_c c_l_count hr (by decide) (by rfl) (pa_cons (pv 1) (pa_cons (pv 4) pa_nil))) (pv 5)) pa_nil)))))))), ?_⟩
    refine ⟨_, rfl, _, rfl, a, n, dg, m, rfl, hP, by omega, hm, m1, m20, fun t H1 bt hP1 f1 => ?_⟩
    refine ⟨_, rfl, _, rfl, a, L, _, _, rfl, hP1, by omega, f1.l _ _ eL, by simpa using ho0, by simpa using hol, fun x H2 hx hP2 f2 => ?_⟩
    obtain ⟨o, ho, rfl⟩ := List.mem_map.mp hx
    have bo := hob o ho
    have bt : Bd k t := bt.mono km
    refine ⟨_, _, rfl, ?_⟩
    refine ⟨_, rfl, a, _, _, rfl, hP2, by omega, by decide, Bd.small 20 (by decide) (by decide), fun d H3 d0 d1 hP3 f3 => ?_⟩
    have fF := f1.trans (f2.trans f3)
    have er3 := fF.t _ _ er
    have bc : Bd (2 * k + 1) ((p * t + c) / q) := Bd.ediv (Bd.add ((Bd.mul R.bp bt).mono (by omega)) (R.bc.mono (by omega))) (by have := R.q1; omega)
    refine ⟨rfl, _, rfl, ite2 (fun _ => ?_) (fun _ => ?_)⟩
    · refine ⟨_, rfl, _, rfl, _, rfl, r, p, q, c, t, k, rfl, er3, R, bt, by omega, by omega, ?_⟩
      refine ⟨_, rfl, _, _, rfl, rfl, len10 (by simp), fun e ne => ?_⟩
      refine kk e _ ⟨true, t, (p * t + c) / q + o⟩ o upd_same bt (Bd.add bc (bo.mono (by omega))) ho rfl ((hP3.new ne).mono (by omega)) (fF.trans (Fr.new ne))
    · refine ⟨_, rfl, _, rfl, _, rfl, r, p, q, c, t, k, rfl, er3, R, bt, by omega, by omega, ?_⟩
      refine ⟨_, rfl, _, _, rfl, rfl, len10 (by simp), fun e ne => ?_⟩
      refine kk e _ ⟨false, t, (p * t + c) / q - o⟩ o upd_same bt (Bd.sub bc (bo.mono (by omega))) ho ?_ ((hP3.new ne).mono (by omega)) (fF.trans (Fr.new ne))
      show (p * t + c) / q - o = (p * t + c) / q + -o
      omega
end
end Lf
namespace Lf
open PySem PySem.Spec PyProof.Rows L2
def rcD (d : Rec) : PyData := .tuple [.str (wd d.lo), .int d.t, .int d.n]
theorem dp_rec {K : PySem.W.Frag} {H : Hp} {r : Addr} {d : Rec} (e : H r = some (rcO d)) : Dp K H (.ref r) (rcD d) := Dp.tup (SqT.of e) (.cons (.str _) (.cons (.int _) (.cons (.int _) .nil)))
theorem dp_recs {K : PySem.W.Frag} {H : Hp} {xs : List V} {ds : List Rec} (h : Obs rcO H xs ds) : DpAll K H xs (ds.map rcD) := by
  induction h with
  | nil => exact .nil
  | cons e _ ih => exact .cons (dp_rec e) ih
theorem sh_recs (ds : List Rec) : SeqAt.shaped (.list (ds.map rcD)) = true := by
  have h : ∀ ds : List Rec, PyData.canLayAll0 (ds.map rcD) = true ∧ PyData.depthAll (ds.map rcD) ≤ 1 := by
    intro cs
    induction cs with
    | nil => exact ⟨rfl, by decide⟩
    | cons c r ih =>
      refine ⟨?_, ?_⟩
      · have hw : PyData.strOk (wd c.lo) = true := by
          cases c.lo <;> decide +kernel
        simpa [PyData.canLayAll0, PyData.canLay0, rcD, hw] using ih.1
      · have := ih.2
        simp only [List.map_cons, PyData.depthAll, rcD, PyData.depth]
        omega
  have h2 : (PyData.list (ds.map rcD)).depth ≤ 64 := by
    have := (h ds).2
    simp only [PyData.depth]
    omega
  show (PyData.canLay0 _ && decide _) = true
  rw [Bool.and_eq_true]
  exact ⟨by simpa [PyData.canLay0] using (h ds).1, decide_eq_true h2⟩
section
variable {P : Program} {w : World} {K : PySem.W.Frag} {mg : Str → Option Value} {base : Heap}
def spRecs30 : Sp := fun vs H Q _ => ∃ (a : PA) (n : Nat) (L : Addr) (mo : Int) (offs : List Int) (dg : Int) (m : Nat), vs = [.ref a, .int mo, .ref L, .int dg] ∧ Pen H a n ∧ n < 2 ^ 36 ∧ 0 ≤ mo ∧ mo ≤ 200 ∧
  H L = some (.lst (offs.map V.int)) ∧ offs ≠ [] ∧ offs.length ≤ 1000 ∧ (∀ z ∈ offs, Bd 200 z) ∧ dg / 6 = (m : Int) ∧ 5 ≤ m ∧ m ≤ 20 ∧
  ∀ F H' xs ds, H' F = some (.lst xs) → Obs rcO H' xs ds → (ds.length : Int) ≤ mo → RcB (40 * m + 10) ds → Pen H' a (n + 10000) → Fr H H' → Q (.ref F) H'
end
end Lf
namespace Lf
open PySem PySem.Spec PyProof.Rows L2
/-! ### check_records, split_records: of a list or a tuple, or refused -/
def isLT : PyData → Bool
  | .list _ => true
  | .tuple _ => true
  | _ => false
theorem kit_ltD {K : PySem.W.Frag} (d : PyData) : PySem.W.kitAny K (.type (tyN d)) [.type "list", .type "tuple"] = some (isLT d) := by
  cases d
  · exact kitAny_cons (b := false) (kit_ty (by show kitB "NoneType" "list" = some false; decide +kernel)) (fun _ => kitAny_cons (b := false) (kit_ty (by show kitB "NoneType" "tuple" = some false; decide +kernel)) (fun _ => rfl) (fun z => by cases z)) (fun z => by cases z)
  · exact kitAny_cons (b := false) (kit_ty (by show kitB "bool" "list" = some false; decide +kernel)) (fun _ => kitAny_cons (b := false) (kit_ty (by show kitB "bool" "tuple" = some false; decide +kernel)) (fun _ => rfl) (fun z => by cases z)) (fun z => by cases z)
  · exact kitAny_cons (b := false) (kit_ty (by show kitB "int" "list" = some false; decide +kernel)) (fun _ => kitAny_cons (b := false) (kit_ty (by show kitB "int" "tuple" = some false; decide +kernel)) (fun _ => rfl) (fun z => by cases z)) (fun z => by cases z)
  · exact kitAny_cons (b := false) (kit_ty (by show kitB "str" "list" = some false; decide +kernel)) (fun _ => kitAny_cons (b := false) (kit_ty (by show kitB "str" "tuple" = some false; decide +kernel)) (fun _ => rfl) (fun z => by cases z)) (fun z => by cases z)
  · exact kit_lt
  · exact kitAny_cons (b := false) (kit_ty (by show kitB "tuple" "list" = some false; decide +kernel)) (fun _ => kitAny_cons (b := true) (kit_ty ktt) (fun z => by cases z) (fun _ => rfl)) (fun z => by cases z)
  · exact kitAny_cons (b := false) (kit_ty (by show kitB "dict" "list" = some false; decide +kernel)) (fun _ => kitAny_cons (b := false) (kit_ty (by show kitB "dict" "tuple" = some false; decide +kernel)) (fun _ => rfl) (fun z => by cases z)) (fun z => by cases z)
def sqN (kb : Bool) : String := if kb = true then "list" else "tuple"
theorem sq_ty {K : PySem.W.Frag} {H : Hp} {a : Addr} {kb : Bool} {xs : List V} (h : H a = some (sqO kb xs)) : TyX K H (.ref a) (.type (sqN kb)) := by
  cases kb
  · exact .base (.tup h)
  · exact .base (.lst h)
theorem kit_sq {K : PySem.W.Frag} (kb : Bool) : PySem.W.kitAny K (.type (sqN kb)) [.type "list", .type "tuple"] = some true := by
  cases kb
  · exact kit_ltD (.tuple [])
  · exact kit_ltD (.list [])
theorem SqB.or {K : PySem.W.Frag} {b : Bool} {H : Hp} {a : Addr} {xs : List V} (h : SqB K b H a xs) : SqL K H a xs ∨ SqT K H a xs := by
  cases b
  · exact .inr h
  · exact .inl h
theorem rec_yes (d : Rec) : recB (rcD d) = true := by
  show (words.any (fun z => PyData.eqv z (.str (wd d.lo))) && true) = true
  cases d.lo <;> decide +kernel
theorem rec_rg (d : Rec) : rgB (rcD d) = true := rg_w d.lo
theorem rec_dvS {H : Hp} {e : Addr} {d : Rec} (h : H e = some (rcO d)) : Dv H (.ref e) (rcD d) := .tup h (.cons (.str _) (.cons (.int _) (.cons (.int _) .nil)))
inductive CkBad (H : Hp) : V → Int → Prop
  | kind {v : V} {d : PyData} : Dv H v d → isLT d = false → CkBad H v (-1)
  | long {a : Addr} {kb : Bool} {xs : List V} : H a = some (sqO kb xs) → 200 < xs.length → CkBad H (.ref a) (-1)
  | item {a : Addr} {kb : Bool} {xs : List V} {ds : List Rec} {x : V} {d : PyData} {i : Nat} : H a = some (sqO kb xs) → xs.length ≤ 200 → Obs rcO H (xs.take i) ds → xs[i]? = some x → Dv H x d → rgB d = true → recB d = false → CkBad H (.ref a) (i : Nat)
section
variable {P : Program} {w : World} {K : PySem.W.Frag} {mg : Str → Option Value} {base : Heap} {C : Addr}
def spCkS : Sp := fun vs H Q _ => ∃ (L : Addr) (kb : Bool) (xs : List V) (ds : List Rec), vs = [.ref L] ∧ H L = some (sqO kb xs) ∧ Obs rcO H xs ds ∧ ds.length ≤ 200 ∧ ∀ H', Same H H' → Q .non H'
def spCkX (C : Addr) : Sp := fun vs H _ E => ∃ (v : V) (j : Int), vs = [v] ∧ CkBad H v j ∧ ∀ H', Same H H' → OutY C "index" (.int j) H' E
/-! ### split_records -/
def spSplitS : Sp := fun vs H Q _ => ∃ (L : Addr) (kb : Bool) (xs : List V) (ds : List Rec), vs = [.ref L] ∧ H L = some (sqO kb xs) ∧ Obs rcO H xs ds ∧ ds.length ≤ 1000 ∧
  ∀ T H' A B as bs, Same H H' → H' T = some (.tup [.ref A, .ref B]) → H' A = some (.lst as) → Obs trO H' as (sel true 0 ds) → H' B = some (.lst bs) → Obs trO H' bs (sel false 0 ds) → Q (.ref T) H'
theorem okS_split_records (D : Df K mg "split_records" s_split_records P_split_records) (B : Bi mg) : C8.Cal P w K mg base 1 "split_records" spSplitS [] := by
  refine cal_of D sc_split_records (fun vs H Q E h => ?_) (fun f cdv A outer s H vs Q E hr h => ?_)
  · obtain ⟨L, kb, xs, ds, rfl, _⟩ := h
    rfl
  · obtain ⟨L, kb, xs, ds, rfl, eL, hO, hl, kk⟩ := h
    refine ⟨_, (pss_cons (ps_setLc (i := 1) (own := [("i", 3), ("word", 4), ("t", 5), ("n", 6)]) (g := (gTup K 2 (gCons (gName 3) (gCons (gTup K 3 (gCons (gName 4) (gCons (gName 5) (gCons (gName 6) gNil)))) gNil)))) (by rfl) sc_split_records.nd rfl rfl (sw_true rfl rfl rfl (by decide +kernel)) (pi_enumB (by rfl) B.enumerate_ (pa_cons (pv 0) pa_nil)) (blkOk_by (own := [("i", 3), ("word", 4), ("t", 5), ("n", 6)]) (N := N_split_records) (sc := defScope s_split_records) (by decide +kernel)) (fun _ _ _ _ _ => (pg_tup rfl (pgs_cons (pg_name (i := 3) sc_split_records.nd rfl (Or.inl rfl)) (pgs_cons (pg_tup rfl (pgs_cons (pg_name (i := 4) sc_split_records.nd rfl (Or.inl rfl)) (pgs_cons (pg_name (i := 5) sc_split_records.nd rfl (Or.inl rfl)) (pgs_cons (pg_name (i := 6) sc_split_records.nd rfl (Or.inl rfl)) pgs_nil)))) pgs_nil)))) (fun _ _ _ _ _ => (pts_one (pt_cmpR op_eq (pv 4) pe_str (nomark _)))) (fun _ _ _ _ _ => (pe_tup (pa_cons (pv 3) (pa_cons (pv 5) (pa_cons (pv 6) pa_nil))))))
    (pss_cons (ps_setLc (i := 2) (own := [("j", 7), ("word", 4), ("u", 8), ("m", 9)]) (g := (gTup K 2 (gCons (gName 7) (gCons (gTup K 3 (gCons (gName 4) (gCons (gName 8) (gCons (gName 9) gNil)))) gNil)))) (by rfl) sc_split_records.nd rfl rfl (sw_true rfl rfl rfl (by decide +kernel)) (pi_enumB (by rfl) B.enumerate_ (pa_cons (pv 0) pa_nil)) (blkOk_by (own := [("j", 7), ("word", 4), ("u", 8), ("m", 9)]) (N := N_split_records) (sc := defScope s_split_records) (by decide +kernel)) (fun _ _ _ _ _ => (pg_tup rfl (pgs_cons (pg_name (i := 7) sc_split_records.nd rfl (Or.inl rfl)) (pgs_cons (pg_tup rfl (pgs_cons (pg_name (i := 4) sc_split_records.nd rfl (Or.inl rfl)) (pgs_cons (pg_name (i := 8) sc_split_records.nd rfl (Or.inl rfl)) (pgs_cons (pg_name (i := 9) sc_split_records.nd rfl (Or.inl rfl)) pgs_nil)))) pgs_nil)))) (fun _ _ _ _ _ => (pts_one (pt_cmpR op_eq (pv 4) pe_str (nomark _)))) (fun _ _ _ _ _ => (pe_tup (pa_cons (pv 7) (pa_cons (pv 8) (pa_cons (pv 9) pa_nil))))))
    (pss_one (ps_ret (pe_tup (pa_cons (pv 1) (pa_cons (pv 2) pa_nil))))))), ?_⟩
    refine ⟨_, rfl, L, kb, xs, rfl, SqB.of eL, fun A nA => ?_⟩
    refine lc_it (walk_enumB (K := K) (b := kb) (a := L) (xs := xs)) (fun i H' => ∃ as, H' A = some (.lst as) ∧ Obs trO H' as (sel true 0 (ds.take i)) ∧ Same H H') ⟨_, upd_same, .nil, sm_upd nA⟩ ?_ ?_ ?_
    · rintro i H1 _ ⟨_, _, _, s1⟩
      exact SqB.of (s1 _ _ eL)
    · rintro i v H1 H2 hi ⟨as, eA, oA, s1⟩ ⟨T, x, y, rfl, nT, rfl, hx, hy⟩
      cases hx
      obtain ⟨r, d, rfl, er, hd⟩ := hO.at hy
      have z := sm_upd (o := .tup [.int (i : Nat), .ref r]) nT
      have s2 := s1.trans z
      have al : as.length < sizeLine := by
        have h1 := oA.len
        have h2 := sel_len true 0 (ds.take i)
        rw [List.length_take] at h2
        exact small1000 (by omega)
      refine ⟨T, _, rfl, SqT.of upd_same, rfl, _, _, rfl, _, _, rfl, r, _, rfl, SqT.of (s2 _ _ er), rfl, _, _, rfl, _, _, rfl, _, _, rfl, rfl, rfl, ?_⟩
      refine ⟨rfl, _, rfl, rfl, _, rfl, ?_⟩
      rw [w_lo]
      cases hb : d.lo with
      | true =>
        refine iteT ⟨_, rfl, _, rfl, _, rfl, len10 (by simp), fun t nt => ?_⟩
        have z2 := sm_upd (o := .tup [.int (i : Nat), .int d.t, .int d.n]) nt
        have nA2 : t ≠ A := (ne_of_none (z _ _ eA) nt).symm
        refine ⟨as, z2 _ _ (z _ _ eA), al, _, upd_same, ?_, ?_⟩
        · rw [sel_take hd, if_pos hb]
          refine Obs.snoc (Obs.keep ((oA.same z).same z2) fun b d' e => ?_) ?_
          · rw [upd_ne (ne_of e (z2 _ _ (z _ _ eA)) (by intro q; cases q))]
            exact e
          · rw [upd_ne nA2]
            exact upd_same
        · intro b o e
          rw [upd_ne (ne_of_none e nA)]
          exact z2 _ _ (s2 _ _ e)
      | false =>
        refine iteF ⟨as, z _ _ eA, ?_, s2⟩
        rw [sel_take hd, if_neg (by rw [hb]; exact Bool.false_ne_true), List.append_nil]
        exact oA.same z
    rintro H1 ⟨as, eA, oA, s1⟩
    rw [List.take_of_length_le (by rw [hO.len]; exact Nat.le_refl _)] at oA
    refine ⟨_, rfl, L, kb, xs, rfl, SqB.of (s1 _ _ eL), fun B2 nB => ?_⟩
    refine lc_it (walk_enumB (K := K) (b := kb) (a := L) (xs := xs)) (fun i H' => ∃ bs, H' B2 = some (.lst bs) ∧ Obs trO H' bs (sel false 0 (ds.take i)) ∧ Same H1 H') ⟨_, upd_same, .nil, sm_upd nB⟩ ?_ ?_ ?_
    · rintro i H2 _ ⟨_, _, _, s2⟩
      exact SqB.of (s2 _ _ (s1 _ _ eL))
    · rintro i v H2 H3 hi ⟨bs, eB, oB, s2⟩ ⟨T, x, y, rfl, nT, rfl, hx, hy⟩
      cases hx
      obtain ⟨r, d, rfl, er, hd⟩ := hO.at hy
      have z := sm_upd (o := .tup [.int (i : Nat), .ref r]) nT
      have s3 := s2.trans z
      have al : bs.length < sizeLine := by
        have h1 := oB.len
        have h2 := sel_len false 0 (ds.take i)
        rw [List.length_take] at h2
        exact small1000 (by omega)
      refine ⟨T, _, rfl, SqT.of upd_same, rfl, _, _, rfl, _, _, rfl, r, _, rfl, SqT.of (s3 _ _ (s1 _ _ er)), rfl, _, _, rfl, _, _, rfl, _, _, rfl, rfl, rfl, ?_⟩
      refine ⟨rfl, _, rfl, rfl, _, rfl, ?_⟩
      rw [w_hi]
      cases hb : d.lo with
      | false =>
        refine iteT ⟨_, rfl, _, rfl, _, rfl, len10 (by simp), fun t nt => ?_⟩
        have z2 := sm_upd (o := .tup [.int (i : Nat), .int d.t, .int d.n]) nt
        have nB2 : t ≠ B2 := (ne_of_none (z _ _ eB) nt).symm
        refine ⟨bs, z2 _ _ (z _ _ eB), al, _, upd_same, ?_, ?_⟩
        · rw [sel_take hd, if_pos hb]
          refine Obs.snoc (Obs.keep ((oB.same z).same z2) fun b d' e => ?_) ?_
          · rw [upd_ne (ne_of e (z2 _ _ (z _ _ eB)) (by intro q; cases q))]
            exact e
          · rw [upd_ne nB2]
            exact upd_same
        · intro b o e
          rw [upd_ne (ne_of_none e nB)]
          exact z2 _ _ (s3 _ _ e)
      | true =>
        refine iteF ⟨bs, z _ _ eB, ?_, s3⟩
        rw [sel_take hd, if_neg (by rw [hb]; exact fun q => Bool.false_ne_true q.symm), List.append_nil]
        exact oB.same z
    rintro H2 ⟨bs, eB, oB, s2⟩
    rw [List.take_of_length_le (by rw [hO.len]; exact Nat.le_refl _)] at oB
    refine ⟨_, rfl, _, rfl, len10 (by simp), fun T nT => ?_⟩
    have z := sm_upd (o := .tup [.ref A, .ref B2]) nT
    exact kk T _ A B2 as bs ((s1.trans s2).trans z) upd_same (z _ _ (s2 _ _ eA)) ((oA.same s2).same z) (z _ _ eB) (oB.same z)
end
end Lf
namespace Lf
open PySem PySem.Spec PyProof.Rows L2
/-! ### the bounds of the rates -/
abbrev T4 := Int × Int × Int × Int
abbrev t4O (z : T4) : HO := .tup [.int z.1, .int z.2.1, .int z.2.2.1, .int z.2.2.2]
def PrV (H : Hp) (v : V) : Option T4 → Prop
  | none => v = .non
  | some z => ∃ r, v = .ref r ∧ H r = some (t4O z)
theorem PrV.same {H H' : Hp} {v : V} {o : Option T4} (h : PrV H v o) (s : Same H H') : PrV H' v o := by
  cases o with
  | none => exact h
  | some z =>
    obtain ⟨r, e, h⟩ := h
    exact ⟨r, e, s _ _ h⟩
def uc (x y : T3) : Prop := ¬ y.2.1 < x.2.1 ∧ (x.2.1 < y.2.1 ∨ x.2.2 > y.2.2)
def bot (x y : T3) : Int := if y.2.1 - x.2.1 > 1 then y.2.1 - x.2.1 else 1
theorem bot_pos (x y : T3) : 1 ≤ bot x y := by
  unfold bot
  by_cases h : y.2.1 - x.2.1 > 1
  · rw [if_pos h]
    omega
  · rw [if_neg h]
    omega
theorem bot_eq {x y : T3} (h : x.2.1 < y.2.1) : bot x y = y.2.1 - x.2.1 := by
  unfold bot
  by_cases h : y.2.1 - x.2.1 > 1
  · rw [if_pos h]
  · rw [if_neg h]
    omega
def LoOk (S : T3 → T3 → Prop) : Option T4 → Prop
  | none => ∀ x y, S x y → ¬ y.2.1 < x.2.1
  | some z => (∃ x y, S x y ∧ y.2.1 < x.2.1 ∧ z = (x.2.2 - y.2.2 - 1, x.2.1 - y.2.1, x.1, y.1)) ∧ ∀ x y, S x y → y.2.1 < x.2.1 → (x.2.2 - y.2.2 - 1) * z.2.1 ≤ z.1 * (x.2.1 - y.2.1)
def UpOk (S : T3 → T3 → Prop) : Option T4 → Prop
  | none => ∀ x y, S x y → ¬ uc x y
  | some z => (∃ x y, S x y ∧ uc x y ∧ z = (y.2.2 + 1 - x.2.2, bot x y, x.1, y.1)) ∧ ∀ x y, S x y → uc x y → z.1 * bot x y ≤ (y.2.2 + 1 - x.2.2) * z.2.1
theorem frac_trans {a b c d e f : Int} (hd : 0 < d) (hb : 0 < b) (hf : 0 < f) (h1 : a * d ≤ c * b) (h2 : c * f ≤ e * d) : a * f ≤ e * b := by
  refine Int.le_of_mul_le_mul_right ?_ hd
  have g1 := Int.mul_le_mul_of_nonneg_right h1 (Int.le_of_lt hf)
  have g2 := Int.mul_le_mul_of_nonneg_right h2 (Int.le_of_lt hb)
  have e1 : a * f * d = a * d * f := by grind
  have e2 : e * b * d = e * d * b := by grind
  have e3 : c * b * f = c * f * b := by grind
  omega
theorem frac_lt {a b c d e f : Int} (hd : 0 < d) (hb : 0 < b) (hf : 0 < f) (h1 : a * d ≤ c * b) (h2 : c * f < e * d) : a * f < e * b := by
  refine Int.lt_of_mul_lt_mul_right ?_ (Int.le_of_lt hd)
  have g1 := Int.mul_le_mul_of_nonneg_right h1 (Int.le_of_lt hf)
  have g2 := Int.mul_lt_mul_of_pos_right h2 hb
  have e1 : a * f * d = a * d * f := by grind
  have e2 : e * b * d = e * d * b := by grind
  have e3 : c * b * f = c * f * b := by grind
  omega
theorem frac_lt' {a b c d e f : Int} (hd : 0 < d) (hb : 0 < b) (hf : 0 < f) (h1 : a * d < c * b) (h2 : c * f ≤ e * d) : a * f < e * b := by
  refine Int.lt_of_mul_lt_mul_right ?_ (Int.le_of_lt hd)
  have g1 := Int.mul_lt_mul_of_pos_right h1 hf
  have g2 := Int.mul_le_mul_of_nonneg_right h2 (Int.le_of_lt hb)
  have e1 : a * f * d = a * d * f := by grind
  have e2 : e * b * d = e * d * b := by grind
  have e3 : c * b * f = c * f * b := by grind
  omega
def ad (S : T3 → T3 → Prop) (x y : T3) : T3 → T3 → Prop := fun x' y' => S x' y' ∨ (x' = x ∧ y' = y)
section
variable {S S' : T3 → T3 → Prop} {x y : T3} {o : Option T4}
theorem LoOk.congr (h : LoOk S o) (e : ∀ x y, S x y ↔ S' x y) : LoOk S' o := by
  have : S = S' := by
    funext x y
    exact propext (e x y)
  rw [← this]
  exact h
theorem UpOk.congr (h : UpOk S o) (e : ∀ x y, S x y ↔ S' x y) : UpOk S' o := by
  have : S = S' := by
    funext x y
    exact propext (e x y)
  rw [← this]
  exact h
theorem LoOk.den (h : LoOk S o) : ∀ z, o = some z → 1 ≤ z.2.1 := fun z e => by
  subst e
  obtain ⟨⟨x, y, _, h1, rfl⟩, _⟩ := h
  show 1 ≤ x.2.1 - y.2.1
  omega
theorem UpOk.den (h : UpOk S o) : ∀ z, o = some z → 1 ≤ z.2.1 := fun z e => by
  subst e
  obtain ⟨⟨x, y, _, h1, rfl⟩, _⟩ := h
  exact bot_pos x y
theorem LoOk.skip (h : LoOk S o) (n : ¬ y.2.1 < x.2.1) : LoOk (ad S x y) o := by
  cases o with
  | none =>
    rintro x' y' (z | ⟨rfl, rfl⟩)
    · exact h _ _ z
    · exact n
  | some z =>
    obtain ⟨⟨x0, y0, s0, h1, h2⟩, h3⟩ := h
    refine ⟨⟨x0, y0, .inl s0, h1, h2⟩, ?_⟩
    rintro x' y' (z | ⟨rfl, rfl⟩) c
    · exact h3 _ _ z c
    · exact absurd c n
theorem UpOk.skip (h : UpOk S o) (n : ¬ uc x y) : UpOk (ad S x y) o := by
  cases o with
  | none =>
    rintro x' y' (z | ⟨rfl, rfl⟩)
    · exact h _ _ z
    · exact n
  | some z =>
    obtain ⟨⟨x0, y0, s0, h1, h2⟩, h3⟩ := h
    refine ⟨⟨x0, y0, .inl s0, h1, h2⟩, ?_⟩
    rintro x' y' (z | ⟨rfl, rfl⟩) c
    · exact h3 _ _ z c
    · exact absurd c n
theorem LoOk.first (h : LoOk S none) (c : y.2.1 < x.2.1) : LoOk (ad S x y) (some (x.2.2 - y.2.2 - 1, x.2.1 - y.2.1, x.1, y.1)) := by
  refine ⟨⟨x, y, .inr ⟨rfl, rfl⟩, c, rfl⟩, ?_⟩
  rintro x' y' (z | ⟨rfl, rfl⟩) c'
  · exact absurd c' (h _ _ z)
  · exact Int.le_refl _
theorem LoOk.keep {z : T4} (h : LoOk S (some z)) (g : (x.2.2 - y.2.2 - 1) * z.2.1 ≤ z.1 * (x.2.1 - y.2.1)) : LoOk (ad S x y) (some z) := by
  obtain ⟨⟨x0, y0, s0, h1, h2⟩, h3⟩ := h
  refine ⟨⟨x0, y0, .inl s0, h1, h2⟩, ?_⟩
  rintro x' y' (z | ⟨rfl, rfl⟩) c
  · exact h3 _ _ z c
  · exact g
theorem LoOk.upd {z : T4} (h : LoOk S (some z)) (c : y.2.1 < x.2.1) (g : z.1 * (x.2.1 - y.2.1) < (x.2.2 - y.2.2 - 1) * z.2.1) : LoOk (ad S x y) (some (x.2.2 - y.2.2 - 1, x.2.1 - y.2.1, x.1, y.1)) := by
  refine ⟨⟨x, y, .inr ⟨rfl, rfl⟩, c, rfl⟩, ?_⟩
  have dz := h.den z rfl
  rintro x' y' (s | ⟨rfl, rfl⟩) c'
  · show (x'.2.2 - y'.2.2 - 1) * (x.2.1 - y.2.1) ≤ (x.2.2 - y.2.2 - 1) * (x'.2.1 - y'.2.1)
    exact frac_trans (by omega : 0 < z.2.1) (by omega) (by omega) (h.2 _ _ s c') (Int.le_of_lt g)
  · exact Int.le_refl _
theorem UpOk.first (h : UpOk S none) (c : uc x y) : UpOk (ad S x y) (some (y.2.2 + 1 - x.2.2, bot x y, x.1, y.1)) := by
  refine ⟨⟨x, y, .inr ⟨rfl, rfl⟩, c, rfl⟩, ?_⟩
  rintro x' y' (z | ⟨rfl, rfl⟩) c'
  · exact absurd c' (h _ _ z)
  · exact Int.le_refl _
theorem UpOk.keep {z : T4} (h : UpOk S (some z)) (g : z.1 * bot x y ≤ (y.2.2 + 1 - x.2.2) * z.2.1) : UpOk (ad S x y) (some z) := by
  obtain ⟨⟨x0, y0, s0, h1, h2⟩, h3⟩ := h
  refine ⟨⟨x0, y0, .inl s0, h1, h2⟩, ?_⟩
  rintro x' y' (z | ⟨rfl, rfl⟩) c
  · exact h3 _ _ z c
  · exact g
theorem UpOk.upd {z : T4} (h : UpOk S (some z)) (c : uc x y) (g : (y.2.2 + 1 - x.2.2) * z.2.1 < z.1 * bot x y) : UpOk (ad S x y) (some (y.2.2 + 1 - x.2.2, bot x y, x.1, y.1)) := by
  refine ⟨⟨x, y, .inr ⟨rfl, rfl⟩, c, rfl⟩, ?_⟩
  have dz := h.den z rfl
  have b1 := bot_pos x y
  rintro x' y' (s | ⟨rfl, rfl⟩) c'
  · have b2 := bot_pos x' y'
    show (y.2.2 + 1 - x.2.2) * bot x' y' ≤ (y'.2.2 + 1 - x'.2.2) * bot x y
    exact frac_trans (by omega : 0 < z.2.1) (by omega) (by omega) (Int.le_of_lt g) (h.2 _ _ s c')
  · exact Int.le_refl _
end
/-- a rate within the bounds -/
def RateIn (lo up : Option T4) (p q : Int) : Prop := (∀ z, lo = some z → z.1 * q < p * z.2.1) ∧ ∀ z, up = some z → p * z.2.1 < z.1 * q
theorem rate_iff {S : T3 → T3 → Prop} {lo up : Option T4} {p q : Int} (hp : 0 ≤ p) (hq : 1 ≤ q) (hl : LoOk S lo) (hu : UpOk S up) : (∀ x y, S x y → p * (y.2.1 - x.2.1) < (y.2.2 + 1 - x.2.2) * q) ↔ RateIn lo up p q := by
  constructor
  · intro h
    constructor
    · rintro z rfl
      obtain ⟨⟨x, y, s, c, rfl⟩, _⟩ := hl
      have := h x y s
      show (x.2.2 - y.2.2 - 1) * q < p * (x.2.1 - y.2.1)
      have e1 : (x.2.2 - y.2.2 - 1) * q = -((y.2.2 + 1 - x.2.2) * q) := by grind
      have e2 : p * (x.2.1 - y.2.1) = -(p * (y.2.1 - x.2.1)) := by grind
      omega
    · rintro z rfl
      obtain ⟨⟨x, y, s, c, rfl⟩, _⟩ := hu
      have g := h x y s
      show p * bot x y < (y.2.2 + 1 - x.2.2) * q
      by_cases c2 : x.2.1 < y.2.1
      · rw [bot_eq c2]
        exact g
      · have e : y.2.1 - x.2.1 = 0 := by
          have := c.1
          omega
        rw [e, Int.mul_zero] at g
        have : 0 < y.2.2 + 1 - x.2.2 := pos_of_mul g (by omega)
        have := c.2
        omega
  · rintro ⟨h1, h2⟩ x y s
    by_cases c : y.2.1 < x.2.1
    · cases lo with
      | none => exact absurd c (hl x y s)
      | some z =>
        have dz := hl.den z rfl
        have g := frac_lt (by omega : 0 < z.2.1) (by omega) (by omega : 0 < q) (hl.2 x y s c) (h1 z rfl)
        have e1 : (x.2.2 - y.2.2 - 1) * q = -((y.2.2 + 1 - x.2.2) * q) := by grind
        have e2 : p * (x.2.1 - y.2.1) = -(p * (y.2.1 - x.2.1)) := by grind
        omega
    · by_cases c2 : x.2.1 < y.2.1 ∨ x.2.2 > y.2.2
      · cases up with
        | none => exact absurd ⟨c, c2⟩ (hu x y s)
        | some z =>
          have dz := hu.den z rfl
          have b1 := bot_pos x y
          have g := frac_lt' (by omega : 0 < z.2.1) (by omega : 0 < q) (by omega : 0 < bot x y) (h2 z rfl) (hu.2 x y s ⟨c, c2⟩)
          have le : y.2.1 - x.2.1 ≤ bot x y := by
            by_cases c3 : x.2.1 < y.2.1
            · rw [bot_eq c3]
              exact Int.le_refl _
            · omega
          have := Int.mul_le_mul_of_nonneg_left le hp
          omega
      · have e : y.2.1 - x.2.1 = 0 := by omega
        rw [e, Int.mul_zero]
        exact Int.mul_pos (by omega) (by omega)
/-- no rate is left -/
def nr : Option T4 → Option T4 → Bool
  | _, none => false
  | none, some h => decide (h.1 ≤ 0)
  | some l, some h => decide (h.1 ≤ 0) || decide (h.1 * l.2.1 ≤ l.1 * h.2.1)
theorem nr_none {S : T3 → T3 → Prop} {lo up : Option T4} {p q : Int} (hp : 0 ≤ p) (hq : 1 ≤ q) (hl : LoOk S lo) (hu : UpOk S up) (h : nr lo up = true) : ¬ RateIn lo up p q := by
  rintro ⟨h1, h2⟩
  cases up with
  | none => cases lo <;> cases h
  | some z =>
    have dz := hu.den z rfl
    have g2 := h2 z rfl
    have pz : z.1 ≤ 0 → False := fun c => by
      have := Int.mul_le_mul_of_nonneg_right c (show 0 ≤ q by omega)
      have := Int.mul_nonneg hp (show 0 ≤ z.2.1 by omega)
      rw [Int.zero_mul] at *
      omega
    cases lo with
    | none => exact pz (of_decide_eq_true h)
    | some l =>
      have dl := hl.den l rfl
      have g1 := h1 l rfl
      rcases Bool.or_eq_true _ _ ▸ h with h | h
      · exact pz (of_decide_eq_true h)
      · have h : z.1 * l.2.1 ≤ l.1 * z.2.1 := of_decide_eq_true h
        have := frac_lt (by omega : 0 < l.2.1) (by omega : 0 < z.2.1) (by omega : 0 < q) h g1
        omega
def PB (k : Nat) (o : Option T4) : Prop := ∀ z, o = some z → Bd (k + 2) z.1 ∧ Bd (k + 2) z.2.1
def TB (k : Nat) (ls : List T3) : Prop := ∀ x ∈ ls, Bd k x.2.1 ∧ Bd k x.2.2
section
variable {P : Program} {w : World} {K : PySem.W.Frag} {mg : Str → Option Value} {base : Heap}
def spTP : Sp := fun vs H Q _ => ∃ (T A B : Addr) (vl vu : V) (lo up : Option T4) (as bs : List V) (ls hs : List T3) (S : T3 → T3 → Prop) (k : Nat), vs = [.ref T, .ref A, .ref B] ∧ H T = some (.tup [vl, vu]) ∧ PrV H vl lo ∧ PrV H vu up ∧ H A = some (.lst as) ∧ Obs trO H as ls ∧ H B = some (.lst bs) ∧ Obs trO H bs hs ∧
  TB k ls ∧ TB k hs ∧ PB k lo ∧ PB k up ∧ LoOk S lo ∧ UpOk S up ∧ 0 < k ∧ k ≤ 10000 ∧
  ∀ R H' wl wu lo' up', Same H H' → H' R = some (.tup [wl, wu]) → PrV H' wl lo' → PrV H' wu up' → PB k lo' → PB k up' → LoOk (fun x y => S x y ∨ (x ∈ ls ∧ y ∈ hs)) lo' → UpOk (fun x y => S x y ∨ (x ∈ ls ∧ y ∈ hs)) up' → Q (.ref R) H'
abbrev s_tighter_pairs : Stmt := topS 29
abbrev N_tighter_pairs : List Str := ["pairs", "lows", "highs", "lower", "upper", "i", "t", "n", "j", "u", "m", "bottom"]
abbrev P_tighter_pairs : List Str := ["pairs", "lows", "highs"]
theorem sc_tighter_pairs : FnScope N_tighter_pairs P_tighter_pairs (defScope s_tighter_pairs) := ⟨rfl, rfl, rfl, by decide +kernel, rfl, by decide +kernel, by decide +kernel⟩
theorem ok_tighter_pairs (D : Df K mg "tighter_pairs" s_tighter_pairs P_tighter_pairs) (B : Bi mg) : C8.Cal P w K mg base 1 "tighter_pairs" spTP [] := by
  refine cal_of D sc_tighter_pairs (fun vs H Q E h => ?_) (fun f cdv A outer s H vs Q E hr h => ?_)
  · obtain ⟨T, A, B, vl, vu, lo, up, as, bs, ls, hs, S, k, rfl, _⟩ := h
    rfl
  · obtain ⟨T, A', B', vl, vu, lo, up, as, bs, ls, hs, S, k, rfl, eT, pl, pu, eA, oA, eB, oB, tA, tB, bl, bu, hlo, hup, k0, k1, kk⟩ := h
    refine ⟨_, (pss_cons (ps_asg (pv 0) (pg_tup rfl (pgs_cons (pg_name (i := 3) sc_tighter_pairs.nd rfl (Or.inl rfl)) (pgs_cons (pg_name (i := 4) sc_tighter_pairs.nd rfl (Or.inl rfl)) pgs_nil))))
    (pss_cons (ps_for PassesOwn.never rfl (pi_list (pv 1)) (pg_tup rfl (pgs_cons (pg_name (i := 5) sc_tighter_pairs.nd rfl (Or.inl rfl)) (pgs_cons (pg_name (i := 6) sc_tighter_pairs.nd rfl (Or.inl rfl)) (pgs_cons (pg_name (i := 7) sc_tighter_pairs.nd rfl (Or.inl rfl)) pgs_nil))))
      (pss_one (ps_for PassesOwn.never rfl (pi_list (pv 2)) (pg_tup rfl (pgs_cons (pg_name (i := 8) sc_tighter_pairs.nd rfl (Or.inl rfl)) (pgs_cons (pg_name (i := 9) sc_tighter_pairs.nd rfl (Or.inl rfl)) (pgs_cons (pg_name (i := 10) sc_tighter_pairs.nd rfl (Or.inl rfl)) pgs_nil))))
      (pss_one (ps_if (pt_cmpR op_lt (pv 9) (pv 6) (nomark _))
      (pss_one (ps_if (PW.pt (pw_or (pt_cmpR op_isN (pv 3) pe_non (nomark _)) (pw_or1 (pt_cmpR op_gt (pe_op op_mulW (pe_op op_sub (pe_op op_sub (pv 7) (pv 10)) pe_int) (pe_ix (r := rIxT K) ix_tup (pv 3) pe_int (fun _ _ => rfl))) (pe_op op_mulW (pe_ix (r := rIxT K) ix_tup (pv 3) pe_int (fun _ _ => rfl)) (pe_op op_sub (pv 6) (pv 9))) (nomark _)))))
      (pss_one (ps_set (i := 3) sc_tighter_pairs.nd rfl (Or.inl rfl) (pe_tup (pa_cons (pe_op op_sub (pe_op op_sub (pv 7) (pv 10)) pe_int) (pa_cons (pe_op op_sub (pv 6) (pv 9)) (pa_cons (pv 5) (pa_cons (pv 8) pa_nil)))))))
      pss_nil))
      (pss_one (ps_if (PW.pt (pw_or (pt_cmpR op_lt (pv 6) (pv 9) (nomark _)) (pw_or1 (pt_cmpR op_gt (pv 7) (pv 10) (nomark _)))))
      (pss_cons (ps_set (i := 11) sc_tighter_pairs.nd rfl (Or.inl rfl) (pe_callB (call_max2 rfl) (by rfl) B.max_ bt_max (pa_cons pe_int (pa_cons (pe_op op_sub (pv 9) (pv 6)) pa_nil))))
    (pss_one (ps_if (PW.pt (pw_or (pt_cmpR op_isN (pv 4) pe_non (nomark _)) (pw_or1 (pt_cmpR op_lt (pe_op op_mulW (pe_op op_sub (pe_op op_add (pv 10) pe_int) (pv 7)) (pe_ix (r := rIxT K) ix_tup (pv 4) pe_int (fun _ _ => rfl))) (pe_op op_mulW (pe_ix (r := rIxT K) ix_tup (pv 4) pe_int (fun _ _ => rfl)) (pv 11)) (nomark _)))))
      (pss_one (ps_set (i := 4) sc_tighter_pairs.nd rfl (Or.inl rfl) (pe_tup (pa_cons (pe_op op_sub (pe_op op_add (pv 10) pe_int) (pv 7)) (pa_cons (pv 11) (pa_cons (pv 5) (pa_cons (pv 8) pa_nil)))))))
      pss_nil)))
      pss_nil)))))))
    (pss_one (ps_ret (pe_tup (pa_cons (pv 3) (pa_cons (pv 4) pa_nil))))))), ?_⟩
    refine ⟨_, rfl, T, _, rfl, SqT.of eT, rfl, _, _, rfl, _, _, rfl, rfl, ?_⟩
    refine ⟨_, rfl, A', rfl, ⟨_, SqL.of eA⟩, ?_⟩
    refine for_list (K := K) (a := A') (xs := as) (fun i σ H' => ∃ (vl vu : V) (lo up : Option T4) (y5 y6 y7 y8 y9 y10 y11 : Option V), σ = [some (.ref T), some (.ref A'), some (.ref B'), some vl, some vu, y5, y6, y7, y8, y9, y10, y11] ∧ Same H H' ∧ PrV H' vl lo ∧ PrV H' vu up ∧ PB k lo ∧ PB k up ∧ LoOk (fun x y => S x y ∨ (x ∈ ls.take i ∧ y ∈ hs)) lo ∧ UpOk (fun x y => S x y ∨ (x ∈ ls.take i ∧ y ∈ hs)) up) ?_ ?_ ?_ ?_
    · refine ⟨vl, vu, lo, up, _, _, _, _, _, _, _, rfl, Same.refl _, pl, pu, bl, bu, hlo.congr fun x y => ?_, hup.congr fun x y => ?_⟩
      · constructor
        · exact .inl
        · rintro (z | ⟨z, _⟩)
          · exact z
          · cases z
      · constructor
        · exact .inl
        · rintro (z | ⟨z, _⟩)
          · exact z
          · cases z
    · rintro i σ H' _ ⟨_, _, _, _, _, _, _, _, _, _, _, _, s', _⟩
      exact SqL.of (s' _ _ eA)
    · rintro i v σ H1 hv ⟨vl, vu, lo, up, y5, y6, y7, y8, y9, y10, y11, rfl, s1, pl, pu, bl, bu, hlo, hup⟩
      obtain ⟨r, x, rfl, er, hx⟩ := oA.at hv
      have xb := tA x (List.mem_of_getElem? hx)
      refine ⟨r, _, rfl, SqT.of (s1 _ _ er), rfl, _, _, rfl, _, _, rfl, _, _, rfl, rfl, ?_⟩
      refine ⟨_, rfl, B', rfl, ⟨_, SqL.of (s1 _ _ eB)⟩, ?_⟩
      refine for_list (K := K) (a := B') (xs := bs) (fun j σ H' => ∃ (vl vu : V) (lo up : Option T4) (y8 y9 y10 y11 : Option V), σ = [some (.ref T), some (.ref A'), some (.ref B'), some vl, some vu, some (.int x.1), some (.int x.2.1), some (.int x.2.2), y8, y9, y10, y11] ∧ Same H H' ∧ PrV H' vl lo ∧ PrV H' vu up ∧ PB k lo ∧ PB k up ∧ LoOk (fun x' y' => (S x' y' ∨ (x' ∈ ls.take i ∧ y' ∈ hs)) ∨ (x' = x ∧ y' ∈ hs.take j)) lo ∧ UpOk (fun x' y' => (S x' y' ∨ (x' ∈ ls.take i ∧ y' ∈ hs)) ∨ (x' = x ∧ y' ∈ hs.take j)) up) ?_ ?_ ?_ ?_
      · refine ⟨vl, vu, lo, up, _, _, _, _, rfl, s1, pl, pu, bl, bu, hlo.congr fun x y => ?_, hup.congr fun x y => ?_⟩
        · constructor
          · exact .inl
          · rintro (z | ⟨_, z⟩)
            · exact z
            · cases z
        · constructor
          · exact .inl
          · rintro (z | ⟨_, z⟩)
            · exact z
            · cases z
      · rintro j σ H' _ ⟨_, _, _, _, _, _, _, _, _, s', _⟩
        exact SqL.of (s' _ _ eB)
      · clear hlo hup pl pu bl bu vl vu lo up
        rintro j v σ H2 hv ⟨vl, vu, lo, up, y8, y9, y10, y11, rfl, s2, pl, pu, bl, bu, hlo, hup⟩
        obtain ⟨r2, y, rfl, er2, hy⟩ := oB.at hv
        have yb := tB y (List.mem_of_getElem? hy)
        have cg : ∀ x' y', ad (fun x' y' => (S x' y' ∨ (x' ∈ ls.take i ∧ y' ∈ hs)) ∨ (x' = x ∧ y' ∈ hs.take j)) x y x' y' ↔ ((S x' y' ∨ (x' ∈ ls.take i ∧ y' ∈ hs)) ∨ (x' = x ∧ y' ∈ hs.take (j + 1))) := fun x' y' => by
          rw [List.take_add_one, hy]
          constructor
          · rintro ((z | ⟨z1, z2⟩) | ⟨z1, z2⟩)
            · exact .inl z
            · exact .inr ⟨z1, List.mem_append.mpr (.inl z2)⟩
            · exact .inr ⟨z1, List.mem_append.mpr (.inr (List.mem_singleton.mpr z2))⟩
          · rintro (z | ⟨z1, z2⟩)
            · exact .inl (.inl z)
            · rcases List.mem_append.mp z2 with z2 | z2
              · exact .inl (.inr ⟨z1, z2⟩)
              · exact .inr ⟨z1, List.mem_singleton.mp z2⟩
        have hlo' := hlo
        have hup' := hup
        refine ⟨r2, _, rfl, SqT.of (s2 _ _ er2), rfl, _, _, rfl, _, _, rfl, _, _, rfl, rfl, ?_⟩
        have b1 : Bd (k + 2) (x.2.2 - y.2.2 - 1) := Bd.sub (Bd.sub xb.2 yb.2) (Bd.small 1 (by decide) (by omega))
        have b2 : Bd (k + 1) (x.2.1 - y.2.1) := Bd.sub xb.1 yb.1
        have b3 : Bd (k + 2) (y.2.2 + 1 - x.2.2) := Bd.sub (Bd.add yb.2 (Bd.small 1 (by decide) (by omega))) (xb.2.mono (by omega))
        have b4 : Bd (k + 1) (bot x y) := by
          unfold bot
          by_cases h : y.2.1 - x.2.1 > 1
          · rw [if_pos h]
            exact Bd.sub yb.1 xb.1
          · rw [if_neg h]
            exact Bd.small 1 (by decide) (by omega)
        refine ⟨_, rfl, _, rfl, _, _, rfl, rfl, _, rfl, ite2 (fun c => ?_) (fun c => ?_)⟩
        · have c : y.2.1 < x.2.1 := of_decide_eq_true c
          have upS := (hup.skip (x := x) (y := y) (fun z => z.1 c)).congr cg
          cases lo with
          | none =>
            have e : vl = .non := pl
            subst e
            refine ⟨_, rfl, rfl, _, rfl, iteT (iteT ?_)⟩
            refine ⟨_, rfl, _, rfl, _, _, rfl, rfl, _, _, rfl, rfl, _, rfl, _, rfl, _, _, rfl, rfl, _, rfl, _, rfl, len10 (by simp), fun r3 nr3 => ?_⟩
            have z3 := sm_upd (o := t4O (x.2.2 - y.2.2 - 1, x.2.1 - y.2.1, x.1, y.1)) nr3
            exact ⟨_, _, some (x.2.2 - y.2.2 - 1, x.2.1 - y.2.1, x.1, y.1), up, _, _, _, _, rfl, s2.trans z3, ⟨r3, rfl, upd_same⟩, pu.same z3, fun z e => by cases e; exact ⟨b1, b2.mono (by omega)⟩, bu, (hlo.first c).congr cg, upS⟩
          | some z =>
            obtain ⟨rz, rfl, ez⟩ := pl
            obtain ⟨bz1, bz2⟩ := bl z rfl
            refine ⟨_, rfl, rfl, _, rfl, iteF ?_⟩
            refine ⟨_, rfl, _, rfl, _, _, rfl, rfl, _, _, rfl, rfl, _, rfl, rz, _, _, _, rfl, rfl, SqT.of ez, atI_nat (j := 1) rfl, _, _, rfl, rfl, mulW b1 bz2 (by omega) (by omega) (by omega), _, rfl, rz, _, _, _, rfl, rfl, SqT.of ez, atI_nat (j := 0) rfl, _, rfl, _, rfl, _, _, rfl, rfl, _, _, rfl, rfl, mulW bz1 b2 (by omega) (by omega) (by omega), _, _, rfl, rfl, _, rfl, ite2 (fun g => ?_) (fun g => ?_)⟩
            · have g : (x.2.2 - y.2.2 - 1) * z.2.1 > z.1 * (x.2.1 - y.2.1) := of_decide_eq_true g
              refine ⟨_, rfl, _, rfl, _, _, rfl, rfl, _, _, rfl, rfl, _, rfl, _, rfl, _, _, rfl, rfl, _, rfl, _, rfl, len10 (by simp), fun r3 nr3 => ?_⟩
              have z3 := sm_upd (o := t4O (x.2.2 - y.2.2 - 1, x.2.1 - y.2.1, x.1, y.1)) nr3
              exact ⟨_, _, some (x.2.2 - y.2.2 - 1, x.2.1 - y.2.1, x.1, y.1), up, _, _, _, _, rfl, s2.trans z3, ⟨r3, rfl, upd_same⟩, pu.same z3, fun z e => by cases e; exact ⟨b1, b2.mono (by omega)⟩, bu, (hlo.upd c g).congr cg, upS⟩
            · have g : ¬ (x.2.2 - y.2.2 - 1) * z.2.1 > z.1 * (x.2.1 - y.2.1) := fun h => g (decide_eq_true h)
              exact ⟨_, _, some z, up, _, _, _, _, rfl, s2, ⟨rz, rfl, ez⟩, pu, bl, bu, (hlo.keep (by omega)).congr cg, upS⟩
        · have c : ¬ y.2.1 < x.2.1 := fun h => c (decide_eq_true h)
          have loS := (hlo.skip (x := x) (y := y) c).congr cg
          refine ⟨_, rfl, _, rfl, _, _, rfl, rfl, _, rfl, ite2 (fun c1 => iteT ((fun (hu : uc x y) => ?tw1) ⟨c, .inl (of_decide_eq_true c1)⟩)) (fun c1 => ⟨_, rfl, _, rfl, _, _, rfl, rfl, _, rfl, ite2 (fun c2 => (fun (hu : uc x y) => ?tw2) ⟨c, .inr (of_decide_eq_true c2)⟩) (fun c2 => ?_)⟩)⟩
          case tw1 | tw2 =>
            refine ⟨_, rfl, _, rfl, _, _, rfl, rfl, _, _, rfl, ?_⟩
            show gName 11 (.int (bot x y)) _ H2 _
            cases up with
            | none =>
              have e : vu = .non := pu
              subst e
              refine ⟨_, rfl, rfl, _, rfl, iteT (iteT ?_)⟩
              refine ⟨_, rfl, _, _, rfl, rfl, _, rfl, _, _, rfl, rfl, _, rfl, _, rfl, _, rfl, len10 (by simp), fun r3 nr3 => ?_⟩
              have z3 := sm_upd (o := t4O (y.2.2 + 1 - x.2.2, bot x y, x.1, y.1)) nr3
              exact ⟨_, _, lo, some (y.2.2 + 1 - x.2.2, bot x y, x.1, y.1), _, _, _, _, rfl, s2.trans z3, pl.same z3, ⟨r3, rfl, upd_same⟩, bl, fun z e => by cases e; exact ⟨b3, b4.mono (by omega)⟩, loS, (hup.first hu).congr cg⟩
            | some z =>
              obtain ⟨rz, rfl, ez⟩ := pu
              obtain ⟨bz1, bz2⟩ := bu z rfl
              refine ⟨_, rfl, rfl, _, rfl, iteF ?_⟩
              refine ⟨_, rfl, _, _, rfl, rfl, _, rfl, _, _, rfl, rfl, _, rfl, rz, _, _, _, rfl, rfl, SqT.of ez, atI_nat (j := 1) rfl, _, _, rfl, rfl, mulW b3 bz2 (by omega) (by omega) (by omega), _, rfl, rz, _, _, _, rfl, rfl, SqT.of ez, atI_nat (j := 0) rfl, _, rfl, _, _, rfl, rfl, mulW bz1 b4 (by omega) (by omega) (by omega), _, _, rfl, rfl, _, rfl, ite2 (fun g => ?_) (fun g => ?_)⟩
              · have g : (y.2.2 + 1 - x.2.2) * z.2.1 < z.1 * bot x y := of_decide_eq_true g
                refine ⟨_, rfl, _, _, rfl, rfl, _, rfl, _, _, rfl, rfl, _, rfl, _, rfl, _, rfl, len10 (by simp), fun r3 nr3 => ?_⟩
                have z3 := sm_upd (o := t4O (y.2.2 + 1 - x.2.2, bot x y, x.1, y.1)) nr3
                exact ⟨_, _, lo, some (y.2.2 + 1 - x.2.2, bot x y, x.1, y.1), _, _, _, _, rfl, s2.trans z3, pl.same z3, ⟨r3, rfl, upd_same⟩, bl, fun z e => by cases e; exact ⟨b3, b4.mono (by omega)⟩, loS, (hup.upd hu g).congr cg⟩
              · have g : ¬ (y.2.2 + 1 - x.2.2) * z.2.1 < z.1 * bot x y := fun h => g (decide_eq_true h)
                exact ⟨_, _, lo, some z, _, _, _, _, rfl, s2, pl, ⟨rz, rfl, ez⟩, bl, bu, loS, (hup.keep (by omega)).congr cg⟩
          · have nu : ¬ uc x y := fun z => z.2.elim (fun h => c1 (decide_eq_true h)) (fun h => c2 (decide_eq_true h))
            exact ⟨_, _, lo, up, _, _, _, _, rfl, s2, pl, pu, bl, bu, loS, (hup.skip nu).congr cg⟩
      · clear hlo hup pl pu bl bu vl vu lo up
        rintro σ H2 ⟨vl, vu, lo, up, y8, y9, y10, y11, rfl, s2, pl, pu, bl, bu, hlo, hup⟩
        have etk : hs.take bs.length = hs := List.take_of_length_le (by rw [oB.len]; exact Nat.le_refl _)
        rw [etk] at hlo hup
        have cg : ∀ x' y', ((S x' y' ∨ (x' ∈ ls.take i ∧ y' ∈ hs)) ∨ (x' = x ∧ y' ∈ hs)) ↔ (S x' y' ∨ (x' ∈ ls.take (i + 1) ∧ y' ∈ hs)) := fun x' y' => by
          rw [List.take_add_one, hx]
          constructor
          · rintro ((z | ⟨z1, z2⟩) | ⟨z1, z2⟩)
            · exact .inl z
            · exact .inr ⟨List.mem_append.mpr (.inl z1), z2⟩
            · exact .inr ⟨List.mem_append.mpr (.inr (List.mem_singleton.mpr z1)), z2⟩
          · rintro (z | ⟨z1, z2⟩)
            · exact .inl (.inl z)
            · rcases List.mem_append.mp z1 with z1 | z1
              · exact .inl (.inr ⟨z1, z2⟩)
              · exact .inr ⟨List.mem_singleton.mp z1, z2⟩
        exact ⟨vl, vu, lo, up, _, _, _, _, _, _, _, rfl, s2, pl, pu, bl, bu, hlo.congr cg, hup.congr cg⟩
    · clear hlo hup pl pu bl bu eT vl vu lo up
      rintro σ H2 ⟨vl, vu, lo, up, y5, y6, y7, y8, y9, y10, y11, rfl, s2, pl, pu, bl, bu, hlo, hup⟩
      have etk : ls.take as.length = ls := List.take_of_length_le (by rw [oA.len]; exact Nat.le_refl _)
      rw [etk] at hlo hup
      refine ⟨_, rfl, _, rfl, len10 (by simp), fun R nR => ?_⟩
      have z := sm_upd (o := .tup [vl, vu]) nR
      exact kk R _ vl vu lo up (s2.trans z) upd_same (pl.same z) (pu.same z) bl bu hlo hup
end
end Lf
namespace Lf
open PySem PySem.Spec PyProof.Rows L2
def EndV (H : Hp) (k : Nat) (v : V) : Option (Int × Int) → Prop
  | none => v = .non
  | some e => ∃ a, v = .ref a ∧ H a = some (tup2 e.1 e.2) ∧ Rt k e.1 e.2
def OkE : Option (Int × Int) → Option (Int × Int) → Prop
  | some l, some h => l.1 * h.2 < h.1 * l.2
  | none, some h => 0 < h.1
  | _, none => True
def ResE : Option (Int × Int) → Option (Int × Int) → Int → Int → Prop
  | none, _, N, D => N = 0 ∧ D = 1
  | some l, some h, N, D => Sim l.1 l.2 h.1 h.2 N D
  | some l, none, N, D => Sim l.1 l.2 1 0 N D
section
variable {P : Program} {w : World} {K : PySem.W.Frag} {mg : Str → Option Value} {base : Heap}
def spSB : Sp := fun vs H Q _ => ∃ (v1 v2 : V) (e1 e2 : Option (Int × Int)) (k : Nat), vs = [v1, v2] ∧ EndV H k v1 e1 ∧ EndV H k v2 e2 ∧ OkE e1 e2 ∧ 0 < k ∧ k ≤ 1998 ∧
  ∀ r H' N D, Same H H' → H r = none → H' r = some (tup2 N D) → ResE e1 e2 N D → Bd (k + 1) N → Bd (k + 1) D → Q (.ref r) H'
abbrev s_simplest_between : Stmt := topS 19
abbrev N_simplest_between : List Str := ["low", "high", "p", "q"]
abbrev P_simplest_between : List Str := ["low", "high"]
theorem sc_simplest_between : FnScope N_simplest_between P_simplest_between (defScope s_simplest_between) := ⟨rfl, rfl, rfl, by decide +kernel, rfl, by decide +kernel, by decide +kernel⟩
theorem okA_simplest_between (D : Df K mg "simplest_between" s_simplest_between P_simplest_between) (c_check_rate : C8.Cal P w K mg base 3 "check_rate" spCheckRate []) (c_simplest_inside : C8.Cal P w K mg base 1 "simplest_inside" spInside []) : CalF P w K mg base 4 "simplest_between" s_simplest_between P_simplest_between spSB := by
  refine calF_of D sc_simplest_between (fun vs H Q E h => ?_) (fun f cdv A outer s H vs Q E hr h => ?_)
  · obtain ⟨v1, v2, e1, e2, k, rfl, _⟩ := h
    rfl
  · obtain ⟨v1, v2, e1, e2, k, rfl, g1, g2, ok, k0, k3, kk⟩ := h
    refine ⟨_, (pss_cons (ps_if (pt_cmpR op_notN (pv 0) pe_non (nomark _))
      (pss_one (ps_expr (C8.pe_c c_check_rate hr (by decide) (by rfl) (pa_cons (pv 0) pa_nil))))
      pss_nil)
    (pss_cons (ps_if (pt_cmpR op_notN (pv 1) pe_non (nomark _))
      (pss_cons (ps_expr (C8.pe_c c_check_rate hr (by decide) (by rfl) (pa_cons (pv 1) pa_nil)))
    (pss_cons (ps_asg (pe_ifExp (pt_cmpR op_isN (pv 0) pe_non (nomark _)) (pe_tup (pa_cons pe_int (pa_cons pe_int pa_nil))) (pv 0)) (pg_tup rfl (pgs_cons (pg_name (i := 2) sc_simplest_between.nd rfl (Or.inl rfl)) (pgs_cons (pg_name (i := 3) sc_simplest_between.nd rfl (Or.inl rfl)) pgs_nil))))
    (pss_one (ps_if (pt_cmpR op_le (pe_op op_mulW (pe_ix (r := rIxT K) ix_tup (pv 1) pe_int (fun _ _ => rfl)) (pv 3)) (pe_op op_mulW (pv 2) (pe_ix (r := rIxT K) ix_tup (pv 1) pe_int (fun _ _ => rfl))) (nomark _))
      (pss_one ps_never)
      pss_nil))))
      pss_nil)
    (pss_cons (ps_if (pt_cmpR op_isN (pv 0) pe_non (nomark _))
      (pss_one (ps_ret (pe_tup (pa_cons pe_int (pa_cons pe_int pa_nil)))))
      pss_nil)
    (pss_one (ps_ret (C8.pe_c c_simplest_inside hr (by decide) (by rfl) (pa_cons (pv 0) (pa_cons (pe_ifExp (pt_cmpR op_isN (pv 1) pe_non (nomark _)) (pe_tup (pa_cons pe_int (pa_cons pe_int pa_nil))) (pv 1)) pa_nil)))))))), ?_⟩
    match e1, e2, g1, g2, ok, kk with
    | none, none, g1, g2, ok, kk =>
      have h1 : v1 = .non := g1
      have h2 : v2 = .non := g2
      subst h1 h2
      refine ⟨_, rfl, rfl, _, rfl, iteF ?_⟩
      refine ⟨_, rfl, rfl, _, rfl, iteF ?_⟩
      refine ⟨_, rfl, rfl, _, rfl, iteT ?_⟩
      refine ⟨len10 (by simp), fun r nr => ?_⟩
      exact kk r _ 0 1 (sm_upd nr) nr upd_same ⟨rfl, rfl⟩ (Bd.small 1 (by decide) (by omega)) (Bd.small 1 (by decide) (by omega))
    | none, some (t, b), g1, ⟨h, h2, eh, R⟩, ok, kk =>
      have h1 : v1 = .non := g1
      subst h1 h2
      have eh : H h = some (tup2 t b) := eh
      have ok : 0 < t := ok
      refine ⟨_, rfl, rfl, _, rfl, iteF ?_⟩
      refine ⟨_, rfl, rfl, _, rfl, iteT ?_⟩
      refine ⟨_, rfl, h, t, b, k, rfl, eh, R, ?_⟩
      refine ⟨_, rfl, rfl, _, rfl, iteT ?_⟩
      refine ⟨len10 (by simp), fun z nz => ⟨z, _, rfl, SqT.of upd_same, rfl, _, _, rfl, _, _, rfl, rfl, ?_⟩⟩
      have s1 : Same H (upd H z (tup2 0 1)) := sm_upd nz
      have eh1 := s1 _ _ eh
      refine ⟨_, rfl, h, _, _, _, rfl, rfl, SqT.of eh1, atI_nat (j := 0) rfl, _, rfl, _, _, rfl, rfl, mulW R.bp (Bd.small 1 (by decide) (Nat.le_refl 1)) k0 (by decide) (by omega), _, rfl, _, rfl, h, _, _, _, rfl, rfl, SqT.of eh1, atI_nat (j := 1) rfl, _, _, rfl, rfl, mulW (Bd.small 1 (by decide) (Nat.le_refl 1)) R.bq (by decide) k0 (by omega), _, _, rfl, rfl, _, rfl, iteDn (by omega) ?_⟩
      refine ⟨_, rfl, rfl, _, rfl, iteT ?_⟩
      refine ⟨len10 (by simp), fun r nr => ?_⟩
      refine kk r _ 0 1 (s1.trans (sm_upd nr)) ?_ upd_same ⟨rfl, rfl⟩ (Bd.small 1 (by decide) (by omega)) (Bd.small 1 (by decide) (by omega))
      cases zz : H r with
      | none => rfl
      | some o =>
        rw [s1 _ _ zz] at nr
        cases nr
    | some (p, q), none, ⟨l, h1, el, R⟩, g2, ok, kk =>
      have h2 : v2 = .non := g2
      subst h1 h2
      have el : H l = some (tup2 p q) := el
      refine ⟨_, rfl, rfl, _, rfl, iteT ?_⟩
      refine ⟨_, rfl, l, p, q, k, rfl, el, R, ?_⟩
      refine ⟨_, rfl, rfl, _, rfl, iteF ?_⟩
      refine ⟨_, rfl, rfl, _, rfl, iteF ?_⟩
      refine ⟨_, rfl, _, rfl, rfl, _, rfl, iteT ?_⟩
      refine ⟨len10 (by simp), fun z nz => ?_⟩
      have s1 : Same H (upd H z (tup2 1 0)) := sm_upd nz
      refine ⟨l, z, p, q, 1, 0, k, rfl, s1 _ _ el, upd_same, ⟨R.p0, R.q1, by decide, by have := R.q1; omega, R.bp, R.bq, Bd.small 1 (by decide) (by omega), Bd.small 1 (by decide) (by omega)⟩, k0, by omega, fun r H' N D s2 nr er S b1 b2 => ?_⟩
      refine kk r H' N D (s1.trans s2) ?_ er S b1 b2
      cases zz : H r with
      | none => rfl
      | some o =>
        rw [s1 _ _ zz] at nr
        cases nr
    | some (p, q), some (t, b), ⟨l, h1, el, R⟩, ⟨h, h2, eh, R2⟩, ok, kk =>
      subst h1 h2
      have el : H l = some (tup2 p q) := el
      have eh : H h = some (tup2 t b) := eh
      have ok : p * b < t * q := ok
      refine ⟨_, rfl, rfl, _, rfl, iteT ?_⟩
      refine ⟨_, rfl, l, p, q, k, rfl, el, R, ?_⟩
      refine ⟨_, rfl, rfl, _, rfl, iteT ?_⟩
      refine ⟨_, rfl, h, t, b, k, rfl, eh, R2, ?_⟩
      refine ⟨_, rfl, rfl, _, rfl, iteF ?_⟩
      refine ⟨_, rfl, l, _, rfl, SqT.of el, rfl, _, _, rfl, _, _, rfl, rfl, ?_⟩
      refine ⟨_, rfl, h, _, _, _, rfl, rfl, SqT.of eh, atI_nat (j := 0) rfl, _, rfl, _, _, rfl, rfl, mulW R2.bp R.bq k0 k0 (by omega), _, rfl, _, rfl, h, _, _, _, rfl, rfl, SqT.of eh, atI_nat (j := 1) rfl, _, _, rfl, rfl, mulW R.bp R2.bq k0 k0 (by omega), _, _, rfl, rfl, _, rfl, iteDn (by omega) ?_⟩
      refine ⟨_, rfl, rfl, _, rfl, iteF ?_⟩
      refine ⟨_, rfl, _, rfl, rfl, _, rfl, iteF ?_⟩
      refine ⟨_, rfl, l, h, p, q, t, b, k, rfl, el, eh, ⟨R.p0, R.q1, by have := R2.q1; omega, ok, R.bp, R.bq, R2.bp, R2.bq⟩, k0, by omega, fun r H' N D s2 nr er S b1 b2 => kk r H' N D s2 nr er S b1 b2⟩
theorem ok_simplest_between (cA_simplest_between : CalF P w K mg base 4 "simplest_between" s_simplest_between P_simplest_between spSB) : C8.Cal P w K mg base 4 "simplest_between" spSB [] := by
  exact cA_simplest_between.cal
end
end Lf
namespace Lf
open PySem PySem.Spec PyProof.Rows L2
def SD (ds : List Rec) : T3 → T3 → Prop := fun x y => x ∈ sel true 0 ds ∧ y ∈ sel false 0 ds
theorem sel_tb {k : Nat} {b : Bool} {ds : List Rec} (h : RcB k ds) : TB k (sel b 0 ds) := fun _ hx => sel_bd h hx
theorem EndV.sm {H H' : Hp} {k : Nat} {v : V} {e : Option (Int × Int)} (h : EndV H k v e) (s : Same H H') : EndV H' k v e := by
  match e, h with
  | none, h => exact h
  | some e, ⟨a, h1, h2, h3⟩ => exact ⟨a, h1, s _ _ h2, h3⟩
theorem EndV.fr {H H' : Hp} {k : Nat} {v : V} {e : Option (Int × Int)} (h : EndV H k v e) (s : Fr H H') : EndV H' k v e := by
  match e, h with
  | none, h => exact h
  | some e, ⟨a, h1, h2, h3⟩ => exact ⟨a, h1, s.t _ _ h2, h3⟩
theorem redRt {k : Nat} {x y : Int} (h0 : 0 ≤ x) (h1 : 1 ≤ y) (bx : Bd k x) (by_ : Bd k y) : Rt k (x / (Int.gcd x y : Int)) (y / (Int.gcd x y : Int)) := by
  have g := gcd_pos (p := x) h1
  refine ⟨Int.ediv_nonneg h0 (by omega), ?_, ?_, bx.ediv g, by_.ediv g⟩
  · have := Int.ediv_le_ediv g (gcd_le (p := x) h1)
    rw [Int.ediv_self (by omega)] at this
    exact this
  · exact Int.gcd_ediv_gcd_ediv_gcd (by omega)
def redE (z : T4) : Int × Int := (z.1 / (Int.gcd z.1 z.2.1 : Int), z.2.1 / (Int.gcd z.1 z.2.1 : Int))
def lowE : Option T4 → Option (Int × Int)
  | none => none
  | some z => if z.1 < 0 then none else some (redE z)
def highE : Option T4 → Option (Int × Int)
  | none => none
  | some z => some (redE z)
theorem red_lt_iff {z : T4} {p q : Int} (d : 1 ≤ z.2.1) : ((redE z).1 * q < p * (redE z).2 ↔ z.1 * q < p * z.2.1) ∧ (p * (redE z).2 < (redE z).1 * q ↔ p * z.2.1 < z.1 * q) := by
  have g := gcd_pos (p := z.1) d
  have e1 : (Int.gcd z.1 z.2.1 : Int) * (z.1 / (Int.gcd z.1 z.2.1 : Int)) = z.1 := Int.mul_ediv_cancel' (Int.gcd_dvd_left ..)
  have e2 : (Int.gcd z.1 z.2.1 : Int) * (z.2.1 / (Int.gcd z.1 z.2.1 : Int)) = z.2.1 := Int.mul_ediv_cancel' (Int.gcd_dvd_right ..)
  unfold redE
  dsimp only
  generalize (Int.gcd z.1 z.2.1 : Int) = gg at *
  generalize z.1 / gg = a at *
  generalize z.2.1 / gg = b at *
  rw [← e1, ← e2]
  have h1 : gg * a * q = gg * (a * q) := by grind
  have h2 : p * (gg * b) = gg * (p * b) := by grind
  rw [h1, h2]
  constructor
  · exact ⟨fun h => Int.mul_lt_mul_of_pos_left h g, fun h => Int.lt_of_mul_lt_mul_left h (Int.le_of_lt g)⟩
  · exact ⟨fun h => Int.mul_lt_mul_of_pos_left h g, fun h => Int.lt_of_mul_lt_mul_left h (Int.le_of_lt g)⟩
/-- strictly between the ends that rates gives -/
def Ins (e1 e2 : Option (Int × Int)) (p q : Int) : Prop := (∀ z, e1 = some z → z.1 * q < p * z.2) ∧ ∀ z, e2 = some z → p * z.2 < z.1 * q
theorem ins_iff {S : T3 → T3 → Prop} {lo up : Option T4} {p q : Int} (hp : 0 ≤ p) (hq : 1 ≤ q) (hl : LoOk S lo) (hu : UpOk S up) : Ins (lowE lo) (highE up) p q ↔ RateIn lo up p q := by
  unfold Ins RateIn
  constructor
  · rintro ⟨h1, h2⟩
    constructor
    · rintro z rfl
      have d := hl.den z rfl
      by_cases c : z.1 < 0
      · have := Int.mul_neg_of_neg_of_pos c (show 0 < q by omega)
        have := Int.mul_nonneg hp (show 0 ≤ z.2.1 by omega)
        omega
      · exact (red_lt_iff d).1.mp (h1 _ (by show (if z.1 < 0 then none else some (redE z)) = _; rw [if_neg c]))
    · rintro z rfl
      exact (red_lt_iff (hu.den z rfl)).2.mp (h2 _ rfl)
  · rintro ⟨h1, h2⟩
    constructor
    · intro z e
      cases lo with
      | none => cases e
      | some y =>
        have e : (if y.1 < 0 then none else some (redE y)) = some z := e
        by_cases c : y.1 < 0
        · rw [if_pos c] at e
          cases e
        · rw [if_neg c] at e
          cases e
          exact (red_lt_iff (hl.den y rfl)).1.mpr (h1 y rfl)
    · intro z e
      cases up with
      | none => cases e
      | some y =>
        cases e
        exact (red_lt_iff (hu.den y rfl)).2.mpr (h2 y rfl)
/-- the phases are there just where all pairs leave room -/
theorem ph_iff {p q : Int} {ds : List Rec} {a b : Option Int} (ha : IsMx (lph p q ds) a) (hb : IsMn (hph p q ds) b) : okPh a b = true ↔ ∀ x y, SD ds x y → p * (y.2.1 - x.2.1) < (y.2.2 + 1 - x.2.2) * q := by
  have key : ∀ x y : T3, (x.2.2 * q - p * x.2.1 ≤ (y.2.2 + 1) * q - p * y.2.1 - 1) ↔ p * (y.2.1 - x.2.1) < (y.2.2 + 1 - x.2.2) * q := fun x y => by
    rw [Int.mul_sub, Int.sub_mul (y.2.2 + 1)]
    omega
  constructor
  · intro h x y ⟨hx, hy⟩
    rw [← key]
    have mx : x.2.2 * q - p * x.2.1 ∈ lph p q ds := List.mem_map.mpr ⟨x, hx, rfl⟩
    have my : (y.2.2 + 1) * q - p * y.2.1 - 1 ∈ hph p q ds := List.mem_map.mpr ⟨y, hy, rfl⟩
    cases a with
    | none =>
      rw [show lph p q ds = [] from ha] at mx
      cases mx
    | some v =>
      cases b with
      | none =>
        rw [show hph p q ds = [] from hb] at my
        cases my
      | some u =>
        have h : v ≤ u := of_decide_eq_true h
        have := ha.2 _ mx
        have := hb.2 _ my
        omega
  · intro h
    cases a with
    | none => rfl
    | some v =>
      cases b with
      | none => rfl
      | some u =>
        obtain ⟨x, hx, ex⟩ := List.mem_map.mp ha.1
        obtain ⟨y, hy, ey⟩ := List.mem_map.mp hb.1
        refine decide_eq_true ?_
        rw [← ex, ← ey]
        exact (key x y).mpr (h x y ⟨hx, hy⟩)
section
variable {P : Program} {w : World} {K : PySem.W.Frag} {mg : Str → Option Value} {base : Heap}
def spRedR : Sp := fun vs H Q _ => ∃ (p q : Int), vs = [.int p, .int q] ∧ 0 ≤ p ∧ 1 ≤ q ∧ Bd 9000 q ∧
  ∀ r H', Same H H' → H r = none → H' r = some (tup2 (p / (Int.gcd p q : Int)) (q / (Int.gcd p q : Int))) → Q (.ref r) H'
abbrev s_reduce_rate : Stmt := topS 18
abbrev N_reduce_rate : List Str := ["p", "q", "divisor"]
abbrev P_reduce_rate : List Str := ["p", "q"]
theorem sc_reduce_rate : FnScope N_reduce_rate P_reduce_rate (defScope s_reduce_rate) := ⟨rfl, rfl, rfl, by decide +kernel, rfl, by decide +kernel, by decide +kernel⟩
theorem ok_reduce_rate (D : Df K mg "reduce_rate" s_reduce_rate P_reduce_rate) (c_gcd : C8.Cal P w K mg base 1 "gcd" spGcd []) : C8.Cal P w K mg base 2 "reduce_rate" spRedR [] := by
  refine cal_of D sc_reduce_rate (fun vs H Q E h => ?_) (fun f cdv A outer s H vs Q E hr h => ?_)
  · obtain ⟨p, q, rfl, _⟩ := h
    rfl
  · obtain ⟨p, q, rfl, hp, hq, hb, k⟩ := h
    refine ⟨_, (pss_cons (ps_set (i := 2) sc_reduce_rate.nd rfl (Or.inl rfl) (C8.pe_c c_gcd hr (by decide) (by rfl) (pa_cons (pv 0) (pa_cons (pv 1) pa_nil))))
    (pss_one (ps_ret (pe_tup (pa_cons (pe_op op_fdivW (pv 0) (pv 2)) (pa_cons (pe_op op_fdivW (pv 1) (pv 2)) pa_nil)))))), ?_⟩
    have hg := gcd_pos (p := p) hq
    have hd : CDivW 0 (Int.gcd p q : Int) := ⟨hg, (hb.between (by omega) (gcd_le hq)).log (by decide)⟩
    refine ⟨_, rfl, _, rfl, p, q, rfl, hp, by omega, ?_⟩
    refine ⟨_, rfl, _, rfl, _, _, rfl, rfl, hd, _, rfl, _, rfl, _, _, rfl, rfl, hd, len10 (by simp), fun r nr => ?_⟩
    exact k r _ (sm_upd nr) nr upd_same
def spTight : Sp := fun vs H Q _ => ∃ (L : Addr) (xs : List V) (ds : List Rec) (k : Nat), vs = [.ref L] ∧ H L = some (.lst xs) ∧ Obs rcO H xs ds ∧ ds.length ≤ 1000 ∧ RcB k ds ∧ 0 < k ∧ k ≤ 8000 ∧
  ∀ R H' wl wu lo up, Same H H' → H' R = some (.tup [wl, wu]) → PrV H' wl lo → PrV H' wu up → PB k lo → PB k up → LoOk (SD ds) lo → UpOk (SD ds) up → Q (.ref R) H'
abbrev s_tight_pairs : Stmt := topS 28
abbrev N_tight_pairs : List Str := ["records", "lows", "highs"]
abbrev P_tight_pairs : List Str := ["records"]
theorem sc_tight_pairs : FnScope N_tight_pairs P_tight_pairs (defScope s_tight_pairs) := ⟨rfl, rfl, rfl, by decide +kernel, rfl, by decide +kernel, by decide +kernel⟩
theorem ok_tight_pairs (D : Df K mg "tight_pairs" s_tight_pairs P_tight_pairs) (c_split_records : C8.Cal P w K mg base 1 "split_records" spSplit []) (c_tighter_pairs : C8.Cal P w K mg base 1 "tighter_pairs" spTP []) : C8.Cal P w K mg base 2 "tight_pairs" spTight [] := by
  refine cal_of D sc_tight_pairs (fun vs H Q E h => ?_) (fun f cdv A outer s H vs Q E hr h => ?_)
  · obtain ⟨L, xs, ds, k, rfl, _⟩ := h
    rfl
  · obtain ⟨L, xs, ds, k, rfl, eL, hO, hl, bd, k0, k1, kk⟩ := h
    refine ⟨_, (pss_cons (ps_asg (C8.pe_c c_split_records hr (by decide) (by rfl) (pa_cons (pv 0) pa_nil)) (pg_tup rfl (pgs_cons (pg_name (i := 1) sc_tight_pairs.nd rfl (Or.inl rfl)) (pgs_cons (pg_name (i := 2) sc_tight_pairs.nd rfl (Or.inl rfl)) pgs_nil))))
    (pss_one (ps_ret (C8.pe_c c_tighter_pairs hr (by decide) (by rfl) (pa_cons (pe_tup (pa_cons pe_non (pa_cons pe_non pa_nil))) (pa_cons (pv 1) (pa_cons (pv 2) pa_nil))))))), ?_⟩
    refine ⟨_, rfl, L, xs, ds, rfl, eL, hO, hl, fun T H1 A' B' as bs s1 eT eA oA eB oB => ?_⟩
    refine ⟨T, _, rfl, SqT.of eT, rfl, _, _, rfl, _, _, rfl, rfl, ?_⟩
    refine ⟨len10 (by simp), fun N nN => ?_⟩
    have z := sm_upd (o := .tup [.non, .non]) nN
    have nf : ∀ x y : T3, (False ∨ x ∈ sel true 0 ds ∧ y ∈ sel false 0 ds) ↔ SD ds x y := fun x y => ⟨fun h => h.elim False.elim id, .inr⟩
    refine ⟨_, rfl, _, rfl, N, A', B', .non, .non, none, none, as, bs, _, _, fun _ _ => False, k, rfl, upd_same, rfl, rfl, z _ _ eA, oA.same z, z _ _ eB, oB.same z, sel_tb bd, sel_tb bd, fun _ h => (nomatch h), fun _ h => (nomatch h), fun _ _ h => h.elim, fun _ _ h => h.elim, k0, by omega, fun R H2 wl wu lo up s2 eR pl pu bl bu hl hu => ?_⟩
    exact kk R H2 wl wu lo up ((s1.trans z).trans s2) eR pl pu bl bu (hl.congr nf) (hu.congr nf)
def spLNR : Sp := fun vs H Q _ => ∃ (R : Addr) (wl wu : V) (lo up : Option T4) (k : Nat), vs = [.ref R] ∧ H R = some (.tup [wl, wu]) ∧ PrV H wl lo ∧ PrV H wu up ∧ PB k lo ∧ PB k up ∧ k ≤ 10000 ∧ Q (.bl (nr lo up)) H
abbrev s_leave_no_rate : Stmt := topS 30
abbrev N_leave_no_rate : List Str := ["pairs", "lower", "upper"]
abbrev P_leave_no_rate : List Str := ["pairs"]
theorem sc_leave_no_rate : FnScope N_leave_no_rate P_leave_no_rate (defScope s_leave_no_rate) := ⟨rfl, rfl, rfl, by decide +kernel, rfl, by decide +kernel, by decide +kernel⟩
theorem ok_leave_no_rate (D : Df K mg "leave_no_rate" s_leave_no_rate P_leave_no_rate) : C8.Cal P w K mg base 1 "leave_no_rate" spLNR [] := by
  refine cal_of D sc_leave_no_rate (fun vs H Q E h => ?_) (fun f cdv A outer s H vs Q E hr h => ?_)
  · obtain ⟨R, wl, wu, lo, up, k, rfl, _⟩ := h
    rfl
  · obtain ⟨R, wl, wu, lo, up, k, rfl, eR, pl, pu, bl, bu, k1, kk⟩ := h
    refine ⟨_, (pss_cons (ps_asg (pv 0) (pg_tup rfl (pgs_cons (pg_name (i := 1) sc_leave_no_rate.nd rfl (Or.inl rfl)) (pgs_cons (pg_name (i := 2) sc_leave_no_rate.nd rfl (Or.inl rfl)) pgs_nil))))
    (pss_cons (ps_if (pt_cmpR op_isN (pv 2) pe_non (nomark _))
      (pss_one (ps_ret pe_bl))
      pss_nil)
    (pss_one (ps_ret (pe_or (pe_cmpR op_le (pe_ix (r := rIxT K) ix_tup (pv 2) pe_int (fun _ _ => rfl)) pe_int (nomark _)) (pe_one (pe_and (pe_cmpR op_notN (pv 1) pe_non (nomark _)) (pe_one (pe_cmpR op_ge (pe_op op_mulW (pe_ix (r := rIxT K) ix_tup (pv 1) pe_int (fun _ _ => rfl)) (pe_ix (r := rIxT K) ix_tup (pv 2) pe_int (fun _ _ => rfl))) (pe_op op_mulW (pe_ix (r := rIxT K) ix_tup (pv 2) pe_int (fun _ _ => rfl)) (pe_ix (r := rIxT K) ix_tup (pv 1) pe_int (fun _ _ => rfl))) (nomark _)))))))))), ?_⟩
    refine ⟨_, rfl, R, _, rfl, SqT.of eR, rfl, _, _, rfl, _, _, rfl, rfl, ?_⟩
    cases up with
    | none =>
      have e : wu = .non := pu
      subst e
      have kk : Q (.bl false) H := by
        cases lo <;> exact kk
      exact ⟨_, rfl, rfl, _, rfl, iteT kk⟩
    | some z =>
      obtain ⟨rz, rfl, ez⟩ := pu
      obtain ⟨b1, b2⟩ := bu z rfl
      refine ⟨_, rfl, rfl, _, rfl, iteF ?_⟩
      refine ⟨_, rfl, rz, _, _, _, rfl, rfl, SqT.of ez, atI_nat (j := 0) rfl, _, _, rfl, rfl, _, rfl, ?_⟩
      cases lo with
      | none =>
        have e : wl = .non := pl
        subst e
        refine ite2 (fun c => ?_) (fun c => ?_)
        · have kk : Q (.bl (decide (z.1 ≤ 0))) H := kk
          rw [c] at kk
          exact kk
        · refine ⟨_, rfl, rfl, _, rfl, iteF ?_⟩
          have kk : Q (.bl (decide (z.1 ≤ 0))) H := kk
          rw [bool_f c] at kk
          exact kk
      | some l =>
        obtain ⟨rl, rfl, el⟩ := pl
        obtain ⟨b3, b4⟩ := bl l rfl
        have kk : Q (.bl (decide (z.1 ≤ 0) || decide (z.1 * l.2.1 ≤ l.1 * z.2.1))) H := kk
        refine ite2 (fun c => ?_) (fun c => ?_)
        · rw [c] at kk
          exact kk
        · rw [bool_f c] at kk
          refine ⟨_, rfl, rfl, _, rfl, iteT ?_⟩
          exact ⟨_, rfl, rl, _, _, _, rfl, rfl, SqT.of el, atI_nat (j := 0) rfl, _, rfl, rz, _, _, _, rfl, rfl, SqT.of ez, atI_nat (j := 1) rfl, _, _, rfl, rfl, mulW b3 b2 (by omega) (by omega) (by omega), _, rfl, rz, _, _, _, rfl, rfl, SqT.of ez, atI_nat (j := 0) rfl, _, rfl, rl, _, _, _, rfl, rfl, SqT.of el, atI_nat (j := 1) rfl, _, _, rfl, rfl, mulW b1 b4 (by omega) (by omega) (by omega), _, _, rfl, rfl, kk⟩
/-- what rate_ends gives -/
def RV (H : Hp) (k : Nat) (v : V) (lo up : Option T4) : Prop := (nr lo up = true ∧ v = .non) ∨ (nr lo up = false ∧ ∃ T a b, v = .ref T ∧ H T = some (.tup [a, b]) ∧ EndV H (k + 2) a (lowE lo) ∧ EndV H (k + 2) b (highE up))
def spRateEnds (m : Nat) : Sp := fun vs H Q _ => ∃ (L : Addr) (xs : List V) (ds : List Rec) (k : Nat), vs = [.ref L] ∧ H L = some (.lst xs) ∧ Obs rcO H xs ds ∧ ds.length ≤ m ∧ RcB k ds ∧ 0 < k ∧ k ≤ 8000 ∧
  ∀ H' v lo up, Same H H' → LoOk (SD ds) lo → UpOk (SD ds) up → PB k lo → PB k up → RV H' k v lo up → Q v H'
abbrev s_rate_ends : Stmt := topS 31
abbrev N_rate_ends : List Str := ["records", "pairs", "lower", "upper", "low", "high"]
abbrev P_rate_ends : List Str := ["records"]
theorem sc_rate_ends : FnScope N_rate_ends P_rate_ends (defScope s_rate_ends) := ⟨rfl, rfl, rfl, by decide +kernel, rfl, by decide +kernel, by decide +kernel⟩
theorem ok_rate_ends (D : Df K mg "rate_ends" s_rate_ends P_rate_ends) (c_tight_pairs : C8.Cal P w K mg base 2 "tight_pairs" spTight []) (c_leave_no_rate : C8.Cal P w K mg base 1 "leave_no_rate" spLNR []) (c_reduce_rate : C8.Cal P w K mg base 2 "reduce_rate" spRedR []) : C8.Cal P w K mg base 3 "rate_ends" (spRateEnds 1000) [] := by
  refine cal_of D sc_rate_ends (fun vs H Q E h => ?_) (fun f cdv A outer s H vs Q E hr h => ?_)
  · obtain ⟨L, xs, ds, k, rfl, _⟩ := h
    rfl
  · obtain ⟨L, xs, ds, k, rfl, eL, hO, hl, bd, k0, k1, kk⟩ := h
    refine ⟨_, (pss_cons (ps_set (i := 1) sc_rate_ends.nd rfl (Or.inl rfl) (C8.pe_c c_tight_pairs hr (by decide) (by rfl) (pa_cons (pv 0) pa_nil)))
    (pss_cons (ps_if (pt_val (C8.pe_c c_leave_no_rate hr (by decide) (by rfl) (pa_cons (pv 1) pa_nil)))
      (pss_one (ps_ret pe_non))
      pss_nil)
    (pss_cons (ps_asg (pv 1) (pg_tup rfl (pgs_cons (pg_name (i := 2) sc_rate_ends.nd rfl (Or.inl rfl)) (pgs_cons (pg_name (i := 3) sc_rate_ends.nd rfl (Or.inl rfl)) pgs_nil))))
    (C8.pss_cut (ps_set (i := 4) sc_rate_ends.nd rfl (Or.inl rfl) (pe_ifExp (PW.pt (pw_or (pt_cmpR op_isN (pv 2) pe_non (nomark _)) (pw_or1 (pt_cmpR op_lt (pe_ix (r := rIxT K) ix_tup (pv 2) pe_int (fun _ _ => rfl)) pe_int (nomark _))))) pe_non (C8.pe_c c_reduce_rate hr (by decide) (by rfl) (pa_cons (pe_ix (r := rIxT K) ix_tup (pv 2) pe_int (fun _ _ => rfl)) (pa_cons (pe_ix (r := rIxT K) ix_tup (pv 2) pe_int (fun _ _ => rfl)) pa_nil)))))
    (C8.pss_cut (ps_set (i := 5) sc_rate_ends.nd rfl (Or.inl rfl) (pe_ifExp (pt_cmpR op_isN (pv 3) pe_non (nomark _)) pe_non (C8.pe_c c_reduce_rate hr (by decide) (by rfl) (pa_cons (pe_ix (r := rIxT K) ix_tup (pv 3) pe_int (fun _ _ => rfl)) (pa_cons (pe_ix (r := rIxT K) ix_tup (pv 3) pe_int (fun _ _ => rfl)) pa_nil)))))
    (pss_one (ps_ret (pe_tup (pa_cons (pv 4) (pa_cons (pv 5) pa_nil)))))))))), ?_⟩
    refine ⟨_, rfl, L, xs, ds, k, rfl, eL, hO, hl, bd, k0, k1, fun R H1 wl wu lo up s1 eR pl pu bl bu hlo hup => ?_⟩
    refine ⟨_, rfl, R, wl, wu, lo, up, k, rfl, eR, pl, pu, bl, bu, by omega, ?_⟩
    refine ⟨_, rfl, ?_⟩
    cases hn : nr lo up with
    | true =>
      refine iteT ?_
      exact kk _ _ lo up s1 hlo hup bl bu (.inl ⟨hn, rfl⟩)
    | false =>
      refine iteF ?_
      refine ⟨_, rfl, R, _, rfl, SqT.of eR, rfl, _, _, rfl, _, _, rfl, rfl, ?_⟩
      refine ⟨fun σ' H' => ∃ va, σ' = [some (.ref L), some (.ref R), some wl, some wu, some va, none] ∧ Same H1 H' ∧ EndV H' (k + 2) va (lowE lo), ?_, ?_⟩
      · cases lo with
        | none =>
          have e : wl = .non := pl
          subst e
          refine ⟨_, rfl, rfl, _, rfl, iteT (iteT ?_)⟩
          exact ⟨_, rfl, Same.refl _, rfl⟩
        | some z =>
          obtain ⟨rz, rfl, ez⟩ := pl
          obtain ⟨b1, b2⟩ := bl z rfl
          have dz := hlo.den z rfl
          refine ⟨_, rfl, rfl, _, rfl, iteF ?_⟩
          refine ⟨_, rfl, rz, _, _, _, rfl, rfl, SqT.of ez, atI_nat (j := 0) rfl, _, _, rfl, rfl, _, rfl, ite2 (fun c => ?_) (fun c => ?_)⟩
          · have c : z.1 < 0 := of_decide_eq_true c
            refine ⟨_, rfl, Same.refl _, ?_⟩
            show EndV H1 (k + 2) .non (if z.1 < 0 then none else some (redE z))
            rw [if_pos c]
            rfl
          · have c : ¬ z.1 < 0 := fun h => c (decide_eq_true h)
            refine ⟨_, rfl, rz, _, _, _, rfl, rfl, SqT.of ez, atI_nat (j := 0) rfl, _, rfl, rz, _, _, _, rfl, rfl, SqT.of ez, atI_nat (j := 1) rfl, z.1, z.2.1, rfl, by omega, dz, b2.mono (by omega), fun r H2 s2 nr er => ?_⟩
            refine ⟨_, rfl, s2, ?_⟩
            show EndV H2 (k + 2) (.ref r) (if z.1 < 0 then none else some (redE z))
            rw [if_neg c]
            exact ⟨r, rfl, er, redRt (by omega) dz b1 b2⟩
      rintro σ H2 ⟨va, rfl, s2, hva⟩
      refine ⟨fun σ' H' => ∃ vb, σ' = [some (.ref L), some (.ref R), some wl, some wu, some va, some vb] ∧ Same H2 H' ∧ EndV H' (k + 2) vb (highE up), ?_, ?_⟩
      · cases up with
        | none =>
          have e : wu = .non := pu
          subst e
          refine ⟨_, rfl, rfl, _, rfl, iteT ?_⟩
          exact ⟨_, rfl, Same.refl _, rfl⟩
        | some z =>
          obtain ⟨rz, rfl, ez⟩ := pu
          have ez := s2 _ _ ez
          obtain ⟨b1, b2⟩ := bu z rfl
          have dz := hup.den z rfl
          have pz : 0 < z.1 := by
            rcases Int.lt_or_le 0 z.1 with h | h
            · exact h
            · exfalso
              cases lo with
              | none =>
                have hn : decide (z.1 ≤ 0) = false := hn
                rw [decide_eq_true h] at hn
                cases hn
              | some l =>
                have hn : (decide (z.1 ≤ 0) || decide (z.1 * l.2.1 ≤ l.1 * z.2.1)) = false := hn
                rw [decide_eq_true h] at hn
                cases hn
          refine ⟨_, rfl, rfl, _, rfl, iteF ?_⟩
          refine ⟨_, rfl, rz, _, _, _, rfl, rfl, SqT.of ez, atI_nat (j := 0) rfl, _, rfl, rz, _, _, _, rfl, rfl, SqT.of ez, atI_nat (j := 1) rfl, z.1, z.2.1, rfl, by omega, dz, b2.mono (by omega), fun r H3 s3 nr er => ?_⟩
          exact ⟨_, rfl, s3, r, rfl, er, redRt (by omega) dz b1 b2⟩
      rintro σ H3 ⟨vb, rfl, s3, hvb⟩
      refine ⟨_, rfl, _, rfl, len10 (by simp), fun T nT => ?_⟩
      have z := sm_upd (o := .tup [va, vb]) nT
      exact kk _ _ lo up (((s1.trans s2).trans s3).trans z) hlo hup bl bu (.inr ⟨hn, T, va, vb, rfl, upd_same, (hva.sm s3).sm z, hvb.sm z⟩)
end
end Lf
namespace Lf
open PySem PySem.Spec PyProof.Rows L2
section
variable {P : Program} {w : World} {K : PySem.W.Frag} {mg : Str → Option Value} {base : Heap} {C : Addr}
def spTightS : Sp := fun vs H Q _ => ∃ (L : Addr) (kb : Bool) (xs : List V) (ds : List Rec) (k : Nat), vs = [.ref L] ∧ H L = some (sqO kb xs) ∧ Obs rcO H xs ds ∧ ds.length ≤ 1000 ∧ RcB k ds ∧ 0 < k ∧ k ≤ 8000 ∧
  ∀ R H' wl wu lo up, Same H H' → H' R = some (.tup [wl, wu]) → PrV H' wl lo → PrV H' wu up → PB k lo → PB k up → LoOk (SD ds) lo → UpOk (SD ds) up → Q (.ref R) H'
theorem okS_tight_pairs (D : Df K mg "tight_pairs" s_tight_pairs P_tight_pairs) (c_split_records : C8.Cal P w K mg base 1 "split_records" spSplitS []) (c_tighter_pairs : C8.Cal P w K mg base 1 "tighter_pairs" spTP []) : C8.Cal P w K mg base 2 "tight_pairs" spTightS [] := by
  refine cal_of D sc_tight_pairs (fun vs H Q E h => ?_) (fun f cdv A outer s H vs Q E hr h => ?_)
  · obtain ⟨L, kb, xs, ds, k, rfl, _⟩ := h
    rfl
  · obtain ⟨L, kb, xs, ds, k, rfl, eL, hO, hl, bd, k0, k1, kk⟩ := h
    refine ⟨_, (pss_cons (ps_asg (C8.pe_c c_split_records hr (by decide) (by rfl) (pa_cons (pv 0) pa_nil)) (pg_tup rfl (pgs_cons (pg_name (i := 1) sc_tight_pairs.nd rfl (Or.inl rfl)) (pgs_cons (pg_name (i := 2) sc_tight_pairs.nd rfl (Or.inl rfl)) pgs_nil))))
    (pss_one (ps_ret (C8.pe_c c_tighter_pairs hr (by decide) (by rfl) (pa_cons (pe_tup (pa_cons pe_non (pa_cons pe_non pa_nil))) (pa_cons (pv 1) (pa_cons (pv 2) pa_nil))))))), ?_⟩
    refine ⟨_, rfl, L, kb, xs, ds, rfl, eL, hO, hl, fun T H1 A' B' as bs s1 eT eA oA eB oB => ?_⟩
    refine ⟨T, _, rfl, SqT.of eT, rfl, _, _, rfl, _, _, rfl, rfl, ?_⟩
    refine ⟨len10 (by simp), fun N nN => ?_⟩
    have z := sm_upd (o := .tup [.non, .non]) nN
    have nf : ∀ x y : T3, (False ∨ x ∈ sel true 0 ds ∧ y ∈ sel false 0 ds) ↔ SD ds x y := fun x y => ⟨fun h => h.elim False.elim id, .inr⟩
    refine ⟨_, rfl, _, rfl, N, A', B', .non, .non, none, none, as, bs, _, _, fun _ _ => False, k, rfl, upd_same, rfl, rfl, z _ _ eA, oA.same z, z _ _ eB, oB.same z, sel_tb bd, sel_tb bd, fun _ h => (nomatch h), fun _ h => (nomatch h), fun _ _ h => h.elim, fun _ _ h => h.elim, k0, by omega, fun R H2 wl wu lo up s2 eR pl pu bl bu hl hu => ?_⟩
    exact kk R H2 wl wu lo up ((s1.trans z).trans s2) eR pl pu bl bu (hl.congr nf) (hu.congr nf)
def spRateEndsS (m : Nat) : Sp := fun vs H Q _ => ∃ (L : Addr) (kb : Bool) (xs : List V) (ds : List Rec) (k : Nat), vs = [.ref L] ∧ H L = some (sqO kb xs) ∧ Obs rcO H xs ds ∧ ds.length ≤ m ∧ RcB k ds ∧ 0 < k ∧ k ≤ 8000 ∧
  ∀ H' v lo up, Same H H' → LoOk (SD ds) lo → UpOk (SD ds) up → PB k lo → PB k up → RV H' k v lo up → Q v H'
theorem okS_rate_ends (D : Df K mg "rate_ends" s_rate_ends P_rate_ends) (c_tight_pairs : C8.Cal P w K mg base 2 "tight_pairs" spTightS []) (c_leave_no_rate : C8.Cal P w K mg base 1 "leave_no_rate" spLNR []) (c_reduce_rate : C8.Cal P w K mg base 2 "reduce_rate" spRedR []) : C8.Cal P w K mg base 3 "rate_ends" (spRateEndsS 1000) [] := by
  refine cal_of D sc_rate_ends (fun vs H Q E h => ?_) (fun f cdv A outer s H vs Q E hr h => ?_)
  · obtain ⟨L, kb, xs, ds, k, rfl, _⟩ := h
    rfl
  · obtain ⟨L, kb, xs, ds, k, rfl, eL, hO, hl, bd, k0, k1, kk⟩ := h
    refine ⟨_, (pss_cons (ps_set (i := 1) sc_rate_ends.nd rfl (Or.inl rfl) (C8.pe_c c_tight_pairs hr (by decide) (by rfl) (pa_cons (pv 0) pa_nil)))
    (pss_cons (ps_if (pt_val (C8.pe_c c_leave_no_rate hr (by decide) (by rfl) (pa_cons (pv 1) pa_nil)))
      (pss_one (ps_ret pe_non))
      pss_nil)
    (pss_cons (ps_asg (pv 1) (pg_tup rfl (pgs_cons (pg_name (i := 2) sc_rate_ends.nd rfl (Or.inl rfl)) (pgs_cons (pg_name (i := 3) sc_rate_ends.nd rfl (Or.inl rfl)) pgs_nil))))
    (C8.pss_cut (ps_set (i := 4) sc_rate_ends.nd rfl (Or.inl rfl) (pe_ifExp (PW.pt (pw_or (pt_cmpR op_isN (pv 2) pe_non (nomark _)) (pw_or1 (pt_cmpR op_lt (pe_ix (r := rIxT K) ix_tup (pv 2) pe_int (fun _ _ => rfl)) pe_int (nomark _))))) pe_non (C8.pe_c c_reduce_rate hr (by decide) (by rfl) (pa_cons (pe_ix (r := rIxT K) ix_tup (pv 2) pe_int (fun _ _ => rfl)) (pa_cons (pe_ix (r := rIxT K) ix_tup (pv 2) pe_int (fun _ _ => rfl)) pa_nil)))))
    (C8.pss_cut (ps_set (i := 5) sc_rate_ends.nd rfl (Or.inl rfl) (pe_ifExp (pt_cmpR op_isN (pv 3) pe_non (nomark _)) pe_non (C8.pe_c c_reduce_rate hr (by decide) (by rfl) (pa_cons (pe_ix (r := rIxT K) ix_tup (pv 3) pe_int (fun _ _ => rfl)) (pa_cons (pe_ix (r := rIxT K) ix_tup (pv 3) pe_int (fun _ _ => rfl)) pa_nil)))))
    (pss_one (ps_ret (pe_tup (pa_cons (pv 4) (pa_cons (pv 5) pa_nil)))))))))), ?_⟩
    refine ⟨_, rfl, L, kb, xs, ds, k, rfl, eL, hO, hl, bd, k0, k1, fun R H1 wl wu lo up s1 eR pl pu bl bu hlo hup => ?_⟩
    refine ⟨_, rfl, R, wl, wu, lo, up, k, rfl, eR, pl, pu, bl, bu, by omega, ?_⟩
    refine ⟨_, rfl, ?_⟩
    cases hn : nr lo up with
    | true =>
      refine iteT ?_
      exact kk _ _ lo up s1 hlo hup bl bu (.inl ⟨hn, rfl⟩)
    | false =>
      refine iteF ?_
      refine ⟨_, rfl, R, _, rfl, SqT.of eR, rfl, _, _, rfl, _, _, rfl, rfl, ?_⟩
      refine ⟨fun σ' H' => ∃ va, σ' = [some (.ref L), some (.ref R), some wl, some wu, some va, none] ∧ Same H1 H' ∧ EndV H' (k + 2) va (lowE lo), ?_, ?_⟩
      · cases lo with
        | none =>
          have e : wl = .non := pl
          subst e
          refine ⟨_, rfl, rfl, _, rfl, iteT (iteT ?_)⟩
          exact ⟨_, rfl, Same.refl _, rfl⟩
        | some z =>
          obtain ⟨rz, rfl, ez⟩ := pl
          obtain ⟨b1, b2⟩ := bl z rfl
          have dz := hlo.den z rfl
          refine ⟨_, rfl, rfl, _, rfl, iteF ?_⟩
          refine ⟨_, rfl, rz, _, _, _, rfl, rfl, SqT.of ez, atI_nat (j := 0) rfl, _, _, rfl, rfl, _, rfl, ite2 (fun c => ?_) (fun c => ?_)⟩
          · have c : z.1 < 0 := of_decide_eq_true c
            refine ⟨_, rfl, Same.refl _, ?_⟩
            show EndV H1 (k + 2) .non (if z.1 < 0 then none else some (redE z))
            rw [if_pos c]
            rfl
          · have c : ¬ z.1 < 0 := fun h => c (decide_eq_true h)
            refine ⟨_, rfl, rz, _, _, _, rfl, rfl, SqT.of ez, atI_nat (j := 0) rfl, _, rfl, rz, _, _, _, rfl, rfl, SqT.of ez, atI_nat (j := 1) rfl, z.1, z.2.1, rfl, by omega, dz, b2.mono (by omega), fun r H2 s2 nr er => ?_⟩
            refine ⟨_, rfl, s2, ?_⟩
            show EndV H2 (k + 2) (.ref r) (if z.1 < 0 then none else some (redE z))
            rw [if_neg c]
            exact ⟨r, rfl, er, redRt (by omega) dz b1 b2⟩
      rintro σ H2 ⟨va, rfl, s2, hva⟩
      refine ⟨fun σ' H' => ∃ vb, σ' = [some (.ref L), some (.ref R), some wl, some wu, some va, some vb] ∧ Same H2 H' ∧ EndV H' (k + 2) vb (highE up), ?_, ?_⟩
      · cases up with
        | none =>
          have e : wu = .non := pu
          subst e
          refine ⟨_, rfl, rfl, _, rfl, iteT ?_⟩
          exact ⟨_, rfl, Same.refl _, rfl⟩
        | some z =>
          obtain ⟨rz, rfl, ez⟩ := pu
          have ez := s2 _ _ ez
          obtain ⟨b1, b2⟩ := bu z rfl
          have dz := hup.den z rfl
          have pz : 0 < z.1 := by
            rcases Int.lt_or_le 0 z.1 with h | h
            · exact h
            · exfalso
              cases lo with
              | none =>
                have hn : decide (z.1 ≤ 0) = false := hn
                rw [decide_eq_true h] at hn
                cases hn
              | some l =>
                have hn : (decide (z.1 ≤ 0) || decide (z.1 * l.2.1 ≤ l.1 * z.2.1)) = false := hn
                rw [decide_eq_true h] at hn
                cases hn
          refine ⟨_, rfl, rfl, _, rfl, iteF ?_⟩
          refine ⟨_, rfl, rz, _, _, _, rfl, rfl, SqT.of ez, atI_nat (j := 0) rfl, _, rfl, rz, _, _, _, rfl, rfl, SqT.of ez, atI_nat (j := 1) rfl, z.1, z.2.1, rfl, by omega, dz, b2.mono (by omega), fun r H3 s3 nr er => ?_⟩
          exact ⟨_, rfl, s3, r, rfl, er, redRt (by omega) dz b1 b2⟩
      rintro σ H3 ⟨vb, rfl, s3, hvb⟩
      refine ⟨_, rfl, _, rfl, len10 (by simp), fun T nT => ?_⟩
      have z := sm_upd (o := .tup [va, vb]) nT
      exact kk _ _ lo up (((s1.trans s2).trans s3).trans z) hlo hup bl bu (.inr ⟨hn, T, va, vb, rfl, upd_same, (hva.sm s3).sm z, hvb.sm z⟩)
def spRatesX (C : Addr) : Sp := fun vs H _ E => ∃ (v : V) (j : Int), vs = [v] ∧ CkBad H v j ∧ ∀ H', Same H H' → OutY C "index" (.int j) H' E
end
end Lf
namespace Lf
open PySem PySem.Spec PyProof.Rows L2
/-! ### the bounds of the rates are the same however the pairs are listed -/
theorem cop_dvd {a b c d : Int} (g1 : Int.gcd a b = 1) (e : a * d = c * b) : b ∣ d := by
  have n1 : b.natAbs ∣ a.natAbs * d.natAbs := by
    rw [← Int.natAbs_mul, e]
    exact Int.natAbs_dvd_natAbs.mpr (Int.dvd_mul_left c b)
  have n2 : Nat.Coprime b.natAbs a.natAbs := by
    unfold Nat.Coprime
    rw [Nat.gcd_comm]
    exact g1
  exact Int.natAbs_dvd_natAbs.mp (Nat.Coprime.dvd_of_dvd_mul_left n2 n1)
theorem cop_uniq {a b c d : Int} (hb : 1 ≤ b) (hd : 1 ≤ d) (g1 : Int.gcd a b = 1) (g2 : Int.gcd c d = 1) (e : a * d = c * b) : a = c ∧ b = d := by
  have h1 := Int.le_of_dvd (by omega) (cop_dvd g1 e)
  have h2 := Int.le_of_dvd (by omega) (cop_dvd g2 e.symm)
  have h3 : b = d := by omega
  subst h3
  exact ⟨Int.eq_of_mul_eq_mul_right (by omega) e, rfl⟩
theorem red_eq {z z' : T4} (d : 1 ≤ z.2.1) (d' : 1 ≤ z'.2.1) (e : z.1 * z'.2.1 = z'.1 * z.2.1) : redE z = redE z' := by
  have g := gcd_pos (p := z.1) d
  have g' := gcd_pos (p := z'.1) d'
  have e1 : (Int.gcd z.1 z.2.1 : Int) * (z.1 / (Int.gcd z.1 z.2.1 : Int)) = z.1 := Int.mul_ediv_cancel' (Int.gcd_dvd_left ..)
  have e2 : (Int.gcd z.1 z.2.1 : Int) * (z.2.1 / (Int.gcd z.1 z.2.1 : Int)) = z.2.1 := Int.mul_ediv_cancel' (Int.gcd_dvd_right ..)
  have e3 : (Int.gcd z'.1 z'.2.1 : Int) * (z'.1 / (Int.gcd z'.1 z'.2.1 : Int)) = z'.1 := Int.mul_ediv_cancel' (Int.gcd_dvd_left ..)
  have e4 : (Int.gcd z'.1 z'.2.1 : Int) * (z'.2.1 / (Int.gcd z'.1 z'.2.1 : Int)) = z'.2.1 := Int.mul_ediv_cancel' (Int.gcd_dvd_right ..)
  have c1 : Int.gcd (z.1 / (Int.gcd z.1 z.2.1 : Int)) (z.2.1 / (Int.gcd z.1 z.2.1 : Int)) = 1 := Int.gcd_ediv_gcd_ediv_gcd (by omega)
  have c2 : Int.gcd (z'.1 / (Int.gcd z'.1 z'.2.1 : Int)) (z'.2.1 / (Int.gcd z'.1 z'.2.1 : Int)) = 1 := Int.gcd_ediv_gcd_ediv_gcd (by omega)
  show (z.1 / (Int.gcd z.1 z.2.1 : Int), z.2.1 / (Int.gcd z.1 z.2.1 : Int)) = (z'.1 / (Int.gcd z'.1 z'.2.1 : Int), z'.2.1 / (Int.gcd z'.1 z'.2.1 : Int))
  generalize z.1 / (Int.gcd z.1 z.2.1 : Int) = a at *
  generalize z.2.1 / (Int.gcd z.1 z.2.1 : Int) = b at *
  generalize z'.1 / (Int.gcd z'.1 z'.2.1 : Int) = c at *
  generalize z'.2.1 / (Int.gcd z'.1 z'.2.1 : Int) = f at *
  generalize (Int.gcd z.1 z.2.1 : Int) = G at *
  generalize (Int.gcd z'.1 z'.2.1 : Int) = G' at *
  have hb : 1 ≤ b := by
    have : 0 < b * G := by
      rw [Int.mul_comm]
      omega
    have := pos_of_mul this (by omega)
    omega
  have hf : 1 ≤ f := by
    have : 0 < f * G' := by
      rw [Int.mul_comm]
      omega
    have := pos_of_mul this (by omega)
    omega
  have key : a * f = c * b := by
    have h1 : (a * f) * (G * G') = (c * b) * (G * G') := by
      have h2 : (a * f) * (G * G') = (G * a) * (G' * f) := by grind
      have h3 : (c * b) * (G * G') = (G' * c) * (G * b) := by grind
      rw [h2, h3, e1, e2, e3, e4]
      exact e
    exact Int.eq_of_mul_eq_mul_right (by have := Int.mul_pos (show 0 < G by omega) (show 0 < G' by omega); omega) h1
  obtain ⟨h1, h2⟩ := cop_uniq hb hf c1 c2 key
  rw [h1, h2]
def Cov (S S' : T3 → T3 → Prop) : Prop := ∀ x y, S x y → ∃ x' y', S' x' y' ∧ x'.2 = x.2 ∧ y'.2 = y.2
def SameF : Option T4 → Option T4 → Prop
  | none, none => True
  | some z, some z' => z.1 * z'.2.1 = z'.1 * z.2.1 ∧ 1 ≤ z.2.1 ∧ 1 ≤ z'.2.1
  | _, _ => False
theorem bot_congr {x y x' y' : T3} (e1 : x'.2 = x.2) (e2 : y'.2 = y.2) : bot x' y' = bot x y := by
  unfold bot
  rw [e1, e2]
theorem uc_congr {x y x' y' : T3} (e1 : x'.2 = x.2) (e2 : y'.2 = y.2) (h : uc x y) : uc x' y' := by
  unfold uc at *
  rw [e1, e2]
  exact h
theorem lo_same {S S' : T3 → T3 → Prop} {lo lo' : Option T4} (h : LoOk S lo) (h' : LoOk S' lo') (c : Cov S S') (c' : Cov S' S) : SameF lo lo' := by
  cases lo with
  | none =>
    cases lo' with
    | none => trivial
    | some z' =>
      obtain ⟨⟨x, y, s, g, _⟩, _⟩ := h'
      obtain ⟨x', y', s', e1, e2⟩ := c' x y s
      exact absurd (by rw [e1, e2]; exact g) (h x' y' s')
  | some z =>
    cases lo' with
    | none =>
      obtain ⟨⟨x, y, s, g, _⟩, _⟩ := h
      obtain ⟨x', y', s', e1, e2⟩ := c x y s
      exact absurd (by rw [e1, e2]; exact g) (h' x' y' s')
    | some z' =>
      have d := h.den z rfl
      have d' := h'.den z' rfl
      obtain ⟨⟨x, y, s, g, rfl⟩, m⟩ := h
      obtain ⟨⟨u, v, s', g', rfl⟩, m'⟩ := h'
      obtain ⟨x1, y1, s1, e1, e2⟩ := c x y s
      obtain ⟨u1, v1, s2, e3, e4⟩ := c' u v s'
      have q1 := m' x1 y1 s1 (by rw [e1, e2]; exact g)
      have q2 := m u1 v1 s2 (by rw [e3, e4]; exact g')
      rw [e1, e2] at q1
      rw [e3, e4] at q2
      exact ⟨by show (x.2.2 - y.2.2 - 1) * (u.2.1 - v.2.1) = (u.2.2 - v.2.2 - 1) * (x.2.1 - y.2.1); exact Int.le_antisymm q1 q2, d, d'⟩
theorem up_same {S S' : T3 → T3 → Prop} {up up' : Option T4} (h : UpOk S up) (h' : UpOk S' up') (c : Cov S S') (c' : Cov S' S) : SameF up up' := by
  cases up with
  | none =>
    cases up' with
    | none => trivial
    | some z' =>
      obtain ⟨⟨x, y, s, g, _⟩, _⟩ := h'
      obtain ⟨x', y', s', e1, e2⟩ := c' x y s
      exact absurd (uc_congr e1 e2 g) (h x' y' s')
  | some z =>
    cases up' with
    | none =>
      obtain ⟨⟨x, y, s, g, _⟩, _⟩ := h
      obtain ⟨x', y', s', e1, e2⟩ := c x y s
      exact absurd (uc_congr e1 e2 g) (h' x' y' s')
    | some z' =>
      have d := h.den z rfl
      have d' := h'.den z' rfl
      obtain ⟨⟨x, y, s, g, rfl⟩, m⟩ := h
      obtain ⟨⟨u, v, s', g', rfl⟩, m'⟩ := h'
      obtain ⟨x1, y1, s1, e1, e2⟩ := c x y s
      obtain ⟨u1, v1, s2, e3, e4⟩ := c' u v s'
      have q1 := m' x1 y1 s1 (uc_congr e1 e2 g)
      have q2 := m u1 v1 s2 (uc_congr e3 e4 g')
      rw [bot_congr e1 e2, e1, e2] at q1
      rw [bot_congr e3 e4, e3, e4] at q2
      exact ⟨by show (y.2.2 + 1 - x.2.2) * bot u v = (v.2.2 + 1 - u.2.2) * bot x y; exact Int.le_antisymm q2 q1, d, d'⟩
theorem nonneg_iff {a b c d : Int} (hb : 1 ≤ b) (hd : 1 ≤ d) (e : a * d = c * b) : (a < 0 ↔ c < 0) ∧ (a ≤ 0 ↔ c ≤ 0) := by
  have p1 : a < 0 ↔ a * d < 0 := ⟨fun h => Int.mul_neg_of_neg_of_pos h (by omega), fun h => by
    rcases Int.lt_or_le a 0 with z | z
    · exact z
    · have := Int.mul_nonneg z (show 0 ≤ d by omega)
      omega⟩
  have p2 : c < 0 ↔ c * b < 0 := ⟨fun h => Int.mul_neg_of_neg_of_pos h (by omega), fun h => by
    rcases Int.lt_or_le c 0 with z | z
    · exact z
    · have := Int.mul_nonneg z (show 0 ≤ b by omega)
      omega⟩
  have p3 : 0 < a ↔ 0 < a * d := ⟨fun h => Int.mul_pos h (by omega), fun h => pos_of_mul h (by omega)⟩
  have p4 : 0 < c ↔ 0 < c * b := ⟨fun h => Int.mul_pos h (by omega), fun h => pos_of_mul h (by omega)⟩
  omega
theorem lowE_same {lo lo' : Option T4} (h : SameF lo lo') : lowE lo = lowE lo' := by
  cases lo with
  | none =>
    cases lo' with
    | none => rfl
    | some z => exact h.elim
  | some z =>
    cases lo' with
    | none => exact h.elim
    | some z' =>
      obtain ⟨e, d, d'⟩ := h
      have n := (nonneg_iff d d' e).1
      show (if z.1 < 0 then none else some (redE z)) = (if z'.1 < 0 then none else some (redE z'))
      rw [red_eq d d' e]
      by_cases c : z.1 < 0
      · rw [if_pos c, if_pos (n.mp c)]
      · rw [if_neg c, if_neg (fun q => c (n.mpr q))]
theorem highE_same {up up' : Option T4} (h : SameF up up') : highE up = highE up' := by
  cases up with
  | none =>
    cases up' with
    | none => rfl
    | some z => exact h.elim
  | some z =>
    cases up' with
    | none => exact h.elim
    | some z' =>
      obtain ⟨e, d, d'⟩ := h
      show some (redE z) = some (redE z')
      rw [red_eq d d' e]
theorem le_frac {a b c d a' b' c' d' : Int} (hb : 1 ≤ b) (hd : 1 ≤ d) (hb' : 1 ≤ b') (hd' : 1 ≤ d') (e1 : a * b' = a' * b) (e2 : c * d' = c' * d) (h : a * d ≤ c * b) : a' * d' ≤ c' * b' := by
  have h1 := Int.mul_le_mul_of_nonneg_right h (show 0 ≤ b' * d' by have := Int.mul_pos (show 0 < b' by omega) (show 0 < d' by omega); omega)
  have h2 : a * d * (b' * d') = (a' * d') * (b * d) := by
    have : a * d * (b' * d') = (a * b') * (d * d') := by grind
    rw [this, e1]
    grind
  have h3 : c * b * (b' * d') = (c' * b') * (b * d) := by
    have : c * b * (b' * d') = (c * d') * (b * b') := by grind
    rw [this, e2]
    grind
  rw [h2, h3] at h1
  exact Int.le_of_mul_le_mul_right h1 (Int.mul_pos (by omega) (by omega))
theorem nr_same {lo lo' up up' : Option T4} (h : SameF lo lo') (h2 : SameF up up') : nr lo up = nr lo' up' := by
  cases up with
  | none =>
    cases up' with
    | none => cases lo <;> cases lo' <;> rfl
    | some z => exact h2.elim
  | some z =>
    cases up' with
    | none => exact h2.elim
    | some z' =>
      obtain ⟨e, d, d'⟩ := h2
      have n := (nonneg_iff d d' e).2
      have n' : decide (z.1 ≤ 0) = decide (z'.1 ≤ 0) := decide_eq_decide.mpr n
      cases lo with
      | none =>
        cases lo' with
        | none => exact n'
        | some l => exact h.elim
      | some l =>
        cases lo' with
        | none => exact h.elim
        | some l' =>
          obtain ⟨e0, f, f'⟩ := h
          show (decide (z.1 ≤ 0) || decide (z.1 * l.2.1 ≤ l.1 * z.2.1)) = (decide (z'.1 ≤ 0) || decide (z'.1 * l'.2.1 ≤ l'.1 * z'.2.1))
          rw [n', decide_eq_decide.mpr (⟨fun q => le_frac d f d' f' e e0 q, fun q => le_frac d' f' d f e.symm e0.symm q⟩ : z.1 * l.2.1 ≤ l.1 * z.2.1 ↔ z'.1 * l'.2.1 ≤ l'.1 * z'.2.1)]
theorem nr_zero {S : T3 → T3 → Prop} {lo up : Option T4} {x y : T3} (hu : UpOk S up) (s : S x y) (e1 : x.2.1 = y.2.1) (e2 : y.2.2 + 1 - x.2.2 ≤ 0) : nr lo up = true := by
  have u : uc x y := ⟨by omega, .inr (by omega)⟩
  cases up with
  | none => exact absurd u (hu x y s)
  | some z =>
    have d := hu.den z rfl
    have h := hu.2 x y s u
    have b := bot_pos x y
    have h2 := Int.mul_le_mul_of_nonneg_right e2 (show 0 ≤ z.2.1 by omega)
    rw [Int.zero_mul] at h2
    have le : z.1 ≤ 0 := by
      rcases Int.lt_or_le 0 z.1 with g | g
      · have := Int.mul_pos g (show 0 < bot x y by omega)
        omega
      · exact g
    cases lo with
    | none => exact decide_eq_true le
    | some l =>
      show (decide (z.1 ≤ 0) || _) = true
      rw [decide_eq_true le]
      rfl
/-- what rates gives, as data -/
def endD : Option (Int × Int) → PyData
  | none => .none
  | some e => .tuple [.int e.1, .int e.2]
def resD (lo up : Option T4) : PyData := if nr lo up = true then .none else .tuple [endD (lowE lo), endD (highE up)]
theorem end_dv {H : Hp} {k : Nat} {v : V} {e : Option (Int × Int)} (h : EndV H k v e) : Dv H v (endD e) := by
  cases e with
  | none =>
    have h : v = .non := h
    subst h
    exact .non
  | some e =>
    obtain ⟨a, rfl, ea, _⟩ := h
    exact .tup ea (.cons (.int _) (.cons (.int _) .nil))
theorem show_end {H : Hp} {k : Nat} {v : V} {e : Option (Int × Int)} (hk : k ≤ 1900) (h : EndV H k v e) : (endD e).showable = true ∧ (endD e).depth ≤ 1 ∧ (endD e).shown.length ≤ 10000 := by
  cases e with
  | none => exact ⟨rfl, by decide, by decide +kernel⟩
  | some e =>
    obtain ⟨a, _, _, r⟩ := h
    have bp := r.bp
    have bq := r.bq
    have g1 : e.1.natAbs.log2 < 1920 := (bp.mono (show k ≤ 1920 by omega)).log (by decide)
    have g2 : e.2.natAbs.log2 < 1920 := (bq.mono (show k ≤ 1920 by omega)).log (by decide)
    have l1 := PyProof.Rows.int_text_len_1921 g1
    have l2 := PyProof.Rows.int_text_len_1921 g2
    refine ⟨by simp [endD, PyData.showable, PyData.showableAll, g1, g2], by show 1 ≤ 1; decide, ?_⟩
    have := tupleText_len_le (PyData.shownAll [.int e.1, .int e.2])
    show (tupleText (PyData.shownAll [.int e.1, .int e.2])).length ≤ 10000
    have q : ((PyData.shownAll [.int e.1, .int e.2]).map (·.length)).sum = (toString e.1 : Str).length + ((toString e.2 : Str).length + 0) := rfl
    have q2 : (PyData.shownAll [.int e.1, .int e.2]).length = 2 := rfl
    rw [q, q2] at this
    omega
theorem rv_dv {H : Hp} {k : Nat} {v : V} {lo up : Option T4} (hk : k ≤ 1800) (h : RV H k v lo up) : Dv H v (resD lo up) ∧ (resD lo up).showable = true ∧ (resD lo up).depth ≤ 60 ∧ (resD lo up).shown.length ≤ sizeLine := by
  unfold resD
  rcases h with ⟨e, rfl⟩ | ⟨e, T, a, b, rfl, eT, h1, h2⟩
  · rw [if_pos e]
    exact ⟨.non, rfl, by decide, by rw [sizeLine_eq]; decide +kernel⟩
  · rw [if_neg (by rw [e]; exact Bool.false_ne_true)]
    obtain ⟨s1, d1, l1⟩ := show_end (show k + 2 ≤ 1900 by omega) h1
    obtain ⟨s2, d2, l2⟩ := show_end (show k + 2 ≤ 1900 by omega) h2
    refine ⟨.tup eT (.cons (end_dv h1) (.cons (end_dv h2) .nil)), ?_, ?_, ?_⟩
    · simp [PyData.showable, PyData.showableAll, s1, s2]
    · simp only [PyData.depth, PyData.depthAll]
      omega
    · have := tupleText_len_le (PyData.shownAll [endD (lowE lo), endD (highE up)])
      show (tupleText (PyData.shownAll [endD (lowE lo), endD (highE up)])).length ≤ sizeLine
      have q : ((PyData.shownAll [endD (lowE lo), endD (highE up)]).map (·.length)).sum = (endD (lowE lo)).shown.length + ((endD (highE up)).shown.length + 0) := rfl
      have q2 : (PyData.shownAll [endD (lowE lo), endD (highE up)]).length = 2 := rfl
      rw [q, q2] at this
      rw [sizeLine_eq]
      omega
end Lf
namespace Lf
open PySem PySem.Spec PyProof.Rows L2
section
variable {P : Program} {w : World} {K : PySem.W.Frag} {mg : Str → Option Value} {base : Heap} {C CV : Addr}
def spPhES : Sp := fun vs H Q _ => ∃ (L rt : Addr) (kb : Bool) (xs : List V) (ds : List Rec) (p q : Int) (k : Nat), vs = [.ref L, .ref rt] ∧ H L = some (sqO kb xs) ∧ Obs rcO H xs ds ∧ ds.length ≤ 1000 ∧ H rt = some (tup2 p q) ∧ RcB k ds ∧ Bd k p ∧ Bd k q ∧ 0 < k ∧ k ≤ 100000 ∧
  ∀ T H' a b, Same H H' → H T = none → H' T = some (.tup [oV a, oV b]) → IsMx (lph p q ds) a → IsMn (hph p q ds) b → Q (.ref T) H'
abbrev s_phase_ends : Stmt := topS 32
abbrev N_phase_ends : List Str := ["records", "rate", "p", "q", "lows", "highs", "least", "greatest", "i", "t", "n", "j", "u", "m"]
abbrev P_phase_ends : List Str := ["records", "rate"]
theorem sc_phase_ends : FnScope N_phase_ends P_phase_ends (defScope s_phase_ends) := ⟨rfl, rfl, rfl, by decide +kernel, rfl, by decide +kernel, by decide +kernel⟩
theorem okS_phase_ends (D : Df K mg "phase_ends" s_phase_ends P_phase_ends) (B : Bi mg) (c_split_records : C8.Cal P w K mg base 1 "split_records" spSplitS []) : C8.Cal P w K mg base 2 "phase_ends" spPhES [] := by
  refine cal_of D sc_phase_ends (fun vs H Q E h => ?_) (fun f cdv A outer s H vs Q E hr h => ?_)
  · obtain ⟨L, rt, kb, xs, ds, p, q, k, rfl, _⟩ := h
    rfl
  · obtain ⟨L, rt, kb, xs, ds, p, q, k, rfl, eL, hO, hl, er, bd, bp, bq, k0, k1, kk⟩ := h
    refine ⟨_, (pss_cons (ps_asg (pv 1) (pg_tup rfl (pgs_cons (pg_name (i := 2) sc_phase_ends.nd rfl (Or.inr rfl)) (pgs_cons (pg_name (i := 3) sc_phase_ends.nd rfl (Or.inr rfl)) pgs_nil))))
    (pss_cons (ps_asg (C8.pe_c c_split_records hr (by decide) (by rfl) (pa_cons (pv 0) pa_nil)) (pg_tup rfl (pgs_cons (pg_name (i := 4) sc_phase_ends.nd rfl (Or.inl rfl)) (pgs_cons (pg_name (i := 5) sc_phase_ends.nd rfl (Or.inl rfl)) pgs_nil))))
    (pss_cons (ps_set (i := 6) sc_phase_ends.nd rfl (Or.inl rfl) (pe_callBK (cr_maxD rfl hr.units) (by rfl) B.max_ bt_max (pa_cons (pe_lc (own := [("i", 8), ("t", 9), ("n", 10)]) (g := (gTup K 3 (gCons (gName 8) (gCons (gName 9) (gCons (gName 10) gNil))))) (by rfl) sc_phase_ends.nd (pi_list (pv 4)) (blkOk_by (own := [("i", 8), ("t", 9), ("n", 10)]) (N := N_phase_ends) (sc := defScope s_phase_ends) (by decide +kernel)) (fun _ _ _ _ _ => (pg_tup rfl (pgs_cons (pg_name (i := 8) sc_phase_ends.nd rfl (Or.inl rfl)) (pgs_cons (pg_name (i := 9) sc_phase_ends.nd rfl (Or.inl rfl)) (pgs_cons (pg_name (i := 10) sc_phase_ends.nd rfl (Or.inl rfl)) pgs_nil))))) (fun _ _ _ _ _ => pts_nil) (fun _ _ _ _ _ => (pe_op op_sub (pe_op op_mulW (pv 10) (pv 3)) (pe_op op_mulW (pv 2) (pv 9))))) pa_nil) (pk_cons pe_non pk_nil)))
    (pss_cons (ps_set (i := 7) sc_phase_ends.nd rfl (Or.inl rfl) (pe_callBK (cr_minD rfl hr.units) (by rfl) B.min_ bt_min (pa_cons (pe_lc (own := [("j", 11), ("u", 12), ("m", 13)]) (g := (gTup K 3 (gCons (gName 11) (gCons (gName 12) (gCons (gName 13) gNil))))) (by rfl) sc_phase_ends.nd (pi_list (pv 5)) (blkOk_by (own := [("j", 11), ("u", 12), ("m", 13)]) (N := N_phase_ends) (sc := defScope s_phase_ends) (by decide +kernel)) (fun _ _ _ _ _ => (pg_tup rfl (pgs_cons (pg_name (i := 11) sc_phase_ends.nd rfl (Or.inl rfl)) (pgs_cons (pg_name (i := 12) sc_phase_ends.nd rfl (Or.inl rfl)) (pgs_cons (pg_name (i := 13) sc_phase_ends.nd rfl (Or.inl rfl)) pgs_nil))))) (fun _ _ _ _ _ => pts_nil) (fun _ _ _ _ _ => (pe_op op_sub (pe_op op_sub (pe_op op_mulW (pe_op op_add (pv 13) pe_int) (pv 3)) (pe_op op_mulW (pv 2) (pv 12))) pe_int))) pa_nil) (pk_cons pe_non pk_nil)))
    (pss_one (ps_ret (pe_tup (pa_cons (pv 6) (pa_cons (pv 7) pa_nil))))))))), ?_⟩
    refine ⟨_, rfl, rt, _, rfl, SqT.of er, rfl, _, _, rfl, _, _, rfl, rfl, ?_⟩
    refine ⟨_, rfl, L, kb, xs, ds, rfl, eL, hO, hl, fun T H1 A' B' as bs s1 eT eA oA eB oB => ?_⟩
    refine ⟨T, _, rfl, SqT.of eT, rfl, _, _, rfl, _, _, rfl, rfl, ?_⟩
    refine ⟨_, rfl, A', rfl, ⟨_, SqL.of eA⟩, fun D1 nD1 => ?_⟩
    refine lc_list (K := K) (a := A') (xs := as) (fun i H' => Same H1 H' ∧ H' D1 = some (.lst ((((sel true 0 ds).take i).map fun x => x.2.2 * q - p * x.2.1).map V.int))) ⟨sm_upd nD1, upd_same⟩ ?_ ?_ ?_
    · rintro i H2 _ ⟨s2, _⟩
      exact SqL.of (s2 _ _ eA)
    · rintro i x H2 hx ⟨s2, e2⟩
      obtain ⟨r, d, rfl, ed, hd⟩ := oA.at hx
      have bb := sel_bd bd (List.mem_of_getElem? hd)
      have hi := (List.getElem?_eq_some_iff.mp hd).1
      have hz := sel_len true 0 ds
      refine ⟨r, _, rfl, SqT.of (s2 _ _ ed), rfl, _, _, rfl, _, _, rfl, _, _, rfl, rfl, ?_⟩
      refine ⟨rfl, _, rfl, _, rfl, _, _, rfl, rfl, mulW bb.2 bq k0 k0 (by omega), _, rfl, _, rfl, _, _, rfl, rfl, mulW bp bb.1 k0 k0 (by omega), _, _, rfl, rfl, _, e2, ?_, ?_, ?_⟩
      · rw [List.length_map, List.length_map, List.length_take]
        exact small1000 (by omega)
      · intro b o eb
        rw [upd_ne (ne_of_none eb nD1)]
        exact s2 _ _ eb
      · rw [upd_same, List.take_add_one, hd, List.map_append, List.map_append]
        rfl
    rintro H2 ⟨s2, e2⟩
    rw [List.take_of_length_le (by rw [oA.len]; exact Nat.le_refl _)] at e2
    refine ⟨D1, _, rfl, rfl, SqL.of e2, fun a ha => ?_⟩
    refine ⟨_, rfl, B', rfl, ⟨_, SqL.of (s2 _ _ eB)⟩, fun D2 nD2 => ?_⟩
    refine lc_list (K := K) (a := B') (xs := bs) (fun i H' => Same H2 H' ∧ H' D2 = some (.lst ((((sel false 0 ds).take i).map fun x => (x.2.2 + 1) * q - p * x.2.1 - 1).map V.int))) ⟨sm_upd nD2, upd_same⟩ ?_ ?_ ?_
    · rintro i H3 _ ⟨s3, _⟩
      exact SqL.of (s3 _ _ (s2 _ _ eB))
    · rintro i x H3 hx ⟨s3, e3⟩
      obtain ⟨r, d, rfl, ed, hd⟩ := oB.at hx
      have bb := sel_bd bd (List.mem_of_getElem? hd)
      have hi := (List.getElem?_eq_some_iff.mp hd).1
      have hz := sel_len false 0 ds
      refine ⟨r, _, rfl, SqT.of (s3 _ _ (s2 _ _ ed)), rfl, _, _, rfl, _, _, rfl, _, _, rfl, rfl, ?_⟩
      have b1 : Bd (k + 1) (d.2.2 + 1) := Bd.add bb.2 (Bd.small 1 (by decide) (by omega))
      refine ⟨rfl, _, rfl, _, _, rfl, rfl, _, rfl, _, _, rfl, rfl, mulW b1 bq (by omega) k0 (by omega), _, rfl, _, rfl, _, _, rfl, rfl, mulW bp bb.1 k0 k0 (by omega), _, _, rfl, rfl, _, _, rfl, rfl, _, e3, ?_, ?_, ?_⟩
      · rw [List.length_map, List.length_map, List.length_take]
        exact small1000 (by omega)
      · intro b o eb
        rw [upd_ne (ne_of_none eb nD2)]
        exact s3 _ _ eb
      · rw [upd_same, List.take_add_one, hd, List.map_append, List.map_append]
        rfl
    rintro H3 ⟨s3, e3⟩
    rw [List.take_of_length_le (by rw [oB.len]; exact Nat.le_refl _)] at e3
    refine ⟨D2, _, rfl, rfl, SqL.of e3, fun b hb => ?_⟩
    refine ⟨_, rfl, _, rfl, len10 (by simp), fun T2 nT2 => ?_⟩
    refine kk T2 _ a b (((s1.trans s2).trans s3).trans (sm_upd nT2)) ?_ upd_same ha hb
    cases z : H T2 with
    | none => rfl
    | some o =>
      rw [((s1.trans s2).trans s3) _ _ z] at nT2
      cases nT2
def spRFS : Sp := fun vs H Q _ => ∃ (L rt : Addr) (kb : Bool) (xs : List V) (ds : List Rec) (p q : Int) (k : Nat), vs = [.ref L, .ref rt] ∧ H L = some (sqO kb xs) ∧ Obs rcO H xs ds ∧ ds.length ≤ 1000 ∧ H rt = some (tup2 p q) ∧ RcB k ds ∧ Bd k p ∧ Bd k q ∧ 0 < k ∧ k ≤ 100000 ∧
  ∀ H' a b, Same H H' → IsMx (lph p q ds) a → IsMn (hph p q ds) b → Q (.bl (okPh a b)) H'
def spPhasesS : Sp := fun vs H Q _ => ∃ (L rt : Addr) (kb : Bool) (xs : List V) (ds : List Rec) (p q : Int) (k : Nat), vs = [.ref L, .ref rt] ∧ H L = some (sqO kb xs) ∧ Obs rcO H xs ds ∧ ds.length ≤ 200 ∧ H rt = some (tup2 p q) ∧ RcB k ds ∧ Rt k p q ∧ 0 < k ∧ k ≤ 100000 ∧
  ∀ H' a b v, Same H H' → IsMx (lph p q ds) a → IsMn (hph p q ds) b → ((okPh a b = false ∧ v = .non) ∨ (okPh a b = true ∧ ∃ T, v = .ref T ∧ H T = none ∧ H' T = some (.tup [oV a, oV b]))) → Q v H'
/-! ### phases, refused -/
def spPhasesX (C CV : Addr) : Sp := fun vs H _ E => ∃ (v rv : V), vs = [v, rv] ∧ ((∃ j, CkBad H v j ∧ ∀ H', Same H H' → OutY C "index" (.int j) H' E) ∨
  ∃ (L : Addr) (kb : Bool) (xs : List V) (ds : List Rec) (d : PyData), v = .ref L ∧ H L = some (sqO kb xs) ∧ Obs rcO H xs ds ∧ ds.length ≤ 200 ∧ Dv H rv d ∧ rateD d = false ∧ ∀ H', Same H H' → OutX CV "value" rv H' E)
end
end Lf
namespace Lf
open PySem PySem.Spec PyProof.Rows L2
/-! ### what the phases say -/
def geO : Option Int → Int → Prop
  | none, _ => True
  | some x, c => x ≤ c
def leO : Option Int → Int → Prop
  | none, _ => True
  | some x, c => c ≤ x
theorem fit_lo {p q c : Int} {d : Rec} (hq : 1 ≤ q) (h : d.lo = true) : fitB p q c d = true ↔ d.n * q - p * d.t ≤ c := by
  unfold fitB
  rw [if_pos h, decide_eq_true_eq, Int.le_ediv_iff_mul_le (by omega)]
  omega
theorem fit_hi {p q c : Int} {d : Rec} (hq : 1 ≤ q) (h : d.lo = false) : fitB p q c d = true ↔ c ≤ (d.n + 1) * q - p * d.t - 1 := by
  unfold fitB
  rw [if_neg (by rw [h]; exact Bool.false_ne_true), decide_eq_true_eq, ← Int.lt_add_one_iff, Int.ediv_lt_iff_lt_mul (by omega)]
  omega
theorem mem_lph {p q x : Int} {ds : List Rec} : x ∈ lph p q ds ↔ ∃ d ∈ ds, d.lo = true ∧ x = d.n * q - p * d.t := by
  unfold lph
  constructor
  · intro h
    obtain ⟨y, hy, rfl⟩ := List.mem_map.mp h
    obtain ⟨i, d, e, hb, rfl⟩ := sel_mem hy
    exact ⟨d, List.mem_of_getElem? e, hb, rfl⟩
  · rintro ⟨d, hd, hb, rfl⟩
    obtain ⟨i, e⟩ := List.mem_iff_getElem?.mp hd
    exact List.mem_map.mpr ⟨_, mem_sel e hb 0, rfl⟩
theorem mem_hph {p q x : Int} {ds : List Rec} : x ∈ hph p q ds ↔ ∃ d ∈ ds, d.lo = false ∧ x = (d.n + 1) * q - p * d.t - 1 := by
  unfold hph
  constructor
  · intro h
    obtain ⟨y, hy, rfl⟩ := List.mem_map.mp h
    obtain ⟨i, d, e, hb, rfl⟩ := sel_mem hy
    exact ⟨d, List.mem_of_getElem? e, hb, rfl⟩
  · rintro ⟨d, hd, hb, rfl⟩
    obtain ⟨i, e⟩ := List.mem_iff_getElem?.mp hd
    exact List.mem_map.mpr ⟨_, mem_sel e hb 0, rfl⟩
theorem fit_iff {p q c : Int} {ds : List Rec} {a b : Option Int} (hq : 1 ≤ q) (ha : IsMx (lph p q ds) a) (hb : IsMn (hph p q ds) b) : ds.all (fitB p q c) = true ↔ geO a c ∧ leO b c := by
  rw [List.all_eq_true]
  constructor
  · intro h
    constructor
    · cases a with
      | none => trivial
      | some x =>
        obtain ⟨d, hd, hl, rfl⟩ := mem_lph.mp ha.1
        exact (fit_lo hq hl).mp (h d hd)
    · cases b with
      | none => trivial
      | some x =>
        obtain ⟨d, hd, hl, rfl⟩ := mem_hph.mp hb.1
        exact (fit_hi hq hl).mp (h d hd)
  · rintro ⟨h1, h2⟩ d hd
    cases hl : d.lo with
    | true =>
      have m : d.n * q - p * d.t ∈ lph p q ds := mem_lph.mpr ⟨d, hd, hl, rfl⟩
      refine (fit_lo hq hl).mpr ?_
      cases a with
      | none =>
        rw [show lph p q ds = [] from ha] at m
        cases m
      | some x =>
        have := ha.2 _ m
        have h1 : x ≤ c := h1
        omega
    | false =>
      have m : (d.n + 1) * q - p * d.t - 1 ∈ hph p q ds := mem_hph.mpr ⟨d, hd, hl, rfl⟩
      refine (fit_hi hq hl).mpr ?_
      cases b with
      | none =>
        rw [show hph p q ds = [] from hb] at m
        cases m
      | some x =>
        have := hb.2 _ m
        have h2 : c ≤ x := h2
        omega
theorem mx_bd {k : Nat} {p q x : Int} {ds : List Rec} (k0 : 0 < k) (bd : RcB k ds) (bp : Bd k p) (bq : Bd k q) (h : IsMx (lph p q ds) (some x)) : Bd (2 * k + 2) x := by
  obtain ⟨d, hd, _, rfl⟩ := mem_lph.mp h.1
  exact (Bd.sub ((Bd.mul (bd d hd).2 bq).mono (by omega : k + k ≤ 2 * k)) ((Bd.mul bp (bd d hd).1).mono (by omega))).mono (by omega)
theorem mn_bd {k : Nat} {p q x : Int} {ds : List Rec} (k0 : 0 < k) (bd : RcB k ds) (bp : Bd k p) (bq : Bd k q) (h : IsMn (hph p q ds) (some x)) : Bd (2 * k + 3) x := by
  obtain ⟨d, hd, _, rfl⟩ := mem_hph.mp h.1
  have b1 : Bd (k + 1) (d.n + 1) := Bd.add (bd d hd).2 (Bd.small 1 (by decide) (by omega))
  exact Bd.sub (Bd.sub ((Bd.mul b1 bq).mono (by omega : k + 1 + k ≤ 2 * k + 1)) ((Bd.mul bp (bd d hd).1).mono (by omega))) (Bd.small 1 (by decide) (by omega))
end Lf
namespace Lf
open PySem PySem.Spec PyProof.Rows L2
/-! ### rules: any value -/
def ruleD : PyData → Bool
  | .tuple [.int p, .int q, .int _] => decide (0 ≤ p) && (decide (1 ≤ q) && decide (V.int (Int.gcd p q : Int) = V.int 1))
  | _ => false
theorem rule_three {ds : List PyData} (h : ds.length ≠ 3) : ruleD (.tuple ds) = false := by
  unfold ruleD
  split
  · rename_i p q c e
    cases e
    exact absurd rfl h
  · rfl
theorem rule_i {d0 d1 d2 : PyData} (h : ([isI d0, isI d1, isI d2].all fun b => b) = false) : ruleD (.tuple [d0, d1, d2]) = false := by
  unfold ruleD
  split
  · rename_i p q c e
    cases e
    cases h
  · rfl
theorem isI_inv3 {H : Hp} {v : V} {d : PyData} (h : Dv H v d) (hi : isI d = true) : ∃ z, v = .int z ∧ d = .int z := by
  cases h with
  | int z => exact ⟨z, rfl, rfl⟩
  | _ => cases hi
section
variable {P : Program} {w : World} {K : PySem.W.Frag} {mg : Str → Option Value} {base : Heap} {C CV : Addr}
def spIsRuleD : Sp := fun vs H Q _ => ∃ (v : V) (d : PyData), vs = [v] ∧ Dv H v d ∧ ∀ H', Same H H' → Q (.bl (ruleD d)) H'
theorem okA_is_rule (D : Df K mg "is_rule" s_is_rule P_is_rule) (B : Bi mg) (cA_is_integer : C8.Cal P w K mg base 1 "is_integer" spIsAny []) (c_gcd : C8.Cal P w K mg base 1 "gcd" spGcd []) : C8.Cal P w K mg base 2 "is_rule" spIsRuleD [] := by
  refine cal_of D sc_is_rule (fun vs H Q E h => ?_) (fun f cdv A outer s H vs Q E hr h => ?_)
  · obtain ⟨v, d, rfl, _⟩ := h
    rfl
  · obtain ⟨v, d, rfl, dv, kk⟩ := h
    have c_is_integer := cA_is_integer
    refine ⟨_, (pss_cons (ps_if (PW.pt (pw_or (pt_not (pt_val (pe_callB (call_isi) (by rfl) B.isinstance_ bt_isinstance (pa_cons (pv 0) (pa_cons (pe_bltn (v := .ty "tuple") (by rfl) B.tuple_ bt_tuple rfl) pa_nil))))) (pw_or1 (pt_cmpR op_ne (pe_callB (call_len_seq) (by rfl) B.len_ bt_len (pa_cons (pv 0) pa_nil)) pe_int (nomark _)))))
      (pss_one (ps_ret pe_bl))
      pss_nil)
    (pss_cons (ps_if (pt_not (pt_val (pe_callB (cr_all rfl) (by rfl) B.all_ bt_all (pa_cons (pe_lc (own := [("item", 1)]) (g := (gName 1)) (by rfl) sc_is_rule.nd (pi_tup (pv 0)) (blkOk_by (own := [("item", 1)]) (N := N_is_rule) (sc := defScope s_is_rule) (by decide +kernel)) (fun _ _ _ _ _ => (pg_name (i := 1) sc_is_rule.nd rfl (Or.inl rfl))) (fun _ _ _ _ _ => pts_nil) (fun _ _ _ _ _ => (C8.pe_c c_is_integer hr (by decide) (by rfl) (pa_cons (pv 1) pa_nil)))) pa_nil))))
      (pss_one (ps_ret pe_bl))
      pss_nil)
    (pss_one (ps_ret (pe_and (pe_cmpR op_ge (pe_ix (r := rIxT K) ix_tup (pv 0) pe_int (fun _ _ => rfl)) pe_int (nomark _)) (pe_and (pe_cmpR op_ge (pe_ix (r := rIxT K) ix_tup (pv 0) pe_int (fun _ _ => rfl)) pe_int (nomark _)) (pe_one (pe_cmpR op_eq (C8.pe_c c_gcd hr (by decide) (by rfl) (pa_cons (pe_ix (r := rIxT K) ix_tup (pv 0) pe_int (fun _ _ => rfl)) (pa_cons (pe_ix (r := rIxT K) ix_tup (pv 0) pe_int (fun _ _ => rfl)) pa_nil))) pe_int (nomark _))))))))), ?_⟩
    refine ⟨_, rfl, _, _, _, _, isT' d, rfl, .ty "tuple", dv.ty, kit_ty (kit_tup' d), isT' d, rfl, ?_⟩
    cases ht : isT' d with
    | false =>
      have e : ruleD d = false := by
        cases d <;> first | rfl | cases ht
      rw [e] at kk
      exact iteT (iteT (kk _ (Same.refl _)))
    | true =>
      cases dv with
      | tup er hs =>
        rename_i r xs ds
        refine iteF ⟨_, rfl, r, _, rfl, .inr (SqT.of er), rfl, _, rfl, ?_⟩
        have hl := dva_length hs
        by_cases h3 : xs.length = 3
        · match xs, ds, hs, h3, hl with
          | [v0, v1, v2], [d0, d1, d2], hs, _, _ =>
            cases hs with
            | cons g0 hs =>
              cases hs with
              | cons g1 hs =>
                cases hs with
                | cons g2 hs =>
                  refine iteNS rfl ?_
                  refine ⟨_, rfl, r, rfl, ⟨_, SqT.of er⟩, fun L nL => ?_⟩
                  refine lc_tup (K := K) (a := r) (xs := [v0, v1, v2]) (fun i H' => Same H H' ∧ H' L = some (.lst ((([isI d0, isI d1, isI d2] : List Bool).take i).map V.bl))) ?_ ?_ ?_ ?_
                  · exact ⟨sm_upd nL, upd_same⟩
                  · rintro i H' hi ⟨s1, _⟩
                    exact SqT.of (s1 _ _ er)
                  · rintro i x H' hx ⟨s1, eL⟩
                    have hi : i < 3 := (List.getElem?_eq_some_iff.mp hx).1
                    have kz := (Fr.same s1).kp
                    obtain ⟨d, gd, e1⟩ : ∃ d, Dv H' x d ∧ (([isI d0, isI d1, isI d2] : List Bool).take (i + 1)) = (([isI d0, isI d1, isI d2] : List Bool).take i) ++ [isI d] := by
                      match i, hi with
                      | 0, _ =>
                        cases (Option.some.inj hx)
                        exact ⟨d0, Dv.kp kz _ _ g0, rfl⟩
                      | 1, _ =>
                        cases (Option.some.inj hx)
                        exact ⟨d1, Dv.kp kz _ _ g1, rfl⟩
                      | 2, _ =>
                        cases (Option.some.inj hx)
                        exact ⟨d2, Dv.kp kz _ _ g2, rfl⟩
                    refine ⟨rfl, _, rfl, x, d, rfl, gd, _, eL, ?_, ?_, ?_⟩
                    · rw [List.length_map, List.length_take]
                      exact small1000 (by omega)
                    · intro b o eb
                      rw [upd_ne (ne_of_none eb nL)]
                      exact s1 _ _ eb
                    · rw [upd_same, e1, List.map_append]
                      rfl
                  · rintro H' ⟨s1, eL⟩
                    have eL' : H' L = some (.lst ([isI d0, isI d1, isI d2].map V.bl)) := eL
                    have er' := s1 _ _ er
                    cases ha : ([isI d0, isI d1, isI d2].all fun b => b) with
                    | false =>
                      rw [rule_i ha] at kk
                      exact ⟨L, _, rfl, SqL.of eL', _, rfl, iteTs (by show (!([isI d0, isI d1, isI d2].all fun b => b)) = true; rw [ha]; rfl) (kk _ s1)⟩
                    | true =>
                      have i3 : isI d0 = true ∧ isI d1 = true ∧ isI d2 = true := by
                        simpa [List.all_cons] using ha
                      obtain ⟨p, rfl, rfl⟩ := isI_inv3 g0 i3.1
                      obtain ⟨q, rfl, rfl⟩ := isI_inv3 g1 i3.2.1
                      obtain ⟨c, rfl, rfl⟩ := isI_inv3 g2 i3.2.2
                      have kk : ∀ H', Same H H' → Q (.bl (decide (0 ≤ p) && (decide (1 ≤ q) && decide (V.int (Int.gcd p q : Int) = V.int 1)))) H' := kk
                      refine ⟨L, _, rfl, SqL.of eL', true, rfl, iteF ?_⟩
                      refine ⟨_, rfl, r, _, _, _, rfl, rfl, SqT.of er', atI_nat (j := 0) rfl, _, _, rfl, rfl, _, rfl, ite2 (fun c1 => ?_) (fun c1 => ?_)⟩
                      · have c1 : p ≥ 0 := of_decide_eq_true c1
                        rw [decide_eq_true (show 0 ≤ p from c1), Bool.true_and] at kk
                        refine ⟨_, rfl, r, _, _, _, rfl, rfl, SqT.of er', atI_nat (j := 1) rfl, _, _, rfl, rfl, _, rfl, ite2 (fun c2 => ?_) (fun c2 => ?_)⟩
                        · have c2 : q ≥ 1 := of_decide_eq_true c2
                          rw [decide_eq_true (show 1 ≤ q from c2), Bool.true_and] at kk
                          exact ⟨_, rfl, r, _, _, _, rfl, rfl, SqT.of er', atI_nat (j := 0) rfl, _, rfl, r, _, _, _, rfl, rfl, SqT.of er', atI_nat (j := 1) rfl, p, q, rfl, c1, by omega, rfl, kk _ s1⟩
                        · have c2 : ¬ q ≥ 1 := fun z => c2 (decide_eq_true z)
                          rw [decide_eq_false (show ¬ 1 ≤ q from c2), Bool.false_and] at kk
                          exact kk _ s1
                      · have c1 : ¬ p ≥ 0 := fun z => c1 (decide_eq_true z)
                        rw [decide_eq_false (show ¬ 0 ≤ p from c1), Bool.false_and] at kk
                        exact kk _ s1
        · rw [rule_three (by omega)] at kk
          exact iteTs (len_ne3 h3) (kk _ (Same.refl _))
      | _ => cases ht
/-- the exception, with the value -/
def OutX3 (C : Addr) (x : Str) (v : V) (H : Hp) (E : XK) : Prop := ∀ dd, H dd = none → E (.ref C) (some dd) (upd H dd (.xd [(x, v)]))
def spCkRuleX (C : Addr) : Sp := fun vs H Q E => ∃ (v : V) (d : PyData), vs = [v] ∧ Dv H v d ∧ (∀ H', Same H H' → ruleD d = true → Q .non H') ∧ ∀ H', Same H H' → ruleD d = false → OutX3 C "value" v H' E
theorem okx_check_rule (D : Df K mg "check_rule" s_check_rule P_check_rule) (T : ValC P K mg C "InvalidRule" "value") (cA_is_rule : C8.Cal P w K mg base 2 "is_rule" spIsRuleD []) : CalX P w K mg base 3 "check_rule" (spCkRuleX C) := by
  refine calx_of D sc_check_rule (fun vs H Q E h => ?_) (fun f cdv A outer s H vs Q E hr h => ?_)
  · obtain ⟨v, d, rfl, _⟩ := h
    rfl
  · obtain ⟨v, d, rfl, dv, hq, he⟩ := h
    have c_is_rule := cA_is_rule
    refine ⟨_, (pss_one (ps_if (pt_not (pt_val (C8.pe_c c_is_rule hr (by decide) (by rfl) (pa_cons (pv 0) pa_nil))))
      (pss_one (ps_raise rfl (takes_of rfl rfl rfl rfl) (pmk_val T hr (by decide) rfl (pv 0))))
      pss_nil)), ?_⟩
    refine ⟨_, rfl, v, d, rfl, dv, fun H1 s1 => ⟨ruleD d, rfl, ?_⟩⟩
    cases hd : ruleD d with
    | true => exact iteF (hq _ s1 hd)
    | false => exact iteT ⟨_, rfl, mkv (he _ s1 hd)⟩
end
end Lf
namespace Lf
open PySem PySem.Spec PyProof.Rows L2
/-- no rule, and small enough to be shown -/
structure Sw (d : PyData) : Prop where
  s1 : d.showable = true
  s2 : d.depth ≤ 20
  s3 : d.shown.length ≤ 10000
  s4 : PyData.strOk d.shown = true
def Pd28 (d : PyData) : Prop := ruleD d = false ∧ Sw d
theorem odd_by28 {d : PyData} (h : (d.showable && (decide (d.depth ≤ 20) && (decide (d.shown.length ≤ 200) && (PyData.strOk d.shown && !ruleD d)))) = true) : Pd28 d := by
  rw [Bool.and_eq_true, Bool.and_eq_true, Bool.and_eq_true, Bool.and_eq_true] at h
  have h3 : d.shown.length ≤ 200 := of_decide_eq_true h.2.2.1
  refine ⟨?_, ⟨h.1, of_decide_eq_true h.2.1, by omega, h.2.2.2.1⟩⟩
  cases e : ruleD d with
  | false => rfl
  | true =>
    have := h.2.2.2.2
    rw [e] at this
    cases this
section
variable {P : Program} {w : World} {K : PySem.W.Frag} {mg : Str → Option Value} {base : Heap}
def spOdd28 : Sp := fun vs H Q _ => ∃ (a : PA) (n : Nat), vs = [.ref a] ∧ Pen H a n ∧ n < 2 ^ 39 ∧ ∀ x H', Odp Pd28 H' x → Pen H' a (n + 1) → Fr H H' → Q x H'
abbrev s_l_odd : Stmt := topS 53
abbrev N_l_odd : List Str := ["_law_pen_here", "_law_some"]
abbrev P_l_odd : List Str := ["_law_pen_here"]
theorem sc_l_odd : FnScope N_l_odd P_l_odd (defScope s_l_odd) := ⟨rfl, rfl, rfl, by decide +kernel, rfl, by decide +kernel, by decide +kernel⟩
theorem ok_l_odd (D : Df K mg "_law_odd" s_l_odd P_l_odd) (c_l_pick : C8.Cal P w K mg base 2 "_law_pick" spPick []) : C8.Cal P w K mg base 3 "_law_odd" spOdd28 [] := by
  refine cal_of D sc_l_odd (fun vs H Q E h => ?_) (fun f cdv A outer s H vs Q E hr h => ?_)
  · obtain ⟨a, n, rfl, _⟩ := h
    rfl
  · obtain ⟨a, n, rfl, hP, hn, kk⟩ := h
    refine ⟨_, (C8.pss_cut (ps_set (i := 1) sc_l_odd.nd rfl (Or.inl rfl) (pe_lst1 (pa_cons pe_non (pa_cons pe_bl (pa_cons pe_int (pa_cons (pe_un un_neg pe_int) (pa_cons pe_str (pa_cons pe_str (pa_cons pe_str (pa_cons (pe_tup (pa_cons pe_int pa_nil)) (pa_cons (pe_tup (pa_cons pe_int (pa_cons pe_int (pa_cons pe_int (pa_cons pe_int pa_nil))))) (pa_cons (pe_lst1 (pa_cons pe_int (pa_cons pe_int pa_nil))) (pa_cons (pe_lst1 (pa_cons pe_int (pa_cons pe_int (pa_cons pe_int pa_nil)))) (pa_cons (pe_tup (pa_cons pe_int (pa_cons pe_int pa_nil))) (pa_cons (pe_tup (pa_cons pe_int (pa_cons pe_int (pa_cons pe_int pa_nil)))) pa_nil)))))))))))))))
    (C8.pss_cut (ps_set (i := 1) sc_l_odd.nd rfl (Or.inl rfl) (pe_op op_cat (pv 1) (pe_lst1 (pa_cons (pe_tup (pa_cons pe_int (pa_cons pe_int pa_nil))) (pa_cons (pe_tup (pa_cons (pe_un un_neg pe_int) (pa_cons pe_int pa_nil))) (pa_cons (pe_tup (pa_cons pe_int (pa_cons pe_int (pa_cons pe_int pa_nil)))) (pa_cons (pe_tup (pa_cons (pe_un un_neg pe_int) (pa_cons pe_int (pa_cons pe_int pa_nil)))) (pa_cons (pe_tup (pa_cons pe_bl (pa_cons pe_int pa_nil))) (pa_cons (pe_tup (pa_cons pe_int (pa_cons pe_bl pa_nil))) (pa_cons (pe_tup (pa_cons pe_bl (pa_cons pe_int (pa_cons pe_int pa_nil)))) (pa_cons (pe_tup (pa_cons pe_int (pa_cons pe_int (pa_cons pe_non pa_nil)))) (pa_cons pe_dnewK (pa_cons (pe_tup (pa_cons (pe_tup pa_nil) pa_nil)) pa_nil)))))))))))))
    (pss_one (ps_ret (C8.pe_c c_l_pick hr (by decide) (by rfl) (pa_cons (pv 0) (pa_cons (pe_op op_cat (pv 1) (pe_lst1 (pa_cons (pe_tup (pa_cons pe_int (pa_cons pe_int pa_nil))) (pa_cons (pe_tup (pa_cons pe_int (pa_cons pe_int (pa_cons pe_int pa_nil)))) (pa_cons (pe_tup (pa_cons pe_str (pa_cons pe_int pa_nil))) (pa_cons (pe_tup (pa_cons pe_non (pa_cons pe_int pa_nil))) (pa_cons (pe_tup (pa_cons pe_int (pa_cons pe_int (pa_cons pe_str pa_nil)))) (pa_cons (pe_disp (pps_cons pe_str pe_int pps_nil) (by rfl) (by rfl) (fun z => by cases z) (by decide)) (pa_cons (pe_op op_pow pe_int pe_int) pa_nil))))))))) pa_nil))))))), ?_⟩
    refine ⟨fun σ' H' => ∃ (O : Addr) (xs : List V), σ' = [some (.ref a), some (.ref O)] ∧ H' O = some (.lst xs) ∧ OdpL Pd28 H' xs ∧ xs.length = 13 ∧ Same H H', ?_, ?_⟩
    · have s0 := Same.refl H
      have l0 := OdpL.nil (Pd := Pd28) (H := H)
      have l0 := l0.snoc (x := .non) ⟨_, .non, odd_by28 (by decide +kernel)⟩
      have l0 := l0.snoc (x := .bl true) ⟨_, .bl true, odd_by28 (by decide +kernel)⟩
      have l0 := l0.snoc (x := .int 0) ⟨_, .int 0, odd_by28 (by decide +kernel)⟩
      refine ⟨1, rfl, ?_⟩
      have l0 := l0.snoc (x := .int (-1)) ⟨_, .int (-1), odd_by28 (by decide +kernel)⟩
      have l0 := l0.snoc (x := .str "") ⟨_, .str "", odd_by28 (by decide +kernel)⟩
      have l0 := l0.snoc (x := .str "at least") ⟨_, .str "at least", odd_by28 (by decide +kernel)⟩
      have l0 := l0.snoc (x := .str "at most 3") ⟨_, .str "at most 3", odd_by28 (by decide +kernel)⟩
      refine ⟨len10 (by simp), fun o1 n1 => ?_⟩
      have z1 := sm_upd (o := .tup [.int 1]) n1
      have s1 := s0.trans z1
      have l1 := (l0.same z1).snoc (x := .ref o1) ⟨_, .tup upd_same (.cons (.int 1) (.nil)), odd_by28 (by decide +kernel)⟩
      refine ⟨len10 (by simp), fun o2 n2 => ?_⟩
      have z2 := sm_upd (o := .tup [.int 1, .int 2, .int 3, .int 4]) n2
      have s2 := s1.trans z2
      have l2 := (l1.same z2).snoc (x := .ref o2) ⟨_, .tup upd_same (.cons (.int 1) (.cons (.int 2) (.cons (.int 3) (.cons (.int 4) (.nil))))), odd_by28 (by decide +kernel)⟩
      refine ⟨len10 (by simp), fun o3 n3 m3 => ?_⟩
      have z3 := sm_upd (o := .lst [.int 1, .int 2]) n3
      have s3 := s2.trans z3
      have l3 := (l2.same z3).snoc (x := .ref o3) ⟨_, .lst m3 upd_same (.cons (.int 1) (.cons (.int 2) (.nil))), odd_by28 (by decide +kernel)⟩
      refine ⟨len10 (by simp), fun o4 n4 m4 => ?_⟩
      have z4 := sm_upd (o := .lst [.int 1, .int 2, .int 3]) n4
      have s4 := s3.trans z4
      have l4 := (l3.same z4).snoc (x := .ref o4) ⟨_, .lst m4 upd_same (.cons (.int 1) (.cons (.int 2) (.cons (.int 3) (.nil)))), odd_by28 (by decide +kernel)⟩
      refine ⟨len10 (by simp), fun o5 n5 => ?_⟩
      have z5 := sm_upd (o := .tup [.int 2, .int 4]) n5
      have s5 := s4.trans z5
      have l5 := (l4.same z5).snoc (x := .ref o5) ⟨_, .tup upd_same (.cons (.int 2) (.cons (.int 4) (.nil))), odd_by28 (by decide +kernel)⟩
      refine ⟨len10 (by simp), fun o6 n6 => ?_⟩
      have z6 := sm_upd (o := .tup [.int 2, .int 4, .int 1]) n6
      have s6 := s5.trans z6
      have l6 := (l5.same z6).snoc (x := .ref o6) ⟨_, .tup upd_same (.cons (.int 2) (.cons (.int 4) (.cons (.int 1) (.nil)))), odd_by28 (by decide +kernel)⟩
      refine ⟨len10 (by simp), fun O N M => ?_⟩
      have z := sm_upd (o := .lst [.non, .bl true, .int 0, .int (-1), .str "", .str "at least", .str "at most 3", .ref o1, .ref o2, .ref o3, .ref o4, .ref o5, .ref o6]) N
      exact ⟨O, _, rfl, upd_same, l6.same z, rfl, s6.trans z⟩
    rintro σ' G1 ⟨O1, xs1, rfl, e1, ol1, ln1, sH1⟩
    refine ⟨fun σ' H' => ∃ (O : Addr) (xs : List V), σ' = [some (.ref a), some (.ref O)] ∧ H' O = some (.lst xs) ∧ OdpL Pd28 H' xs ∧ xs.length = 23 ∧ Same H H', ?_, ?_⟩
    · have s0 := Same.refl G1
      have l0 := OdpL.nil (Pd := Pd28) (H := G1)
      refine ⟨_, rfl, ?_⟩
      refine ⟨len10 (by simp), fun o1 n1 => ?_⟩
      have z1 := sm_upd (o := .tup [.int 1, .int 0]) n1
      have s1 := s0.trans z1
      have l1 := (l0.same z1).snoc (x := .ref o1) ⟨_, .tup upd_same (.cons (.int 1) (.cons (.int 0) (.nil))), odd_by28 (by decide +kernel)⟩
      refine ⟨1, rfl, len10 (by simp), fun o2 n2 => ?_⟩
      have z2 := sm_upd (o := .tup [.int (-1), .int 2]) n2
      have s2 := s1.trans z2
      have l2 := (l1.same z2).snoc (x := .ref o2) ⟨_, .tup upd_same (.cons (.int (-1)) (.cons (.int 2) (.nil))), odd_by28 (by decide +kernel)⟩
      refine ⟨len10 (by simp), fun o3 n3 => ?_⟩
      have z3 := sm_upd (o := .tup [.int 1, .int 0, .int 3]) n3
      have s3 := s2.trans z3
      have l3 := (l2.same z3).snoc (x := .ref o3) ⟨_, .tup upd_same (.cons (.int 1) (.cons (.int 0) (.cons (.int 3) (.nil)))), odd_by28 (by decide +kernel)⟩
      refine ⟨1, rfl, len10 (by simp), fun o4 n4 => ?_⟩
      have z4 := sm_upd (o := .tup [.int (-1), .int 2, .int 0]) n4
      have s4 := s3.trans z4
      have l4 := (l3.same z4).snoc (x := .ref o4) ⟨_, .tup upd_same (.cons (.int (-1)) (.cons (.int 2) (.cons (.int 0) (.nil)))), odd_by28 (by decide +kernel)⟩
      refine ⟨len10 (by simp), fun o5 n5 => ?_⟩
      have z5 := sm_upd (o := .tup [.bl true, .int 1]) n5
      have s5 := s4.trans z5
      have l5 := (l4.same z5).snoc (x := .ref o5) ⟨_, .tup upd_same (.cons (.bl true) (.cons (.int 1) (.nil))), odd_by28 (by decide +kernel)⟩
      refine ⟨len10 (by simp), fun o6 n6 => ?_⟩
      have z6 := sm_upd (o := .tup [.int 1, .bl true]) n6
      have s6 := s5.trans z6
      have l6 := (l5.same z6).snoc (x := .ref o6) ⟨_, .tup upd_same (.cons (.int 1) (.cons (.bl true) (.nil))), odd_by28 (by decide +kernel)⟩
      refine ⟨len10 (by simp), fun o7 n7 => ?_⟩
      have z7 := sm_upd (o := .tup [.bl true, .int 2, .int 1]) n7
      have s7 := s6.trans z7
      have l7 := (l6.same z7).snoc (x := .ref o7) ⟨_, .tup upd_same (.cons (.bl true) (.cons (.int 2) (.cons (.int 1) (.nil)))), odd_by28 (by decide +kernel)⟩
      refine ⟨len10 (by simp), fun o8 n8 => ?_⟩
      have z8 := sm_upd (o := .tup [.int 1, .int 2, .non]) n8
      have s8 := s7.trans z8
      have l8 := (l7.same z8).snoc (x := .ref o8) ⟨_, .tup upd_same (.cons (.int 1) (.cons (.int 2) (.cons (.non) (.nil)))), odd_by28 (by decide +kernel)⟩
      refine fun o9 n9 => ?_
      have z9 := sm_upd (o := .dK []) n9
      have s9 := s8.trans z9
      have l9 := (l8.same z9).snoc (x := .ref o9) ⟨_, .dk0 upd_same, odd_by28 (by decide +kernel)⟩
      refine ⟨Nat.zero_le _, fun o10 n10 => ?_⟩
      have z10 := sm_upd (o := .tup []) n10
      have s10 := s9.trans z10
      have l10 := l9.same z10
      refine ⟨len10 (by simp), fun o11 n11 => ?_⟩
      have z11 := sm_upd (o := .tup [.ref o10]) n11
      have s11 := s10.trans z11
      have l11 := (l10.same z11).snoc (x := .ref o11) ⟨_, .tup upd_same (.cons (.tup (z11 _ _ upd_same) .nil) (.nil)), odd_by28 (by decide +kernel)⟩
      refine ⟨len10 (by simp), fun O N M => ?_⟩
      have z := sm_upd (o := .lst [.ref o1, .ref o2, .ref o3, .ref o4, .ref o5, .ref o6, .ref o7, .ref o8, .ref o9, .ref o11]) N
      have s := s11.trans z
      refine ⟨O1, O, _, _, rfl, rfl, s _ _ e1, upd_same, len10 (by rw [ln1]; show 13 + 10 ≤ 1000; decide), fun O2 N2 => ?_⟩
      have z2 := sm_upd (o := .lst (xs1 ++ [.ref o1, .ref o2, .ref o3, .ref o4, .ref o5, .ref o6, .ref o7, .ref o8, .ref o9, .ref o11])) N2
      refine ⟨O2, _, rfl, upd_same, ?_, by rw [List.length_append, ln1]; rfl, sH1.trans (s.trans z2)⟩
      intro x hx
      rcases List.mem_append.mp hx with hx | hx
      · exact ((ol1.same s).same z2) x hx
      · exact ((l11.same z).same z2) x hx
    rintro σ' G2 ⟨O2, xs2, rfl, e2, ol2, ln2, sH2⟩
    have s0 := Same.refl G2
    have l0 := OdpL.nil (Pd := Pd28) (H := G2)
    refine ⟨_, rfl, _, rfl, ?_⟩
    refine ⟨len10 (by simp), fun o1 n1 => ?_⟩
    have z1 := sm_upd (o := .tup [.int 0, .int 2]) n1
    have s1 := s0.trans z1
    have l1 := (l0.same z1).snoc (x := .ref o1) ⟨_, .tup upd_same (.cons (.int 0) (.cons (.int 2) (.nil))), odd_by28 (by decide +kernel)⟩
    refine ⟨len10 (by simp), fun o2 n2 => ?_⟩
    have z2 := sm_upd (o := .tup [.int 0, .int 2, .int 0]) n2
    have s2 := s1.trans z2
    have l2 := (l1.same z2).snoc (x := .ref o2) ⟨_, .tup upd_same (.cons (.int 0) (.cons (.int 2) (.cons (.int 0) (.nil)))), odd_by28 (by decide +kernel)⟩
    refine ⟨len10 (by simp), fun o3 n3 => ?_⟩
    have z3 := sm_upd (o := .tup [.str "1", .int 2]) n3
    have s3 := s2.trans z3
    have l3 := (l2.same z3).snoc (x := .ref o3) ⟨_, .tup upd_same (.cons (.str "1") (.cons (.int 2) (.nil))), odd_by28 (by decide +kernel)⟩
    refine ⟨len10 (by simp), fun o4 n4 => ?_⟩
    have z4 := sm_upd (o := .tup [.non, .int 1]) n4
    have s4 := s3.trans z4
    have l4 := (l3.same z4).snoc (x := .ref o4) ⟨_, .tup upd_same (.cons (.non) (.cons (.int 1) (.nil))), odd_by28 (by decide +kernel)⟩
    refine ⟨len10 (by simp), fun o5 n5 => ?_⟩
    have z5 := sm_upd (o := .tup [.int 1, .int 2, .str "3"]) n5
    have s5 := s4.trans z5
    have l5 := (l4.same z5).snoc (x := .ref o5) ⟨_, .tup upd_same (.cons (.int 1) (.cons (.int 2) (.cons (.str "3") (.nil)))), odd_by28 (by decide +kernel)⟩
    refine fun o6 n6 => ⟨upd_same, [(Sum.inr "at least", .int 1)], rfl, by show 1 ≤ 15; decide, ?_⟩
    rw [upd_upd, mergeK1]
    have z6 := sm_upd (o := .dK [(Sum.inr "at least", .int 1)]) n6
    have s6 := s5.trans z6
    have l6 := (l5.same z6).snoc (x := .ref o6) ⟨_, .dk1 upd_same (.int 1), odd_by28 (by decide +kernel)⟩
    refine ⟨_, _, rfl, rfl, ⟨by decide, by decide, by decide⟩, ?_⟩
    have l6 := l6.snoc (x := .int (10 ^ (30 : Int).toNat)) ⟨_, .int _, odd_by28 (by decide +kernel)⟩
    refine ⟨len10 (by simp), fun O N M => ?_⟩
    have z := sm_upd (o := .lst [.ref o1, .ref o2, .ref o3, .ref o4, .ref o5, .ref o6, .int (10 ^ (30 : Int).toNat)]) N
    have s := s6.trans z
    refine ⟨O2, O, _, _, rfl, rfl, s _ _ e2, upd_same, len10 (by rw [ln2]; show 23 + 7 ≤ 1000; decide), fun O2 N2 => ?_⟩
    have z2 := sm_upd (o := .lst (xs2 ++ [.ref o1, .ref o2, .ref o3, .ref o4, .ref o5, .ref o6, .int (10 ^ (30 : Int).toNat)])) N2
    have ol : OdpL Pd28 _ (xs2 ++ [.ref o1, .ref o2, .ref o3, .ref o4, .ref o5, .ref o6, .int (10 ^ (30 : Int).toNat)]) := ((ol2.same s).same z2).app ((l6.same z).same z2)
    have sF := sH2.trans (s.trans z2)
    refine ⟨a, O2, _, _, rfl, hP.same sF, by omega, upd_same, (fun e => by have := congrArg List.length e; rw [List.length_append, ln2] at this; cases this), by rw [List.length_append, ln2]; show 23 + 7 ≤ 1000; decide, fun x H' hx hP' f' => ?_⟩
    exact kk x H' ((ol.kp f'.kp) x hx) hP' ((Fr.same sF).trans f')
end
end Lf
namespace Lf
open PySem PySem.Spec PyProof.Rows L2
/-- repr of an int or of None -/
theorem repr_some {X : Cx} : CallR X (.builtin "repr") (fun xs H Q => (∃ i : Int, xs = [.int i] ∧ i.natAbs.log2 < 1920 ∧ Q (.str (toString i)) H) ∨ (xs = [.non] ∧ Q (.str "None") H)) := by
  intro pins s σ H xs us Q I rel h
  rcases h with h | ⟨rfl, hq⟩
  · exact SkE.call_repr_int pins s σ H xs us Q I rel h
  · obtain ⟨u, hu, ru⟩ := vals1 rel
    subst hu
    have eu : u = Value.none := ru
    subst eu
    exact PySem.P.repr_of_none ⟨.str "None", H, I.tok _, ⟨_, rfl⟩, hq⟩
theorem cut_take (xs : List V) (m : Int) (h : 0 ≤ m) : cutV xs none (some m) = xs.take m.toNat := by
  obtain ⟨n, rfl⟩ := Int.eq_ofNat_of_zero_le h
  unfold cutV
  rw [HT.sIx_none, show HT.sIx xs.length xs.length (some ((n : Nat) : Int)) = min n xs.length from HT.sIx_nat _ _ n, List.drop_zero, Nat.sub_zero]
  show xs.take (min n xs.length) = xs.take n
  by_cases hn : n ≤ xs.length
  · rw [Nat.min_eq_left hn]
  · rw [Nat.min_eq_right (by omega), List.take_of_length_le (Nat.le_refl _), List.take_of_length_le (by omega)]
theorem flat_ints (ns : List Int) : (ns.map V.int).all flatV = true := by
  induction ns with
  | nil => rfl
  | cons n r ih => simpa [flatV] using ih
theorem inV_ints (ns : List Int) (k : Int) : inV (V.int k) (ns.map V.int) = decide (k ∈ ns) := by
  induction ns with
  | nil => rfl
  | cons n r ih =>
    have ih' : ((r.map V.int).any fun y => eqV y (V.int k)) = decide (k ∈ r) := ih
    show (eqV (V.int n) (V.int k) || (r.map V.int).any fun y => eqV y (V.int k)) = decide (k ∈ n :: r)
    rw [ih']
    by_cases h : n = k
    · subst h
      simp [eqV]
    · have h' : ¬ k = n := fun z => h z.symm
      simp [eqV, h, h']
end Lf
namespace Lf
open PySem PySem.Spec PyProof.Rows L2
/-! ### tables of code objects, kept -/
theorem tabs_fr {T : List (Addr × Str)} {H H' : Hp} (t : LamX.Tabs T H) (f : Fr H H') : LamX.Tabs T H' := fun p hp => by
  obtain ⟨ps, h1, h2, h3⟩ := t p hp
  refine ⟨ps, f.k _ _ h1 (fun _ z => by cases z), h2, fun pos cv hc => ?_⟩
  obtain ⟨c, e1, e2⟩ := h3 pos cv hc
  exact ⟨c, e1, f.k _ _ e2 fun _ z => by unfold LamX.CodeO at z; cases z⟩
theorem tabs_same {T : List (Addr × Str)} {H H' : Hp} (t : LamX.Tabs T H) (s : Same H H') : LamX.Tabs T H' := tabs_fr t (Fr.same s)
theorem Pen.extN {H H' : Hp} {a : PA} {n : Nat} (p : Pen H a n) (e : LamX.ExtN H H') : Pen H' a n := by
  obtain ⟨cs, t, r, h1, h2, h3⟩ := p.ex
  exact ⟨cs, t, r, e _ _ h1 (fun _ z => by cases z), e _ _ h2 (fun _ z => by cases z), h3⟩
theorem tup_extN {H H' : Hp} {b : Addr} {xs : List V} (e : LamX.ExtN H H') (h : H b = some (.tup xs)) : H' b = some (.tup xs) := e _ _ h fun _ z => by cases z
def spLawT (K : PySem.W.Frag) (PT : Addr) : Sp := fun vs H Q _ => ∃ (a : Addr) (ns : List Int), vs = [.ref a] ∧ SqL K H a (ns.map V.int) ∧ ns.length ≤ 63 ∧ H PT = some (.tbl #[]) ∧ ∀ H', Q (.bl true) H'
theorem iteFs {b : Bool} {A B : Prop} (h : b = false) (hB : B) : if b = true then A else B := by
  rw [h, if_neg Bool.false_ne_true]
  exact hB
theorem notin_of {ns : List Int} {k : Int} (h : k ∈ ns) : (if true = true then !inV (V.int k) (ns.map V.int) else inV (V.int k) (ns.map V.int)) = false := by
  rw [if_pos rfl, inV_ints, decide_eq_true h]
  rfl
/-- two pairs that are the same are not different -/
theorem ne2 {K : PySem.W.Frag} {H : Hp} {r1 r2 : Addr} {p q p' q' : Int} {Q : V → Hp → Prop} (e1 : H r1 = some (.tup [.int p, .int q])) (e2 : H r2 = some (.tup [.int p', .int q'])) (hp : p = p') (hq : q = q') (h : Q (.bl false) H) : rNeD K (.ref r1) (.ref r2) H Q := by
  subst hp hq
  refine ⟨.tuple [.int p, .int q], .tuple [.int p, .int q], Dp.tup (SqT.of e1) (.cons (.int p) (.cons (.int q) .nil)), Dp.tup (SqT.of e2) (.cons (.int p) (.cons (.int q) .nil)), rfl, rfl, ?_⟩
  rw [SeqAt.eqv_refl _ rfl]
  exact h
abbrev qLam : Str := (("law" : Str) ++ (".<locals>." : Str)) ++ ("<lambda>" : Str)
end Lf
namespace Lf
open PySem PySem.Spec PyProof.Rows L2
/-- two rules that are the same are not different -/
theorem ne3 {K : PySem.W.Frag} {H : Hp} {r1 r2 : Addr} {p q c p' q' c' : Int} {Q : V → Hp → Prop} (e1 : H r1 = some (.tup [.int p, .int q, .int c])) (e2 : H r2 = some (.tup [.int p', .int q', .int c'])) (hp : p = p') (hq : q = q') (hc : c = c') (h : Q (.bl false) H) : rNeD K (.ref r1) (.ref r2) H Q := by
  subst hp hq hc
  refine ⟨.tuple [.int p, .int q, .int c], .tuple [.int p, .int q, .int c], Dp.tup (SqT.of e1) (.cons (.int p) (.cons (.int q) (.cons (.int c) .nil))), Dp.tup (SqT.of e2) (.cons (.int p) (.cons (.int q) (.cons (.int c) .nil))), rfl, rfl, ?_⟩
  rw [SeqAt.eqv_refl _ rfl]
  exact h
theorem logR {k : Nat} {i : Int} (h : Bd k i) (hk : k ≤ 1920) : i.natAbs.log2 < 1920 := (h.mono hk).log (by decide)
def spLaw (K : PySem.W.Frag) : Sp := fun vs H Q _ => ∃ (a : Addr) (ns : List Int), vs = [.ref a] ∧ SqL K H a (ns.map V.int) ∧ ns.length ≤ 63 ∧ ∀ H', Q (.bl true) H'
end Lf
namespace Lf
open PySem PySem.Spec PyProof.Rows L2
/-! ### conflicts: no rate fits -/
def FitM (ds : List Rec) (p q : Int) : Prop := ∀ d ∈ ds, ∀ e ∈ ds, d.lo = true → e.lo = false → p * (e.t - d.t) < (e.n + 1 - d.n) * q
def Cf (ds : List Rec) : Prop := ∀ p q : Int, 0 ≤ p → 1 ≤ q → ¬ FitM ds p q
theorem FitM.sub {ds es : List Rec} {p q : Int} (h : FitM ds p q) (s : ∀ d ∈ es, d ∈ ds) : FitM es p q := fun d hd e he => h d (s d hd) e (s e he)
theorem Cf.sub {ds es : List Rec} (h : Cf es) (s : ∀ d ∈ es, d ∈ ds) : Cf ds := fun p q hp hq f => h p q hp hq (f.sub s)
theorem not_cf {ds : List Rec} (h : ¬ Cf ds) : ∃ p q : Int, 0 ≤ p ∧ 1 ≤ q ∧ FitM ds p q := by
  unfold Cf at h
  simp only [Classical.not_forall, Classical.not_not] at h
  obtain ⟨p, q, hp, hq, f⟩ := h
  exact ⟨p, q, hp, hq, f⟩
theorem fitm_sd {ds : List Rec} {p q : Int} : (∀ x y, SD ds x y → p * (y.2.1 - x.2.1) < (y.2.2 + 1 - x.2.2) * q) ↔ FitM ds p q := by
  constructor
  · intro h d hd e he ld le
    obtain ⟨i, ei⟩ := List.mem_iff_getElem?.mp hd
    obtain ⟨j, ej⟩ := List.mem_iff_getElem?.mp he
    exact h _ _ ⟨mem_sel ei ld 0, mem_sel ej le 0⟩
  · rintro h x y ⟨hx, hy⟩
    obtain ⟨i, d, ei, ld, rfl⟩ := sel_mem hx
    obtain ⟨j, e, ej, le, rfl⟩ := sel_mem hy
    exact h d (List.mem_of_getElem? ei) e (List.mem_of_getElem? ej) ld le
/-- where the bounds leave room there is a rate -/
theorem nr_some {S : T3 → T3 → Prop} {lo up : Option T4} (hl : LoOk S lo) (hu : UpOk S up) (h : nr lo up = false) : ∃ p q : Int, 0 ≤ p ∧ 1 ≤ q ∧ RateIn lo up p q := by
  cases up with
  | none =>
    cases lo with
    | none => exact ⟨0, 1, by omega, by omega, fun z e => (nomatch e), fun z e => (nomatch e)⟩
    | some l =>
      have dl := hl.den l rfl
      refine ⟨(if l.1 < 0 then 0 else l.1) + 1, 1, ?_, by omega, fun z e => ?_, fun z e => (nomatch e)⟩
      · by_cases c : l.1 < 0
        · rw [if_pos c]
          omega
        · rw [if_neg c]
          omega
      · cases e
        have key : l.1 < (if l.1 < 0 then 0 else l.1) + 1 ∧ 0 ≤ (if l.1 < 0 then 0 else l.1) + 1 := by
          by_cases c : l.1 < 0
          · rw [if_pos c]
            omega
          · rw [if_neg c]
            omega
        generalize (if l.1 < 0 then 0 else l.1) + 1 = a at key
        have := Int.mul_le_mul_of_nonneg_left dl key.2
        omega
  | some z =>
    have dz := hu.den z rfl
    cases lo with
    | none =>
      have h : decide (z.1 ≤ 0) = false := h
      have h := of_decide_eq_false h
      exact ⟨0, 1, by omega, by omega, fun z e => (nomatch e), fun y e => by cases e; omega⟩
    | some l =>
      have dl := hl.den l rfl
      have h : (decide (z.1 ≤ 0) || decide (z.1 * l.2.1 ≤ l.1 * z.2.1)) = false := h
      rw [Bool.or_eq_false_iff] at h
      have h1 := of_decide_eq_false h.1
      have h2 := of_decide_eq_false h.2
      by_cases c : l.1 < 0
      · refine ⟨0, 1, by omega, by omega, fun y e => ?_, fun y e => ?_⟩
        · cases e
          omega
        · cases e
          omega
      · refine ⟨l.1 + z.1, l.2.1 + z.2.1, by omega, by omega, fun y e => ?_, fun y e => ?_⟩
        · cases e
          rw [Int.mul_add, Int.add_mul]
          omega
        · cases e
          rw [Int.mul_add, Int.add_mul]
          omega
theorem nr_cf {ds : List Rec} {lo up : Option T4} (hl : LoOk (SD ds) lo) (hu : UpOk (SD ds) up) : nr lo up = true ↔ Cf ds := by
  constructor
  · intro h p q hp hq f
    exact nr_none hp hq hl hu h ((rate_iff hp hq hl hu).mp (fitm_sd.mpr f))
  · intro h
    cases e : nr lo up with
    | true => rfl
    | false =>
      obtain ⟨p, q, hp, hq, r⟩ := nr_some hl hu e
      exact absurd (fitm_sd.mp ((rate_iff hp hq hl hu).mpr r)) (h p q hp hq)
/-! ### three of four -/
theorem cf3_a {t1 n1 u1 m1 t2 n2 p q : Int} (hq : 1 ≤ q) (D0 : u1 < t1) (a : u1 ≥ t2) (X : 0 ≤ (n2 - m1 - 1) * (t1 - u1) + (n1 - m1 - 1) * (u1 - t2))
    (h1 : p * (u1 - t1) < (m1 + 1 - n1) * q) (h2 : p * (u1 - t2) < (m1 + 1 - n2) * q) : False := by
  have e1 : (n1 - m1 - 1) * q < p * (t1 - u1) := by
    have a1 : (n1 - m1 - 1) * q = -((m1 + 1 - n1) * q) := by grind
    have a2 : p * (t1 - u1) = -(p * (u1 - t1)) := by grind
    omega
  have g1 := Int.mul_le_mul_of_nonneg_right (Int.le_of_lt e1) (show 0 ≤ u1 - t2 by omega)
  have g2 := Int.mul_lt_mul_of_pos_right h2 (show 0 < t1 - u1 by omega)
  have g3 := Int.mul_nonneg X (show 0 ≤ q by omega)
  have b1 : p * (u1 - t2) * (t1 - u1) = p * (t1 - u1) * (u1 - t2) := by grind
  have b2 : (m1 + 1 - n2) * q * (t1 - u1) = -((n2 - m1 - 1) * (t1 - u1) * q) := by grind
  have b3 : (n1 - m1 - 1) * q * (u1 - t2) = (n1 - m1 - 1) * (u1 - t2) * q := by grind
  rw [Int.add_mul] at g3
  omega
theorem cf3_b {A D u1 m1 t2 n2 u2 m2 p q : Int} (hq : 1 ≤ q) (D0 : 0 < D) (a : u1 < t2) (hu : t2 < u2) (X : 0 ≤ (n2 - m1 - 1) * D + A * (u1 - t2)) (Y : 0 ≤ (n2 - m2 - 1) * D + A * (u2 - t2))
    (h1 : p * (u1 - t2) < (m1 + 1 - n2) * q) (h2 : p * (u2 - t2) < (m2 + 1 - n2) * q) : False := by
  have g1 := Int.mul_lt_mul_of_pos_right h1 D0
  have g2 := Int.mul_nonneg X (show 0 ≤ q by omega)
  have b1 : (m1 + 1 - n2) * q * D = -((n2 - m1 - 1) * D * q) := by grind
  have b2 : p * (u1 - t2) * D = -(p * D * (t2 - u1)) := by grind
  have b3 : A * (u1 - t2) * q = -(A * q * (t2 - u1)) := by grind
  rw [Int.add_mul] at g2
  have g3 : A * q * (t2 - u1) < p * D * (t2 - u1) := by omega
  have g4 : A * q < p * D := Int.lt_of_mul_lt_mul_right g3 (by omega)
  have g5 := Int.mul_lt_mul_of_pos_right g4 (show 0 < u2 - t2 by omega)
  have g6 := Int.mul_lt_mul_of_pos_right h2 D0
  have g7 := Int.mul_nonneg Y (show 0 ≤ q by omega)
  have b4 : (m2 + 1 - n2) * q * D = -((n2 - m2 - 1) * D * q) := by grind
  have b5 : p * (u2 - t2) * D = p * D * (u2 - t2) := by grind
  have b6 : A * (u2 - t2) * q = A * q * (u2 - t2) := by grind
  rw [Int.add_mul] at g7
  omega
theorem cf3_c {t1 n1 u1 m1 u2 m2 p q : Int} (hq : 1 ≤ q) (D0 : u1 < t1) (a : u2 ≥ t1) (X : 0 ≤ (n1 - m2 - 1) * (t1 - u1) + (n1 - m1 - 1) * (u2 - t1))
    (h1 : p * (u1 - t1) < (m1 + 1 - n1) * q) (h2 : p * (u2 - t1) < (m2 + 1 - n1) * q) : False := by
  have e1 : (n1 - m1 - 1) * q < p * (t1 - u1) := by
    have a1 : (n1 - m1 - 1) * q = -((m1 + 1 - n1) * q) := by grind
    have a2 : p * (t1 - u1) = -(p * (u1 - t1)) := by grind
    omega
  have g1 := Int.mul_le_mul_of_nonneg_right (Int.le_of_lt e1) (show 0 ≤ u2 - t1 by omega)
  have g2 := Int.mul_lt_mul_of_pos_right h2 (show 0 < t1 - u1 by omega)
  have g3 := Int.mul_nonneg X (show 0 ≤ q by omega)
  have b1 : p * (u2 - t1) * (t1 - u1) = p * (t1 - u1) * (u2 - t1) := by grind
  have b2 : (m2 + 1 - n1) * q * (t1 - u1) = -((n1 - m2 - 1) * (t1 - u1) * q) := by grind
  have b3 : (n1 - m1 - 1) * q * (u2 - t1) = (n1 - m1 - 1) * (u2 - t1) * q := by grind
  rw [Int.add_mul] at g3
  omega
theorem cf3_d {A D t1 n1 t2 n2 u2 m2 p q : Int} (hq : 1 ≤ q) (D0 : 0 < D) (a : u2 < t1) (hu : t2 < u2) (X : 0 ≤ (n1 - m2 - 1) * D + A * (u2 - t1)) (Y : 0 ≤ (n2 - m2 - 1) * D + A * (u2 - t2))
    (h1 : p * (u2 - t1) < (m2 + 1 - n1) * q) (h2 : p * (u2 - t2) < (m2 + 1 - n2) * q) : False := by
  have g1 := Int.mul_lt_mul_of_pos_right h1 D0
  have g2 := Int.mul_nonneg X (show 0 ≤ q by omega)
  have b1 : (m2 + 1 - n1) * q * D = -((n1 - m2 - 1) * D * q) := by grind
  have b2 : p * (u2 - t1) * D = -(p * D * (t1 - u2)) := by grind
  have b3 : A * (u2 - t1) * q = -(A * q * (t1 - u2)) := by grind
  rw [Int.add_mul] at g2
  have g3 : A * q * (t1 - u2) < p * D * (t1 - u2) := by omega
  have g4 : A * q < p * D := Int.lt_of_mul_lt_mul_right g3 (by omega)
  have g5 := Int.mul_lt_mul_of_pos_right g4 (show 0 < u2 - t2 by omega)
  have g6 := Int.mul_lt_mul_of_pos_right h2 D0
  have g7 := Int.mul_nonneg Y (show 0 ≤ q by omega)
  have b4 : (m2 + 1 - n2) * q * D = -((n2 - m2 - 1) * D * q) := by grind
  have b5 : p * (u2 - t2) * D = p * D * (u2 - t2) := by grind
  have b6 : A * (u2 - t2) * q = A * q * (u2 - t2) := by grind
  rw [Int.add_mul] at g7
  omega
theorem cf_four {d1 e1 d2 e2 : Rec} (ld1 : d1.lo = true) (le1 : e1.lo = false) (ld2 : d2.lo = true) (le2 : e2.lo = false) (h1 : e1.t < d1.t) (h2 : d2.t < e2.t)
    (c : (e2.n + 1 - d2.n) * (d1.t - e1.t) ≤ (d1.n - e1.n - 1) * (e2.t - d2.t)) : Cf [d1, e1, d2] ∨ Cf [d2, e1, e2] ∨ Cf [d1, e1, e2] ∨ Cf [d1, d2, e2] := by
  have Y : 0 ≤ (d2.n - e2.n - 1) * (d1.t - e1.t) + (d1.n - e1.n - 1) * (e2.t - d2.t) := by
    have b1 : (e2.n + 1 - d2.n) * (d1.t - e1.t) = -((d2.n - e2.n - 1) * (d1.t - e1.t)) := by grind
    omega
  have sum : ((d2.n - e1.n - 1) * (d1.t - e1.t) + (d1.n - e1.n - 1) * (e1.t - d2.t)) + ((d1.n - e2.n - 1) * (d1.t - e1.t) + (d1.n - e1.n - 1) * (e2.t - d1.t)) = (d2.n - e2.n - 1) * (d1.t - e1.t) + (d1.n - e1.n - 1) * (e2.t - d2.t) := by grind
  rcases Int.le_total 0 ((d2.n - e1.n - 1) * (d1.t - e1.t) + (d1.n - e1.n - 1) * (e1.t - d2.t)) with X | X
  · by_cases a : e1.t ≥ d2.t
    · refine .inl fun p q hp hq f => ?_
      exact cf3_a hq h1 a X (f d1 (by simp) e1 (by simp) ld1 le1) (f d2 (by simp) e1 (by simp) ld2 le1)
    · refine .inr (.inl fun p q hp hq f => ?_)
      exact cf3_b hq (show 0 < d1.t - e1.t by omega) (by omega) h2 X Y (f d2 (by simp) e1 (by simp) ld2 le1) (f d2 (by simp) e2 (by simp) ld2 le2)
  · have X : 0 ≤ (d1.n - e2.n - 1) * (d1.t - e1.t) + (d1.n - e1.n - 1) * (e2.t - d1.t) := by omega
    by_cases a : e2.t ≥ d1.t
    · refine .inr (.inr (.inl fun p q hp hq f => ?_))
      exact cf3_c hq h1 a X (f d1 (by simp) e1 (by simp) ld1 le1) (f d1 (by simp) e2 (by simp) ld1 le2)
    · refine .inr (.inr (.inr fun p q hp hq f => ?_))
      exact cf3_d hq (show 0 < d1.t - e1.t by omega) (by omega) h2 X Y (f d1 (by simp) e2 (by simp) ld1 le2) (f d2 (by simp) e2 (by simp) ld2 le2)
/-- records picked by their indexes -/
def pk (ds : List Rec) (js : List Nat) : List Rec := js.filterMap fun j => ds[j]?
theorem mem_pk {ds : List Rec} {js : List Nat} {d : Rec} : d ∈ pk ds js ↔ ∃ j, j ∈ js ∧ ds[j]? = some d := List.mem_filterMap
theorem pk_sub {ds : List Rec} {js is : List Nat} (h : ∀ j ∈ js, j ∈ is) : ∀ d ∈ pk ds js, d ∈ pk ds is := fun d hd => by
  obtain ⟨j, hj, e⟩ := mem_pk.mp hd
  exact mem_pk.mpr ⟨j, h j hj, e⟩
theorem pk_all {ds : List Rec} {js : List Nat} : ∀ d ∈ pk ds js, d ∈ ds := fun d hd => by
  obtain ⟨j, hj, e⟩ := mem_pk.mp hd
  exact List.mem_of_getElem? e
theorem pk_len {ds : List Rec} {js : List Nat} (h : ∀ j ∈ js, j < ds.length) : (pk ds js).length = js.length := by
  induction js with
  | nil => rfl
  | cons j r ih =>
    have hj := h j List.mem_cons_self
    have e : ds[j]? = some ds[j] := List.getElem?_eq_getElem hj
    show (List.filterMap _ (j :: r)).length = _
    rw [List.filterMap_cons, e]
    show ((pk ds r).length + 1) = _
    rw [ih fun k hk => h k (List.mem_cons_of_mem _ hk)]
    rfl
theorem pk_app {ds : List Rec} {js is : List Nat} : pk ds (js ++ is) = pk ds js ++ pk ds is := List.filterMap_append
theorem pk_one {ds : List Rec} {j : Nat} {d : Rec} (e : ds[j]? = some d) : pk ds [j] = [d] := by
  show List.filterMap _ [j] = _
  rw [List.filterMap_cons, e]
  rfl
theorem pk_at {ds : List Rec} {js : List Nat} (h : ∀ j ∈ js, j < ds.length) {i j : Nat} (e : js[i]? = some j) : (pk ds js)[i]? = ds[j]? := by
  induction js generalizing i with
  | nil => cases e
  | cons k r ih =>
    have hk := h k List.mem_cons_self
    have ek : ds[k]? = some ds[k] := List.getElem?_eq_getElem hk
    show (List.filterMap _ (k :: r))[i]? = _
    rw [List.filterMap_cons, ek]
    cases i with
    | zero =>
      cases e
      exact ek.symm
    | succ i => exact ih (fun x hx => h x (List.mem_cons_of_mem _ hx)) e
/-- a conflict none of whose records can be left out -/
structure Least (ds : List Rec) (js : List Nat) : Prop where
  up : js.Pairwise (· < ·)
  lt : ∀ j ∈ js, j < ds.length
  cf : Cf (pk ds js)
  mn : ∀ j ∈ js, ¬ Cf (pk ds (js.filter (· ≠ j)))
  le : js.length ≤ 3
theorem cf_two {ds : List Rec} (h : Cf ds) : ∃ d e, d ∈ ds ∧ e ∈ ds ∧ d.lo = true ∧ e.lo = false := by
  refine Classical.byContradiction fun n => h 0 1 (by omega) (by omega) fun d hd e he ld le => ?_
  exact absurd ⟨d, e, hd, he, ld, le⟩ n
theorem cf_len {ds : List Rec} (h : Cf ds) : 2 ≤ ds.length := by
  obtain ⟨d, e, hd, he, ld, le⟩ := cf_two h
  match ds, hd, he with
  | [a], hd, he =>
    rw [List.mem_singleton.mp hd] at ld
    rw [List.mem_singleton.mp he, ld] at le
    cases le
  | a :: b :: r, _, _ =>
    rw [List.length_cons, List.length_cons]
    omega
theorem Least.ge {ds : List Rec} {js : List Nat} (h : Least ds js) : 2 ≤ js.length := by
  have := cf_len h.cf
  rw [pk_len h.lt] at this
  exact this
/-- what conflicts within a least conflict is all of it -/
theorem Least.all {ds : List Rec} {js is : List Nat} (h : Least ds js) (s : ∀ i ∈ is, i ∈ js) (c : Cf (pk ds is)) : ∀ j ∈ js, j ∈ is := fun j hj => by
  refine Classical.byContradiction fun n => h.mn j hj (c.sub (pk_sub fun i hi => ?_))
  rw [List.mem_filter]
  exact ⟨s i hi, decide_eq_true fun e => n (e ▸ hi)⟩
theorem lo_at {ds : List Rec} {z : T4} (h : LoOk (SD ds) (some z)) : ∃ (i j : Nat) (d e : Rec), ds[i]? = some d ∧ ds[j]? = some e ∧ d.lo = true ∧ e.lo = false ∧ e.t < d.t ∧ z = (d.n - e.n - 1, d.t - e.t, (i : Int), (j : Int)) := by
  obtain ⟨⟨x, y, ⟨hx, hy⟩, g, rfl⟩, _⟩ := h
  obtain ⟨i, d, ei, ld, rfl⟩ := sel_mem hx
  obtain ⟨j, e, ej, le, rfl⟩ := sel_mem hy
  rw [Nat.zero_add, Nat.zero_add] at *
  exact ⟨i, j, d, e, ei, ej, ld, le, g, rfl⟩
theorem up_at {ds : List Rec} {z : T4} (h : UpOk (SD ds) (some z)) : ∃ (i j : Nat) (d e : Rec), ds[i]? = some d ∧ ds[j]? = some e ∧ d.lo = true ∧ e.lo = false ∧ ¬ e.t < d.t ∧ (d.t < e.t ∨ d.n > e.n) ∧ z.1 = e.n + 1 - d.n ∧ (d.t < e.t → z.2.1 = e.t - d.t) ∧ z.2.2 = ((i : Int), (j : Int)) := by
  obtain ⟨⟨x, y, ⟨hx, hy⟩, g, rfl⟩, _⟩ := h
  obtain ⟨i, d, ei, ld, rfl⟩ := sel_mem hx
  obtain ⟨j, e, ej, le, rfl⟩ := sel_mem hy
  rw [Nat.zero_add, Nat.zero_add] at *
  exact ⟨i, j, d, e, ei, ej, ld, le, g.1, g.2, rfl, fun c => bot_eq c, rfl⟩
end Lf
namespace Lf
open PySem PySem.Spec PyProof.Rows L2
/-! ### the rule that fits, and what follows -/
theorem opp_opp (d : Rec) : opp (opp d) = d := by
  obtain ⟨lo, t, n⟩ := d
  cases lo
  · show Rec.mk false t (n + 1 - 1) = _
    rw [show n + 1 - 1 = n by omega]
  · show Rec.mk true t (n - 1 + 1) = _
    rw [show n - 1 + 1 = n by omega]
theorem fit_opp {p q c : Int} (d : Rec) : fitB p q c (opp d) = !fitB p q c d := by
  obtain ⟨lo, t, n⟩ := d
  cases lo
  · show decide (n + 1 ≤ (p * t + c) / q) = !decide ((p * t + c) / q ≤ n)
    rw [Bool.eq_iff_iff]
    simp
    omega
  · show decide ((p * t + c) / q ≤ n - 1) = !decide (n ≤ (p * t + c) / q)
    rw [Bool.eq_iff_iff]
    simp
    omega
theorem opp_bd {k : Nat} {d : Rec} (k0 : 0 < k) (h : Bd k d.t ∧ Bd k d.n) : Bd (k + 1) (opp d).t ∧ Bd (k + 1) (opp d).n := by
  refine ⟨h.1.mono (by omega), ?_⟩
  show Bd (k + 1) (if d.lo = true then d.n - 1 else d.n + 1)
  by_cases c : d.lo = true
  · rw [if_pos c]
    exact Bd.sub h.2 (Bd.small 1 (by decide) k0)
  · rw [if_neg c]
    exact Bd.add h.2 (Bd.small 1 (by decide) k0)
/-- a rule that fits shows that there is no conflict -/
theorem fits_m {p q c : Int} {ds : List Rec} (hq : 1 ≤ q) (h : ds.all (fitB p q c) = true) : FitM ds p q := by
  rw [List.all_eq_true] at h
  intro d hd e he ld le
  have h1 := (fit_lo hq ld).mp (h d hd)
  have h2 := (fit_hi hq le).mp (h e he)
  rw [Int.mul_sub, Int.sub_mul (e.n + 1)]
  omega
theorem fits_nc {p q c : Int} {ds : List Rec} (hp : 0 ≤ p) (hq : 1 ≤ q) (h : ds.all (fitB p q c) = true) : ¬ Cf ds := fun z => z p q hp hq (fits_m hq h)
theorem sim_gcd {p q t b N D : Int} (s : Sim p q t b N D) : Int.gcd N D = 1 := by
  obtain ⟨d1, n1, ⟨b1, b2⟩, mi⟩ := s
  have g0 : 0 < (Int.gcd N D : Int) := gcd_pos d1
  have eN : (Int.gcd N D : Int) * (N / (Int.gcd N D : Int)) = N := Int.mul_ediv_cancel' (Int.gcd_dvd_left ..)
  have eD : (Int.gcd N D : Int) * (D / (Int.gcd N D : Int)) = D := Int.mul_ediv_cancel' (Int.gcd_dvd_right ..)
  have key : (Int.gcd N D : Int) = 1 := by
    generalize (Int.gcd N D : Int) = g at *
    generalize N / g = n' at *
    generalize D / g = d' at *
    have hd' : 1 ≤ d' := by
      have : 0 < d' * g := by
        rw [Int.mul_comm]
        omega
      have := pos_of_mul this (by omega)
      omega
    have h := (mi n' d' hd' ⟨?_, ?_⟩).1
    · have e : g * d' ≤ 1 * d' := by omega
      have := Int.le_of_mul_le_mul_right e (by omega)
      omega
    · refine Int.lt_of_mul_lt_mul_left (a := g) ?_ (by omega)
      have e1 : g * (p * d') = p * (g * d') := by grind
      have e2 : g * (n' * q) = g * n' * q := by grind
      rw [e1, e2, eN, eD]
      exact b1
    · refine Int.lt_of_mul_lt_mul_left (a := g) ?_ (by omega)
      have e1 : g * (n' * b) = g * n' * b := by grind
      have e2 : g * (t * d') = t * (g * d') := by grind
      rw [e1, e2, eN, eD]
      exact b2
  omega
theorem ends_ok {S : T3 → T3 → Prop} {lo up : Option T4} (hl : LoOk S lo) (hu : UpOk S up) (h : nr lo up = false) : OkE (lowE lo) (highE up) := by
  cases up with
  | none =>
    show OkE (lowE lo) none
    cases lowE lo <;> trivial
  | some z =>
    have dz := hu.den z rfl
    have pz : 0 < z.1 := by
      rcases Int.lt_or_le 0 z.1 with g | g
      · exact g
      · exfalso
        cases lo with
        | none =>
          have h : decide (z.1 ≤ 0) = false := h
          rw [decide_eq_true g] at h
          cases h
        | some l =>
          have h : (decide (z.1 ≤ 0) || decide (z.1 * l.2.1 ≤ l.1 * z.2.1)) = false := h
          rw [decide_eq_true g] at h
          cases h
    have up0 : 0 < (redE z).1 := by
      have := (red_lt_iff (p := 0) (q := 1) dz).2.mpr (by omega)
      omega
    cases lo with
    | none => exact up0
    | some l =>
      have dl := hl.den l rfl
      show OkE (if l.1 < 0 then none else some (redE l)) (some (redE z))
      by_cases c : l.1 < 0
      · rw [if_pos c]
        exact up0
      · rw [if_neg c]
        have h : (decide (z.1 ≤ 0) || decide (z.1 * l.2.1 ≤ l.1 * z.2.1)) = false := h
        rw [decide_eq_false (show ¬ z.1 ≤ 0 by omega), Bool.false_or] at h
        have h := of_decide_eq_false h
        exact (red_lt_iff (p := (redE z).1) (q := (redE z).2) dl).1.mpr ((red_lt_iff (p := l.1) (q := l.2.1) dz).2.mpr (by omega))
theorem res_ins {e1 e2 : Option (Int × Int)} {N D : Int} (ok : OkE e1 e2) (h : ResE e1 e2 N D) : 0 ≤ N ∧ 1 ≤ D ∧ Int.gcd N D = 1 ∧ Ins e1 e2 N D := by
  match e1, e2, ok, h with
  | none, none, _, ⟨h1, h2⟩ =>
    subst h1 h2
    exact ⟨by omega, by omega, by decide, fun z e => (nomatch e), fun z e => (nomatch e)⟩
  | none, some t, ok, ⟨h1, h2⟩ =>
    subst h1 h2
    have ok : 0 < t.1 := ok
    refine ⟨by omega, by omega, by decide, fun z e => (nomatch e), fun z e => ?_⟩
    cases e
    omega
  | some l, none, _, h =>
    have h : Sim l.1 l.2 1 0 N D := h
    refine ⟨by have := h.n1; omega, h.d1, sim_gcd h, fun z e => ?_, fun z e => (nomatch e)⟩
    cases e
    exact h.bt.1
  | some l, some t, _, h =>
    have h : Sim l.1 l.2 t.1 t.2 N D := h
    refine ⟨by have := h.n1; omega, h.d1, sim_gcd h, fun z e => ?_, fun z e => ?_⟩
    · cases e
      exact h.bt.1
    · cases e
      exact h.bt.2
end Lf
namespace Lf
open PySem PySem.Spec PyProof.Rows L2
section
variable {P : Program} {w : World} {K : PySem.W.Frag} {mg : Str → Option Value} {base : Heap}
/-! ### divide_up -/
def spDivU : Sp := fun vs H Q _ => ∃ (x s : Int), vs = [.int x, .int s] ∧ 0 < s ∧ Bd 9000 s ∧ Q (.int (-(-x / s))) H
abbrev s_divide_up : Stmt := topS 9
abbrev N_divide_up : List Str := ["number", "divisor"]
abbrev P_divide_up : List Str := ["number", "divisor"]
theorem sc_divide_up : FnScope N_divide_up P_divide_up (defScope s_divide_up) := ⟨rfl, rfl, rfl, by decide +kernel, rfl, by decide +kernel, by decide +kernel⟩
theorem ok_divide_up (D : Df K mg "divide_up" s_divide_up P_divide_up) : C8.Cal P w K mg base 1 "divide_up" spDivU [] := by
  refine cal_of D sc_divide_up (fun vs H Q E h => ?_) (fun f cdv A outer s H vs Q E hr h => ?_)
  · obtain ⟨x, s, rfl, _⟩ := h
    rfl
  · obtain ⟨x, s, rfl, hs, bs, q⟩ := h
    refine ⟨_, (pss_one (ps_ret (pe_un un_neg (pe_op op_fdivW (pe_un un_neg (pv 0)) (pv 1))))), ?_⟩
    exact ⟨_, rfl, _, rfl, _, rfl, _, _, rfl, rfl, divW hs bs (by decide), _, rfl, q⟩
end
end Lf
namespace Lf
/-! ### the least multiple in an arc -/
def dvu (x s : Int) : Int := -(-x / s)
theorem dvu_le {x s n : Int} (hs : 0 < s) : dvu x s ≤ n ↔ x ≤ s * n := by
  unfold dvu
  have := Int.le_ediv_iff_mul_le (a := -n) (b := -x) hs
  rw [Int.neg_mul, Int.mul_comm n s] at this
  omega
theorem dvu_ge {x s : Int} (hs : 0 < s) : x ≤ s * dvu x s := (dvu_le hs).mp (Int.le_refl _)
theorem dvu_lt {x s : Int} (hs : 0 < s) : s * dvu x s < x + s := by
  have h : ¬ dvu x s ≤ dvu x s - 1 := by omega
  rw [dvu_le hs, Int.mul_sub, Int.mul_one] at h
  omega
def HitM (s m lo hi n : Int) : Prop := lo ≤ s * n % m ∧ s * n % m ≤ hi
def Lst (P : Int → Prop) (n : Int) : Prop := 0 ≤ n ∧ P n ∧ ∀ k, 0 ≤ k → k < n → ¬ P k
def NoM (P : Int → Prop) : Prop := ∀ n, 0 ≤ n → ¬ P n
theorem mod_of {x m r k : Int} (h0 : 0 ≤ r) (h1 : r < m) (e : x = r + m * k) : x % m = r := by
  rw [e, Int.add_mul_emod_self_left]
  exact Int.emod_eq_of_lt h0 h1
theorem hit_flip {s m lo hi n : Int} (h0 : 0 < lo) (h1 : lo ≤ hi) (h2 : hi < m) : HitM (m - s) m (m - hi) (m - lo) n ↔ HitM s m lo hi n := by
  have hm : 0 < m := by omega
  have e := Int.emod_add_mul_ediv (s * n) m
  have r0 := Int.emod_nonneg (s * n) (show m ≠ 0 by omega)
  have r1 := Int.emod_lt_of_pos (s * n) hm
  unfold HitM
  by_cases hz : s * n % m = 0
  · have : (m - s) * n % m = 0 := mod_of (k := n - s * n / m) (by omega) hm (by rw [Int.sub_mul, Int.mul_sub]; omega)
    rw [this, hz]
    omega
  · have : (m - s) * n % m = m - s * n % m := mod_of (k := n - s * n / m - 1) (by omega) (by omega) (by rw [Int.sub_mul, Int.mul_sub, Int.mul_sub]; omega)
    rw [this]
    omega
theorem lst_iff {P Q : Int → Prop} (h : ∀ n, P n ↔ Q n) (n : Int) : Lst P n ↔ Lst Q n := by
  unfold Lst
  rw [h n]
  constructor
  · rintro ⟨a, b, c⟩
    exact ⟨a, b, fun k h0 h1 z => c k h0 h1 ((h k).mpr z)⟩
  · rintro ⟨a, b, c⟩
    exact ⟨a, b, fun k h0 h1 z => c k h0 h1 ((h k).mp z)⟩
theorem lst_lt {s m lo hi n : Int} (hm : 0 < m) (h : Lst (HitM s m lo hi) n) : n < m := by
  obtain ⟨h0, h1, h2⟩ := h
  rcases Int.lt_or_le n m with z | z
  · exact z
  · refine absurd ?_ (h2 (n - m) (by omega) (by omega))
    unfold HitM at *
    rw [show s * (n - m) = s * n + m * (-s) by rw [Int.mul_sub, Int.mul_neg, Int.mul_comm m s]; omega, Int.add_mul_emod_self_left]
    exact h1
theorem hit_base {s m lo hi : Int} (hs : 0 < s) (h0 : 0 < lo) (h2 : hi < m) (h : s * dvu lo s ≤ hi) : Lst (HitM s m lo hi) (dvu lo s) := by
  have g := dvu_ge (x := lo) hs
  have pos : 0 ≤ dvu lo s := by
    rcases Int.lt_or_le (dvu lo s) 0 with z | z
    · have := Int.mul_le_mul_of_nonneg_left (show dvu lo s ≤ 0 by omega) (Int.le_of_lt hs)
      rw [Int.mul_zero] at this
      omega
    · exact z
  refine ⟨pos, ?_, fun k k0 k1 => ?_⟩
  · unfold HitM
    rw [Int.emod_eq_of_lt (by omega) (by omega)]
    omega
  · have : ¬ lo ≤ s * k := fun z => by
      have := (dvu_le hs).mpr z
      omega
    have p := Int.mul_nonneg (Int.le_of_lt hs) k0
    unfold HitM
    rw [Int.emod_eq_of_lt (by omega) (by omega)]
    omega
/-- the facts of one step down -/
theorem down_facts {s lo hi : Int} (hs : 0 < s) (h1 : lo ≤ hi) (h : hi < s * dvu lo s) : 0 < lo % s ∧ hi / s = lo / s ∧ lo % s ≤ hi % s := by
  have l := dvu_lt (x := lo) hs
  have g := dvu_ge (x := lo) hs
  have el := Int.emod_add_mul_ediv lo s
  have eh := Int.emod_add_mul_ediv hi s
  have l0 := Int.emod_nonneg lo (show s ≠ 0 by omega)
  have l1 := Int.emod_lt_of_pos lo hs
  have hq0 := Int.emod_nonneg hi (show s ≠ 0 by omega)
  have hq1 := Int.emod_lt_of_pos hi hs
  generalize dvu lo s = d at *
  have hd : lo / s = d - 1 := by
    have a1 : s * (lo / s) < s * d := by omega
    have a2 := Int.lt_of_mul_lt_mul_left a1 (Int.le_of_lt hs)
    have a3 : s * (d - 1) < s * (lo / s + 1) := by rw [Int.mul_sub, Int.mul_add]; omega
    have a4 := Int.lt_of_mul_lt_mul_left a3 (Int.le_of_lt hs)
    omega
  have hh : hi / s = d - 1 := by
    have a1 : s * (hi / s) < s * d := by omega
    have a2 := Int.lt_of_mul_lt_mul_left a1 (Int.le_of_lt hs)
    have a3 : s * (d - 1) < s * (hi / s + 1) := by rw [Int.mul_sub, Int.mul_add]; omega
    have a4 := Int.lt_of_mul_lt_mul_left a3 (Int.le_of_lt hs)
    omega
  rw [hd, Int.mul_sub] at el
  rw [hh, Int.mul_sub] at eh
  omega
theorem down_iff {s m lo hi k : Int} (hs : 0 < s) (h1 : lo ≤ hi) (h : hi < s * dvu lo s) :
    HitM (-m % s) s (lo % s) (hi % s) k ↔ (lo ≤ s * dvu (lo + m * k) s - m * k ∧ s * dvu (lo + m * k) s - m * k ≤ hi) := by
  obtain ⟨d1, d2, d3⟩ := down_facts hs h1 h
  have el := Int.emod_add_mul_ediv lo s
  have eh := Int.emod_add_mul_ediv hi s
  have hq1 := Int.emod_lt_of_pos hi hs
  have g := dvu_ge (x := lo + m * k) hs
  have l := dvu_lt (x := lo + m * k) hs
  have em : -m % s * k % s = (s * dvu (lo + m * k) s - m * k) % s := by
    have e1 := Int.emod_add_mul_ediv (-m) s
    rw [show s * dvu (lo + m * k) s - m * k = -m % s * k + s * (dvu (lo + m * k) s + -m / s * k) by
      have : (-m % s + s * (-m / s)) * k = -m * k := by rw [e1]
      rw [Int.add_mul, Int.neg_mul] at this
      rw [Int.mul_add, ← Int.mul_assoc]
      omega, Int.add_mul_emod_self_left]
  unfold HitM
  rw [em]
  have hx0 : lo ≤ s * dvu (lo + m * k) s - m * k := by omega
  have hx1 : s * dvu (lo + m * k) s - m * k < lo + s := by omega
  clear em g l
  generalize s * dvu (lo + m * k) s - m * k = x at hx0 hx1 ⊢
  have ex := Int.emod_add_mul_ediv x s
  have r0 := Int.emod_nonneg x (show s ≠ 0 by omega)
  have r1 := Int.emod_lt_of_pos x hs
  have hx : x / s = lo / s ∨ x / s = lo / s + 1 := by
    have a1 : s * (lo / s) < s * (x / s + 1) := by rw [Int.mul_add]; omega
    have a2 := Int.lt_of_mul_lt_mul_left a1 (Int.le_of_lt hs)
    have a3 : s * (x / s) < s * (lo / s + 2) := by rw [Int.mul_add]; omega
    have a4 := Int.lt_of_mul_lt_mul_left a3 (Int.le_of_lt hs)
    omega
  rcases hx with z | z
  · rw [z] at ex
    rw [d2] at eh
    omega
  · rw [z, Int.mul_add] at ex
    rw [d2] at eh
    omega
theorem down_hit {s m lo hi n : Int} (hs : 0 < s) (hm : 0 < m) (h0 : 0 < lo) (h1 : lo ≤ hi) (h : hi < s * dvu lo s) (n0 : 0 ≤ n) (hn : HitM s m lo hi n) :
    0 ≤ s * n / m ∧ HitM (-m % s) s (lo % s) (hi % s) (s * n / m) ∧ dvu (lo + m * (s * n / m)) s ≤ n := by
  have e := Int.emod_add_mul_ediv (s * n) m
  have hk : 0 ≤ s * n / m := Int.ediv_nonneg (Int.mul_nonneg (Int.le_of_lt hs) n0) (by omega)
  obtain ⟨a, b⟩ := hn
  have hle : dvu (lo + m * (s * n / m)) s ≤ n := (dvu_le hs).mpr (by omega)
  refine ⟨hk, (down_iff hs h1 h).mpr ?_, hle⟩
  have g := dvu_ge (x := lo + m * (s * n / m)) hs
  have := Int.mul_le_mul_of_nonneg_left hle (Int.le_of_lt hs)
  omega
theorem down_lst {s m lo hi k : Int} (hs : 0 < s) (hm : 0 < m) (h0 : 0 < lo) (h1 : lo ≤ hi) (h2 : hi < m) (h : hi < s * dvu lo s) (hk : Lst (HitM (-m % s) s (lo % s) (hi % s)) k) : Lst (HitM s m lo hi) (dvu (lo + m * k) s) := by
  obtain ⟨k0, k1, k2⟩ := hk
  have c := (down_iff hs h1 h).mp k1
  have g := dvu_ge (x := lo + m * k) hs
  have pmk := Int.mul_nonneg (Int.le_of_lt hm) k0
  have pos : 0 ≤ dvu (lo + m * k) s := by
    rcases Int.lt_or_le (dvu (lo + m * k) s) 0 with z | z
    · have := Int.mul_le_mul_of_nonneg_left (show dvu (lo + m * k) s ≤ 0 by omega) (Int.le_of_lt hs)
      rw [Int.mul_zero] at this
      omega
    · exact z
  refine ⟨pos, ?_, fun n n0 n1 hn => ?_⟩
  · unfold HitM
    rw [mod_of (x := s * dvu (lo + m * k) s) (r := s * dvu (lo + m * k) s - m * k) (k := k) (by omega) (by omega) (by omega)]
    exact c
  · obtain ⟨b0, b1, b2⟩ := down_hit hs hm h0 h1 h n0 hn
    have hkk : k ≤ s * n / m := by
      rcases Int.lt_or_le (s * n / m) k with z | z
      · exact absurd b1 (k2 _ b0 z)
      · exact z
    have hmk := Int.mul_le_mul_of_nonneg_left hkk (Int.le_of_lt hm)
    have : dvu (lo + m * k) s ≤ dvu (lo + m * (s * n / m)) s := by
      rw [dvu_le hs]
      have := dvu_ge (x := lo + m * (s * n / m)) hs
      omega
    omega
theorem down_none {s m lo hi : Int} (hs : 0 < s) (hm : 0 < m) (h0 : 0 < lo) (h1 : lo ≤ hi) (h : hi < s * dvu lo s) (hk : NoM (HitM (-m % s) s (lo % s) (hi % s))) : NoM (HitM s m lo hi) := fun n n0 hn => by
  obtain ⟨b0, b1, _⟩ := down_hit hs hm h0 h1 h n0 hn
  exact hk _ b0 b1
/-! ### the levels -/
def unw : List (Int × Int × Int) → Int → Int
  | [], n => n
  | (s, m, l) :: r, n => dvu (l + m * unw r n) s
theorem unw_snoc : ∀ (L : List (Int × Int × Int)) (s m l n : Int), unw (L ++ [(s, m, l)]) n = unw L (dvu (l + m * n) s)
  | [], _, _, _, _ => rfl
  | (s', m', l') :: r, s, m, l, n => by
    show dvu (l' + m' * unw (r ++ [(s, m, l)]) n) s' = dvu (l' + m' * unw r (dvu (l + m * n) s)) s'
    rw [unw_snoc r]
structure FM (s0 m0 lo0 hi0 : Int) (L : List (Int × Int × Int)) (s m lo hi : Int) : Prop where
  s0' : 0 ≤ s
  sm : s < m
  l0 : 0 < lo
  lh : lo ≤ hi
  hm : hi < m
  mm : m ≤ m0
  a : ∀ n, Lst (HitM s m lo hi) n → Lst (HitM s0 m0 lo0 hi0) (unw L n)
  b : NoM (HitM s m lo hi) → NoM (HitM s0 m0 lo0 hi0)
  c : ∀ L1 L2, L = L1 ++ L2 → ∀ n, Lst (HitM s m lo hi) n → 0 ≤ unw L2 n ∧ unw L2 n ≤ m0
  d : ∀ e ∈ L, 0 < e.1 ∧ e.1 ≤ m0 ∧ 0 ≤ e.2.1 ∧ e.2.1 ≤ m0 ∧ 0 ≤ e.2.2 ∧ e.2.2 ≤ m0
theorem FM.init {s m lo hi : Int} (h0 : 0 ≤ s) (h1 : s < m) (h2 : 0 < lo) (h3 : lo ≤ hi) (h4 : hi < m) : FM s m lo hi [] s m lo hi :=
  ⟨h0, h1, h2, h3, h4, Int.le_refl _, fun _ h => h, fun h => h, fun L1 L2 e n hn => by
    have : L2 = [] := (List.append_eq_nil_iff.mp e.symm).2
    subst this
    have := lst_lt (by omega) hn
    exact ⟨hn.1, by show n ≤ m; omega⟩, by simp⟩
theorem FM.flip {s0 m0 lo0 hi0 s m lo hi : Int} {L : List (Int × Int × Int)} (F : FM s0 m0 lo0 hi0 L s m lo hi) (h : 0 < s) : FM s0 m0 lo0 hi0 L (m - s) m (m - hi) (m - lo) := by
  have l0 := F.l0
  have lh := F.lh
  have hm := F.hm
  have sm := F.sm
  have fl : ∀ n, HitM (m - s) m (m - hi) (m - lo) n ↔ HitM s m lo hi n := fun n => hit_flip l0 lh hm
  exact ⟨by omega, by omega, by omega, by omega, by omega, F.mm, fun n hn => F.a n ((lst_iff fl n).mp hn), fun hn => F.b fun n n0 z => hn n n0 ((fl n).mpr z),
    fun L1 L2 e n hn => F.c L1 L2 e n ((lst_iff fl n).mp hn), F.d⟩
theorem FM.down {s0 m0 lo0 hi0 s m lo hi : Int} {L : List (Int × Int × Int)} (F : FM s0 m0 lo0 hi0 L s m lo hi) (hs : 0 < s) (h : hi < s * dvu lo s) : FM s0 m0 lo0 hi0 (L ++ [(s, m, lo)]) (-m % s) s (lo % s) (hi % s) := by
  have l0 := F.l0
  have lh := F.lh
  have hm := F.hm
  have sm := F.sm
  have mm := F.mm
  obtain ⟨d1, d2, d3⟩ := down_facts hs lh h
  refine ⟨Int.emod_nonneg _ (by omega), Int.emod_lt_of_pos _ hs, d1, d3, Int.emod_lt_of_pos _ hs, by omega, fun n hn => ?_, fun hn => F.b (down_none hs (by omega) l0 lh h hn), fun L1 L2 e n hn => ?_, fun e he => ?_⟩
  · rw [unw_snoc]
    exact F.a _ (down_lst hs (by omega) l0 lh hm h hn)
  · have hd := down_lst hs (by omega) l0 lh hm h hn
    rcases List.eq_nil_or_concat L2 with z | ⟨L3, x, z⟩
    · subst z
      have := lst_lt hs hn
      exact ⟨hn.1, by show n ≤ m0; omega⟩
    · have z2 : L2 = L3 ++ [x] := by simpa using z
      subst z2
      have e' : L ++ [(s, m, lo)] = (L1 ++ L3) ++ [x] := by rw [List.append_assoc]; exact e
      obtain ⟨e1, e2⟩ := List.append_inj' e' rfl
      have e3 : (s, m, lo) = x := by simpa using e2
      rw [← e3, unw_snoc]
      exact F.c L1 L3 e1 _ hd
  · rcases List.mem_append.mp he with z | z
    · exact F.d e z
    · rw [List.mem_singleton.mp z]
      exact ⟨hs, by show s ≤ m0; omega, by show 0 ≤ m; omega, mm, by show 0 ≤ lo; omega, by show lo ≤ m0; omega⟩
end Lf
namespace Lf
def HitP (pl s m lo hi n : Int) : Prop := lo ≤ (pl + s * n) % m ∧ (pl + s * n) % m ≤ hi
theorem hitp_zero {pl s m lo hi : Int} (h : lo ≤ pl % m ∧ pl % m ≤ hi) : Lst (HitP pl s m lo hi) 0 := by
  refine ⟨Int.le_refl _, ?_, fun k h0 h1 => by omega⟩
  unfold HitP
  rw [Int.mul_zero, Int.add_zero]
  exact h
theorem near_facts {pl m lo hi : Int} (h0 : 0 ≤ lo) (h1 : lo ≤ hi) (h2 : hi < m) (h : ¬ (lo ≤ pl % m ∧ pl % m ≤ hi)) :
    ((lo - pl) % m = lo - pl % m ∧ pl % m < lo) ∨ ((lo - pl) % m = lo - pl % m + m ∧ hi < pl % m) := by
  have hm : 0 < m := by omega
  have e := Int.emod_add_mul_ediv pl m
  have r0 := Int.emod_nonneg pl (show m ≠ 0 by omega)
  have r1 := Int.emod_lt_of_pos pl hm
  rcases Int.lt_or_le (pl % m) lo with z | z
  · exact .inl ⟨mod_of (k := -(pl / m)) (by omega) (by omega) (by rw [Int.mul_neg]; omega), z⟩
  · exact .inr ⟨mod_of (k := -(pl / m) - 1) (by omega) (by omega) (by rw [Int.mul_sub, Int.mul_neg]; omega), by omega⟩
theorem hitp_iff {pl s m lo hi n : Int} (h0 : 0 ≤ lo) (h1 : lo ≤ hi) (h2 : hi < m) (h : ¬ (lo ≤ pl % m ∧ pl % m ≤ hi)) :
    HitP pl s m lo hi n ↔ HitM (s % m) m ((lo - pl) % m) ((lo - pl) % m + hi - lo) n := by
  have hm : 0 < m := by omega
  have e := Int.emod_add_mul_ediv pl m
  have r0 := Int.emod_nonneg pl (show m ≠ 0 by omega)
  have r1 := Int.emod_lt_of_pos pl hm
  have ey := Int.emod_add_mul_ediv (s * n) m
  have y0 := Int.emod_nonneg (s * n) (show m ≠ 0 by omega)
  have y1 := Int.emod_lt_of_pos (s * n) hm
  have em : s % m * n % m = s * n % m := by
    have es := Int.emod_add_mul_ediv s m
    have : s * n = s % m * n + m * (s / m * n) := by
      rw [← Int.mul_assoc, ← Int.add_mul, es]
    rw [this, Int.add_mul_emod_self_left]
  have nf := near_facts h0 h1 h2 h
  unfold HitP HitM
  rw [em]
  by_cases hc : pl % m + s * n % m < m
  · rw [mod_of (x := pl + s * n) (r := pl % m + s * n % m) (k := pl / m + s * n / m) (by omega) hc (by rw [Int.mul_add]; omega)]
    rcases nf with ⟨nf, z⟩ | ⟨nf, z⟩ <;> rw [nf] <;> omega
  · rw [mod_of (x := pl + s * n) (r := pl % m + s * n % m - m) (k := pl / m + s * n / m + 1) (by omega) (by omega) (by rw [Int.mul_add, Int.mul_add]; omega)]
    rcases nf with ⟨nf, z⟩ | ⟨nf, z⟩ <;> rw [nf] <;> omega
/-! ### how often -/
def ch (N : Nat) (s pl m lo hi : Int) : Int := fs N s (pl - lo) m - fs N s (pl - hi - 1) m
theorem hit_term {x m lo hi : Int} (h0 : 0 ≤ lo) (h1 : lo ≤ hi) (h2 : hi < m) (h : ¬ (lo ≤ x % m ∧ x % m ≤ hi)) : (x - lo) / m = (x - hi - 1) / m := by
  have hm : 0 < m := by omega
  have e := Int.emod_add_mul_ediv x m
  have r0 := Int.emod_nonneg x (show m ≠ 0 by omega)
  have r1 := Int.emod_lt_of_pos x hm
  rcases Int.lt_or_le (x % m) lo with z | z
  · have a := div_shift (x % m - lo + m) (x / m - 1) m hm
    have b := div_shift (x % m - hi - 1 + m) (x / m - 1) m hm
    have qa : (x % m - lo + m) / m = 0 := Int.ediv_eq_zero_of_lt (by omega) (by omega)
    have qb : (x % m - hi - 1 + m) / m = 0 := Int.ediv_eq_zero_of_lt (by omega) (by omega)
    rw [Int.mul_sub, qa] at a
    rw [Int.mul_sub, qb] at b
    rw [show x - lo = x % m - lo + m + (m * (x / m) - m * 1) by omega, show x - hi - 1 = x % m - hi - 1 + m + (m * (x / m) - m * 1) by omega, a, b]
  · have a := div_shift (x % m - lo) (x / m) m hm
    have b := div_shift (x % m - hi - 1) (x / m) m hm
    have qa : (x % m - lo) / m = 0 := Int.ediv_eq_zero_of_lt (by omega) (by omega)
    have qb : (x % m - hi - 1) / m = 0 := Int.ediv_eq_zero_of_lt (by omega) (by omega)
    rw [qa] at a
    rw [qb] at b
    rw [show x - lo = x % m - lo + m * (x / m) by omega, show x - hi - 1 = x % m - hi - 1 + m * (x / m) by omega, a, b]
theorem ch_zero {N : Nat} {s pl m lo hi : Int} (h0 : 0 ≤ lo) (h1 : lo ≤ hi) (h2 : hi < m) (h : ∀ n : Nat, n < N → ¬ HitP pl s m lo hi n) : ch N s pl m lo hi = 0 := by
  unfold ch
  induction N with
  | zero => rfl
  | succ N ih =>
    show fs N s (pl - lo) m + (s * N + (pl - lo)) / m - (fs N s (pl - hi - 1) m + (s * N + (pl - hi - 1)) / m) = 0
    have ih := ih fun n hn => h n (by omega)
    have t := hit_term (x := pl + s * N) h0 h1 h2 (h N (by omega))
    rw [show pl + s * (N : Int) - lo = s * N + (pl - lo) by omega, show pl + s * (N : Int) - hi - 1 = s * N + (pl - hi - 1) by omega] at t
    omega
theorem res_of_hit {x q k r : Int} (hq : 0 < q) (hk : 0 < k) (h0 : 0 ≤ r) (h1 : r < k) (h : q * r ≤ x % (k * q) ∧ x % (k * q) ≤ q * (r + 1) - 1) : x / q % k = r := by
  have e := Int.emod_add_mul_ediv x (k * q)
  have hy : x / q = r + k * (x / (k * q)) := by
    have : x = (x % (k * q) - q * r) + q * (r + k * (x / (k * q))) := by
      rw [Int.mul_add, ← Int.mul_assoc, Int.mul_comm q k]
      omega
    rw [this, div_shift _ _ _ hq, Int.ediv_eq_zero_of_lt (by omega) (by rw [Int.mul_add] at h; omega)]
    rw [← this]
    omega
  exact mod_of h0 h1 hy
end Lf
namespace Lf
theorem lstp_lt {pl s m lo hi n : Int} (hm : 0 < m) (h : Lst (HitP pl s m lo hi) n) : n < m := by
  obtain ⟨h0, h1, h2⟩ := h
  rcases Int.lt_or_le n m with z | z
  · exact z
  · refine absurd ?_ (h2 (n - m) (by omega) (by omega))
    unfold HitP at *
    rw [show pl + s * (n - m) = pl + s * n + m * (-s) by rw [Int.mul_sub, Int.mul_neg, Int.mul_comm m s]; omega, Int.add_mul_emod_self_left]
    exact h1
theorem lst_unique {P : Int → Prop} {n n' : Int} (h : Lst P n) (h' : Lst P n') : n = n' := by
  obtain ⟨a, b, c⟩ := h
  obtain ⟨a', b', c'⟩ := h'
  rcases Int.lt_trichotomy n n' with z | z | z
  · exact absurd b (c' n a z)
  · exact z
  · exact absurd b' (c n' a' z)
theorem hitp_period {p t c M lo hi n : Int} : HitP (p * (t + M) + c) p M lo hi n ↔ HitP (p * t + c) p M lo hi n := by
  unfold HitP
  rw [show p * (t + M) + c + p * n = p * t + c + p * n + M * p by rw [Int.mul_add, Int.mul_comm M p]; omega, Int.add_mul_emod_self_left]
theorem ch_arc (N : Nat) (p b M q r : Int) : ch N p b M (q * r) (q * (r + 1) - 1) = fs N p (b - q * r) M - fs N p (b - q * (r + 1)) M := by
  unfold ch
  rw [show b - (q * (r + 1) - 1) - 1 = b - q * (r + 1) by omega]
theorem sum_ch (N : Nat) (p b M q : Int) (j : Nat) : ((List.range j).map fun (r : Nat) => ch N p b M (q * r) (q * (r + 1) - 1)).sum = fs N p b M - fs N p (b - q * j) M := by
  induction j with
  | zero => simp
  | succ j ih =>
    rw [List.range_succ, List.map_append, List.sum_append, ih]
    show _ + (ch N p b M (q * j) (q * (j + 1) - 1) + 0) = _
    rw [ch_arc, show ((j + 1 : Nat) : Int) = j + 1 by omega]
    omega
theorem sum_ch_all (N : Nat) (p b q k : Int) (hk : 1 ≤ k) (hq : 1 ≤ q) : ((List.range k.toNat).map fun (r : Nat) => ch N p b (k * q) (q * r) (q * (r + 1) - 1)).sum = N := by
  have hm : 0 < k * q := by
    have := one_le_mul hk hq
    omega
  rw [sum_ch, show ((k.toNat : Nat) : Int) = k by omega, Int.mul_comm q k]
  have := fs_up N p (b - k * q) (k * q) hm
  rw [show b - k * q + k * q = b by omega] at this
  omega
theorem ch_split (p c M lo hi s m e : Int) (h1 : s ≤ m) (h2 : m ≤ e) : ch (m - s).toNat p (p * s + c) M lo hi + ch (e - m).toNat p (p * m + c) M lo hi = ch (e - s).toNat p (p * s + c) M lo hi := by
  unfold ch
  have a := fs_split p M (c - lo) s m e h1 h2
  have b := fs_split p M (c - hi - 1) s m e h1 h2
  rw [show p * s + (c - lo) = p * s + c - lo by omega, show p * m + (c - lo) = p * m + c - lo by omega] at a
  rw [show p * s + (c - hi - 1) = p * s + c - hi - 1 by omega, show p * m + (c - hi - 1) = p * m + c - hi - 1 by omega] at b
  omega
end Lf
namespace Lf
/-! ### windows -/
theorem dvu_cases {x q : Int} (hq : 0 < q) : (x % q = 0 ∧ dvu x q = x / q) ∨ (0 < x % q ∧ dvu x q = x / q + 1) := by
  have e := Int.emod_add_mul_ediv x q
  have r0 := Int.emod_nonneg x (show q ≠ 0 by omega)
  have r1 := Int.emod_lt_of_pos x hq
  have g := dvu_ge (x := x) hq
  have l := dvu_lt (x := x) hq
  rcases Int.lt_or_eq_of_le r0 with z | z
  · refine .inr ⟨z, ?_⟩
    have a1 : q * (x / q) < q * dvu x q := by omega
    have a2 := Int.lt_of_mul_lt_mul_left a1 (Int.le_of_lt hq)
    have a3 : q * dvu x q < q * (x / q + 2) := by rw [Int.mul_add]; omega
    have a4 := Int.lt_of_mul_lt_mul_left a3 (Int.le_of_lt hq)
    omega
  · refine .inl ⟨z.symm, ?_⟩
    have a1 : q * (x / q) < q * (dvu x q + 1) := by rw [Int.mul_add]; omega
    have a2 := Int.lt_of_mul_lt_mul_left a1 (Int.le_of_lt hq)
    have a3 : q * dvu x q < q * (x / q + 1) := by rw [Int.mul_add]; omega
    have a4 := Int.lt_of_mul_lt_mul_left a3 (Int.le_of_lt hq)
    omega
/-- the arc of the full windows -/
theorem farc {x q : Int} (hq : 0 < q) : 0 ≤ q * dvu x q - x ∧ q * dvu x q - x ≤ q - 1 := by
  have g := dvu_ge (x := x) hq
  have l := dvu_lt (x := x) hq
  omega
/-- the events of a window -/
theorem win_ev {p q c w t : Int} (hq : 0 < q) : (p * (t + w) + c) / q - (p * t + c) / q = if q * dvu (p * w) q - p * w ≤ (p * t + c) % q then dvu (p * w) q else p * w / q := by
  have e := Int.emod_add_mul_ediv (p * t + c) q
  have r0 := Int.emod_nonneg (p * t + c) (show q ≠ 0 by omega)
  have r1 := Int.emod_lt_of_pos (p * t + c) hq
  have ew := Int.emod_add_mul_ediv (p * w) q
  have w0 := Int.emod_nonneg (p * w) (show q ≠ 0 by omega)
  have w1 := Int.emod_lt_of_pos (p * w) hq
  have ex : p * (t + w) + c = ((p * t + c) % q + p * w % q) + q * ((p * t + c) / q + p * w / q) := by
    rw [Int.mul_add, Int.mul_add]
    omega
  rw [ex, div_shift _ _ _ hq]
  rcases dvu_cases (x := p * w) hq with ⟨h1, h2⟩ | ⟨h1, h2⟩
  · rw [h2, if_pos (by omega), Int.ediv_eq_zero_of_lt (by omega) (by omega)]
    omega
  · rw [h2]
    by_cases hc : q * (p * w / q + 1) - p * w ≤ (p * t + c) % q
    · rw [if_pos hc]
      rw [Int.mul_add, Int.mul_one] at hc
      have := div_shift ((p * t + c) % q + p * w % q - q) 1 q hq
      have qz : ((p * t + c) % q + p * w % q - q) / q = 0 := Int.ediv_eq_zero_of_lt (by omega) (by omega)
      rw [qz, show (p * t + c) % q + p * w % q - q + q * 1 = (p * t + c) % q + p * w % q by omega] at this
      omega
    · rw [if_neg hc]
      rw [Int.mul_add, Int.mul_one] at hc
      rw [Int.ediv_eq_zero_of_lt (by omega) (by omega)]
      omega
/-- every remainder occurs -/
theorem hit_some {p q x lo : Int} (hq : 0 < q) (hg : Int.gcd p q = 1) (h1 : lo ≤ q - 1) : ¬ NoM (HitP x p q lo (q - 1)) := fun hno => by
  have st := fs_step p q x hq hg
  rcases fs_step_le p q x hq hg q.toNat (by omega) with ⟨h, _⟩ | ⟨_, i, _, hi⟩
  · omega
  · refine hno i (by omega) ?_
    unfold HitP
    have e := Int.emod_add_mul_ediv (p * i + (x + 1)) q
    rw [mod_of (x := x + p * i) (r := q - 1) (k := (p * i + (x + 1)) / q - 1) (by omega) (by omega) (by rw [Int.mul_sub]; omega)]
    omega
theorem ch_cycle {p q x lo : Int} (hq : 0 < q) (hg : Int.gcd p q = 1) : ch q.toNat p x q lo (q - 1) = q - lo := by
  unfold ch
  rw [fs_any p q (x - lo) hq hg, fs_any p q (x - (q - 1) - 1) hq hg]
  omega
theorem fs_ups (N : Nat) (a b q j : Int) (hq : 0 < q) : fs N a (b + j * q) q = fs N a b q + j * N := by
  have := fs_lin N a b q 0 j hq
  rw [Int.zero_mul, Int.add_zero, Int.zero_mul] at this
  omega
/-- sums over windows -/
theorem win_sum {N : Nat} {p q c w s : Int} (hq : 0 < q) (h : 0 < p * w % q) : fs N p (p * (s + w) + c) q - fs N p (p * s + c) q = N * (p * w / q) + ch N p (p * s + c) q (q * dvu (p * w) q - p * w) (q - 1) := by
  have ew := Int.emod_add_mul_ediv (p * w) q
  rcases dvu_cases (x := p * w) hq with ⟨h1, h2⟩ | ⟨h1, h2⟩
  · omega
  · unfold ch
    have a := fs_ups N p (p * s + c + p * w % q) q (p * w / q) hq
    have b := fs_ups N p (p * s + c + p * w % q) q (-1) hq
    have d := fs_ups N p (p * s + c) q (-1) hq
    rw [show p * s + c + p * w % q + p * w / q * q = p * (s + w) + c by rw [Int.mul_add, Int.mul_comm (p * w / q) q]; omega, Int.mul_comm _ (N : Int)] at a
    rw [show p * s + c + p * w % q + -1 * q = p * s + c - (q * dvu (p * w) q - p * w) by rw [h2, Int.mul_add]; omega] at b
    rw [show p * s + c + -1 * q = p * s + c - (q - 1) - 1 by omega] at d
    omega
theorem win_sum0 {N : Nat} {p q c w s : Int} (hq : 0 < q) (h : p * w % q = 0) : fs N p (p * (s + w) + c) q - fs N p (p * s + c) q = N * (p * w / q) := by
  have ew := Int.emod_add_mul_ediv (p * w) q
  have a := fs_ups N p (p * s + c) q (p * w / q) hq
  rw [show p * s + c + p * w / q * q = p * (s + w) + c by rw [Int.mul_add, Int.mul_comm (p * w / q) q]; omega, Int.mul_comm _ (N : Int)] at a
  omega
/-- widths w and q - w together -/
theorem win_pair {N : Nat} {p q c w s : Int} (hq : 0 < q) (h : 0 < p * w % q) : ch N p (p * s + c) q (q * dvu (p * w) q - p * w) (q - 1) + ch N p (p * (s + w) + c) q (q * dvu (p * (q - w)) q - p * (q - w)) (q - 1) = N := by
  have ew := Int.emod_add_mul_ediv (p * w) q
  have w1 := Int.emod_lt_of_pos (p * w) hq
  have e2 : p * (q - w) % q = q - p * w % q := mod_of (k := p - p * w / q - 1) (by omega) (by omega) (by rw [Int.mul_sub, Int.mul_sub, Int.mul_sub, Int.mul_comm q p]; omega)
  have ew2 := Int.emod_add_mul_ediv (p * (q - w)) q
  have ws := win_sum (N := N) (c := c) (s := s) hq h
  have ws2 := win_sum (N := N) (p := p) (c := c) (s := s + w) (w := q - w) hq (by omega)
  rw [show s + w + (q - w) = s + q by omega] at ws2
  have u := fs_ups N p (p * s + c) q p hq
  rw [show p * s + c + p * q = p * (s + q) + c by rw [Int.mul_add]; omega, Int.mul_comm p (N : Int)] at u
  have hs : p * w / q + p * (q - w) / q = p - 1 := by
    have : q * (p * w / q + p * (q - w) / q) = q * (p - 1) := by
      rw [Int.mul_add, Int.mul_sub q p 1, Int.mul_comm q p]
      rw [Int.mul_sub p q w] at ew2 e2
      rw [Int.mul_sub p q w]
      omega
    exact Int.eq_of_mul_eq_mul_left (by omega) this
  have hn : (N : Int) * (p * w / q) + N * (p * (q - w) / q) = N * p - N := by
    rw [← Int.mul_add, hs, Int.mul_sub, Int.mul_one]
  omega
end Lf
namespace Lf
theorem hit_of_res {x q k r : Int} (hq : 0 < q) (h0 : 0 ≤ r) (h1 : r < k) (h : x / q % k = r) : q * r ≤ x % (k * q) ∧ x % (k * q) ≤ q * (r + 1) - 1 := by
  have e := Int.emod_add_mul_ediv x q
  have r0 := Int.emod_nonneg x (show q ≠ 0 by omega)
  have r1 := Int.emod_lt_of_pos x hq
  have e2 := Int.emod_add_mul_ediv (x / q) k
  rw [h] at e2
  have b := Int.mul_le_mul_of_nonneg_left (show r + 1 ≤ k by omega) (show 0 ≤ q by omega)
  rw [Int.mul_comm q k, Int.mul_add] at b
  have p := Int.mul_nonneg (show 0 ≤ q by omega) h0
  rw [mod_of (x := x) (r := q * r + x % q) (k := x / q / k) (by omega) (by omega) (by
    rw [show k * q * (x / q / k) = q * (k * (x / q / k)) by rw [Int.mul_comm k q, Int.mul_assoc], show k * (x / q / k) = x / q - r by omega, Int.mul_sub]
    omega), Int.mul_add]
  omega
theorem hit_term1 {x m lo hi : Int} (h2 : hi < m) (h0 : 0 ≤ lo) (h : lo ≤ x % m ∧ x % m ≤ hi) : (x - lo) / m = (x - hi - 1) / m + 1 := by
  have hm : 0 < m := by omega
  have e := Int.emod_add_mul_ediv x m
  have r1 := Int.emod_lt_of_pos x hm
  have a := div_shift (x % m - lo) (x / m) m hm
  have b := div_shift (x % m - hi - 1 + m) (x / m - 1) m hm
  have qa : (x % m - lo) / m = 0 := Int.ediv_eq_zero_of_lt (by omega) (by omega)
  have qb : (x % m - hi - 1 + m) / m = 0 := Int.ediv_eq_zero_of_lt (by omega) (by omega)
  rw [qa] at a
  rw [Int.mul_sub, qb] at b
  rw [show x - lo = x % m - lo + m * (x / m) by omega, show x - hi - 1 = x % m - hi - 1 + m + (m * (x / m) - m * 1) by omega, a, b]
  omega
theorem ch_count {p q c s k r : Int} (N : Nat) (hq : 1 ≤ q) (h0 : 0 ≤ r) (h1 : r < k) : ch N p (p * s + c) (k * q) (q * r) (q * (r + 1) - 1) = (((List.range N).map fun j => trm p q c s j % k).count r : Nat) := by
  have a1 : 0 ≤ q * r := Int.mul_nonneg (by omega) h0
  have b := Int.mul_le_mul_of_nonneg_left (show r + 1 ≤ k by omega) (show 0 ≤ q by omega)
  rw [Int.mul_comm q k] at b
  have a2 : q * r ≤ q * (r + 1) - 1 := by rw [Int.mul_add]; omega
  unfold ch
  induction N with
  | zero => rfl
  | succ N ih =>
    rw [List.range_succ, List.map_append, List.count_append, Int.natCast_add, ← ih]
    show fs N p (p * s + c - q * r) (k * q) + (p * N + (p * s + c - q * r)) / (k * q) - (fs N p (p * s + c - (q * (r + 1) - 1) - 1) (k * q) + (p * N + (p * s + c - (q * (r + 1) - 1) - 1)) / (k * q)) = _ + (([trm p q c s N % k].count r : Nat) : Int)
    have ex : trm p q c s N = (p * (s + N) + c) / q := rfl
    by_cases hc : trm p q c s N % k = r
    · have t := hit_term1 (x := p * (s + N) + c) (m := k * q) (lo := q * r) (hi := q * (r + 1) - 1) (by omega) a1 (hit_of_res (by omega) h0 h1 (by rw [← ex]; exact hc))
      rw [hc, List.count_singleton_self]
      rw [show p * (s + (N : Int)) + c - q * r = p * N + (p * s + c - q * r) by rw [Int.mul_add]; omega, show p * (s + (N : Int)) + c - (q * (r + 1) - 1) - 1 = p * N + (p * s + c - (q * (r + 1) - 1) - 1) by rw [Int.mul_add p s]; omega] at t
      omega
    · have t := hit_term (x := p * (s + N) + c) (m := k * q) (lo := q * r) (hi := q * (r + 1) - 1) a1 a2 (by omega) (fun z => hc (by rw [ex]; exact res_of_hit (by omega) (by omega) h0 h1 z))
      rw [List.count_eq_zero.mpr (by simpa using fun z => hc z.symm)]
      rw [show p * (s + (N : Int)) + c - q * r = p * N + (p * s + c - q * r) by rw [Int.mul_add]; omega, show p * (s + (N : Int)) + c - (q * (r + 1) - 1) - 1 = p * N + (p * s + c - (q * (r + 1) - 1) - 1) by rw [Int.mul_add p s]; omega] at t
      omega
theorem least_of {P : Nat → Prop} : ∀ (M : Nat), (∃ n, n < M ∧ P n) → ∃ n, n < M ∧ P n ∧ ∀ m, m < n → ¬ P m
  | 0, ⟨n, h, _⟩ => absurd h (by omega)
  | M + 1, ⟨n, h, hp⟩ => by
    by_cases hm : ∃ n, n < M ∧ P n
    · obtain ⟨a, b, c, d⟩ := least_of M hm
      exact ⟨a, by omega, c, d⟩
    · refine ⟨n, h, hp, fun m hmn hpm => hm ⟨m, by omega, hpm⟩⟩
theorem hitp_res {p q c s k r : Int} {n : Nat} (hq : 1 ≤ q) (h0 : 0 ≤ r) (h1 : r < k) : HitP (p * s + c) p (k * q) (q * r) (q * (r + 1) - 1) n ↔ trm p q c s n % k = r := by
  unfold HitP trm
  rw [show p * s + c + p * (n : Int) = p * (s + n) + c by rw [Int.mul_add]; omega]
  exact ⟨fun h => res_of_hit (by omega) (by omega) h0 h1 h, fun h => hit_of_res (by omega) h0 h1 h⟩
end Lf
namespace Lf
def wev (p q c w s : Int) (n : Nat) : Int := (p * (s + n + w) + c) / q - (p * (s + n) + c) / q
theorem wev_hit {p q c w s : Int} (hq : 0 < q) (n : Nat) : wev p q c w s n = dvu (p * w) q ↔ HitP (p * s + c) p q (q * dvu (p * w) q - p * w) (q - 1) n := by
  unfold wev HitP
  have r1 := Int.emod_lt_of_pos (p * (s + n) + c) hq
  have r0 := Int.emod_nonneg (p * (s + n) + c) (show q ≠ 0 by omega)
  rw [win_ev hq, show p * s + c + p * (n : Int) = p * (s + n) + c by rw [Int.mul_add]; omega]
  by_cases hc : q * dvu (p * w) q - p * w ≤ (p * (s + n) + c) % q
  · rw [if_pos hc]
    exact ⟨fun _ => ⟨hc, by omega⟩, fun _ => rfl⟩
  · rw [if_neg hc]
    refine ⟨fun h => ?_, fun h => absurd h.1 hc⟩
    have ew := Int.emod_add_mul_ediv (p * w) q
    rcases dvu_cases (x := p * w) hq with ⟨h1, h2⟩ | ⟨h1, h2⟩
    · rw [h2] at hc
      omega
    · omega
theorem wev_two {p q c w s : Int} (hq : 0 < q) (n : Nat) : p * w / q ≤ wev p q c w s n ∧ wev p q c w s n ≤ dvu (p * w) q := by
  unfold wev
  rw [win_ev hq]
  have hle : p * w / q ≤ dvu (p * w) q := by
    rcases dvu_cases (x := p * w) hq with ⟨_, h2⟩ | ⟨_, h2⟩ <;> omega
  by_cases hc : q * dvu (p * w) q - p * w ≤ (p * (s + n) + c) % q
  · rw [if_pos hc]; omega
  · rw [if_neg hc]; omega
theorem hit_turn {pl p q lo hi m : Int} (h : HitP pl p q lo hi m) : HitP pl p q lo hi (m % q) := by
  have em := Int.emod_add_mul_ediv m q
  unfold HitP at h ⊢
  rw [show pl + p * m = pl + p * (m % q) + q * (p * (m / q)) by
    have : p * (m % q + q * (m / q)) = p * m := by rw [em]
    rw [Int.mul_add] at this
    rw [Int.mul_left_comm q p]
    omega, Int.add_mul_emod_self_left] at h
  exact h
theorem wev_max {p q c w s : Int} (hq : 0 < q) (hg : Int.gcd p q = 1) : ∃ n : Nat, (n : Int) < q ∧ wev p q c w s n = dvu (p * w) q := by
  have hs := hit_some (p := p) (q := q) (x := p * s + c) (lo := q * dvu (p * w) q - p * w) hq hg (farc hq).2
  have : ∃ m, 0 ≤ m ∧ HitP (p * s + c) p q (q * dvu (p * w) q - p * w) (q - 1) m := by
    apply Classical.byContradiction
    intro hn
    exact hs fun m m0 hm => hn ⟨m, m0, hm⟩
  obtain ⟨m, m0, hm⟩ := this
  have h2 := hit_turn hm
  have r0 := Int.emod_nonneg m (show q ≠ 0 by omega)
  have r1 := Int.emod_lt_of_pos m hq
  obtain ⟨n, hn⟩ := Int.eq_ofNat_of_zero_le r0
  rw [hn] at h2 r1
  exact ⟨n, r1, (wev_hit hq n).mpr h2⟩
theorem wev_min {p q c w s : Int} (hq : 0 < q) (hg : Int.gcd p q = 1) : ∃ n : Nat, (n : Int) < q ∧ wev p q c w s n = p * w / q := by
  rcases dvu_cases (x := p * w) hq with ⟨h1, h2⟩ | ⟨h1, h2⟩
  · obtain ⟨n, hn, e⟩ := wev_max (c := c) (w := w) (s := s) hq hg
    exact ⟨n, hn, by rw [e, h2]⟩
  · have st := fs_step p q (p * s + c - 1) hq hg
    rcases fs_step_le p q (p * s + c - 1) hq hg q.toNat (by omega) with ⟨h, _⟩ | ⟨_, i, hi, hz⟩
    · omega
    · refine ⟨i, by omega, ?_⟩
      unfold wev
      have ew := Int.emod_add_mul_ediv (p * w) q
      have w1 := Int.emod_lt_of_pos (p * w) hq
      rw [win_ev hq, show p * (s + (i : Int)) + c = p * i + (p * s + c - 1 + 1) by rw [Int.mul_add]; omega, hz, if_neg (by rw [h2, Int.mul_add]; omega)]
theorem ch_wcount {p q c w s : Int} (hq : 0 < q) (N : Nat) : ch N p (p * s + c) q (q * dvu (p * w) q - p * w) (q - 1) = (((List.range N).map (wev p q c w s)).count (dvu (p * w) q) : Nat) := by
  obtain ⟨a1, a2⟩ := farc (x := p * w) hq
  unfold ch
  induction N with
  | zero => rfl
  | succ N ih =>
    rw [List.range_succ, List.map_append, List.count_append, Int.natCast_add, ← ih]
    show fs N p (p * s + c - (q * dvu (p * w) q - p * w)) q + (p * N + (p * s + c - (q * dvu (p * w) q - p * w))) / q - (fs N p (p * s + c - (q - 1) - 1) q + (p * N + (p * s + c - (q - 1) - 1)) / q) = _ + (([wev p q c w s N].count (dvu (p * w) q) : Nat) : Int)
    have hx : p * s + c + p * (N : Int) = p * (s + N) + c := by rw [Int.mul_add]; omega
    by_cases hc : wev p q c w s N = dvu (p * w) q
    · have hh := (wev_hit hq N).mp hc
      unfold HitP at hh
      have t := hit_term1 (x := p * s + c + p * N) (m := q) (lo := q * dvu (p * w) q - p * w) (hi := q - 1) (by omega) a1 hh
      rw [hc, List.count_singleton_self]
      rw [show p * s + c + p * (N : Int) - (q * dvu (p * w) q - p * w) = p * N + (p * s + c - (q * dvu (p * w) q - p * w)) by omega, show p * s + c + p * (N : Int) - (q - 1) - 1 = p * N + (p * s + c - (q - 1) - 1) by omega] at t
      omega
    · have t := hit_term (x := p * s + c + p * N) (m := q) (lo := q * dvu (p * w) q - p * w) (hi := q - 1) a1 a2 (by omega) (fun z => hc ((wev_hit hq N).mpr z))
      rw [List.count_eq_zero.mpr (by simpa using fun z => hc z.symm)]
      rw [show p * s + c + p * (N : Int) - (q * dvu (p * w) q - p * w) = p * N + (p * s + c - (q * dvu (p * w) q - p * w)) by omega, show p * s + c + p * (N : Int) - (q - 1) - 1 = p * N + (p * s + c - (q - 1) - 1) by omega] at t
      omega
end Lf

namespace Lf
open PySem PySem.Spec PyProof.Rows L2
def spDivUp : Sp := fun vs H Q _ => ∃ (x s : Int), vs = [.int x, .int s] ∧ 0 < s ∧ Bd 9000 s ∧ Q (.int (dvu x s)) H
end Lf
namespace Lf
/-! ### an integer between two lines -/
def Ib (a b m c d n x : Int) : Prop := ∃ y : Int, a * x + b ≤ m * y ∧ n * y ≤ c * x + d
/-- the whole part of the heights is taken away -/
theorem ib_down {a b m c d n x : Int} (k : Int) : Ib a (b - k * m) m c (d - k * n) n x ↔ Ib a b m c d n x := by
  constructor
  · rintro ⟨y, h1, h2⟩
    exact ⟨y + k, by rw [Int.mul_add, Int.mul_comm m k]; omega, by rw [Int.mul_add, Int.mul_comm n k]; omega⟩
  · rintro ⟨y, h1, h2⟩
    exact ⟨y - k, by rw [Int.mul_sub, Int.mul_comm m k]; omega, by rw [Int.mul_sub, Int.mul_comm n k]; omega⟩
/-- the whole part of the slopes is taken away -/
theorem ib_tilt {a b m c d n x : Int} (k : Int) : Ib (a - k * m) b m (c - k * n) d n x ↔ Ib a b m c d n x := by
  have e1 : ∀ y, m * (y + k * x) = m * y + k * m * x := fun y => by grind
  have e2 : ∀ y, n * (y + k * x) = n * y + k * n * x := fun y => by grind
  have e3 : ∀ y, m * (y - k * x) = m * y - k * m * x := fun y => by grind
  have e4 : ∀ y, n * (y - k * x) = n * y - k * n * x := fun y => by grind
  constructor
  · rintro ⟨y, h1, h2⟩
    rw [Int.sub_mul] at h1 h2
    exact ⟨y + k * x, by rw [e1]; omega, by rw [e2]; omega⟩
  · rintro ⟨y, h1, h2⟩
    refine ⟨y - k * x, ?_, ?_⟩
    · rw [e3, Int.sub_mul]; omega
    · rw [e4, Int.sub_mul]; omega
theorem ib_zero {a b m c d n : Int} (hm : 0 < m) (h : dvu b m * n ≤ d) : Lst (Ib a b m c d n) 0 := by
  refine ⟨Int.le_refl _, ⟨dvu b m, ?_, ?_⟩, fun k h0 h1 => by omega⟩
  · rw [Int.mul_zero, Int.zero_add]
    exact dvu_ge hm
  · rw [Int.mul_zero, Int.zero_add, Int.mul_comm]
    exact h
/-- what is known where no integer lies between the lines at 0 -/
theorem ib_rest {b m d n : Int} (hm : 0 < m) (h : ¬ dvu b m * n ≤ d) : 0 < b - (dvu b m - 1) * m ∧ b - (dvu b m - 1) * m ≤ m ∧ d - (dvu b m - 1) * n < n := by
  have g := dvu_ge (x := b) hm
  have l := dvu_lt (x := b) hm
  rw [Int.sub_mul, Int.sub_mul, Int.mul_comm (dvu b m) m]
  omega
theorem mul_nonneg' {x y : Int} (hx : 0 ≤ x) (hy : 0 ≤ y) : 0 ≤ x * y := Int.mul_nonneg hx hy
/-- the slopes part at an integer -/
theorem ib_exit {f b m r d n x : Int} (hm : 0 < m) (hn : 0 < n) (f0 : 0 ≤ f) (r0 : 0 ≤ r) (b0 : 0 < b) (bm : b ≤ m) (d0 : 0 ≤ d) (dn : d < n) (x0 : 0 ≤ x) : Ib (-f) b m r d n x ↔ (b ≤ f * x ∨ n - d ≤ r * x) := by
  have fx := Int.mul_nonneg f0 x0
  have rx := Int.mul_nonneg r0 x0
  constructor
  · rintro ⟨y, h1, h2⟩
    rw [Int.neg_mul] at h1
    rcases Int.lt_or_le 0 y with z | z
    · right
      have := Int.mul_le_mul_of_nonneg_left (show 1 ≤ y by omega) (show 0 ≤ n by omega)
      omega
    · left
      have := Int.mul_le_mul_of_nonneg_left z (show 0 ≤ m by omega)
      omega
  · rintro (h | h)
    · exact ⟨0, by rw [Int.neg_mul]; omega, by omega⟩
    · exact ⟨1, by rw [Int.neg_mul]; omega, by omega⟩
/-- flat lines of one slope -/
theorem ib_flat {b m d n x : Int} (hm : 0 < m) (hn : 0 < n) (b0 : 0 < b) (dn : d < n) : ¬ Ib 0 b m 0 d n x := by
  rintro ⟨y, h1, h2⟩
  rw [Int.zero_mul, Int.zero_add] at h1 h2
  rcases Int.lt_or_le 0 y with z | z
  · have := Int.mul_le_mul_of_nonneg_left (show 1 ≤ y by omega) (show 0 ≤ n by omega)
    omega
  · have := Int.mul_le_mul_of_nonneg_left z (show 0 ≤ m by omega)
    omega
/-- the lines come together -/
theorem ib_meet {a b m c d n x : Int} (hm : 0 < m) (hn : 0 < n) (a0 : 0 ≤ a) (c0 : c ≤ 0) (b0 : 0 < b) (dn : d < n) (x0 : 0 ≤ x) : ¬ Ib a b m c d n x := by
  rintro ⟨y, h1, h2⟩
  have ax := Int.mul_nonneg a0 x0
  have cx := Int.mul_nonneg (show 0 ≤ -c by omega) x0
  rw [Int.neg_mul] at cx
  rcases Int.lt_or_le 0 y with z | z
  · have := Int.mul_le_mul_of_nonneg_left (show 1 ≤ y by omega) (show 0 ≤ n by omega)
    omega
  · have := Int.mul_le_mul_of_nonneg_left z (show 0 ≤ m by omega)
    omega
/-- the other way round: x for each y -/
theorem ib_turn {a b m c d n x y : Int} (hm : 0 < m) (a0 : 0 < a) (b0 : 0 < b) (x0 : 0 ≤ x) (h1 : a * x + b ≤ m * y) : 0 ≤ y - 1 := by
  have ax := Int.mul_nonneg (Int.le_of_lt a0) x0
  rcases Int.lt_or_le 0 y with z | z
  · omega
  · have := Int.mul_le_mul_of_nonneg_left z (show 0 ≤ m by omega)
    omega
theorem ib_back {a b m c d n k : Int} (hm : 0 < m) (hn : 0 < n) (a0 : 0 < a) (c0 : 0 < c) (cn : c < n) (b0 : 0 < b) (dn : d < n) (h : Lst (Ib n (n - d) c m (m - b) a) k) : Lst (Ib a b m c d n) (dvu (n * k + (n - d)) c) ∧ k ≤ dvu (n * k + (n - d)) c := by
  obtain ⟨k0, ⟨x, g1, g2⟩, lst⟩ := h
  have nk := Int.mul_nonneg (Int.le_of_lt hn) k0
  have gx := (dvu_le c0).mpr g1
  have ge := dvu_ge (x := n * k + (n - d)) c0
  have mn : ∀ j, n * k + (n - d) ≤ c * j → dvu (n * k + (n - d)) c ≤ j := fun j h => (dvu_le c0).mpr h
  have pos : 0 ≤ dvu (n * k + (n - d)) c := by
    rcases Int.lt_or_le (dvu (n * k + (n - d)) c) 0 with z | z
    · have := Int.mul_le_mul_of_nonneg_left (show dvu (n * k + (n - d)) c ≤ 0 by omega) (Int.le_of_lt c0)
      rw [Int.mul_zero] at this
      omega
    · exact z
  generalize dvu (n * k + (n - d)) c = X at *
  refine ⟨⟨pos, ⟨k + 1, ?_, ?_⟩, fun j j0 jX => ?_⟩, ?_⟩
  · have := Int.mul_le_mul_of_nonneg_left gx (Int.le_of_lt a0)
    rw [Int.mul_add]
    omega
  · rw [Int.mul_add]
    omega
  · rintro ⟨y, h1, h2⟩
    have y0 := ib_turn (c := c) (d := d) (n := n) hm a0 b0 j0 h1
    have hk : ¬ y - 1 < k := fun z => lst (y - 1) y0 z ⟨j, by rw [Int.mul_sub]; omega, by rw [Int.mul_sub]; omega⟩
    have h3 := Int.mul_le_mul_of_nonneg_left (show k ≤ y - 1 by omega) (Int.le_of_lt hn)
    rw [Int.mul_sub] at h3
    have h5 := mn j (by omega)
    omega
  · rcases Int.lt_or_le X k with z | z
    · have h3 := Int.mul_le_mul_of_nonneg_left (show X ≤ k by omega) (Int.le_of_lt c0)
      have h4 := Int.mul_le_mul_of_nonneg_right (show c ≤ n by omega) k0
      omega
    · exact z
theorem ib_none {a b m c d n : Int} (hm : 0 < m) (a0 : 0 < a) (b0 : 0 < b) (h : NoM (Ib n (n - d) c m (m - b) a)) : NoM (Ib a b m c d n) := by
  rintro x x0 ⟨y, h1, h2⟩
  have y0 := ib_turn (c := c) (d := d) (n := n) hm a0 b0 x0 h1
  exact h (y - 1) y0 ⟨x, by rw [Int.mul_sub]; omega, by rw [Int.mul_sub]; omega⟩
end Lf
namespace Lf
theorem pos_of_mul0 {a b : Int} (h : 0 < a * b) (hb : 0 ≤ b) : 0 < a := by
  rcases Int.lt_or_le 0 a with z | z
  · exact z
  · have := Int.mul_le_mul_of_nonneg_right z hb
    rw [Int.zero_mul] at this
    omega
theorem lt_of_mulc {x y g : Int} (h : x * g < y * g) (hg : 0 ≤ g) : x < y := by
  have e : (y - x) * g = y * g - x * g := Int.sub_mul ..
  have := pos_of_mul0 (a := y - x) (b := g) (by omega) hg
  omega
theorem lst_iff0 {P Q : Int → Prop} (h : ∀ n, 0 ≤ n → (P n ↔ Q n)) (n : Int) : Lst P n ↔ Lst Q n := by
  unfold Lst
  constructor
  · rintro ⟨a, b, c⟩
    exact ⟨a, (h n a).mp b, fun k h0 h1 z => c k h0 h1 ((h k h0).mpr z)⟩
  · rintro ⟨a, b, c⟩
    exact ⟨a, (h n a).mpr b, fun k h0 h1 z => c k h0 h1 ((h k h0).mp z)⟩
theorem nom_iff0 {P Q : Int → Prop} (h : ∀ n, 0 ≤ n → (P n ↔ Q n)) : NoM P ↔ NoM Q := ⟨fun g n n0 z => g n n0 ((h n n0).mpr z), fun g n n0 z => g n n0 ((h n n0).mp z)⟩
def unv : List (Int × Int × Int) → Int → Int
  | [], n => n
  | (s, o, v) :: r, n => dvu (s * unv r n + o) v
theorem unv_snoc : ∀ (L : List (Int × Int × Int)) (s o v n : Int), unv (L ++ [(s, o, v)]) n = unv L (dvu (s * n + o) v)
  | [], _, _, _, _ => rfl
  | (s', o', v') :: r, s, o, v, n => by
    show dvu (s' * unv (r ++ [(s, o, v)]) n + o') v' = dvu (s' * unv r (dvu (s * n + o) v) + o') v'
    rw [unv_snoc r]
structure FI (j : Nat) (G W M : Int) (P0 : Int → Prop) (L : List (Int × Int × Int)) (a b m c d n : Int) : Prop where
  m1 : 1 ≤ m
  n1 : 1 ≤ n
  w : m * n ≤ W
  r : b * n ≤ d * m ∨ c * m ≤ a * n
  g : b * n - d * m ≤ G + L.length * W
  ba : Bd j a
  bb : Bd j b
  bc : Bd j c
  bd : Bd j d
  A : ∀ x, Lst (Ib a b m c d n) x → Lst P0 (unv L x)
  Bn : NoM (Ib a b m c d n) → NoM P0
  C : ∀ l1 l2, L = l1 ++ l2 → ∀ x, Lst (Ib a b m c d n) x → 0 ≤ unv l2 x ∧ unv l2 x ≤ M
  D : ∀ e ∈ L, 1 ≤ e.2.2 ∧ Bd j e.1 ∧ Bd j e.2.1 ∧ Bd j e.2.2
  l : L = [] ∨ (m < a ∧ (a * n).toNat * 2 ^ L.length ≤ (2 * W).toNat)
theorem FI.init {j : Nat} {M a b m c d n : Int} (m1 : 1 ≤ m) (n1 : 1 ≤ n) (r : b * n ≤ d * m) (ba : Bd j a) (bb : Bd j b) (bc : Bd j c) (bd : Bd j d) (hM : ∀ x, Lst (Ib a b m c d n) x → x ≤ M) : FI j 0 (m * n) M (Ib a b m c d n) [] a b m c d n :=
  ⟨m1, n1, Int.le_refl _, .inl r, by simp; omega, ba, bb, bc, bd, fun _ h => h, fun h => h, fun l1 l2 e x hx => by
    have : l2 = [] := (List.append_eq_nil_iff.mp e.symm).2
    subst this
    exact ⟨hx.1, hM x hx⟩, by simp, .inl rfl⟩
theorem mul_self_le {x y : Int} (hx : 0 ≤ x) (hy : 1 ≤ y) : x ≤ x * y := by
  have := Int.mul_le_mul_of_nonneg_left hy hx
  omega
theorem FI.len {j k : Nat} {G W M a b m c d n : Int} {P0 : Int → Prop} {L : List (Int × Int × Int)} (F : FI j G W M P0 L a b m c d n) (bW : Bd k W) : L.length < k + 2 := by
  rcases F.l with z | ⟨h1, h2⟩
  · rw [z]
    simp
  · have m1 := F.m1
    have p1 := one_le_mul (show 1 ≤ a by omega) F.n1
    have B1 : Bd (k + 1) (2 * W) := by
      rw [show 2 * W = W + W by omega]
      exact Bd.add bW bW
    unfold Bd at B1
    have h3 : 2 ^ L.length ≤ (a * n).toNat * 2 ^ L.length := Nat.le_mul_of_pos_left _ (by omega)
    have h4 : 2 ^ L.length < 2 ^ (k + 1) := by omega
    have := (Nat.pow_lt_pow_iff_right (by decide)).mp h4
    omega
/-- what is known after the whole parts are gone -/
structure Slim (a b m c d n : Int) : Prop where
  a0 : 0 < a
  am : a ≤ m
  b0 : 0 < b
  bm : b ≤ m
  c0 : 0 < c
  cn : c < n
  dn : d < n
theorem FI.next {j : Nat} {G W M Z a b m c d n a' b' c' d' s u : Int} {P0 : Int → Prop} {L : List (Int × Int × Int)} (F : FI j G W M P0 L a b m c d n) (S : Slim a' b' m c' d' n)
    (eb : b' = b - u * m) (ed : d' = d - u * n) (ea : a' = a - (s - 1) * m) (ec : c' = c - (s - 1) * n) (hW : W ≤ Z) (hZ : G + 4097 * W ≤ Z) (bZ : Bd j Z) (hl : L.length < 4096) :
    FI j G W M P0 (L ++ [(n, n - d', c')]) n (n - d') c' m (m - b') a' := by
  have m1 := F.m1
  have n1 := F.n1
  have w := F.w
  have g := F.g
  obtain ⟨a0, am, b0, bm, c0, cn, dn⟩ := S
  have W0 : 1 ≤ W := by
    have := one_le_mul m1 n1
    omega
  have eg : b' * n - d' * m = b * n - d * m := by
    rw [eb, ed]
    grind
  have h1 : n - d' ≤ (n - d') * m := mul_self_le (by omega) m1
  have h2 : (n - d') * a' ≤ (n - d') * m := Int.mul_le_mul_of_nonneg_left am (by omega)
  have h3 : 0 ≤ (m - b') * c' := Int.mul_nonneg (by omega) (by omega)
  have h4 : 0 ≤ b' * n := Int.mul_nonneg (by omega) (by omega)
  have e1 : (n - d') * m = m * n - d' * m := by grind
  have hlw : (L.length : Int) * W ≤ 4096 * W := Int.mul_le_mul_of_nonneg_right (by omega) (by omega)
  have hnm := mul_self_le (show 0 ≤ n by omega) m1
  have hmn := mul_self_le (show 0 ≤ m by omega) n1
  rw [Int.mul_comm n m] at hnm
  have iff : ∀ x, Ib a' b' m c' d' n x ↔ Ib a b m c d n x := fun x => by
    rw [eb, ed, ea, ec]
    exact (ib_tilt (s - 1)).trans (ib_down u)
  have bk : ∀ x, Lst (Ib n (n - d') c' m (m - b') a') x → Lst (Ib a b m c d n) (dvu (n * x + (n - d')) c') ∧ x ≤ dvu (n * x + (n - d')) c' := fun x hx => by
    have := ib_back (show 0 < m by omega) (show 0 < n by omega) a0 c0 cn b0 dn hx
    exact ⟨(lst_iff iff _).mp this.1, this.2⟩
  refine ⟨by omega, by omega, ?_, ?_, ?_, bZ.between (by omega) (by omega), bZ.between (by omega) (by omega), bZ.between (by omega) (by omega), bZ.between (by omega) (by omega), fun x hx => ?_, fun hx => F.Bn fun x x0 z => ib_none (show 0 < m by omega) a0 b0 hx x x0 ((iff x).mpr z), fun l1 l2 e x hx => ?_, fun e he => ?_, .inr ⟨cn, ?_⟩⟩
  · have := Int.mul_le_mul (show c' ≤ n by omega) am (by omega) (by omega)
    rw [Int.mul_comm n m] at this
    omega
  · rcases Int.lt_or_le (a * n) (c * m) with z | z
    · left
      have r := F.r.resolve_right (by omega)
      have g1 : (n - d') * m ≤ (m - b') * n := by
        have : (m - b') * n = m * n - b' * n := Int.sub_mul ..
        omega
      have g2 : a' * n ≤ c' * m := by
        rw [ea, ec]
        have x1 : (a - (s - 1) * m) * n = a * n - (s - 1) * m * n := Int.sub_mul ..
        have x2 : (c - (s - 1) * n) * m = c * m - (s - 1) * m * n := by grind
        omega
      have g3 := Int.mul_le_mul g1 g2 (Int.mul_nonneg (by omega) (by omega)) (Int.mul_nonneg (by omega) (by omega))
      have x1 : (n - d') * m * (a' * n) = (n - d') * a' * (m * n) := by grind
      have x2 : (m - b') * n * (c' * m) = (m - b') * c' * (m * n) := by grind
      rw [x1, x2] at g3
      exact Int.le_of_mul_le_mul_right g3 (by have := one_le_mul m1 n1; omega)
    · right
      rw [ea, ec]
      have x1 : n * (a - (s - 1) * m) = a * n - (s - 1) * m * n := by grind
      have x2 : m * (c - (s - 1) * n) = c * m - (s - 1) * m * n := by grind
      omega
  · rw [List.length_append, List.length_singleton]
    have : ((L.length + 1 : Nat) : Int) * W = L.length * W + W := by
      rw [Int.natCast_add, Int.add_mul]
      omega
    omega
  · rw [unv_snoc]
    exact F.A _ (bk x hx).1
  · rcases List.eq_nil_or_concat l2 with z | ⟨l3, y, z⟩
    · subst z
      have h5 := (F.C L [] (by simp) _ (bk x hx).1).2
      have h6 := (bk x hx).2
      exact ⟨hx.1, Int.le_trans h6 h5⟩
    · have z2 : l2 = l3 ++ [y] := by simpa using z
      subst z2
      have e' : L ++ [(n, n - d', c')] = (l1 ++ l3) ++ [y] := by rw [List.append_assoc]; exact e
      obtain ⟨q1, q2⟩ := List.append_inj' e' rfl
      have q3 : (n, n - d', c') = y := by simpa using q2
      rw [← q3, unv_snoc]
      exact F.C l1 l3 q1 _ (bk x hx).1
  · rcases List.mem_append.mp he with z | z
    · exact F.D e z
    · rw [List.mem_singleton.mp z]
      exact ⟨by show 1 ≤ c'; omega, bZ.between (by show 0 ≤ n; omega) (by show n ≤ Z; omega), bZ.between (by show 0 ≤ n - d'; omega) (by show n - d' ≤ Z; omega), bZ.between (by show 0 ≤ c'; omega) (by show c' ≤ Z; omega)⟩
  · rw [List.length_append, List.length_singleton, Nat.pow_succ]
    rcases F.l with z | ⟨z1, z2⟩
    · rw [z]
      simp only [List.length_nil, Nat.pow_zero, Nat.one_mul]
      have := Int.mul_le_mul_of_nonneg_left am (show 0 ≤ n by omega)
      rw [Int.mul_comm n m] at this
      generalize n * a' = x at *
      omega
    · refine Nat.le_trans ?_ z2
      rw [Nat.mul_comm (2 ^ L.length) 2, ← Nat.mul_assoc]
      refine Nat.mul_le_mul_right _ ?_
      have s2 : 1 ≤ s - 1 := by
        rcases Int.lt_or_le 0 (s - 1) with y | y
        · exact y
        · have := Int.mul_nonneg (show 0 ≤ -(s - 1) by omega) (show 0 ≤ m by omega)
          rw [Int.neg_mul] at this
          omega
      have h7 := Int.mul_le_mul_of_nonneg_right s2 (show 0 ≤ m by omega)
      have h8 := Int.mul_le_mul_of_nonneg_left (show 2 * a' ≤ a by omega) (show 0 ≤ n by omega)
      have e2 : n * (2 * a') = 2 * (n * a') := by grind
      rw [e2, Int.mul_comm n a] at h8
      have := Int.mul_nonneg (show 0 ≤ n by omega) (show 0 ≤ a' by omega)
      generalize n * a' = x at *
      generalize a * n = y at *
      omega
/-- the least time at which one of two ways is covered -/
def Ex (f b r e x : Int) : Prop := b ≤ f * x ∨ e ≤ r * x
theorem ib_ex {a b m c d n s x : Int} (m1 : 1 ≤ m) (n1 : 1 ≤ n) (sa : a ≤ s * m) (sc : s * n ≤ c) (b0 : 0 < b) (bm : b ≤ m) (dn : d < n) (r : b * n ≤ d * m ∨ c * m ≤ a * n) (x0 : 0 ≤ x) : Ib a b m c d n x ↔ Ex (s * m - a) b (c - s * n) (n - d) x := by
  have t := ib_tilt (a := a) (b := b) (m := m) (c := c) (d := d) (n := n) (x := x) s
  rw [← t]
  rcases r with r | r
  · have d0 : 0 ≤ d := by
      have := one_le_mul (show 1 ≤ b by omega) n1
      have := pos_of_mul0 (a := d) (b := m) (by omega) (by omega)
      omega
    rw [show a - s * m = -(s * m - a) by omega]
    exact ib_exit (by omega) (by omega) (by omega) (by omega) b0 bm d0 dn x0
  · have h1 : s * m ≤ a := by
      have := Int.mul_le_mul_of_nonneg_right sc (show 0 ≤ m by omega)
      have e : s * n * m = s * m * n := by grind
      exact Int.le_of_mul_le_mul_right (show s * m * n ≤ a * n by omega) (by omega)
    have h2 : c ≤ s * n := by
      have := Int.mul_le_mul_of_nonneg_right sa (show 0 ≤ n by omega)
      have e : s * m * n = s * n * m := by grind
      exact Int.le_of_mul_le_mul_right (show c * m ≤ s * n * m by omega) (by omega)
    rw [show a - s * m = 0 by omega, show c - s * n = 0 by omega, show s * m - a = 0 by omega]
    refine ⟨fun z => absurd z (ib_flat (by omega) (by omega) b0 dn), fun z => ?_⟩
    rcases z with z | z <;> rw [Int.zero_mul] at z <;> omega
/-- how far the least one may be -/
theorem ib_far {a b m c d n x : Int} (m1 : 1 ≤ m) (n1 : 1 ≤ n) (r : b * n ≤ d * m) (h : Lst (Ib a b m c d n) x) : x ≤ m * n + (d * m - b * n) := by
  obtain ⟨x0, ⟨y, h1, h2⟩, lst⟩ := h
  have mn := one_le_mul m1 n1
  rcases Int.lt_trichotomy (a * n) (c * m) with z | z | z
  · rcases Int.lt_or_le (m * n) x with k | k
    · refine absurd ?_ (lst (m * n) (by omega) k)
      refine ⟨dvu (a * (m * n) + b) m, dvu_ge (by omega), ?_⟩
      have l := dvu_lt (x := a * (m * n) + b) (s := m) (by omega)
      generalize dvu (a * (m * n) + b) m = v at *
      refine Int.le_of_lt_add_one (lt_of_mulc (g := m) ?_ (by omega))
      have l2 := Int.mul_le_mul_of_nonneg_right (show m * v + 1 ≤ a * (m * n) + b + m by omega) (show 0 ≤ n by omega)
      have z2 := Int.mul_le_mul_of_nonneg_right (show a * n + 1 ≤ c * m by omega) (show 0 ≤ m * n by omega)
      have e1 : (m * v + 1) * n = n * v * m + n := by grind
      have e2 : (a * (m * n) + b + m) * n = a * n * (m * n) + b * n + m * n := by grind
      have e3 : (c * (m * n) + d + 1) * m = c * m * (m * n) + d * m + m := by grind
      have e4 : (a * n + 1) * (m * n) = a * n * (m * n) + m * n := by grind
      omega
    · omega
  · rcases Int.lt_or_le x (m * n) with k | k
    · omega
    · refine absurd ?_ (lst (x - m * n) (by omega) (by omega))
      refine ⟨y - a * n, ?_, ?_⟩
      · have e1 : a * (x - m * n) = a * x - m * (a * n) := by grind
        rw [e1, Int.mul_sub]
        omega
      · have e1 : c * (x - m * n) = c * x - n * (c * m) := by grind
        rw [e1, Int.mul_sub, z]
        omega
  · have g1 := Int.mul_le_mul_of_nonneg_right h1 (show 0 ≤ n by omega)
    have g2 := Int.mul_le_mul_of_nonneg_right h2 (show 0 ≤ m by omega)
    have e1 : (a * x + b) * n = a * n * x + b * n := by grind
    have e2 : (c * x + d) * m = c * m * x + d * m := by grind
    have e3 : m * y * n = n * y * m := by grind
    have g3 := Int.mul_le_mul_of_nonneg_right (show c * m + 1 ≤ a * n by omega) x0
    rw [Int.add_mul] at g3
    omega
end Lf
namespace Lf
open PySem PySem.Spec PyProof.Rows L2
/-! ### min(xs, default=None), max(xs, default=None) of a list of ints -/
theorem hold_ints {h : Heap} {xs : List Int} {us : List Value} (r : Vals (xs.map V.int) us) : PySem.W.HoldAll h us xs := by
  suffices h' : ∃ as, ReadsAll h us (xs.map PyData.int) as from h'
  induction xs generalizing us with
  | nil =>
    cases r
    exact ⟨_, .nil⟩
  | cons x xs ih =>
    cases r with
    | cons r1 r =>
      obtain ⟨as, e⟩ := ih r
      obtain ⟨t, rfl⟩ := (show ∃ t, _ = Value.int x t from r1)
      exact ⟨_, .cons (.int x t) e⟩
def minV : List Int → V
  | [] => .non
  | x :: xs => .int (PySem.W.minOf x xs)
def maxV : List Int → V
  | [] => .non
  | x :: xs => .int (PySem.W.maxOf x xs)
def rMinD (K : PySem.W.Frag) : List V → List V → Hp → VK → Prop := fun vs zs H Q => ∃ (a : Addr) (xs : List Int), vs = [V.ref a] ∧ zs = [.non] ∧ SqL K H a (xs.map V.int) ∧ Q (minV xs) H
def rMaxD (K : PySem.W.Frag) : List V → List V → Hp → VK → Prop := fun vs zs H Q => ∃ (a : Addr) (xs : List Int), vs = [V.ref a] ∧ zs = [.non] ∧ SqL K H a (xs.map V.int) ∧ Q (maxV xs) H
theorem cr_minDv {X : Cx} (hc : X.calm = true) (hu : X.A.units + 1 < cLine) : CallRK X (.builtin "min") ["default"] (rMinD X.K) := by
  intro pins s σ H vs zs us ws Q I r r2 h
  obtain ⟨a, xs, rfl, rfl, hs, q⟩ := h
  obtain ⟨its, rv, hl, _⟩ := I.list hs
  rw [Vals.ref1 r]
  cases r2 with
  | cons r3 r4 =>
    cases r4
    cases r3
    refine PySem.W.min_list_datum_default (α := Int) (xs := xs) (I.ok.hd hc) hl.isList (hold_ints rv) (by show _ + 1 + 0 < _; omega) (fun e h' tk hk => ?_) fun y ys i v h' tk e hv hh hk => ?_
    · subst e
      exact ⟨.non, H, I.kept hk, rfl, q⟩
    · subst e
      obtain ⟨as, hr⟩ := hh
      obtain ⟨t, rfl⟩ : ∃ t, v = Value.int (PySem.W.minOf y ys) t := by
        cases hr
        exact ⟨_, rfl⟩
      exact ⟨.int _, H, I.kept hk, ⟨_, rfl⟩, q⟩
theorem cr_maxDv {X : Cx} (hc : X.calm = true) (hu : X.A.units + 1 < cLine) : CallRK X (.builtin "max") ["default"] (rMaxD X.K) := by
  intro pins s σ H vs zs us ws Q I r r2 h
  obtain ⟨a, xs, rfl, rfl, hs, q⟩ := h
  obtain ⟨its, rv, hl, _⟩ := I.list hs
  rw [Vals.ref1 r]
  cases r2 with
  | cons r3 r4 =>
    cases r4
    cases r3
    refine PySem.W.max_list_datum_default (α := Int) (xs := xs) (I.ok.hd hc) hl.isList (hold_ints rv) (by show _ + 1 + 0 < _; omega) (fun e h' tk hk => ?_) fun y ys i v h' tk e hv hh hk => ?_
    · subst e
      exact ⟨.non, H, I.kept hk, rfl, q⟩
    · subst e
      obtain ⟨as, hr⟩ := hh
      obtain ⟨t, rfl⟩ : ∃ t, v = Value.int (PySem.W.maxOf y ys) t := by
        cases hr
        exact ⟨_, rfl⟩
      exact ⟨.int _, H, I.kept hk, ⟨_, rfl⟩, q⟩
theorem minOf2 (x y : Int) : PySem.W.minOf x [y] = if y < x then y else x := by
  show (if decide (y < x) = true then y else x) = _
  by_cases h : y < x <;> simp [h]
theorem maxOf2 (x y : Int) : PySem.W.maxOf x [y] = if x < y then y else x := by
  show (if decide (x < y) = true then y else x) = _
  by_cases h : x < y <;> simp [h]
end Lf
namespace Lf
open PySem PySem.Spec PyProof.Rows L2
/-- the levels as they lie: the list's items are tuples of three ints -/
structure Lv3 (H : Hp) (ts : List Addr) (L : List (Int × Int × Int)) : Prop where
  len : ts.length = L.length
  at_ : ∀ (i : Nat) (t : Addr) (e : Int × Int × Int), ts[i]? = some t → L[i]? = some e → H t = some (.tup [.int e.1, .int e.2.1, .int e.2.2])
theorem Lv3.same {H H' : Hp} {ts : List Addr} {L : List (Int × Int × Int)} (v : Lv3 H ts L) (f : Fr H H') : Lv3 H' ts L := ⟨v.len, fun i t e h1 h2 => f.t _ _ (v.at_ i t e h1 h2)⟩
theorem Lv3.snoc {H : Hp} {ts : List Addr} {L : List (Int × Int × Int)} {t : Addr} {s m l : Int} (v : Lv3 H ts L) (h : H t = some (.tup [.int s, .int m, .int l])) : Lv3 H (ts ++ [t]) (L ++ [(s, m, l)]) := by
  refine ⟨by rw [List.length_append, List.length_append, v.len]; rfl, fun i t' e h1 h2 => ?_⟩
  by_cases hi : i < ts.length
  · rw [List.getElem?_append_left hi] at h1
    rw [List.getElem?_append_left (by rw [← v.len]; exact hi)] at h2
    exact v.at_ i t' e h1 h2
  · rw [List.getElem?_append_right (by omega)] at h1
    rw [List.getElem?_append_right (by rw [← v.len]; omega)] at h2
    rw [v.len] at h1
    cases hz : i - L.length with
    | zero =>
      rw [hz] at h1 h2
      have e1 : t = t' := Option.some.inj h1
      have e2 : (s, m, l) = e := Option.some.inj h2
      subst e1 e2
      exact h
    | succ z =>
      rw [hz] at h1
      simp at h1
theorem dvu_lst {f b : Int} (hf : 0 < f) (hb : 0 < b) : Lst (fun x => b ≤ f * x) (dvu b f) := by
  have g := dvu_ge (x := b) hf
  refine ⟨?_, g, fun k k0 k1 z => ?_⟩
  · rcases Int.lt_or_le (dvu b f) 0 with z | z
    · have := Int.mul_le_mul_of_nonneg_left (show dvu b f ≤ 0 by omega) (Int.le_of_lt hf)
      rw [Int.mul_zero] at this
      omega
    · exact z
  · have := (dvu_le hf).mpr z
    omega
/-- the least of two -/
theorem ex_two {f b r e : Int} (f0 : 0 < f) (r0 : 0 < r) (b0 : 0 < b) (e0 : 0 < e) : Lst (Ex f b r e) (if dvu e r < dvu b f then dvu e r else dvu b f) := by
  obtain ⟨p1, p2, p3⟩ := dvu_lst f0 b0
  obtain ⟨q1, q2, q3⟩ := dvu_lst r0 e0
  by_cases h : dvu e r < dvu b f
  · rw [if_pos h]
    exact ⟨q1, .inr q2, fun k k0 k1 z => z.elim (p3 k k0 (by omega)) (q3 k k0 k1)⟩
  · rw [if_neg h]
    exact ⟨p1, .inl p2, fun k k0 k1 z => z.elim (p3 k k0 k1) (q3 k k0 (by omega))⟩
theorem ex_one {f b r e : Int} (f0 : 0 < f) (r0 : r = 0) (b0 : 0 < b) (e0 : 0 < e) : Lst (Ex f b r e) (dvu b f) := by
  subst r0
  obtain ⟨p1, p2, p3⟩ := dvu_lst f0 b0
  exact ⟨p1, .inl p2, fun k k0 k1 z => z.elim (p3 k k0 k1) (fun z => by rw [Int.zero_mul] at z; omega)⟩
theorem ex_oth {f b r e : Int} (f0 : f = 0) (r0 : 0 < r) (b0 : 0 < b) (e0 : 0 < e) : Lst (Ex f b r e) (dvu e r) := by
  subst f0
  obtain ⟨p1, p2, p3⟩ := dvu_lst r0 e0
  exact ⟨p1, .inr p2, fun k k0 k1 z => z.elim (fun z => by rw [Int.zero_mul] at z; omega) (p3 k k0 k1)⟩
theorem ex_no {f b r e : Int} (f0 : f = 0) (r0 : r = 0) (b0 : 0 < b) (e0 : 0 < e) : NoM (Ex f b r e) := by
  subst f0 r0
  rintro x x0 (z | z) <;> rw [Int.zero_mul] at z <;> omega
section
variable {P : Program} {w : World} {K : PySem.W.Frag} {mg : Str → Option Value} {base : Heap}
/-! ### first_exit -/
def spExit : Sp := fun vs H Q _ => ∃ (u v : Addr) (f b r e : Int) (k : Nat), vs = [.ref u, .ref v] ∧ H u = some (.tup [.int f, .int b]) ∧ H v = some (.tup [.int r, .int e]) ∧ 0 ≤ f ∧ 0 ≤ r ∧ 0 < b ∧ 0 < e ∧ Bd k f ∧ Bd k r ∧ k ≤ 9000 ∧
  (∀ n H', Same H H' → Lst (Ex f b r e) n → Q (.int n) H') ∧ (NoM (Ex f b r e) → ∀ H', Same H H' → Q .non H')
abbrev s_first_exit : Stmt := topS 14
abbrev N_first_exit : List Str := ["fall", "rise", "times", "speed", "way"]
abbrev P_first_exit : List Str := ["fall", "rise"]
theorem sc_first_exit : FnScope N_first_exit P_first_exit (defScope s_first_exit) := ⟨rfl, rfl, rfl, by decide +kernel, rfl, by decide +kernel, by decide +kernel⟩
theorem ok_first_exit (D : Df K mg "first_exit" s_first_exit P_first_exit) (B : Bi mg) (c_divide_up : C8.Cal P w K mg base 1 "divide_up" spDivUp []) : C8.Cal P w K mg base 2 "first_exit" spExit [] := by
  refine cal_of D sc_first_exit (fun vs H Q E h => ?_) (fun f cdv A outer s H vs Q E hr h => ?_)
  · obtain ⟨u, v, f, b, r, e, k, rfl, _⟩ := h
    rfl
  · obtain ⟨u, v, fl, b, r, e, k, rfl, eu, ev, f0, r0, b0, e0, bf, br, k9, q1, q2⟩ := h
    have hu := hu_of hr
    have hu1 : (A.deeper (envOfC "first_exit" (defScope s_first_exit) s.heap.objs.size f cdv)).units + 1 < cLine := by
      have := hr.un
      omega
    refine ⟨_, (pss_cons (ps_setLc (i := 2) (own := [("speed", 3), ("way", 4)]) (g := (gTup K 2 (gCons (gName 3) (gCons (gName 4) gNil)))) (by rfl) sc_first_exit.nd rfl rfl (sw_true rfl rfl rfl (by decide +kernel)) (pi_tup (pe_tup (pa_cons (pv 0) (pa_cons (pv 1) pa_nil)))) (blkOk_by (own := [("speed", 3), ("way", 4)]) (N := N_first_exit) (sc := defScope s_first_exit) (by decide +kernel)) (fun _ _ _ _ _ => (pg_tup rfl (pgs_cons (pg_name (i := 3) sc_first_exit.nd rfl (Or.inl rfl)) (pgs_cons (pg_name (i := 4) sc_first_exit.nd rfl (Or.inl rfl)) pgs_nil)))) (fun _ _ _ _ _ => (pts_one (pt_cmpR op_gt (pv 3) pe_int (nomark _)))) (fun _ _ _ _ _ => (C8.pe_c c_divide_up hr (by decide) (by rfl) (pa_cons (pv 4) (pa_cons (pv 3) pa_nil)))))
    (pss_one (ps_ret (pe_callBK (cr_minDv rfl hu1) (by rfl) B.min_ bt_min (pa_cons (pv 2) pa_nil) (pk_cons pe_non pk_nil))))), ?_⟩
    refine ⟨_, rfl, _, rfl, len10 (by simp), fun tq ntq => ?_⟩
    have s4 := sm_upd (o := .tup [.ref u, .ref v]) ntq
    have e4 : upd H tq (.tup [.ref u, .ref v]) tq = some (.tup [.ref u, .ref v]) := upd_same
    generalize upd H tq (.tup [.ref u, .ref v]) = H4 at s4 e4
    have eu := s4 _ _ eu
    have ev := s4 _ _ ev
    refine ⟨tq, rfl, ⟨_, SqT.of e4⟩, fun L nL => ?_⟩
    refine lc_tup (K := K) (a := tq) (xs := [.ref u, .ref v]) (fun j H' => Same H4 H' ∧ H' L = some (.lst (((if 0 < j ∧ 0 < fl then [dvu b fl] else []) ++ (if 1 < j ∧ 0 < r then [dvu e r] else [])).map V.int))) ⟨sm_upd nL, upd_same⟩ ?_ ?_ ?_
    · rintro j H' _ ⟨s1, _⟩
      exact SqT.of (s1 _ _ e4)
    · rintro j x H' hx ⟨s1, eL⟩
      match j, hx with
      | 0, hx =>
        cases hx
        refine ⟨u, _, rfl, SqT.of (s1 _ _ eu), rfl, _, _, rfl, _, _, rfl, rfl, rfl, ?_⟩
        refine ⟨_, rfl, _, _, rfl, rfl, _, rfl, ite2 (fun c => ?_) (fun c => ?_)⟩
        · have c : 0 < fl := of_decide_eq_true c
          refine ⟨_, rfl, _, rfl, b, fl, rfl, c, bf.mono k9, _, eL, small1000 (by simp), ?_, ?_⟩
          · intro y o ey
            rw [upd_ne (ne_of_none ey nL)]
            exact s1 _ _ ey
          · rw [upd_same]
            simp [c]
        · have c : ¬ 0 < fl := fun z => c (decide_eq_true z)
          refine ⟨s1, ?_⟩
          rw [eL]
          simp [c]
      | 1, hx =>
        cases hx
        refine ⟨v, _, rfl, SqT.of (s1 _ _ ev), rfl, _, _, rfl, _, _, rfl, rfl, rfl, ?_⟩
        refine ⟨_, rfl, _, _, rfl, rfl, _, rfl, ite2 (fun c => ?_) (fun c => ?_)⟩
        · have c : 0 < r := of_decide_eq_true c
          refine ⟨_, rfl, _, rfl, e, r, rfl, c, br.mono k9, _, eL, small1000 (by simp; split <;> simp), ?_, ?_⟩
          · intro y o ey
            rw [upd_ne (ne_of_none ey nL)]
            exact s1 _ _ ey
          · rw [upd_same]
            simp [c]
        · have c : ¬ 0 < r := fun z => c (decide_eq_true z)
          refine ⟨s1, ?_⟩
          rw [eL]
          simp [c]
    rintro H5 ⟨s5, eL⟩
    have s6 := s4.trans s5
    refine ⟨_, rfl, L, _, rfl, rfl, SqL.of eL, ?_⟩
    by_cases cf : 0 < fl
    · by_cases cr : 0 < r
      · have ee : minV ((if 0 < [V.ref u, V.ref v].length ∧ 0 < fl then [dvu b fl] else []) ++ (if 1 < [V.ref u, V.ref v].length ∧ 0 < r then [dvu e r] else [])) = .int (if dvu e r < dvu b fl then dvu e r else dvu b fl) := by
          rw [if_pos ⟨by simp, cf⟩, if_pos ⟨by simp, cr⟩]
          show V.int (PySem.W.minOf (dvu b fl) [dvu e r]) = _
          rw [minOf2]
        rw [ee]
        exact q1 _ _ s6 (ex_two cf cr b0 e0)
      · have ee : minV ((if 0 < [V.ref u, V.ref v].length ∧ 0 < fl then [dvu b fl] else []) ++ (if 1 < [V.ref u, V.ref v].length ∧ 0 < r then [dvu e r] else [])) = .int (dvu b fl) := by
          rw [if_pos ⟨by simp, cf⟩, if_neg (fun z => cr z.2)]
          rfl
        rw [ee]
        exact q1 _ _ s6 (ex_one cf (by omega) b0 e0)
    · by_cases cr : 0 < r
      · have ee : minV ((if 0 < [V.ref u, V.ref v].length ∧ 0 < fl then [dvu b fl] else []) ++ (if 1 < [V.ref u, V.ref v].length ∧ 0 < r then [dvu e r] else [])) = .int (dvu e r) := by
          rw [if_neg (fun z => cf z.2), if_pos ⟨by simp, cr⟩]
          rfl
        rw [ee]
        exact q1 _ _ s6 (ex_oth (by omega) cr b0 e0)
      · have ee : minV ((if 0 < [V.ref u, V.ref v].length ∧ 0 < fl then [dvu b fl] else []) ++ (if 1 < [V.ref u, V.ref v].length ∧ 0 < r then [dvu e r] else [])) = .non := by
          rw [if_neg (fun z => cf z.2), if_neg (fun z => cr z.2)]
          rfl
        rw [ee]
        exact q2 (ex_no (by omega) (by omega) b0 e0) _ s6
end
end Lf
namespace Lf
open PySem PySem.Spec PyProof.Rows L2
theorem nab_dvu {x s : Int} (hs : 0 < s) : (dvu x s).natAbs ≤ x.natAbs := by
  unfold dvu
  have := nab_ediv (x := -x) hs
  omega
theorem Bd.dvu {k : Nat} {x s : Int} (h : Bd k x) (hs : 0 < s) : Bd k (dvu x s) := h.le (nab_dvu hs)
abbrev tp3 (p q c : Int) : HO := .tup [.int p, .int q, .int c]
section
variable {P : Program} {w : World} {K : PySem.W.Frag} {mg : Str → Option Value} {base : Heap}
/-! ### first_inside -/
def spFI : Sp := fun vs H Q _ => ∃ (lw hg : Addr) (a b m c d n : Int) (k : Nat), vs = [.ref lw, .ref hg] ∧ H lw = some (tp3 a b m) ∧ H hg = some (tp3 c d n) ∧ 1 ≤ m ∧ 1 ≤ n ∧ b * n ≤ d * m ∧ Bd k a ∧ Bd k b ∧ Bd k m ∧ Bd k c ∧ Bd k d ∧ Bd k n ∧ 0 < k ∧ k ≤ 2000 ∧
  (∀ x H', Same H H' → Lst (Ib a b m c d n) x → Q (.int x) H') ∧ (NoM (Ib a b m c d n) → ∀ H', Same H H' → Q .non H')
def muB : L2.St → Hp → Nat := fun σ H => match σ with
  | some (.ref l) :: some (.ref h) :: _ => (match H l, H h with
    | some (.tup [_, _, .int m]), some (.tup [_, _, .int n]) => (m + n).toNat
    | _, _ => 0)
  | _ => 0
abbrev s_first_inside : Stmt := topS 13
abbrev N_first_inside : List Str := ["low", "high", "levels", "a", "b", "m", "c", "d", "n", "upper", "x", "slope", "offset", "divisor"]
abbrev P_first_inside : List Str := ["low", "high"]
theorem sc_first_inside : FnScope N_first_inside P_first_inside (defScope s_first_inside) := ⟨rfl, rfl, rfl, by decide +kernel, rfl, by decide +kernel, by decide +kernel⟩
theorem ok_first_inside (D : Df K mg "first_inside" s_first_inside P_first_inside) (B : Bi mg) (c_divide_up : C8.Cal P w K mg base 1 "divide_up" spDivUp []) (c_first_exit : C8.Cal P w K mg base 2 "first_exit" spExit []) : C8.Cal P w K mg base 3 "first_inside" spFI [] := by
  refine cal_of D sc_first_inside (fun vs H Q E h => ?_) (fun f cdv A outer s H vs Q E hr h => ?_)
  · obtain ⟨lw, hg, a, b, m, c, d, n, k, rfl, _⟩ := h
    rfl
  · obtain ⟨lw0, hg0, a0, b0, m0, c0, d0, n0, k, rfl, el0, eh0, m1, n1, r0, ba, bb, bm, bc, bd, bn, k0, k2, q1, q2⟩ := h
    refine ⟨_, (pss_cons (ps_set (i := 2) sc_first_inside.nd rfl (Or.inl rfl) (pe_lst pa_nil))
    (C8.pss_cut (ps_while PassesOwn.never (pt_val pe_bl)
      (pss_cons (ps_asg (pv 0) (pg_tup rfl (pgs_cons (pg_name (i := 3) sc_first_inside.nd rfl (Or.inl rfl)) (pgs_cons (pg_name (i := 4) sc_first_inside.nd rfl (Or.inl rfl)) (pgs_cons (pg_name (i := 5) sc_first_inside.nd rfl (Or.inl rfl)) pgs_nil)))))
    (pss_cons (ps_asg (pv 1) (pg_tup rfl (pgs_cons (pg_name (i := 6) sc_first_inside.nd rfl (Or.inl rfl)) (pgs_cons (pg_name (i := 7) sc_first_inside.nd rfl (Or.inl rfl)) (pgs_cons (pg_name (i := 8) sc_first_inside.nd rfl (Or.inl rfl)) pgs_nil)))))
    (pss_cons (ps_set (i := 9) sc_first_inside.nd rfl (Or.inl rfl) (C8.pe_c c_divide_up hr (by decide) (by rfl) (pa_cons (pv 4) (pa_cons (pv 5) pa_nil))))
    (pss_cons (ps_if (pt_cmpR op_le (pe_op op_mulW (pv 9) (pv 8)) (pv 7) (nomark _))
      (pss_cons (ps_set (i := 10) sc_first_inside.nd rfl (Or.inl rfl) pe_int)
    (pss_one ps_break))
      pss_nil)
    (pss_cons (ps_par (i := 4) (j := 7) rfl sc_first_inside.nd rfl rfl (by decide) rfl rfl (pa_cons (pe_op op_sub (pv 4) (pe_op op_mulW (pe_op op_sub (pv 9) pe_int) (pv 5))) (pa_cons (pe_op op_sub (pv 7) (pe_op op_mulW (pe_op op_sub (pv 9) pe_int) (pv 8))) pa_nil)) rfl)
    (pss_cons (ps_set (i := 11) sc_first_inside.nd rfl (Or.inl rfl) (C8.pe_c c_divide_up hr (by decide) (by rfl) (pa_cons (pv 3) (pa_cons (pv 5) pa_nil))))
    (pss_cons (ps_if (pt_cmpR op_le (pe_op op_mulW (pv 11) (pv 8)) (pv 6) (nomark _))
      (pss_cons (ps_set (i := 10) sc_first_inside.nd rfl (Or.inl rfl) (C8.pe_c c_first_exit hr (by decide) (by rfl) (pa_cons (pe_tup (pa_cons (pe_op op_sub (pe_op op_mulW (pv 11) (pv 5)) (pv 3)) (pa_cons (pv 4) pa_nil))) (pa_cons (pe_tup (pa_cons (pe_op op_sub (pv 6) (pe_op op_mulW (pv 11) (pv 8))) (pa_cons (pe_op op_sub (pv 8) (pv 7)) pa_nil))) pa_nil))))
    (pss_one ps_break))
      pss_nil)
    (pss_cons (ps_if (pt_cmpR op_le (pv 6) (pe_op op_mulW (pe_op op_sub (pv 11) pe_int) (pv 8)) (nomark _))
      (pss_one (ps_ret pe_non))
      pss_nil)
    (pss_cons (ps_set (i := 0) sc_first_inside.nd rfl (Or.inl rfl) (pe_tup (pa_cons (pv 8) (pa_cons (pe_op op_sub (pv 8) (pv 7)) (pa_cons (pe_op op_sub (pv 6) (pe_op op_mulW (pe_op op_sub (pv 11) pe_int) (pv 8))) pa_nil)))))
    (pss_cons (ps_set (i := 1) sc_first_inside.nd rfl (Or.inl rfl) (pe_tup (pa_cons (pv 5) (pa_cons (pe_op op_sub (pv 5) (pv 4)) (pa_cons (pe_op op_sub (pv 3) (pe_op op_mulW (pe_op op_sub (pv 11) pe_int) (pv 5))) pa_nil)))))
    (pss_one (ps_expr (pe_bm PySem.F.plainAttrs_list PySem.F.slot_list_append PySem.F.type_list_append mt_append (pv 2) (pa_cons (pv 0) pa_nil)))))))))))))))
    (pss_cons (ps_if (pt_cmpR op_isN (pv 10) pe_non (nomark _))
      (pss_one (ps_ret pe_non))
      pss_nil)
    (pss_cons (ps_for PassesOwn.never rfl (pi_reversed (by rfl) B.reversed_ (pa_cons (pv 2) pa_nil)) (pg_tup rfl (pgs_cons (pg_name (i := 11) sc_first_inside.nd rfl (Or.inl rfl)) (pgs_cons (pg_name (i := 12) sc_first_inside.nd rfl (Or.inl rfl)) (pgs_cons (pg_name (i := 13) sc_first_inside.nd rfl (Or.inl rfl)) pgs_nil))))
      (pss_one (ps_set (i := 10) sc_first_inside.nd rfl (Or.inl rfl) (C8.pe_c c_divide_up hr (by decide) (by rfl) (pa_cons (pe_op op_add (pe_op op_mulW (pv 11) (pv 10)) (pv 12)) (pa_cons (pv 13) pa_nil))))))
    (pss_one (ps_ret (pv 10))))))), ?_⟩
    have bW : Bd (k + k) (m0 * n0) := Bd.mul bm bn
    have W0 := one_le_mul m1 n1
    have bZ : Bd (2 * k + 16) (4097 * (m0 * n0)) := (Bd.mul (show Bd 13 4097 from Bd.small 13 (by decide) (by decide)) bW).mono (by omega)
    have bM : Bd (2 * k + 16) (m0 * n0 + (d0 * m0 - b0 * n0)) := (Bd.add (k := 2 * k + 1) (bW.mono (by omega)) ((Bd.sub (Bd.mul bd bm) (Bd.mul bb bn)).mono (by omega))).mono (by omega)
    have F0 := FI.init (j := 2 * k + 16) (M := m0 * n0 + (d0 * m0 - b0 * n0)) m1 n1 r0 (ba.mono (by omega)) (bb.mono (by omega)) (bc.mono (by omega)) (bd.mono (by omega)) (fun x hx => ib_far m1 n1 r0 hx)
    generalize m0 * n0 + (d0 * m0 - b0 * n0) = M at bM F0
    generalize m0 * n0 = W at bW W0 bZ F0
    have kj : 2 * k + 16 ≤ 4016 := by omega
    refine ⟨Nat.zero_le _, fun lv nlv => ?_⟩
    refine ⟨fun σ' H' => ∃ (v : V) (z0 z1 z3 z4 z5 z6 z7 z8 z9 z11 z12 z13 : Option V), σ' = [z0, z1, some (.ref lv), z3, z4, z5, z6, z7, z8, z9, some v, z11, z12, z13] ∧ Same H H' ∧ ((v = .non ∧ NoM (Ib a0 b0 m0 c0 d0 n0)) ∨
      ∃ (x a b m c d n : Int) (L : List (Int × Int × Int)) (ts : List Addr), v = .int x ∧ FI (2 * k + 16) 0 W M (Ib a0 b0 m0 c0 d0 n0) L a b m c d n ∧ Lst (Ib a b m c d n) x ∧ H' lv = some (.lst (ts.map V.ref)) ∧ Lv3 H' ts L), ?_, ?_⟩
    · refine while_by (fun σ H' => ∃ (lw hg : Addr) (a b m c d n : Int) (L : List (Int × Int × Int)) (ts : List Addr) (y3 y4 y5 y6 y7 y8 y9 y10 y11 y12 y13 : Option V), σ = [some (.ref lw), some (.ref hg), some (.ref lv), y3, y4, y5, y6, y7, y8, y9, y10, y11, y12, y13] ∧ FI (2 * k + 16) 0 W M (Ib a0 b0 m0 c0 d0 n0) L a b m c d n ∧
        H' lw = some (tp3 a b m) ∧ H' hg = some (tp3 c d n) ∧ Same H H' ∧ H' lv = some (.lst (ts.map V.ref)) ∧ Lv3 H' ts L) muB ⟨lw0, hg0, a0, b0, m0, c0, d0, n0, [], [], _, _, _, _, _, _, _, _, _, _, _, rfl, F0, sm_upd nlv _ _ el0, sm_upd nlv _ _ eh0, sm_upd nlv, upd_same, ⟨rfl, fun i t e h => by simp at h⟩⟩ ?_ ?_
      · rintro σ H1 ⟨lw, hg, a, b, m, c, d, n, L, ts, y3, y4, y5, y6, y7, y8, y9, y10, y11, y12, y13, rfl, F, el, eh, sH, elv, lvs⟩
        have m1 := F.m1
        have n1 := F.n1
        have Bm : Bd (2 * k + 16) m := by
          have h1 := mul_self_le (show 0 ≤ m by omega) n1
          have := F.w
          exact bZ.between (by omega) (by omega)
        have Bn : Bd (2 * k + 16) n := by
          have h1 := mul_self_le (show 0 ≤ n by omega) m1
          have := F.w
          rw [Int.mul_comm n m] at h1
          exact bZ.between (by omega) (by omega)
        have hlen := F.len bW
        generalize hj : 2 * k + 16 = j at *
        have j0 : 0 < j := by omega
        refine ⟨true, rfl, ?_⟩
        refine ⟨_, rfl, lw, _, rfl, SqT.of el, rfl, _, _, rfl, _, _, rfl, _, _, rfl, rfl, ?_⟩
        refine ⟨_, rfl, hg, _, rfl, SqT.of eh, rfl, _, _, rfl, _, _, rfl, _, _, rfl, rfl, ?_⟩
        refine ⟨_, rfl, _, rfl, b, m, rfl, by omega, Bm.mono (by omega), ?_⟩
        have Bu := F.bb.dvu (s := m) (by omega)
        refine ⟨_, rfl, _, rfl, _, _, rfl, rfl, mulW Bu Bn j0 j0 (by omega), _, rfl, _, _, rfl, rfl, _, rfl, ite2 (fun cA => ?_) (fun cA => ?_)⟩
        · have cA : dvu b m * n ≤ d := of_decide_eq_true cA
          have hx := ib_zero (a := a) (c := c) (show 0 < m by omega) cA
          exact ⟨.int 0, _, _, _, _, _, _, _, _, _, _, _, _, rfl, sH, .inr ⟨0, a, b, m, c, d, n, L, ts, rfl, F, hx, elv, lvs⟩⟩
        · have cA : ¬ dvu b m * n ≤ d := fun z => cA (decide_eq_true z)
          obtain ⟨t1, t2, t3⟩ := ib_rest (show 0 < m by omega) cA
          have Bu1 : Bd (j + 1) (dvu b m - 1) := Bd.sub Bu (Bd.small 1 (by decide) (by omega))
          refine ⟨_, rfl, _, rfl, _, _, rfl, rfl, _, rfl, _, _, rfl, rfl, mulW Bu1 Bm (by omega) j0 (by omega), _, _, rfl, rfl, ?_⟩
          refine ⟨_, rfl, _, rfl, _, _, rfl, rfl, _, rfl, _, _, rfl, rfl, mulW Bu1 Bn (by omega) j0 (by omega), _, _, rfl, rfl, _, _, rfl, ?_⟩
          refine ⟨_, rfl, _, rfl, a, m, rfl, by omega, Bm.mono (by omega), ?_⟩
          have Bs := F.ba.dvu (s := m) (by omega)
          have Bs1 : Bd (j + 1) (dvu a m - 1) := Bd.sub Bs (Bd.small 1 (by decide) (by omega))
          have gs := dvu_ge (x := a) (show 0 < m by omega)
          have ls := dvu_lt (x := a) (show 0 < m by omega)
          generalize hs : dvu a m = sl at *
          generalize hu : dvu b m - 1 = u at *
          rw [Int.mul_comm m sl] at gs ls
          have iff : ∀ x, Ib a (b - u * m) m c (d - u * n) n x ↔ Ib a b m c d n x := fun x => ib_down u
          have Bd' : Bd (j + j + 2) (d - u * n) := Bd.sub (F.bd.mono (by omega)) ((Bd.mul Bu1 Bn).mono (by omega))
          have eg : (b - u * m) * n - (d - u * n) * m = b * n - d * m := by grind
          have rr : (b - u * m) * n ≤ (d - u * n) * m ∨ c * m ≤ a * n := by
            rcases F.r with z | z
            · exact .inl (by omega)
            · exact .inr z
          refine ⟨_, rfl, _, rfl, _, _, rfl, rfl, mulW Bs Bn j0 j0 (by omega), _, rfl, _, _, rfl, rfl, _, rfl, ite2 (fun cB => ?_) (fun cB => ?_)⟩
          · have cB : sl * n ≤ c := of_decide_eq_true cB
            have ex : ∀ x, 0 ≤ x → (Ib a b m c d n x ↔ Ex (sl * m - a) (b - u * m) (c - sl * n) (n - (d - u * n)) x) := fun x x0 => (iff x).symm.trans (ib_ex m1 n1 gs cB t1 t2 t3 rr x0)
            have Bf : Bd (j + j + 1) (sl * m - a) := Bd.sub (Bd.mul Bs Bm) (F.ba.mono (by omega))
            have Br : Bd (j + j + 1) (c - sl * n) := Bd.sub (F.bc.mono (by omega)) (Bd.mul Bs Bn)
            refine ⟨_, rfl, _, rfl, _, _, rfl, rfl, mulW Bs Bm j0 j0 (by omega), _, rfl, _, _, rfl, rfl, _, rfl, len10 (by simp), fun p1 np1 => ?_⟩
            have s1 := sm_upd (o := .tup [.int (sl * m - a), .int (b - u * m)]) np1
            refine ⟨_, rfl, _, rfl, _, rfl, _, _, rfl, rfl, mulW Bs Bn j0 j0 (by omega), _, _, rfl, rfl, _, rfl, _, rfl, _, _, rfl, rfl, len10 (by simp), fun p2 np2 => ?_⟩
            have s2 := sm_upd (o := .tup [.int (c - sl * n), .int (n - (d - u * n))]) np2
            have s3 := s1.trans s2
            refine ⟨p1, p2, sl * m - a, (b - u * m), c - sl * n, n - (d - u * n), j + j + 1, rfl, s2 _ _ upd_same, upd_same, by omega, by omega, t1, by omega, Bf, Br, by omega, fun x H2 s4 hx => ?_, fun hx H2 s4 => ?_⟩
            · have s5 := s3.trans s4
              exact ⟨.int x, _, _, _, _, _, _, _, _, _, _, _, _, rfl, sH.trans s5, .inr ⟨x, a, b, m, c, d, n, L, ts, rfl, F, (lst_iff0 ex x).mpr hx, s5 _ _ elv, lvs.same (Fr.same s5)⟩⟩
            · exact ⟨.non, _, _, _, _, _, _, _, _, _, _, _, _, rfl, sH.trans (s3.trans s4), .inl ⟨rfl, F.Bn ((nom_iff0 ex).mpr hx)⟩⟩
          · have cB : ¬ sl * n ≤ c := fun z => cB (decide_eq_true z)
            refine ⟨_, rfl, _, rfl, _, _, rfl, rfl, _, rfl, _, _, rfl, rfl, mulW Bs1 Bn (by omega) j0 (by omega), _, _, rfl, rfl, _, rfl, ite2 (fun cC => ?_) (fun cC => ?_)⟩
            · have cC : c ≤ (sl - 1) * n := of_decide_eq_true cC
              refine q2 (F.Bn fun x x0 z => ?_) _ sH
              have z := (ib_tilt (sl - 1)).mpr ((iff x).mpr z)
              exact ib_meet (by omega) (by omega) (by rw [Int.sub_mul]; omega) (by omega) t1 t3 x0 z
            · have cC : ¬ c ≤ (sl - 1) * n := fun z => cC (decide_eq_true z)
              have S : Slim (a - (sl - 1) * m) (b - u * m) m (c - (sl - 1) * n) (d - u * n) n := by
                have e1 : (sl - 1) * m = sl * m - m := by rw [Int.sub_mul]; omega
                have e2 : (sl - 1) * n = sl * n - n := by rw [Int.sub_mul]; omega
                exact ⟨by omega, by omega, t1, t2, by omega, by omega, t3⟩
              have FN := F.next (Z := 4097 * W) S rfl rfl rfl rfl (by omega) (by omega) bZ (by omega)
              refine ⟨_, rfl, _, rfl, _, rfl, _, _, rfl, rfl, _, rfl, _, rfl, _, _, rfl, rfl, _, rfl, _, _, rfl, rfl, mulW Bs1 Bn (by omega) j0 (by omega), _, _, rfl, rfl, len10 (by simp), fun l1 nl1 => ?_⟩
              have s1 := sm_upd (o := tp3 n (n - (d - u * n)) (c - (sl - 1) * n)) nl1
              refine ⟨_, rfl, _, rfl, _, rfl, _, _, rfl, rfl, _, rfl, _, rfl, _, _, rfl, rfl, _, rfl, _, _, rfl, rfl, mulW Bs1 Bm (by omega) j0 (by omega), _, _, rfl, rfl, len10 (by simp), fun h1 nh1 => ?_⟩
              have s2 := sm_upd (o := tp3 m (m - (b - u * m)) (a - (sl - 1) * m)) nh1
              have elv1 := s1 _ _ elv
              have elv2 := s2 _ _ elv1
              have s3 := s1.trans s2
              have g1 := s2 _ _ (upd_same (H := H1) (a := l1) (o := tp3 n (n - (d - u * n)) (c - (sl - 1) * n)))
              have g2 := upd_same (H := upd H1 l1 (tp3 n (n - (d - u * n)) (c - (sl - 1) * n))) (a := h1) (o := tp3 m (m - (b - u * m)) (a - (sl - 1) * m))
              refine ⟨_, rfl, .inl ⟨rfl, _, SqL.of elv2⟩, _, rfl, lv, _, _, rfl, rfl, elv2, ?_, ?_⟩
              · rw [List.length_map, lvs.len]
                exact Nat.lt_of_lt_of_le (show L.length < 4100 by omega) (by decide)
              · have nl : ∀ (x : Addr) (xs : List V), upd (upd H1 l1 (tp3 n (n - (d - u * n)) (c - (sl - 1) * n))) h1 (tp3 m (m - (b - u * m)) (a - (sl - 1) * m)) x = some (.tup xs) → upd (upd (upd H1 l1 (tp3 n (n - (d - u * n)) (c - (sl - 1) * n))) h1 (tp3 m (m - (b - u * m)) (a - (sl - 1) * m))) lv (.lst (ts.map V.ref ++ [.ref l1])) x = some (.tup xs) := fun x xs e => by
                  rw [upd_ne (ne_of e elv2 (by intro z; cases z))]
                  exact e
                have w1 := nl _ _ g1
                have w2 := nl _ _ g2
                have lvs2 : Lv3 (upd (upd (upd H1 l1 (tp3 n (n - (d - u * n)) (c - (sl - 1) * n))) h1 (tp3 m (m - (b - u * m)) (a - (sl - 1) * m))) lv (.lst (ts.map V.ref ++ [.ref l1]))) ts L := ⟨lvs.len, fun i t' e h1 h2 => nl _ _ (s3 _ _ (lvs.at_ i t' e h1 h2))⟩
                refine ⟨⟨l1, h1, _, _, _, _, _, _, L ++ [(n, n - (d - u * n), c - (sl - 1) * n)], ts ++ [l1], _, _, _, _, _, _, _, _, _, _, _, rfl, FN, w1, w2, ?_, ?_, lvs2.snoc w1⟩, ?_⟩
                · intro x o ex
                  have nx : x ≠ lv := ne_of_none ex nlv
                  rw [upd_ne nx]
                  exact s3 _ _ (sH _ _ ex)
                · rw [upd_same, List.map_append]
                  rfl
                · show muB (some (.ref l1) :: some (.ref h1) :: _) _ < muB (some (.ref lw) :: some (.ref hg) :: _) _
                  unfold muB
                  simp only [w1, w2, el, eh]
                  have := S.am
                  have := S.cn
                  have := S.c0
                  omega
      · rintro σ H' Q1 Q2 hQ ⟨b, h4, h5⟩
        exact ⟨b, h4, hQ _ _ h5⟩
    · rintro σ H1 ⟨v, z0, z1, z3, z4, z5, z6, z7, z8, z9, z11, z12, z13, rfl, sH, ⟨rfl, hn⟩ | ⟨x, a, b, m, c, d, n, L, ts, rfl, F, hx, elv, lvs⟩⟩
      · refine ⟨_, rfl, rfl, _, rfl, iteT ?_⟩
        exact q2 hn _ sH
      · refine ⟨_, rfl, rfl, _, rfl, iteF ?_⟩
        have hlen' := lvs.len
        refine ⟨_, rfl, lv, _, rfl, SqL.of elv, ?_⟩
        refine for_it walk_rev (fun i σ H2 => ∃ (y11 y12 y13 : Option V), σ = [z0, z1, some (.ref lv), z3, z4, z5, z6, z7, z8, z9, some (.int (unv (L.drop (L.length - i)) x)), y11, y12, y13] ∧ H2 = H1) ?_ ?_ ?_ ?_
        · refine ⟨z11, z12, z13, ?_, rfl⟩
          rw [Nat.sub_zero, List.drop_length]
          rfl
        · rintro i σ H2 _ ⟨_, _, _, _, rfl⟩
          exact SqL.of elv
        · rintro i y σ H2 H3 hi ⟨y11, y12, y13, rfl, rfl⟩ ⟨rfl, hy⟩
          rw [List.length_map] at hi hy
          have hj : L.length - 1 - i < L.length := by omega
          have hjt : ts.length - 1 - i < ts.length := by omega
          rw [List.getElem?_map, List.getElem?_eq_getElem hjt] at hy
          have ey : y = V.ref ts[ts.length - 1 - i] := (Option.some.inj hy).symm
          subst ey
          have hl : L[ts.length - 1 - i]? = some L[L.length - 1 - i] := by
            rw [hlen']
            exact List.getElem?_eq_getElem hj
          have et := lvs.at_ _ _ _ (List.getElem?_eq_getElem hjt) hl
          obtain ⟨d1, d2, d3, d4⟩ := F.D _ (List.getElem_mem hj)
          have cc := F.C (L.take (L.length - i)) (L.drop (L.length - i)) (List.take_append_drop _ _).symm x hx
          have ed : L.drop (L.length - (i + 1)) = L[L.length - 1 - i] :: L.drop (L.length - i) := by
            rw [show L.length - (i + 1) = L.length - 1 - i by omega, List.drop_eq_getElem_cons hj, show L.length - 1 - i + 1 = L.length - i by omega]
          generalize L[L.length - 1 - i] = e at *
          obtain ⟨es, eo, ev⟩ := e
          refine ⟨_, _, rfl, SqT.of et, rfl, _, _, rfl, _, _, rfl, _, _, rfl, rfl, ?_⟩
          refine ⟨_, rfl, _, rfl, _, _, rfl, rfl, mulW d2 (bM.between cc.1 cc.2) (by omega) (by omega) (by omega), _, rfl, _, _, rfl, rfl, _, rfl, _, ev, rfl, (by have : 1 ≤ ev := d1; omega), d4.mono (by omega), ?_⟩
          refine ⟨some (.int es), some (.int eo), some (.int ev), ?_, rfl⟩
          rw [ed]
          rfl
        · rintro σ H2 ⟨y11, y12, y13, rfl, rfl⟩
          refine ⟨_, rfl, ?_⟩
          have e0 : L.drop (L.length - (ts.map V.ref).length) = L := by
            rw [List.length_map, hlen', Nat.sub_self]
            rfl
          rw [e0]
          exact q1 _ _ sH (F.A x hx)
end
end Lf
namespace Lf
open PySem PySem.Spec PyProof.Rows L2
theorem hitp_ib {pl s m lo hi n : Int} (h0 : 0 ≤ lo) (h2 : hi < m) : HitP pl s m lo hi n ↔ Ib s (pl - hi) m s (pl - lo) m n := by
  have e := Int.emod_add_mul_ediv (pl + s * n) m
  unfold HitP
  constructor
  · rintro ⟨g1, g2⟩
    exact ⟨(pl + s * n) / m, by omega, by omega⟩
  · rintro ⟨y, g1, g2⟩
    have : (pl + s * n) % m = pl + s * n - m * y := mod_of (k := y) (by omega) (by omega) (by omega)
    omega
/-- nothing before the lines cross -/
theorem ib_gap {a b m c d n x : Int} (m1 : 1 ≤ m) (n1 : 1 ≤ n) (h : Ib a b m c d n x) : b * n - d * m ≤ (c * m - a * n) * x := by
  obtain ⟨y, h1, h2⟩ := h
  have g1 := Int.mul_le_mul_of_nonneg_right h1 (show 0 ≤ n by omega)
  have g2 := Int.mul_le_mul_of_nonneg_right h2 (show 0 ≤ m by omega)
  have e1 : (a * x + b) * n = a * n * x + b * n := by grind
  have e2 : (c * x + d) * m = c * m * x + d * m := by grind
  have e3 : m * y * n = n * y * m := by grind
  rw [Int.sub_mul]
  omega
theorem ib_sure {a b m c d n : Int} (m1 : 1 ≤ m) (n1 : 1 ≤ n) (r : b * n ≤ d * m) (z : a * n < c * m) : Ib a b m c d n (m * n) := by
  have mn := one_le_mul m1 n1
  refine ⟨dvu (a * (m * n) + b) m, dvu_ge (by omega), ?_⟩
  have l := dvu_lt (x := a * (m * n) + b) (s := m) (by omega)
  generalize dvu (a * (m * n) + b) m = v at *
  refine Int.le_of_lt_add_one (lt_of_mulc (g := m) ?_ (by omega))
  have l2 := Int.mul_le_mul_of_nonneg_right (show m * v + 1 ≤ a * (m * n) + b + m by omega) (show 0 ≤ n by omega)
  have z2 := Int.mul_le_mul_of_nonneg_right (show a * n + 1 ≤ c * m by omega) (show 0 ≤ m * n by omega)
  have e1 : (m * v + 1) * n = n * v * m + n := by grind
  have e2 : (a * (m * n) + b + m) * n = a * n * (m * n) + b * n + m * n := by grind
  have e3 : (c * (m * n) + d + 1) * m = c * m * (m * n) + d * m + m := by grind
  have e4 : (a * n + 1) * (m * n) = a * n * (m * n) + m * n := by grind
  omega
theorem ib_from {a b m c d n s x : Int} : Ib a (a * s + b) m c (c * s + d) n x ↔ Ib a b m c d n (s + x) := by
  unfold Ib
  rw [Int.mul_add, Int.mul_add]
  constructor
  · rintro ⟨y, h1, h2⟩
    exact ⟨y, by omega, by omega⟩
  · rintro ⟨y, h1, h2⟩
    exact ⟨y, by omega, by omega⟩
section
variable {P : Program} {w : World} {K : PySem.W.Frag} {mg : Str → Option Value} {base : Heap}
/-! ### line_from, first_between -/
def spLF : Sp := fun vs H Q _ => ∃ (l : Addr) (a b m s : Int) (k : Nat), vs = [.ref l, .int s] ∧ H l = some (tp3 a b m) ∧ Bd k a ∧ Bd k s ∧ 0 < k ∧ k ≤ 9000 ∧ ∀ r, H r = none → Q (.ref r) (upd H r (tp3 a (a * s + b) m))
abbrev s_line_from : Stmt := topS 12
abbrev N_line_from : List Str := ["line", "start", "slope", "offset", "divisor"]
abbrev P_line_from : List Str := ["line", "start"]
theorem sc_line_from : FnScope N_line_from P_line_from (defScope s_line_from) := ⟨rfl, rfl, rfl, by decide +kernel, rfl, by decide +kernel, by decide +kernel⟩
theorem ok_line_from (D : Df K mg "line_from" s_line_from P_line_from) : C8.Cal P w K mg base 1 "line_from" spLF [] := by
  refine cal_of D sc_line_from (fun vs H Q E h => ?_) (fun f cdv A outer s H vs Q E hr h => ?_)
  · obtain ⟨l, a, b, m, s, k, rfl, _⟩ := h
    rfl
  · obtain ⟨l, a, b, m, st, k, rfl, el, ba, bs, k0, k9, q⟩ := h
    refine ⟨_, (pss_cons (ps_asg (pv 0) (pg_tup rfl (pgs_cons (pg_name (i := 2) sc_line_from.nd rfl (Or.inl rfl)) (pgs_cons (pg_name (i := 3) sc_line_from.nd rfl (Or.inl rfl)) (pgs_cons (pg_name (i := 4) sc_line_from.nd rfl (Or.inl rfl)) pgs_nil)))))
    (pss_one (ps_ret (pe_tup (pa_cons (pv 2) (pa_cons (pe_op op_add (pe_op op_mulW (pv 2) (pv 1)) (pv 3)) (pa_cons (pv 4) pa_nil))))))), ?_⟩
    refine ⟨_, rfl, l, _, rfl, SqT.of el, rfl, _, _, rfl, _, _, rfl, _, _, rfl, rfl, ?_⟩
    exact ⟨_, rfl, _, rfl, _, rfl, _, _, rfl, rfl, mulW ba bs k0 k0 (by omega), _, rfl, _, _, rfl, rfl, _, rfl, len10 (by simp), fun r nr => q r nr⟩
def spFB : Sp := fun vs H Q _ => ∃ (lw hg : Addr) (a b m c d n : Int) (k : Nat), vs = [.ref lw, .ref hg] ∧ H lw = some (tp3 a b m) ∧ H hg = some (tp3 c d n) ∧ 1 ≤ m ∧ 1 ≤ n ∧ Bd k a ∧ Bd k b ∧ Bd k m ∧ Bd k c ∧ Bd k d ∧ Bd k n ∧ 0 < k ∧ k ≤ 2000 ∧ (b * n ≤ d * m ∨ k ≤ 665) ∧
  (∀ x H', Same H H' → Lst (Ib a b m c d n) x → Q (.int x) H') ∧ (NoM (Ib a b m c d n) → ∀ H', Same H H' → Q .non H')
abbrev s_first_between : Stmt := topS 11
abbrev N_first_between : List Str := ["low", "high", "gap", "gain", "start"]
abbrev P_first_between : List Str := ["low", "high"]
theorem sc_first_between : FnScope N_first_between P_first_between (defScope s_first_between) := ⟨rfl, rfl, rfl, by decide +kernel, rfl, by decide +kernel, by decide +kernel⟩
theorem ok_first_between (D : Df K mg "first_between" s_first_between P_first_between) (c_divide_up : C8.Cal P w K mg base 1 "divide_up" spDivUp []) (c_line_from : C8.Cal P w K mg base 1 "line_from" spLF []) (c_first_inside : C8.Cal P w K mg base 3 "first_inside" spFI []) : C8.Cal P w K mg base 4 "first_between" spFB [] := by
  refine cal_of D sc_first_between (fun vs H Q E h => ?_) (fun f cdv A outer s H vs Q E hr h => ?_)
  · obtain ⟨lw, hg, a, b, m, c, d, n, k, rfl, _⟩ := h
    rfl
  · obtain ⟨lw, hg, a, b, m, c, d, n, k, rfl, el, eh, m1, n1, ba, bb, bm, bc, bd, bn, k0, k2, k6, q1, q2⟩ := h
    refine ⟨_, (pss_cons (ps_set (i := 2) sc_first_between.nd rfl (Or.inl rfl) (pe_op op_sub (pe_op op_mulW (pe_ix (r := rIxT K) ix_tup (pv 0) pe_int (fun _ _ => rfl)) (pe_ix (r := rIxT K) ix_tup (pv 1) pe_int (fun _ _ => rfl))) (pe_op op_mulW (pe_ix (r := rIxT K) ix_tup (pv 1) pe_int (fun _ _ => rfl)) (pe_ix (r := rIxT K) ix_tup (pv 0) pe_int (fun _ _ => rfl)))))
    (pss_cons (ps_set (i := 3) sc_first_between.nd rfl (Or.inl rfl) (pe_op op_sub (pe_op op_mulW (pe_ix (r := rIxT K) ix_tup (pv 1) pe_int (fun _ _ => rfl)) (pe_ix (r := rIxT K) ix_tup (pv 0) pe_int (fun _ _ => rfl))) (pe_op op_mulW (pe_ix (r := rIxT K) ix_tup (pv 0) pe_int (fun _ _ => rfl)) (pe_ix (r := rIxT K) ix_tup (pv 1) pe_int (fun _ _ => rfl)))))
    (pss_cons (ps_if (pt_cmpR op_le (pv 2) pe_int (nomark _))
      (pss_one (ps_ret (C8.pe_c c_first_inside hr (by decide) (by rfl) (pa_cons (pv 0) (pa_cons (pv 1) pa_nil)))))
      pss_nil)
    (pss_cons (ps_if (pt_cmpR op_le (pv 3) pe_int (nomark _))
      (pss_one (ps_ret pe_non))
      pss_nil)
    (pss_cons (ps_set (i := 4) sc_first_between.nd rfl (Or.inl rfl) (C8.pe_c c_divide_up hr (by decide) (by rfl) (pa_cons (pv 2) (pa_cons (pv 3) pa_nil))))
    (pss_one (ps_ret (pe_op op_add (pv 4) (C8.pe_c c_first_inside hr (by decide) (by rfl) (pa_cons (C8.pe_c c_line_from hr (by decide) (by rfl) (pa_cons (pv 0) (pa_cons (pv 4) pa_nil))) (pa_cons (C8.pe_c c_line_from hr (by decide) (by rfl) (pa_cons (pv 1) (pa_cons (pv 4) pa_nil))) pa_nil))))))))))), ?_⟩
    refine ⟨_, rfl, lw, _, _, _, rfl, rfl, SqT.of el, atI_nat (j := 1) rfl, _, rfl, hg, _, _, _, rfl, rfl, SqT.of eh, atI_nat (j := 2) rfl, _, _, rfl, rfl, mulW bb bn k0 k0 (by omega), ?_⟩
    refine ⟨_, rfl, hg, _, _, _, rfl, rfl, SqT.of eh, atI_nat (j := 1) rfl, _, rfl, lw, _, _, _, rfl, rfl, SqT.of el, atI_nat (j := 2) rfl, _, _, rfl, rfl, mulW bd bm k0 k0 (by omega), _, _, rfl, rfl, ?_⟩
    refine ⟨_, rfl, hg, _, _, _, rfl, rfl, SqT.of eh, atI_nat (j := 0) rfl, _, rfl, lw, _, _, _, rfl, rfl, SqT.of el, atI_nat (j := 2) rfl, _, _, rfl, rfl, mulW bc bm k0 k0 (by omega), ?_⟩
    refine ⟨_, rfl, lw, _, _, _, rfl, rfl, SqT.of el, atI_nat (j := 0) rfl, _, rfl, hg, _, _, _, rfl, rfl, SqT.of eh, atI_nat (j := 2) rfl, _, _, rfl, rfl, mulW ba bn k0 k0 (by omega), _, _, rfl, rfl, ?_⟩
    refine ⟨_, rfl, _, _, rfl, rfl, _, rfl, ite2 (fun cA => ?_) (fun cA => ?_)⟩
    · have cA : b * n - d * m ≤ 0 := of_decide_eq_true cA
      exact ⟨_, rfl, _, rfl, lw, hg, a, b, m, c, d, n, k, rfl, el, eh, m1, n1, by omega, ba, bb, bm, bc, bd, bn, k0, k2, q1, q2⟩
    · have cA : ¬ b * n - d * m ≤ 0 := fun z => cA (decide_eq_true z)
      have k6 : k ≤ 665 := k6.resolve_left (by omega)
      refine ⟨_, rfl, _, _, rfl, rfl, _, rfl, ite2 (fun cB => ?_) (fun cB => ?_)⟩
      · have cB : c * m - a * n ≤ 0 := of_decide_eq_true cB
        refine q2 (fun x x0 z => ?_) _ (Same.refl _)
        have h1 := ib_gap m1 n1 z
        have h2 := Int.mul_nonneg (show 0 ≤ -(c * m - a * n) by omega) x0
        rw [Int.neg_mul] at h2
        omega
      · have cB : ¬ c * m - a * n ≤ 0 := fun z => cB (decide_eq_true z)
        have Bg : Bd (2 * k + 1) (b * n - d * m) := (Bd.sub (Bd.mul bb bn) (Bd.mul bd bm)).mono (by omega)
        have Bh : Bd (2 * k + 1) (c * m - a * n) := (Bd.sub (Bd.mul bc bm) (Bd.mul ba bn)).mono (by omega)
        refine ⟨_, rfl, _, rfl, _, _, rfl, by omega, Bh.mono (by omega), ?_⟩
        have g1 := dvu_ge (x := b * n - d * m) (s := c * m - a * n) (by omega)
        have mn : ∀ x, b * n - d * m ≤ (c * m - a * n) * x → dvu (b * n - d * m) (c * m - a * n) ≤ x := fun x h => (dvu_le (by omega)).mpr h
        have Bs := Bg.dvu (s := c * m - a * n) (by omega)
        have s0 : 0 ≤ dvu (b * n - d * m) (c * m - a * n) := by
          rcases Int.lt_or_le (dvu (b * n - d * m) (c * m - a * n)) 0 with z | z
          · have := Int.mul_le_mul_of_nonneg_left (show dvu (b * n - d * m) (c * m - a * n) ≤ 0 by omega) (show 0 ≤ c * m - a * n by omega)
            rw [Int.mul_zero] at this
            omega
          · exact z
        generalize dvu (b * n - d * m) (c * m - a * n) = st at *
        refine ⟨_, rfl, _, rfl, _, rfl, lw, a, b, m, st, 2 * k + 1, rfl, el, ba.mono (by omega), Bs, by omega, by omega, fun l1 nl1 => ?_⟩
        have x1 := sm_upd (o := tp3 a (a * st + b) m) nl1
        refine ⟨_, rfl, _, rfl, hg, c, d, n, st, 2 * k + 1, rfl, x1 _ _ eh, bc.mono (by omega), Bs, by omega, by omega, fun h1 nh1 => ?_⟩
        have x2 := sm_upd (o := tp3 c (c * st + d) n) nh1
        have x3 := x1.trans x2
        have B1 : Bd (3 * k + 2) (a * st + b) := (Bd.add (Bd.mul ba Bs) (bb.mono (by omega))).mono (by omega)
        have B2 : Bd (3 * k + 2) (c * st + d) := (Bd.add (Bd.mul bc Bs) (bd.mono (by omega))).mono (by omega)
        have rr : (a * st + b) * n ≤ (c * st + d) * m := by
          have e1 : (a * st + b) * n = a * n * st + b * n := by grind
          have e2 : (c * st + d) * m = c * m * st + d * m := by grind
          rw [Int.sub_mul] at g1
          omega
        refine ⟨l1, h1, a, a * st + b, m, c, c * st + d, n, 3 * k + 2, rfl, x2 _ _ upd_same, upd_same, m1, n1, rr, ba.mono (by omega), B1, bm.mono (by omega), bc.mono (by omega), B2, bn.mono (by omega), by omega, by omega, fun x H2 s2 hx => ?_, fun hx => ?_⟩
        · refine ⟨_, _, rfl, rfl, ?_⟩
          obtain ⟨x0, xh, xl⟩ := hx
          refine q1 _ _ (x3.trans s2) ⟨by omega, ib_from.mp xh, fun y y0 yl z => ?_⟩
          have := mn y (ib_gap m1 n1 z)
          refine xl (y - st) (by omega) (by omega) (ib_from.mpr ?_)
          rw [show st + (y - st) = y by omega]
          exact z
        · refine absurd (ib_sure (b := a * st + b) (d := c * st + d) m1 n1 rr (by omega)) (hx _ ?_)
          have := one_le_mul m1 n1
          omega
/-! ### first_hit, count_hits -/
def spFirstHit : Sp := fun vs H Q _ => ∃ (s pl m lo hi : Int) (ar : Addr) (k : Nat), vs = [.int s, .int pl, .int m, .ref ar] ∧ H ar = some (.tup [.int lo, .int hi]) ∧ 0 ≤ lo ∧ lo ≤ hi ∧ hi < m ∧ Bd k s ∧ Bd k pl ∧ Bd k m ∧ k ≤ 1900 ∧
  (∀ n H', Same H H' → Lst (HitP pl s m lo hi) n → Q (.int n) H') ∧ (NoM (HitP pl s m lo hi) → ∀ H', Same H H' → Q .non H')
abbrev s_first_hit : Stmt := topS 10
abbrev N_first_hit : List Str := ["step", "place", "modulus", "arc", "low", "high"]
abbrev P_first_hit : List Str := ["step", "place", "modulus", "arc"]
theorem sc_first_hit : FnScope N_first_hit P_first_hit (defScope s_first_hit) := ⟨rfl, rfl, rfl, by decide +kernel, rfl, by decide +kernel, by decide +kernel⟩
theorem ok_first_hit (D : Df K mg "first_hit" s_first_hit P_first_hit) (c_first_between : C8.Cal P w K mg base 4 "first_between" spFB []) : C8.Cal P w K mg base 5 "first_hit" spFirstHit [] := by
  refine cal_of D sc_first_hit (fun vs H Q E h => ?_) (fun f cdv A outer s H vs Q E hr h => ?_)
  · obtain ⟨s, pl, m, lo, hi, ar, k, rfl, _⟩ := h
    rfl
  · obtain ⟨st, pl, m, lo, hi, ar, k, rfl, ea, h0, h1, h2, bs, bp, bm, k9, q1, q2⟩ := h
    refine ⟨_, (pss_cons (ps_asg (pv 3) (pg_tup rfl (pgs_cons (pg_name (i := 4) sc_first_hit.nd rfl (Or.inl rfl)) (pgs_cons (pg_name (i := 5) sc_first_hit.nd rfl (Or.inl rfl)) pgs_nil))))
    (pss_one (ps_ret (C8.pe_c c_first_between hr (by decide) (by rfl) (pa_cons (pe_tup (pa_cons (pv 0) (pa_cons (pe_op op_sub (pv 1) (pv 5)) (pa_cons (pv 2) pa_nil)))) (pa_cons (pe_tup (pa_cons (pv 0) (pa_cons (pe_op op_sub (pv 1) (pv 4)) (pa_cons (pv 2) pa_nil)))) pa_nil)))))), ?_⟩
    refine ⟨_, rfl, ar, _, rfl, SqT.of ea, rfl, _, _, rfl, _, _, rfl, rfl, ?_⟩
    refine ⟨_, rfl, _, rfl, _, rfl, _, _, rfl, rfl, _, rfl, len10 (by simp), fun l1 nl1 => ?_⟩
    have x1 := sm_upd (o := tp3 st (pl - hi) m) nl1
    refine ⟨_, rfl, _, rfl, _, rfl, _, _, rfl, rfl, _, rfl, len10 (by simp), fun l2 nl2 => ?_⟩
    have x2 := sm_upd (o := tp3 st (pl - lo) m) nl2
    have x3 := x1.trans x2
    have b1 : Bd (k + 1) (pl - hi) := Bd.sub bp (bm.between (by omega) (by omega))
    have b2 : Bd (k + 1) (pl - lo) := Bd.sub bp (bm.between h0 (by omega))
    have iff : ∀ n, HitP pl st m lo hi n ↔ Ib st (pl - hi) m st (pl - lo) m n := fun n => hitp_ib h0 h2
    exact ⟨l1, l2, st, pl - hi, m, st, pl - lo, m, k + 1, rfl, x2 _ _ upd_same, upd_same, by omega, by omega, bs.mono (by omega), b1, bm.mono (by omega), bs.mono (by omega), b2, bm.mono (by omega), by omega, by omega, .inl (Int.mul_le_mul_of_nonneg_right (by omega) (by omega)), fun x H2 s2 hx => q1 x _ (x3.trans s2) ((lst_iff iff x).mpr hx), fun hx H2 s2 => q2 (fun x x0 z => hx x x0 ((iff x).mp z)) _ (x3.trans s2)⟩
def spCountHits : Sp := fun vs H Q _ => ∃ (n s pl m lo hi : Int) (ar : Addr) (k : Nat), vs = [.int n, .int s, .int pl, .int m, .ref ar] ∧ H ar = some (.tup [.int lo, .int hi]) ∧ 0 ≤ n ∧ 1 ≤ m ∧ Bd k n ∧ Bd k s ∧ Bd k pl ∧ Bd k m ∧ Bd k lo ∧ Bd k hi ∧ 0 < k ∧ k ≤ 3000 ∧
  ∀ H', Same H H' → Q (.int (ch n.toNat s pl m lo hi)) H'
/-! ### check_between -/
def spBtw : Sp := fun vs H Q _ => ∃ (v l h : Int), vs = [.int v, .int l, .int h] ∧ l ≤ v ∧ v ≤ h ∧ Q .non H
abbrev s_check_between : Stmt := topS 7
abbrev N_check_between : List Str := ["value", "least", "most"]
abbrev P_check_between : List Str := ["value", "least", "most"]
theorem sc_check_between : FnScope N_check_between P_check_between (defScope s_check_between) := ⟨rfl, rfl, rfl, by decide +kernel, rfl, by decide +kernel, by decide +kernel⟩
theorem ok_check_between (D : Df K mg "check_between" s_check_between P_check_between) (c_is_integer : C8.Cal P w K mg base 1 "is_integer" spIsInt []) : C8.Cal P w K mg base 2 "check_between" spBtw [] := by
  refine cal_of D sc_check_between (fun vs H Q E h => ?_) (fun f cdv A outer s H vs Q E hr h => ?_)
  · obtain ⟨v, l, h, rfl, _⟩ := h
    rfl
  · obtain ⟨v, l, h, rfl, h0, h1, q⟩ := h
    refine ⟨_, (pss_one (ps_if (PW.pt (pw_or (pt_not (pt_val (C8.pe_c c_is_integer hr (by decide) (by rfl) (pa_cons (pv 0) pa_nil)))) (pw_or1 (pt_not (pt_chain op_le op_le (pv 1) (pv 0) (pv 2))))))
      (pss_one ps_never)
      pss_nil)), ?_⟩
    refine ⟨_, rfl, v, rfl, true, rfl, iteF ?_⟩
    refine ⟨_, rfl, _, rfl, _, _, rfl, rfl, _, rfl, iteD h0 ?_⟩
    exact ⟨_, rfl, _, _, rfl, rfl, _, rfl, iteNS h1 q⟩
end
end Lf
namespace Lf
/-! ### points round a circle, counted -/
/-- how many of the first n multiples of s leave a remainder by m below x -/
def cnt : Nat → Int → Int → Int → Int
  | 0, _, _, _ => 0
  | n + 1, s, m, x => cnt n s m x + (if s * n % m < x then 1 else 0)
theorem cnt_mono {n : Nat} {s m x y : Int} (h : x ≤ y) : cnt n s m x ≤ cnt n s m y := by
  induction n with
  | zero => exact Int.le_refl _
  | succ n ih =>
    simp only [cnt]
    split <;> split <;> omega
theorem cnt_le {n : Nat} {s m x : Int} : 0 ≤ cnt n s m x ∧ cnt n s m x ≤ n := by
  induction n with
  | zero => exact ⟨Int.le_refl _, Int.le_refl _⟩
  | succ n ih =>
    simp only [cnt]
    split <;> omega
theorem cnt_none {n : Nat} {s m : Int} (hm : 0 < m) : cnt n s m 0 = 0 := by
  induction n with
  | zero => rfl
  | succ n ih =>
    have := Int.emod_nonneg (s * n) (show m ≠ 0 by omega)
    simp only [cnt]
    split <;> omega
theorem cnt_all {n : Nat} {s m : Int} (hm : 0 < m) : cnt n s m m = n := by
  induction n with
  | zero => rfl
  | succ n ih =>
    have := Int.emod_lt_of_pos (s * n) hm
    simp only [cnt]
    split <;> omega
/-- the turns of the first n + 1 points, the place of the last one -/
theorem cnt_block {s m b y : Int} (hs : 0 < s) (hsm : s ≤ m) (hb : 0 ≤ b) (hy0 : 0 ≤ y) (hy : y ≤ s) (hx : s * b + y ≤ m) (n : Nat) :
    cnt (n + 1) s m (s * b + y) = s * n / m * b + cnt (s * n / m).toNat (-m % s) s y + min (s * n % m / s + 1) (b + (if (s * n % m) % s < y then 1 else 0)) := by
  have hm : 0 < m := by omega
  induction n with
  | zero =>
    simp only [cnt, Int.natCast_zero, Int.mul_zero, Int.zero_ediv, Int.zero_emod, Int.zero_mul]
    by_cases hb0 : b = 0
    · subst hb0
      rw [Int.mul_zero]
      split <;> split <;> simp [cnt] <;> omega
    · have : 0 < s * b := Int.mul_pos hs (by omega)
      rw [if_pos (by omega)]
      split <;> simp [cnt] <;> omega
  | succ n ih =>
    rw [cnt, ih]
    have hT := Int.mul_ediv_add_emod (s * n) m
    have hP0 := Int.emod_nonneg (s * n) (show m ≠ 0 by omega)
    have hP1 := Int.emod_lt_of_pos (s * n) hm
    have hT0 : 0 ≤ s * n / m := Int.ediv_nonneg (Int.mul_nonneg (by omega) (by omega)) (by omega)
    have en : s * ((n + 1 : Nat) : Int) = s * n + s := by
      rw [show ((n + 1 : Nat) : Int) = n + 1 by omega, Int.mul_add, Int.mul_one]
    generalize hTe : s * (n : Int) / m = T at *
    generalize hPe : s * (n : Int) % m = P at *
    have hg := Int.mul_ediv_add_emod P s
    have hf0 := Int.emod_nonneg P (show s ≠ 0 by omega)
    have hf1 := Int.emod_lt_of_pos P hs
    have hg0 : 0 ≤ P / s := Int.ediv_nonneg hP0 (by omega)
    generalize hge : P / s = g at *
    generalize hfe : P % s = f at *
    by_cases hc : P + s < m
    · have e1 : s * ((n + 1 : Nat) : Int) / m = T := by
        rw [en, ← hT, show m * T + P + s = (P + s) + m * T by omega, Int.add_mul_ediv_left _ _ (by omega), Int.ediv_eq_zero_of_lt (by omega) hc, Int.zero_add]
      have e2 : s * ((n + 1 : Nat) : Int) % m = P + s := by
        rw [en, ← hT, show m * T + P + s = (P + s) + m * T by omega, Int.add_mul_emod_self_left, Int.emod_eq_of_lt (by omega) hc]
      have e3 : (P + s) / s = g + 1 := by
        rw [← hg, show s * g + f + s = f + s * (g + 1) by rw [Int.mul_add, Int.mul_one]; omega, Int.add_mul_ediv_left _ _ (by omega), Int.ediv_eq_zero_of_lt hf0 hf1, Int.zero_add]
      have e4 : (P + s) % s = f := by
        rw [Int.add_emod_right, hfe]
      rw [e1, e2, e3, e4]
      have key : (P + s < s * b + y) ↔ (g + 1 < b + (if f < y then 1 else 0)) := by
        rw [← hg]
        constructor
        · intro h
          by_cases h1 : g + 1 < b
          · split <;> omega
          · have h2 : b ≤ g + 1 := by omega
            have h3 : s * b ≤ s * (g + 1) := Int.mul_le_mul_of_nonneg_left h2 (by omega)
            have h4 : s * (g + 1) = s * g + s := by rw [Int.mul_add, Int.mul_one]
            have h5 : f < y := by omega
            rw [if_pos h5]
            by_cases h6 : b = g + 1
            · omega
            · have h7 : s * b ≤ s * g := Int.mul_le_mul_of_nonneg_left (by omega) (by omega)
              omega
        · intro h
          have h4 : s * (g + 1) = s * g + s := by rw [Int.mul_add, Int.mul_one]
          by_cases h1 : g + 1 < b
          · have h2 : s * (g + 2) ≤ s * b := Int.mul_le_mul_of_nonneg_left (by omega) (by omega)
            have h5 : s * (g + 2) = s * g + 2 * s := by rw [Int.mul_add]; omega
            omega
          · by_cases h5 : f < y
            · rw [if_pos h5] at h
              have h6 : b = g + 1 := by omega
              rw [h6]
              omega
            · rw [if_neg h5] at h
              omega
      by_cases hk : P + s < s * b + y
      · rw [if_pos hk]
        have := key.mp hk
        omega
      · rw [if_neg hk]
        have : ¬ (g + 1 < b + (if f < y then 1 else 0)) := fun z => hk (key.mpr z)
        omega
    · have hPs : 0 ≤ P + s - m ∧ P + s - m < s := by omega
      have e1 : s * ((n + 1 : Nat) : Int) / m = T + 1 := by
        rw [en, ← hT, show m * T + P + s = (P + s - m) + m * (T + 1) by rw [Int.mul_add, Int.mul_one]; omega, Int.add_mul_ediv_left _ _ (by omega), Int.ediv_eq_zero_of_lt hPs.1 (by omega), Int.zero_add]
      have e2 : s * ((n + 1 : Nat) : Int) % m = P + s - m := by
        rw [en, ← hT, show m * T + P + s = (P + s - m) + m * (T + 1) by rw [Int.mul_add, Int.mul_one]; omega, Int.add_mul_emod_self_left, Int.emod_eq_of_lt hPs.1 (by omega)]
      rw [e1, e2, Int.ediv_eq_zero_of_lt hPs.1 hPs.2, Int.emod_eq_of_lt hPs.1 hPs.2]
      -- the first point of the turn T is f
      have ef : (-m % s) * T % s = f := by
        have h1 : (-m % s) * T % s = (-m * T) % s := by rw [Int.mul_emod, Int.emod_emod, ← Int.mul_emod]
        rw [h1, show -m * T = P + s * (- n) by rw [Int.neg_mul, Int.mul_neg]; omega, Int.add_mul_emod_self_left, hfe]
      have eT : (T + 1).toNat = T.toNat + 1 := by omega
      have ec : cnt (T + 1).toNat (-m % s) s y = cnt T.toNat (-m % s) s y + (if f < y then 1 else 0) := by
        rw [eT, cnt, show ((T.toNat : Nat) : Int) = T by omega, ef]
      rw [ec]
      have hbg : b + (if f < y then 1 else 0) ≤ g + 1 := by
        by_cases h1 : b ≤ g
        · split <;> omega
        · have h2 : s * (g + 1) ≤ s * b := Int.mul_le_mul_of_nonneg_left (by omega) (by omega)
          have h3 : s * (g + 1) = s * g + s := by rw [Int.mul_add, Int.mul_one]
          by_cases h4 : b = g + 1
          · rw [if_neg (by omega)]
            omega
          · have h5 : s * (g + 2) ≤ s * b := Int.mul_le_mul_of_nonneg_left (by omega) (by omega)
            have h6 : s * (g + 2) = s * g + 2 * s := by rw [Int.mul_add]; omega
            omega
      have hlast : (if P + s - m < s * b + y then (1 : Int) else 0) = min (0 + 1) (b + (if P + s - m < y then 1 else 0)) := by
        by_cases hb0 : b = 0
        · subst hb0
          rw [Int.mul_zero, Int.zero_add]
          split <;> omega
        · have : s * 1 ≤ s * b := Int.mul_le_mul_of_nonneg_left (by omega) (by omega)
          rw [if_pos (by omega)]
          split <;> omega
      rw [hlast]
      rw [show (T + 1) * b = T * b + b by rw [Int.add_mul, Int.one_mul]]
      omega
/-- only the first of the points is 0 -/
theorem pt_ne {s m i : Int} (hg : Int.gcd s m = 1) (h0 : 0 < i) (h1 : i < m) : s * i % m ≠ 0 := fun h =>
  hit_once s m 0 hg 0 i (Int.le_refl _) h0 h1 (by simp) (by rw [Int.add_zero]; exact h)
/-- y is the point with r points below it -/
structure Nth (s m : Int) (n : Nat) (r y : Int) : Prop where
  y0 : 0 ≤ y
  ym : y < m
  c0 : cnt n s m y = r
  c1 : cnt n s m (y + 1) = r + 1
theorem cnt_one {s m : Int} (hm : 0 < m) (hg : Int.gcd s m = 1) : ∀ n : Nat, (n + 1 : Nat) ≤ m → cnt (n + 1) s m 1 = 1
  | 0, _ => by simp [cnt]
  | n + 1, h => by
    have ih := cnt_one hm hg n (by omega)
    have h1 := pt_ne (i := ((n + 1 : Nat) : Int)) hg (by omega) (by omega)
    have h2 := Int.emod_nonneg (s * ((n + 1 : Nat) : Int)) (show m ≠ 0 by omega)
    rw [cnt, ih, if_neg (by omega)]
    rfl
theorem nth_zero {s m : Int} {n : Nat} (hg : Int.gcd s m = 1) (h1 : 1 ≤ n) (h2 : (n : Int) ≤ m) : Nth s m n 0 0 := by
  obtain ⟨k, rfl⟩ : ∃ k, n = k + 1 := ⟨n - 1, by omega⟩
  exact ⟨Int.le_refl _, by omega, cnt_none (by omega), by rw [Int.zero_add]; exact cnt_one (by omega) hg k h2⟩
theorem cnt_mirror {s m z : Int} (hg : Int.gcd s m = 1) (hz0 : 1 ≤ z) (hz1 : z ≤ m) : ∀ n : Nat, (n + 1 : Nat) ≤ m → cnt (n + 1) s m z + cnt (n + 1) (m - s) m (m - z + 1) = (n : Int) + 2
  | 0, _ => by
    simp only [cnt, Int.natCast_zero, Int.mul_zero, Int.zero_emod]
    rw [if_pos (by omega), if_pos (by omega)]
    omega
  | n + 1, h => by
    have ih := cnt_mirror hg hz0 hz1 n (by omega)
    have h1 := pt_ne (i := ((n + 1 : Nat) : Int)) hg (by omega) (by omega)
    have h2 := Int.emod_nonneg (s * ((n + 1 : Nat) : Int)) (show m ≠ 0 by omega)
    have h3 := Int.emod_lt_of_pos (s * ((n + 1 : Nat) : Int)) (show 0 < m by omega)
    have e : (m - s) * ((n + 1 : Nat) : Int) % m = m - s * ((n + 1 : Nat) : Int) % m := by
      have hd := Int.mul_ediv_add_emod (s * ((n + 1 : Nat) : Int)) m
      generalize hN : ((n + 1 : Nat) : Int) = N at *
      refine mod_of (k := N - s * N / m - 1) (by omega) (by omega) ?_
      rw [Int.sub_mul, Int.mul_sub, Int.mul_sub, Int.mul_one]
      omega
    have a1 : cnt (n + 1 + 1) s m z = cnt (n + 1) s m z + (if s * ((n + 1 : Nat) : Int) % m < z then 1 else 0) := rfl
    have a2 : cnt (n + 1 + 1) (m - s) m (m - z + 1) = cnt (n + 1) (m - s) m (m - z + 1) + (if (m - s) * ((n + 1 : Nat) : Int) % m < m - z + 1 then 1 else 0) := rfl
    rw [a1, a2, e]
    split <;> split <;> omega
theorem nth_mirror {s m r y : Int} {n : Nat} (hg : Int.gcd s m = 1) (h2 : (n : Int) ≤ m) (hr : 1 ≤ r) (hrn : r < n) (h : Nth (m - s) m n (n - r) y) : Nth s m n r (m - y) := by
  obtain ⟨k, rfl⟩ : ∃ k, n = k + 1 := ⟨n - 1, by omega⟩
  have hy : 0 < y := by
    rcases Int.lt_or_eq_of_le h.y0 with z | z
    · exact z
    · have := h.c0
      rw [← z, cnt_none (by omega)] at this
      omega
  have hym := h.ym
  have m1 := cnt_mirror (z := m - y) hg (by omega) (by omega) k h2
  have m2 := cnt_mirror (z := m - y + 1) hg (by omega) (by omega) k h2
  rw [show m - (m - y) + 1 = y + 1 by omega, h.c1] at m1
  rw [show m - (m - y + 1) + 1 = y by omega, h.c0] at m2
  exact ⟨by omega, by omega, by omega, by omega⟩
/-- what the first points of the turns say -/
theorem nth_in {s m r b y r' : Int} {n N' : Nat} (hs : 0 < s) (hsm : s ≤ m) (hb : 0 ≤ b) (hrn : r < n)
    (key : ∀ x : Int, 0 ≤ x → x ≤ s → ∀ b' : Int, b' = b → s * b' + x ≤ m → cnt n s m (s * b' + x) = r - r' + cnt N' (-m % s) s x)
    (over : ∀ b0 y0 : Int, 0 ≤ b0 → 0 ≤ y0 → y0 < s → m = s * b0 + y0 → (b0 < b ∨ (b0 = b ∧ y0 ≤ y)) → (n : Int) ≤ r)
    (h : Nth (-m % s) s N' r' y) : Nth s m n r (s * b + y) := by
  have y0 := h.y0
  have ys := h.ym
  have sb : 0 ≤ s * b := Int.mul_nonneg (by omega) hb
  have lt : s * b + y < m := by
    apply Int.lt_of_not_ge
    intro hge
    have hd := Int.mul_ediv_add_emod m s
    have h0 := Int.emod_nonneg m (show s ≠ 0 by omega)
    have h1 := Int.emod_lt_of_pos m hs
    have hq : 0 ≤ m / s := Int.ediv_nonneg (by omega) (by omega)
    have := over (m / s) (m % s) hq h0 h1 hd.symm (by
      by_cases hlt : m / s < b
      · exact .inl hlt
      · right
        have h2 : s * b ≤ s * (m / s) := Int.mul_le_mul_of_nonneg_left (by omega) (by omega)
        by_cases he : m / s = b
        · rw [he] at hd
          exact ⟨he, by omega⟩
        · have h3 : s * (b + 1) ≤ s * (m / s) := Int.mul_le_mul_of_nonneg_left (by omega) (by omega)
          rw [Int.mul_add, Int.mul_one] at h3
          omega)
    omega
  refine ⟨by omega, lt, ?_, ?_⟩
  · rw [key y y0 (by omega) b rfl (by omega), h.c0]
    omega
  · rw [Int.add_assoc, key (y + 1) (by omega) (by omega) b rfl (by omega), h.c1]
    omega
theorem cnt_lt_le {n : Nat} {s m x : Int} (b : Bool) : cnt n s m x + (if b = true then (1 : Int) else 0) ≤ n + 1 := by
  have := (cnt_le (n := n) (s := s) (m := m) (x := x)).2
  cases b <;> simp <;> omega
/-- the place of the last point's turn -/
theorem last_first {s m : Int} (k : Nat) (hs : 0 < s) (hm : 0 < m) : (-m % s) * (((s * k / m).toNat : Nat) : Int) % s = (s * k % m) % s := by
  have hT0 : 0 ≤ s * k / m := Int.ediv_nonneg (Int.mul_nonneg (by omega) (by omega)) (by omega)
  have hT := Int.mul_ediv_add_emod (s * k) m
  rw [show (((s * k / m).toNat : Nat) : Int) = s * k / m by omega]
  have h1 : (-m % s) * (s * k / m) % s = (-m * (s * k / m)) % s := by rw [Int.mul_emod, Int.emod_emod, ← Int.mul_emod]
  rw [h1, show -m * (s * k / m) = s * k % m + s * (- k) by rw [Int.neg_mul, Int.mul_neg]; omega, Int.add_mul_emod_self_left]
theorem nth_early {s m r y : Int} {k : Nat} (hs : 0 < s) (hsm : s ≤ m) (hr0 : 0 ≤ r) (hrn : r < (k + 1 : Nat)) (hr : r < (s * k % m / s + 1) * (s * k / m + 1))
    (h : Nth (-m % s) s ((s * k / m).toNat + 1) (r % (s * k / m + 1)) y) : Nth s m (k + 1) r (s * (r / (s * k / m + 1)) + y) := by
  have hT0 : 0 ≤ s * k / m := Int.ediv_nonneg (Int.mul_nonneg (by omega) (by omega)) (by omega)
  have lf := last_first (s := s) (m := m) k hs (by omega)
  have hd := Int.mul_ediv_add_emod r (s * k / m + 1)
  have hb0 : 0 ≤ r / (s * k / m + 1) := Int.ediv_nonneg hr0 (by omega)
  have hr1 := Int.emod_nonneg r (show s * k / m + 1 ≠ 0 by omega)
  have hr2 := Int.emod_lt_of_pos r (show 0 < s * k / m + 1 by omega)
  have hbR : r / (s * k / m + 1) < s * k % m / s + 1 := Int.ediv_lt_of_lt_mul (by omega) hr
  generalize hT : s * k / m = T at *
  generalize hR : s * k % m / s + 1 = R at *
  generalize hF : (s * k % m) % s = F at *
  have e1 : ∀ x, cnt (T.toNat + 1) (-m % s) s x = cnt T.toNat (-m % s) s x + (if F < x then 1 else 0) := fun x => by rw [cnt, lf]
  refine nth_in (r' := r % (T + 1)) hs hsm hb0 hrn (fun x x0 xs b' eb hx => ?_) (fun b0 y0 g0 g1 g2 g3 g4 => ?_) h
  · rw [cnt_block hs hsm (by omega) x0 xs hx k, hT, hR, hF, e1 x, eb]
    have : b' + (if F < x then 1 else 0) ≤ R := by split <;> omega
    rw [eb] at this
    rw [Int.min_eq_right this]
    have : (T + 1) * (r / (T + 1)) = T * (r / (T + 1)) + r / (T + 1) := by rw [Int.add_mul, Int.one_mul]
    omega
  · have ca := cnt_all (n := k + 1) (s := s) (m := m) (by omega)
    rw [show m = s * b0 + y0 from g3] at ca
    have cb := cnt_block (n := k) hs hsm g0 g1 (by omega) (Int.le_of_eq g3.symm)
    rw [← g3] at ca cb
    rw [hT, hR, hF] at cb
    have c1 := e1 y0
    have le1 := Int.min_le_right R (b0 + (if F < y0 then 1 else 0))
    have ex : (T + 1) * b0 = T * b0 + b0 := by rw [Int.add_mul, Int.one_mul]
    have cle := (cnt_le (n := T.toNat + 1) (s := -m % s) (m := s) (x := y0)).2
    rcases g4 with g4 | ⟨g4, g5⟩
    · have : (T + 1) * (b0 + 1) ≤ (T + 1) * (r / (T + 1)) := Int.mul_le_mul_of_nonneg_left (by omega) (by omega)
      rw [Int.mul_add, Int.mul_one] at this
      omega
    · have mo := cnt_mono (n := T.toNat + 1) (s := -m % s) (m := s) g5
      have := h.c0
      rw [g4] at ex le1 cb
      omega
theorem nth_late {s m r y : Int} {k : Nat} (hs : 0 < s) (hsm : s ≤ m) (hrn : r < (k + 1 : Nat)) (hr : (s * k % m / s + 1) * (s * k / m + 1) ≤ r) (hTp : 0 < s * k / m)
    (h : Nth (-m % s) s (s * k / m).toNat ((r - (s * k % m / s + 1) * (s * k / m + 1)) % (s * k / m)) y) :
    Nth s m (k + 1) r (s * (s * k % m / s + 1 + (r - (s * k % m / s + 1) * (s * k / m + 1)) / (s * k / m)) + y) := by
  have hP0 := Int.emod_nonneg (s * k) (show m ≠ 0 by omega)
  have hR0 : 0 ≤ s * k % m / s := Int.ediv_nonneg hP0 (by omega)
  have hd := Int.mul_ediv_add_emod (r - (s * k % m / s + 1) * (s * k / m + 1)) (s * k / m)
  have hr0 := Int.emod_nonneg (r - (s * k % m / s + 1) * (s * k / m + 1)) (show s * k / m ≠ 0 by omega)
  have hQ : 0 ≤ (r - (s * k % m / s + 1) * (s * k / m + 1)) / (s * k / m) := Int.ediv_nonneg (by omega) (by omega)
  generalize hT : s * k / m = T at *
  generalize hR : s * k % m / s + 1 = R at *
  generalize hF : (s * k % m) % s = F at *
  generalize hQe : (r - R * (T + 1)) / T = Q at *
  generalize hr' : (r - R * (T + 1)) % T = r' at *
  have ex : R * (T + 1) = T * R + R := by rw [Int.mul_add, Int.mul_one, Int.mul_comm]
  have ey : T * (R + Q) = T * R + T * Q := Int.mul_add ..
  refine nth_in (r' := r') hs hsm (by omega) hrn (fun x x0 xs b' eb hx => ?_) (fun b0 y0 g0 g1 g2 g3 g4 => ?_) h
  · rw [cnt_block hs hsm (by omega) x0 xs hx k, hT, hR, hF, eb]
    have : R ≤ R + Q + (if F < x then 1 else 0) := by split <;> omega
    rw [Int.min_eq_left this]
    omega
  · have ca := cnt_all (n := k + 1) (s := s) (m := m) (by omega)
    have cb := cnt_block (n := k) hs hsm g0 g1 (by omega) (Int.le_of_eq g3.symm)
    rw [← g3] at cb
    rw [hT, hR, hF] at cb
    have le1 := Int.min_le_left R (b0 + (if F < y0 then 1 else 0))
    have cle := (cnt_le (n := T.toNat) (s := -m % s) (m := s) (x := y0)).2
    rcases g4 with g4 | ⟨g4, g5⟩
    · have : T * (b0 + 1) ≤ T * (R + Q) := Int.mul_le_mul_of_nonneg_left (by omega) (by omega)
      rw [Int.mul_add, Int.mul_one] at this
      omega
    · have mo := cnt_mono (n := T.toNat) (s := -m % s) (m := s) g5
      have := h.c0
      rw [g4] at cb
      omega
end Lf
namespace Lf
/-! ### patterns and ranks -/
theorem pt_mod (p q i : Int) : (-p % q) * i % q = (-(p * i)) % q := by
  rw [Int.mul_emod, Int.emod_emod, ← Int.mul_emod, Int.neg_mul]
/-- the count i times on, from the remainder x -/
theorem cum_at {p q x i : Int} (hq : 0 < q) (h0 : 0 ≤ x) (h1 : x < q) : (p * i + x) / q = (p * i + (-(p * i)) % q) / q + (if (-(p * i)) % q ≤ x then 0 else -1) := by
  have z0 := Int.emod_nonneg (-(p * i)) (show q ≠ 0 by omega)
  have z1 := Int.emod_lt_of_pos (-(p * i)) hq
  have hd := Int.mul_ediv_add_emod (-(p * i)) q
  generalize (-(p * i)) % q = z at *
  generalize (-(p * i)) / q = m at *
  have e : p * i = -z + q * (-m) := by rw [Int.mul_neg]; omega
  rw [e, show -z + q * (-m) + x = (x - z) + q * (-m) by omega, show -z + q * (-m) + z = 0 + q * (-m) by omega, Int.add_mul_ediv_left _ _ (by omega), Int.add_mul_ediv_left _ _ (by omega), Int.zero_ediv]
  by_cases h : z ≤ x
  · rw [if_pos h, Int.ediv_eq_zero_of_lt (by omega) (by omega)]
    omega
  · rw [if_neg h]
    have : (x - z) / q = -1 := by
      rw [show x - z = (x - z + q) + q * (-1) by omega, Int.add_mul_ediv_left _ _ (by omega), Int.ediv_eq_zero_of_lt (by omega) (by omega)]
      omega
    omega
theorem cnt_eq {s m x y : Int} : ∀ n : Nat, (∀ i : Nat, i < n → (s * i % m < x ↔ s * i % m < y)) → cnt n s m x = cnt n s m y
  | 0, _ => rfl
  | n + 1, h => by
    have ih := cnt_eq n fun i hi => h i (by omega)
    have := h n (by omega)
    simp only [cnt]
    rw [ih]
    by_cases h1 : s * n % m < x
    · rw [if_pos h1, if_pos (this.mp h1)]
    · rw [if_neg h1, if_neg fun z => h1 (this.mpr z)]
theorem cnt_lt {s m x y : Int} (hxy : x ≤ y) : ∀ (n i : Nat), i < n → ¬ s * i % m < x → s * i % m < y → cnt n s m x < cnt n s m y
  | 0, _, h, _, _ => by omega
  | n + 1, i, h, h1, h2 => by
    simp only [cnt]
    by_cases hi : i = n
    · subst hi
      rw [if_neg h1, if_pos h2]
      have := cnt_mono (n := i) (s := s) (m := m) hxy
      omega
    · have := cnt_lt hxy n i (by omega) h1 h2
      split <;> split <;> omega
def ptn (p q c : Int) (w : Nat) (t : Int) : List Int := (List.range w).map fun (k : Nat) => (p * (t + k + 1) + c) / q - (p * (t + k) + c) / q
theorem ptn_len (p q c : Int) (w : Nat) (t : Int) : (ptn p q c w t).length = w := by simp [ptn]
/-- the count i times on, less the one now -/
def cum (p q x : Int) (i : Nat) : Int := (p * i + x) / q
theorem cum_of {p q c t : Int} (hq : 0 < q) (i : Nat) : (p * (t + i) + c) / q = (p * t + c) / q + cum p q ((p * t + c) % q) i := by
  unfold cum
  have hd := Int.mul_ediv_add_emod (p * t + c) q
  have e : p * (t + i) + c = (p * i + (p * t + c) % q) + q * ((p * t + c) / q) := by rw [Int.mul_add]; omega
  rw [e, Int.add_mul_ediv_left _ _ (by omega)]
  omega
theorem ptn_get {p q c t : Int} {w k : Nat} (hq : 0 < q) (h : k < w) : (ptn p q c w t)[k]? = some (cum p q ((p * t + c) % q) (k + 1) - cum p q ((p * t + c) % q) k) := by
  unfold ptn
  rw [List.getElem?_map, List.getElem?_range h]
  show some ((p * (t + (k : Int) + 1) + c) / q - (p * (t + (k : Int)) + c) / q) = _
  have e1 := cum_of (p := p) (q := q) (c := c) (t := t) hq (k + 1)
  have e2 := cum_of (p := p) (q := q) (c := c) (t := t) hq k
  rw [show t + (k : Int) + 1 = t + ((k + 1 : Nat) : Int) by omega, e1, e2]
  congr 1
  omega
theorem ptn_ext {p q c t u : Int} {w : Nat} (hq : 0 < q) (h : ∀ i : Nat, i ≤ w → cum p q ((p * t + c) % q) i = cum p q ((p * u + c) % q) i) : ptn p q c w t = ptn p q c w u := by
  refine List.ext_getElem? fun k => ?_
  by_cases hk : k < w
  · rw [ptn_get hq hk, ptn_get hq hk, h _ (by omega), h _ (by omega)]
  · rw [List.getElem?_eq_none (by rw [ptn_len]; omega), List.getElem?_eq_none (by rw [ptn_len]; omega)]
/-- what the comparison of two lists of one length tells -/
def LtB (ns ms : List Int) (k : Bool) : Prop := (ns = ms → k = false) ∧ ∀ (j : Nat) (x y : Int), (∀ i, i < j → ns[i]? = ms[i]?) → ns[j]? = some x → ms[j]? = some y → x ≠ y → k = decide (x < y)
/-- the rank, and one more -/
def rk (p q : Int) (N : Nat) (x : Int) : Int := cnt N (-p % q) q (x + 1)
theorem rk_mono {p q x y : Int} {N : Nat} (h : x ≤ y) : rk p q N x ≤ rk p q N y := cnt_mono (by omega)
theorem least_nat {P : Nat → Prop} (h : ∃ n, P n) : ∃ n, P n ∧ ∀ m, m < n → ¬ P m := by
  obtain ⟨n, hn⟩ := h
  obtain ⟨k, _, h2, h3⟩ := least_of (P := P) (n + 1) ⟨n, by omega, hn⟩
  exact ⟨k, h2, h3⟩
/-- from a lesser remainder to a greater one: all the same, or the first difference rises, and the rank too -/
theorem ptn_up {p q x y : Int} {v w N : Nat} (hq : 0 < q) (x0 : 0 ≤ x) (hxy : x < y) (y1 : y < q) (hv : v ≤ w) (hN : (N : Int) = min ((w : Int) + 1) q) :
    (∀ i : Nat, i ≤ v → cum p q x i = cum p q y i) ∨ (rk p q N x < rk p q N y ∧ ∃ j : Nat, j < v ∧ (∀ i : Nat, i ≤ j → cum p q x i = cum p q y i) ∧ cum p q x (j + 1) < cum p q y (j + 1)) := by
  by_cases hall : ∀ i : Nat, i ≤ v → cum p q x i = cum p q y i
  · exact .inl hall
  · right
    obtain ⟨i, hi⟩ : ∃ i : Nat, i ≤ v ∧ cum p q x i ≠ cum p q y i := by
      apply Classical.byContradiction
      intro hno
      exact hall fun i hi => Classical.byContradiction fun z => hno ⟨i, hi, z⟩
    obtain ⟨i, ⟨hiv, hne⟩, hmin⟩ := least_nat (P := fun i => i ≤ v ∧ cum p q x i ≠ cum p q y i) ⟨i, hi⟩
    have hx := cum_at (p := p) (i := (i : Int)) hq x0 (by omega)
    have hy := cum_at (p := p) (i := (i : Int)) hq (by omega) y1
    have z0 := Int.emod_nonneg (-(p * (i : Int))) (show q ≠ 0 by omega)
    have hne' : (p * (i : Int) + x) / q ≠ (p * (i : Int) + y) / q := hne
    have hz : ¬ (-(p * (i : Int))) % q ≤ x ∧ (-(p * (i : Int))) % q ≤ y := by
      rw [hx, hy] at hne'
      by_cases h1 : (-(p * (i : Int))) % q ≤ x
      · rw [if_pos h1, if_pos (by omega)] at hne'
        exact absurd rfl hne'
      · by_cases h2 : (-(p * (i : Int))) % q ≤ y
        · exact ⟨h1, h2⟩
        · rw [if_neg h1, if_neg h2] at hne'
          exact absurd rfl hne'
    have hi0 : i ≠ 0 := fun z => by
      subst z
      simp at hz
      omega
    refine ⟨?_, i - 1, by omega, fun k hk => ?_, ?_⟩
    · -- the rank
      have hiq : ((i : Int) % q) < q := Int.emod_lt_of_pos _ hq
      have hi0 : 0 ≤ ((i : Int) % q) := Int.emod_nonneg _ (by omega)
      have hle : ((i : Int) % q) ≤ i := by
        by_cases h : (i : Int) < q
        · rw [Int.emod_eq_of_lt (by omega) h]
          exact Int.le_refl _
        · omega
      have e : (-p % q) * ((((i : Int) % q).toNat : Nat) : Int) % q = (-(p * (i : Int))) % q := by
        rw [show ((((i : Int) % q).toNat : Nat) : Int) = (i : Int) % q by omega, pt_mod]
        have hd := Int.mul_ediv_add_emod (i : Int) q
        have : -(p * ((i : Int) % q)) = -(p * (i : Int)) + q * (p * ((i : Int) / q)) := by
          have h2 : p * (q * ((i : Int) / q) + (i : Int) % q) = p * i := by rw [hd]
          rw [Int.mul_add, Int.mul_left_comm] at h2
          omega
        rw [this, Int.add_mul_emod_self_left]
      exact cnt_lt (by omega) N ((i : Int) % q).toNat (by omega) (by rw [e]; omega) (by rw [e]; omega)
    · have := hmin k (by omega)
      exact Classical.byContradiction fun z => this ⟨by omega, z⟩
    · rw [show i - 1 + 1 = i by omega]
      show (p * (i : Int) + x) / q < (p * (i : Int) + y) / q
      rw [hx, hy, if_neg hz.1, if_pos hz.2]
      omega
theorem rk_same {p q x y : Int} {w N : Nat} (hq : 0 < q) (x0 : 0 ≤ x) (hxy : x < y) (y1 : y < q) (hN : (N : Int) = min ((w : Int) + 1) q) (h : ∀ i : Nat, i ≤ w → cum p q x i = cum p q y i) : rk p q N x = rk p q N y := by
  refine cnt_eq N fun i hi => ?_
  rw [pt_mod]
  have hx := cum_at (p := p) (i := (i : Int)) hq x0 (by omega)
  have hy := cum_at (p := p) (i := (i : Int)) hq (by omega) y1
  have he : (p * (i : Int) + x) / q = (p * (i : Int) + y) / q := h i (by omega)
  rw [hx, hy] at he
  by_cases h1 : (-(p * (i : Int))) % q ≤ x
  · constructor <;> intro <;> omega
  · by_cases h2 : (-(p * (i : Int))) % q ≤ y
    · rw [if_neg h1, if_pos h2] at he
      omega
    · constructor <;> intro <;> omega
theorem ltB_flip {ns ms : List Int} {j : Nat} {x y : Int} {k : Bool} (h : LtB ns ms k) (h1 : ∀ i, i < j → ns[i]? = ms[i]?) (h2 : ns[j]? = some x) (h3 : ms[j]? = some y) (h4 : x ≠ y) : k = decide (x < y) := h.2 j x y h1 h2 h3 h4
/-- patterns compare like their ranks; those of a first part too, if they differ -/
theorem ptn_cmp {p q c t u : Int} {v w N : Nat} {k : Bool} (hq : 0 < q) (hv : v ≤ w) (hN : (N : Int) = min ((w : Int) + 1) q) (hk : LtB (ptn p q c v t) (ptn p q c v u) k) :
    (ptn p q c v t = ptn p q c v u ∨ (k = decide (rk p q N ((p * t + c) % q) < rk p q N ((p * u + c) % q)) ∧ rk p q N ((p * t + c) % q) ≠ rk p q N ((p * u + c) % q))) ∧
      (v = w → ptn p q c v t = ptn p q c v u → rk p q N ((p * t + c) % q) = rk p q N ((p * u + c) % q)) := by
  have x0 := Int.emod_nonneg (p * t + c) (show q ≠ 0 by omega)
  have x1 := Int.emod_lt_of_pos (p * t + c) hq
  have y0 := Int.emod_nonneg (p * u + c) (show q ≠ 0 by omega)
  have y1 := Int.emod_lt_of_pos (p * u + c) hq
  rcases Int.lt_trichotomy ((p * t + c) % q) ((p * u + c) % q) with hxy | hxy | hxy
  · rcases ptn_up hq x0 hxy y1 hv hN with h | ⟨h1, j, hj, h2, h3⟩
    · refine ⟨.inl (ptn_ext hq h), fun e _ => ?_⟩
      subst e
      exact rk_same hq x0 hxy y1 hN h
    · have g1 := ptn_get (p := p) (c := c) (t := t) hq hj
      have g2 := ptn_get (p := p) (c := c) (t := u) hq hj
      have h2' := h2 j (Nat.le_refl _)
      have ek := hk.2 j _ _ (fun i hi => by rw [ptn_get hq (by omega), ptn_get hq (by omega), h2 i (by omega), h2 (i + 1) (by omega)]) g1 g2 (by omega)
      refine ⟨.inr ⟨?_, by omega⟩, fun _ e => ?_⟩
      · rw [ek, decide_eq_true (by omega), decide_eq_true h1]
      · rw [e, g2] at g1
        have := Option.some.inj g1
        omega
  · rw [hxy]
    refine ⟨.inl (ptn_ext hq fun i _ => by rw [hxy]), fun _ _ => rfl⟩
  · rcases ptn_up hq y0 hxy x1 hv hN with h | ⟨h1, j, hj, h2, h3⟩
    · refine ⟨.inl (ptn_ext hq fun i hi => (h i hi).symm), fun e _ => ?_⟩
      subst e
      exact (rk_same hq y0 hxy x1 hN h).symm
    · have g1 := ptn_get (p := p) (c := c) (t := t) hq hj
      have g2 := ptn_get (p := p) (c := c) (t := u) hq hj
      have h2' := h2 j (Nat.le_refl _)
      have ek := hk.2 j _ _ (fun i hi => by rw [ptn_get hq (by omega), ptn_get hq (by omega), h2 i (by omega), h2 (i + 1) (by omega)]) g1 g2 (by omega)
      refine ⟨.inr ⟨?_, by omega⟩, fun _ e => ?_⟩
      · rw [ek, decide_eq_false (by omega), decide_eq_false (by omega)]
      · rw [e, g2] at g1
        have := Option.some.inj g1
        omega
/-- the rank by the hits -/
theorem ch_rk {p q x : Int} (hq : 0 < q) (h0 : 0 ≤ x) (h1 : x < q) : ∀ N : Nat, ch N (-p) 0 q 0 x = rk p q N x
  | 0 => rfl
  | N + 1 => by
    have ih := ch_rk (p := p) hq h0 h1 N
    unfold ch rk at *
    simp only [fs, cnt]
    rw [pt_mod, show -p * (N : Int) + (0 - 0) = -(p * (N : Int)) - 0 by rw [Int.neg_mul]; omega, show -p * (N : Int) + (0 - x - 1) = -(p * (N : Int)) - x - 1 by rw [Int.neg_mul]; omega]
    by_cases h : 0 ≤ (-(p * (N : Int))) % q ∧ (-(p * (N : Int))) % q ≤ x
    · have := hit_term1 (x := -(p * (N : Int))) h1 (Int.le_refl _) h
      rw [if_pos (by omega)]
      omega
    · have := hit_term (x := -(p * (N : Int))) (Int.le_refl 0) h0 h1 h
      have := Int.emod_nonneg (-(p * (N : Int))) (show q ≠ 0 by omega)
      rw [if_neg (by omega)]
      omega
end Lf
namespace Lf
theorem nth_unique {s m r y z : Int} {n : Nat} (h : Nth s m n r y) (h' : Nth s m n r z) : y = z := by
  rcases Int.lt_trichotomy y z with g | g | g
  · have := cnt_mono (n := n) (s := s) (m := m) (show y + 1 ≤ z by omega)
    have := h.c1
    have := h'.c0
    omega
  · exact g
  · have := cnt_mono (n := n) (s := s) (m := m) (show z + 1 ≤ y by omega)
    have := h.c0
    have := h'.c1
    omega
/-- the arc of the remainders with the rank k, of N -/
structure Arc (p q : Int) (N : Nat) (k lo hi : Int) : Prop where
  at_ : Nth (-p % q) q N k lo
  nx : k + 1 < N → Nth (-p % q) q N (k + 1) (hi + 1)
  en : k + 1 = N → hi + 1 = q
theorem Arc.le {p q k lo hi : Int} {N : Nat} (A : Arc p q N k lo hi) (hk : k < N) : 0 ≤ lo ∧ lo ≤ hi ∧ hi < q := by
  have h1 := A.at_.y0
  have h2 := A.at_.ym
  by_cases h : k + 1 < N
  · have B := A.nx h
    have h3 := B.ym
    refine ⟨h1, ?_, by omega⟩
    apply Int.le_of_not_gt
    intro hlt
    have := cnt_mono (n := N) (s := -p % q) (m := q) (show hi + 1 ≤ lo by omega)
    have := A.at_.c0
    have := B.c0
    omega
  · have := A.en (by omega)
    omega
theorem Arc.rank {p q k lo hi x : Int} {N : Nat} (A : Arc p q N k lo hi) (hk : k < N) (hq : 0 < q) (h1 : x < q) : rk p q N x - 1 = k ↔ lo ≤ x ∧ x ≤ hi := by
  unfold rk
  constructor
  · intro h
    refine ⟨?_, ?_⟩
    · apply Int.le_of_not_gt
      intro hlt
      have := cnt_mono (n := N) (s := -p % q) (m := q) (show x + 1 ≤ lo by omega)
      have := A.at_.c0
      omega
    · by_cases hn : k + 1 < N
      · have B := A.nx hn
        apply Int.le_of_not_gt
        intro hlt
        have := cnt_mono (n := N) (s := -p % q) (m := q) (show hi + 1 + 1 ≤ x + 1 by omega)
        have := B.c1
        omega
      · have := A.en (by omega)
        omega
  · rintro ⟨g1, g2⟩
    have := cnt_mono (n := N) (s := -p % q) (m := q) (show lo + 1 ≤ x + 1 by omega)
    have := A.at_.c1
    by_cases hn : k + 1 < N
    · have B := A.nx hn
      have := cnt_mono (n := N) (s := -p % q) (m := q) (show x + 1 ≤ hi + 1 by omega)
      have := B.c0
      omega
    · have := (cnt_le (n := N) (s := -p % q) (m := q) (x := x + 1)).2
      omega
theorem rk_in {p q x : Int} {N : Nat} (hq : 0 < q) (hg : Int.gcd (-p % q) q = 1) (h1 : 1 ≤ N) (h2 : (N : Int) ≤ q) (x0 : 0 ≤ x) : 0 ≤ rk p q N x - 1 ∧ rk p q N x - 1 < N := by
  have h := (nth_zero (n := N) hg h1 h2).c1
  have := cnt_mono (n := N) (s := -p % q) (m := q) (show 0 + 1 ≤ x + 1 by omega)
  have := (cnt_le (n := N) (s := -p % q) (m := q) (x := x + 1)).2
  unfold rk
  omega
theorem gcd_np {p q : Int} (hq : 0 < q) (hg : Int.gcd p q = 1) : Int.gcd (-p % q) q = 1 := by
  have h1 : Int.gcd q (-p % q) = Int.gcd q (-p) := by
    rw [Int.gcd_comm q (-p % q), Int.emod_def]
    rw [Int.gcd_comm (-p - q * (-p / q)) q, Int.gcd_sub_mul_left_right]
  rw [Int.gcd_comm, h1, Int.gcd_comm, Int.neg_gcd, hg]
/-- the numbers of hits of neighbouring arcs -/
theorem ch_fs (M : Nat) (p b q lo hi : Int) : ch M p b q lo hi = fs M p (b - lo) q - fs M p (b - (hi + 1)) q := by
  unfold ch
  rw [show b - hi - 1 = b - (hi + 1) by omega]
theorem fs_down (M : Nat) (p b q : Int) (hq : 0 < q) : fs M p (b - q) q = fs M p b q - M := by
  have := fs_up M p (b - q) q hq
  rw [show b - q + q = b by omega] at this
  omega
/-- there is a hit -/
theorem hit_ex {p q x lo hi : Int} (hq : 0 < q) (hg : Int.gcd p q = 1) (h0 : 0 ≤ lo) (h1 : lo ≤ hi) (h2 : hi < q) : ¬ NoM (HitP x p q lo hi) := fun hno => by
  have z := ch_zero (N := q.toNat) (s := p) (pl := x) h0 h1 h2 (fun n _ => hno n (by omega))
  rw [ch_fs, fs_any p q (x - lo) hq hg, fs_any p q (x - (hi + 1)) hq hg] at z
  omega
theorem cnt_full {p q x : Int} (hq : 0 < q) (hg : Int.gcd p q = 1) (h0 : 0 ≤ x) (h1 : x ≤ q) : cnt q.toNat (-p % q) q x = x := by
  by_cases hx : x = 0
  · subst hx
    exact cnt_none hq
  · have := ch_rk (p := p) (q := q) (x := x - 1) hq (by omega) (by omega) q.toNat
    unfold rk at this
    rw [show x - 1 + 1 = x by omega] at this
    rw [← this, ch_fs, fs_any (-p) q (0 - 0) hq (by rw [Int.neg_gcd]; exact hg), fs_any (-p) q (0 - (x - 1 + 1)) hq (by rw [Int.neg_gcd]; exact hg)]
    omega
theorem rk_full {p q x : Int} (hq : 0 < q) (hg : Int.gcd p q = 1) (h0 : 0 ≤ x) (h1 : x < q) : rk p q q.toNat x - 1 = x := by
  unfold rk
  rw [cnt_full hq hg (by omega) (by omega)]
  omega
theorem arc_full {p q k lo hi : Int} (hq : 0 < q) (hg : Int.gcd p q = 1) (k0 : 0 ≤ k) (hk : k < q) (A : Arc p q q.toNat k lo hi) : lo = k ∧ hi = k := by
  have h := A.at_.c0
  rw [cnt_full hq hg A.at_.y0 (by have := A.at_.ym; omega)] at h
  refine ⟨h, ?_⟩
  by_cases hn : k + 1 < q
  · have B := A.nx (by omega)
    have h2 := B.c0
    rw [cnt_full hq hg B.y0 (by have := B.ym; omega)] at h2
    omega
  · have := A.en (by omega)
    omega
/-- the first multiple of the cycle -/
theorem lst_cycle {p q x lo : Int} (hq : 0 < q) (hg : Int.gcd p q = 1) (e : x % q = (lo + p) % q) (h0 : 0 ≤ lo) (h1 : lo < q) : Lst (HitP x p q lo lo) (q - 1) := by
  have key : ∀ n : Int, (x + p * n) % q = (lo + p * (n + 1)) % q := fun n => by
    rw [Int.add_emod, e, ← Int.add_emod, Int.mul_add, Int.mul_one]
    congr 1
    omega
  refine ⟨by omega, ?_, fun k k0 kq hh => ?_⟩
  · have : (x + p * (q - 1)) % q = lo := by
      rw [key, show q - 1 + 1 = q by omega, Int.mul_comm p q, Int.add_mul_emod_self_left, Int.emod_eq_of_lt h0 h1]
    exact ⟨by omega, by omega⟩
  · have h2 : (lo + p * (k + 1)) % q = lo := by
      have := hh.1
      have := hh.2
      rw [← key]
      omega
    have h3 : (p * (k + 1)) % q = 0 := by
      have h4 : (lo + p * (k + 1) - lo) % q = 0 := by
        rw [Int.sub_emod, h2, Int.emod_eq_of_lt h0 h1]
        simp
      rw [show lo + p * (k + 1) - lo = p * (k + 1) by omega] at h4
      exact h4
    exact pt_ne hg (by omega) (by omega) h3
end Lf
namespace Lf
open PySem PySem.Spec PyProof.Rows L2
/-! ### rules that fit (where chainm.t and cntm.t are not in the text) -/
abbrev Fit (ds : List Rec) (p q c : Int) : Prop := 0 ≤ p ∧ 1 ≤ q ∧ ds.all (fitB p q c) = true
theorem ex_mx (l : List Int) : ∃ m, IsMx l m := by
  cases l with
  | nil => exact ⟨none, rfl⟩
  | cons x r => exact ⟨some (PySem.W.maxOf x r), maxOf_mx x r⟩
theorem ex_mn (l : List Int) : ∃ m, IsMn l m := by
  cases l with
  | nil => exact ⟨none, rfl⟩
  | cons x r => exact ⟨some (PySem.W.minOf x r), minOf_mn x r⟩
theorem m_fits {p q : Int} {ds : List Rec} (hq : 1 ≤ q) (h : FitM ds p q) : ∃ c, ds.all (fitB p q c) = true := by
  obtain ⟨a, ha⟩ := ex_mx (lph p q ds)
  obtain ⟨b, hb⟩ := ex_mn (hph p q ds)
  have ok := (ph_iff ha hb).mpr (fitm_sd.mpr h)
  match a, b, ok, ha, hb with
  | some x, none, _, ha, hb => exact ⟨x, (fit_iff hq ha hb).mpr ⟨Int.le_refl _, trivial⟩⟩
  | some x, some y, ok, ha, hb => exact ⟨x, (fit_iff hq ha hb).mpr ⟨Int.le_refl _, of_decide_eq_true (p := x ≤ y) ok⟩⟩
  | none, none, _, ha, hb => exact ⟨0, (fit_iff hq ha hb).mpr ⟨trivial, trivial⟩⟩
  | none, some y, _, ha, hb => exact ⟨y, (fit_iff hq ha hb).mpr ⟨trivial, Int.le_refl _⟩⟩
theorem fit_nc {ds : List Rec} {p q c : Int} (h : Fit ds p q c) : ¬ Cf ds := fits_nc h.1 h.2.1 h.2.2
end Lf
namespace Lf
open PySem PySem.Spec PyProof.Rows L2
/-! ### three records that single out a rule (k49 to k52) -/
theorem dvd_co9 {p q n : Int} (h : q ∣ p * n) (g : Int.gcd p q = 1) : q ∣ n := by
  rw [← Int.natAbs_dvd_natAbs] at h ⊢
  rw [Int.natAbs_mul] at h
  have c : Nat.Coprime q.natAbs p.natAbs := by
    rw [Nat.coprime_comm]
    exact g
  exact c.dvd_of_dvd_mul_left h
theorem pin_rate {p q c p' q' c' m n x M : Int} (q1 : 1 ≤ q) (q1' : 1 ≤ q') (hM : q' ≤ M) (em : p * m + c = q * n) (hm : n ≤ (p' * m + c') / q') {k : Int} (ex : p * x + c = q * k + (q - 1)) (hx : (p' * x + c') / q' ≤ k) : (p' * q - p * q') * (x - m) ≤ q' - q := by
  have h1 : n * q' ≤ p' * m + c' := (Int.le_ediv_iff_mul_le (by omega)).mp hm
  have h2 : p' * x + c' < (k + 1) * q' := by
    have := Int.lt_mul_of_ediv_lt (a := p' * x + c') (b := k + 1) (c := q') (by omega) (by omega)
    exact this
  have e1 : q * (n * q') ≤ q * (p' * m + c') := Int.mul_le_mul_of_nonneg_left h1 (by omega)
  have e2 : q * (p' * x + c' + 1) ≤ q * ((k + 1) * q') := Int.mul_le_mul_of_nonneg_left (by omega) (by omega)
  have a1 : q * (n * q') = q' * (p * m + c) := by rw [em]; grind
  have a2 : q * ((k + 1) * q') = q' * (p * x + c + 1) := by rw [ex]; grind
  grind
/-- another rule with a cycle up to M that fits is the rule -/
theorem pin_one {p q c p' q' c' E m L M nE n nL : Int} (q1 : 1 ≤ q) (q1' : 1 ≤ q') (p0 : 0 ≤ p) (p0' : 0 ≤ p') (g : Int.gcd p q = 1) (g' : Int.gcd p' q' = 1) (hM : q' ≤ M)
    (em : p * m + c = q * n) (eE : p * E + c = q * nE + (q - 1)) (eL : p * L + c = q * nL + (q - 1)) (hE : E ≤ m - M) (hL : m + M ≤ L)
    (fE : (p' * E + c') / q' ≤ nE) (fm : n ≤ (p' * m + c') / q') (fL : (p' * L + c') / q' ≤ nL) : p' = p ∧ q' = q ∧ c' = c := by
  have h1 := pin_rate q1 q1' hM em fm eL fL
  have h2 := pin_rate q1 q1' hM em fm eE fE
  have hz : p' * q - p * q' = 0 := by
    rcases Int.lt_trichotomy (p' * q - p * q') 0 with h | h | h
    · have a : (p' * q - p * q') * (E - m) = -(p' * q - p * q') * (m - E) := by grind
      have b : 1 * (m - E) ≤ -(p' * q - p * q') * (m - E) := Int.mul_le_mul_of_nonneg_right (by omega) (by omega)
      omega
    · exact h
    · have b : 1 * (L - m) ≤ (p' * q - p * q') * (L - m) := Int.mul_le_mul_of_nonneg_right (by omega) (by omega)
      omega
  have e : p' * q = p * q' := by omega
  have dq : q ∣ q' := by
    have : q ∣ p * q' := ⟨p', by rw [← e, Int.mul_comm]⟩
    exact dvd_co9 this g
  have dq' : q' ∣ q := by
    have : q' ∣ p' * q := ⟨p, by rw [e, Int.mul_comm]⟩
    exact dvd_co9 this g'
  have eq : q' = q := Int.le_antisymm (Int.le_of_dvd (by omega) dq') (Int.le_of_dvd (by omega) dq)
  subst eq
  have ep : p' = p := Int.eq_of_mul_eq_mul_right (by omega) e
  subst ep
  refine ⟨rfl, rfl, ?_⟩
  have h1 : n * q' ≤ p' * m + c' := (Int.le_ediv_iff_mul_le (by omega)).mp fm
  have h2 : p' * L + c' < (nL + 1) * q' := Int.lt_mul_of_ediv_lt (by omega) (by omega)
  have a1 : n * q' = q' * n := Int.mul_comm _ _
  have a2 : (nL + 1) * q' = q' * nL + q' := by grind
  omega
end Lf
namespace Lf
open PySem PySem.Spec PyProof.Rows L2
/-- the three records of a rule -/
def pin3 (p q c E m L : Int) : List Rec := [⟨false, E, (p * E + c) / q⟩, ⟨true, m, (p * m + c) / q⟩, ⟨false, L, (p * L + c) / q⟩]
theorem pin3_fit {p q c E m L : Int} (p0 : 0 ≤ p) (q1 : 1 ≤ q) : Fit (pin3 p q c E m L) p q c := by
  refine ⟨p0, q1, List.all_eq_true.mpr fun d hd => ?_⟩
  simp only [pin3, List.mem_cons, List.not_mem_nil, or_false] at hd
  rcases hd with rfl | rfl | rfl
  · exact decide_eq_true (Int.le_refl _)
  · exact decide_eq_true (Int.le_refl _)
  · exact decide_eq_true (Int.le_refl _)
theorem pin3_one {p q c p' q' c' E m L M : Int} (q1 : 1 ≤ q) (p0 : 0 ≤ p) (g : Int.gcd p q = 1) (g' : Int.gcd p' q' = 1) (hM : q' ≤ M)
    (em : (p * m + c) % q = 0) (eE : (p * E + c) % q = q - 1) (eL : (p * L + c) % q = q - 1) (hE : E ≤ m - M) (hL : m + M ≤ L) (f : Fit (pin3 p q c E m L) p' q' c') : p' = p ∧ q' = q ∧ c' = c := by
  have d1 := Int.mul_ediv_add_emod (p * m + c) q
  have d2 := Int.mul_ediv_add_emod (p * E + c) q
  have d3 := Int.mul_ediv_add_emod (p * L + c) q
  have fa := List.all_eq_true.mp f.2.2
  have f1 : (p' * E + c') / q' ≤ (p * E + c) / q := of_decide_eq_true (fa ⟨false, E, (p * E + c) / q⟩ (by simp [pin3]))
  have f2 : (p * m + c) / q ≤ (p' * m + c') / q' := of_decide_eq_true (fa ⟨true, m, (p * m + c) / q⟩ (by simp [pin3]))
  have f3 : (p' * L + c') / q' ≤ (p * L + c) / q := of_decide_eq_true (fa ⟨false, L, (p * L + c) / q⟩ (by simp [pin3]))
  exact pin_one q1 f.2.1 p0 f.1 g g' hM (by omega) (by omega) (by omega) hE hL f1 f2 f3
/-- another rate that fits has a cycle above M -/
theorem pin3_rate {p q c N D E m L M : Int} (q1 : 1 ≤ q) (p0 : 0 ≤ p) (g : Int.gcd p q = 1) (g' : Int.gcd N D = 1) (N0 : 0 ≤ N) (D1 : 1 ≤ D) (ne : ¬ (N = p ∧ D = q))
    (em : (p * m + c) % q = 0) (eE : (p * E + c) % q = q - 1) (eL : (p * L + c) % q = q - 1) (hE : E ≤ m - M) (hL : m + M ≤ L) (f : FitM (pin3 p q c E m L) N D) : M < D := by
  obtain ⟨c', hc⟩ := m_fits D1 f
  refine Int.not_le.mp fun hM => ?_
  obtain ⟨h1, h2, _⟩ := pin3_one q1 p0 g g' hM em eE eL hE hL ⟨N0, D1, hc⟩
  exact ne ⟨h1, h2⟩
/-- the phases at the rule's own rate -/
theorem pin3_phase {p q c c' E m L M : Int} (q1 : 1 ≤ q) (p0 : 0 ≤ p) (g : Int.gcd p q = 1) (hM : q ≤ M)
    (em : (p * m + c) % q = 0) (eE : (p * E + c) % q = q - 1) (eL : (p * L + c) % q = q - 1) (hE : E ≤ m - M) (hL : m + M ≤ L) (f : Fit (pin3 p q c E m L) p q c') : c' = c :=
  (pin3_one q1 p0 g g hM em eE eL hE hL f).2.2
end Lf
namespace Lf
open PySem PySem.Spec PyProof.Rows L2
/-! ### pin, check_pinned, pins -/
structure Bm (mg : Str → Option Value) : Prop where
  cycle_ : ∃ t, mg "MOST_CYCLE" = some (.int (10 ^ 60) t)
section
variable {P : Program} {w : World} {K : PySem.W.Frag} {mg : Str → Option Value} {base : Heap}
def spPin : Sp := fun vs H Q _ => ∃ (r : Addr) (lo : Bool) (p q c t : Int) (k : Nat), vs = [.str (wd lo), .ref r, .int t] ∧ H r = some (.tup [.int p, .int q, .int c]) ∧ RuleB k p q c ∧ Bd k t ∧ 0 < k ∧ k ≤ 4000 ∧
  ∀ F H', Same H H' → H F = none → H' F = some (rcO ⟨lo, t, (p * t + c) / q⟩) → Q (.ref F) H'
abbrev s_pin : Stmt := topS 39
abbrev N_pin : List Str := ["word", "rule", "time", "p", "q", "c"]
abbrev P_pin : List Str := ["word", "rule", "time"]
theorem sc_pin : FnScope N_pin P_pin (defScope s_pin) := ⟨rfl, rfl, rfl, by decide +kernel, rfl, by decide +kernel, by decide +kernel⟩
theorem ok_pin (D : Df K mg "pin" s_pin P_pin) : C8.Cal P w K mg base 1 "pin" spPin [] := by
  refine cal_of D sc_pin (fun vs H Q E h => ?_) (fun f cdv A outer s H vs Q E hr h => ?_)
  · obtain ⟨r, lo, p, q, c, t, k, rfl, _⟩ := h
    rfl
  · obtain ⟨r, lo, p, q, c, t, k, rfl, er, R, bt, k0, k1, kk⟩ := h
    refine ⟨_, (pss_cons (ps_asg (pv 1) (pg_tup rfl (pgs_cons (pg_name (i := 3) sc_pin.nd rfl (Or.inl rfl)) (pgs_cons (pg_name (i := 4) sc_pin.nd rfl (Or.inl rfl)) (pgs_cons (pg_name (i := 5) sc_pin.nd rfl (Or.inl rfl)) pgs_nil)))))
    (pss_one (ps_ret (pe_tup (pa_cons (pv 0) (pa_cons (pv 2) (pa_cons (pe_op op_fdivW (pe_op op_add (pe_op op_mulW (pv 3) (pv 2)) (pv 5)) (pv 4)) pa_nil))))))), ?_⟩
    have q1 := R.q1
    refine ⟨_, rfl, r, _, rfl, SqT.of er, rfl, _, _, rfl, _, _, rfl, _, _, rfl, rfl, ?_⟩
    exact ⟨_, rfl, _, rfl, _, rfl, _, rfl, _, _, rfl, rfl, mulW R.bp bt k0 k0 (by omega), _, rfl, _, _, rfl, rfl, _, rfl, _, _, rfl, rfl, divW (by omega) R.bq (by omega), len10 (by simp), fun F nF => kk F _ (sm_upd nF) nF upd_same⟩
def spCkP : Sp := fun vs H Q _ => ∃ (r : Addr) (p q c M : Int) (k : Nat), vs = [.ref r, .int M] ∧ H r = some (.tup [.int p, .int q, .int c]) ∧ RuleB k p q c ∧ q ≤ M ∧ M ≤ 10 ^ 60 ∧ ∀ H', Same H H' → Q .non H'
abbrev s_check_pinned : Stmt := topS 38
abbrev N_check_pinned : List Str := ["rule", "most"]
abbrev P_check_pinned : List Str := ["rule", "most"]
theorem sc_check_pinned : FnScope N_check_pinned P_check_pinned (defScope s_check_pinned) := ⟨rfl, rfl, rfl, by decide +kernel, rfl, by decide +kernel, by decide +kernel⟩
theorem ok_check_pinned (D : Df K mg "check_pinned" s_check_pinned P_check_pinned) (UE : Bm mg) (c_check_rule : C8.Cal P w K mg base 3 "check_rule" spCheckRule []) (c_check_between : C8.Cal P w K mg base 2 "check_between" spBtw []) : C8.Cal P w K mg base 4 "check_pinned" spCkP [] := by
  obtain ⟨tM, hc_MOST_CYCLE⟩ := UE.cycle_
  refine cal_of D sc_check_pinned (fun vs H Q E h => ?_) (fun f cdv A outer s H vs Q E hr h => ?_)
  · obtain ⟨r, p, q, c, M, k, rfl, _⟩ := h
    rfl
  · obtain ⟨r, p, q, c, M, k, rfl, er, R, h1, h2, kk⟩ := h
    refine ⟨_, (pss_cons (ps_expr (C8.pe_c c_check_rule hr (by decide) (by rfl) (pa_cons (pv 0) pa_nil)))
    (pss_one (ps_expr (C8.pe_c c_check_between hr (by decide) (by rfl) (pa_cons (pv 1) (pa_cons (pe_ix (r := rIxT K) ix_tup (pv 0) pe_int (fun _ _ => rfl)) (pa_cons (pe_glob (v := .int _) (by rfl) hc_MOST_CYCLE ⟨_, rfl⟩) pa_nil))))))), ?_⟩
    refine ⟨_, rfl, r, p, q, c, k, rfl, er, R, fun H1 s1 => ?_⟩
    refine ⟨_, rfl, _, rfl, r, _, _, _, rfl, rfl, SqT.of (s1 _ _ er), atI_nat (j := 1) rfl, M, q, 10 ^ 60, rfl, h1, h2, ?_⟩
    exact kk _ s1
end
end Lf
namespace Lf
open PySem PySem.Spec PyProof.Rows L2
structure PinsOk (p q c M E m L : Int) : Prop where
  em : (p * m + c) % q = 0
  eE : (p * E + c) % q = q - 1
  eL : (p * L + c) % q = q - 1
  hE : E ≤ m - M
  hL : m + M ≤ L
theorem hit_lt {pl s m lo hi n : Int} (hm : 0 < m) (h : Lst (HitP pl s m lo hi) n) : 0 ≤ n ∧ n < m := by
  refine ⟨h.1, Int.not_le.mp fun z => h.2.2 (n - m) (by omega) (by omega) ?_⟩
  have e : (pl + s * (n - m)) % m = (pl + s * n) % m := by
    rw [show pl + s * (n - m) = pl + s * n + m * (-s) by grind, Int.add_mul_emod_self_left]
  have h2 := h.2.1
  unfold HitP at h2 ⊢
  rw [e]
  exact h2
section
variable {P : Program} {w : World} {K : PySem.W.Frag} {mg : Str → Option Value} {base : Heap}
def spPins : Sp := fun vs H Q _ => ∃ (r : Addr) (p q c M : Int) (k : Nat), vs = [.ref r, .int M] ∧ H r = some (.tup [.int p, .int q, .int c]) ∧ RuleB k p q c ∧ q ≤ M ∧ M ≤ 10 ^ 60 ∧ 200 ≤ k ∧ k ≤ 600 ∧
  ∀ F H' (x y z : Addr) E m L, Same H H' → H F = none → H' F = some (.lst [.ref x, .ref y, .ref z]) → H' x = some (rcO ⟨false, E, (p * E + c) / q⟩) → H' y = some (rcO ⟨true, m, (p * m + c) / q⟩) → H' z = some (rcO ⟨false, L, (p * L + c) / q⟩) → PinsOk p q c M E m L → Bd (k + 4) E → Bd (k + 4) m → Bd (k + 4) L → Q (.ref F) H'
abbrev s_pins : Stmt := topS 36
abbrev N_pins : List Str := ["rule", "most", "p", "q", "c", "middle", "later", "earlier"]
abbrev P_pins : List Str := ["rule", "most"]
theorem sc_pins : FnScope N_pins P_pins (defScope s_pins) := ⟨rfl, rfl, rfl, by decide +kernel, rfl, by decide +kernel, by decide +kernel⟩
theorem ok_pins (D : Df K mg "pins" s_pins P_pins) (c_check_pinned : C8.Cal P w K mg base 4 "check_pinned" spCkP []) (c_first_hit : C8.Cal P w K mg base 5 "first_hit" spFirstHit []) (c_pin : C8.Cal P w K mg base 1 "pin" spPin []) : C8.Cal P w K mg base 6 "pins" spPins [] := by
  refine cal_of D sc_pins (fun vs H Q E h => ?_) (fun f cdv A outer s H vs Q E hr h => ?_)
  · obtain ⟨r, p, q, c, M, k, rfl, _⟩ := h
    rfl
  · obtain ⟨r, p, q, c, M, k, rfl, er, R, h1, h2, k0, k1, kk⟩ := h
    refine ⟨_, (pss_cons (ps_expr (C8.pe_c c_check_pinned hr (by decide) (by rfl) (pa_cons (pv 0) (pa_cons (pv 1) pa_nil))))
    (pss_cons (ps_asg (pv 0) (pg_tup rfl (pgs_cons (pg_name (i := 2) sc_pins.nd rfl (Or.inl rfl)) (pgs_cons (pg_name (i := 3) sc_pins.nd rfl (Or.inl rfl)) (pgs_cons (pg_name (i := 4) sc_pins.nd rfl (Or.inl rfl)) pgs_nil)))))
    (pss_cons (ps_set (i := 5) sc_pins.nd rfl (Or.inl rfl) (C8.pe_c c_first_hit hr (by decide) (by rfl) (pa_cons (pv 2) (pa_cons (pv 4) (pa_cons (pv 3) (pa_cons (pe_tup (pa_cons pe_int (pa_cons pe_int pa_nil))) pa_nil))))))
    (pss_cons (ps_set (i := 6) sc_pins.nd rfl (Or.inl rfl) (pe_op op_add (pv 5) (pv 1)))
    (pss_cons (ps_aug (i := 6) sc_pins.nd rfl (Or.inl rfl) (C8.pe_c c_first_hit hr (by decide) (by rfl) (pa_cons (pv 2) (pa_cons (pe_op op_add (pe_op op_mulW (pv 2) (pv 6)) (pv 4)) (pa_cons (pv 3) (pa_cons (pe_tup (pa_cons (pe_op op_sub (pv 3) pe_int) (pa_cons (pe_op op_sub (pv 3) pe_int) pa_nil))) pa_nil))))) ip_add)
    (pss_cons (ps_set (i := 7) sc_pins.nd rfl (Or.inl rfl) (pe_op op_sub (pv 5) (pv 1)))
    (pss_cons (ps_aug (i := 7) sc_pins.nd rfl (Or.inl rfl) (C8.pe_c c_first_hit hr (by decide) (by rfl) (pa_cons (pe_un un_neg (pv 2)) (pa_cons (pe_op op_add (pe_op op_mulW (pv 2) (pv 7)) (pv 4)) (pa_cons (pv 3) (pa_cons (pe_tup (pa_cons (pe_op op_sub (pv 3) pe_int) (pa_cons (pe_op op_sub (pv 3) pe_int) pa_nil))) pa_nil))))) ip_sub)
    (pss_one (ps_ret (pe_lst (pa_cons (C8.pe_c c_pin hr (by decide) (by rfl) (pa_cons pe_str (pa_cons (pv 0) (pa_cons (pv 7) pa_nil)))) (pa_cons (C8.pe_c c_pin hr (by decide) (by rfl) (pa_cons pe_str (pa_cons (pv 0) (pa_cons (pv 5) pa_nil)))) (pa_cons (C8.pe_c c_pin hr (by decide) (by rfl) (pa_cons pe_str (pa_cons (pv 0) (pa_cons (pv 6) pa_nil)))) pa_nil))))))))))))), ?_⟩
    have q1 := R.q1
    have q0 : 0 < q := by omega
    have bM : Bd k M := Bd.mono (k := 200) (by unfold Bd; omega) k0
    refine ⟨_, rfl, _, rfl, r, p, q, c, M, k, rfl, er, R, h1, h2, fun H1 s1 => ?_⟩
    have er1 := s1 _ _ er
    refine ⟨_, rfl, r, _, rfl, SqT.of er1, rfl, _, _, rfl, _, _, rfl, _, _, rfl, rfl, ?_⟩
    refine ⟨_, rfl, _, rfl, _, rfl, len10 (by simp), fun t1 n1 => ?_⟩
    have z1 := sm_upd (o := .tup [.int 0, .int 0]) n1
    refine ⟨p, c, q, 0, 0, t1, k, rfl, upd_same, by decide, by decide, q0, R.bp, R.bc, R.bq, by omega, fun m H2 s2 hm => ?_, fun no => absurd no (hit_ex q0 R.g (Int.le_refl _) (Int.le_refl _) q0)⟩
    obtain ⟨m0, mq⟩ := hit_lt q0 hm
    have hm2 : (p * m + c) % q = 0 := by
      have h := hm.2.1
      unfold HitP at h
      rw [Int.add_comm (p * m) c]
      omega
    have bm : Bd k m := R.bq.between m0 (by omega)
    have s02 := s1.trans (z1.trans s2)
    clear z1 n1 s2 hm
    have bL0 : Bd (k + 1) (m + M) := Bd.add bm bM
    have bE0 : Bd (k + 1) (m - M) := Bd.sub bm bM
    refine ⟨_, rfl, _, rfl, _, _, rfl, rfl, ?_⟩
    have fin : (q - 1 : Int) < q := by omega
    refine ⟨_, rfl, _, rfl, _, rfl, _, rfl, _, _, rfl, rfl, mulW R.bp bL0 (by omega) (by omega) (by omega), _, rfl, _, _, rfl, rfl, _, rfl, _, rfl, _, _, rfl, rfl, _, rfl, _, _, rfl, rfl, len10 (by simp), fun t2 n2 => ?_⟩
    have z3 := sm_upd (o := .tup [.int (q - 1), .int (q - 1)]) n2
    have bx : Bd (2 * k + 2) (p * (m + M) + c) := Bd.add (k := 2 * k + 1) ((Bd.mul R.bp bL0).mono (by omega)) (R.bc.mono (by omega))
    have hq1 : 0 ≤ q - 1 := by omega
    refine ⟨p, p * (m + M) + c, q, q - 1, q - 1, t2, 2 * k + 2, rfl, upd_same, hq1, Int.le_refl _, fin, R.bp.mono (by omega), bx, R.bq.mono (by omega), by omega, fun n2 H3 s3 hn2 => ?_, fun no => absurd no (hit_ex q0 R.g hq1 (Int.le_refl _) fin)⟩
    obtain ⟨n20, n2q⟩ := hit_lt q0 hn2
    have hL2 : (p * (m + M + n2) + c) % q = q - 1 := by
      have h := hn2.2.1
      unfold HitP at h
      rw [show p * (m + M + n2) + c = p * (m + M) + c + p * n2 by grind]
      omega
    have bL : Bd (k + 2) (m + M + n2) := Bd.add bL0 ((R.bq.between n20 (by omega)).mono (by omega))
    have s03 := s02.trans (z3.trans s3)
    clear z3 s3 hn2 bx
    refine ⟨_, _, rfl, rfl, ?_⟩
    refine ⟨_, rfl, _, rfl, _, _, rfl, rfl, ?_⟩
    refine ⟨_, rfl, _, rfl, _, rfl, _, rfl, _, rfl, _, _, rfl, rfl, mulW R.bp bE0 (by omega) (by omega) (by omega), _, rfl, _, _, rfl, rfl, _, rfl, _, rfl, _, _, rfl, rfl, _, rfl, _, _, rfl, rfl, len10 (by simp), fun t3 n3 => ?_⟩
    have z4 := sm_upd (o := .tup [.int (q - 1), .int (q - 1)]) n3
    have by' : Bd (2 * k + 2) (p * (m - M) + c) := Bd.add (k := 2 * k + 1) ((Bd.mul R.bp bE0).mono (by omega)) (R.bc.mono (by omega))
    have gn : Int.gcd (-p) q = 1 := by rw [Int.neg_gcd]; exact R.g
    refine ⟨-p, p * (m - M) + c, q, q - 1, q - 1, t3, 2 * k + 2, rfl, upd_same, hq1, Int.le_refl _, fin, (Bd.neg R.bp).mono (by omega), by', R.bq.mono (by omega), by omega, fun n3 H4 s4 hn3 => ?_, fun no => absurd no (hit_ex q0 gn hq1 (Int.le_refl _) fin)⟩
    obtain ⟨n30, n3q⟩ := hit_lt q0 hn3
    have hE2 : (p * (m - M - n3) + c) % q = q - 1 := by
      have h := hn3.2.1
      unfold HitP at h
      rw [show p * (m - M - n3) + c = p * (m - M) + c + -p * n3 by grind]
      omega
    have bE : Bd (k + 2) (m - M - n3) := Bd.sub bE0 ((R.bq.between n30 (by omega)).mono (by omega))
    have s04 := s03.trans (z4.trans s4)
    clear z4 s4 hn3 by'
    refine ⟨_, _, rfl, rfl, ?_⟩
    have er4 := s04 _ _ er
    have R4 : RuleB (k + 4) p q c := R.mono (by omega)
    refine ⟨_, rfl, _, rfl, r, false, p, q, c, m - M - n3, k + 4, rfl, er4, R4, bE.mono (by omega), by omega, by omega, fun x H5 s5 _ ex => ?_⟩
    refine ⟨_, rfl, _, rfl, r, true, p, q, c, m, k + 4, rfl, s5 _ _ er4, R4, bm.mono (by omega), by omega, by omega, fun y H6 s6 _ ey => ?_⟩
    have s56 := s5.trans s6
    refine ⟨_, rfl, _, rfl, r, false, p, q, c, m + M + n2, k + 4, rfl, s56 _ _ er4, R4, bL.mono (by omega), by omega, by omega, fun z H7 s7 _ ez => ⟨len10 (by simp), fun F nF => ?_⟩⟩
    have z8 := sm_upd (o := .lst [.ref x, .ref y, .ref z]) nF
    have s08 := s04.trans (s56.trans s7)
    have nF0 : H F = none := by
      cases zz : H F with
      | none => rfl
      | some o =>
        rw [s08 _ _ zz] at nF
        cases nF
    exact kk F _ x y z _ _ _ (s08.trans z8) nF0 upd_same (z8 _ _ (s7 _ _ (s6 _ _ ex))) (z8 _ _ (s7 _ _ ey)) (z8 _ _ ez) ⟨hm2, hE2, hL2, by omega, by omega⟩ (bE.mono (by omega)) (bm.mono (by omega)) (bL.mono (by omega))
end
end Lf
namespace Lf
open PySem PySem.Spec PyProof.Rows L2
/-! ### the law's interval -/
def PrV2 (H : Hp) (v : V) : Option T4 → Prop
  | none => v = .non
  | some z => ∃ r, v = .ref r ∧ H r = some (tup2 z.1 z.2.1)
theorem PrV2.same {H H' : Hp} {v : V} {o : Option T4} (h : PrV2 H v o) (s : Same H H') : PrV2 H' v o := by
  cases o with
  | none => exact h
  | some z =>
    obtain ⟨r, e, h⟩ := h
    exact ⟨r, e, s _ _ h⟩
def Lt3 (S : T3 → T3 → Prop) : T3 → T3 → Prop := fun x y => S x y ∧ x.2.1 < y.2.1
structure IvI (S : T3 → T3 → Prop) (H : Hp) (k : Nat) (vl vh : V) (lo up : Option T4) (cl : Bool) : Prop where
  pl : PrV2 H vl lo
  pu : PrV2 H vh up
  bl : PB k lo
  bu : PB k up
  hl : LoOk S lo
  hu : UpOk (Lt3 S) up
  hc : cl = true ↔ ∀ x y, S x y → x.2.1 = y.2.1 → 0 < y.2.2 + 1 - x.2.2
section
variable {S S' : T3 → T3 → Prop} {H H' : Hp} {k : Nat} {vl vh : V} {lo up : Option T4} {cl : Bool} {x y : T3}
theorem IvI.congr (h : IvI S H k vl vh lo up cl) (e : ∀ x y, S x y ↔ S' x y) : IvI S' H k vl vh lo up cl := by
  have : S = S' := by
    funext x y
    exact propext (e x y)
  rw [← this]
  exact h
theorem IvI.same (h : IvI S H k vl vh lo up cl) (s : Same H H') : IvI S H' k vl vh lo up cl := ⟨h.pl.same s, h.pu.same s, h.bl, h.bu, h.hl, h.hu, h.hc⟩
theorem lt_add (c : x.2.1 < y.2.1) : ∀ x' y', ad (Lt3 S) x y x' y' ↔ Lt3 (ad S x y) x' y' := fun x' y' => by
  constructor
  · rintro (⟨h, g⟩ | ⟨rfl, rfl⟩)
    · exact ⟨.inl h, g⟩
    · exact ⟨.inr ⟨rfl, rfl⟩, c⟩
  · rintro ⟨h | h, g⟩
    · exact .inl ⟨h, g⟩
    · exact .inr h
theorem lt_not (c : ¬ x.2.1 < y.2.1) : ∀ x' y', Lt3 S x' y' ↔ Lt3 (ad S x y) x' y' := fun x' y' => by
  constructor
  · rintro ⟨h, g⟩
    exact ⟨.inl h, g⟩
  · rintro ⟨h | ⟨rfl, rfl⟩, g⟩
    · exact ⟨h, g⟩
    · exact absurd g c
theorem hc_ne (h : cl = true ↔ ∀ x y, S x y → x.2.1 = y.2.1 → 0 < y.2.2 + 1 - x.2.2) (c : x.2.1 ≠ y.2.1) : cl = true ↔ ∀ x' y', ad S x y x' y' → x'.2.1 = y'.2.1 → 0 < y'.2.2 + 1 - x'.2.2 := by
  rw [h]
  constructor
  · rintro g x' y' (z | ⟨rfl, rfl⟩) e
    · exact g x' y' z e
    · exact absurd e c
  · exact fun g x' y' z e => g x' y' (.inl z) e
theorem IvI.zero (h : IvI S H k vl vh lo up cl) (e : x.2.1 = y.2.1) : IvI (ad S x y) H k vl vh lo up (cl && decide (y.2.2 + 1 - x.2.2 > 0)) := by
  refine ⟨h.pl, h.pu, h.bl, h.bu, h.hl.skip (by omega), h.hu.congr (lt_not (by omega)), ?_⟩
  rw [Bool.and_eq_true, h.hc, decide_eq_true_iff]
  constructor
  · rintro ⟨g, g2⟩ x' y' (z | ⟨rfl, rfl⟩) e
    · exact g x' y' z e
    · exact g2
  · exact fun g => ⟨fun x' y' z e => g x' y' (.inl z) e, g x y (.inr ⟨rfl, rfl⟩) e⟩
theorem IvI.keepU (h : IvI S H k vl vh lo up cl) (c : x.2.1 < y.2.1) (g : ∀ z, up = some z → z.1 * (y.2.1 - x.2.1) ≤ (y.2.2 + 1 - x.2.2) * z.2.1) (nn : up ≠ none) : IvI (ad S x y) H k vl vh lo up cl := by
  refine ⟨h.pl, h.pu, h.bl, h.bu, h.hl.skip (by omega), ?_, hc_ne h.hc (by omega)⟩
  cases up with
  | none => exact absurd rfl nn
  | some z => exact (h.hu.keep (by rw [bot_eq c]; exact g z rfl)).congr (lt_add c)
theorem IvI.newU (h : IvI S H k vl vh lo up cl) (c : x.2.1 < y.2.1) (g : ∀ z, up = some z → (y.2.2 + 1 - x.2.2) * z.2.1 < z.1 * (y.2.1 - x.2.1)) {r : Addr} (hs : Same H H') (er : H' r = some (tup2 (y.2.2 + 1 - x.2.2) (y.2.1 - x.2.1))) (b1 : Bd (k + 2) (y.2.2 + 1 - x.2.2)) (b2 : Bd (k + 2) (y.2.1 - x.2.1)) :
    IvI (ad S x y) H' k vl (.ref r) lo (some (y.2.2 + 1 - x.2.2, bot x y, x.1, y.1)) cl := by
  have u : uc x y := ⟨by omega, .inl c⟩
  refine ⟨h.pl.same hs, ⟨r, rfl, by rw [bot_eq c]; exact er⟩, h.bl, fun z e => by cases e; exact ⟨b1, by rw [bot_eq c]; exact b2⟩, h.hl.skip (by omega), ?_, hc_ne h.hc (by omega)⟩
  cases up with
  | none => exact (h.hu.first u).congr (lt_add c)
  | some z => exact (h.hu.upd u (by rw [bot_eq c]; exact g z rfl)).congr (lt_add c)
theorem IvI.keepL (h : IvI S H k vl vh lo up cl) (g : ∀ z, lo = some z → (x.2.2 - y.2.2 - 1) * z.2.1 ≤ z.1 * (x.2.1 - y.2.1)) (c : y.2.1 < x.2.1) (nn : lo ≠ none) : IvI (ad S x y) H k vl vh lo up cl := by
  refine ⟨h.pl, h.pu, h.bl, h.bu, ?_, h.hu.congr (lt_not (by omega)), hc_ne h.hc (by omega)⟩
  cases lo with
  | none => exact absurd rfl nn
  | some z => exact h.hl.keep (g z rfl)
theorem IvI.newL (h : IvI S H k vl vh lo up cl) (c : y.2.1 < x.2.1) (g : ∀ z, lo = some z → z.1 * (x.2.1 - y.2.1) < (x.2.2 - y.2.2 - 1) * z.2.1) {r : Addr} (hs : Same H H') (er : H' r = some (tup2 (x.2.2 - y.2.2 - 1) (x.2.1 - y.2.1))) (b1 : Bd (k + 2) (x.2.2 - y.2.2 - 1)) (b2 : Bd (k + 2) (x.2.1 - y.2.1)) :
    IvI (ad S x y) H' k (.ref r) vh (some (x.2.2 - y.2.2 - 1, x.2.1 - y.2.1, x.1, y.1)) up cl := by
  refine ⟨⟨r, rfl, er⟩, h.pu.same hs, fun z e => by cases e; exact ⟨b1, b2⟩, h.bu, ?_, h.hu.congr (lt_not (by omega)), hc_ne h.hc (by omega)⟩
  cases lo with
  | none => exact h.hl.first c
  | some z => exact h.hl.upd c (g z rfl)
end
def t3 (d : Rec) : T3 := (0, d.t, d.n)
def loR (ds : List Rec) : List Rec := ds.filter fun d => d.lo
def hiR (ds : List Rec) : List Rec := ds.filter fun d => !d.lo
def S3 (ds : List Rec) : T3 → T3 → Prop := fun x y => x ∈ (loR ds).map t3 ∧ y ∈ (hiR ds).map t3
theorem filt_take {f : Rec → Bool} {ds : List Rec} {i : Nat} {d : Rec} (e : ds[i]? = some d) : (ds.take (i + 1)).filter f = (ds.take i).filter f ++ (if f d = true then [d] else []) := by
  rw [List.take_add_one, e, List.filter_append]
  congr 1
  show List.filter f [d] = _
  cases h : f d with
  | true => simp [h]
  | false => simp [h]
theorem cov1 (ds : List Rec) : Cov (SD ds) (S3 ds) := by
  rintro x y ⟨h1, h2⟩
  obtain ⟨i, d, e, hb, rfl⟩ := sel_mem h1
  obtain ⟨j, d', e', hb', rfl⟩ := sel_mem h2
  refine ⟨t3 d, t3 d', ⟨List.mem_map.mpr ⟨d, List.mem_filter.mpr ⟨List.mem_of_getElem? e, hb⟩, rfl⟩, List.mem_map.mpr ⟨d', List.mem_filter.mpr ⟨List.mem_of_getElem? e', by rw [hb']; rfl⟩, rfl⟩⟩, rfl, rfl⟩
theorem cov2 (ds : List Rec) : Cov (S3 ds) (SD ds) := by
  rintro x y ⟨h1, h2⟩
  obtain ⟨d, hd, rfl⟩ := List.mem_map.mp h1
  obtain ⟨d', hd', rfl⟩ := List.mem_map.mp h2
  obtain ⟨m1, g1⟩ := List.mem_filter.mp hd
  obtain ⟨m2, g2⟩ := List.mem_filter.mp hd'
  obtain ⟨i, e⟩ := List.mem_iff_getElem?.mp m1
  obtain ⟨j, e'⟩ := List.mem_iff_getElem?.mp m2
  have g2 : d'.lo = false := by
    cases h : d'.lo with
    | false => rfl
    | true =>
      rw [h] at g2
      cases g2
  exact ⟨_, _, ⟨mem_sel e g1 0, mem_sel e' g2 0⟩, rfl, rfl⟩
section
variable {P : Program} {w : World} {K : PySem.W.Frag} {mg : Str → Option Value} {base : Heap} {C : Addr}
def spLess29 : Sp := fun vs H Q _ => ∃ (a b : Addr) (x1 y1 x2 y2 : Int) (k : Nat), vs = [.ref a, .ref b] ∧ H a = some (tup2 x1 y1) ∧ H b = some (tup2 x2 y2) ∧ Bd k x1 ∧ Bd k y1 ∧ Bd k x2 ∧ Bd k y2 ∧ 0 < k ∧ k ≤ 10002 ∧ Q (.bl (decide (x1 * y2 < x2 * y1))) H
abbrev s_l_less : Stmt := topS 51
abbrev N_l_less : List Str := ["_law_one", "_law_other"]
abbrev P_l_less : List Str := ["_law_one", "_law_other"]
theorem sc_l_less : FnScope N_l_less P_l_less (defScope s_l_less) := ⟨rfl, rfl, rfl, by decide +kernel, rfl, by decide +kernel, by decide +kernel⟩
theorem ok_l_less (D : Df K mg "_law_less" s_l_less P_l_less) : C8.Cal P w K mg base 1 "_law_less" spLess29 [] := by
  refine cal_of D sc_l_less (fun vs H Q E h => ?_) (fun f cdv A outer s H vs Q E hr h => ?_)
  · obtain ⟨a, b, x1, y1, x2, y2, k, rfl, _⟩ := h
    rfl
  · obtain ⟨a, b, x1, y1, x2, y2, k, rfl, ea, eb, b1, b2, b3, b4, k0, k1, kk⟩ := h
    refine ⟨_, (pss_one (ps_ret (pe_cmpR op_lt (pe_op op_mulW (pe_ix (r := rIxT K) ix_tup (pv 0) pe_int (fun _ _ => rfl)) (pe_ix (r := rIxT K) ix_tup (pv 1) pe_int (fun _ _ => rfl))) (pe_op op_mulW (pe_ix (r := rIxT K) ix_tup (pv 1) pe_int (fun _ _ => rfl)) (pe_ix (r := rIxT K) ix_tup (pv 0) pe_int (fun _ _ => rfl))) (nomark _)))), ?_⟩
    exact ⟨_, rfl, a, _, _, _, rfl, rfl, SqT.of ea, atI_nat (j := 0) rfl, _, rfl, b, _, _, _, rfl, rfl, SqT.of eb, atI_nat (j := 1) rfl, _, _, rfl, rfl, mulW b1 b4 (by omega) (by omega) (by omega), _, rfl, b, _, _, _, rfl, rfl, SqT.of eb, atI_nat (j := 0) rfl, _, rfl, a, _, _, _, rfl, rfl, SqT.of ea, atI_nat (j := 1) rfl, _, _, rfl, rfl, mulW b3 b2 (by omega) (by omega) (by omega), _, _, rfl, rfl, kk⟩
def spLow29 : Sp := fun vs H Q _ => ∃ (a : Addr) (p q : Int), vs = [.ref a] ∧ H a = some (tup2 p q) ∧ 0 ≤ p ∧ 1 ≤ q ∧ Bd 9000 q ∧
  ∀ r H', Same H H' → H r = none → H' r = some (tup2 (p / (Int.gcd p q : Int)) (q / (Int.gcd p q : Int))) → Q (.ref r) H'
def spIvl : Sp := fun vs H Q _ => ∃ (L : Addr) (xs : List V) (ds : List Rec) (k : Nat), vs = [.ref L] ∧ H L = some (.lst xs) ∧ Obs rcO H xs ds ∧ ds.length ≤ 1000 ∧ RcB k ds ∧ 0 < k ∧ k ≤ 8000 ∧
  ∀ T H' cl vl vh lo up, Same H H' → H' T = some (.tup [.bl cl, vl, vh]) → PrV2 H' vl lo → PrV2 H' vh up → PB k lo → PB k up → (cl = true → LoOk (S3 ds) lo ∧ UpOk (S3 ds) up ∧ nr lo up = false) → (cl = false → ∀ lo up, LoOk (SD ds) lo → UpOk (SD ds) up → nr lo up = true) → Q (.ref T) H'
abbrev s_l_interval : Stmt := topS 52
abbrev N_l_interval : List Str := ["_law_records", "_law_low", "_law_high", "_law_clear", "_law_one", "_law_other", "_law_room", "_law_gap", "_law_record_here"]
abbrev P_l_interval : List Str := ["_law_records"]
theorem sc_l_interval : FnScope N_l_interval P_l_interval (defScope s_l_interval) := ⟨rfl, rfl, rfl, by decide +kernel, rfl, by decide +kernel, by decide +kernel⟩
theorem ok_l_interval (D : Df K mg "_law_interval" s_l_interval P_l_interval) (c_l_less : C8.Cal P w K mg base 1 "_law_less" spLess29 []) : C8.Cal P w K mg base 2 "_law_interval" spIvl [] := by
  refine cal_of D sc_l_interval (fun vs H Q E h => ?_) (fun f cdv A outer s H vs Q E hr h => ?_)
  · obtain ⟨L, xs, ds, k, rfl, _⟩ := h
    rfl
  · obtain ⟨L, xs, ds, k, rfl, eL, hO, hl, bd, k0, k1, kk⟩ := h
    refine ⟨_, (pss_cons (ps_asg (pe_tup (pa_cons pe_non (pa_cons pe_non (pa_cons pe_bl pa_nil)))) (pg_tup rfl (pgs_cons (pg_name (i := 1) sc_l_interval.nd rfl (Or.inl rfl)) (pgs_cons (pg_name (i := 2) sc_l_interval.nd rfl (Or.inl rfl)) (pgs_cons (pg_name (i := 3) sc_l_interval.nd rfl (Or.inl rfl)) pgs_nil)))))
    (pss_cons (ps_for PassesOwn.never rfl (pi_list (pe_lc (own := [("_law_record_here", 8)]) (g := (gName 8)) (by rfl) sc_l_interval.nd (pi_list (pv 0)) (blkOk_by (own := [("_law_record_here", 8)]) (N := N_l_interval) (sc := defScope s_l_interval) (by decide +kernel)) (fun _ _ _ _ _ => (pg_name (i := 8) sc_l_interval.nd rfl (Or.inl rfl))) (fun _ _ _ _ _ => (pts_one (pt_cmpR op_eq (pe_ix (r := rIxT K) ix_tup (pv 8) pe_int (fun _ _ => rfl)) pe_str (nomark _)))) (fun _ _ _ _ _ => (pv 8)))) (pg_name (i := 4) sc_l_interval.nd rfl (Or.inl rfl))
      (pss_one (ps_for PassesOwn.never rfl (pi_list (pe_lc (own := [("_law_record_here", 8)]) (g := (gName 8)) (by rfl) sc_l_interval.nd (pi_list (pv 0)) (blkOk_by (own := [("_law_record_here", 8)]) (N := N_l_interval) (sc := defScope s_l_interval) (by decide +kernel)) (fun _ _ _ _ _ => (pg_name (i := 8) sc_l_interval.nd rfl (Or.inl rfl))) (fun _ _ _ _ _ => (pts_one (pt_cmpR op_eq (pe_ix (r := rIxT K) ix_tup (pv 8) pe_int (fun _ _ => rfl)) pe_str (nomark _)))) (fun _ _ _ _ _ => (pv 8)))) (pg_name (i := 5) sc_l_interval.nd rfl (Or.inl rfl))
      (pss_cons (ps_par (i := 6) (j := 7) rfl sc_l_interval.nd rfl rfl (by decide) rfl rfl (pa_cons (pe_op op_sub (pe_op op_add (pe_ix (r := rIxT K) ix_tup (pv 5) pe_int (fun _ _ => rfl)) pe_int) (pe_ix (r := rIxT K) ix_tup (pv 4) pe_int (fun _ _ => rfl))) (pa_cons (pe_op op_sub (pe_ix (r := rIxT K) ix_tup (pv 5) pe_int (fun _ _ => rfl)) (pe_ix (r := rIxT K) ix_tup (pv 4) pe_int (fun _ _ => rfl))) pa_nil)) rfl)
    (pss_one (ps_if (pt_cmpR op_eq (pv 7) pe_int (nomark _))
      (pss_one (ps_set (i := 3) sc_l_interval.nd rfl (Or.inl rfl) (pe_and (pv 3) (pe_one (pe_cmpR op_gt (pv 6) pe_int (nomark _))))))
      (pss_one (ps_if (pt_cmpR op_gt (pv 7) pe_int (nomark _))
      (pss_one (ps_set (i := 2) sc_l_interval.nd rfl (Or.inl rfl) (pe_ifExp (PW.pt (pw_or (pt_cmpR op_isN (pv 2) pe_non (nomark _)) (pw_or1 (pt_val (C8.pe_c c_l_less hr (by decide) (by rfl) (pa_cons (pe_tup (pa_cons (pv 6) (pa_cons (pv 7) pa_nil))) (pa_cons (pv 2) pa_nil))))))) (pe_tup (pa_cons (pv 6) (pa_cons (pv 7) pa_nil))) (pv 2))))
      (pss_one (ps_if (PW.pt (pw_or (pt_cmpR op_isN (pv 1) pe_non (nomark _)) (pw_or1 (pt_val (C8.pe_c c_l_less hr (by decide) (by rfl) (pa_cons (pv 1) (pa_cons (pe_tup (pa_cons (pe_op op_sub pe_int (pv 6)) (pa_cons (pe_op op_sub pe_int (pv 7)) pa_nil))) pa_nil)))))))
      (pss_one (ps_set (i := 1) sc_l_interval.nd rfl (Or.inl rfl) (pe_tup (pa_cons (pe_op op_sub pe_int (pv 6)) (pa_cons (pe_op op_sub pe_int (pv 7)) pa_nil)))))
      pss_nil))))))))))
    (pss_cons (ps_if (PW.pt (pw_and (pt_cmpR op_notN (pv 2) pe_non (nomark _)) (pw_and1 (PW.pt (pw_or (pt_cmpR op_le (pe_ix (r := rIxT K) ix_tup (pv 2) pe_int (fun _ _ => rfl)) pe_int (nomark _)) (pw_or1 (PW.pt (pw_and (pt_cmpR op_notN (pv 1) pe_non (nomark _)) (pw_and1 (pt_not (pt_val (C8.pe_c c_l_less hr (by decide) (by rfl) (pa_cons (pv 1) (pa_cons (pv 2) pa_nil))))))))))))))
      (pss_one (ps_set (i := 3) sc_l_interval.nd rfl (Or.inl rfl) pe_bl))
      pss_nil)
    (pss_one (ps_ret (pe_tup (pa_cons (pv 3) (pa_cons (pv 1) (pa_cons (pv 2) pa_nil))))))))), ?_⟩
    refine ⟨len10 (by simp), fun tp ntp => ⟨tp, _, rfl, SqT.of upd_same, rfl, _, _, rfl, _, _, rfl, _, _, rfl, rfl, ?_⟩⟩
    have s0 := sm_upd (o := .tup [.non, .non, .bl true]) ntp
    have kk := fun T H' cl vl vh lo up (h : Same (upd H tp (.tup [.non, .non, .bl true])) H') => kk T H' cl vl vh lo up (s0.trans h)
    have eL := s0 _ _ eL
    have hO := hO.same s0
    generalize upd H tp (.tup [.non, .non, .bl true]) = H at kk eL hO ⊢
    clear s0 ntp tp
    refine ⟨_, rfl, L, rfl, ⟨_, SqL.of eL⟩, fun A nA => ?_⟩
    refine lc_it (walk_list (K := K) (a := L) (xs := xs)) (fun i H' => ∃ as, H' A = some (.lst as) ∧ Obs rcO H' as (loR (ds.take i)) ∧ Same H H') ⟨_, upd_same, .nil, sm_upd nA⟩ ?_ ?_ ?_
    · rintro i H1 _ ⟨_, _, _, s1⟩
      exact SqL.of (s1 _ _ eL)
    · rintro i v H1 H2 hi ⟨as, eA, oA, s1⟩ ⟨rfl, hx⟩
      obtain ⟨r, d, rfl, er, hd⟩ := hO.at hx
      have al : as.length < sizeLine := by
        have h1 := oA.len
        have h2 : (loR (ds.take i)).length ≤ (ds.take i).length := List.length_filter_le ..
        rw [List.length_take] at h2
        exact small1000 (by omega)
      refine ⟨rfl, _, rfl, r, _, _, _, rfl, rfl, SqT.of (s1 _ _ er), atI_nat (j := 0) rfl, rfl, _, rfl, ?_⟩
      rw [w_lo]
      have ft := filt_take (f := fun d : Rec => d.lo) hd
      cases hb : d.lo with
      | true =>
        refine iteT ⟨_, rfl, as, eA, al, _, upd_same, ?_, ?_⟩
        · unfold loR
          rw [ft, if_pos hb]
          refine Obs.keep (oA.snoc (s1 _ _ er)) fun b d' e => ?_
          rw [upd_ne (ne_of e eA (by intro q; cases q))]
          exact e
        · intro b o e
          rw [upd_ne (ne_of_none e nA)]
          exact s1 _ _ e
      | false =>
        refine iteF ⟨as, eA, ?_, s1⟩
        unfold loR
        rw [ft, if_neg (by rw [hb]; exact Bool.false_ne_true), List.append_nil]
        exact oA
    rintro H1 ⟨as, eA, oA, s1⟩
    rw [List.take_of_length_le (by rw [hO.len]; exact Nat.le_refl _)] at oA
    have bLo : ∀ d ∈ loR ds, Bd k d.t ∧ Bd k d.n := fun d hd => bd d (List.mem_filter.mp hd).1
    have bHi : ∀ d ∈ hiR ds, Bd k d.t ∧ Bd k d.n := fun d hd => bd d (List.mem_filter.mp hd).1
    refine ⟨A, rfl, ⟨_, SqL.of eA⟩, ?_⟩
    refine for_list (K := K) (a := A) (xs := as) (fun i σ H' => ∃ (vl vh : V) (lo up : Option T4) (cl : Bool) (y4 y5 y6 y7 y8 : Option V), σ = [some (.ref L), some vl, some vh, some (.bl cl), y4, y5, y6, y7, y8] ∧ Same H1 H' ∧ IvI (fun x y => x ∈ ((loR ds).take i).map t3 ∧ y ∈ (hiR ds).map t3) H' k vl vh lo up cl) ?_ ?_ ?_ ?_
    · refine ⟨_, _, none, none, true, _, _, _, _, _, rfl, Same.refl _, ⟨rfl, rfl, (fun z e => by cases e), (fun z e => by cases e), fun x y h => ?_, fun x y h => ?_, ?_⟩⟩
      · cases h.1
      · cases h.1.1
      · exact ⟨fun _ x y h => (nomatch h.1), fun _ => rfl⟩
    · rintro i σ H' _ ⟨_, _, _, _, _, _, _, _, _, _, _, s', _⟩
      exact SqL.of (s' _ _ eA)
    · rintro i v σ H2 hv ⟨vl, vh, lo, up, cl, y4, y5, y6, y7, y8, rfl, s2, iv⟩
      obtain ⟨r, d, rfl, er, hd⟩ := oA.at hv
      have db := bLo d (List.mem_of_getElem? hd)
      have hO2 := (hO.same s1).same s2
      refine ⟨_, rfl, L, rfl, ⟨_, SqL.of (s2 _ _ (s1 _ _ eL))⟩, fun B nB => ?_⟩
      refine lc_it (walk_list (K := K) (a := L) (xs := xs)) (fun i H' => ∃ bs, H' B = some (.lst bs) ∧ Obs rcO H' bs (hiR (ds.take i)) ∧ Same H2 H') ⟨_, upd_same, .nil, sm_upd nB⟩ ?_ ?_ ?_
      · rintro i H3 _ ⟨_, _, _, s3⟩
        exact SqL.of (s3 _ _ (s2 _ _ (s1 _ _ eL)))
      · rintro i v H3 H4 hi ⟨bs, eB, oB, s3⟩ ⟨rfl, hx⟩
        obtain ⟨r, d, rfl, er, hd⟩ := hO2.at hx
        have al : bs.length < sizeLine := by
          have h1 := oB.len
          have h2 : (hiR (ds.take i)).length ≤ (ds.take i).length := List.length_filter_le ..
          rw [List.length_take] at h2
          exact small1000 (by omega)
        refine ⟨rfl, _, rfl, r, _, _, _, rfl, rfl, SqT.of (s3 _ _ er), atI_nat (j := 0) rfl, rfl, _, rfl, ?_⟩
        rw [w_hi]
        have ft := filt_take (f := fun d : Rec => !d.lo) hd
        cases hb : d.lo with
        | false =>
          refine iteT ⟨_, rfl, bs, eB, al, _, upd_same, ?_, ?_⟩
          · unfold hiR
            rw [ft, if_pos (by rw [hb]; rfl)]
            refine Obs.keep (oB.snoc (s3 _ _ er)) fun b d' e => ?_
            rw [upd_ne (ne_of e eB (by intro q; cases q))]
            exact e
          · intro b o e
            rw [upd_ne (ne_of_none e nB)]
            exact s3 _ _ e
        | true =>
          refine iteF ⟨bs, eB, ?_, s3⟩
          unfold hiR
          rw [ft, if_neg (by rw [hb]; exact Bool.false_ne_true), List.append_nil]
          exact oB
      rintro H3 ⟨bs, eB, oB, s3⟩
      rw [List.take_of_length_le (by rw [hO2.len]; exact Nat.le_refl _)] at oB
      refine ⟨B, rfl, ⟨_, SqL.of eB⟩, ?_⟩
      refine for_list (K := K) (a := B) (xs := bs) (fun j σ H' => ∃ (vl vh : V) (lo up : Option T4) (cl : Bool) (y5 y6 y7 y8 : Option V), σ = [some (.ref L), some vl, some vh, some (.bl cl), some (.ref r), y5, y6, y7, y8] ∧ Same H3 H' ∧ IvI (fun x y => (x ∈ ((loR ds).take i).map t3 ∧ y ∈ (hiR ds).map t3) ∨ (x = t3 d ∧ y ∈ ((hiR ds).take j).map t3)) H' k vl vh lo up cl) ?_ ?_ ?_ ?_
      · refine ⟨vl, vh, lo, up, cl, _, _, _, _, rfl, Same.refl _, (iv.same s3).congr fun x y => ?_⟩
        constructor
        · exact .inl
        · rintro (z | ⟨_, z⟩)
          · exact z
          · cases z
      · rintro j σ H' _ ⟨_, _, _, _, _, _, _, _, _, _, s', _⟩
        exact SqL.of (s' _ _ eB)
      · clear iv vl vh lo up cl
        rintro j v σ H4 hv ⟨vl, vh, lo, up, cl, y5, y6, y7, y8, rfl, s4, iv⟩
        obtain ⟨r2, e, rfl, er2, he⟩ := oB.at hv
        have eb := bHi e (List.mem_of_getElem? he)
        have er4 := s4 _ _ (s3 _ _ (s2 _ _ er))
        have er24 := s4 _ _ er2
        have cg : ∀ x' y', ad (fun x y => (x ∈ ((loR ds).take i).map t3 ∧ y ∈ (hiR ds).map t3) ∨ (x = t3 d ∧ y ∈ ((hiR ds).take j).map t3)) (t3 d) (t3 e) x' y' ↔ ((x' ∈ ((loR ds).take i).map t3 ∧ y' ∈ (hiR ds).map t3) ∨ (x' = t3 d ∧ y' ∈ ((hiR ds).take (j + 1)).map t3)) := fun x' y' => by
          rw [List.take_add_one, he, List.map_append]
          constructor
          · rintro ((z | ⟨z1, z2⟩) | ⟨z1, z2⟩)
            · exact .inl z
            · exact .inr ⟨z1, List.mem_append.mpr (.inl z2)⟩
            · exact .inr ⟨z1, List.mem_append.mpr (.inr (List.mem_singleton.mpr z2))⟩
          · rintro (z | ⟨z1, z2⟩)
            · exact .inl (.inl z)
            · rcases List.mem_append.mp z2 with z2 | z2
              · exact .inl (.inr ⟨z1, z2⟩)
              · exact .inr ⟨z1, List.mem_singleton.mp z2⟩
        have b1 : Bd (k + 2) (d.n - e.n - 1) := Bd.sub (Bd.sub db.2 eb.2) (Bd.small 1 (by decide) (by omega))
        have b2 : Bd (k + 2) (d.t - e.t) := (Bd.sub db.1 eb.1).mono (by omega)
        have b3 : Bd (k + 2) (e.n + 1 - d.n) := Bd.sub (Bd.add eb.2 (Bd.small 1 (by decide) (by omega))) (db.2.mono (by omega))
        have b4 : Bd (k + 2) (e.t - d.t) := (Bd.sub eb.1 db.1).mono (by omega)
        refine ⟨_, rfl, r2, _, _, _, rfl, rfl, SqT.of er24, atI_nat (j := 2) rfl, _, _, rfl, rfl, _, rfl, r, _, _, _, rfl, rfl, SqT.of er4, atI_nat (j := 2) rfl, _, _, rfl, rfl, _, rfl, r2, _, _, _, rfl, rfl, SqT.of er24, atI_nat (j := 1) rfl, _, rfl, r, _, _, _, rfl, rfl, SqT.of er4, atI_nat (j := 1) rfl, _, _, rfl, rfl, _, _, rfl, ?_⟩
        refine ⟨_, rfl, rfl, _, rfl, ite2 (fun c => ?_) (fun c => ?_)⟩
        · have c : e.t - d.t = 0 := V.int.inj (of_decide_eq_true c)
          have iz := (iv.zero (x := t3 d) (y := t3 e) (show d.t = e.t by omega)).congr cg
          refine ⟨_, rfl, cl, rfl, ?_⟩
          cases cl with
          | false => exact iteF ⟨_, _, lo, up, false, _, _, _, _, rfl, s4, iz⟩
          | true => exact iteT ⟨_, rfl, _, _, rfl, rfl, _, _, lo, up, _, _, _, _, _, rfl, s4, iz⟩
        · have c : e.t - d.t ≠ 0 := fun h => c (decide_eq_true (congrArg V.int h))
          refine ⟨_, rfl, _, _, rfl, rfl, _, rfl, ite2 (fun g => ?_) (fun g => ?_)⟩
          · have g : e.t - d.t > 0 := of_decide_eq_true g
            have lt : (t3 d).2.1 < (t3 e).2.1 := by show d.t < e.t; omega
            cases up with
            | none =>
              have ev : vh = .non := iv.pu
              subst ev
              refine ⟨_, rfl, rfl, _, rfl, iteT (iteT ?_)⟩
              refine ⟨_, rfl, _, rfl, len10 (by simp), fun r3 nr3 => ?_⟩
              have z3 := sm_upd (o := tup2 (e.n + 1 - d.n) (e.t - d.t)) nr3
              exact ⟨_, _, lo, _, cl, _, _, _, _, rfl, s4.trans z3, (iv.newU lt (fun z e => by cases e) z3 upd_same b3 b4).congr cg⟩
            | some z =>
              obtain ⟨rz, rfl, ez⟩ := iv.pu
              obtain ⟨bz1, bz2⟩ := iv.bu z rfl
              refine ⟨_, rfl, rfl, _, rfl, iteF ?_⟩
              refine ⟨_, rfl, _, rfl, len10 (by simp), fun r3 nr3 => ?_⟩
              have z3 := sm_upd (o := tup2 (e.n + 1 - d.n) (e.t - d.t)) nr3
              refine ⟨_, rfl, r3, rz, _, _, _, _, k + 2, rfl, upd_same, z3 _ _ ez, b3, b4, bz1, bz2, by omega, by omega, _, rfl, ite2 (fun q => ?_) (fun q => ?_)⟩
              · have q : (e.n + 1 - d.n) * z.2.1 < z.1 * (e.t - d.t) := of_decide_eq_true q
                refine ⟨_, rfl, _, rfl, len10 (by simp), fun r4 nr4 => ?_⟩
                have z4 := sm_upd (o := tup2 (e.n + 1 - d.n) (e.t - d.t)) nr4
                exact ⟨_, _, lo, _, cl, _, _, _, _, rfl, (s4.trans z3).trans z4, (iv.newU lt (fun z' e => by cases e; exact q) (z3.trans z4) upd_same b3 b4).congr cg⟩
              · have q : ¬ (e.n + 1 - d.n) * z.2.1 < z.1 * (e.t - d.t) := fun h => q (decide_eq_true h)
                exact ⟨_, rfl, _, _, lo, _, cl, _, _, _, _, rfl, s4.trans z3, ((iv.keepU lt (fun z' e => by cases e; exact Int.not_lt.mp q) (by intro z; cases z)).same z3).congr cg⟩
          · have g : ¬ e.t - d.t > 0 := fun h => g (decide_eq_true h)
            have lt : (t3 e).2.1 < (t3 d).2.1 := by show e.t < d.t; omega
            have q1 : (0 : Int) - (e.n + 1 - d.n) = d.n - e.n - 1 := by omega
            have q2 : (0 : Int) - (e.t - d.t) = d.t - e.t := by omega
            cases lo with
            | none =>
              have ev : vl = .non := iv.pl
              subst ev
              refine ⟨_, rfl, rfl, _, rfl, iteT (iteT ?_)⟩
              refine ⟨_, rfl, _, _, rfl, rfl, _, rfl, _, _, rfl, rfl, len10 (by simp), fun r3 nr3 => ?_⟩
              have z3 := sm_upd (o := tup2 (0 - (e.n + 1 - d.n)) (0 - (e.t - d.t))) nr3
              exact ⟨_, _, _, up, cl, _, _, _, _, rfl, s4.trans z3, (iv.newL lt (fun z e => by cases e) z3 (by rw [upd_same, q1, q2]; rfl) b1 b2).congr cg⟩
            | some z =>
              obtain ⟨rz, rfl, ez⟩ := iv.pl
              obtain ⟨bz1, bz2⟩ := iv.bl z rfl
              refine ⟨_, rfl, rfl, _, rfl, iteF ?_⟩
              refine ⟨_, rfl, _, rfl, _, _, rfl, rfl, _, rfl, _, _, rfl, rfl, len10 (by simp), fun r3 nr3 => ?_⟩
              have z3 := sm_upd (o := tup2 (0 - (e.n + 1 - d.n)) (0 - (e.t - d.t))) nr3
              have er3 : upd H4 r3 (tup2 (0 - (e.n + 1 - d.n)) (0 - (e.t - d.t))) r3 = some (tup2 (d.n - e.n - 1) (d.t - e.t)) := by rw [upd_same, q1, q2]
              refine ⟨rz, r3, _, _, _, _, k + 2, rfl, z3 _ _ ez, er3, bz1, bz2, b1, b2, by omega, by omega, _, rfl, ite2 (fun q => ?_) (fun q => ?_)⟩
              · have q : z.1 * (d.t - e.t) < (d.n - e.n - 1) * z.2.1 := of_decide_eq_true q
                refine ⟨_, rfl, _, _, rfl, rfl, _, rfl, _, _, rfl, rfl, len10 (by simp), fun r4 nr4 => ?_⟩
                have z4 := sm_upd (o := tup2 (0 - (e.n + 1 - d.n)) (0 - (e.t - d.t))) nr4
                exact ⟨_, _, _, up, cl, _, _, _, _, rfl, (s4.trans z3).trans z4, (iv.newL lt (fun z' e => by cases e; exact q) (z3.trans z4) (by rw [upd_same, q1, q2]; rfl) b1 b2).congr cg⟩
              · have q : ¬ z.1 * (d.t - e.t) < (d.n - e.n - 1) * z.2.1 := fun h => q (decide_eq_true h)
                exact ⟨_, _, _, up, cl, _, _, _, _, rfl, s4.trans z3, ((iv.keepL (fun z' e => by cases e; exact Int.not_lt.mp q) lt (by intro z; cases z)).same z3).congr cg⟩
      · clear iv vl vh lo up cl
        rintro σ H4 ⟨vl, vh, lo, up, cl, y5, y6, y7, y8, rfl, s4, iv⟩
        have etk : (hiR ds).take bs.length = hiR ds := List.take_of_length_le (by rw [oB.len]; exact Nat.le_refl _)
        rw [etk] at iv
        refine ⟨vl, vh, lo, up, cl, _, _, _, _, _, rfl, (s2.trans s3).trans s4, iv.congr fun x' y' => ?_⟩
        rw [List.take_add_one, hd, List.map_append]
        constructor
        · rintro (⟨z1, z2⟩ | ⟨z1, z2⟩)
          · exact ⟨List.mem_append.mpr (.inl z1), z2⟩
          · exact ⟨List.mem_append.mpr (.inr (List.mem_singleton.mpr z1)), z2⟩
        · rintro ⟨z1, z2⟩
          rcases List.mem_append.mp z1 with z1 | z1
          · exact .inl ⟨z1, z2⟩
          · exact .inr ⟨List.mem_singleton.mp z1, z2⟩
    · rintro σ H2 ⟨vl, vh, lo, up, cl, y4, y5, y6, y7, y8, rfl, s2, iv⟩
      have etk : (loR ds).take as.length = loR ds := List.take_of_length_le (by rw [oA.len]; exact Nat.le_refl _)
      rw [etk] at iv
      have iv : IvI (S3 ds) H2 k vl vh lo up cl := iv
      have upc : cl = true → UpOk (S3 ds) up := fun c => by
        have g := iv.hc.mp c
        have e : ∀ x y, uc x y → S3 ds x y → x.2.1 < y.2.1 := fun x y u h => by
          rcases u.2 with z | z
          · exact z
          · have h1 := g x y h
            have h2 := u.1
            omega
        have hu := iv.hu
        cases up with
        | none => exact fun x y h u => hu x y ⟨h, e x y u h⟩ u
        | some z =>
          obtain ⟨⟨x, y, h, u, ez⟩, m⟩ := hu
          exact ⟨⟨x, y, h.1, u, ez⟩, fun x' y' h' u' => m x' y' ⟨h', e x' y' u' h'⟩ u'⟩
      have fin : ∀ (cl' : Bool) T H', Same H2 H' → H' T = some (.tup [.bl cl', vl, vh]) → (cl' = true ↔ cl = true ∧ nr lo up = false) → Q (.ref T) H' := fun cl' T H' s' eT hc' => by
        refine kk T H' cl' vl vh lo up ((s1.trans s2).trans s') eT (iv.pl.same s') (iv.pu.same s') iv.bl iv.bu (fun c => ?_) (fun c lo' up' hlo hup => ?_)
        · obtain ⟨c1, c2⟩ := hc'.mp c
          exact ⟨iv.hl, upc c1, c2⟩
        · cases hcl : cl with
          | false =>
            have nall : ¬ ∀ x y, S3 ds x y → x.2.1 = y.2.1 → 0 < y.2.2 + 1 - x.2.2 := fun g => by
              have := iv.hc.mpr g
              rw [hcl] at this
              cases this
            obtain ⟨x, hx⟩ := Classical.not_forall.mp nall
            obtain ⟨y, hy⟩ := Classical.not_forall.mp hx
            obtain ⟨h1, h2⟩ := Classical.not_imp.mp hy
            obtain ⟨h2, h3⟩ := Classical.not_imp.mp h2
            obtain ⟨x', y', s', e1, e2⟩ := cov2 ds x y h1
            exact nr_zero hup s' (by rw [e1, e2]; exact h2) (by rw [e1, e2]; omega)
          | true =>
            have hn : nr lo up = true := by
              cases h : nr lo up with
              | true => rfl
              | false =>
                have := hc'.mpr ⟨hcl, h⟩
                rw [c] at this
                cases this
            rw [← nr_same (lo_same iv.hl hlo (cov2 ds) (cov1 ds)) (up_same (upc hcl) hup (cov2 ds) (cov1 ds))]
            exact hn
      have keep : (cl = true ↔ cl = true ∧ nr lo up = false) → tRet (tTup (tCons (tVar 3) (tCons (tVar 1) (tCons (tVar 2) tNil)))) { nx := fun _ H' => Q .non H', rt := Q } [some (.ref L), some vl, some vh, some (.bl cl), y4, y5, y6, y7, y8] H2 := fun hc' =>
        ⟨_, rfl, _, rfl, _, rfl, len10 (by simp), fun T nT => fin cl T _ (sm_upd nT) upd_same hc'⟩
      have keep3 : ∀ H3, Same H2 H3 → (cl = true ↔ cl = true ∧ nr lo up = false) → tRet (tTup (tCons (tVar 3) (tCons (tVar 1) (tCons (tVar 2) tNil)))) { nx := fun _ H' => Q .non H', rt := Q } [some (.ref L), some vl, some vh, some (.bl cl), y4, y5, y6, y7, y8] H3 := fun H3 s3 hc' =>
        ⟨_, rfl, _, rfl, _, rfl, len10 (by simp), fun T nT => fin cl T _ (s3.trans (sm_upd nT)) upd_same hc'⟩
      have drop : ∀ H3, Same H2 H3 → nr lo up = true → tSeq (tAsg (tC (V.bl false)) (gName 3)) (tRet (tTup (tCons (tVar 3) (tCons (tVar 1) (tCons (tVar 2) tNil))))) { nx := fun _ H' => Q .non H', rt := Q } [some (.ref L), some vl, some vh, some (.bl cl), y4, y5, y6, y7, y8] H3 := fun H3 s3 hn =>
        ⟨_, rfl, _, rfl, _, rfl, len10 (by simp), fun T nT => fin false T _ (s3.trans (sm_upd nT)) upd_same ⟨(fun z => by cases z), (fun z => by rw [hn] at z; cases z.2)⟩⟩
      cases up with
      | none =>
        have ev : vh = .non := iv.pu
        subst ev
        refine ⟨_, rfl, rfl, _, rfl, iteF (iteF ?_)⟩
        exact keep ⟨fun h => ⟨h, by cases lo <;> rfl⟩, fun h => h.1⟩
      | some z =>
        obtain ⟨rz, rfl, ez⟩ := iv.pu
        obtain ⟨bz1, bz2⟩ := iv.bu z rfl
        refine ⟨_, rfl, rfl, _, rfl, iteT ?_⟩
        refine ⟨_, rfl, rz, _, _, _, rfl, rfl, SqT.of ez, atI_nat (j := 0) rfl, _, _, rfl, rfl, _, rfl, ite2 (fun c => ?_) (fun c => ?_)⟩
        · have hn : nr lo (some z) = true := by
            cases lo with
            | none => exact c
            | some l =>
              show (decide (z.1 ≤ 0) || _) = true
              rw [show decide (z.1 ≤ 0) = true from c]
              rfl
          exact iteT (drop _ (Same.refl _) hn)
        · have c : decide (z.1 ≤ 0) = false := bool_f c
          cases lo with
          | none =>
            have ev : vl = .non := iv.pl
            subst ev
            refine ⟨_, rfl, rfl, _, rfl, iteF (iteF ?_)⟩
            exact keep ⟨fun h => ⟨h, c⟩, fun h => h.1⟩
          | some l =>
            obtain ⟨rl, rfl, el⟩ := iv.pl
            obtain ⟨bl1, bl2⟩ := iv.bl l rfl
            refine ⟨_, rfl, rfl, _, rfl, iteT ?_⟩
            refine ⟨_, rfl, _, rfl, rl, rz, _, _, _, _, k + 2, rfl, el, ez, bl1, bl2, bz1, bz2, by omega, by omega, _, rfl, ite2 (fun q => ?_) (fun q => ?_)⟩
            · have q : ¬ l.1 * z.2.1 < z.1 * l.2.1 := fun h => by
                rw [decide_eq_true h] at q
                cases q
              have hn : nr (some l) (some z) = true := by
                show (decide (z.1 ≤ 0) || decide (z.1 * l.2.1 ≤ l.1 * z.2.1)) = true
                rw [decide_eq_true (Int.not_lt.mp q), Bool.or_true]
              exact drop _ (Same.refl _) hn
            · have q : l.1 * z.2.1 < z.1 * l.2.1 := by
                rcases Int.lt_or_le (l.1 * z.2.1) (z.1 * l.2.1) with h | h
                · exact h
                · rw [decide_eq_false (Int.not_lt.mpr h)] at q
                  exact absurd rfl q
              have hn : nr (some l) (some z) = false := by
                show (decide (z.1 ≤ 0) || decide (z.1 * l.2.1 ≤ l.1 * z.2.1)) = false
                rw [c, decide_eq_false (Int.not_le.mpr q)]
                rfl
              exact keep ⟨fun h => ⟨h, hn⟩, fun h => h.1⟩
end
end Lf
namespace Lf
open PySem PySem.Spec PyProof.Rows L2
/-! ### bounds exist; whether some rule fits -/
theorem lo_step {S : T3 → T3 → Prop} (h : ∃ o, LoOk S o) (x y : T3) : ∃ o, LoOk (ad S x y) o := by
  obtain ⟨o, h⟩ := h
  by_cases c : y.2.1 < x.2.1
  · cases o with
    | none => exact ⟨_, h.first c⟩
    | some z =>
      rcases Int.lt_or_le (z.1 * (x.2.1 - y.2.1)) ((x.2.2 - y.2.2 - 1) * z.2.1) with g | g
      · exact ⟨_, h.upd c g⟩
      · exact ⟨_, h.keep g⟩
  · exact ⟨_, h.skip c⟩
theorem up_step {S : T3 → T3 → Prop} (h : ∃ o, UpOk S o) (x y : T3) : ∃ o, UpOk (ad S x y) o := by
  obtain ⟨o, h⟩ := h
  by_cases c : uc x y
  · cases o with
    | none => exact ⟨_, h.first c⟩
    | some z =>
      rcases Int.lt_or_le ((y.2.2 + 1 - x.2.2) * z.2.1) (z.1 * bot x y) with g | g
      · exact ⟨_, h.upd c g⟩
      · exact ⟨_, h.keep g⟩
  · exact ⟨_, h.skip c⟩
theorem ends_list (l : List (T3 × T3)) : (∃ o, LoOk (fun x y => (x, y) ∈ l) o) ∧ ∃ o, UpOk (fun x y => (x, y) ∈ l) o := by
  induction l with
  | nil => exact ⟨⟨none, fun _ _ h => (nomatch h)⟩, ⟨none, fun _ _ h => (nomatch h)⟩⟩
  | cons a r ih =>
    have e : ∀ x y : T3, ad (fun x y => (x, y) ∈ r) a.1 a.2 x y ↔ (x, y) ∈ a :: r := fun x y => by
      rw [List.mem_cons]
      constructor
      · rintro (h | ⟨rfl, rfl⟩)
        · exact .inr h
        · exact .inl rfl
      · rintro (h | h)
        · refine .inr ⟨?_, ?_⟩ <;> rw [← h]
        · exact .inl h
    obtain ⟨o1, h1⟩ := lo_step ih.1 a.1 a.2
    obtain ⟨o2, h2⟩ := up_step ih.2 a.1 a.2
    exact ⟨⟨o1, h1.congr e⟩, ⟨o2, h2.congr e⟩⟩
theorem ends_ex (ds : List Rec) : ∃ lo up, LoOk (SD ds) lo ∧ UpOk (SD ds) up := by
  obtain ⟨⟨lo, h1⟩, ⟨up, h2⟩⟩ := ends_list ((sel true 0 ds).flatMap fun x => (sel false 0 ds).map fun y => (x, y))
  have e : ∀ x y : T3, (x, y) ∈ ((sel true 0 ds).flatMap fun x => (sel false 0 ds).map fun y => (x, y)) ↔ SD ds x y := fun x y => by
    rw [List.mem_flatMap]
    constructor
    · rintro ⟨x', hx, h⟩
      obtain ⟨y', hy, h⟩ := List.mem_map.mp h
      cases h
      exact ⟨hx, hy⟩
    · rintro ⟨hx, hy⟩
      exact ⟨x, hx, List.mem_map.mpr ⟨y, hy, rfl⟩⟩
  exact ⟨lo, up, h1.congr e, h2.congr e⟩
section
variable {P : Program} {w : World} {K : PySem.W.Frag} {mg : Str → Option Value} {base : Heap}
def spClear : Sp := fun vs H Q _ => ∃ (L : Addr) (xs : List V) (ds : List Rec) (k : Nat), vs = [.ref L] ∧ H L = some (.lst xs) ∧ Obs rcO H xs ds ∧ ds.length ≤ 1000 ∧ RcB k ds ∧ 0 < k ∧ k ≤ 8000 ∧
  ∀ b H', Same H H' → (b = true ↔ ¬ Cf ds) → Q (.bl b) H'
def spOppL : Sp := fun vs H Q _ => ∃ (r : Addr) (d : Rec), vs = [.ref r] ∧ H r = some (rcO d) ∧ ∀ e H', Same H H' → H' e = some (rcO (opp d)) → Q (.ref e) H'
end
end Lf
namespace Lf
open PySem PySem.Spec PyProof.Rows L2
section
variable {P : Program} {w : World} {K : PySem.W.Frag} {mg : Str → Option Value} {base : Heap}
/-! ### _law_fits -/
def spFit28 : Sp := fun vs H Q _ => ∃ (r e : Addr) (p q c : Int) (d : Rec) (k : Nat), vs = [.ref r, .ref e] ∧ H r = some (.tup [.int p, .int q, .int c]) ∧ H e = some (rcO d) ∧ RuleB k p q c ∧ Bd k d.t ∧ 0 < k ∧ k ≤ 3000 ∧ Q (.bl (fitB p q c d)) H
abbrev s_l_fits : Stmt := topS 48
abbrev N_l_fits : List Str := ["_law_rule", "_law_record_here", "_law_here"]
abbrev P_l_fits : List Str := ["_law_rule", "_law_record_here"]
theorem sc_l_fits : FnScope N_l_fits P_l_fits (defScope s_l_fits) := ⟨rfl, rfl, rfl, by decide +kernel, rfl, by decide +kernel, by decide +kernel⟩
theorem ok_l_fits (D : Df K mg "_law_fits" s_l_fits P_l_fits) (c_l_count : C8.Cal P w K mg base 1 "_law_count" spCount30 []) : C8.Cal P w K mg base 2 "_law_fits" spFit28 [] := by
  refine cal_of D sc_l_fits (fun vs H Q E h => ?_) (fun f cdv A outer s H vs Q E hr h => ?_)
  · obtain ⟨r, e, p, q, c, d, k, rfl, _⟩ := h
    rfl
  · obtain ⟨r, e, p, q, c, d, k, rfl, er, ee, R, bt, k0, k1, kk⟩ := h
    refine ⟨_, (pss_cons (ps_set (i := 2) sc_l_fits.nd rfl (Or.inl rfl) (C8.pe_c c_l_count hr (by decide) (by rfl) (pa_cons (pv 0) (pa_cons (pe_ix (r := rIxT K) ix_tup (pv 1) pe_int (fun _ _ => rfl)) pa_nil))))
    (pss_one (ps_ret (pe_ifExp (pt_cmpR op_eq (pe_ix (r := rIxT K) ix_tup (pv 1) pe_int (fun _ _ => rfl)) pe_str (nomark _)) (pe_cmpR op_ge (pv 2) (pe_ix (r := rIxT K) ix_tup (pv 1) pe_int (fun _ _ => rfl)) (nomark _)) (pe_cmpR op_le (pv 2) (pe_ix (r := rIxT K) ix_tup (pv 1) pe_int (fun _ _ => rfl)) (nomark _)))))), ?_⟩
    refine ⟨_, rfl, _, rfl, e, _, _, _, rfl, rfl, SqT.of ee, atI_nat (j := 1) rfl, r, p, q, c, d.t, k, rfl, er, R, bt, k0, k1, ?_⟩
    refine ⟨_, rfl, e, _, _, _, rfl, rfl, SqT.of ee, atI_nat (j := 0) rfl, rfl, _, rfl, ?_⟩
    rw [w_lo]
    have kk : Q (.bl (if d.lo = true then decide (d.n ≤ (p * d.t + c) / q) else decide ((p * d.t + c) / q ≤ d.n))) H := kk
    cases hd : d.lo with
    | true =>
      rw [hd] at kk
      refine iteT ?_
      exact ⟨_, rfl, _, rfl, e, _, _, _, rfl, rfl, SqT.of ee, atI_nat (j := 2) rfl, _, _, rfl, rfl, kk⟩
    | false =>
      rw [hd] at kk
      refine iteF ?_
      exact ⟨_, rfl, _, rfl, e, _, _, _, rfl, rfl, SqT.of ee, atI_nat (j := 2) rfl, _, _, rfl, rfl, kk⟩
end
end Lf
namespace Lf
open PySem PySem.Spec PyProof.Rows L2
/-! ### lists of the very same items, or of other lengths -/
def SmI (xs : List V) : Prop := ∀ z ∈ xs, flatB z = true ∨ ∃ c, z = .ref c
def rNeS (K : PySem.W.Frag) : R2 := fun x y H Q => ∃ a b xs ys, x = .ref a ∧ y = .ref b ∧ SqL K H a xs ∧ SqL K H b ys ∧ ((xs.length ≠ ys.length ∧ Q (.bl true) H) ∨ (xs = ys ∧ SmI xs ∧ Q (.bl false) H))
def rEqS (K : PySem.W.Frag) : R2 := fun x y H Q => ∃ a b xs ys, x = .ref a ∧ y = .ref b ∧ SqL K H a xs ∧ SqL K H b ys ∧ ((xs.length ≠ ys.length ∧ Q (.bl false) H) ∨ (xs = ys ∧ SmI xs ∧ Q (.bl true) H))
theorem smI_at {A : Around} {s : Shared} {xs : List V} : ∀ {us ws : List Value}, SmI xs → Vals xs us → Vals xs ws → ∀ j (h1 : j < us.length) (h2 : j < ws.length), SeqAt.EqAt A s us[j] ws[j] true := by
  induction xs with
  | nil =>
    intro us ws _ r1 r2 j h1 _
    cases r1
    exact absurd h1 (Nat.not_lt_zero j)
  | cons x xs ih =>
    intro us ws hs r1 r2 j h1 h2
    cases r1 with
    | cons a1 b1 =>
      cases r2 with
      | cons a2 b2 =>
        cases j with
        | zero =>
          rcases hs x List.mem_cons_self with f | ⟨c, rfl⟩
          · exact eqAt_same a1 a2 f
          · cases a1
            cases a2
            exact SeqAt.EqAt.same _
        | succ j => exact ih (fun z hz => hs z (List.mem_cons_of_mem _ hz)) b1 b2 j (Nat.lt_of_succ_lt_succ h1) (Nat.lt_of_succ_lt_succ h2)
section
variable {X : Cx}
theorem op_neS (hu : X.A.units + 64 < cLine) : OpR X (compareOp .NotEq) (rNeS X.K) := by
  intro pins s σ H x y v u Q I rx ry h
  obtain ⟨a, b, xs, ys, rfl, rfl, ha, hb, h⟩ := h
  cases rx
  cases ry
  obtain ⟨us, r1, p1, _⟩ := I.list ha
  obtain ⟨ws, r2, p2, _⟩ := I.list hb
  have l1 := r1.length
  have l2 := r2.length
  rcases h with ⟨hne, q⟩ | ⟨rfl, hs, q⟩
  · exact SeqAt.RcNeAt.lists_lengths p1.isList p2.isList (by rw [bne_iff_ne, List.size_toArray, List.size_toArray]; omega) (by omega) _ _ _ _ ⟨.bl true, H, I, rfl, q⟩
  · have hsz : us.toArray.size = ws.toArray.size := by rw [List.size_toArray, List.size_toArray]; omega
    have R := SeqAt.RcNeAt.lists (e := fun _ => true) p1.isList p2.isList hsz (show X.A.units < cLine by omega) (fun j h1 h2 => by
      have := smI_at (A := X.A.in1) (s := s) hs r1 r2 j (by simpa using h1) (by simpa using h2)
      simpa using this)
    rw [show ((List.range us.toArray.size).all fun _ => true) = true from List.all_eq_true.mpr fun _ _ => rfl] at R
    exact R _ _ _ _ ⟨.bl false, H, I, rfl, q⟩
theorem op_eqS (hu : X.A.units + 64 < cLine) : OpR X (compareOp .Eq) (rEqS X.K) := by
  intro pins s σ H x y v u Q I rx ry h
  obtain ⟨a, b, xs, ys, rfl, rfl, ha, hb, h⟩ := h
  cases rx
  cases ry
  obtain ⟨us, r1, p1, _⟩ := I.list ha
  obtain ⟨ws, r2, p2, _⟩ := I.list hb
  have l1 := r1.length
  have l2 := r2.length
  rcases h with ⟨hne, q⟩ | ⟨rfl, hs, q⟩
  · exact SeqAt.RcAt.lists_lengths p1.isList p2.isList (by rw [bne_iff_ne, List.size_toArray, List.size_toArray]; omega) (by omega) _ _ _ _ ⟨.bl false, H, I, rfl, q⟩
  · have hsz : us.toArray.size = ws.toArray.size := by rw [List.size_toArray, List.size_toArray]; omega
    have R := SeqAt.RcAt.lists (e := fun _ => true) p1.isList p2.isList hsz (show X.A.units < cLine by omega) (fun j h1 h2 => by
      have := smI_at (A := X.A.in1) (s := s) hs r1 r2 j (by simpa using h1) (by simpa using h2)
      simpa using this)
    rw [show ((List.range us.toArray.size).all fun _ => true) = true from List.all_eq_true.mpr fun _ _ => rfl] at R
    exact R _ _ _ _ ⟨.bl true, H, I, rfl, q⟩
end
end Lf
namespace Lf
open PySem PySem.Spec PyProof.Rows L2
/-! ### are_pins: the mathematics -/
def ArePins (p q c M : Int) (ds : List Rec) : Prop := Fit ds p q c ∧ ∀ p' q' c', Int.gcd p' q' = 1 → q' ≤ M → Fit ds p' q' c' → p' = p ∧ q' = q ∧ c' = c
def LowOk : Option (Int × Int) → Int → Int → Int → Prop
  | none, p, q, _ => p = 0 ∧ q = 1
  | some l, p, q, M => ∀ x y, 1 ≤ y → Btw l.1 l.2 p q x y → M < y
def topE : Option (Int × Int) → Int × Int
  | none => (1, 0)
  | some h => h
def HighOk (e : Option (Int × Int)) (p q M : Int) : Prop := ∀ x y, 1 ≤ y → Btw p q (topE e).1 (topE e).2 x y → M < y
theorem sim_gt {p q t b N D M : Int} (s : Sim p q t b N D) : M < D ↔ ∀ x y, 1 ≤ y → Btw p q t b x y → M < y :=
  ⟨fun h x y y1 z => by have := (s.mi x y y1 z).1; omega, fun h => h N D s.d1 s.bt⟩
theorem lowE_ok {S : T3 → T3 → Prop} {lo : Option T4} (hl : LoOk S lo) : ∀ l, lowE lo = some l → 0 ≤ l.1 ∧ 1 ≤ l.2 := fun l e => by
  cases lo with
  | none => cases e
  | some z =>
    have d := hl.den z rfl
    have e : (if z.1 < 0 then none else some (redE z)) = some l := e
    by_cases c : z.1 < 0
    · rw [if_pos c] at e
      cases e
    · rw [if_neg c] at e
      cases e
      have g := gcd_pos (p := z.1) d
      exact ⟨Int.ediv_nonneg (by omega) (by omega), Int.le_ediv_of_mul_le g (by rw [Int.one_mul]; exact gcd_le d)⟩
theorem highE_ok {S : T3 → T3 → Prop} {up : Option T4} (hu : UpOk S up) : ∀ l, highE up = some l → 1 ≤ l.2 := fun l e => by
  cases up with
  | none => cases e
  | some z =>
    have d := hu.den z rfl
    cases e
    have g := gcd_pos (p := z.1) d
    exact Int.le_ediv_of_mul_le g (by rw [Int.one_mul]; exact gcd_le d)
theorem ins_m {ds : List Rec} {lo up : Option T4} {p q : Int} (hp : 0 ≤ p) (hq : 1 ≤ q) (hl : LoOk (SD ds) lo) (hu : UpOk (SD ds) up) : Ins (lowE lo) (highE up) p q ↔ FitM ds p q :=
  (ins_iff hp hq hl hu).trans ((rate_iff hp hq hl hu).symm.trans fitm_sd)
/-- a rate that fits: so does its reduced form -/
theorem fitm_red {ds : List Rec} {x y : Int} (x0 : 0 ≤ x) (y1 : 1 ≤ y) (h : FitM ds x y) : ∃ x' y' g, Int.gcd x' y' = 1 ∧ 0 ≤ x' ∧ 1 ≤ y' ∧ y' ≤ y ∧ 1 ≤ g ∧ x = g * x' ∧ y = g * y' ∧ FitM ds x' y' := by
  have g := gcd_pos (p := x) y1
  have e1 : (Int.gcd x y : Int) * (x / (Int.gcd x y : Int)) = x := Int.mul_ediv_cancel' (Int.gcd_dvd_left ..)
  have e2 : (Int.gcd x y : Int) * (y / (Int.gcd x y : Int)) = y := Int.mul_ediv_cancel' (Int.gcd_dvd_right ..)
  refine ⟨x / (Int.gcd x y : Int), y / (Int.gcd x y : Int), (Int.gcd x y : Int), Int.gcd_ediv_gcd_ediv_gcd (by omega), Int.ediv_nonneg x0 (by omega), Int.le_ediv_of_mul_le g (by rw [Int.one_mul]; exact gcd_le y1), Int.ediv_le_self _ (by omega), g, e1.symm, e2.symm, fun d hd e he ld le => ?_⟩
  have k := h d hd e he ld le
  generalize (Int.gcd x y : Int) = gg at *
  generalize x / gg = a at *
  generalize y / gg = b at *
  rw [← e1, ← e2, Int.mul_assoc, show (e.n + 1 - d.n) * (gg * b) = gg * ((e.n + 1 - d.n) * b) by grind] at k
  exact Int.lt_of_mul_lt_mul_left k (by omega)
theorem are_one {p q c M : Int} {ds : List Rec} (h : ArePins p q c M ds) {x y : Int} (x0 : 0 ≤ x) (y1 : 1 ≤ y) (hy : y ≤ M) (f : FitM ds x y) : x * q = p * y := by
  obtain ⟨x', y', g, hg, x0', y1', le, _, rfl, rfl, f'⟩ := fitm_red x0 y1 f
  obtain ⟨c', fc⟩ := m_fits y1' f'
  obtain ⟨rfl, rfl, _⟩ := h.2 x' y' c' hg (by omega) ⟨x0', y1', fc⟩
  grind
theorem are_ph {ds : List Rec} {p q c M : Int} {a b : Option Int} (p0 : 0 ≤ p) (q1 : 1 ≤ q) (g : Int.gcd p q = 1) (hM : q ≤ M) (ha : IsMx (lph p q ds) a) (hb : IsMn (hph p q ds) b) (h : ArePins p q c M ds) : a = some c ∧ b = some c := by
  obtain ⟨f, one⟩ := h
  have ph := (fit_iff q1 ha hb).mp f.2.2
  have only : ∀ c', geO a c' → leO b c' → c' = c := fun c' h1 h2 => (one p q c' g hM ⟨p0, q1, (fit_iff q1 ha hb).mpr ⟨h1, h2⟩⟩).2.2
  have ea : a = some c := by
    cases a with
    | none =>
      have := only (c - 1) trivial (by
        cases b with
        | none => trivial
        | some y =>
          have := ph.2
          show c - 1 ≤ y
          have h2 : c ≤ y := this
          omega)
      omega
    | some x =>
      have h1 : x ≤ c := ph.1
      have := only x (Int.le_refl _) (by
        cases b with
        | none => trivial
        | some y =>
          have h2 : c ≤ y := ph.2
          show x ≤ y
          omega)
      rw [this]
  have eb : b = some c := by
    subst ea
    cases b with
    | none =>
      have := only (c + 1) (show c ≤ c + 1 by omega) trivial
      omega
    | some y =>
      have h2 : c ≤ y := ph.2
      have := only y h2 (Int.le_refl _)
      rw [this]
  exact ⟨ea, eb⟩
theorem are_iff {ds : List Rec} {p q c M : Int} {lo up : Option T4} {a b : Option Int} (p0 : 0 ≤ p) (q1 : 1 ≤ q) (g : Int.gcd p q = 1) (hM : q ≤ M) (hlo : LoOk (SD ds) lo) (hup : UpOk (SD ds) up) (ha : IsMx (lph p q ds) a) (hb : IsMn (hph p q ds) b) :
    ArePins p q c M ds ↔ (a = some c ∧ b = some c) ∧ LowOk (lowE lo) p q M ∧ HighOk (highE up) p q M := by
  constructor
  · intro h
    obtain ⟨ea, eb⟩ := are_ph p0 q1 g hM ha hb h
    obtain ⟨f, one⟩ := h
    have fm := fits_m q1 f.2.2
    have ins := (ins_m p0 q1 hlo hup).mpr fm
    refine ⟨⟨ea, eb⟩, ?_, ?_⟩
    · cases e : lowE lo with
      | none =>
        have f0 : FitM ds 0 1 := by
          refine (ins_m (Int.le_refl _) (Int.le_refl _) hlo hup).mp ⟨fun z ez => ?_, fun z ez => ?_⟩
          · rw [e] at ez
            cases ez
          · have z2 := highE_ok hup z ez
            have := ins.2 z ez
            have h0 := Int.mul_nonneg p0 (show 0 ≤ z.2 by omega)
            have := pos_of_mul (show 0 < z.1 * q by omega) (by omega)
            omega
        obtain ⟨c', fc⟩ := m_fits (Int.le_refl _) f0
        obtain ⟨h1, h2, _⟩ := one 0 1 c' rfl (by omega) ⟨Int.le_refl _, Int.le_refl _, fc⟩
        exact ⟨h1.symm, h2.symm⟩
      | some l =>
        intro x y y1 hb
        refine Int.not_le.mp fun le => ?_
        obtain ⟨l0, l1⟩ := lowE_ok hlo l e
        obtain ⟨b1, b2⟩ := hb
        have x0 : 0 ≤ x := by
          have := Int.mul_nonneg l0 (show 0 ≤ y by omega)
          have := pos_of_mul (show 0 < x * l.2 by omega) (by omega)
          omega
        have fx : FitM ds x y := by
          refine (ins_m x0 y1 hlo hup).mp ⟨fun z ez => ?_, fun z ez => ?_⟩
          · rw [e] at ez
            cases ez
            exact b1
          · have z2 := highE_ok hup z ez
            have := ins.2 z ez
            exact frac_lt (show 0 < q by omega) (by omega) (by omega) (Int.le_of_lt b2) this
        have := are_one ⟨f, one⟩ x0 y1 le fx
        omega
    · intro x y y1 hb
      refine Int.not_le.mp fun le => ?_
      obtain ⟨b1, b2⟩ := hb
      have x0 : 0 ≤ x := by
        have := Int.mul_nonneg p0 (show 0 ≤ y by omega)
        have := pos_of_mul (show 0 < x * q by omega) (by omega)
        omega
      have fx : FitM ds x y := by
        refine (ins_m x0 y1 hlo hup).mp ⟨fun z ez => ?_, fun z ez => ?_⟩
        · obtain ⟨l0, l1⟩ := lowE_ok hlo z ez
          have := ins.1 z ez
          exact frac_lt (show 0 < q by omega) (by omega) (by omega) (Int.le_of_lt this) b1
        · rw [ez] at b2
          have b2 : x * z.2 < z.1 * y := b2
          exact b2
      have := are_one ⟨f, one⟩ x0 y1 le fx
      omega
  · rintro ⟨⟨rfl, rfl⟩, hl, hh⟩
    have f : ds.all (fitB p q c) = true := (fit_iff q1 ha hb).mpr ⟨Int.le_refl _, Int.le_refl _⟩
    refine ⟨⟨p0, q1, f⟩, fun p' q' c' g' hM' f' => ?_⟩
    have ins := (ins_m f'.1 f'.2.1 hlo hup).mpr (fits_m f'.2.1 f'.2.2)
    have q1' := f'.2.1
    have ez : p' * q = p * q' := by
      rcases Int.lt_trichotomy (p' * q) (p * q') with h | h | h
      · exfalso
        cases e : lowE lo with
        | none =>
          rw [e] at hl
          obtain ⟨rfl, rfl⟩ := hl
          have := f'.1
          omega
        | some l =>
          rw [e] at hl
          have := hl p' q' q1' ⟨ins.1 l e, h⟩
          omega
      · exact h
      · exfalso
        have : M < q' := by
          refine hh p' q' q1' ⟨h, ?_⟩
          cases e : highE up with
          | none =>
            show p' * 0 < 1 * q'
            omega
          | some l => exact ins.2 l e
        omega
    obtain ⟨rfl, rfl⟩ := cop_uniq q1' q1 g' g ez
    have := (fit_iff q1 ha hb).mp f'.2.2
    have h1 : c ≤ c' := this.1
    have h2 : c' ≤ c := this.2
    exact ⟨rfl, rfl, by omega⟩
theorem ArePins.le {p q c M M' : Int} {ds : List Rec} (h : ArePins p q c M ds) (e : M' ≤ M) : ArePins p q c M' ds := ⟨h.1, fun p' q' c' g l f => h.2 p' q' c' g (by omega) f⟩
/-- the three pins are pins -/
theorem pin3_are {p q c M E m L : Int} (q1 : 1 ≤ q) (p0 : 0 ≤ p) (g : Int.gcd p q = 1) (P : (p * m + c) % q = 0 ∧ (p * E + c) % q = q - 1 ∧ (p * L + c) % q = q - 1 ∧ E ≤ m - M ∧ m + M ≤ L) : ArePins p q c M (pin3 p q c E m L) :=
  ⟨pin3_fit p0 q1, fun p' q' c' g' h f => pin3_one q1 p0 g g' h P.1 P.2.1 P.2.2.1 P.2.2.2.1 P.2.2.2.2 f⟩
/-- two of the three are none -/
theorem pin3_two {p q c M E m L : Int} (q1 : 1 ≤ q) (p1 : 1 ≤ p) (g : Int.gcd p q = 1) (hM : 1 ≤ M) (hE : E ≤ m - M) (hL : m + M ≤ L) {k : Nat} (hk : k < 3) : ¬ ArePins p q c M ((pin3 p q c E m L).take k ++ (pin3 p q c E m L).drop (k + 1)) := by
  intro h
  have fit0 : ∀ {a b : Rec} {p' q' c' : Int}, 0 ≤ p' → 1 ≤ q' → fitB p' q' c' a = true → fitB p' q' c' b = true → Fit [a, b] p' q' c' := fun h1 h2 h3 h4 => ⟨h1, h2, by simp [h3, h4]⟩
  match k, hk with
  | 0, _ =>
    have h : ArePins p q c M [⟨true, m, (p * m + c) / q⟩, ⟨false, L, (p * L + c) / q⟩] := h
    have le : (p * m + c) / q ≤ (p * L + c) / q := Int.ediv_le_ediv (by omega) (by
      have := Int.mul_le_mul_of_nonneg_left (show m ≤ L by omega) (show 0 ≤ p by omega)
      omega)
    have := (h.2 0 1 ((p * m + c) / q) rfl hM (fit0 (Int.le_refl _) (Int.le_refl _) (decide_eq_true (by show (p * m + c) / q ≤ (0 * m + (p * m + c) / q) / 1; rw [Int.ediv_one]; omega)) (decide_eq_true (by show (0 * L + (p * m + c) / q) / 1 ≤ (p * L + c) / q; rw [Int.ediv_one]; omega)))).1
    omega
  | 1, _ =>
    have h : ArePins p q c M [⟨false, E, (p * E + c) / q⟩, ⟨false, L, (p * L + c) / q⟩] := h
    have hq : q ≤ M := by
      refine Int.not_lt.mp fun lt => ?_
      exact absurd (h.2 1 1 ((p * E + c) / q - E - (if (p * L + c) / q - L < (p * E + c) / q - E then (p * E + c) / q - E - ((p * L + c) / q - L) else 0)) rfl hM (fit0 (by omega) (Int.le_refl _) (decide_eq_true (by
        show (1 * E + _) / 1 ≤ (p * E + c) / q
        rw [Int.ediv_one]
        split <;> omega)) (decide_eq_true (by
        show (1 * L + _) / 1 ≤ (p * L + c) / q
        rw [Int.ediv_one]
        split <;> omega)))) (by rintro ⟨_, h2, _⟩; omega)
    have mono : ∀ x, (p * x + (c - 1)) / q ≤ (p * x + c) / q := fun x => Int.ediv_le_ediv (by omega) (by omega)
    have := (h.2 p q (c - 1) g hq (fit0 (by omega) q1 (decide_eq_true (mono E)) (decide_eq_true (mono L)))).2.2
    omega
  | 2, _ =>
    have h : ArePins p q c M [⟨false, E, (p * E + c) / q⟩, ⟨true, m, (p * m + c) / q⟩] := h
    have le : (p * E + c) / q ≤ (p * m + c) / q := Int.ediv_le_ediv (by omega) (by
      have := Int.mul_le_mul_of_nonneg_left (show E ≤ m by omega) (show 0 ≤ p by omega)
      omega)
    generalize (p * E + c) / q = nE at *
    generalize (p * m + c) / q = n at *
    have key : ∀ P : Int, n - nE ≤ P → P = p := fun P hP => by
      have P0 : 0 ≤ P := by omega
      have e1 : P * 1 ≤ P * (m - E) := Int.mul_le_mul_of_nonneg_left (by omega) P0
      have e2 : P * (m - E) = P * m - P * E := by grind
      exact (h.2 P 1 (n - P * m) (Int.gcd_one_right _) hM (fit0 P0 (Int.le_refl _) (decide_eq_true (by
        show (P * E + (n - P * m)) / 1 ≤ nE
        rw [Int.ediv_one]
        omega)) (decide_eq_true (by
        show n ≤ (P * m + (n - P * m)) / 1
        rw [Int.ediv_one]
        omega)))).1
    have h1 := key (n - nE) (by omega)
    have h2 := key (n - nE + 1) (by omega)
    omega
end Lf
namespace Lf
open PySem PySem.Spec PyProof.Rows L2
/-! ### k50: three candidates for each cycle are enough -/
def firstI (lo : Option T4) (q' : Int) : Int := match lo with
  | none => 0
  | some z => if z.1 < 0 then 0 else z.1 * q' / z.2.1 + 1
theorem first_nn {lo : Option T4} {q' : Int} (hd : ∀ z, lo = some z → 1 ≤ z.2.1) (hq : 1 ≤ q') : 0 ≤ firstI lo q' := by
  cases lo with
  | none => exact Int.le_refl _
  | some z =>
    show 0 ≤ if z.1 < 0 then 0 else z.1 * q' / z.2.1 + 1
    have d := hd z rfl
    split
    · exact Int.le_refl _
    · have := Int.ediv_nonneg (Int.mul_nonneg (show 0 ≤ z.1 by omega) (show 0 ≤ q' by omega)) (show 0 ≤ z.2.1 by omega)
      omega
theorem first_iff {lo : Option T4} {q' p' : Int} (hd : ∀ z, lo = some z → 1 ≤ z.2.1) (hq : 1 ≤ q') (hp : 0 ≤ p') : firstI lo q' ≤ p' ↔ ∀ z, lo = some z → z.1 * q' < p' * z.2.1 := by
  cases lo with
  | none => exact ⟨fun _ z e => (by cases e), fun _ => hp⟩
  | some z =>
    have d := hd z rfl
    show (if z.1 < 0 then 0 else z.1 * q' / z.2.1 + 1) ≤ p' ↔ _
    by_cases c : z.1 < 0
    · rw [if_pos c]
      refine ⟨fun _ y e => ?_, fun _ => hp⟩
      cases e
      have h1 := Int.mul_neg_of_neg_of_pos c (show 0 < q' by omega)
      have h2 := Int.mul_nonneg hp (show 0 ≤ z.2.1 by omega)
      omega
    · rw [if_neg c]
      constructor
      · intro h y e
        cases e
        have h1 := Int.lt_ediv_add_one_mul_self (z.1 * q') (show 0 < z.2.1 by omega)
        have h2 := Int.mul_le_mul_of_nonneg_right h (show 0 ≤ z.2.1 by omega)
        omega
      · intro h
        have h1 := Int.ediv_lt_of_lt_mul (show 0 < z.2.1 by omega) (h z rfl)
        omega
def CandL (lo up : Option T4) (p q M : Int) : Prop := ∀ q', 1 ≤ q' → q' ≤ M → ∀ p', firstI lo q' ≤ p' → p' < firstI lo q' + 3 → (∀ z, up = some z → p' * z.2.1 < z.1 * q') → p' * q = p * q' ∨ Int.gcd p' q' ≠ 1
/-- a rate between, in lowest terms -/
theorem in_red {lo up : Option T4} {x y : Int} (hy : 1 ≤ y) (h : RateIn lo up x y) : RateIn lo up (x / (Int.gcd x y : Int)) (y / (Int.gcd x y : Int)) := by
  have g0 := gcd_pos (p := x) hy
  have e1 : (Int.gcd x y : Int) * (x / (Int.gcd x y : Int)) = x := Int.mul_ediv_cancel' (Int.gcd_dvd_left ..)
  have e2 : (Int.gcd x y : Int) * (y / (Int.gcd x y : Int)) = y := Int.mul_ediv_cancel' (Int.gcd_dvd_right ..)
  generalize (Int.gcd x y : Int) = g at *
  generalize x / g = a at *
  generalize y / g = b at *
  constructor
  · intro z e
    have := h.1 z e
    refine Int.lt_of_mul_lt_mul_left (a := g) ?_ (by omega)
    have h1 : g * (z.1 * b) = z.1 * (g * b) := by grind
    have h2 : g * (a * z.2.1) = g * a * z.2.1 := by grind
    rw [h1, h2, e1, e2]
    exact this
  · intro z e
    have := h.2 z e
    refine Int.lt_of_mul_lt_mul_left (a := g) ?_ (by omega)
    have h1 : g * (z.1 * b) = z.1 * (g * b) := by grind
    have h2 : g * (a * z.2.1) = g * a * z.2.1 := by grind
    rw [h1, h2, e1, e2]
    exact this
theorem cand_iff {lo up : Option T4} {p q M : Int} (q1 : 1 ≤ q) (hd : ∀ z, lo = some z → 1 ≤ z.2.1) (hu : ∀ z, up = some z → 1 ≤ z.2.1) : CandL lo up p q M ↔ ∀ p' q', 0 ≤ p' → 1 ≤ q' → q' ≤ M → RateIn lo up p' q' → p' * q = p * q' := by
  constructor
  · intro C
    have key : ∀ n : Nat, ∀ p' q', q'.toNat ≤ n → 0 ≤ p' → 1 ≤ q' → q' ≤ M → RateIn lo up p' q' → p' * q = p * q' := by
      intro n
      induction n with
      | zero => intro p' q' h0 _ h1; omega
      | succ n ih =>
        intro p' q' hn h0 h1 hM ri
        have red : ∀ x, 0 ≤ x → RateIn lo up x q' → Int.gcd x q' ≠ 1 → x * q = p * q' := fun x hx rx gx => by
          have g0 := gcd_pos (p := x) h1
          have e1 : (Int.gcd x q' : Int) * (x / (Int.gcd x q' : Int)) = x := Int.mul_ediv_cancel' (Int.gcd_dvd_left ..)
          have e2 : (Int.gcd x q' : Int) * (q' / (Int.gcd x q' : Int)) = q' := Int.mul_ediv_cancel' (Int.gcd_dvd_right ..)
          have r := in_red h1 rx
          have g2 : 2 ≤ (Int.gcd x q' : Int) := by omega
          generalize (Int.gcd x q' : Int) = g at *
          generalize x / g = a at *
          generalize q' / g = b at *
          have b1 : 1 ≤ b := by
            have : 0 < b * g := by
              rw [Int.mul_comm]
              omega
            have := pos_of_mul this (by omega)
            omega
          have a0 : 0 ≤ a := by
            refine Int.not_lt.mp fun z => ?_
            have := Int.mul_neg_of_pos_of_neg (show 0 < g by omega) z
            omega
          have lt : b < q' := by
            have : 2 * b ≤ g * b := Int.mul_le_mul_of_nonneg_right g2 (by omega)
            omega
          have := ih a b (by omega) a0 b1 (by omega) r
          rw [← e1, ← e2]
          have h2 : g * a * q = g * (a * q) := by grind
          have h3 : p * (g * b) = g * (p * b) := by grind
          rw [h2, h3, this]
        by_cases gc : Int.gcd p' q' = 1
        · have fp := (first_iff hd h1 h0).mpr ri.1
          by_cases c : p' < firstI lo q' + 3
          · exact (C q' h1 hM p' fp c ri.2).resolve_right fun z => z gc
          · refine absurd ?_ (show ¬ False from id)
            have f0 := first_nn (q' := q') hd h1
            have one : ∀ h, firstI lo q' ≤ h → h < firstI lo q' + 3 → h * q = p * q' := fun h h2 h3 => by
              have hh : RateIn lo up h q' := ⟨(first_iff hd h1 (by omega)).mp h2, fun z e => by
                have a1 := ri.2 z e
                have a2 := Int.mul_le_mul_of_nonneg_right (show h ≤ p' by omega) (show 0 ≤ z.2.1 by have := hu z e; omega)
                omega⟩
              by_cases g2 : Int.gcd h q' = 1
              · exact (C q' h1 hM h h2 h3 hh.2).resolve_right fun z => z g2
              · exact red h (by omega) hh g2
            have a1 := one (firstI lo q') (by omega) (by omega)
            have a2 := one (firstI lo q' + 1) (by omega) (by omega)
            rw [Int.add_mul] at a2
            omega
        · exact red p' h0 ri gc
    exact fun p' q' h0 h1 hM ri => key q'.toNat p' q' (Nat.le_refl _) h0 h1 hM ri
  · intro h q' h1 hM p' hf _ ht
    have h0 : 0 ≤ p' := Int.le_trans (first_nn hd h1) hf
    exact .inl (h p' q' h0 h1 hM ⟨(first_iff hd h1 h0).mp hf, ht⟩)
end Lf
namespace Lf
open PySem PySem.Spec PyProof.Rows L2
/-! ### what _law_only finds are the pins -/
theorem rate_one {p q p' q' : Int} (q1 : 1 ≤ q) (q1' : 1 ≤ q') (g : Int.gcd p q = 1) (g' : Int.gcd p' q' = 1) (e : p' * q = p * q') : p' = p ∧ q' = q := by
  have dq : q ∣ q' := by
    have : q ∣ p * q' := ⟨p', by rw [← e, Int.mul_comm]⟩
    exact dvd_co9 this g
  have dq' : q' ∣ q := by
    have : q' ∣ p' * q := ⟨p, by rw [e, Int.mul_comm]⟩
    exact dvd_co9 this g'
  have eq : q' = q := Int.le_antisymm (Int.le_of_dvd (by omega) dq') (Int.le_of_dvd (by omega) dq)
  subst eq
  exact ⟨Int.eq_of_mul_eq_mul_right (by omega) e, rfl⟩
theorem in_fit {ds : List Rec} {lo up : Option T4} {p q : Int} (p0 : 0 ≤ p) (q1 : 1 ≤ q) (hl : LoOk (S3 ds) lo) (hu : UpOk (S3 ds) up) : RateIn lo up p q ↔ FitM ds p q := by
  rw [← rate_iff p0 q1 hl hu, ← fitm_sd]
  constructor
  · intro f x y s
    obtain ⟨x', y', s', e1, e2⟩ := cov1 _ x y s
    have := f x' y' s'
    rw [e1, e2] at this
    exact this
  · intro f x y s
    obtain ⟨x', y', s', e1, e2⟩ := cov2 _ x y s
    have := f x' y' s'
    rw [e1, e2] at this
    exact this
theorem only_iff {ds : List Rec} {p q c M : Int} {lo up : Option T4} {a b : Option Int} (p0 : 0 ≤ p) (q1 : 1 ≤ q) (g : Int.gcd p q = 1) (hM : q ≤ M) (fit : ds.all (fitB p q c) = true) (hl : LoOk (S3 ds) lo) (hu : UpOk (S3 ds) up) (ha : IsMx (lph p q ds) a) (hb : IsMn (hph p q ds) b) : (up ≠ none ∧ CandL lo up p q M ∧ a = some c ∧ b = some c) ↔ ArePins p q c M ds := by
  have own := (in_fit p0 q1 hl hu).mpr (fits_m q1 fit)
  constructor
  · rintro ⟨_, C, rfl, rfl⟩
    refine ⟨⟨p0, q1, fit⟩, fun p' q' c' g' hq f => ?_⟩
    have ri := (in_fit f.1 f.2.1 hl hu).mpr (fits_m f.2.1 f.2.2)
    have e := (cand_iff q1 hl.den hu.den).mp C p' q' f.1 f.2.1 hq ri
    obtain ⟨rfl, rfl⟩ := rate_one q1 f.2.1 g g' e
    have h := (fit_iff q1 ha hb).mp f.2.2
    have h1 : c ≤ c' := h.1
    have h2 : c' ≤ c := h.2
    exact ⟨rfl, rfl, Int.le_antisymm h2 h1⟩
  · intro h
    obtain ⟨e1, e2⟩ := are_ph p0 q1 g hM ha hb h
    refine ⟨fun e => ?_, (cand_iff q1 hl.den hu.den).mpr fun p' q' h0 h1 hq ri => are_one h h0 h1 hq ((in_fit h0 h1 hl hu).mp ri), e1, e2⟩
    subst e
    -- without an upper end a greater rate fits
    have ri : RateIn lo none (p + 1) 1 := ⟨fun z e => by
      have d := hl.den z e
      have a1 := own.1 z e
      have a2 : p * z.2.1 * 1 ≤ p * z.2.1 * q := Int.mul_le_mul_of_nonneg_left q1 (Int.mul_nonneg p0 (by omega))
      have a3 : z.1 * q < (p * z.2.1 + z.2.1) * q := by
        rw [Int.add_mul]
        have := Int.mul_le_mul_of_nonneg_left q1 (show 0 ≤ z.2.1 by omega)
        omega
      have a4 := Int.lt_of_mul_lt_mul_right a3 (by omega)
      rw [Int.add_mul]
      omega, fun z e => by cases e⟩
    have f := (in_fit (by omega) (Int.le_refl 1) hl hu).mp ri
    have := are_one h (by omega) (Int.le_refl 1) (by omega) f
    have a1 := Int.mul_le_mul_of_nonneg_left q1 (show 0 ≤ p + 1 by omega)
    rw [Int.mul_one] at this
    omega
end Lf
namespace Lf
open PySem PySem.Spec PyProof.Rows L2
/-! ### _law_only, yes or no (k50) -/
def lowB (p q : Int) (ds : List Rec) : List Int := (ds.filter fun d => d.lo).map fun d => d.n * q - p * d.t
def uppB (p q : Int) (ds : List Rec) : List Int := (ds.filter fun d => !d.lo).map fun d => (d.n + 1) * q - p * d.t
theorem mx_mem {l l' : List Int} {a : Option Int} (e : ∀ x, x ∈ l ↔ x ∈ l') (h : IsMx l a) : IsMx l' a := by
  cases a with
  | none =>
    have h : l = [] := h
    show l' = []
    subst h
    exact List.eq_nil_iff_forall_not_mem.mpr fun x hx => absurd ((e x).mpr hx) (by simp)
  | some m => exact ⟨(e m).mp h.1, fun y hy => h.2 y ((e y).mpr hy)⟩
theorem mem_low9 {p q x : Int} {ds : List Rec} : x ∈ lph p q ds ↔ x ∈ lowB p q ds := by
  unfold lph lowB
  rw [List.mem_map, List.mem_map]
  constructor
  · rintro ⟨t, ht, rfl⟩
    obtain ⟨i, d, e, hb, rfl⟩ := sel_mem ht
    exact ⟨d, List.mem_filter.mpr ⟨List.mem_of_getElem? e, hb⟩, rfl⟩
  · rintro ⟨d, hd, rfl⟩
    obtain ⟨h1, h2⟩ := List.mem_filter.mp hd
    obtain ⟨i, e⟩ := List.mem_iff_getElem?.mp h1
    exact ⟨_, mem_sel e h2 0, rfl⟩
theorem mem_upp9 {p q x : Int} {ds : List Rec} : x - 1 ∈ hph p q ds ↔ x ∈ uppB p q ds := by
  unfold hph uppB
  rw [List.mem_map, List.mem_map]
  constructor
  · rintro ⟨t, ht, ex⟩
    obtain ⟨i, d, e, hb, rfl⟩ := sel_mem ht
    refine ⟨d, List.mem_filter.mpr ⟨List.mem_of_getElem? e, by rw [hb]; rfl⟩, ?_⟩
    have ex : (d.n + 1) * q - p * d.t - 1 = x - 1 := ex
    show (d.n + 1) * q - p * d.t = x
    omega
  · rintro ⟨d, hd, rfl⟩
    obtain ⟨h1, h2⟩ := List.mem_filter.mp hd
    obtain ⟨i, e⟩ := List.mem_iff_getElem?.mp h1
    have h2 : d.lo = false := by
      cases z : d.lo with
      | false => rfl
      | true =>
        rw [z] at h2
        cases h2
    exact ⟨_, mem_sel e h2 0, rfl⟩
/-- the greatest from below, the least from above -/
theorem mx_low {p q c : Int} {ds : List Rec} {a : Option Int} (ha : IsMx (lph p q ds) a) : a = some c ↔ c ∈ lowB p q ds ∧ ∀ y ∈ lowB p q ds, y ≤ c := by
  have h := mx_mem (fun x => mem_low9 (x := x)) ha
  constructor
  · rintro rfl
    exact h
  · rintro ⟨h1, h2⟩
    cases a with
    | none =>
      have h : lowB p q ds = [] := h
      rw [h] at h1
      cases h1
    | some m =>
      have h3 := h.2 c h1
      have h4 := h2 m h.1
      rw [show m = c by omega]
theorem mn_upp {p q c : Int} {ds : List Rec} {b : Option Int} (hb : IsMn (hph p q ds) b) : b = some c ↔ c + 1 ∈ uppB p q ds ∧ ∀ y ∈ uppB p q ds, c + 1 ≤ y := by
  constructor
  · rintro rfl
    refine ⟨mem_upp9.mp (by rw [Int.add_sub_cancel]; exact hb.1), fun y hy => ?_⟩
    have := hb.2 _ (mem_upp9.mpr hy)
    omega
  · rintro ⟨h1, h2⟩
    have m1 := mem_upp9.mpr h1
    rw [Int.add_sub_cancel] at m1
    cases b with
    | none =>
      have h : hph p q ds = [] := hb
      rw [h] at m1
      cases m1
    | some m =>
      have h3 := hb.2 c m1
      have m2 : m + 1 ∈ uppB p q ds := mem_upp9.mp (by rw [Int.add_sub_cancel]; exact hb.1)
      have h4 := h2 _ m2
      rw [show m = c by omega]
end Lf
namespace Lf
open PySem PySem.Spec PyProof.Rows L2
section
variable {P : Program} {w : World} {K : PySem.W.Frag} {mg : Str → Option Value} {base : Heap}
def spOnlyB : Sp := fun vs H Q _ => ∃ (r L : Addr) (xs : List V) (ds : List Rec) (p q c M : Int) (k : Nat), vs = [.ref r, .int M, .ref L] ∧ H r = some (.tup [.int p, .int q, .int c]) ∧ RuleB k p q c ∧ p < 2 ^ 50 ∧ q ≤ M ∧ M ≤ 40 ∧ H L = some (.lst xs) ∧ Obs rcO H xs ds ∧ ds.length ≤ 20 ∧ ds.all (fitB p q c) = true ∧ RcB k ds ∧ 0 < k ∧ k ≤ 3000 ∧
  ∀ H' b, Same H H' → (b = true ↔ ArePins p q c M ds) → Q (.bl b) H'
abbrev s_l_only : Stmt := topS 55
abbrev N_l_only : List Str := ["_law_rule", "_law_most", "_law_records", "_law_clear", "_law_low", "_law_high", "_law_q", "_law_first", "_law_p", "_law_lower", "_law_upper", "_law_bound", "_law_time_here", "_law_number"]
abbrev P_l_only : List Str := ["_law_rule", "_law_most", "_law_records"]
theorem sc_l_only : FnScope N_l_only P_l_only (defScope s_l_only) := ⟨rfl, rfl, rfl, by decide +kernel, rfl, by decide +kernel, by decide +kernel⟩
theorem ok_l_only (D : Df K mg "_law_only" s_l_only P_l_only) (B : Bi mg) (c_l_interval : C8.Cal P w K mg base 2 "_law_interval" spIvl []) (c_l_gcd : C8.Cal P w K mg base 1 "_law_gcd" spGcd []) : C8.Cal P w K mg base 3 "_law_only" spOnlyB [] := by
  refine cal_of D sc_l_only (fun vs H Q E h => ?_) (fun f cdv A outer s H vs Q X hr h => ?_)
  · obtain ⟨r, L, xs, ds, p, q, c, M, k, rfl, _⟩ := h
    rfl
  · obtain ⟨r, L, xs, ds, p, q, c, M, k, rfl, er, R, pb, hqM, hM, eL, oL, ll, fit, bd, k0, k1, kk⟩ := h
    have p0 := R.p0
    have q1 := R.q1
    have lx := oL.len
    refine ⟨_, (pss_cons (ps_asg (C8.pe_c c_l_interval hr (by decide) (by rfl) (pa_cons (pv 2) pa_nil)) (pg_tup rfl (pgs_cons (pg_name (i := 3) sc_l_only.nd rfl (Or.inl rfl)) (pgs_cons (pg_name (i := 4) sc_l_only.nd rfl (Or.inl rfl)) (pgs_cons (pg_name (i := 5) sc_l_only.nd rfl (Or.inl rfl)) pgs_nil)))))
    (pss_cons (ps_if (pt_cmpR op_isN (pv 5) pe_non (nomark _))
      (pss_one (ps_ret pe_bl))
      pss_nil)
    (pss_cons (ps_for PassesOwn.never rfl (pi_range2 rfl B.range_ (pa_cons pe_int (pa_cons (pe_op op_add (pv 1) pe_int) pa_nil))) (pg_name (i := 6) sc_l_only.nd rfl (Or.inl rfl))
      (C8.pss_cut (ps_set (i := 7) sc_l_only.nd rfl (Or.inl rfl) (pe_ifExp (PW.pt (pw_or (pt_cmpR op_isN (pv 4) pe_non (nomark _)) (pw_or1 (pt_cmpR op_lt (pe_ix (r := rIxT K) ix_tup (pv 4) pe_int (fun _ _ => rfl)) pe_int (nomark _))))) pe_int (pe_op op_add (pe_op op_fdivW (pe_op op_mulW (pe_ix (r := rIxT K) ix_tup (pv 4) pe_int (fun _ _ => rfl)) (pv 6)) (pe_ix (r := rIxT K) ix_tup (pv 4) pe_int (fun _ _ => rfl))) pe_int)))
    (pss_one (ps_for PassesOwn.never rfl (pi_range2 rfl B.range_ (pa_cons (pv 7) (pa_cons (pe_callB (call_min2 rfl) (by rfl) B.min_ bt_min (pa_cons (pe_op op_add (pv 7) pe_int) (pa_cons (pe_un un_neg (pe_op op_fdivW (pe_op op_mulW (pe_un un_neg (pe_ix (r := rIxT K) ix_tup (pv 5) pe_int (fun _ _ => rfl))) (pv 6)) (pe_ix (r := rIxT K) ix_tup (pv 5) pe_int (fun _ _ => rfl)))) pa_nil))) pa_nil))) (pg_name (i := 8) sc_l_only.nd rfl (Or.inl rfl))
      (pss_one (ps_if (PW.pt (pw_and (pt_cmpR op_ne (pe_op op_mulW (pv 8) (pe_ix (r := rIxT K) ix_tup (pv 0) pe_int (fun _ _ => rfl))) (pe_op op_mulW (pe_ix (r := rIxT K) ix_tup (pv 0) pe_int (fun _ _ => rfl)) (pv 6)) (nomark _)) (pw_and1 (pt_cmpR op_eq (C8.pe_c c_l_gcd hr (by decide) (by rfl) (pa_cons (pv 8) (pa_cons (pv 6) pa_nil))) pe_int (nomark _)))))
      (pss_one (ps_ret pe_bl))
      pss_nil))))))
    (pss_cons (ps_setLc (i := 9) (own := [("_law_bound", 11), ("_law_time_here", 12), ("_law_number", 13)]) (g := (gTup K 3 (gCons (gName 11) (gCons (gName 12) (gCons (gName 13) gNil))))) (by rfl) sc_l_only.nd rfl rfl (sw_true rfl rfl rfl (by decide +kernel)) (pi_list (pv 2)) (blkOk_by (own := [("_law_bound", 11), ("_law_time_here", 12), ("_law_number", 13)]) (N := N_l_only) (sc := defScope s_l_only) (by decide +kernel)) (fun _ _ _ _ _ => (pg_tup rfl (pgs_cons (pg_name (i := 11) sc_l_only.nd rfl (Or.inl rfl)) (pgs_cons (pg_name (i := 12) sc_l_only.nd rfl (Or.inl rfl)) (pgs_cons (pg_name (i := 13) sc_l_only.nd rfl (Or.inl rfl)) pgs_nil))))) (fun _ _ _ _ _ => (pts_one (pt_cmpR op_eq (pv 11) pe_str (nomark _)))) (fun _ _ _ _ _ => (pe_op op_sub (pe_op op_mulW (pv 13) (pe_ix (r := rIxT K) ix_tup (pv 0) pe_int (fun _ _ => rfl))) (pe_op op_mulW (pe_ix (r := rIxT K) ix_tup (pv 0) pe_int (fun _ _ => rfl)) (pv 12)))))
    (pss_cons (ps_setLc (i := 10) (own := [("_law_bound", 11), ("_law_time_here", 12), ("_law_number", 13)]) (g := (gTup K 3 (gCons (gName 11) (gCons (gName 12) (gCons (gName 13) gNil))))) (by rfl) sc_l_only.nd rfl rfl (sw_true rfl rfl rfl (by decide +kernel)) (pi_list (pv 2)) (blkOk_by (own := [("_law_bound", 11), ("_law_time_here", 12), ("_law_number", 13)]) (N := N_l_only) (sc := defScope s_l_only) (by decide +kernel)) (fun _ _ _ _ _ => (pg_tup rfl (pgs_cons (pg_name (i := 11) sc_l_only.nd rfl (Or.inl rfl)) (pgs_cons (pg_name (i := 12) sc_l_only.nd rfl (Or.inl rfl)) (pgs_cons (pg_name (i := 13) sc_l_only.nd rfl (Or.inl rfl)) pgs_nil))))) (fun _ _ _ _ _ => (pts_one (pt_cmpR op_eq (pv 11) pe_str (nomark _)))) (fun _ _ _ _ _ => (pe_op op_sub (pe_op op_mulW (pe_op op_add (pv 13) pe_int) (pe_ix (r := rIxT K) ix_tup (pv 0) pe_int (fun _ _ => rfl))) (pe_op op_mulW (pe_ix (r := rIxT K) ix_tup (pv 0) pe_int (fun _ _ => rfl)) (pv 12)))))
    (pss_one (ps_ret (pe_and (pe_cmpR (op_neS hr.units) (pv 9) (pe_lst pa_nil) (nomark _)) (pe_and (pe_cmpR (op_neS hr.units) (pv 10) (pe_lst pa_nil) (nomark _)) (pe_and (pe_cmpR op_eq (pe_callB (cr_max rfl) (by rfl) B.max_ bt_max (pa_cons (pv 9) pa_nil)) (pe_ix (r := rIxT K) ix_tup (pv 0) pe_int (fun _ _ => rfl)) (nomark _)) (pe_one (pe_cmpR op_eq (pe_callB (cr_min rfl) (by rfl) B.min_ bt_min (pa_cons (pv 10) pa_nil)) (pe_op op_add (pe_ix (r := rIxT K) ix_tup (pv 0) pe_int (fun _ _ => rfl)) pe_int) (nomark _))))))))))))), ?_⟩
    refine ⟨_, rfl, L, _, _, k, rfl, eL, oL, by omega, bd, k0, by omega, fun T H1 cl vl vh lo up s1 eT hlo hup blo bup ht hf => ?_⟩
    have nc : ¬ Cf ds := fits_nc p0 q1 fit
    have hcl : cl = true := by
      cases cl with
      | true => rfl
      | false =>
        obtain ⟨lo', up', h1, h2⟩ := ends_ex ds
        exact absurd ((nr_cf h1 h2).mp (hf rfl lo' up' h1 h2)) nc
    obtain ⟨hl, hu, _⟩ := ht hcl
    have own := (in_fit p0 q1 hl hu).mpr (fits_m q1 fit)
    obtain ⟨am, ha⟩ := ex_mx (lph p q ds)
    obtain ⟨bm, hb⟩ := ex_mn (hph p q ds)
    have key := only_iff p0 q1 R.g hqM fit hl hu ha hb
    have KN : ¬ ArePins p q c M ds → ∀ H', Same H H' → Q (.bl false) H' := fun n H' s' => kk H' false s' ⟨fun z => (nomatch z), fun z => absurd z n⟩
    have dlo := hl.den
    refine ⟨T, _, rfl, SqT.of eT, rfl, _, _, rfl, _, _, rfl, _, _, rfl, rfl, ?_⟩
    cases up with
    | none =>
      obtain rfl : vh = .non := hup
      exact ⟨_, rfl, rfl, _, rfl, iteT (KN (fun z => (key.mpr z).1 rfl) _ s1)⟩
    | some zu =>
    obtain ⟨ru, rfl, eu⟩ := hup
    have du := hu.den zu rfl
    have hz : 0 < zu.1 := by
      have := own.2 zu rfl
      have := Int.mul_nonneg p0 (show 0 ≤ zu.2.1 by omega)
      exact pos_of_mul (show 0 < zu.1 * q by omega) (by omega)
    have er1 := s1 _ _ er
    have eL1 := s1 _ _ eL
    have oL1 := oL.same s1
    refine ⟨_, rfl, rfl, _, rfl, iteF ?_⟩
    -- the rates
    refine ⟨_, rfl, _, _, rfl, rfl, 1, M + 1, rfl, ⟨by omega, by omega, by omega, by omega⟩, ?_⟩
    refine for_range (lo := 1) (n := (M + 1 - 1).toNat) (fun i σ H' => ∃ (y6 y7 y8 : Option V), σ = [some (.ref r), some (.int M), some (.ref L), some (.bl cl), some vl, some (.ref ru), y6, y7, y8, none, none, none, none, none] ∧ Same H1 H' ∧ ∀ q' : Int, 1 ≤ q' → q' ≤ ((i : Nat) : Int) → ∀ p' : Int, firstI lo q' ≤ p' → p' < firstI lo q' + 3 → (∀ z, some zu = some z → p' * z.2.1 < z.1 * q') → p' * q = p * q' ∨ Int.gcd p' q' ≠ 1) ⟨_, _, _, rfl, Same.refl _, fun q' h1 h2 => by omega⟩ ?_ ?_
    · rintro i σ H2 hi ⟨y6, y7, y8, rfl, s2, cand⟩
      have q0 : 1 ≤ (1 : Int) + i := by omega
      have qM : (1 : Int) + i ≤ M := by omega
      have bq : Bd 10 ((1 : Int) + i) := by
        unfold Bd
        omega
      have qi : ∀ x : Int, x ≤ ((i + 1 : Nat) : Int) → x ≤ (i : Nat) ∨ x = (1 : Int) + i := fun x hx => by omega
      generalize (1 : Int) + i = q' at q0 qM bq qi ⊢
      refine ⟨fun σ' H' => ∃ f : Int, σ' = [some (.ref r), some (.int M), some (.ref L), some (.bl cl), some vl, some (.ref ru), some (.int q'), some (.int f), y8, none, none, none, none, none] ∧ Same H1 H' ∧ f = firstI lo q' ∧ f < 2 ^ 60, ?_, ?_⟩
      · cases lo with
        | none =>
          obtain rfl : vl = .non := hlo
          exact ⟨_, rfl, rfl, _, rfl, iteT (iteT ⟨0, rfl, s2, rfl, by decide⟩)⟩
        | some zl =>
          obtain ⟨rl, rfl, el⟩ := hlo
          have dl := dlo zl rfl
          have el2 := s2 _ _ el
          obtain ⟨b1, b2⟩ := blo zl rfl
          refine ⟨_, rfl, rfl, _, rfl, iteF ?_⟩
          refine ⟨_, rfl, rl, _, _, _, rfl, rfl, SqT.of el2, atI_nat (j := 0) rfl, _, _, rfl, rfl, _, rfl, ite2 (fun c1 => ?_) (fun c1 => ?_)⟩
          · have c1 : zl.1 < 0 := of_decide_eq_true c1
            exact ⟨0, rfl, s2, (if_pos c1).symm, by decide⟩
          · have c2 : ¬ zl.1 < 0 := fun z => c1 (decide_eq_true z)
            have c1 : 0 ≤ zl.1 := Int.not_lt.mp c2
            refine ⟨_, rfl, rl, _, _, _, rfl, rfl, SqT.of el2, atI_nat (j := 0) rfl, _, rfl, _, _, rfl, rfl, mulW b1 bq (by omega) (by omega) (by omega), _, rfl, rl, _, _, _, rfl, rfl, SqT.of el2, atI_nat (j := 1) rfl, _, _, rfl, rfl, divW (by omega) b2 (by omega), _, _, rfl, rfl, ?_⟩
            have up : zl.1 * q' / zl.2.1 < 2 ^ 56 := by
              refine Int.ediv_lt_of_lt_mul (by omega) ?_
              have h1 := own.1 zl rfl
              have h2 : zl.1 * 1 ≤ zl.1 * q := Int.mul_le_mul_of_nonneg_left q1 c1
              have h3 : zl.1 * q' ≤ zl.1 * 40 := Int.mul_le_mul_of_nonneg_left (by omega) c1
              have h4 : p * zl.2.1 ≤ 2 ^ 50 * zl.2.1 := Int.mul_le_mul_of_nonneg_right (by omega) (by omega)
              omega
            exact ⟨_, rfl, s2, (if_neg c2).symm, by omega⟩
      rintro σ H3 ⟨f1, rfl, s3, ef, f60⟩
      have f0 : 0 ≤ f1 := by
        rw [ef]
        exact first_nn dlo q0
      have eu3 := s3 _ _ eu
      have er3 := s3 _ _ er1
      obtain ⟨b1, b2⟩ := bup zu rfl
      refine ⟨_, rfl, _, rfl, _, _, rfl, rfl, _, rfl, ru, _, _, _, rfl, rfl, SqT.of eu3, atI_nat (j := 0) rfl, _, rfl, _, rfl, _, _, rfl, rfl, mulW (Bd.neg b1) bq (by omega) (by omega) (by omega), ?_⟩
      refine ⟨_, rfl, ru, _, _, _, rfl, rfl, SqT.of eu3, atI_nat (j := 1) rfl, _, _, rfl, rfl, divW (by omega) b2 (by omega), _, rfl, _, _, rfl, ?_⟩
      have top : ∀ p', p' < -((-zu.1) * q' / zu.2.1) ↔ p' * zu.2.1 < zu.1 * q' := fun p' => by
        constructor
        · intro hp
          have h1 := Int.lt_mul_of_ediv_lt (a := (-zu.1) * q') (b := -p') (c := zu.2.1) (by omega) (by omega)
          rw [Int.neg_mul, Int.neg_mul] at h1
          omega
        · intro hp
          have h1 : (-zu.1) * q' / zu.2.1 < -p' := Int.ediv_lt_of_lt_mul (by omega) (by
            rw [Int.neg_mul, Int.neg_mul]
            omega)
          omega
      have v0 : 0 ≤ -((-zu.1) * q' / zu.2.1) := by
        have h1 : (-zu.1) * q' / zu.2.1 < 1 := Int.ediv_lt_of_lt_mul (by omega) (by
          rw [Int.neg_mul]
          have := Int.mul_pos hz (show 0 < q' by omega)
          omega)
        omega
      generalize -((-zu.1) * q' / zu.2.1) = u at top v0 ⊢
      obtain ⟨w1, w2, w3, w4⟩ : (if u < f1 + 3 then u else f1 + 3) ≤ u ∧ (if u < f1 + 3 then u else f1 + 3) ≤ f1 + 3 ∧ 0 ≤ (if u < f1 + 3 then u else f1 + 3) ∧ ∀ x, x < u → x < f1 + 3 → x < (if u < f1 + 3 then u else f1 + 3) := by
        split
        · exact ⟨by omega, by omega, by omega, fun x h1 h2 => h1⟩
        · exact ⟨by omega, by omega, by omega, fun x h1 h2 => h2⟩
      generalize (if u < f1 + 3 then u else f1 + 3) = w' at w1 w2 w3 w4 ⊢
      refine ⟨f1, w', rfl, ⟨by omega, by omega, by omega, by omega⟩, ?_⟩
      refine for_range (lo := f1) (n := (w' - f1).toNat) (fun j σ H' => ∃ y8 : Option V, σ = [some (.ref r), some (.int M), some (.ref L), some (.bl cl), some vl, some (.ref ru), some (.int q'), some (.int f1), y8, none, none, none, none, none] ∧ Same H1 H' ∧ ∀ p' : Int, f1 ≤ p' → p' < f1 + ((j : Nat) : Int) → p' * q = p * q' ∨ Int.gcd p' q' ≠ 1) ⟨_, rfl, s3, fun p' h1 h2 => by omega⟩ ?_ ?_
      · rintro j σ H4 hj ⟨y8, rfl, s4, seen⟩
        have pl : f1 ≤ f1 + (j : Nat) := by omega
        have pu : f1 + (j : Nat) < w' := by omega
        have pj : ∀ x : Int, x < f1 + ((j + 1 : Nat) : Int) → x < f1 + (j : Nat) ∨ x = f1 + (j : Nat) := fun x hx => by omega
        generalize hpe : f1 + ((j : Nat) : Int) = p' at pl pu pj seen ⊢
        have er4 := s4 _ _ er1
        have bp : Bd 70 p' := by
          unfold Bd
          omega
        have nx : (p' * q = p * q' ∨ Int.gcd p' q' ≠ 1) → ∃ y8' : Option V, [some (V.ref r), some (.int M), some (.ref L), some (.bl cl), some vl, some (.ref ru), some (.int q'), some (.int f1), some (.int p'), none, none, none, none, none] = [some (V.ref r), some (.int M), some (.ref L), some (.bl cl), some vl, some (.ref ru), some (.int q'), some (.int f1), y8', none, none, none, none, none] ∧ Same H1 H4 ∧ ∀ x, f1 ≤ x → x < f1 + ((j + 1 : Nat) : Int) → x * q = p * q' ∨ Int.gcd x q' ≠ 1 := fun hx => ⟨_, rfl, s4, fun x h1 h2 => by
          rcases pj x h2 with h3 | rfl
          · exact seen x h1 h3
          · exact hx⟩
        refine ⟨_, rfl, _, rfl, r, _, _, _, rfl, rfl, SqT.of er4, atI_nat (j := 1) rfl, _, _, rfl, rfl, mulW bp R.bq (by omega) (by omega) (by omega), _, rfl, r, _, _, _, rfl, rfl, SqT.of er4, atI_nat (j := 0) rfl, _, rfl, _, _, rfl, rfl, mulW R.bp bq (by omega) (by omega) (by omega), rfl, _, rfl, ite2 (fun c1 => ?_) (fun c1 => nx (.inl ?_))⟩
        · refine ⟨_, rfl, _, rfl, p', q', rfl, by omega, by omega, rfl, _, rfl, ?_⟩
          by_cases gc : Int.gcd p' q' = 1
          · rw [show decide (V.int (Int.gcd p' q' : Int) = V.int 1) = true from decide_eq_true (by rw [gc]; rfl)]
            refine iteT (KN (fun z => ?_) _ (s1.trans s4))
            have C := (key.mpr z).2.1
            rcases C q' q0 qM p' (by omega) (by omega) (fun z e => by cases e; exact (top p').mp (by omega)) with h1 | h1
            · have c1 : (!decide (V.int (p' * q) = V.int (p * q'))) = true := c1
              rw [h1] at c1
              simp at c1
            · exact h1 gc
          · rw [show decide (V.int (Int.gcd p' q' : Int) = V.int 1) = false from decide_eq_false (fun z => gc (by
              have := V.int.inj z
              omega))]
            exact nx (.inr gc)
        · refine Classical.byContradiction fun z => c1 ?_
          rw [decide_eq_false (fun e => z (V.int.inj e))]
          rfl
      · rintro σ H4 ⟨y8, rfl, s4, seen⟩
        refine ⟨_, _, _, rfl, s4, fun x h1 h2 p' h3 h4 h5 => ?_⟩
        rcases qi x h2 with h6 | rfl
        · exact cand x h1 h6 p' h3 h4 h5
        · rw [← ef] at h3 h4
          have h7 := w4 p' ((top p').mpr (h5 zu rfl)) h4
          exact seen p' h3 (by omega)
    rintro σ H2 ⟨y6, y7, y8, rfl, s2, cand⟩
    have C : CandL lo (some zu) p q M := fun q' h1 h2 => cand q' h1 (by omega)
    have er2 := s2 _ _ er1
    have eL2 := s2 _ _ eL1
    have oL2 := oL1.same s2
    -- the phases from below
    refine ⟨_, rfl, L, rfl, ⟨_, SqL.of eL2⟩, fun D1 n1 => ?_⟩
    refine lc_list (K := K) (a := L) (xs := xs) (fun i H' => Same H2 H' ∧ H' D1 = some (.lst ((lowB p q (ds.take i)).map V.int))) ⟨sm_upd n1, upd_same⟩ ?_ ?_ ?_
    · rintro i H' _ ⟨s', _⟩
      exact SqL.of (s' _ _ eL2)
    · rintro i v H' hv ⟨s', e'⟩
      obtain ⟨e, d, rfl, ee, hd⟩ := oL2.at hv
      have bb := bd d (List.mem_of_getElem? hd)
      refine ⟨e, _, rfl, SqT.of (s' _ _ ee), rfl, _, _, rfl, _, _, rfl, _, _, rfl, rfl, rfl, ?_⟩
      refine ⟨_, rfl, rfl, _, rfl, ?_⟩
      rw [w_lo]
      have tk : ds.take (i + 1) = ds.take i ++ [d] := by
        rw [List.take_add_one, hd]
        rfl
      cases hb : d.lo with
      | false =>
        refine iteF ⟨s', ?_⟩
        rw [tk]
        unfold lowB
        rw [List.filter_append, List.filter_cons_of_neg (by rw [hb]; exact Bool.false_ne_true), List.filter_nil, List.append_nil]
        exact e'
      | true =>
        refine iteT ⟨_, rfl, _, rfl, r, _, _, _, rfl, rfl, SqT.of (s' _ _ er2), atI_nat (j := 1) rfl, _, _, rfl, rfl, mulW bb.2 R.bq k0 k0 (by omega), ?_⟩
        refine ⟨_, rfl, r, _, _, _, rfl, rfl, SqT.of (s' _ _ er2), atI_nat (j := 0) rfl, _, rfl, _, _, rfl, rfl, mulW R.bp bb.1 k0 k0 (by omega), _, _, rfl, rfl, _, e', ?_, ?_, ?_⟩
        · unfold lowB
          rw [List.length_map, List.length_map]
          have := List.length_filter_le (fun d : Rec => d.lo) (ds.take i)
          rw [List.length_take] at this
          exact small1000 (by omega)
        · intro b o eb
          rw [upd_ne (ne_of_none eb n1)]
          exact s' _ _ eb
        · rw [upd_same, tk]
          unfold lowB
          rw [List.filter_append, List.filter_cons_of_pos hb, List.filter_nil, List.map_append, List.map_append]
          rfl
    rintro H3 ⟨s3, e3⟩
    have er3 := s3 _ _ er2
    have eL3 := s3 _ _ eL2
    have oL3 := oL2.same s3
    -- from above
    refine ⟨_, rfl, L, rfl, ⟨_, SqL.of eL3⟩, fun D2 n2 => ?_⟩
    refine lc_list (K := K) (a := L) (xs := xs) (fun i H' => Same H3 H' ∧ H' D2 = some (.lst ((uppB p q (ds.take i)).map V.int))) ⟨sm_upd n2, upd_same⟩ ?_ ?_ ?_
    · rintro i H' _ ⟨s', _⟩
      exact SqL.of (s' _ _ eL3)
    · rintro i v H' hv ⟨s', e'⟩
      obtain ⟨e, d, rfl, ee, hd⟩ := oL3.at hv
      have bb := bd d (List.mem_of_getElem? hd)
      refine ⟨e, _, rfl, SqT.of (s' _ _ ee), rfl, _, _, rfl, _, _, rfl, _, _, rfl, rfl, rfl, ?_⟩
      refine ⟨_, rfl, rfl, _, rfl, ?_⟩
      rw [w_hi]
      have tk : ds.take (i + 1) = ds.take i ++ [d] := by
        rw [List.take_add_one, hd]
        rfl
      cases hb : d.lo with
      | true =>
        refine iteF ⟨s', ?_⟩
        rw [tk]
        unfold uppB
        rw [List.filter_append, List.filter_cons_of_neg (by rw [hb]; decide), List.filter_nil, List.append_nil]
        exact e'
      | false =>
        have bn : Bd (k + 1) (d.n + 1) := Bd.add bb.2 (Bd.small 1 (by decide) k0)
        refine iteT ⟨_, rfl, _, _, rfl, rfl, _, rfl, r, _, _, _, rfl, rfl, SqT.of (s' _ _ er3), atI_nat (j := 1) rfl, _, _, rfl, rfl, mulW bn R.bq (by omega) k0 (by omega), ?_⟩
        refine ⟨_, rfl, r, _, _, _, rfl, rfl, SqT.of (s' _ _ er3), atI_nat (j := 0) rfl, _, rfl, _, _, rfl, rfl, mulW R.bp bb.1 k0 k0 (by omega), _, _, rfl, rfl, _, e', ?_, ?_, ?_⟩
        · unfold uppB
          rw [List.length_map, List.length_map]
          have := List.length_filter_le (fun d : Rec => !d.lo) (ds.take i)
          rw [List.length_take] at this
          exact small1000 (by omega)
        · intro b o eb
          rw [upd_ne (ne_of_none eb n2)]
          exact s' _ _ eb
        · rw [upd_same, tk]
          unfold uppB
          rw [List.filter_append, List.filter_cons_of_pos (by rw [hb]; rfl), List.filter_nil, List.map_append, List.map_append]
          rfl
    rintro H4 ⟨s4, e4⟩
    rw [List.take_of_length_le (by omega)] at e3 e4
    have eA := s4 _ _ e3
    have s14 := ((s1.trans s2).trans s3).trans s4
    have hA : am = some c ↔ c ∈ lowB p q ds ∧ ∀ y ∈ lowB p q ds, y ≤ c := mx_low ha
    have hB : bm = some c ↔ c + 1 ∈ uppB p q ds ∧ ∀ y ∈ uppB p q ds, c + 1 ≤ y := mn_upp hb
    have key2 : (am = some c ∧ bm = some c) ↔ ArePins p q c M ds := ⟨fun h => key.mp ⟨fun z => (nomatch z), C, h.1, h.2⟩, fun h => (key.mpr h).2.2⟩
    rw [hA, hB] at key2
    clear key hA hB hl hu own ht hf cand C
    generalize hla : lowB p q ds = la at key2 eA
    generalize hua : uppB p q ds = ua at key2 e4
    refine ⟨_, rfl, Nat.zero_le _, fun W1 m1 => ?_⟩
    have z1 := sm_upd (o := .lst []) m1
    refine ⟨D1, W1, _, _, rfl, rfl, SqL.of (z1 _ _ eA), SqL.of upd_same, ?_⟩
    by_cases la0 : la = []
    · subst la0
      exact .inr ⟨rfl, fun z hz => (nomatch hz), false, rfl, iteF (KN (fun h => by
        have := (key2.mpr h).1.1
        cases this) _ (s14.trans z1))⟩
    refine .inl ⟨by simpa using la0, true, rfl, iteT ?_⟩
    refine ⟨_, rfl, Nat.zero_le _, fun W2 m2 => ?_⟩
    have z2 := sm_upd (o := .lst []) m2
    have z12 := z1.trans z2
    have s16 := s14.trans z12
    refine ⟨D2, W2, _, _, rfl, rfl, SqL.of (z12 _ _ e4), SqL.of upd_same, ?_⟩
    by_cases ua0 : ua = []
    · subst ua0
      exact .inr ⟨rfl, fun z hz => (nomatch hz), false, rfl, iteF (KN (fun h => by
        have := (key2.mpr h).2.1
        cases this) _ s16)⟩
    refine .inl ⟨by simpa using ua0, true, rfl, iteT ?_⟩
    refine ⟨_, rfl, D1, la, rfl, SqL.of (z12 _ _ eA), List.length_pos_iff.mpr la0, fun mx hx hmx => ?_⟩
    refine ⟨_, rfl, r, _, _, _, rfl, rfl, SqT.of (s16 _ _ er), atI_nat (j := 2) rfl, rfl, _, rfl, ?_⟩
    by_cases c1 : mx = c
    · subst c1
      refine iteD rfl ?_
      refine ⟨_, rfl, D2, ua, rfl, SqL.of (z12 _ _ e4), List.length_pos_iff.mpr ua0, fun mn hn hmn => ?_⟩
      refine ⟨_, rfl, r, _, _, _, rfl, rfl, SqT.of (s16 _ _ er), atI_nat (j := 2) rfl, _, _, rfl, rfl, rfl, ?_⟩
      refine kk _ (decide (V.int mn = V.int (mx + 1))) s16 ⟨fun z => ?_, fun z => ?_⟩
      · have z : mn = mx + 1 := V.int.inj (of_decide_eq_true z)
        subst z
        exact key2.mp ⟨⟨hx, hmx⟩, hn, hmn⟩
      · have h := (key2.mpr z).2
        have h1 := hmn _ h.1
        have h2 := h.2 _ hn
        exact decide_eq_true (by rw [show mn = mx + 1 by omega])
    · refine iteDn (fun z => c1 (V.int.inj z)) (KN (fun h => c1 ?_) _ s16)
      have h := (key2.mpr h).1
      have h1 := hmx _ h.1
      have h2 := h.2 _ hx
      omega
end
end Lf
namespace Lf
open PySem PySem.Spec PyProof.Rows L2
/-! ### _law_are_records at any value (k50) -/
def recsB : PyData → Bool
  | .list ds => decide (ds.length ≤ 3) && ds.all recB
  | .tuple ds => decide (ds.length ≤ 3) && ds.all recB
  | _ => false
def isS : PyData → Bool
  | .str _ => true
  | _ => false
theorem kit_strD (d : PyData) : kitB (tyN d) "str" = some (isS d) := by
  cases d
  · show kitB "NoneType" "str" = some false; decide +kernel
  · show kitB "bool" "str" = some false; decide +kernel
  · show kitB "int" "str" = some false; decide +kernel
  · show kitB "str" "str" = some true; decide +kernel
  · show kitB "list" "str" = some false; decide +kernel
  · show kitB "tuple" "str" = some false; decide +kernel
  · show kitB "dict" "str" = some false; decide +kernel
theorem dvaAt {H : Hp} : ∀ {vs : List V} {ds : List PyData}, DvAll H vs ds → ∀ {i : Nat} {v : V}, vs[i]? = some v → ∃ d, ds[i]? = some d ∧ Dv H v d
  | _, _, .nil, i, v, e => by cases e
  | _, _, .cons h hs, 0, v, e => by
    cases e
    exact ⟨_, rfl, h⟩
  | _, _, .cons h hs, i + 1, v, e => dvaAt hs (i := i) e
theorem seq_of {H : Hp} {v : V} {d : PyData} (dv : Dv H v d) (h : isLT d = true) : ∃ (L : Addr) (kb : Bool) (xs : List V) (ds : List PyData), v = .ref L ∧ H L = some (sqO kb xs) ∧ DvAll H xs ds ∧ recsB d = (decide (ds.length ≤ 3) && ds.all recB) := by
  cases dv with
  | lst _ e hs => exact ⟨_, true, _, _, rfl, e, hs, rfl⟩
  | tup e hs => exact ⟨_, false, _, _, rfl, e, hs, rfl⟩
  | non => cases h
  | bl => cases h
  | int => cases h
  | str => cases h
  | dk0 => cases h
  | dk1 => cases h
theorem words_str {x : Str} : words.any (fun z => PyData.eqv z (.str x)) = inV (.str x) [.str "at least", .str "at most"] := by
  have e : words.any (fun z => PyData.eqv z (.str x)) = ((("at least" : Str) == x) || ((("at most" : Str) == x) || false)) := by simp only [words, List.any_cons, List.any_nil, PyData.eqv]
  rw [e]
  rfl
theorem words_no {d : PyData} (h : isS d = false) : words.any (fun z => PyData.eqv z d) = false := by
  cases d with
  | str x => cases h
  | none => simp only [words, List.any_cons, List.any_nil, PyData.eqv, Bool.or_false]
  | bool b => simp only [words, List.any_cons, List.any_nil, PyData.eqv, Bool.or_false]
  | int i => simp only [words, List.any_cons, List.any_nil, PyData.eqv, Bool.or_false]
  | list xs => simp only [words, List.any_cons, List.any_nil, PyData.eqv, Bool.or_false]
  | tuple xs => simp only [words, List.any_cons, List.any_nil, PyData.eqv, Bool.or_false]
  | dict xs => simp only [words, List.any_cons, List.any_nil, PyData.eqv, Bool.or_false]
section
variable {P : Program} {w : World} {K : PySem.W.Frag} {mg : Str → Option Value} {base : Heap}
def spAreRD : Sp := fun vs H Q _ => ∃ (v : V) (d : PyData), vs = [v] ∧ Dv H v d ∧ ∀ H', Same H H' → Q (.bl (recsB d)) H'
abbrev s_l_are_records : Stmt := topS 56
abbrev N_l_are_records : List Str := ["_law_value", "_law_one", "_law_part"]
abbrev P_l_are_records : List Str := ["_law_value"]
theorem sc_l_are_records : FnScope N_l_are_records P_l_are_records (defScope s_l_are_records) := ⟨rfl, rfl, rfl, by decide +kernel, rfl, by decide +kernel, by decide +kernel⟩
theorem ok_l_are_records (D : Df K mg "_law_are_records" s_l_are_records P_l_are_records) (B : Bi mg) : C8.Cal P w K mg base 1 "_law_are_records" spAreRD [] := by
  refine cal_of D sc_l_are_records (fun vs H Q E h => ?_) (fun f cdv A outer s H vs Q E hr h => ?_)
  · obtain ⟨v, d, rfl, _⟩ := h
    rfl
  · obtain ⟨v, d, rfl, dv, kk⟩ := h
    refine ⟨_, (pss_cons (ps_if (PW.pt (pw_or (pt_not (pt_val (pe_callB (call_isiT) (by rfl) B.isinstance_ bt_isinstance (pa_cons (pv 0) (pa_cons (pe_tup (pa_cons (pe_bltn (v := .ty "list") (by rfl) B.list_ bt_list rfl) (pa_cons (pe_bltn (v := .ty "tuple") (by rfl) B.tuple_ bt_tuple rfl) pa_nil))) pa_nil))))) (pw_or1 (pt_cmpR op_gt (pe_callB (call_len_seq) (by rfl) B.len_ bt_len (pa_cons (pv 0) pa_nil)) pe_int (nomark _)))))
      (pss_one (ps_ret pe_bl))
      pss_nil)
    (pss_cons (ps_for PassesOwn.never rfl (pi_seq (pv 0)) (pg_name (i := 1) sc_l_are_records.nd rfl (Or.inl rfl))
      (pss_cons (ps_if (PW.pt (pw_or (pt_not (pt_val (pe_callB (call_isi) (by rfl) B.isinstance_ bt_isinstance (pa_cons (pv 1) (pa_cons (pe_bltn (v := .ty "tuple") (by rfl) B.tuple_ bt_tuple rfl) pa_nil))))) (pw_or (pt_cmpR op_ne (pe_callB (call_len_seq) (by rfl) B.len_ bt_len (pa_cons (pv 1) pa_nil)) pe_int (nomark _)) (pw_or1 (pt_not (pt_val (pe_callB (call_isi) (by rfl) B.isinstance_ bt_isinstance (pa_cons (pe_ix (r := rIxT K) ix_tup (pv 1) pe_int (fun _ _ => rfl)) (pa_cons (pe_bltn (v := .ty "str") (by rfl) B.str_ bt_str rfl) pa_nil)))))))))
      (pss_one (ps_ret pe_bl))
      pss_nil)
    (pss_cons (ps_if (pt_cmpR (show OpR _ (compareOp .NotIn) (rIn K true) from op_notIn_seq) (pe_ix (r := rIxT K) ix_tup (pv 1) pe_int (fun _ _ => rfl)) (pe_tup (pa_cons pe_str (pa_cons pe_str pa_nil))) rfl)
      (pss_one (ps_ret pe_bl))
      pss_nil)
    (pss_one (ps_if (pt_cmpR (op_neS hr.units) (pe_lc (own := [("_law_part", 2)]) (g := (gName 2)) (by rfl) sc_l_are_records.nd (pi_tup (pe_slice sl_tup (pv 1) (po_some pe_int) po_none)) (blkOk_by (own := [("_law_part", 2)]) (N := N_l_are_records) (sc := defScope s_l_are_records) (by decide +kernel)) (fun _ _ _ _ _ => (pg_name (i := 2) sc_l_are_records.nd rfl (Or.inl rfl))) (fun _ _ _ _ _ => (pts_one (PW.pt (pw_or (pt_not (pt_val (pe_callB ((show CallR _ _ (rIsi K) from call_isi)) (by rfl) B.isinstance_ bt_isinstance (pa_cons (pv 2) (pa_cons (pe_bltn (v := .ty "int") (by rfl) B.int_ bt_int rfl) pa_nil))))) (pw_or1 (pt_val (pe_callB ((show CallR _ _ (rIsi K) from call_isi)) (by rfl) B.isinstance_ bt_isinstance (pa_cons (pv 2) (pa_cons (pe_bltn (v := .ty "bool") (by rfl) B.bool_ bt_bool rfl) pa_nil))))))))) (fun _ _ _ _ _ => (pv 2))) (pe_lst pa_nil) (nomark _))
      (pss_one (ps_ret pe_bl))
      pss_nil)))))
    (pss_one (ps_ret pe_bl)))), ?_⟩
    refine ⟨_, rfl, len10 (by simp), fun tp ntp => ?_⟩
    have s1 := sm_upd (o := .tup [.ty "list", .ty "tuple"]) ntp
    refine ⟨_, tp, _, _, _, isLT d, rfl, upd_same, .cons (.ty "list") (.cons (.ty "tuple") .nil), (Dv.kp (Fr.same s1).kp _ _ dv).ty, kit_ltD d, isLT d, rfl, ?_⟩
    cases hlt : isLT d with
    | false =>
      have e : recsB d = false := by
        cases d <;> first | rfl | cases hlt
      rw [e] at kk
      exact iteT (iteT (kk _ s1))
    | true =>
      obtain ⟨L, kb, xs, ds, rfl, eL, hs, er⟩ := seq_of dv hlt
      rw [er] at kk
      have lx := dva_length hs
      generalize upd H tp (.tup [.ty "list", .ty "tuple"]) = H1 at s1 ⊢
      refine iteF ⟨_, rfl, L, _, rfl, (SqB.of (s1 _ _ eL)).or, _, _, rfl, rfl, _, rfl, ite2 (fun c1 => ?_) (fun c1 => ?_)⟩
      · have c1 : 3 < (xs.length : Int) := of_decide_eq_true c1
        rw [decide_eq_false (by omega), Bool.false_and] at kk
        exact kk _ s1
      · have c1 : ¬ 3 < (xs.length : Int) := fun z => c1 (decide_eq_true z)
        rw [decide_eq_true (by omega), Bool.true_and] at kk
        refine ⟨_, rfl, L, kb, xs, rfl, SqB.of (s1 _ _ eL), ?_⟩
        refine for_it (walk_seq (K := K) (b := kb) (a := L) (xs := xs)) (fun i σ H' => ∃ y1 : Option V, σ = [some (.ref L), y1, none] ∧ Same H H' ∧ (ds.take i).all recB = true) ⟨_, rfl, s1, rfl⟩ ?_ ?_ ?_
        · rintro i σ H' _ ⟨_, _, s', _⟩
          exact SqB.of (s' _ _ eL)
        · rintro i x σ H2 H3 hi ⟨y1, rfl, s2, al⟩ ⟨rfl, hx⟩
          obtain ⟨z, hz, dz⟩ := dvaAt hs hx
          have dz2 := Dv.kp (Fr.same s2).kp _ _ dz
          have no : recB z = false → ∀ H', Same H H' → Q (.bl false) H' := fun h H' s' => by
            have e : ds.all recB = false := by
              cases g : ds.all recB with
              | false => rfl
              | true =>
                rw [List.all_eq_true.mp g z (List.mem_of_getElem? hz)] at h
                cases h
            rw [e] at kk
            exact kk _ s'
          have nx : recB z = true → (ds.take (i + 1)).all recB = true := fun h => by
            rw [List.take_add_one, hz, List.all_append, al]
            show (true && [z].all recB) = true
            simp [h]
          refine ⟨_, rfl, _, _, _, _, isT' z, rfl, .ty "tuple", dz2.ty, kit_ty (kit_tup' z), isT' z, rfl, ?_⟩
          cases ht : isT' z with
          | false => exact iteT (iteT (no (by cases z <;> first | rfl | cases ht) _ s2))
          | true =>
            cases dz2 with
            | tup er hs2 =>
              rename_i r vs es
              have hl := dva_length hs2
              refine iteF ⟨_, rfl, r, _, rfl, .inr (SqT.of er), rfl, _, rfl, ?_⟩
              by_cases h3 : vs.length = 3
              · match vs, es, hs2, h3, hl with
                | [v0, v1, v2], [d0, d1, d2], hs2, _, _ =>
                  cases hs2 with
                  | cons g0 hs2 =>
                    cases hs2 with
                    | cons g1 hs2 =>
                      cases hs2 with
                      | cons g2 _ =>
                        refine iteNS rfl ?_
                        refine ⟨_, rfl, r, _, _, _, rfl, rfl, SqT.of er, atI_nat (j := 0) rfl, _, _, _, _, isS d0, rfl, .ty "str", g0.ty, kit_ty (kit_strD d0), isS d0, rfl, ?_⟩
                        cases hs0 : isS d0 with
                        | false => exact iteT (no (by
                            show (words.any (fun z => PyData.eqv z d0) && (isI d1 && isI d2)) = false
                            rw [words_no hs0, Bool.false_and]) _ s2)
                        | true =>
                          cases g0 with
                          | str x =>
                            refine iteF ?_
                            refine ⟨_, rfl, r, _, _, _, rfl, rfl, SqT.of er, atI_nat (j := 0) rfl, len10 (by simp), fun p np => ?_⟩
                            have zp := sm_upd (o := .tup [.str "at least", .str "at most"]) np
                            have er3 := zp _ _ er
                            have g1 := Dv.kp (Fr.same zp).kp _ _ g1
                            have g2 := Dv.kp (Fr.same zp).kp _ _ g2
                            refine ⟨p, _, rfl, .inr (SqT.of upd_same), rfl, rfl, _, rfl, ?_⟩
                            have s3 := s2.trans zp
                            generalize upd H3 p (.tup [.str "at least", .str "at most"]) = H4 at s3 er3 g1 g2 ⊢
                            show if (!inV (.str x) [.str "at least", .str "at most"]) = true then _ else _
                            rw [← words_str]
                            have rz : recB (.tuple [.str x, d1, d2]) = (words.any (fun z => PyData.eqv z (.str x)) && (isI d1 && isI d2)) := rfl
                            rw [rz] at no nx
                            cases cw : words.any (fun z => PyData.eqv z (.str x)) with
                            | false => exact iteT (no (by rw [cw, Bool.false_and]) _ s3)
                            | true =>
                              rw [cw, Bool.true_and] at no nx
                              refine iteF ?_
                              refine ⟨_, rfl, 1, rfl, r, _, rfl, SqT.of er3, (fun z => absurd z.1 (show ¬ HT.sIx 3 0 (some 1) = 0 by decide)), fun t nt => ?_⟩
                              have zt := sm_upd (o := .tup [v1, v2]) nt
                              have et : upd H4 t (.tup [v1, v2]) t = some (.tup [v1, v2]) := upd_same
                              have s4 := s3.trans zt
                              have g1 := Dv.kp (Fr.same zt).kp _ _ g1
                              have g2 := Dv.kp (Fr.same zt).kp _ _ g2
                              refine ⟨t, rfl, ⟨_, SqT.of et⟩, fun Y nY => ?_⟩
                              have nY : upd H4 t (.tup [v1, v2]) Y = none := nY
                              rw [show cutV [V.str x, v1, v2] (some 1) none = [v1, v2] from rfl]
                              generalize upd H4 t (.tup [v1, v2]) = H5 at s4 et nY g1 g2 ⊢
                              refine lc_it (walk_tup (K := K) (a := t) (xs := [v1, v2])) (fun i H' => ∃ ys, H' Y = some (.lst ys) ∧ Same H5 H' ∧ ys.length ≤ i ∧ (ys = [] ↔ ([d1, d2].take i).all isI = true)) ⟨[], upd_same, sm_upd nY, Nat.le_refl _, ⟨fun _ => rfl, fun _ => rfl⟩⟩ ?_ ?_ ?_
                              · rintro i H7 _ ⟨_, _, s7, _⟩
                                exact SqT.of (s7 _ _ et)
                              · rintro i x7 H6 H7 hi7 ⟨ys, eY, s7, ly, hy⟩ ⟨rfl, hx7⟩
                                obtain ⟨e, he, ge⟩ := dvaAt (DvAll.cons g1 (DvAll.cons g2 DvAll.nil)) hx7
                                have ge := Dv.kp (Fr.same s7).kp _ _ ge
                                have tk : ([d1, d2].take (i + 1)).all isI = (([d1, d2].take i).all isI && isI e) := by
                                  rw [List.take_add_one, he, List.all_append]
                                  show (_ && [e].all isI) = _
                                  simp
                                have out : isI e = false → ∃ acc, H7 Y = some (.lst acc) ∧ acc.length < sizeLine ∧ ∃ ys, upd H7 Y (.lst (acc ++ [x7])) Y = some (.lst ys) ∧ Same H5 (upd H7 Y (.lst (acc ++ [x7]))) ∧ ys.length ≤ i + 1 ∧ (ys = [] ↔ ([d1, d2].take (i + 1)).all isI = true) := fun h => by
                                  refine ⟨ys, eY, small1000 (by have : i < 2 := hi7; omega), _, upd_same, fun b o eb => ?_, by rw [List.length_append]; show ys.length + 1 ≤ _; omega, ?_⟩
                                  · rw [upd_ne (ne_of_none eb nY)]
                                    exact s7 _ _ eb
                                  · rw [tk, h, Bool.and_false]
                                    exact ⟨fun z => by simp at z, fun z => (nomatch z)⟩
                                have stay : isI e = true → ∃ ys, H7 Y = some (.lst ys) ∧ Same H5 H7 ∧ ys.length ≤ i + 1 ∧ (ys = [] ↔ ([d1, d2].take (i + 1)).all isI = true) := fun h => ⟨ys, eY, s7, by omega, by rw [tk, h, Bool.and_true]; exact hy⟩
                                refine ⟨rfl, ⟨_, rfl, _, _, _, _, isIB e, rfl, .ty "int", ge.ty, kit_ty (kit_int e), isIB e, rfl, ?_⟩⟩
                                cases h1 : isIB e with
                                | false => exact iteT ⟨_, rfl, out (by cases e <;> first | rfl | cases h1)⟩
                                | true =>
                                  refine iteF ⟨_, rfl, _, _, _, _, isB e, rfl, .ty "bool", ge.ty, kit_ty (kit_bool e), isB e, rfl, ?_⟩
                                  cases h2 : isB e with
                                  | true => exact iteT ⟨_, rfl, out (by cases e <;> first | rfl | cases h2)⟩
                                  | false => exact iteF (stay (by cases e <;> first | rfl | (cases h1; done) | (cases h2; done)))
                              rintro H7 ⟨ys, eY, s7, ly, hy⟩
                              have hy : ys = [] ↔ (isI d1 && isI d2) = true := by
                                rw [hy]
                                show ([d1, d2].all isI) = true ↔ _
                                simp
                              refine ⟨Nat.zero_le _, fun W nW => ?_⟩
                              have zW := sm_upd (o := .lst []) nW
                              have s8 := (s4.trans s7).trans zW
                              refine ⟨Y, W, _, _, rfl, rfl, SqL.of (zW _ _ eY), SqL.of upd_same, ?_⟩
                              by_cases y0 : ys = []
                              · subst y0
                                exact .inr ⟨rfl, fun z hz => (nomatch hz), false, rfl, iteF ⟨_, rfl, s8, nx (hy.mp rfl)⟩⟩
                              · refine .inl ⟨by simpa using y0, true, rfl, iteT (no ?_ _ s8)⟩
                                cases g : (isI d1 && isI d2) with
                                | false => rfl
                                | true => exact absurd (hy.mpr g) y0
                          | non => cases hs0
                          | bl => cases hs0
                          | int => cases hs0
                          | lst => cases hs0
                          | tup => cases hs0
                          | dk0 => cases hs0
                          | dk1 => cases hs0
              · exact iteTs (len_ne3 h3) (no (rec_three (by omega)) _ s2)
            | non => cases ht
            | bl => cases ht
            | int => cases ht
            | str => cases ht
            | lst => cases ht
            | dk0 => cases ht
            | dk1 => cases ht
        · rintro σ H2 ⟨y1, rfl, s2, al⟩
          rw [List.take_of_length_le (by omega)] at al
          rw [al] at kk
          exact kk _ s2
end
end Lf
namespace Lf
open PySem PySem.Spec PyProof.Rows L2
/-! ### _law_are_pins at any value (k50) -/
def recOf : PyData → Rec
  | .tuple [.str x, .int t, .int n] => ⟨("at least" : Str) == x, t, n⟩
  | _ => rD0
where rD0 : Rec := ⟨true, 0, 0⟩
def recsOf : PyData → List Rec
  | .list ds => ds.map recOf
  | .tuple ds => ds.map recOf
  | _ => []
theorem rec_is {H : Hp} {v : V} {z : PyData} (dv : Dv H v z) (h : recB z = true) : ∃ e, v = .ref e ∧ H e = some (rcO (recOf z)) := by
  cases dv with
  | non => cases h
  | bl => cases h
  | int => cases h
  | str => cases h
  | lst => cases h
  | dk0 => cases h
  | dk1 => cases h
  | tup er hs =>
    rename_i r vs es
    by_cases h3 : es.length = 3
    · match vs, es, hs, h3 with
      | _, [d0, d1, d2], .cons g0 (.cons g1 (.cons g2 .nil)), _ =>
        have h : (words.any (fun z => PyData.eqv z d0) && (isI d1 && isI d2)) = true := h
        rw [Bool.and_eq_true, Bool.and_eq_true] at h
        obtain ⟨w0, i1, i2⟩ := h
        cases g1 with
        | int t =>
          cases g2 with
          | int n =>
            cases g0 with
            | str x =>
              refine ⟨r, rfl, ?_⟩
              have e : words.any (fun z => PyData.eqv z (.str x)) = ((("at least" : Str) == x) || ((("at most" : Str) == x) || false)) := by simp only [words, List.any_cons, List.any_nil, PyData.eqv]
              rw [e, Bool.or_false] at w0
              have key : wd (("at least" : Str) == x) = x := by
                cases hx : (("at least" : Str) == x) with
                | true => exact (beq_iff_eq.mp hx)
                | false =>
                  rw [hx, Bool.false_or] at w0
                  exact (beq_iff_eq.mp w0)
              show H r = some (.tup [.str (wd (("at least" : Str) == x)), .int t, .int n])
              rw [key]
              exact er
            | non => rw [words_no rfl] at w0; cases w0
            | bl => rw [words_no rfl] at w0; cases w0
            | int => rw [words_no rfl] at w0; cases w0
            | lst => rw [words_no rfl] at w0; cases w0
            | tup => rw [words_no rfl] at w0; cases w0
            | dk0 => rw [words_no rfl] at w0; cases w0
            | dk1 => rw [words_no rfl] at w0; cases w0
          | non => cases i2
          | bl => cases i2
          | str => cases i2
          | lst => cases i2
          | tup => cases i2
          | dk0 => cases i2
          | dk1 => cases i2
        | non => cases i1
        | bl => cases i1
        | str => cases i1
        | lst => cases i1
        | tup => cases i1
        | dk0 => cases i1
        | dk1 => cases i1
    · rw [rec_three h3] at h
      cases h
theorem obs_of {H : Hp} : ∀ {xs : List V} {ds : List PyData}, DvAll H xs ds → ds.all recB = true → Obs rcO H xs (ds.map recOf)
  | _, _, .nil, _ => .nil
  | _, d :: ds, .cons h hs, a => by
    rw [List.all_cons, Bool.and_eq_true] at a
    obtain ⟨e, rfl, he⟩ := rec_is h a.1
    exact .cons he (obs_of hs a.2)
/-- what such data is, where it is a list of records -/
theorem seq_recs {H : Hp} {v : V} {d : PyData} (dv : Dv H v d) (h : recsB d = true) : ∃ (L : Addr) (kb : Bool) (xs : List V), v = .ref L ∧ H L = some (sqO kb xs) ∧ Obs rcO H xs (recsOf d) ∧ (recsOf d).length ≤ 3 := by
  cases dv with
  | lst _ e hs =>
    have h : (decide _ && _) = true := h
    rw [Bool.and_eq_true] at h
    refine ⟨_, true, _, rfl, e, obs_of hs h.2, ?_⟩
    show (List.map recOf _).length ≤ 3
    rw [List.length_map]
    exact of_decide_eq_true h.1
  | tup e hs =>
    have h : (decide _ && _) = true := h
    rw [Bool.and_eq_true] at h
    refine ⟨_, false, _, rfl, e, obs_of hs h.2, ?_⟩
    show (List.map recOf _).length ≤ 3
    rw [List.length_map]
    exact of_decide_eq_true h.1
  | non => cases h
  | bl => cases h
  | int => cases h
  | str => cases h
  | dk0 => cases h
  | dk1 => cases h
section
variable {P : Program} {w : World} {K : PySem.W.Frag} {mg : Str → Option Value} {base : Heap}
def spAreP50 : Sp := fun vs H Q _ => ∃ (r : Addr) (v : V) (d : PyData) (p q c M : Int) (k : Nat), vs = [.ref r, .int M, v] ∧ H r = some (.tup [.int p, .int q, .int c]) ∧ RuleB k p q c ∧ p < 2 ^ 50 ∧ q ≤ M ∧ M ≤ 40 ∧ Dv H v d ∧ RcB k (recsOf d) ∧ 0 < k ∧ k ≤ 3000 ∧
  ∀ H' b, Same H H' → (b = true ↔ (recsB d = true ∧ ArePins p q c M (recsOf d))) → Q (.bl b) H'
abbrev s_l_are_pins : Stmt := topS 57
abbrev N_l_are_pins : List Str := ["_law_rule", "_law_most", "_law_value", "_law_one"]
abbrev P_l_are_pins : List Str := ["_law_rule", "_law_most", "_law_value"]
theorem sc_l_are_pins : FnScope N_l_are_pins P_l_are_pins (defScope s_l_are_pins) := ⟨rfl, rfl, rfl, by decide +kernel, rfl, by decide +kernel, by decide +kernel⟩
theorem ok_l_are_pins (D : Df K mg "_law_are_pins" s_l_are_pins P_l_are_pins) (B : Bi mg) (c_l_are_records : C8.Cal P w K mg base 1 "_law_are_records" spAreRD []) (c_l_fits : C8.Cal P w K mg base 2 "_law_fits" spFit28 []) (c_l_only : C8.Cal P w K mg base 3 "_law_only" spOnlyB []) : C8.Cal P w K mg base 4 "_law_are_pins" spAreP50 [] := by
  refine cal_of D sc_l_are_pins (fun vs H Q E h => ?_) (fun f cdv A outer s H vs Q X hr h => ?_)
  · obtain ⟨r, v, d, p, q, c, M, k, rfl, _⟩ := h
    rfl
  · obtain ⟨r, v, d, p, q, c, M, k, rfl, er, R, pb, hqM, hM, dv, bd, k0, k1, kk⟩ := h
    refine ⟨_, (pss_cons (ps_if (PW.pt (pw_or (pt_not (pt_val (C8.pe_c c_l_are_records hr (by decide) (by rfl) (pa_cons (pv 2) pa_nil)))) (pw_or1 (pt_cmpR (op_neS hr.units) (pe_lc (own := [("_law_one", 3)]) (g := (gName 3)) (by rfl) sc_l_are_pins.nd (pi_seq (pv 2)) (blkOk_by (own := [("_law_one", 3)]) (N := N_l_are_pins) (sc := defScope s_l_are_pins) (by decide +kernel)) (fun _ _ _ _ _ => (pg_name (i := 3) sc_l_are_pins.nd rfl (Or.inl rfl))) (fun _ _ _ _ _ => (pts_one (pt_not (pt_val (C8.pe_c c_l_fits hr (by decide) (by rfl) (pa_cons (pv 0) (pa_cons (pv 3) pa_nil))))))) (fun _ _ _ _ _ => (pv 3))) (pe_lst pa_nil) (nomark _)))))
      (pss_one (ps_ret pe_bl))
      pss_nil)
    (pss_one (ps_ret (C8.pe_c c_l_only hr (by decide) (by rfl) (pa_cons (pv 0) (pa_cons (pv 1) (pa_cons (pe_callTy (call_list_of) (by rfl) B.list_ bt_list (pa_cons (pv 2) pa_nil)) pa_nil))))))), ?_⟩
    refine ⟨_, rfl, v, d, rfl, dv, fun H1 s1 => ⟨recsB d, rfl, ?_⟩⟩
    cases hr0 : recsB d with
    | false =>
      refine iteT (kk _ false s1 ⟨fun z => (nomatch z), fun z => ?_⟩)
      rw [hr0] at z
      cases z.1
    | true =>
      obtain ⟨L, kb, xs, rfl, eL, oL, ll⟩ := seq_recs dv hr0
      have lx := oL.len
      have eL1 : H1 L = some (sqO kb xs) := s1 _ _ eL
      have oL1 := oL.same s1
      have er1 := s1 _ _ er
      refine iteF ⟨_, rfl, L, kb, xs, rfl, SqB.of eL1, fun Y nY => ?_⟩
      refine lc_it (walk_seq (K := K) (b := kb) (a := L) (xs := xs)) (fun i H' => ∃ ys, H' Y = some (.lst ys) ∧ Same H1 H' ∧ ys.length ≤ i ∧ (ys = [] ↔ ((recsOf d).take i).all (fitB p q c) = true)) ⟨[], upd_same, sm_upd nY, Nat.le_refl _, ⟨fun _ => rfl, fun _ => rfl⟩⟩ ?_ ?_ ?_
      · rintro i H' _ ⟨_, _, s', _⟩
        exact SqB.of (s' _ _ eL1)
      · rintro i x H' H2 hi ⟨ys, eY, s', ly, hy⟩ ⟨rfl, hx⟩
        obtain ⟨e, z, rfl, ee, hz⟩ := oL1.at hx
        have tk : ((recsOf d).take (i + 1)).all (fitB p q c) = (((recsOf d).take i).all (fitB p q c) && fitB p q c z) := by
          rw [List.take_add_one, hz, List.all_append]
          show (_ && [z].all (fitB p q c)) = _
          simp
        refine ⟨rfl, _, rfl, _, rfl, r, e, p, q, c, z, k, rfl, s' _ _ er1, s' _ _ ee, R, (bd z (List.mem_of_getElem? hz)).1, k0, k1, _, rfl, ?_⟩
        cases hf : fitB p q c z with
        | true => exact iteF ⟨ys, eY, s', by omega, by rw [tk, hf, Bool.and_true]; exact hy⟩
        | false =>
          refine iteT ⟨_, rfl, ys, eY, small1000 (by omega), _, upd_same, fun b o eb => ?_, by rw [List.length_append]; show ys.length + 1 ≤ _; omega, ?_⟩
          · rw [upd_ne (ne_of_none eb nY)]
            exact s' _ _ eb
          · rw [tk, hf, Bool.and_false]
            exact ⟨fun z => by simp at z, fun z => (nomatch z)⟩
      rintro H2 ⟨ys, eY, s2, ly, hy⟩
      rw [List.take_of_length_le (by omega)] at hy
      refine ⟨Nat.zero_le _, fun W nW => ?_⟩
      have zW := sm_upd (o := .lst []) nW
      have s3 := (s1.trans s2).trans zW
      refine ⟨Y, W, _, _, rfl, rfl, SqL.of (zW _ _ eY), SqL.of upd_same, ?_⟩
      by_cases y0 : ys = []
      · subst y0
        have fit := hy.mp rfl
        refine .inr ⟨rfl, fun z hz => (nomatch hz), false, rfl, iteF ?_⟩
        have eL3 : (upd H2 W (.lst [])) L = some (sqO kb xs) := s3 _ _ eL
        refine ⟨_, rfl, _, rfl, _, rfl, L, _, rfl, (SqB.of eL3).or, fun G nG => ?_⟩
        have zG := sm_upd (o := .lst xs) nG
        have s4 := s3.trans zG
        refine ⟨r, G, xs, recsOf d, p, q, c, M, k, rfl, s4 _ _ er, R, pb, hqM, hM, upd_same, oL.same s4, by omega, fit, bd, k0, k1, fun H' b s' hb => ?_⟩
        exact kk H' b (s4.trans s') ⟨fun z => ⟨hr0, hb.mp z⟩, fun z => hb.mpr z.2⟩
      · refine .inl ⟨by simpa using y0, true, rfl, iteT (kk _ false s3 ⟨fun z => (nomatch z), fun z => ?_⟩)⟩
        exact absurd (hy.mpr z.2.1.2.2) y0
end
end Lf
namespace Lf
open PySem PySem.Spec PyProof.Rows L2
/-! ### _law_small_rule -/
section
variable {P : Program} {w : World} {K : PySem.W.Frag} {mg : Str → Option Value} {base : Heap}
def spSml : Sp := fun vs H Q _ => ∃ (a : PA) (n : Nat) (u : Int), vs = [.ref a, .int u] ∧ 1 ≤ u ∧ u ≤ 12 ∧ Pen H a n ∧ n < 2 ^ 38 ∧
  ∀ r H' p q c, RuleB 160 p q c → p < 2 ^ 50 → q ≤ u → H' r = some (.tup [.int p, .int q, .int c]) → Pen H' a (n + 40) → Fr H H' → Q (.ref r) H'
abbrev s_l_small_rule : Stmt := topS 58
abbrev N_l_small_rule : List Str := ["_law_pen_here", "_law_most", "_law_q", "_law_p", "_law_divisor"]
abbrev P_l_small_rule : List Str := ["_law_pen_here", "_law_most"]
theorem sc_l_small_rule : FnScope N_l_small_rule P_l_small_rule (defScope s_l_small_rule) := ⟨rfl, rfl, rfl, by decide +kernel, rfl, by decide +kernel, by decide +kernel⟩
theorem ok_l_small_rule (D : Df K mg "_law_small_rule" s_l_small_rule P_l_small_rule) (B : Bi mg) (c_l_draw : C8.Cal P w K mg base 1 "_law_draw" spDraw []) (c_l_pick : C8.Cal P w K mg base 2 "_law_pick" spPick []) (c_l_far : C8.Cal P w K mg base 2 "_law_far" spFar []) (c_l_gcd : C8.Cal P w K mg base 1 "_law_gcd" spGcd []) : C8.Cal P w K mg base 3 "_law_small_rule" spSml [] := by
  refine cal_of D sc_l_small_rule (fun vs H Q E h => ?_) (fun f cdv A outer s H vs Q E hr h => ?_)
  · obtain ⟨a, n, u, rfl, _⟩ := h
    rfl
  · obtain ⟨a, n, u, rfl, u1, u12, hP, hn, kk⟩ := h
    refine ⟨_, (pss_cons (ps_set (i := 2) sc_l_small_rule.nd rfl (Or.inl rfl) (pe_op op_add pe_int (C8.pe_c c_l_draw hr (by decide) (by rfl) (pa_cons (pv 0) (pa_cons (pv 1) pa_nil)))))
    (pss_cons (ps_set (i := 3) sc_l_small_rule.nd rfl (Or.inl rfl) (C8.pe_c c_l_pick hr (by decide) (by rfl) (pa_cons (pv 0) (pa_cons (pe_lst (pa_cons pe_int (pa_cons (C8.pe_c c_l_draw hr (by decide) (by rfl) (pa_cons (pv 0) (pa_cons (pe_op op_add (pe_op op_mul pe_int (pv 2)) pe_int) pa_nil))) (pa_cons (C8.pe_c c_l_draw hr (by decide) (by rfl) (pa_cons (pv 0) (pa_cons (pv 2) pa_nil))) (pa_cons (pe_op op_add (pe_op op_mulW (pv 2) (C8.pe_c c_l_draw hr (by decide) (by rfl) (pa_cons (pv 0) (pa_cons (pe_op op_pow pe_int pe_int) pa_nil)))) pe_int) pa_nil))))) pa_nil))))
    (pss_cons (ps_set (i := 4) sc_l_small_rule.nd rfl (Or.inl rfl) (C8.pe_c c_l_gcd hr (by decide) (by rfl) (pa_cons (pv 3) (pa_cons (pv 2) pa_nil))))
    (pss_one (ps_ret (pe_tup (pa_cons (pe_op op_fdivW (pv 3) (pv 4)) (pa_cons (pe_op op_fdivW (pv 2) (pv 4)) (pa_cons (C8.pe_c c_l_pick hr (by decide) (by rfl) (pa_cons (pv 0) (pa_cons (pe_lst (pa_cons (pe_op op_sub (C8.pe_c c_l_draw hr (by decide) (by rfl) (pa_cons (pv 0) (pa_cons pe_int pa_nil))) pe_int) (pa_cons (C8.pe_c c_l_far hr (by decide) (by rfl) (pa_cons (pv 0) (pa_cons pe_int pa_nil))) pa_nil))) pa_nil))) pa_nil))))))))), ?_⟩
    refine ⟨_, rfl, _, rfl, a, _, _, rfl, hP, by omega, by omega, Bd.small 20 (by omega) (by decide), fun d H1 d0 d1 hP1 f1 => ?_⟩
    refine ⟨_, _, rfl, rfl, ?_⟩
    show gName 2 (V.int ((1 : Int) + d)) _ _ _
    have q1 : 1 ≤ (1 : Int) + d := by omega
    have qu : (1 : Int) + d ≤ u := by omega
    have q12 : (1 : Int) + d ≤ 12 := by omega
    generalize (1 : Int) + d = q at q1 q12 qu ⊢
    have bq : Bd 10 q := by
      unfold Bd
      omega
    refine ⟨_, rfl, ?_⟩
    refine ⟨_, rfl, _, rfl, _, _, rfl, rfl, .inl ⟨by decide, by decide⟩, _, _, rfl, rfl, a, _, _, rfl, hP1, by omega, by omega, Bd.small 20 (by omega) (by decide), fun e1 H2 e10 e11 hP2 f2 => ?_⟩
    refine ⟨_, rfl, _, rfl, a, _, _, rfl, hP2, by omega, by omega, Bd.small 20 (by omega) (by decide), fun e2 H3 e20 e21 hP3 f3 => ?_⟩
    refine ⟨_, rfl, _, rfl, _, _, rfl, rfl, ⟨by decide, by decide, by decide⟩, a, _, _, rfl, hP3, by omega, by decide, Bd.small 20 (by decide) (by decide), fun e3 H4 e30 e31 hP4 f4 => ?_⟩
    have e31 : e3 < 1000000 := e31
    have b3 : Bd 40 e3 := by
      unfold Bd
      omega
    refine ⟨_, _, rfl, rfl, mulW bq b3 (by decide) (by decide) (by decide), _, _, rfl, rfl, len10 (by simp), fun l nl => ?_⟩
    have zl := sm_upd (o := .lst [.int 0, .int e1, .int e2, .int (q * e3 + 1)]) nl
    refine ⟨a, l, _, _, rfl, hP4.new nl, by omega, upd_same, by simp, by simp, fun x H5 hx hP5 f5 => ?_⟩
    have m3 : q * e3 ≤ 12 * e3 := Int.mul_le_mul_of_nonneg_right q12 e30
    have m30 : 0 ≤ q * e3 := Int.mul_nonneg (by omega) e30
    obtain ⟨p, rfl, p0, pb⟩ : ∃ p, x = V.int p ∧ 0 ≤ p ∧ p < 2 ^ 50 := by
      simp only [List.mem_cons, List.not_mem_nil, or_false] at hx
      rcases hx with rfl | rfl | rfl | rfl
      · exact ⟨_, rfl, by omega, by decide⟩
      · exact ⟨_, rfl, by omega, by omega⟩
      · exact ⟨_, rfl, by omega, by omega⟩
      · exact ⟨_, rfl, by omega, by omega⟩
    have bp : Bd 160 p := by
      unfold Bd
      omega
    have f15 := (((f1.trans f2).trans f3).trans f4).trans ((Fr.same zl).trans f5)
    clear hP hP1 hP2 hP3 hP4 f1 f2 f3 f4 f5 zl nl hx
    refine ⟨_, rfl, _, rfl, p, q, rfl, p0, by omega, ?_⟩
    have Rq := redRt p0 q1 bp (bq.mono (show 10 ≤ 160 by decide))
    have g0 := gcd_pos (p := p) q1
    have hd : CDivW 0 (Int.gcd p q : Int) := ⟨g0, ((bq.between (by omega) (gcd_le (p := p) q1)).mono (show 10 ≤ 9000 by decide)).log (by decide)⟩
    have pl : p / (Int.gcd p q : Int) ≤ p := Int.ediv_le_self _ p0
    have ql : q / (Int.gcd p q : Int) ≤ q := Int.ediv_le_self _ (by omega)
    refine ⟨_, rfl, _, rfl, _, _, rfl, rfl, hd, _, rfl, _, rfl, _, _, rfl, rfl, hd, ?_⟩
    refine ⟨_, rfl, _, rfl, a, _, _, rfl, hP5, by omega, by decide, Bd.small 20 (by decide) (by decide), fun e6 H6 e60 e61 hP6 f6 => ?_⟩
    refine ⟨_, _, rfl, rfl, _, rfl, a, _, 40, 6, rfl, hP6, by omega, by decide, by decide, by decide, fun z H7 bz hP7 f7 => ?_⟩
    refine ⟨len10 (by simp), fun l2 nl2 => ?_⟩
    have zl := sm_upd (o := .lst [.int (e6 - 10), .int z]) nl2
    refine ⟨a, l2, _, _, rfl, hP7.new nl2, by omega, upd_same, by simp, by simp, fun x2 H8 hx hP8 f8 => ?_⟩
    obtain ⟨c, rfl, bc⟩ : ∃ c, x2 = V.int c ∧ Bd 160 c := by
      simp only [List.mem_cons, List.not_mem_nil, or_false] at hx
      rcases hx with rfl | rfl
      · refine ⟨_, rfl, ?_⟩
        unfold Bd
        omega
      · exact ⟨_, rfl, bz.mono (by decide)⟩
    refine ⟨len10 (by simp), fun T nT => ?_⟩
    have zT := sm_upd (o := .tup [.int (p / (Int.gcd p q : Int)), .int (q / (Int.gcd p q : Int)), .int c]) nT
    exact kk T _ _ _ c ⟨Rq.p0, Rq.q1, Rq.g, Rq.bp, Rq.bq, bc⟩ (by omega) (by omega) upd_same ((hP8.same zT).mono (by omega)) (f15.trans ((f6.trans f7).trans (((Fr.same zl).trans f8).trans (Fr.same zT))))
end
end Lf
namespace Lf
open PySem PySem.Spec PyProof.Rows L2
/-! ### is_first_rate, are_pins -/
structure Bpn (mg : Str → Option Value) : Prop where
  pins_ : ∃ t, mg "MOST_PINS" = some (.int 3 t)
def oPd : Option Int → PyData
  | none => .none
  | some x => .int x
theorem dp_oPd {K : PySem.W.Frag} {H : Hp} (a : Option Int) : Dp K H (oV a) (oPd a) := by
  cases a
  · exact .non
  · exact .int _
theorem sh_oPd2 (a b : Option Int) : SeqAt.shaped (.tuple [oPd a, oPd b]) = true := by
  cases a <;> cases b <;> rfl
theorem eqv_oPd (a b : Option Int) (c d : Int) : PyData.eqv (.tuple [oPd a, oPd b]) (.tuple [.int c, .int d]) = decide (a = some c ∧ b = some d) := by
  cases a with
  | none => simp [oPd, PyData.eqv, PyData.eqvAll]
  | some x =>
    cases b with
    | none => simp [oPd, PyData.eqv, PyData.eqvAll]
    | some y =>
      by_cases h : x = c
      · subst h
        by_cases h2 : y = d
        · subst h2
          simp [oPd, PyData.eqv, PyData.eqvAll]
        · simp [oPd, PyData.eqv, PyData.eqvAll, h2]
      · simp [oPd, PyData.eqv, PyData.eqvAll, h]
theorem eq2w (p q p' q' : Int) : PyData.eqv (.tuple [.int p, .int q]) (.tuple [.int p', .int q']) = decide (p = p' ∧ q = q') := by
  have := eqv_oPd (some p) (some q) p' q'
  simpa [oPd] using this
section
variable {P : Program} {w : World} {K : PySem.W.Frag} {mg : Str → Option Value} {base : Heap}
def spIFR : Sp := fun vs H Q _ => ∃ (v : V) (rt : Addr) (e1 : Option (Int × Int)) (p q M : Int) (k : Nat), vs = [v, .ref rt, .int M] ∧ EndV H k v e1 ∧ H rt = some (tup2 p q) ∧ Rt k p q ∧ (∀ l, e1 = some l → l.1 * q < p * l.2) ∧ 0 < k ∧ k ≤ 1990 ∧
  ∀ H' b, Same H H' → (b = true ↔ LowOk e1 p q M) → Q (.bl b) H'
abbrev s_is_first_rate : Stmt := topS 40
abbrev N_is_first_rate : List Str := ["low", "rate", "most"]
abbrev P_is_first_rate : List Str := ["low", "rate", "most"]
theorem sc_is_first_rate : FnScope N_is_first_rate P_is_first_rate (defScope s_is_first_rate) := ⟨rfl, rfl, rfl, by decide +kernel, rfl, by decide +kernel, by decide +kernel⟩
theorem ok_is_first_rate (D : Df K mg "is_first_rate" s_is_first_rate P_is_first_rate) (c_simplest_between : C8.Cal P w K mg base 4 "simplest_between" spSB []) : C8.Cal P w K mg base 5 "is_first_rate" spIFR [] := by
  refine cal_of D sc_is_first_rate (fun vs H Q E h => ?_) (fun f cdv A outer s H vs Q E hr h => ?_)
  · obtain ⟨v, rt, e1, p, q, M, k, rfl, _⟩ := h
    rfl
  · obtain ⟨v, rt, e1, p, q, M, k, rfl, g1, er, R, lt, k0, k1, kk⟩ := h
    refine ⟨_, (pss_cons (ps_if (pt_cmpR op_isN (pv 0) pe_non (nomark _))
      (pss_one (ps_ret (pe_cmpR (op_eqD hr.units) (pv 1) (pe_tup (pa_cons pe_int (pa_cons pe_int pa_nil))) (nomark _))))
      pss_nil)
    (pss_one (ps_ret (pe_cmpR op_gt (pe_ix (r := rIxT K) ix_tup (C8.pe_c c_simplest_between hr (by decide) (by rfl) (pa_cons (pv 0) (pa_cons (pv 1) pa_nil))) pe_int (fun _ _ => rfl)) (pv 2) (nomark _))))), ?_⟩
    cases e1 with
    | none =>
      have g : v = .non := g1
      subst g
      refine ⟨_, rfl, rfl, _, rfl, iteT ?_⟩
      refine ⟨_, rfl, len10 (by simp), fun T nT => ?_⟩
      have z := sm_upd (o := tup2 0 1) nT
      refine ⟨.tuple [.int p, .int q], .tuple [.int 0, .int 1], Dp.tup (SqT.of (z _ _ er)) (.cons (.int p) (.cons (.int q) .nil)), Dp.tup (SqT.of upd_same) (.cons (.int 0) (.cons (.int 1) .nil)), rfl, rfl, ?_⟩
      rw [eq2w]
      exact kk _ _ z ⟨fun h => of_decide_eq_true (p := p = 0 ∧ q = 1) h, fun h => decide_eq_true (p := p = 0 ∧ q = 1) h⟩
    | some l =>
      obtain ⟨a, rfl, ea, RL⟩ := g1
      refine ⟨_, rfl, rfl, _, rfl, iteF ?_⟩
      refine ⟨_, rfl, _, rfl, .ref a, .ref rt, some l, some (p, q), k, rfl, ⟨a, rfl, ea, RL⟩, ⟨rt, rfl, er, R⟩, lt l rfl, k0, by omega, fun r H' N Dn s1 nr er' res bN bD => ?_⟩
      have res : Sim l.1 l.2 p q N Dn := res
      refine ⟨r, _, _, _, rfl, rfl, SqT.of er', atI_nat (j := 1) rfl, _, rfl, _, _, rfl, rfl, ?_⟩
      exact kk _ _ s1 ⟨fun h => (sim_gt res).mp (of_decide_eq_true h), fun h => decide_eq_true ((sim_gt res).mpr h)⟩
def itemsOf : PyData → List PyData
  | .list ds => ds
  | .tuple ds => ds
  | _ => []
theorem seq_of2 {H : Hp} {v : V} {d : PyData} (dv : Dv H v d) (h : isLT d = true) : ∃ (L : Addr) (kb : Bool) (xs : List V), v = .ref L ∧ H L = some (sqO kb xs) ∧ DvAll H xs (itemsOf d) ∧ recsB d = (decide ((itemsOf d).length ≤ 3) && (itemsOf d).all recB) := by
  cases dv with
  | lst _ e hs => exact ⟨_, true, _, rfl, e, hs, rfl⟩
  | tup e hs => exact ⟨_, false, _, rfl, e, hs, rfl⟩
  | non => cases h
  | bl => cases h
  | int => cases h
  | str => cases h
  | dk0 => cases h
  | dk1 => cases h
def spAreA : Sp := fun vs H Q _ => ∃ (r : Addr) (v : V) (d : PyData) (p q c M : Int) (k : Nat), vs = [.ref r, .int M, v] ∧ H r = some (.tup [.int p, .int q, .int c]) ∧ RuleB k p q c ∧ q ≤ M ∧ M ≤ 10 ^ 60 ∧ Dv H v d ∧ (∀ z ∈ itemsOf d, rgB z = true) ∧ RcB k (recsOf d) ∧ 0 < k ∧ k ≤ 1900 ∧
  ∀ H' b, Same H H' → (b = true ↔ (recsB d = true ∧ ArePins p q c M (recsOf d))) → Q (.bl b) H'
abbrev s_are_pins : Stmt := topS 37
abbrev N_are_pins : List Str := ["rule", "most", "value", "p", "q", "c", "low", "high", "item"]
abbrev P_are_pins : List Str := ["rule", "most", "value"]
theorem sc_are_pins : FnScope N_are_pins P_are_pins (defScope s_are_pins) := ⟨rfl, rfl, rfl, by decide +kernel, rfl, by decide +kernel, by decide +kernel⟩
theorem okA_are_pins (D : Df K mg "are_pins" s_are_pins P_are_pins) (B : Bi mg) (UT : Bpn mg) (c_check_pinned : C8.Cal P w K mg base 4 "check_pinned" spCkP []) (cA_is_record : C8.Cal P w K mg base 2 "is_record" spIsRecD []) (c_phase_ends : C8.Cal P w K mg base 2 "phase_ends" spPhES []) (c_rate_ends : C8.Cal P w K mg base 3 "rate_ends" (spRateEndsS 1000) []) (c_is_first_rate : C8.Cal P w K mg base 5 "is_first_rate" spIFR []) (c_simplest_between : C8.Cal P w K mg base 4 "simplest_between" spSB []) : C8.Cal P w K mg base 6 "are_pins" spAreA [] := by
  obtain ⟨tM, hc_MOST_PINS⟩ := UT.pins_
  refine cal_of D sc_are_pins (fun vs H Q E h => ?_) (fun f cdv A outer s H vs Q E hr h => ?_)
  · obtain ⟨r, v, d, p, q, c, M, k, rfl, _⟩ := h
    rfl
  · obtain ⟨r, v, d, p, q, c, M, k, rfl, er, R, hqM, h2, dv, rg, bd, k0, k1, kk⟩ := h
    have c_is_record := cA_is_record
    refine ⟨_, (pss_cons (ps_expr (C8.pe_c c_check_pinned hr (by decide) (by rfl) (pa_cons (pv 0) (pa_cons (pv 1) pa_nil))))
    (pss_cons (ps_if (PW.pt (pw_or (pt_not (pt_val (pe_callB (call_isiT) (by rfl) B.isinstance_ bt_isinstance (pa_cons (pv 2) (pa_cons (pe_tup (pa_cons (pe_bltn (v := .ty "list") (by rfl) B.list_ bt_list rfl) (pa_cons (pe_bltn (v := .ty "tuple") (by rfl) B.tuple_ bt_tuple rfl) pa_nil))) pa_nil))))) (pw_or1 (pt_cmpR op_gt (pe_callB (call_len_seq) (by rfl) B.len_ bt_len (pa_cons (pv 2) pa_nil)) (pe_glob (v := .int 3) (by rfl) hc_MOST_PINS ⟨_, rfl⟩) (nomark _)))))
      (pss_one (ps_ret pe_bl))
      pss_nil)
    (pss_cons (ps_if (pt_not (pt_val (pe_callB (cr_all rfl) (by rfl) B.all_ bt_all (pa_cons (pe_lc (own := [("item", 8)]) (g := (gName 8)) (by rfl) sc_are_pins.nd (pi_seq (pv 2)) (blkOk_by (own := [("item", 8)]) (N := N_are_pins) (sc := defScope s_are_pins) (by decide +kernel)) (fun _ _ _ _ _ => (pg_name (i := 8) sc_are_pins.nd rfl (Or.inl rfl))) (fun _ _ _ _ _ => pts_nil) (fun _ _ _ _ _ => (C8.pe_c c_is_record hr (by decide) (by rfl) (pa_cons (pv 8) pa_nil)))) pa_nil))))
      (pss_one (ps_ret pe_bl))
      pss_nil)
    (pss_cons (ps_asg (pv 0) (pg_tup rfl (pgs_cons (pg_name (i := 3) sc_are_pins.nd rfl (Or.inl rfl)) (pgs_cons (pg_name (i := 4) sc_are_pins.nd rfl (Or.inl rfl)) (pgs_cons (pg_name (i := 5) sc_are_pins.nd rfl (Or.inl rfl)) pgs_nil)))))
    (pss_cons (ps_if (pt_cmpR (op_neD hr.units) (C8.pe_c c_phase_ends hr (by decide) (by rfl) (pa_cons (pv 2) (pa_cons (pe_tup (pa_cons (pv 3) (pa_cons (pv 4) pa_nil))) pa_nil))) (pe_tup (pa_cons (pv 5) (pa_cons (pv 5) pa_nil))) (nomark _))
      (pss_one (ps_ret pe_bl))
      pss_nil)
    (pss_cons (ps_asg (C8.pe_c c_rate_ends hr (by decide) (by rfl) (pa_cons (pv 2) pa_nil)) (pg_tup rfl (pgs_cons (pg_name (i := 6) sc_are_pins.nd rfl (Or.inl rfl)) (pgs_cons (pg_name (i := 7) sc_are_pins.nd rfl (Or.inl rfl)) pgs_nil))))
    (pss_one (ps_ret (pe_and (C8.pe_c c_is_first_rate hr (by decide) (by rfl) (pa_cons (pv 6) (pa_cons (pe_tup (pa_cons (pv 3) (pa_cons (pv 4) pa_nil))) (pa_cons (pv 1) pa_nil)))) (pe_one (pe_cmpR op_gt (pe_ix (r := rIxT K) ix_tup (C8.pe_c c_simplest_between hr (by decide) (by rfl) (pa_cons (pe_tup (pa_cons (pv 3) (pa_cons (pv 4) pa_nil))) (pa_cons (pv 7) pa_nil))) pe_int (fun _ _ => rfl)) (pv 1) (nomark _)))))))))))), ?_⟩
    refine ⟨_, rfl, _, rfl, r, p, q, c, M, k, rfl, er, R, hqM, h2, fun H1 s1 => ?_⟩
    have no : recsB d = false → ∀ H', Same H H' → Q (.bl false) H' := fun h H' s' => kk H' false s' ⟨fun z => (nomatch z), fun z => by
      rw [h] at z
      cases z.1⟩
    refine ⟨_, rfl, len10 (by simp), fun tp ntp => ?_⟩
    have z1 := s1.trans (sm_upd (o := .tup [.ty "list", .ty "tuple"]) ntp)
    refine ⟨_, tp, _, _, _, isLT d, rfl, upd_same, .cons (.ty "list") (.cons (.ty "tuple") .nil), (Dv.kp (Fr.same z1).kp _ _ dv).ty, kit_ltD d, isLT d, rfl, ?_⟩
    cases hlt : isLT d with
    | false =>
      have e : recsB d = false := by
        cases d <;> first | rfl | cases hlt
      exact iteT (iteT (no e _ z1))
    | true =>
    obtain ⟨L, kb, xs, rfl, eL, hs, hrb⟩ := seq_of2 dv hlt
    have rgl := rg
    generalize itemsOf d = ls at hs hrb rgl
    have lx := dva_length hs
    refine iteF ⟨_, rfl, L, _, rfl, (SqB.of (z1 _ _ eL)).or, _, _, rfl, rfl, _, rfl, ite2 (fun c1 => ?_) (fun c1 => ?_)⟩
    · have c1 : 3 < (xs.length : Int) := of_decide_eq_true c1
      exact no (by rw [hrb, decide_eq_false (by omega), Bool.false_and]) _ z1
    have c1 : ¬ 3 < (xs.length : Int) := fun z => c1 (decide_eq_true z)
    generalize upd H1 tp (.tup [.ty "list", .ty "tuple"]) = H2 at z1
    refine ⟨_, rfl, L, kb, xs, rfl, SqB.of (z1 _ _ eL), fun D1 nD1 => ?_⟩
    refine lc_it (walk_seq (K := K) (b := kb) (a := L) (xs := xs)) (fun i H' => Same H2 H' ∧ H' D1 = some (.lst (((ls.take i).map recB).map V.bl))) ⟨sm_upd nD1, upd_same⟩ ?_ ?_ ?_
    · rintro i H3 _ ⟨s3, _⟩
      exact SqB.of (s3 _ _ (z1 _ _ eL))
    · rintro i x H3 H4 hi0 ⟨s3, e3⟩ ⟨rfl, hx⟩
      obtain ⟨z, hz, dz⟩ := dvaAt hs hx
      refine ⟨rfl, _, rfl, x, z, rfl, Dv.kp (Fr.same (z1.trans s3)).kp _ _ dz, rgl z (List.mem_of_getElem? hz), fun H5 s5 => ⟨_, s5 _ _ e3, ?_, ?_, ?_⟩⟩
      · rw [List.length_map, List.length_map, List.length_take]
        exact small1000 (by omega)
      · intro b o eb
        have := s3 _ _ eb
        rw [upd_ne (ne_of_none eb nD1)]
        exact s5 _ _ this
      · rw [upd_same, List.take_add_one, hz, List.map_append, List.map_append]
        rfl
    rintro H3 ⟨s3, e3⟩
    rw [List.take_of_length_le (by omega)] at e3
    have s03 := z1.trans s3
    have eall : (ls.map recB).all id = ls.all recB := by rw [List.all_map]; rfl
    refine ⟨D1, ls.map recB, rfl, SqL.of e3, ls.all recB, by rw [eall], ?_⟩
    cases hal : ls.all recB with
    | false => exact iteT (no (by rw [hrb, hal, Bool.and_false]) _ s03)
    | true =>
    refine iteF ?_
    have hrt : recsB d = true := by rw [hrb, hal, decide_eq_true (by omega)]; rfl
    obtain ⟨ds, hds, oL, ll⟩ : ∃ ds, ds = recsOf d ∧ Obs rcO H xs ds ∧ ds.length ≤ 3 := by
      obtain ⟨L2, kb2, xs2, e2, eL2, o2, l2⟩ := seq_recs dv hrt
      cases e2
      rw [eL] at eL2
      have : xs = xs2 := by
        cases kb <;> cases kb2 <;> first | (cases eL2; rfl) | cases eL2
      subst this
      exact ⟨_, rfl, o2, l2⟩
    rw [← hds] at bd kk
    have kk : ∀ H' b, Same H H' → (b = true ↔ ArePins p q c M ds) → Q (.bl b) H' := fun H' b s' hb => kk H' b s' ⟨fun z => ⟨hrt, hb.mp z⟩, fun z => hb.mpr z.2⟩
    have lx := oL.len
    have er3 := s03 _ _ er
    refine ⟨_, rfl, r, _, rfl, SqT.of er3, rfl, _, _, rfl, _, _, rfl, _, _, rfl, rfl, ?_⟩
    -- the phases
    refine ⟨_, rfl, _, rfl, _, rfl, len10 (by simp), fun rt nrt => ?_⟩
    have z4 := sm_upd (o := tup2 p q) nrt
    have s04 := s03.trans z4
    have ert : upd H3 rt (tup2 p q) rt = some (tup2 p q) := upd_same
    have eL4 : upd H3 rt (tup2 p q) L = some (sqO kb xs) := s04 _ _ eL
    refine ⟨L, rt, kb, xs, ds, p, q, k, rfl, eL4, oL.same s04, by omega, ert, bd, R.bp, R.bq, k0, by omega, fun T H5 a b s5 nT eT ha hb => ?_⟩
    refine ⟨_, rfl, _, rfl, len10 (by simp), fun T2 nT2 => ?_⟩
    have z6 := sm_upd (o := .tup [.int c, .int c]) nT2
    have s06 := s04.trans (s5.trans z6)
    refine ⟨_, _, Dp.tup (SqT.of (z6 _ _ eT)) (.cons (dp_oPd a) (.cons (dp_oPd b) .nil)), Dp.tup (SqT.of upd_same) (.cons (.int c) (.cons (.int c) .nil)), sh_oPd2 a b, rfl, _, rfl, ?_⟩
    rw [eqv_oPd]
    generalize upd H5 T2 (.tup [.int c, .int c]) = H6 at s06 ⊢
    have eL6 : H6 L = some (sqO kb xs) := s06 _ _ eL
    have oL6 := oL.same s06
    have q1 := R.q1
    by_cases ab : a = some c ∧ b = some c
    · rw [decide_eq_true ab]
      refine iteF ?_
      have fit : ds.all (fitB p q c) = true := by
        obtain ⟨rfl, rfl⟩ := ab
        exact (fit_iff q1 ha hb).mpr ⟨Int.le_refl _, Int.le_refl _⟩
      have nc : ¬ Cf ds := fits_nc R.p0 q1 fit
      refine ⟨_, rfl, L, kb, xs, ds, k, rfl, eL6, oL6, by omega, bd, k0, by omega, fun H7 v lo up s7 hlo hup bl bu rv => ?_⟩
      rcases rv with ⟨h1, _⟩ | ⟨h1, U, va, vb, rfl, eU, ga, gb⟩
      · exact absurd ((nr_cf hlo hup).mp h1) nc
      have s07 := s06.trans s7
      refine ⟨U, _, rfl, SqT.of eU, rfl, _, _, rfl, _, _, rfl, rfl, ?_⟩
      have ins := (ins_m R.p0 q1 hlo hup).mpr (fits_m q1 fit)
      have key := are_iff (c := c) R.p0 q1 R.g hqM hlo hup ha hb
      have Rr : Rt (k + 2) p q := ⟨R.p0, q1, R.g, R.bp.mono (by omega), R.bq.mono (by omega)⟩
      refine ⟨_, rfl, _, rfl, _, rfl, len10 (by simp), fun rt2 nrt2 => ?_⟩
      have z8 := sm_upd (o := tup2 p q) nrt2
      refine ⟨_, rfl, va, rt2, _, p, q, M, k + 2, rfl, ga.sm z8, upd_same, Rr, ins.1, by omega, by omega, fun H9 b1 s9 hb1 => ?_⟩
      have s89 := z8.trans s9
      cases b1 with
      | false =>
        refine ⟨_, rfl, iteF ?_⟩
        refine kk _ false (s07.trans s89) ⟨fun z => (nomatch z), fun z => ?_⟩
        have := hb1.mpr (key.mp z).2.1
        cases this
      | true =>
        refine ⟨_, rfl, iteT ?_⟩
        refine ⟨_, rfl, _, rfl, len10 (by simp), fun rt3 nrt3 => ?_⟩
        have z10 := sm_upd (o := tup2 p q) nrt3
        have s10 := s89.trans z10
        have okE : OkE (some (p, q)) (highE up) := by
          cases e : highE up with
          | none => trivial
          | some g => exact ins.2 g e
        refine ⟨_, rfl, .ref rt3, vb, some (p, q), highE up, k + 2, rfl, ⟨rt3, rfl, upd_same, Rr⟩, gb.sm s10, okE, by omega, by omega, fun r' H11 N Dn s11 nr er' res bN bD => ?_⟩
        have sim : Sim p q (topE (highE up)).1 (topE (highE up)).2 N Dn := by
          cases e : highE up with
          | none =>
            rw [e] at res
            exact res
          | some g =>
            rw [e] at res
            exact res
        refine ⟨r', _, _, _, rfl, rfl, SqT.of er', atI_nat (j := 1) rfl, _, rfl, _, _, rfl, rfl, ?_⟩
        refine kk _ _ ((s07.trans s10).trans s11) ⟨fun z => ?_, fun z => ?_⟩
        · exact key.mpr ⟨ab, hb1.mp rfl, (sim_gt sim).mp (of_decide_eq_true z)⟩
        · exact decide_eq_true ((sim_gt sim).mpr (key.mp z).2.2)
    · rw [decide_eq_false ab]
      refine iteT ?_
      exact kk _ false s06 ⟨fun z => (nomatch z), fun z => absurd (are_ph R.p0 q1 R.g hqM ha hb z) ab⟩
end
end Lf
namespace Lf
open PySem PySem.Spec PyProof.Rows L2
/-! ### pins refuses -/
def btwB (l u : Int) : PyData → Bool
  | .int i => decide (l ≤ i) && decide (i ≤ u)
  | _ => false
section
variable {P : Program} {w : World} {K : PySem.W.Frag} {mg : Str → Option Value} {base : Heap} {C CR : Addr}
def spBtwX (C : Addr) : Sp := fun vs H Q E => ∃ (v : V) (d : PyData) (l u : Int), vs = [v, .int l, .int u] ∧ Dv H v d ∧ btwB l u d = false ∧ Out C v H E

theorem okx_check_between (D : Df K mg "check_between" s_check_between P_check_between) (T : ValC P K mg C "InvalidNumber" "value") (cA_is_integer : C8.Cal P w K mg base 1 "is_integer" spIsAny []) : CalX P w K mg base 3 "check_between" (spBtwX C) := by
  refine calx_of D sc_check_between (fun vs H Q E h => ?_) (fun f cdv A outer s H vs Q E hr h => ?_)
  · obtain ⟨v, d, l, u, rfl, _⟩ := h
    rfl
  · obtain ⟨v, d, l, u, rfl, dv, hb, he⟩ := h
    have c_is_integer := cA_is_integer
    refine ⟨_, (pss_one (ps_if (PW.pt (pw_or (pt_not (pt_val (C8.pe_c c_is_integer hr (by decide) (by rfl) (pa_cons (pv 0) pa_nil)))) (pw_or1 (pt_not (pt_chain op_le op_le (pv 1) (pv 0) (pv 2))))))
      (pss_one (ps_raise rfl (takes_of rfl rfl rfl rfl) (pmk_val T hr (by decide) rfl (pv 0))))
      pss_nil)), ?_⟩
    refine ⟨_, rfl, v, d, rfl, dv, isI d, rfl, ?_⟩
    cases hd : isI d with
    | false => exact iteT ⟨_, rfl, mkv he⟩
    | true =>
      cases dv with
      | int i =>
        have hb : (decide (l ≤ i) && decide (i ≤ u)) = false := hb
        refine iteF ⟨_, rfl, _, rfl, _, _, rfl, rfl, _, rfl, ?_⟩
        by_cases h1 : l ≤ i
        · refine iteD h1 ⟨_, rfl, _, _, rfl, rfl, _, rfl, ?_⟩
          have h2 : decide (i ≤ u) = false := by
            rw [decide_eq_true h1, Bool.true_and] at hb
            exact hb
          rw [h2]
          exact iteT ⟨_, rfl, mkv he⟩
        · exact iteDn h1 ⟨_, rfl, iteT ⟨_, rfl, mkv he⟩⟩
      | non => cases hd
      | bl => cases hd
      | str => cases hd
      | lst => cases hd
      | tup => cases hd
      | dk0 => cases hd
      | dk1 => cases hd
def spPinX (CR C : Addr) : Sp := fun vs H _ E => ∃ (rv v : V), vs = [rv, v] ∧ ((∃ d, Dv H rv d ∧ ruleD d = false ∧ ∀ H', Same H H' → OutX3 CR "value" rv H' E) ∨
  ∃ (r : Addr) (p q c : Int) (k : Nat) (d : PyData), rv = .ref r ∧ H r = some (.tup [.int p, .int q, .int c]) ∧ RuleB k p q c ∧ Dv H v d ∧ btwB q (10 ^ 60) d = false ∧ ∀ H', Same H H' → Out C v H' E)

theorem okx_check_pinned (D : Df K mg "check_pinned" s_check_pinned P_check_pinned) (UE : Bm mg) (cx_check_rule : CalX P w K mg base 3 "check_rule" (spCkRuleX CR)) (c_check_rule : C8.Cal P w K mg base 3 "check_rule" spCheckRule []) (cx_check_between : CalX P w K mg base 3 "check_between" (spBtwX C)) (c_check_between : C8.Cal P w K mg base 2 "check_between" spBtw []) : CalX P w K mg base 4 "check_pinned" (spPinX CR C) := by
  obtain ⟨tM, hc_MOST_CYCLE⟩ := UE.cycle_
  refine calx_of D sc_check_pinned (fun vs H Q E h => ?_) (fun f cdv A outer s H vs Q E hr h => ?_)
  · obtain ⟨rv, v, rfl, _⟩ := h
    rfl
  · obtain ⟨rv, v, rfl, ⟨d, dv, rd, he⟩ | ⟨r, p, q, c, k, d, rfl, er, R, dv, hb, he⟩⟩ := h
    · refine ⟨_, (pss_cons (ps_expr (pe_cx cx_check_rule hr (by decide) (takes_of rfl rfl rfl rfl) (by rfl) (pa_cons (pv 0) pa_nil)))
    (pss_one (ps_expr (C8.pe_c c_check_between hr (by decide) (by rfl) (pa_cons (pv 1) (pa_cons (pe_ix (r := rIxT K) ix_tup (pv 0) pe_int (fun _ _ => rfl)) (pa_cons (pe_glob (v := .int _) (by rfl) hc_MOST_CYCLE ⟨_, rfl⟩) pa_nil))))))), ?_⟩
      exact ⟨_, rfl, rv, d, rfl, dv, (fun _ _ z => by rw [rd] at z; cases z), fun H1 s1 _ => he H1 s1⟩
    · refine ⟨_, (pss_cons (ps_expr (C8.pe_c c_check_rule hr (by decide) (by rfl) (pa_cons (pv 0) pa_nil)))
    (pss_one (ps_expr (pe_cx cx_check_between hr (by decide) (takes_of rfl rfl rfl rfl) (by rfl) (pa_cons (pv 1) (pa_cons (pe_ix (r := rIxT K) ix_tup (pv 0) pe_int (fun _ _ => rfl)) (pa_cons (pe_glob (v := .int _) (by rfl) hc_MOST_CYCLE ⟨_, rfl⟩) pa_nil))))))), ?_⟩
      refine ⟨_, rfl, r, p, q, c, k, rfl, er, R, fun H1 s1 => ?_⟩
      refine ⟨_, rfl, _, rfl, r, _, _, _, rfl, rfl, SqT.of (s1 _ _ er), atI_nat (j := 1) rfl, v, d, q, 10 ^ 60, rfl, Dv.kp (Fr.same s1).kp d v dv, hb, he H1 s1⟩

theorem okx_pins (D : Df K mg "pins" s_pins P_pins) (cx_check_pinned : CalX P w K mg base 4 "check_pinned" (spPinX CR C)) (c_first_hit : C8.Cal P w K mg base 5 "first_hit" spFirstHit []) (c_pin : C8.Cal P w K mg base 1 "pin" spPin []) : CalX P w K mg base 6 "pins" (spPinX CR C) := by
  refine calx_of D sc_pins (fun vs H Q E h => ?_) (fun f cdv A outer s H vs Q E hr h => ?_)
  · obtain ⟨rv, v, rfl, _⟩ := h
    rfl
  · obtain ⟨rv, v, rfl, h⟩ := h
    refine ⟨_, (pss_cons (ps_expr (pe_cx cx_check_pinned hr (by decide) (takes_of rfl rfl rfl rfl) (by rfl) (pa_cons (pv 0) (pa_cons (pv 1) pa_nil))))
    (pss_cons (ps_asg (pv 0) (pg_tup rfl (pgs_cons (pg_name (i := 2) sc_pins.nd rfl (Or.inl rfl)) (pgs_cons (pg_name (i := 3) sc_pins.nd rfl (Or.inl rfl)) (pgs_cons (pg_name (i := 4) sc_pins.nd rfl (Or.inl rfl)) pgs_nil)))))
    (pss_cons (ps_set (i := 5) sc_pins.nd rfl (Or.inl rfl) (C8.pe_c c_first_hit hr (by decide) (by rfl) (pa_cons (pv 2) (pa_cons (pv 4) (pa_cons (pv 3) (pa_cons (pe_tup (pa_cons pe_int (pa_cons pe_int pa_nil))) pa_nil))))))
    (pss_cons (ps_set (i := 6) sc_pins.nd rfl (Or.inl rfl) (pe_op op_add (pv 5) (pv 1)))
    (pss_cons (ps_aug (i := 6) sc_pins.nd rfl (Or.inl rfl) (C8.pe_c c_first_hit hr (by decide) (by rfl) (pa_cons (pv 2) (pa_cons (pe_op op_add (pe_op op_mulW (pv 2) (pv 6)) (pv 4)) (pa_cons (pv 3) (pa_cons (pe_tup (pa_cons (pe_op op_sub (pv 3) pe_int) (pa_cons (pe_op op_sub (pv 3) pe_int) pa_nil))) pa_nil))))) ip_add)
    (pss_cons (ps_set (i := 7) sc_pins.nd rfl (Or.inl rfl) (pe_op op_sub (pv 5) (pv 1)))
    (pss_cons (ps_aug (i := 7) sc_pins.nd rfl (Or.inl rfl) (C8.pe_c c_first_hit hr (by decide) (by rfl) (pa_cons (pe_un un_neg (pv 2)) (pa_cons (pe_op op_add (pe_op op_mulW (pv 2) (pv 7)) (pv 4)) (pa_cons (pv 3) (pa_cons (pe_tup (pa_cons (pe_op op_sub (pv 3) pe_int) (pa_cons (pe_op op_sub (pv 3) pe_int) pa_nil))) pa_nil))))) ip_sub)
    (pss_one (ps_ret (pe_lst (pa_cons (C8.pe_c c_pin hr (by decide) (by rfl) (pa_cons pe_str (pa_cons (pv 0) (pa_cons (pv 7) pa_nil)))) (pa_cons (C8.pe_c c_pin hr (by decide) (by rfl) (pa_cons pe_str (pa_cons (pv 0) (pa_cons (pv 5) pa_nil)))) (pa_cons (C8.pe_c c_pin hr (by decide) (by rfl) (pa_cons pe_str (pa_cons (pv 0) (pa_cons (pv 6) pa_nil)))) pa_nil))))))))))))), ?_⟩
    exact ⟨_, rfl, _, rfl, rv, v, rfl, h⟩
end
end Lf
namespace Lf
open PySem PySem.Spec PyProof.Rows L2
/-! ### are_pins refuses -/
def spPinA (CR C : Addr) : Sp := fun vs H Q E => ∃ (rv v x : V), vs = [rv, v, x] ∧ spPinX CR C [rv, v] H Q E
section
variable {P : Program} {w : World} {K : PySem.W.Frag} {mg : Str → Option Value} {base : Heap} {C CR : Addr}

theorem okx_are_pins (D : Df K mg "are_pins" s_are_pins P_are_pins) (B : Bi mg) (UT : Bpn mg) (cx_check_pinned : CalX P w K mg base 4 "check_pinned" (spPinX CR C)) (cA_is_record : C8.Cal P w K mg base 2 "is_record" spIsRecD []) (c_phase_ends : C8.Cal P w K mg base 2 "phase_ends" spPhES []) (c_rate_ends : C8.Cal P w K mg base 3 "rate_ends" (spRateEndsS 1000) []) (c_is_first_rate : C8.Cal P w K mg base 5 "is_first_rate" spIFR []) (c_simplest_between : C8.Cal P w K mg base 4 "simplest_between" spSB []) : CalX P w K mg base 6 "are_pins" (spPinA CR C) := by
  obtain ⟨tM, hc_MOST_PINS⟩ := UT.pins_
  refine calx_of D sc_are_pins (fun vs H Q E h => ?_) (fun f cdv A outer s H vs Q E hr h => ?_)
  · obtain ⟨rv, v, x, rfl, _⟩ := h
    rfl
  · obtain ⟨rv, v, x, rfl, rv', v', e, h⟩ := h
    cases e
    have c_is_record := cA_is_record
    refine ⟨_, (pss_cons (ps_expr (pe_cx cx_check_pinned hr (by decide) (takes_of rfl rfl rfl rfl) (by rfl) (pa_cons (pv 0) (pa_cons (pv 1) pa_nil))))
    (pss_cons (ps_if (PW.pt (pw_or (pt_not (pt_val (pe_callB (call_isiT) (by rfl) B.isinstance_ bt_isinstance (pa_cons (pv 2) (pa_cons (pe_tup (pa_cons (pe_bltn (v := .ty "list") (by rfl) B.list_ bt_list rfl) (pa_cons (pe_bltn (v := .ty "tuple") (by rfl) B.tuple_ bt_tuple rfl) pa_nil))) pa_nil))))) (pw_or1 (pt_cmpR op_gt (pe_callB (call_len_seq) (by rfl) B.len_ bt_len (pa_cons (pv 2) pa_nil)) (pe_glob (v := .int 3) (by rfl) hc_MOST_PINS ⟨_, rfl⟩) (nomark _)))))
      (pss_one (ps_ret pe_bl))
      pss_nil)
    (pss_cons (ps_if (pt_not (pt_val (pe_callB (cr_all rfl) (by rfl) B.all_ bt_all (pa_cons (pe_lc (own := [("item", 8)]) (g := (gName 8)) (by rfl) sc_are_pins.nd (pi_seq (pv 2)) (blkOk_by (own := [("item", 8)]) (N := N_are_pins) (sc := defScope s_are_pins) (by decide +kernel)) (fun _ _ _ _ _ => (pg_name (i := 8) sc_are_pins.nd rfl (Or.inl rfl))) (fun _ _ _ _ _ => pts_nil) (fun _ _ _ _ _ => (C8.pe_c c_is_record hr (by decide) (by rfl) (pa_cons (pv 8) pa_nil)))) pa_nil))))
      (pss_one (ps_ret pe_bl))
      pss_nil)
    (pss_cons (ps_asg (pv 0) (pg_tup rfl (pgs_cons (pg_name (i := 3) sc_are_pins.nd rfl (Or.inl rfl)) (pgs_cons (pg_name (i := 4) sc_are_pins.nd rfl (Or.inl rfl)) (pgs_cons (pg_name (i := 5) sc_are_pins.nd rfl (Or.inl rfl)) pgs_nil)))))
    (pss_cons (ps_if (pt_cmpR (op_neD hr.units) (C8.pe_c c_phase_ends hr (by decide) (by rfl) (pa_cons (pv 2) (pa_cons (pe_tup (pa_cons (pv 3) (pa_cons (pv 4) pa_nil))) pa_nil))) (pe_tup (pa_cons (pv 5) (pa_cons (pv 5) pa_nil))) (nomark _))
      (pss_one (ps_ret pe_bl))
      pss_nil)
    (pss_cons (ps_asg (C8.pe_c c_rate_ends hr (by decide) (by rfl) (pa_cons (pv 2) pa_nil)) (pg_tup rfl (pgs_cons (pg_name (i := 6) sc_are_pins.nd rfl (Or.inl rfl)) (pgs_cons (pg_name (i := 7) sc_are_pins.nd rfl (Or.inl rfl)) pgs_nil))))
    (pss_one (ps_ret (pe_and (C8.pe_c c_is_first_rate hr (by decide) (by rfl) (pa_cons (pv 6) (pa_cons (pe_tup (pa_cons (pv 3) (pa_cons (pv 4) pa_nil))) (pa_cons (pv 1) pa_nil)))) (pe_one (pe_cmpR op_gt (pe_ix (r := rIxT K) ix_tup (C8.pe_c c_simplest_between hr (by decide) (by rfl) (pa_cons (pe_tup (pa_cons (pv 3) (pa_cons (pv 4) pa_nil))) (pa_cons (pv 7) pa_nil))) pe_int (fun _ _ => rfl)) (pv 1) (nomark _)))))))))))), ?_⟩
    exact ⟨_, rfl, _, rfl, rv, v, rfl, h⟩
end
end Lf
namespace Lf
open PySem PySem.Spec PyProof.Rows L2
section
variable {P : Program} {w : World} {K : PySem.W.Frag} {mg : Str → Option Value} {base : Heap} {C CV : Addr}
/-! ### _law_none -/
def spNone31 : Sp := fun vs H Q _ => ∃ (a : PA) (n : Nat), vs = [.ref a] ∧ Pen H a n ∧ n < 2 ^ 39 ∧ ∀ v H', CkBad H' v (-1) → Pen H' a (n + 1) → Fr H H' → Q v H'
end
/-! ### isinstance of a kept exception that has its dict -/
theorem call_isKV {X : Cx} {a D dd : Addr} {oe : Obj} {pn : List (Addr × Obj)} {xe : Value → Shared → Prop} (C : ExcC X.K D) (hz : Zc (.ref D) (some dd) oe) (hf : ∃ vs, oe.data = .fields vs) : CallR (X.tr ((a, oe) :: pn) xe) (.builtin "isinstance") (rIsV X.K D a dd) := by
  intro pins s σ H xs us Q I r h
  obtain ⟨c, cv, b, fs, rfl, hcv, e, ed, q⟩ := h
  cases r with
  | cons rx rr =>
    cases rr with
    | cons rt rr =>
      cases rr
      cases rx
      obtain ⟨ge, _⟩ := I.pin (a, oe) (List.mem_append.mpr (.inl List.mem_cons_self))
      obtain ⟨vs, hv⟩ := hf
      obtain ⟨mA, hns, _⟩ := (show ObjOk X.prog X.w H s.heap dd (.xd fs) from I.hok dd _ ed)
      obtain ⟨od, _, _, ho, _⟩ := hns
      have J : PySem.W.InstAt s.heap a oe D (some od) := by
        obtain ⟨oc, od', oda, osl⟩ := oe
        obtain ⟨h1, h2⟩ := hz
        dsimp only at h1 h2 hv
        subst h1 h2 hv
        exact ⟨ge, rfl, rfl, ho⟩
      have hcl : (PySem.W.clsIn X.K D).isSome = true := by
        obtain ⟨cd, hc, _⟩ := PySem.W.any_some C.hd
        rw [hc]
        rfl
      have kx := PySem.W.kitx_exc (x := a) (ox := oe) (od := some od) hcl C.hg C.hk C.hs C.ha C.hn C.ht C.hm
      have ec := hcv _ rt
      subst ec
      exact PySem.W.kia_one kx I.kIn J e (fun z => nomatch z) fun tk => ⟨.bl b, H, I.kept (t' := tk) fun _ _ z => z, rfl, q⟩
def tNo1 : TE := fun _ _ _ => False
theorem pe_no {X : Cx} {e : Expr} : PE X e tNo1 := ⟨fun _ _ _ _ _ _ h => h.elim⟩
def tNoS : TS := fun _ _ _ => False
theorem pss_no {X : Cx} {b : List Stmt} : PSs X b tNoS := ⟨fun _ _ _ _ _ _ h => h.elim⟩
end Lf
namespace Lf
open PySem PySem.Spec PyProof.Rows L2
/-! ### data of any kind at any address: where the modules are known to stand, nothing tracked is there -/
mutual
inductive DvF (H : Hp) : V → PyData → Prop
  | non : DvF H .non .none
  | bl (b : Bool) : DvF H (.bl b) (.bool b)
  | int (i : Int) : DvF H (.int i) (.int i)
  | str (x : Str) : DvF H (.str x) (.str x)
  | lst {a : Addr} {xs : List V} {ds : List PyData} : H a = some (.lst xs) → DvFAll H xs ds → DvF H (.ref a) (.list ds)
  | tup {a : Addr} {xs : List V} {ds : List PyData} : H a = some (.tup xs) → DvFAll H xs ds → DvF H (.ref a) (.tuple ds)
  | dk0 {a : Addr} : H a = some (.dK []) → DvF H (.ref a) (.dict [])
  | dk1 {a : Addr} {x : Str} {v : V} {d : PyData} : H a = some (.dK [(Sum.inr x, v)]) → DvF H v d → DvF H (.ref a) (.dict [(.str x, d)])
inductive DvFAll (H : Hp) : List V → List PyData → Prop
  | nil : DvFAll H [] []
  | cons {v : V} {vs : List V} {d : PyData} {ds : List PyData} : DvF H v d → DvFAll H vs ds → DvFAll H (v :: vs) (d :: ds)
end
mutual
theorem DvF.dv {H : Hp} (n : H 1 = none) : ∀ (d : PyData) (v : V), DvF H v d → Dv H v d
  | .none, _, .non => .non
  | .bool _, _, .bl b => .bl b
  | .int _, _, .int i => .int i
  | .str _, _, .str x => .str x
  | .list ds, _, .lst (a := a) h hs => .lst (fun e => by subst e; rw [n] at h; cases h) h (DvFAll.dv n ds _ hs)
  | .tuple ds, _, .tup h hs => .tup h (DvFAll.dv n ds _ hs)
  | .dict [], _, .dk0 h => .dk0 h
  | .dict [(.str _, d)], _, .dk1 h g => .dk1 h (DvF.dv n d _ g)
theorem DvFAll.dv {H : Hp} (n : H 1 = none) : ∀ (ds : List PyData) (vs : List V), DvFAll H vs ds → DvAll H vs ds
  | [], _, .nil => .nil
  | d :: ds, _, .cons h hs => .cons (DvF.dv n d _ h) (DvFAll.dv n ds _ hs)
end
theorem dvf_ints {H : Hp} : ∀ ns : List Int, DvFAll H (ns.map V.int) (ns.map PyData.int)
  | [] => .nil
  | _ :: r => .cons (.int _) (dvf_ints r)
/-- repr of such data, where the base has the table of modules -/
theorem repr_any1 {X : Cx} (h1 : ∃ o, X.base.get? 1 = some o) (gd : X.A.guards = some []) (hu : X.A.units + 70 < cLine) : CallR X (.builtin "repr") (fun xs H Q => ∃ (v : V) (d : PyData), xs = [v] ∧ DvF H v d ∧ d.showable = true ∧ d.depth ≤ 60 ∧ d.shown.length ≤ sizeLine ∧ Q (.str d.shown) H) := by
  intro pins s σ H xs us Q I rel h
  obtain ⟨v, d, e, dp, sw, dd, sz, hq⟩ := h
  obtain ⟨o, ho⟩ := h1
  exact repr_any gd hu pins s σ H xs us Q I rel ⟨v, d, e, DvF.dv (I.bs 1 o ho).2 d v dp, sw, dd, sz, hq⟩
end Lf
namespace Lf
open PySem PySem.Spec PyProof.Rows L2
/-! ### as lawGT, and the base has the table of modules -/
theorem lawGT1 {P : Program} {w : World} {K : PySem.W.Frag} {mg mb : Str → Option Value} {k : Nat} {fa ad cT PT : Addr} {fd : FuncData} {x : Str} {sp : Sp} {sh : Shared} {vs : List Value} {ns : List Int}
    (inK : K.In sh.heap) (nsm : sh.heap.Ns mainGlobals mg) (nsb : sh.heap.Ns builtinsNs mb) (bb : ∀ x : Str, x ≠ "__name__" → mb x = bootBuiltins x) (nol : sh.heap.NoLimit) (gn : sh.gens = #[])
    (sM : ∃ mm, sh.heap.Ns sysModules mm) (tP : sh.heap.get? PT = some { cls := .none, data := .fields #[] }) (nP : K.lookup PT = none) (hC : PySem.W.CodeHd sh.heap cT PT)
    (bM : ∃ (bm : Addr) (ob : Obj), mg "__builtins__" = some (.ref bm) ∧ bm ≠ builtinsNs ∧ sh.heap.get? bm = some ob ∧ ob.cls = .type "module" ∧ ob.dict = some builtinsNs ∧ ob.data = .plain)
    (ga : sh.heap.get? ad = some { cls := .type "list", data := .seq vs.toArray }) (isI : IntsAre vs ns) (len : ns.length ≤ sizeLine) (rm : Room k callerA)
    (F : ∀ base : Heap, K.In base → base.Ns mainGlobals mg → (∃ o, base.get? 1 = some o) → LamX.TabB base mg cT PT → FnG P w K mg base k fa fd [x] sp) (bnd : ∀ (s : Shared) (u : Value), BindsTo s fd ⟨[u], []⟩ [(x, u)])
    (pr : ∀ H : Hp, H PT = some (.tbl #[]) → SqL K H ad (ns.map V.int) → sp [.ref ad] H (fun v _ => v = .bl true) fun _ _ _ => False) :
    codeAny (model P w) callerA (.call (.ref fa) ⟨[.ref ad], []⟩) (fun r sh' => r = .ok (.ret (.bool true)) ∧ OldK sh.heap sh'.heap ∧ sh'.os = sh.os ∧ AllBare sh'.gens) sh := by
  have rel := vals_ints isI
  have lnv := isI.length
  have nab : ¬ ad = PT := fun z => by
    rw [z, tP] at ga
    cases ga
  have main : ∀ H : Hp, H PT = some (.tbl #[]) → (∀ b, H b = none ∨ b = PT ∨ ∃ o xs, H b = some (.frz o (.lst xs))) → SqL K H ad (ns.map V.int) → HOk P w H sh.heap → (∀ b, H b ≠ none → b = ad ∨ b = PT) → (H ad ≠ none → K.lookup ad = none) →
      codeAny (model P w) callerA (.call (.ref fa) ⟨[.ref ad], []⟩) (fun r sh' => r = .ok (.ret (.bool true)) ∧ OldK sh.heap sh'.heap ∧ sh'.os = sh.os ∧ AllBare sh'.gens) sh := by
    intro H hT only seq hok one nk
    have lay : ∀ {b : Addr} {o : Obj}, sh.heap.get? b = some o → H b = none → (hidT sh.heap H).get? b = some o := fun e n => hidT_get e n
    -- what is no list and no empty record is not tracked
    have off : ∀ {b : Addr} {o : Obj}, sh.heap.get? b = some o → (∀ zs m, o.data ≠ .seq zs m) → o.data ≠ .fields #[] → H b = none := fun {b o} e n1 n2 => by
      cases z : H b with
      | none => rfl
      | some u =>
        rcases one b (by rw [z]; simp) with eb | eb
        · rw [eb, ga] at e
          cases e
          exact absurd rfl (n1 _ _)
        · rw [eb, tP] at e
          cases e
          exact absurd rfl n2
    have nsL : ∀ {b : Addr} {m : Str → Option Value}, sh.heap.Ns b m → (hidT sh.heap H).Ns b m := fun {b m} ⟨o, es, ep, e, d, r⟩ =>
      ⟨o, es, ep, lay e (off e (fun zs m z => by rw [d] at z; cases z) (fun z => by rw [d] at z; cases z)), d, r⟩
    have inB : K.In (hidT sh.heap H) := fun b o e => lay (inK b o e) (by
      cases z : H b with
      | none => rfl
      | some u =>
        rcases one b (by rw [z]; simp) with eb | eb
        · subst eb
          rw [nk (by rw [z]; simp)] at e
          cases e
        · rw [eb, nP] at e
          cases e)
    have md : Mod K mg (hidT sh.heap H) := ⟨inB, nsL nsm, ⟨mb, nsL nsb, bb⟩, let ⟨mc, h1, h2⟩ := nol; ⟨mc, nsL h1, h2⟩⟩
    have gP : ¬ mainGlobals = PT := fun z => by
      obtain ⟨o, es, ep, e, d, _⟩ := nsm
      rw [z, tP] at e
      cases e
      cases d
    have tb : LamX.TabB (hidT sh.heap H) mg cT PT := by
      refine ⟨?_, ?_, gP⟩
      · obtain ⟨o, us, fi, tf, fl, tg, iF, tx, tt, e1, r1, r2, r3, rr⟩ := hC
        refine ⟨o, us, fi, tf, fl, tg, iF, tx, tt, lay e1 (off e1 (fun zs m z => by rw [r2] at z; cases z) (fun z => ?_)), r1, r2, r3, rr⟩
        rw [r2] at z
        cases z
        simp at r3
      · obtain ⟨bm, ob, b1, b2, b3, b4, b5, b6⟩ := bM
        refine ⟨bm, ob, b1, b2, fun z => ?_, fun z => ?_, lay b3 (off b3 (fun zs m z => by rw [b6] at z; cases z) (fun z => by rw [b6] at z; cases z)), b4, b5, b6⟩
        · obtain ⟨o, es, ep, e, d, _⟩ := nsm
          rw [z, e] at b3
          cases b3
          rw [d] at b6
          cases b6
        · rw [z, tP] at b3
          cases b3
          cases b6
    have en : Env0 P w K mg (hidT sh.heap H) callerA [] sh H := ⟨rfl, md, fun b o e => of_hidT e, Nat.le_of_eq (hidT_size _ _), trivial, fun b hb => absurd (show b ∈ ([] : List Addr) from hb) (by simp), hok, .of_eq gn⟩
    refine codeAny_mono ((F _ inB (nsL nsm) (let ⟨_, h⟩ := sM; let ⟨o, _, _, e, _⟩ := nsL h; ⟨o, e⟩) tb).runG callerA [] sh H ⟨[.ref ad], []⟩ [.ref ad] [.ref ad] _ _ rm rfl en (bnd sh (.ref ad)) (.cons rfl .nil) (pr H hT seq)) fun r sh' h => ?_
    match r, h with
    | .error e, h => exact (show False from h).elim
    | .ok .next, h => exact False.elim h
    | .ok .brk, h => exact False.elim h
    | .ok .cont, h => exact False.elim h
    | .ok (.ret u), h =>
      obtain ⟨v, H', os, bare, un, hok', rv, z⟩ := h
      have z' : v = .bl true := z
      subst z'
      have eu : u = Value.bool true := rv
      subst eu
      have old : ∀ b o, ¬ b = PT → sh.heap.get? b = some o → sh'.heap.get? b = some o := fun b o nb e => by
        cases zb : H b with
        | none => exact un.keep b o e zb (fun z => absurd (show b ∈ ([] : List Addr) from z) (by simp)) (by simp)
        | some u =>
          rcases only b with z | z | ⟨ob, xs, z⟩
          · rw [zb] at z
            cases z
          · exact absurd z nb
          · have e1 := (hok b _ z).1
            have e2 := (hok' b _ (un.frzs b ob _ z)).1
            rw [e] at e1
            cases e1
            exact e2
      obtain ⟨more, zm⟩ := un.tbls PT #[] hT
      have grown : sh'.heap.get? PT = some { cls := .none, data := .fields (#[] ++ more) } := hok' PT _ zm
      refine ⟨rfl, ⟨fun b o e => ?_, fun b o e => ?_⟩, os, bare⟩
      · by_cases hb : b = PT
        · rw [hb] at e ⊢
          rw [tP] at e
          cases e
          exact .inr (.inl ⟨(hC.tab tP).isCodeTable, rfl, #[], more, rfl, grown⟩)
        · exact .inl (old b o hb e)
      · by_cases hb : b = PT
        · rw [hb]
          exact ⟨_, grown⟩
        · exact ⟨o, old b o hb e⟩
  cases hk : K.lookup ad with
  | some o =>
    have e := inK ad o hk
    rw [ga] at e
    cases e
    refine main (fun b => if b = PT then some (.tbl #[]) else none) (if_pos rfl) (fun b => ?_) (.inr ⟨_, vs.toArray, _, hk, rfl, rfl, rfl, by rw [List.size_toArray, lnv]; exact len, by simpa using rel⟩) (fun b u z => ?_) (fun b z => ?_) (fun z => absurd (if_neg nab) z)
    · by_cases hb : b = PT
      · exact .inr (.inl hb)
      · exact .inl (if_neg hb)
    · by_cases hb : b = PT
      · rw [hb] at z ⊢
        have z' := (if_pos rfl).symm.trans z
        cases z'
        exact tP
      · exact (nomatch (if_neg hb).symm.trans z)
    · by_cases hb : b = PT
      · exact .inr hb
      · exact absurd (if_neg hb) z
  | none =>
    refine main (fun b => if b = ad then some (.frz { cls := .type "list", data := .seq vs.toArray } (.lst (ns.map V.int))) else if b = PT then some (.tbl #[]) else none) ((if_neg (fun z => nab z.symm)).trans (if_pos rfl)) (fun b => ?_) (.inl (.inr ⟨{ cls := .type "list", data := .seq vs.toArray }, if_pos rfl⟩)) (fun b u z => ?_) (fun b z => ?_) (fun _ => hk)
    · by_cases eb : b = ad
      · exact .inr (.inr ⟨_, _, if_pos eb⟩)
      · by_cases hb : b = PT
        · exact .inr (.inl hb)
        · exact .inl ((if_neg eb).trans (if_neg hb))
    · by_cases eb : b = ad
      · subst eb
        have z' := (if_pos rfl).symm.trans z
        cases z'
        exact ⟨ga, by rw [List.length_map]; exact len, vs, _, rel, ga⟩
      · have z1 := (if_neg eb).symm.trans z
        by_cases hb : b = PT
        · rw [hb] at z1 ⊢
          have z' := (if_pos rfl).symm.trans z1
          cases z'
          exact tP
        · exact (nomatch (if_neg hb).symm.trans z1)
    · by_cases eb : b = ad
      · exact .inl eb
      · by_cases hb : b = PT
        · exact .inr hb
        · exact absurd ((if_neg eb).trans (if_neg hb)) z
/-- what the head tells of the law, of the table PT of the code object cT -/
structure LawGT1 (l : PySem.W.OpenLaw) (w : World) (K : PySem.W.Frag) (k : Nat) (x : Str) (mg : Str → Option Value) (fa : Addr) (h : Heap) : Prop where
  ex : ∃ (fd : FuncData) (cT PT : Addr) (sp : Sp), h.get? PT = some { cls := .none, data := .fields #[] } ∧ K.lookup PT = none ∧ PySem.W.CodeHd h cT PT ∧ (∀ (s : Shared) (u : Value), BindsTo s fd ⟨[u], []⟩ [(x, u)]) ∧
    (∀ (H : Hp) (a : Addr) (ns : List Int), ns.length ≤ 63 → H PT = some (.tbl #[]) → SqL K H a (ns.map V.int) → sp [.ref a] H (fun v _ => v = .bl true) fun _ _ _ => False) ∧
    ∀ base : Heap, K.In base → base.Ns mainGlobals mg → (∃ o, base.get? 1 = some o) → LamX.TabB base mg cT PT → FnG l.prog w K mg base k fa fd [x] sp
theorem walkGT1 {l : PySem.W.OpenLaw} {k : Nat} {q : Program} {loose : List Str} {XP : (Str → Option Value) → Heap → Prop} {YP : World → Heap → Prop} {d : DefRec} {K : Params → PySem.W.Frag} {x : Str}
    (noImp : importsNone q = true) (most : l.most = some 63) (nodf : d.params.defaults = []) (rm : Room k callerA) (inY : ∀ (w : World) (h : Heap), YP w h → (K w.params).In h)
    (F : ∀ (w : World) (mg : Str → Option Value) (fa : Addr) (h : Heap), YP w h → (K w.params).In h → h.Ns mainGlobals mg → mg d.name = some (.ref fa) → LawGT1 l w (K w.params) k x mg fa h) : PySem.W.WalkO q loose XP YP l.row.toRowW d [] (fun f vs => PySem.call f vs) := by
  refine Att.attach_call most nodf fun w s₀ sh mg mb fa o pm cd doc a vs ns G Y ho hd hcd hmg hobj hints hlen hg => ?_
  have inK := inY w _ Y
  obtain ⟨fd, cT, PT, sp, tP, nP, hC, hb, hp, hF⟩ := (F w mg fa _ Y inK G.T.g hmg).ex
  exact lawGT1 inK G.T.g G.T.b G.T.builtins G.T.nolimit hg (let ⟨mm, h, _⟩ := (G.T.seer noImp).mods; ⟨mm, h⟩) tP nP hC G.T.bmain hobj hints (Nat.le_trans hlen (by decide)) rm hF hb (fun H hH hS => hp H a ns hlen hH hS)
end Lf
namespace Lf
open PySem PySem.Spec PyProof.Rows L2
mutual
theorem DvF.kp {H H' : Hp} (f : Kp H H') : ∀ (d : PyData) (v : V), DvF H v d → DvF H' v d
  | .none, _, .non => .non
  | .bool _, _, .bl b => .bl b
  | .int _, _, .int i => .int i
  | .str _, _, .str x => .str x
  | .list ds, _, .lst h hs => .lst (f.l _ _ h) (DvF.kpAll f ds _ hs)
  | .tuple ds, _, .tup h hs => .tup (f.t _ _ h) (DvF.kpAll f ds _ hs)
  | .dict [], _, .dk0 h => .dk0 (f.d0 _ h)
  | .dict [(.str _, d)], _, .dk1 h h2 => .dk1 (f.d1 _ _ _ h) (DvF.kp f d _ h2)
theorem DvF.kpAll {H H' : Hp} (f : Kp H H') : ∀ (ds : List PyData) (vs : List V), DvFAll H vs ds → DvFAll H' vs ds
  | [], _, .nil => .nil
  | d :: ds, _, .cons h hs => .cons (DvF.kp f d _ h) (DvF.kpAll f ds _ hs)
end
mutual
theorem Dv.dvf {H : Hp} : ∀ (d : PyData) (v : V), Dv H v d → DvF H v d
  | .none, _, .non => .non
  | .bool _, _, .bl b => .bl b
  | .int _, _, .int i => .int i
  | .str _, _, .str x => .str x
  | .list ds, _, .lst _ h hs => .lst h (Dv.dvfAll ds _ hs)
  | .tuple ds, _, .tup h hs => .tup h (Dv.dvfAll ds _ hs)
  | .dict [], _, .dk0 h => .dk0 h
  | .dict [(.str _, d)], _, .dk1 h h2 => .dk1 h (Dv.dvf d _ h2)
theorem Dv.dvfAll {H : Hp} : ∀ (ds : List PyData) (vs : List V), DvAll H vs ds → DvFAll H vs ds
  | [], _, .nil => .nil
  | d :: ds, _, .cons h hs => .cons (Dv.dvf d _ h) (Dv.dvfAll ds _ hs)
end
end Lf
namespace Lf
open PySem PySem.Spec PyProof.Rows L2
/-- the heap without what stands at F -/
def erH (F : Addr) (H : Hp) : Hp := fun a => if a = F then none else H a
theorem erH_kp {F : Addr} {H : Hp} : Kp (erH F H) H := by
  have h : ∀ b (o : HO), erH F H b = some o → H b = some o := fun b o e => by
    unfold erH at e
    by_cases z : b = F
    · rw [if_pos z] at e
      cases e
    · rw [if_neg z] at e
      exact e
  exact ⟨fun b _ e => h b _ e, fun b _ e => h b _ e, fun b e => h b _ e, fun b _ _ e => h b _ e⟩
theorem erH_upd {F : Addr} {H : Hp} {o : HO} : erH F (upd H F o) = erH F H := by
  funext a
  unfold erH
  by_cases z : a = F
  · rw [if_pos z, if_pos z]
  · rw [if_neg z, if_neg z, upd_ne z]
theorem erH_new {F : Addr} {H : Hp} (n : H F = none) : Kp H (erH F H) := by
  have h : ∀ b (o : HO), H b = some o → erH F H b = some o := fun b o e => by
    unfold erH
    rw [if_neg (ne_of_none e n)]
    exact e
  exact ⟨fun b _ e => h b _ e, fun b _ e => h b _ e, fun b e => h b _ e, fun b _ _ e => h b _ e⟩
theorem erH_mono {F : Addr} {H H' : Hp} (k : Kp H H') : Kp (erH F H) (erH F H') := by
  have h : ∀ b (o : HO), erH F H b = some o → b ≠ F ∧ H b = some o := fun b o e => by
    unfold erH at e
    by_cases z : b = F
    · rw [if_pos z] at e
      cases e
    · rw [if_neg z] at e
      exact ⟨z, e⟩
  have g : ∀ b (o : HO), b ≠ F → H' b = some o → erH F H' b = some o := fun b o z e => by
    unfold erH
    rw [if_neg z]
    exact e
  exact ⟨fun b _ e => let ⟨z, e⟩ := h b _ e; g b _ z (k.l _ _ e), fun b _ e => let ⟨z, e⟩ := h b _ e; g b _ z (k.t _ _ e), fun b e => let ⟨z, e⟩ := h b _ e; g b _ z (k.d0 _ e), fun b _ _ e => let ⟨z, e⟩ := h b _ e; g b _ z (k.d1 _ _ _ e)⟩
theorem Kp.refl (H : Hp) : Kp H H := ⟨fun _ _ h => h, fun _ _ h => h, fun _ h => h, fun _ _ _ h => h⟩
end Lf
namespace Lf
section
open PySem PySem.Spec PyProof.Rows L2 Builtin Builtin.Str

/-! ### the text of the text of a whole number -/
def dgt (c : Nat) : Bool := decide (c = 45) || (decide (48 ≤ c) && decide (c ≤ 57))
theorem dgt_in {c : Nat} (h : dgt c = true) : c ∈ [45, 48, 49, 50, 51, 52, 53, 54, 55, 56, 57] := by
  unfold dgt at h
  rcases Bool.or_eq_true _ _ ▸ h with h | h
  · rw [of_decide_eq_true h]
    decide
  · have h := Bool.and_eq_true _ _ ▸ h
    have h1 := of_decide_eq_true h.1
    have h2 := of_decide_eq_true h.2
    simp only [List.mem_cons, List.not_mem_nil, or_false]
    omega
theorem dgt_one {q c : Nat} (hq : q = 39 ∨ q = 34) (h : dgt c = true) : (Builtin.Str.reprChar q c).length = 1 := by
  have h := dgt_in h
  simp only [List.mem_cons, List.not_mem_nil, or_false] at h
  rcases hq with rfl | rfl <;> rcases h with rfl | rfl | rfl | rfl | rfl | rfl | rfl | rfl | rfl | rfl | rfl <;> decide +kernel
theorem dgt_fold {q : Nat} (hq : q = 39 ∨ q = 34) : ∀ (l : List Nat) (n : Nat), (∀ c ∈ l, dgt c = true) → l.foldl (fun n c => n + (Builtin.Str.reprChar q c).length) n = n + l.length
  | [], n, _ => rfl
  | c :: r, n, h => by
    rw [List.foldl_cons, dgt_one hq (h c List.mem_cons_self), dgt_fold hq r _ fun d hd => h d (List.mem_cons_of_mem _ hd), List.length_cons]
    omega
theorem quote_two (x : Str) : reprQuote x = 39 ∨ reprQuote x = 34 := by
  unfold reprQuote
  split
  · exact .inr rfl
  · exact .inl rfl
theorem dgt_repr {x : Str} (h : ∀ c ∈ x.cps.toList, dgt c = true) : (reprText x).length = x.length + 2 := by
  rw [← reprLen_eq, ← Array.foldl_toList, dgt_fold (quote_two x) _ _ h]
  show 2 + x.cps.toList.length = x.cps.size + 2
  rw [Array.length_toList]
  omega
theorem str_mem {s : String} {c : Nat} (h : c ∈ (Str.ofString s).cps.toList) : ∃ d ∈ s.toList, d.toNat = c := by
  rw [Str.ofString_eq_toList] at h
  exact List.mem_map.mp h
theorem nat_dgt {m : Nat} {d : Char} (h : d ∈ (Nat.repr m).toList) : dgt d.toNat = true := by
  rw [Nat.toList_repr] at h
  have h1 := Nat.isDigit_of_mem_toDigits (by decide) (by decide) h
  unfold Char.isDigit at h1
  have h1 := Bool.and_eq_true _ _ ▸ h1
  have a1 : 48 ≤ d.toNat := of_decide_eq_true h1.1
  have a2 : d.toNat ≤ 57 := of_decide_eq_true h1.2
  unfold dgt
  rw [decide_eq_true a1, decide_eq_true a2]
  simp
theorem int_dgt {i : Int} {c : Nat} (h : c ∈ (Str.ofString (toString i)).cps.toList) : dgt c = true := by
  obtain ⟨d, hd, rfl⟩ := str_mem h
  cases i with
  | ofNat m => exact nat_dgt (m := m) hd
  | negSucc m =>
    have e : toString (Int.negSucc m) = "-" ++ Nat.repr (m + 1) := rfl
    rw [e, String.toList_append] at hd
    rcases List.mem_append.mp hd with h | h
    · have : d = '-' := by simpa using h
      rw [this]
      decide
    · exact nat_dgt h
theorem str_len2 {i : Int} {s : Nat} (h : (PyData.int i).shown.length ≤ s) : (PyData.str (Str.ofString (toString i))).shown.length ≤ s + 2 := by
  have h1 : (reprText (Str.ofString (toString i))).length = (Str.ofString (toString i)).length + 2 := dgt_repr fun c hc => int_dgt hc
  have h2 : (Str.ofString (toString i)).length ≤ s := h
  show (reprText (Str.ofString (toString i))).length ≤ s + 2
  omega
end
end Lf
namespace Lf
open PySem PySem.Spec PyProof.Rows L2
/-! ### what is asked of the values of k50 -/
structure Vl (d : PyData) : Prop where
  s1 : d.showable = true
  s2 : d.depth ≤ 60
  s3 : d.shown.length ≤ sizeLine
  rg : ∀ z ∈ itemsOf d, rgB z = true
  bd : RcB 900 (recsOf d)
structure Im (z : PyData) : Prop where
  rg : rgB z = true
  s1 : z.showable = true
  s2 : z.depth ≤ 20
  s3 : z.shown.length ≤ 40000
  b1 : Bd 900 (recOf z).t
  b2 : Bd 900 (recOf z).n
structure Pt (d : PyData) : Prop where
  s1 : d.showable = true
  s2 : d.depth ≤ 2
  s3 : d.shown.length ≤ 4000
  b : ∀ i, d = .int i → Bd 900 i
inductive Pts : List PyData → Prop
  | nil : Pts []
  | cons {d : PyData} {ds : List PyData} : Pt d → Pts ds → Pts (d :: ds)
theorem Pts.all {ds : List PyData} (h : Pts ds) : PyData.showableAll ds = true ∧ PyData.depthAll ds ≤ 2 ∧ ((PyData.shownAll ds).map (·.length)).sum ≤ 4000 * ds.length ∧ (PyData.shownAll ds).length = ds.length ∧ ∀ d ∈ ds, Pt d := by
  induction h with
  | nil => exact ⟨rfl, by decide, by simp [PyData.shownAll], rfl, fun _ z => (nomatch z)⟩
  | @cons d ds h hs ih =>
    obtain ⟨i1, i2, i3, i4, i5⟩ := ih
    have h1 := h.s1
    have h2 := h.s2
    have h3 := h.s3
    refine ⟨by simp [PyData.showableAll, h1, i1], by simp only [PyData.depthAll]; omega, ?_, by simp [PyData.shownAll, i4], fun x hx => ?_⟩
    · simp only [List.map_cons, PyData.shownAll, List.sum_cons, List.length_cons]
      omega
    · rcases List.mem_cons.mp hx with rfl | hx
      · exact h
      · exact i5 x hx
theorem rec_bd {ds : List PyData} (h : ∀ d ∈ ds, Pt d) : Bd 900 (recOf (.tuple ds)).t ∧ Bd 900 (recOf (.tuple ds)).n := by
  have z : Bd 900 (0 : Int) := Bd.small 1 (by decide) (by decide)
  unfold recOf
  split
  · rename_i x t n e
    cases e
    exact ⟨(h (.int t) (by simp)).b t rfl, (h (.int n) (by simp)).b n rfl⟩
  · exact ⟨z, z⟩
theorem im_tup {ds : List PyData} (h : Pts ds) (hl : ds.length ≤ 6) (g : rgB (.tuple ds) = true) : Im (.tuple ds) := by
  obtain ⟨k1, k3, k4, k5, k6⟩ := h.all
  have b := rec_bd k6
  refine ⟨g, by simpa [PyData.showable] using k1, by simp only [PyData.depth]; omega, ?_, b.1, b.2⟩
  have := tupleText_len_le (PyData.shownAll ds)
  rw [k5] at this
  show (tupleText (PyData.shownAll ds)).length ≤ 40000
  omega
theorem im_lst {ds : List PyData} (h : Pts ds) (hl : ds.length ≤ 6) : Im (.list ds) := by
  obtain ⟨k1, k3, k4, k5, k6⟩ := h.all
  have z : Bd 900 (0 : Int) := Bd.small 1 (by decide) (by decide)
  refine ⟨rfl, by simpa [PyData.showable] using k1, by simp only [PyData.depth]; omega, ?_, z, z⟩
  have := listText_len_le (PyData.shownAll ds)
  rw [k5] at this
  show (listText (PyData.shownAll ds)).length ≤ 40000
  omega
def imB (d : PyData) : Bool := rgB d && (d.showable && (decide (d.depth ≤ 20) && (decide (d.shown.length ≤ 200) && (decide ((recOf d).t.natAbs < 2 ^ 100) && decide ((recOf d).n.natAbs < 2 ^ 100)))))
theorem im_by {d : PyData} (h : imB d = true) : Im d := by
  unfold imB at h
  rw [Bool.and_eq_true, Bool.and_eq_true, Bool.and_eq_true, Bool.and_eq_true, Bool.and_eq_true] at h
  obtain ⟨h1, h2, h3, h4, h5, h6⟩ := h
  have h4 : d.shown.length ≤ 200 := of_decide_eq_true h4
  exact ⟨h1, h2, of_decide_eq_true h3, by omega, Bd.small 100 (of_decide_eq_true h5) (by decide), Bd.small 100 (of_decide_eq_true h6) (by decide)⟩
def ptB (d : PyData) : Bool := d.showable && (decide (d.depth ≤ 2) && (decide (d.shown.length ≤ 200) && match d with | .int i => decide (i.natAbs < 2 ^ 100) | _ => true))
theorem pt_by {d : PyData} (h : ptB d = true) : Pt d := by
  unfold ptB at h
  rw [Bool.and_eq_true, Bool.and_eq_true, Bool.and_eq_true] at h
  obtain ⟨h1, h2, h3, h4⟩ := h
  have h3 : d.shown.length ≤ 200 := of_decide_eq_true h3
  refine ⟨h1, of_decide_eq_true h2, by omega, fun i e => ?_⟩
  subst e
  exact Bd.small 100 (of_decide_eq_true h4) (by decide)
theorem pt_int {i : Int} (h : Bd 850 i) : Pt (.int i) := by
  have hz : i.natAbs.log2 < 1920 := (h.mono (show 850 ≤ 1920 by decide)).log (by decide)
  refine ⟨by simpa [PyData.showable] using hz, Nat.zero_le _, ?_, fun j e => by cases e; exact h.mono (by decide)⟩
  have := PyProof.Rows.int_text_len_1921 hz
  show (toString i : Str).length ≤ 4000
  omega
theorem pt_w (b : Bool) : Pt (.str (wd b)) := by cases b <;> exact pt_by (by decide +kernel)
theorem pt_l1 (b : Bool) : Pt (.list [.str (wd b)]) := by cases b <;> exact pt_by (by decide +kernel)
theorem int_sh900 {i : Int} (h : Bd 850 i) : (PyData.int i).shown.length ≤ 2000 := by
  have hz : i.natAbs.log2 < 1920 := (h.mono (show 850 ≤ 1920 by decide)).log (by decide)
  have := PyProof.Rows.int_text_len_1921 hz
  show (toString i : Str).length ≤ 2000
  omega
theorem pt_t1 {i : Int} (h : Bd 850 i) : Pt (.tuple [.int i]) := by
  have hi := pt_int h
  have hs := int_sh900 h
  have h1 : i.natAbs.log2 < 1920 := (h.mono (show 850 ≤ 1920 by decide)).log (by decide)
  refine ⟨by simp [PyData.showable, PyData.showableAll, h1], by simp [PyData.depth, PyData.depthAll], ?_, fun j e => by cases e⟩
  have := tupleText_len_le (PyData.shownAll [.int i])
  have e1 : ((PyData.shownAll [.int i]).map (·.length)).sum = (PyData.int i).shown.length := by simp [PyData.shownAll]
  have e2 : (PyData.shownAll [.int i]).length = 1 := rfl
  show (tupleText (PyData.shownAll [.int i])).length ≤ 4000
  omega
theorem pt_ts {i : Int} (h : Bd 850 i) : Pt (.str (toString i)) := by
  have := str_len2 (int_sh900 h)
  exact ⟨rfl, Nat.zero_le _, by omega, fun j e => by cases e⟩
theorem im_rec {d : Rec} (bt : Bd 850 d.t) (bn : Bd 850 d.n) : Im (rcD d) := im_tup (.cons (pt_w _) (.cons (pt_int bt) (.cons (pt_int bn) .nil))) (by simp) (rg_w d.lo)
theorem im_rlst {d : Rec} (bt : Bd 850 d.t) (bn : Bd 850 d.n) : Im (.list [.str (wd d.lo), .int d.t, .int d.n]) := im_lst (.cons (pt_w _) (.cons (pt_int bt) (.cons (pt_int bn) .nil))) (by simp)
/-! lists of these -/
def ImV (H : Hp) (x : V) : Prop := ∃ z, DvF H x z ∧ Im z
def ImL (H : Hp) (xs : List V) : Prop := ∀ x ∈ xs, ImV H x
def VlV (H : Hp) (x : V) : Prop := ∃ d, DvF H x d ∧ Vl d
def VlL (H : Hp) (xs : List V) : Prop := ∀ x ∈ xs, VlV H x
section
variable {H H' : Hp} {xs ys : List V}
theorem ImV.kp {x : V} (h : ImV H x) (f : Kp H H') : ImV H' x := let ⟨d, a, b⟩ := h; ⟨d, DvF.kp f _ _ a, b⟩
theorem VlV.kp {x : V} (h : VlV H x) (f : Kp H H') : VlV H' x := let ⟨d, a, b⟩ := h; ⟨d, DvF.kp f _ _ a, b⟩
theorem ImL.kp (h : ImL H xs) (f : Kp H H') : ImL H' xs := fun x hx => (h x hx).kp f
theorem VlL.kp (h : VlL H xs) (f : Kp H H') : VlL H' xs := fun x hx => (h x hx).kp f
theorem ImL.same (h : ImL H xs) (s : Same H H') : ImL H' xs := h.kp (Fr.same s).kp
theorem VlL.same (h : VlL H xs) (s : Same H H') : VlL H' xs := h.kp (Fr.same s).kp
theorem ImL.app (h : ImL H xs) (h2 : ImL H ys) : ImL H (xs ++ ys) := fun y hy => (List.mem_append.mp hy).elim (h y) (h2 y)
theorem VlL.app (h : VlL H xs) (h2 : VlL H ys) : VlL H (xs ++ ys) := fun y hy => (List.mem_append.mp hy).elim (h y) (h2 y)
theorem VlL.nil : VlL H [] := fun _ z => (nomatch z)
theorem VlL.cons {x : V} (o : VlV H x) (h : VlL H xs) : VlL H (x :: xs) := fun y hy => by
  rcases List.mem_cons.mp hy with rfl | hy
  · exact o
  · exact h y hy
theorem ImL.nil : ImL H [] := fun _ z => (nomatch z)
theorem ImL.cons {x : V} (o : ImV H x) (h : ImL H xs) : ImL H (x :: xs) := fun y hy => by
  rcases List.mem_cons.mp hy with rfl | hy
  · exact o
  · exact h y hy
theorem ImL.cut (h : ImL H xs) (lo hi : Option Int) : ImL H (cutV xs lo hi) := fun x hx => by
  unfold cutV at hx
  exact h x (List.mem_of_mem_drop (List.mem_of_mem_take hx))
theorem ImL.rev (h : ImL H xs) : ImL H xs.reverse := fun x hx => h x (List.mem_reverse.mp hx)
theorem ImL.data : ∀ {xs : List V}, ImL H xs → ∃ zs, DvFAll H xs zs ∧ (∀ z ∈ zs, Im z) ∧ zs.length = xs.length
  | [], _ => ⟨[], .nil, fun _ z => (nomatch z), rfl⟩
  | x :: xs, h => by
    obtain ⟨z, dz, hz⟩ := h x List.mem_cons_self
    obtain ⟨zs, a, b, c⟩ := ImL.data (xs := xs) (fun y hy => h y (List.mem_cons_of_mem _ hy))
    refine ⟨z :: zs, .cons dz a, fun y hy => ?_, by rw [List.length_cons, c]; rfl⟩
    rcases List.mem_cons.mp hy with rfl | hy
    · exact hz
    · exact b y hy
theorem im_all : ∀ {zs : List PyData}, (∀ z ∈ zs, Im z) → PyData.showableAll zs = true ∧ PyData.depthAll zs ≤ 20 ∧ ((PyData.shownAll zs).map (·.length)).sum ≤ 40000 * zs.length ∧ (PyData.shownAll zs).length = zs.length
  | [], _ => ⟨rfl, by decide, by simp [PyData.shownAll], rfl⟩
  | z :: zs, h => by
    obtain ⟨i1, i2, i3, i4⟩ := im_all (zs := zs) (fun y hy => h y (List.mem_cons_of_mem _ hy))
    have hz := h z List.mem_cons_self
    have h1 := hz.s1
    have h2 := hz.s2
    have h3 := hz.s3
    refine ⟨by simp [PyData.showableAll, h1, i1], by simp only [PyData.depthAll]; omega, ?_, by simp [PyData.shownAll, i4]⟩
    simp only [List.map_cons, PyData.shownAll, List.sum_cons, List.length_cons]
    omega
theorem rcs_bd {zs : List PyData} (h : ∀ z ∈ zs, Im z) : RcB 900 (zs.map recOf) := fun d hd => by
  obtain ⟨z, hz, rfl⟩ := List.mem_map.mp hd
  exact ⟨(h z hz).b1, (h z hz).b2⟩
theorem ImL.seq {L : Addr} {kb : Bool} (h : ImL H xs) (hl : xs.length ≤ 100) (e : H L = some (sqO kb xs)) : VlV H (.ref L) := by
  obtain ⟨zs, a, b, c⟩ := h.data
  obtain ⟨k1, k3, k4, k5⟩ := im_all b
  cases kb with
  | true =>
    refine ⟨.list zs, .lst e a, by simpa [PyData.showable] using k1, by simp only [PyData.depth]; omega, ?_, fun z hz => (b z hz).rg, rcs_bd b⟩
    have := listText_len_le (PyData.shownAll zs)
    rw [k5] at this
    show (listText (PyData.shownAll zs)).length ≤ sizeLine
    rw [sizeLine_eq]
    omega
  | false =>
    refine ⟨.tuple zs, .tup e a, by simpa [PyData.showable] using k1, by simp only [PyData.depth]; omega, ?_, fun z hz => (b z hz).rg, rcs_bd b⟩
    have := tupleText_len_le (PyData.shownAll zs)
    rw [k5] at this
    show (tupleText (PyData.shownAll zs)).length ≤ sizeLine
    rw [sizeLine_eq]
    omega
theorem ImL.obs {ds : List Rec} (h : Obs rcO H xs ds) (b : RcB 850 ds) : ImL H xs := fun x hx => by
  obtain ⟨i, hi⟩ := List.mem_iff_getElem?.mp hx
  obtain ⟨r, d, rfl, er, hd⟩ := h.at hi
  have bb := b d (List.mem_of_getElem? hd)
  exact ⟨rcD d, .tup er (.cons (.str _) (.cons (.int _) (.cons (.int _) .nil))), im_rec bb.1 bb.2⟩
end
def vlB (d : PyData) : Bool := d.showable && (decide (d.depth ≤ 20) && (decide (d.shown.length ≤ 200) && ((itemsOf d).all rgB && (recsOf d).all fun r => decide (r.t.natAbs < 2 ^ 100) && decide (r.n.natAbs < 2 ^ 100))))
theorem vl_by {d : PyData} (h : vlB d = true) : Vl d := by
  simp only [vlB, Bool.and_eq_true, decide_eq_true_eq] at h
  obtain ⟨h1, h2, h3, h4, h5⟩ := h
  refine ⟨h1, by omega, by rw [sizeLine_eq]; omega, fun z hz => List.all_eq_true.mp h4 z hz, fun r hr => ?_⟩
  have h4 := List.all_eq_true.mp h5 r hr
  rw [Bool.and_eq_true] at h4
  exact ⟨Bd.small 100 (of_decide_eq_true h4.1) (by decide), Bd.small 100 (of_decide_eq_true h4.2) (by decide)⟩
end Lf
namespace Lf
open PySem PySem.Spec PyProof.Rows L2
def Pd50 (d : PyData) : Prop := Pd28 d ∧ Vl d
def odB (d : PyData) : Bool := (d.showable && (decide (d.depth ≤ 20) && (decide (d.shown.length ≤ 200) && (PyData.strOk d.shown && !ruleD d)))) && ((itemsOf d).all rgB && (recsOf d).all fun r => decide (r.t.natAbs < 2 ^ 100) && decide (r.n.natAbs < 2 ^ 100))
theorem odd_by50 {d : PyData} (h : odB d = true) : Pd50 d := by
  unfold odB at h
  rw [Bool.and_eq_true] at h
  obtain ⟨h1, h⟩ := h
  rw [Bool.and_eq_true] at h
  obtain ⟨h2, h3⟩ := h
  have P := odd_by28 h1
  refine ⟨P, P.2.s1, Nat.le_trans P.2.s2 (by decide), Nat.le_trans P.2.s3 (by rw [sizeLine_eq]; decide), fun z hz => List.all_eq_true.mp h2 z hz, fun r hr => ?_⟩
  have h4 := List.all_eq_true.mp h3 r hr
  rw [Bool.and_eq_true] at h4
  exact ⟨Bd.small 100 (of_decide_eq_true h4.1) (by decide), Bd.small 100 (of_decide_eq_true h4.2) (by decide)⟩
section
variable {P : Program} {w : World} {K : PySem.W.Frag} {mg : Str → Option Value} {base : Heap}
def spOdd50 : Sp := fun vs H Q _ => ∃ (a : PA) (n : Nat), vs = [.ref a] ∧ Pen H a n ∧ n < 2 ^ 39 ∧ ∀ x H', Odp Pd50 H' x → Pen H' a (n + 1) → Fr H H' → Q x H'

theorem okA_l_odd (D : Df K mg "_law_odd" s_l_odd P_l_odd) (c_l_pick : C8.Cal P w K mg base 2 "_law_pick" spPick []) : C8.Cal P w K mg base 3 "_law_odd" spOdd50 [] := by
  refine cal_of D sc_l_odd (fun vs H Q E h => ?_) (fun f cdv A outer s H vs Q E hr h => ?_)
  · obtain ⟨a, n, rfl, _⟩ := h
    rfl
  · obtain ⟨a, n, rfl, hP, hn, kk⟩ := h
    refine ⟨_, (C8.pss_cut (ps_set (i := 1) sc_l_odd.nd rfl (Or.inl rfl) (pe_lst1 (pa_cons pe_non (pa_cons pe_bl (pa_cons pe_int (pa_cons (pe_un un_neg pe_int) (pa_cons pe_str (pa_cons pe_str (pa_cons pe_str (pa_cons (pe_tup (pa_cons pe_int pa_nil)) (pa_cons (pe_tup (pa_cons pe_int (pa_cons pe_int (pa_cons pe_int (pa_cons pe_int pa_nil))))) (pa_cons (pe_lst1 (pa_cons pe_int (pa_cons pe_int pa_nil))) (pa_cons (pe_lst1 (pa_cons pe_int (pa_cons pe_int (pa_cons pe_int pa_nil)))) (pa_cons (pe_tup (pa_cons pe_int (pa_cons pe_int pa_nil))) (pa_cons (pe_tup (pa_cons pe_int (pa_cons pe_int (pa_cons pe_int pa_nil)))) pa_nil)))))))))))))))
    (C8.pss_cut (ps_set (i := 1) sc_l_odd.nd rfl (Or.inl rfl) (pe_op op_cat (pv 1) (pe_lst1 (pa_cons (pe_tup (pa_cons pe_int (pa_cons pe_int pa_nil))) (pa_cons (pe_tup (pa_cons (pe_un un_neg pe_int) (pa_cons pe_int pa_nil))) (pa_cons (pe_tup (pa_cons pe_int (pa_cons pe_int (pa_cons pe_int pa_nil)))) (pa_cons (pe_tup (pa_cons (pe_un un_neg pe_int) (pa_cons pe_int (pa_cons pe_int pa_nil)))) (pa_cons (pe_tup (pa_cons pe_bl (pa_cons pe_int pa_nil))) (pa_cons (pe_tup (pa_cons pe_int (pa_cons pe_bl pa_nil))) (pa_cons (pe_tup (pa_cons pe_bl (pa_cons pe_int (pa_cons pe_int pa_nil)))) (pa_cons (pe_tup (pa_cons pe_int (pa_cons pe_int (pa_cons pe_non pa_nil)))) (pa_cons pe_dnewK (pa_cons (pe_tup (pa_cons (pe_tup pa_nil) pa_nil)) pa_nil)))))))))))))
    (pss_one (ps_ret (C8.pe_c c_l_pick hr (by decide) (by rfl) (pa_cons (pv 0) (pa_cons (pe_op op_cat (pv 1) (pe_lst1 (pa_cons (pe_tup (pa_cons pe_int (pa_cons pe_int pa_nil))) (pa_cons (pe_tup (pa_cons pe_int (pa_cons pe_int (pa_cons pe_int pa_nil)))) (pa_cons (pe_tup (pa_cons pe_str (pa_cons pe_int pa_nil))) (pa_cons (pe_tup (pa_cons pe_non (pa_cons pe_int pa_nil))) (pa_cons (pe_tup (pa_cons pe_int (pa_cons pe_int (pa_cons pe_str pa_nil)))) (pa_cons (pe_disp (pps_cons pe_str pe_int pps_nil) (by rfl) (by rfl) (fun z => by cases z) (by decide)) (pa_cons (pe_op op_pow pe_int pe_int) pa_nil))))))))) pa_nil))))))), ?_⟩
    refine ⟨fun σ' H' => ∃ (O : Addr) (xs : List V), σ' = [some (.ref a), some (.ref O)] ∧ H' O = some (.lst xs) ∧ OdpL Pd50 H' xs ∧ xs.length = 13 ∧ Same H H', ?_, ?_⟩
    · have s0 := Same.refl H
      have l0 := OdpL.nil (Pd := Pd50) (H := H)
      have l0 := l0.snoc (x := .non) ⟨_, .non, odd_by50 (by decide +kernel)⟩
      have l0 := l0.snoc (x := .bl true) ⟨_, .bl true, odd_by50 (by decide +kernel)⟩
      have l0 := l0.snoc (x := .int 0) ⟨_, .int 0, odd_by50 (by decide +kernel)⟩
      refine ⟨1, rfl, ?_⟩
      have l0 := l0.snoc (x := .int (-1)) ⟨_, .int (-1), odd_by50 (by decide +kernel)⟩
      have l0 := l0.snoc (x := .str "") ⟨_, .str "", odd_by50 (by decide +kernel)⟩
      have l0 := l0.snoc (x := .str "at least") ⟨_, .str "at least", odd_by50 (by decide +kernel)⟩
      have l0 := l0.snoc (x := .str "at most 3") ⟨_, .str "at most 3", odd_by50 (by decide +kernel)⟩
      refine ⟨len10 (by simp), fun o1 n1 => ?_⟩
      have z1 := sm_upd (o := .tup [.int 1]) n1
      have s1 := s0.trans z1
      have l1 := (l0.same z1).snoc (x := .ref o1) ⟨_, .tup upd_same (.cons (.int 1) (.nil)), odd_by50 (by decide +kernel)⟩
      refine ⟨len10 (by simp), fun o2 n2 => ?_⟩
      have z2 := sm_upd (o := .tup [.int 1, .int 2, .int 3, .int 4]) n2
      have s2 := s1.trans z2
      have l2 := (l1.same z2).snoc (x := .ref o2) ⟨_, .tup upd_same (.cons (.int 1) (.cons (.int 2) (.cons (.int 3) (.cons (.int 4) (.nil))))), odd_by50 (by decide +kernel)⟩
      refine ⟨len10 (by simp), fun o3 n3 m3 => ?_⟩
      have z3 := sm_upd (o := .lst [.int 1, .int 2]) n3
      have s3 := s2.trans z3
      have l3 := (l2.same z3).snoc (x := .ref o3) ⟨_, .lst m3 upd_same (.cons (.int 1) (.cons (.int 2) (.nil))), odd_by50 (by decide +kernel)⟩
      refine ⟨len10 (by simp), fun o4 n4 m4 => ?_⟩
      have z4 := sm_upd (o := .lst [.int 1, .int 2, .int 3]) n4
      have s4 := s3.trans z4
      have l4 := (l3.same z4).snoc (x := .ref o4) ⟨_, .lst m4 upd_same (.cons (.int 1) (.cons (.int 2) (.cons (.int 3) (.nil)))), odd_by50 (by decide +kernel)⟩
      refine ⟨len10 (by simp), fun o5 n5 => ?_⟩
      have z5 := sm_upd (o := .tup [.int 2, .int 4]) n5
      have s5 := s4.trans z5
      have l5 := (l4.same z5).snoc (x := .ref o5) ⟨_, .tup upd_same (.cons (.int 2) (.cons (.int 4) (.nil))), odd_by50 (by decide +kernel)⟩
      refine ⟨len10 (by simp), fun o6 n6 => ?_⟩
      have z6 := sm_upd (o := .tup [.int 2, .int 4, .int 1]) n6
      have s6 := s5.trans z6
      have l6 := (l5.same z6).snoc (x := .ref o6) ⟨_, .tup upd_same (.cons (.int 2) (.cons (.int 4) (.cons (.int 1) (.nil)))), odd_by50 (by decide +kernel)⟩
      refine ⟨len10 (by simp), fun O N M => ?_⟩
      have z := sm_upd (o := .lst [.non, .bl true, .int 0, .int (-1), .str "", .str "at least", .str "at most 3", .ref o1, .ref o2, .ref o3, .ref o4, .ref o5, .ref o6]) N
      exact ⟨O, _, rfl, upd_same, l6.same z, rfl, s6.trans z⟩
    rintro σ' G1 ⟨O1, xs1, rfl, e1, ol1, ln1, sH1⟩
    refine ⟨fun σ' H' => ∃ (O : Addr) (xs : List V), σ' = [some (.ref a), some (.ref O)] ∧ H' O = some (.lst xs) ∧ OdpL Pd50 H' xs ∧ xs.length = 23 ∧ Same H H', ?_, ?_⟩
    · have s0 := Same.refl G1
      have l0 := OdpL.nil (Pd := Pd50) (H := G1)
      refine ⟨_, rfl, ?_⟩
      refine ⟨len10 (by simp), fun o1 n1 => ?_⟩
      have z1 := sm_upd (o := .tup [.int 1, .int 0]) n1
      have s1 := s0.trans z1
      have l1 := (l0.same z1).snoc (x := .ref o1) ⟨_, .tup upd_same (.cons (.int 1) (.cons (.int 0) (.nil))), odd_by50 (by decide +kernel)⟩
      refine ⟨1, rfl, len10 (by simp), fun o2 n2 => ?_⟩
      have z2 := sm_upd (o := .tup [.int (-1), .int 2]) n2
      have s2 := s1.trans z2
      have l2 := (l1.same z2).snoc (x := .ref o2) ⟨_, .tup upd_same (.cons (.int (-1)) (.cons (.int 2) (.nil))), odd_by50 (by decide +kernel)⟩
      refine ⟨len10 (by simp), fun o3 n3 => ?_⟩
      have z3 := sm_upd (o := .tup [.int 1, .int 0, .int 3]) n3
      have s3 := s2.trans z3
      have l3 := (l2.same z3).snoc (x := .ref o3) ⟨_, .tup upd_same (.cons (.int 1) (.cons (.int 0) (.cons (.int 3) (.nil)))), odd_by50 (by decide +kernel)⟩
      refine ⟨1, rfl, len10 (by simp), fun o4 n4 => ?_⟩
      have z4 := sm_upd (o := .tup [.int (-1), .int 2, .int 0]) n4
      have s4 := s3.trans z4
      have l4 := (l3.same z4).snoc (x := .ref o4) ⟨_, .tup upd_same (.cons (.int (-1)) (.cons (.int 2) (.cons (.int 0) (.nil)))), odd_by50 (by decide +kernel)⟩
      refine ⟨len10 (by simp), fun o5 n5 => ?_⟩
      have z5 := sm_upd (o := .tup [.bl true, .int 1]) n5
      have s5 := s4.trans z5
      have l5 := (l4.same z5).snoc (x := .ref o5) ⟨_, .tup upd_same (.cons (.bl true) (.cons (.int 1) (.nil))), odd_by50 (by decide +kernel)⟩
      refine ⟨len10 (by simp), fun o6 n6 => ?_⟩
      have z6 := sm_upd (o := .tup [.int 1, .bl true]) n6
      have s6 := s5.trans z6
      have l6 := (l5.same z6).snoc (x := .ref o6) ⟨_, .tup upd_same (.cons (.int 1) (.cons (.bl true) (.nil))), odd_by50 (by decide +kernel)⟩
      refine ⟨len10 (by simp), fun o7 n7 => ?_⟩
      have z7 := sm_upd (o := .tup [.bl true, .int 2, .int 1]) n7
      have s7 := s6.trans z7
      have l7 := (l6.same z7).snoc (x := .ref o7) ⟨_, .tup upd_same (.cons (.bl true) (.cons (.int 2) (.cons (.int 1) (.nil)))), odd_by50 (by decide +kernel)⟩
      refine ⟨len10 (by simp), fun o8 n8 => ?_⟩
      have z8 := sm_upd (o := .tup [.int 1, .int 2, .non]) n8
      have s8 := s7.trans z8
      have l8 := (l7.same z8).snoc (x := .ref o8) ⟨_, .tup upd_same (.cons (.int 1) (.cons (.int 2) (.cons (.non) (.nil)))), odd_by50 (by decide +kernel)⟩
      refine fun o9 n9 => ?_
      have z9 := sm_upd (o := .dK []) n9
      have s9 := s8.trans z9
      have l9 := (l8.same z9).snoc (x := .ref o9) ⟨_, .dk0 upd_same, odd_by50 (by decide +kernel)⟩
      refine ⟨Nat.zero_le _, fun o10 n10 => ?_⟩
      have z10 := sm_upd (o := .tup []) n10
      have s10 := s9.trans z10
      have l10 := l9.same z10
      refine ⟨len10 (by simp), fun o11 n11 => ?_⟩
      have z11 := sm_upd (o := .tup [.ref o10]) n11
      have s11 := s10.trans z11
      have l11 := (l10.same z11).snoc (x := .ref o11) ⟨_, .tup upd_same (.cons (.tup (z11 _ _ upd_same) .nil) (.nil)), odd_by50 (by decide +kernel)⟩
      refine ⟨len10 (by simp), fun O N M => ?_⟩
      have z := sm_upd (o := .lst [.ref o1, .ref o2, .ref o3, .ref o4, .ref o5, .ref o6, .ref o7, .ref o8, .ref o9, .ref o11]) N
      have s := s11.trans z
      refine ⟨O1, O, _, _, rfl, rfl, s _ _ e1, upd_same, len10 (by rw [ln1]; show 13 + 10 ≤ 1000; decide), fun O2 N2 => ?_⟩
      have z2 := sm_upd (o := .lst (xs1 ++ [.ref o1, .ref o2, .ref o3, .ref o4, .ref o5, .ref o6, .ref o7, .ref o8, .ref o9, .ref o11])) N2
      refine ⟨O2, _, rfl, upd_same, ?_, by rw [List.length_append, ln1]; rfl, sH1.trans (s.trans z2)⟩
      intro x hx
      rcases List.mem_append.mp hx with hx | hx
      · exact ((ol1.same s).same z2) x hx
      · exact ((l11.same z).same z2) x hx
    rintro σ' G2 ⟨O2, xs2, rfl, e2, ol2, ln2, sH2⟩
    have s0 := Same.refl G2
    have l0 := OdpL.nil (Pd := Pd50) (H := G2)
    refine ⟨_, rfl, _, rfl, ?_⟩
    refine ⟨len10 (by simp), fun o1 n1 => ?_⟩
    have z1 := sm_upd (o := .tup [.int 0, .int 2]) n1
    have s1 := s0.trans z1
    have l1 := (l0.same z1).snoc (x := .ref o1) ⟨_, .tup upd_same (.cons (.int 0) (.cons (.int 2) (.nil))), odd_by50 (by decide +kernel)⟩
    refine ⟨len10 (by simp), fun o2 n2 => ?_⟩
    have z2 := sm_upd (o := .tup [.int 0, .int 2, .int 0]) n2
    have s2 := s1.trans z2
    have l2 := (l1.same z2).snoc (x := .ref o2) ⟨_, .tup upd_same (.cons (.int 0) (.cons (.int 2) (.cons (.int 0) (.nil)))), odd_by50 (by decide +kernel)⟩
    refine ⟨len10 (by simp), fun o3 n3 => ?_⟩
    have z3 := sm_upd (o := .tup [.str "1", .int 2]) n3
    have s3 := s2.trans z3
    have l3 := (l2.same z3).snoc (x := .ref o3) ⟨_, .tup upd_same (.cons (.str "1") (.cons (.int 2) (.nil))), odd_by50 (by decide +kernel)⟩
    refine ⟨len10 (by simp), fun o4 n4 => ?_⟩
    have z4 := sm_upd (o := .tup [.non, .int 1]) n4
    have s4 := s3.trans z4
    have l4 := (l3.same z4).snoc (x := .ref o4) ⟨_, .tup upd_same (.cons (.non) (.cons (.int 1) (.nil))), odd_by50 (by decide +kernel)⟩
    refine ⟨len10 (by simp), fun o5 n5 => ?_⟩
    have z5 := sm_upd (o := .tup [.int 1, .int 2, .str "3"]) n5
    have s5 := s4.trans z5
    have l5 := (l4.same z5).snoc (x := .ref o5) ⟨_, .tup upd_same (.cons (.int 1) (.cons (.int 2) (.cons (.str "3") (.nil)))), odd_by50 (by decide +kernel)⟩
    refine fun o6 n6 => ⟨upd_same, [(Sum.inr "at least", .int 1)], rfl, by show 1 ≤ 15; decide, ?_⟩
    rw [upd_upd, mergeK1]
    have z6 := sm_upd (o := .dK [(Sum.inr "at least", .int 1)]) n6
    have s6 := s5.trans z6
    have l6 := (l5.same z6).snoc (x := .ref o6) ⟨_, .dk1 upd_same (.int 1), odd_by50 (by decide +kernel)⟩
    refine ⟨_, _, rfl, rfl, ⟨by decide, by decide, by decide⟩, ?_⟩
    have l6 := l6.snoc (x := .int (10 ^ (30 : Int).toNat)) ⟨_, .int _, odd_by50 (by decide +kernel)⟩
    refine ⟨len10 (by simp), fun O N M => ?_⟩
    have z := sm_upd (o := .lst [.ref o1, .ref o2, .ref o3, .ref o4, .ref o5, .ref o6, .int (10 ^ (30 : Int).toNat)]) N
    have s := s6.trans z
    refine ⟨O2, O, _, _, rfl, rfl, s _ _ e2, upd_same, len10 (by rw [ln2]; show 23 + 7 ≤ 1000; decide), fun O2 N2 => ?_⟩
    have z2 := sm_upd (o := .lst (xs2 ++ [.ref o1, .ref o2, .ref o3, .ref o4, .ref o5, .ref o6, .int (10 ^ (30 : Int).toNat)])) N2
    have ol : OdpL Pd50 _ (xs2 ++ [.ref o1, .ref o2, .ref o3, .ref o4, .ref o5, .ref o6, .int (10 ^ (30 : Int).toNat)]) := ((ol2.same s).same z2).app ((l6.same z).same z2)
    have sF := sH2.trans (s.trans z2)
    refine ⟨a, O2, _, _, rfl, hP.same sF, by omega, upd_same, (fun e => by have := congrArg List.length e; rw [List.length_append, ln2] at this; cases this), by rw [List.length_append, ln2]; show 23 + 7 ≤ 1000; decide, fun x H' hx hP' f' => ?_⟩
    exact kk x H' ((ol.kp f'.kp) x hx) hP' ((Fr.same sF).trans f')
end
end Lf
namespace Lf
open PySem PySem.Spec PyProof.Rows L2
section
variable {P : Program} {w : World} {K : PySem.W.Frag} {mg : Str → Option Value} {base : Heap}
def spOddR50 : Sp := fun vs H Q _ => ∃ (a : PA) (n : Nat) (r : Addr) (d : Rec), vs = [.ref a, .ref r] ∧ Pen H a n ∧ n < 2 ^ 39 ∧ H r = some (rcO d) ∧ Bd 850 d.t ∧ Bd 850 d.n ∧ ∀ x H', Odp Im H' x → Pen H' a (n + 1) → Fr H H' → Q x H'

theorem okA_l_odd_record (D : Df K mg "_law_odd_record" s_l_odd_record P_l_odd_record) (B : Bi mg) (c_l_pick : C8.Cal P w K mg base 2 "_law_pick" spPick []) : C8.Cal P w K mg base 3 "_law_odd_record" spOddR50 [] := by
  refine cal_of D sc_l_odd_record (fun vs H Q E h => ?_) (fun f cdv A outer s H vs Q E hr h => ?_)
  · obtain ⟨a, n, r, d, rfl, _⟩ := h
    rfl
  · obtain ⟨a, n, r, d, rfl, hP, hn, er, bt, bn, kk⟩ := h
    have hlog : d.n.natAbs.log2 < 1920 := (bn.mono (show 850 ≤ 1920 by decide)).log (by decide)
    refine ⟨_, (pss_cons (ps_asg (pv 1) (pg_tup rfl (pgs_cons (pg_name (i := 2) sc_l_odd_record.nd rfl (Or.inl rfl)) (pgs_cons (pg_name (i := 3) sc_l_odd_record.nd rfl (Or.inl rfl)) (pgs_cons (pg_name (i := 4) sc_l_odd_record.nd rfl (Or.inl rfl)) pgs_nil)))))
    (C8.pss_cut (ps_set (i := 5) sc_l_odd_record.nd rfl (Or.inl rfl) (pe_lst1 (pa_cons pe_non (pa_cons pe_bl (pa_cons pe_str (pa_cons (pe_tup (pa_cons (pv 2) (pa_cons (pv 3) pa_nil))) (pa_cons (pe_tup (pa_cons (pv 2) (pa_cons (pv 3) (pa_cons (pv 4) (pa_cons pe_int pa_nil))))) (pa_cons (pe_lst1 (pa_cons (pv 2) (pa_cons (pv 3) (pa_cons (pv 4) pa_nil)))) pa_nil))))))))
    (C8.pss_cut (ps_set (i := 5) sc_l_odd_record.nd rfl (Or.inl rfl) (pe_op op_cat (pv 5) (pe_lst1 (pa_cons (pe_tup (pa_cons (pv 3) (pa_cons (pv 2) (pa_cons (pv 4) pa_nil)))) (pa_cons (pe_tup (pa_cons pe_str (pa_cons (pv 3) (pa_cons (pv 4) pa_nil)))) (pa_cons (pe_tup (pa_cons pe_str (pa_cons (pv 3) (pa_cons (pv 4) pa_nil)))) pa_nil))))))
    (C8.pss_cut (ps_set (i := 5) sc_l_odd_record.nd rfl (Or.inl rfl) (pe_op op_cat (pv 5) (pe_lst1 (pa_cons (pe_tup (pa_cons pe_str (pa_cons (pv 3) (pa_cons (pv 4) pa_nil)))) (pa_cons (pe_tup (pa_cons pe_non (pa_cons (pv 3) (pa_cons (pv 4) pa_nil)))) pa_nil)))))
    (C8.pss_cut (ps_set (i := 5) sc_l_odd_record.nd rfl (Or.inl rfl) (pe_op op_cat (pv 5) (pe_lst1 (pa_cons (pe_tup (pa_cons (pv 2) (pa_cons pe_bl (pa_cons (pv 4) pa_nil)))) (pa_cons (pe_tup (pa_cons (pv 2) (pa_cons (pv 3) (pa_cons pe_bl pa_nil)))) (pa_cons (pe_tup (pa_cons (pv 2) (pa_cons pe_non (pa_cons (pv 4) pa_nil)))) (pa_cons (pe_tup (pa_cons (pv 2) (pa_cons (pv 3) (pa_cons (pe_callTy (call_str_int) (by rfl) B.str_ bt_str (pa_cons (pv 4) pa_nil)) pa_nil)))) (pa_cons pe_dnewK pa_nil))))))))
    (pss_one (ps_ret (C8.pe_c c_l_pick hr (by decide) (by rfl) (pa_cons (pv 0) (pa_cons (pe_op op_cat (pv 5) (pe_lst1 (pa_cons (pe_tup (pa_cons (pv 2) (pa_cons (pe_tup (pa_cons (pv 3) pa_nil)) (pa_cons (pv 4) pa_nil)))) (pa_cons (pe_tup (pa_cons (pe_lst1 (pa_cons (pv 2) pa_nil)) (pa_cons (pv 3) (pa_cons (pv 4) pa_nil)))) (pa_cons (pe_tup pa_nil) (pa_cons pe_int pa_nil)))))) pa_nil)))))))))), ?_⟩
    refine ⟨_, rfl, r, _, rfl, SqT.of er, rfl, _, _, rfl, _, _, rfl, _, _, rfl, rfl, ?_⟩
    refine ⟨fun σ' H' => ∃ (O : Addr) (xs : List V), σ' = [some (.ref a), some (.ref r), some (.str (wd d.lo)), some (.int d.t), some (.int d.n), some (.ref O)] ∧ H' O = some (.lst xs) ∧ OdpL Im H' xs ∧ xs.length = 6 ∧ Same H H', ?_, ?_⟩
    · have s0 := Same.refl H
      have l0 := OdpL.nil (Pd := Im) (H := H)
      have l0 := l0.snoc (x := .non) ⟨_, .non, im_by (by decide +kernel)⟩
      have l0 := l0.snoc (x := .bl true) ⟨_, .bl true, im_by (by decide +kernel)⟩
      have l0 := l0.snoc (x := .str "at least") ⟨_, .str "at least", im_by (by decide +kernel)⟩
      refine ⟨_, rfl, _, rfl, len10 (by simp), fun o1 n1 => ?_⟩
      have z1 := sm_upd (o := .tup [.str (wd d.lo), .int d.t]) n1
      have s1 := s0.trans z1
      have l1 := (l0.same z1).snoc (x := .ref o1) ⟨_, .tup upd_same (.cons (.str _) (.cons (.int _) (.nil))), im_tup (.cons (pt_w _) (.cons (pt_int (by first | exact bt | exact bn)) .nil)) (by simp) rfl⟩
      refine ⟨_, rfl, _, rfl, _, rfl, len10 (by simp), fun o2 n2 => ?_⟩
      have z2 := sm_upd (o := .tup [.str (wd d.lo), .int d.t, .int d.n, .int 0]) n2
      have s2 := s1.trans z2
      have l2 := (l1.same z2).snoc (x := .ref o2) ⟨_, .tup upd_same (.cons (.str _) (.cons (.int _) (.cons (.int _) (.cons (.int 0) (.nil))))), im_tup (.cons (pt_w _) (.cons (pt_int (by first | exact bt | exact bn)) (.cons (pt_int (by first | exact bt | exact bn)) (.cons (pt_by (by decide +kernel)) .nil)))) (by simp) rfl⟩
      refine ⟨_, rfl, _, rfl, _, rfl, len10 (by simp), fun o3 n3 m3 => ?_⟩
      have z3 := sm_upd (o := .lst [.str (wd d.lo), .int d.t, .int d.n]) n3
      have s3 := s2.trans z3
      have l3 := (l2.same z3).snoc (x := .ref o3) ⟨_, .lst m3 upd_same (.cons (.str _) (.cons (.int _) (.cons (.int _) (.nil)))), im_lst (.cons (pt_w _) (.cons (pt_int (by first | exact bt | exact bn)) (.cons (pt_int (by first | exact bt | exact bn)) .nil))) (by simp)⟩
      refine ⟨len10 (by simp), fun O N M => ?_⟩
      have z := sm_upd (o := .lst [.non, .bl true, .str "at least", .ref o1, .ref o2, .ref o3]) N
      exact ⟨O, _, rfl, upd_same, l3.same z, rfl, s3.trans z⟩
    rintro σ' G1 ⟨O1, xs1, rfl, e1, ol1, ln1, sH1⟩
    refine ⟨fun σ' H' => ∃ (O : Addr) (xs : List V), σ' = [some (.ref a), some (.ref r), some (.str (wd d.lo)), some (.int d.t), some (.int d.n), some (.ref O)] ∧ H' O = some (.lst xs) ∧ OdpL Im H' xs ∧ xs.length = 9 ∧ Same H H', ?_, ?_⟩
    · have s0 := Same.refl G1
      have l0 := OdpL.nil (Pd := Im) (H := G1)
      refine ⟨_, rfl, ?_⟩
      refine ⟨_, rfl, _, rfl, _, rfl, len10 (by simp), fun o1 n1 => ?_⟩
      have z1 := sm_upd (o := .tup [.int d.t, .str (wd d.lo), .int d.n]) n1
      have s1 := s0.trans z1
      have l1 := (l0.same z1).snoc (x := .ref o1) ⟨_, .tup upd_same (.cons (.int _) (.cons (.str _) (.cons (.int _) (.nil)))), im_tup (.cons (pt_int (by first | exact bt | exact bn)) (.cons (pt_w _) (.cons (pt_int (by first | exact bt | exact bn)) .nil))) (by simp) rfl⟩
      refine ⟨_, rfl, _, rfl, len10 (by simp), fun o2 n2 => ?_⟩
      have z2 := sm_upd (o := .tup [.str "at  least", .int d.t, .int d.n]) n2
      have s2 := s1.trans z2
      have l2 := (l1.same z2).snoc (x := .ref o2) ⟨_, .tup upd_same (.cons (.str "at  least") (.cons (.int _) (.cons (.int _) (.nil)))), im_tup (.cons (pt_by (by decide +kernel)) (.cons (pt_int (by first | exact bt | exact bn)) (.cons (pt_int (by first | exact bt | exact bn)) .nil))) (by simp) (by show (!false && SeqAt.shaped (.str "at  least")) = true; decide +kernel)⟩
      refine ⟨_, rfl, _, rfl, len10 (by simp), fun o3 n3 => ?_⟩
      have z3 := sm_upd (o := .tup [.str "At least", .int d.t, .int d.n]) n3
      have s3 := s2.trans z3
      have l3 := (l2.same z3).snoc (x := .ref o3) ⟨_, .tup upd_same (.cons (.str "At least") (.cons (.int _) (.cons (.int _) (.nil)))), im_tup (.cons (pt_by (by decide +kernel)) (.cons (pt_int (by first | exact bt | exact bn)) (.cons (pt_int (by first | exact bt | exact bn)) .nil))) (by simp) (by show (!false && SeqAt.shaped (.str "At least")) = true; decide +kernel)⟩
      refine ⟨len10 (by simp), fun O N M => ?_⟩
      have z := sm_upd (o := .lst [.ref o1, .ref o2, .ref o3]) N
      have s := s3.trans z
      refine ⟨O1, O, _, _, rfl, rfl, s _ _ e1, upd_same, len10 (by rw [ln1]; show 6 + 3 ≤ 1000; decide), fun O2 N2 => ?_⟩
      have z2 := sm_upd (o := .lst (xs1 ++ [.ref o1, .ref o2, .ref o3])) N2
      refine ⟨O2, _, rfl, upd_same, ?_, by rw [List.length_append, ln1]; rfl, sH1.trans (s.trans z2)⟩
      intro x hx
      rcases List.mem_append.mp hx with hx | hx
      · exact ((ol1.same s).same z2) x hx
      · exact ((l3.same z).same z2) x hx
    rintro σ' G2 ⟨O2, xs2, rfl, e2, ol2, ln2, sH2⟩
    refine ⟨fun σ' H' => ∃ (O : Addr) (xs : List V), σ' = [some (.ref a), some (.ref r), some (.str (wd d.lo)), some (.int d.t), some (.int d.n), some (.ref O)] ∧ H' O = some (.lst xs) ∧ OdpL Im H' xs ∧ xs.length = 11 ∧ Same H H', ?_, ?_⟩
    · have s0 := Same.refl G2
      have l0 := OdpL.nil (Pd := Im) (H := G2)
      refine ⟨_, rfl, ?_⟩
      refine ⟨_, rfl, _, rfl, len10 (by simp), fun o1 n1 => ?_⟩
      have z1 := sm_upd (o := .tup [.str "", .int d.t, .int d.n]) n1
      have s1 := s0.trans z1
      have l1 := (l0.same z1).snoc (x := .ref o1) ⟨_, .tup upd_same (.cons (.str "") (.cons (.int _) (.cons (.int _) (.nil)))), im_tup (.cons (pt_by (by decide +kernel)) (.cons (pt_int (by first | exact bt | exact bn)) (.cons (pt_int (by first | exact bt | exact bn)) .nil))) (by simp) (by show (!false && SeqAt.shaped (.str "")) = true; decide +kernel)⟩
      refine ⟨_, rfl, _, rfl, len10 (by simp), fun o2 n2 => ?_⟩
      have z2 := sm_upd (o := .tup [.non, .int d.t, .int d.n]) n2
      have s2 := s1.trans z2
      have l2 := (l1.same z2).snoc (x := .ref o2) ⟨_, .tup upd_same (.cons (.non) (.cons (.int _) (.cons (.int _) (.nil)))), im_tup (.cons (pt_by (by decide +kernel)) (.cons (pt_int (by first | exact bt | exact bn)) (.cons (pt_int (by first | exact bt | exact bn)) .nil))) (by simp) rfl⟩
      refine ⟨len10 (by simp), fun O N M => ?_⟩
      have z := sm_upd (o := .lst [.ref o1, .ref o2]) N
      have s := s2.trans z
      refine ⟨O2, O, _, _, rfl, rfl, s _ _ e2, upd_same, len10 (by rw [ln2]; show 9 + 2 ≤ 1000; decide), fun O2 N2 => ?_⟩
      have z2 := sm_upd (o := .lst (xs2 ++ [.ref o1, .ref o2])) N2
      refine ⟨O2, _, rfl, upd_same, ?_, by rw [List.length_append, ln2]; rfl, sH2.trans (s.trans z2)⟩
      intro x hx
      rcases List.mem_append.mp hx with hx | hx
      · exact ((ol2.same s).same z2) x hx
      · exact ((l2.same z).same z2) x hx
    rintro σ' G3 ⟨O3, xs3, rfl, e3, ol3, ln3, sH3⟩
    refine ⟨fun σ' H' => ∃ (O : Addr) (xs : List V), σ' = [some (.ref a), some (.ref r), some (.str (wd d.lo)), some (.int d.t), some (.int d.n), some (.ref O)] ∧ H' O = some (.lst xs) ∧ OdpL Im H' xs ∧ xs.length = 16 ∧ Same H H', ?_, ?_⟩
    · have s0 := Same.refl G3
      have l0 := OdpL.nil (Pd := Im) (H := G3)
      refine ⟨_, rfl, ?_⟩
      refine ⟨_, rfl, _, rfl, len10 (by simp), fun o1 n1 => ?_⟩
      have z1 := sm_upd (o := .tup [.str (wd d.lo), .bl true, .int d.n]) n1
      have s1 := s0.trans z1
      have l1 := (l0.same z1).snoc (x := .ref o1) ⟨_, .tup upd_same (.cons (.str _) (.cons (.bl true) (.cons (.int _) (.nil)))), im_tup (.cons (pt_w _) (.cons (pt_by (by decide +kernel)) (.cons (pt_int (by first | exact bt | exact bn)) .nil))) (by simp) (rg_w d.lo)⟩
      refine ⟨_, rfl, _, rfl, len10 (by simp), fun o2 n2 => ?_⟩
      have z2 := sm_upd (o := .tup [.str (wd d.lo), .int d.t, .bl false]) n2
      have s2 := s1.trans z2
      have l2 := (l1.same z2).snoc (x := .ref o2) ⟨_, .tup upd_same (.cons (.str _) (.cons (.int _) (.cons (.bl false) (.nil)))), im_tup (.cons (pt_w _) (.cons (pt_int (by first | exact bt | exact bn)) (.cons (pt_by (by decide +kernel)) .nil))) (by simp) (rg_w d.lo)⟩
      refine ⟨_, rfl, _, rfl, len10 (by simp), fun o3 n3 => ?_⟩
      have z3 := sm_upd (o := .tup [.str (wd d.lo), .non, .int d.n]) n3
      have s3 := s2.trans z3
      have l3 := (l2.same z3).snoc (x := .ref o3) ⟨_, .tup upd_same (.cons (.str _) (.cons (.non) (.cons (.int _) (.nil)))), im_tup (.cons (pt_w _) (.cons (pt_by (by decide +kernel)) (.cons (pt_int (by first | exact bt | exact bn)) .nil))) (by simp) (rg_w d.lo)⟩
      refine ⟨_, rfl, _, rfl, _, rfl, _, rfl, hlog, len10 (by simp), fun o4 n4 => ?_⟩
      have z4 := sm_upd (o := .tup [.str (wd d.lo), .int d.t, .str (toString d.n)]) n4
      have s4 := s3.trans z4
      have l4 := (l3.same z4).snoc (x := .ref o4) ⟨_, .tup upd_same (.cons (.str _) (.cons (.int _) (.cons (.str _) (.nil)))), im_tup (.cons (pt_w _) (.cons (pt_int (by first | exact bt | exact bn)) (.cons (pt_ts bn) .nil))) (by simp) (rg_w d.lo)⟩
      refine fun o5 n5 => ?_
      have z5 := sm_upd (o := .dK []) n5
      have s5 := s4.trans z5
      have l5 := (l4.same z5).snoc (x := .ref o5) ⟨_, .dk0 upd_same, im_by (by decide +kernel)⟩
      refine ⟨len10 (by simp), fun O N M => ?_⟩
      have z := sm_upd (o := .lst [.ref o1, .ref o2, .ref o3, .ref o4, .ref o5]) N
      have s := s5.trans z
      refine ⟨O3, O, _, _, rfl, rfl, s _ _ e3, upd_same, len10 (by rw [ln3]; show 11 + 5 ≤ 1000; decide), fun O2 N2 => ?_⟩
      have z2 := sm_upd (o := .lst (xs3 ++ [.ref o1, .ref o2, .ref o3, .ref o4, .ref o5])) N2
      refine ⟨O2, _, rfl, upd_same, ?_, by rw [List.length_append, ln3]; rfl, sH3.trans (s.trans z2)⟩
      intro x hx
      rcases List.mem_append.mp hx with hx | hx
      · exact ((ol3.same s).same z2) x hx
      · exact ((l5.same z).same z2) x hx
    rintro σ' G4 ⟨O4, xs4, rfl, e4, ol4, ln4, sH4⟩
    have s0 := Same.refl G4
    have l0 := OdpL.nil (Pd := Im) (H := G4)
    refine ⟨_, rfl, _, rfl, ?_⟩
    refine ⟨_, rfl, _, rfl, len10 (by simp), fun o1 n1 => ?_⟩
    have z1 := sm_upd (o := .tup [.int d.t]) n1
    have s1 := s0.trans z1
    have l1 := l0.same z1
    refine ⟨_, rfl, len10 (by simp), fun o2 n2 => ?_⟩
    have z2 := sm_upd (o := .tup [.str (wd d.lo), .ref o1, .int d.n]) n2
    have s2 := s1.trans z2
    have l2 := (l1.same z2).snoc (x := .ref o2) ⟨_, .tup upd_same (.cons (.str _) (.cons (.tup (z2 _ _ upd_same) (.cons (.int _) .nil)) (.cons (.int _) (.nil)))), im_tup (.cons (pt_w _) (.cons (pt_t1 (by first | exact bt | exact bn)) (.cons (pt_int (by first | exact bt | exact bn)) .nil))) (by simp) (rg_w d.lo)⟩
    refine ⟨_, rfl, len10 (by simp), fun o3 n3 m3 => ?_⟩
    have z3 := sm_upd (o := .lst [.str (wd d.lo)]) n3
    have s3 := s2.trans z3
    have l3 := l2.same z3
    refine ⟨_, rfl, _, rfl, len10 (by simp), fun o4 n4 => ?_⟩
    have z4 := sm_upd (o := .tup [.ref o3, .int d.t, .int d.n]) n4
    have s4 := s3.trans z4
    have l4 := (l3.same z4).snoc (x := .ref o4) ⟨_, .tup upd_same (.cons (.lst m3 (z4 _ _ upd_same) (.cons (.str _) .nil)) (.cons (.int _) (.cons (.int _) (.nil)))), im_tup (.cons (pt_l1 _) (.cons (pt_int (by first | exact bt | exact bn)) (.cons (pt_int (by first | exact bt | exact bn)) .nil))) (by simp) (rg_lw d.lo)⟩
    refine ⟨Nat.zero_le _, fun o5 n5 => ?_⟩
    have z5 := sm_upd (o := .tup []) n5
    have s5 := s4.trans z5
    have l5 := (l4.same z5).snoc (x := .ref o5) ⟨_, .tup upd_same (.nil), im_by (by decide +kernel)⟩
    have l5 := l5.snoc (x := .int 7) ⟨_, .int 7, im_by (by decide +kernel)⟩
    refine ⟨len10 (by simp), fun O N M => ?_⟩
    have z := sm_upd (o := .lst [.ref o2, .ref o4, .ref o5, .int 7]) N
    have s := s5.trans z
    refine ⟨O4, O, _, _, rfl, rfl, s _ _ e4, upd_same, len10 (by rw [ln4]; show 16 + 4 ≤ 1000; decide), fun O2 N2 => ?_⟩
    have z2 := sm_upd (o := .lst (xs4 ++ [.ref o2, .ref o4, .ref o5, .int 7])) N2
    have ol : OdpL Im _ (xs4 ++ [.ref o2, .ref o4, .ref o5, .int 7]) := ((ol4.same s).same z2).app ((l5.same z).same z2)
    have sF := sH4.trans (s.trans z2)
    refine ⟨a, O2, _, _, rfl, hP.same sF, by omega, upd_same, (fun e => by have := congrArg List.length e; rw [List.length_append, ln4] at this; cases this), by rw [List.length_append, ln4]; show 16 + 4 ≤ 1000; decide, fun x H' hx hP' f' => ?_⟩
    exact kk x H' ((ol.kp f'.kp) x hx) hP' ((Fr.same sF).trans f')
end
end Lf
namespace Lf
open PySem PySem.Spec PyProof.Rows L2
/-! ### _law_moved -/
section
variable {P : Program} {w : World} {K : PySem.W.Frag} {mg : Str → Option Value} {base : Heap}
def spMov : Sp := fun vs H Q _ => ∃ (a : PA) (n : Nat) (r e : Addr) (p q c : Int) (d : Rec), vs = [.ref a, .ref r, .ref e] ∧ Pen H a n ∧ n < 2 ^ 37 ∧ H r = some (.tup [.int p, .int q, .int c]) ∧ RuleB 200 p q c ∧ H e = some (rcO d) ∧ Bd 410 d.t ∧ Bd 410 d.n ∧
  ∀ e' H' d', H' e' = some (rcO d') → Bd 850 d'.t → Bd 850 d'.n → Pen H' a (n + 4) → Fr H H' → Q (.ref e') H'
abbrev s_l_moved : Stmt := topS 60
abbrev N_l_moved : List Str := ["_law_pen_here", "_law_rule", "_law_record_here", "_law_bound", "_law_time_here", "_law_number", "_law_way", "_law_step", "_law_later"]
abbrev P_l_moved : List Str := ["_law_pen_here", "_law_rule", "_law_record_here"]
theorem sc_l_moved : FnScope N_l_moved P_l_moved (defScope s_l_moved) := ⟨rfl, rfl, rfl, by decide +kernel, rfl, by decide +kernel, by decide +kernel⟩
theorem ok_l_moved (D : Df K mg "_law_moved" s_l_moved P_l_moved) (B : Bi mg) (c_l_draw : C8.Cal P w K mg base 1 "_law_draw" spDraw []) (c_l_pick : C8.Cal P w K mg base 2 "_law_pick" spPick []) (c_l_count : C8.Cal P w K mg base 1 "_law_count" spCount30 []) : C8.Cal P w K mg base 3 "_law_moved" spMov [] := by
  refine cal_of D sc_l_moved (fun vs H Q E h => ?_) (fun f cdv A outer s H vs Q E hr h => ?_)
  · obtain ⟨a, n, r, e, p, q, c, d, rfl, _⟩ := h
    rfl
  · obtain ⟨a, n, r, e, p, q, c, d, rfl, hP, hn, er, R, ee, bt, bn, kk⟩ := h
    refine ⟨_, (pss_cons (ps_asg (pv 2) (pg_tup rfl (pgs_cons (pg_name (i := 3) sc_l_moved.nd rfl (Or.inl rfl)) (pgs_cons (pg_name (i := 4) sc_l_moved.nd rfl (Or.inl rfl)) (pgs_cons (pg_name (i := 5) sc_l_moved.nd rfl (Or.inl rfl)) pgs_nil)))))
    (pss_cons (ps_par (i := 6) (j := 7) rfl sc_l_moved.nd rfl rfl (by decide) rfl rfl (pa_cons (C8.pe_c c_l_draw hr (by decide) (by rfl) (pa_cons (pv 0) (pa_cons pe_int pa_nil))) (pa_cons (pe_op op_add pe_int (C8.pe_c c_l_draw hr (by decide) (by rfl) (pa_cons (pv 0) (pa_cons pe_int pa_nil)))) pa_nil)) rfl)
    (pss_cons (ps_if (pt_cmpR op_eq (pv 6) pe_int (nomark _))
      (pss_one (ps_ret (pe_tup (pa_cons (pv 3) (pa_cons (pv 4) (pa_cons (pe_ifExp (pt_cmpR op_eq (pv 3) pe_str (nomark _)) (pe_op op_sub (pv 5) (pv 7)) (pe_op op_add (pv 5) (pv 7))) pa_nil))))))
      pss_nil)
    (pss_cons (ps_set (i := 8) sc_l_moved.nd rfl (Or.inl rfl) (pe_op op_add (pv 4) (pe_op op_mulW (pv 7) (C8.pe_c c_l_pick hr (by decide) (by rfl) (pa_cons (pv 0) (pa_cons (pe_lst (pa_cons pe_int (pa_cons (pe_un un_neg pe_int) (pa_cons (pe_ix (r := rIxT K) ix_tup (pv 1) pe_int (fun _ _ => rfl)) (pa_cons (pe_op op_sub pe_int (pe_ix (r := rIxT K) ix_tup (pv 1) pe_int (fun _ _ => rfl))) pa_nil))))) pa_nil))))))
    (pss_cons (ps_if (pt_cmpR op_eq (pv 6) pe_int (nomark _))
      (pss_one (ps_ret (pe_tup (pa_cons (pv 3) (pa_cons (pv 8) (pa_cons (C8.pe_c c_l_count hr (by decide) (by rfl) (pa_cons (pv 1) (pa_cons (pv 8) pa_nil))) pa_nil))))))
      pss_nil)
    (pss_cons (ps_if (pt_cmpR op_eq (pv 6) pe_int (nomark _))
      (pss_one (ps_ret (pe_tup (pa_cons (pv 3) (pa_cons (pv 4) (pa_cons (pe_op op_add (pv 5) (C8.pe_c c_l_pick hr (by decide) (by rfl) (pa_cons (pv 0) (pa_cons (pe_lst (pa_cons pe_int (pa_cons (pe_un un_neg pe_int) pa_nil))) pa_nil)))) pa_nil))))))
      pss_nil)
    (pss_one (ps_ret (pe_tup (pa_cons (pe_ifExp (pt_cmpR op_eq (pv 3) pe_str (nomark _)) pe_str pe_str) (pa_cons (pv 4) (pa_cons (pv 5) pa_nil)))))))))))), ?_⟩
    refine ⟨_, rfl, e, _, rfl, SqT.of ee, rfl, _, _, rfl, _, _, rfl, _, _, rfl, rfl, ?_⟩
    refine ⟨_, rfl, a, n, 4, rfl, hP, by omega, by decide, Bd.small 20 (by decide) (by decide), fun wy H1 w0 w1 hP1 f1 => ?_⟩
    refine ⟨_, rfl, a, _, 4, rfl, hP1, by omega, by decide, Bd.small 20 (by decide) (by decide), fun st H2 st0 st1 hP2 f2 => ⟨_, _, rfl, rfl, _, _, rfl, ?_⟩⟩
    have f02 := f1.trans f2
    have er2 := f02.t _ _ er
    have bst : Bd 10 (1 + st) := Bd.small 10 (by omega) (by decide)
    clear hP1 hP f1 f2
    refine ⟨_, rfl, rfl, _, rfl, ite2 (fun c1 => ?_) (fun c1 => ?_)⟩
    · refine ⟨_, rfl, _, rfl, _, rfl, rfl, _, rfl, ?_⟩
      rw [w_lo]
      cases hb : d.lo with
      | true =>
        refine iteT ⟨_, rfl, _, rfl, _, _, rfl, rfl, len10 (by simp), fun e' ne => ?_⟩
        exact kk e' _ ⟨true, d.t, d.n - (1 + st)⟩ upd_same (bt.mono (by decide)) ((Bd.sub bn (bst.mono (by decide))).mono (by decide)) ((hP2.new ne).mono (by omega)) (f02.trans (Fr.new ne))
      | false =>
        refine iteF ⟨_, rfl, _, rfl, _, _, rfl, rfl, len10 (by simp), fun e' ne => ?_⟩
        exact kk e' _ ⟨false, d.t, d.n + (1 + st)⟩ upd_same (bt.mono (by decide)) ((Bd.add bn (bst.mono (by decide))).mono (by decide)) ((hP2.new ne).mono (by omega)) (f02.trans (Fr.new ne))
    have q1 := R.q1
    refine ⟨_, rfl, _, rfl, _, rfl, 1, rfl, _, rfl, r, _, _, _, rfl, rfl, SqT.of er2, atI_nat (j := 1) rfl, _, rfl, r, _, _, _, rfl, rfl, SqT.of er2, atI_nat (j := 1) rfl, _, _, rfl, rfl, len10 (by simp), fun O nO => ?_⟩
    have zO := sm_upd (o := .lst [.int 1, .int (-1), .int q, .int (0 - q)]) nO
    refine ⟨a, O, _, _, rfl, hP2.same zO, by omega, upd_same, by simp, by simp, fun x H3 hx hP3 f3 => ?_⟩
    obtain ⟨u, rfl, bu⟩ : ∃ u : Int, x = .int u ∧ Bd 201 u := by
      simp only [List.mem_cons, List.not_mem_nil, or_false] at hx
      rcases hx with rfl | rfl | rfl | rfl
      · exact ⟨_, rfl, Bd.small 3 (by decide) (by decide)⟩
      · exact ⟨_, rfl, Bd.small 3 (by decide) (by decide)⟩
      · exact ⟨_, rfl, R.bq.mono (by decide)⟩
      · exact ⟨_, rfl, Bd.sub (Bd.small 1 (by decide) (by decide)) R.bq⟩
    have f03 := f02.trans ((Fr.same zO).trans f3)
    have er3 := f03.t _ _ er
    have bm : Bd 211 ((1 + st) * u) := Bd.mul bst bu
    have bl : Bd 411 (d.t + (1 + st) * u) := Bd.add bt (bm.mono (by decide))
    refine ⟨_, _, rfl, rfl, mulW bst bu (by decide) (by decide) (by decide), _, _, rfl, rfl, ?_⟩
    refine ⟨_, rfl, rfl, _, rfl, ite2 (fun c2 => ?_) (fun c2 => ?_)⟩
    · have bc : Bd 613 ((p * (d.t + (1 + st) * u) + c) / q) := Bd.ediv (Bd.add ((Bd.mul R.bp bl).mono (by decide)) (R.bc.mono (by decide))) (by omega)
      refine ⟨_, rfl, _, rfl, _, rfl, _, rfl, r, p, q, c, _, 420, rfl, er3, R.mono (by decide), bl.mono (by decide), by decide, by decide, len10 (by simp), fun e' ne => ?_⟩
      exact kk e' _ ⟨d.lo, d.t + (1 + st) * u, (p * (d.t + (1 + st) * u) + c) / q⟩ upd_same (bl.mono (by decide)) (bc.mono (by decide)) ((hP3.new ne).mono (by omega)) (f03.trans (Fr.new ne))
    · refine ⟨_, rfl, rfl, _, rfl, ite2 (fun c3 => ?_) (fun c3 => ?_)⟩
      · refine ⟨_, rfl, _, rfl, _, rfl, _, rfl, 1, rfl, len10 (by simp), fun O2 nO2 => ?_⟩
        have zO2 := sm_upd (o := .lst [.int 1, .int (-1)]) nO2
        refine ⟨a, O2, _, _, rfl, hP3.same zO2, by omega, upd_same, by simp, by simp, fun x H4 hx hP4 f4 => ?_⟩
        obtain ⟨y, rfl, by_⟩ : ∃ u : Int, x = .int u ∧ Bd 3 u := by
          simp only [List.mem_cons, List.not_mem_nil, or_false] at hx
          rcases hx with rfl | rfl
          · exact ⟨_, rfl, Bd.small 3 (by decide) (by decide)⟩
          · exact ⟨_, rfl, Bd.small 3 (by decide) (by decide)⟩
        refine ⟨_, _, rfl, rfl, len10 (by simp), fun e' ne => ?_⟩
        exact kk e' _ ⟨d.lo, d.t, d.n + y⟩ upd_same (bt.mono (by decide)) ((Bd.add bn (by_.mono (by decide))).mono (by decide)) ((hP4.new ne).mono (by omega)) (f03.trans ((Fr.same zO2).trans (f4.trans (Fr.new ne))))
      · refine ⟨_, rfl, rfl, _, rfl, ?_⟩
        rw [w_hi]
        cases hb : d.lo with
        | true =>
          refine iteF ⟨_, rfl, _, rfl, len10 (by simp), fun e' ne => ?_⟩
          exact kk e' _ ⟨false, d.t, d.n⟩ upd_same (bt.mono (by decide)) (bn.mono (by decide)) ((hP3.new ne).mono (by omega)) (f03.trans (Fr.new ne))
        | false =>
          refine iteT ⟨_, rfl, _, rfl, len10 (by simp), fun e' ne => ?_⟩
          exact kk e' _ ⟨true, d.t, d.n⟩ upd_same (bt.mono (by decide)) (bn.mono (by decide)) ((hP3.new ne).mono (by omega)) (f03.trans (Fr.new ne))
end
end Lf
namespace Lf
open PySem PySem.Spec PyProof.Rows L2
/-! ### _law_values -/
theorem Odp.im {H : Hp} {x : V} (h : Odp Im H x) : ImV H x := let ⟨d, a, b⟩ := h; ⟨d, Dv.dvf _ _ a, b⟩
theorem Odp.vl {H : Hp} {x : V} (h : Odp Pd50 H x) : VlV H x := let ⟨d, a, b⟩ := h; ⟨d, Dv.dvf _ _ a, b.2⟩
theorem VlL.one {H : Hp} {x : V} (o : VlV H x) : VlL H [x] := .cons o .nil
def rListOf (K : PySem.W.Frag) : List V → Hp → VK → Prop := fun xs H Q => ∃ p ys, xs = [.ref p] ∧ (SqL K H p ys ∨ SqT K H p ys) ∧ ∀ l, H l = none → Q (.ref l) (upd H l (.lst ys))
theorem erH_at {F a : Addr} {H : Hp} {o : HO} (h : H a = some o) (n : a ≠ F) : erH F H a = some o := by
  unfold erH
  rw [if_neg n]
  exact h
theorem ne_new {a b : Addr} {H : Hp} {o : HO} (h : H b = some o) (n : H a = none) : a ≠ b := fun z => by
  rw [z, h] at n
  cases n
theorem im_at {F e : Addr} {H : Hp} {us : List V} {d : Rec} (eF : H F = some (.lst us)) (h : H e = some (rcO d)) (bt : Bd 850 d.t) (bn : Bd 850 d.n) : ImV (erH F H) (.ref e) :=
  ⟨rcD d, .tup (erH_at h (ne_of h eF (by intro z; cases z))) (.cons (.str _) (.cons (.int _) (.cons (.int _) .nil))), im_rec bt bn⟩
theorem vl_push {H : Hp} {F : Addr} {us : List V} {x : V} (v : VlL (erH F H) us) (o : VlV (erH F H) x) : VlL (erH F (upd H F (.lst (us ++ [x])))) (us ++ [x]) := by
  rw [erH_upd]
  exact v.app (.one o)
theorem vl_seq {H : Hp} {F p : Addr} {us zs : List V} (eF : H F = some (.lst us)) (n : H p = none) (i : ImL (erH F H) zs) (l : zs.length ≤ 100) : VlV (erH F (upd H p (.lst zs))) (.ref p) :=
  ((i.kp (erH_mono (Fr.same (sm_upd n)).kp)).seq (kb := true) l (erH_at upd_same (ne_new eF n)))
section
variable {P : Program} {w : World} {K : PySem.W.Frag} {mg : Str → Option Value} {base : Heap}
def spVals50 : Sp := fun vs H Q _ => ∃ (a : PA) (m : Nat) (r T : Addr) (p q c : Int) (xs : List V) (ds : List Rec), vs = [.ref a, .ref r, .ref T] ∧ Pen H a m ∧ m < 2 ^ 35 ∧ H r = some (.tup [.int p, .int q, .int c]) ∧ RuleB 200 p q c ∧ H T = some (.lst xs) ∧ Obs rcO H xs ds ∧ RcB 410 ds ∧ xs.length = 3 ∧
  ∀ F H' us, H' F = some (.lst us) → VlL H' us → us.length ≤ 100 → Pen H' a (m + 1000) → Fr H H' → Q (.ref F) H'
abbrev s_l_values : Stmt := topS 61
abbrev N_l_values : List Str := ["_law_pen_here", "_law_rule", "_law_told", "_law_found", "_law_k", "_law_at", "_law_some", "_law_one", "_law_j"]
abbrev P_l_values : List Str := ["_law_pen_here", "_law_rule", "_law_told"]
theorem sc_l_values : FnScope N_l_values P_l_values (defScope s_l_values) := ⟨rfl, rfl, rfl, by decide +kernel, rfl, by decide +kernel, by decide +kernel⟩
theorem ok_l_values (D : Df K mg "_law_values" s_l_values P_l_values) (B : Bi mg) (c_l_draw : C8.Cal P w K mg base 1 "_law_draw" spDraw []) (c_l_moved : C8.Cal P w K mg base 3 "_law_moved" spMov []) (c_l_record : C8.Cal P w K mg base 4 "_law_record" spRec30 []) (cA_l_odd : C8.Cal P w K mg base 3 "_law_odd" spOdd50 []) (cA_l_odd_record : C8.Cal P w K mg base 3 "_law_odd_record" spOddR50 []) : C8.Cal P w K mg base 5 "_law_values" spVals50 [] := by
  refine cal_of D sc_l_values (fun vs H Q E h => ?_) (fun f cdv A outer s H vs Q E hr h => ?_)
  · obtain ⟨a, m, r, T, p, q, c, xs, ds, rfl, _⟩ := h
    rfl
  · obtain ⟨a, m, r, T, p, q, c, xs, ds, rfl, hP, hm, er, R, eT, oT, bT, lx, kk⟩ := h
    have c_l_odd := cA_l_odd
    have c_l_odd_record := cA_l_odd_record
    have imT : ImL H xs := ImL.obs oT (bT.mono (by decide))
    refine ⟨_, (pss_cons (ps_set (i := 3) sc_l_values.nd rfl (Or.inl rfl) (pe_lst (pa_cons (pv 2) (pa_cons (pe_revL (pv 2)) (pa_cons (pe_callTy (call_tuple_of) (by rfl) B.tuple_ bt_tuple (pa_cons (pv 2) pa_nil)) (pa_cons (pe_op op_cat (pv 2) (pe_slice sl_list (pv 2) po_none (po_some pe_int))) (pa_cons (pe_lst pa_nil) (pa_cons pe_non (pa_cons pe_dnewK (pa_cons pe_str (pa_cons (pe_lc (own := [("_law_one", 7)]) (g := (gName 7)) (by rfl) sc_l_values.nd (pi_list (pv 2)) (blkOk_by (own := [("_law_one", 7)]) (N := N_l_values) (sc := defScope s_l_values) (by decide +kernel)) (fun _ _ _ _ _ => (pg_name (i := 7) sc_l_values.nd rfl (Or.inl rfl))) (fun _ _ _ _ _ => pts_nil) (fun _ _ _ _ _ => (pe_callTy ((show CallR _ _ (rListOf K) from call_list_of)) (by rfl) B.list_ bt_list (pa_cons (pv 7) pa_nil)))) (pa_cons (pe_lst (pa_cons pe_non pa_nil)) pa_nil))))))))))))
    (pss_cons (ps_for PassesOwn.never rfl (pi_range1 rfl B.range_ (pa_cons pe_int pa_nil)) (pg_name (i := 4) sc_l_values.nd rfl (Or.inl rfl))
      (pss_cons (ps_set (i := 5) sc_l_values.nd rfl (Or.inl rfl) (C8.pe_c c_l_draw hr (by decide) (by rfl) (pa_cons (pv 0) (pa_cons (pe_callB (call_len_seq) (by rfl) B.len_ bt_len (pa_cons (pv 2) pa_nil)) pa_nil))))
    (pss_cons (ps_expr (pe_bm PySem.F.plainAttrs_list PySem.F.slot_list_append PySem.F.type_list_append mt_append (pv 3) (pa_cons (pe_op op_cat (pe_op op_cat (pe_slice sl_list (pv 2) po_none (po_some (pv 5))) (pe_lst (pa_cons (C8.pe_c c_l_moved hr (by decide) (by rfl) (pa_cons (pv 0) (pa_cons (pv 1) (pa_cons (pe_ix (r := rIxL K) ix_list (pv 2) (pv 5) (fun _ _ => rfl)) pa_nil)))) pa_nil))) (pe_slice sl_list (pv 2) (po_some (pe_op op_add (pv 5) pe_int)) po_none)) pa_nil)))
    (pss_cons (ps_expr (pe_bm PySem.F.plainAttrs_list PySem.F.slot_list_append PySem.F.type_list_append mt_append (pv 3) (pa_cons (pe_op op_cat (pe_slice sl_list (pv 2) po_none (po_some (pv 5))) (pe_slice sl_list (pv 2) (po_some (pe_op op_add (pv 5) pe_int)) po_none)) pa_nil)))
    (pss_cons (ps_setLc (i := 6) (own := [("_law_j", 8)]) (g := (gName 8)) (by rfl) sc_l_values.nd rfl rfl (sw_true rfl rfl rfl (by decide +kernel)) (pi_range1 rfl B.range_ (pa_cons (pe_op op_add pe_int (C8.pe_c c_l_draw hr (by decide) (by rfl) (pa_cons (pv 0) (pa_cons pe_int pa_nil)))) pa_nil)) (blkOk_by (own := [("_law_j", 8)]) (N := N_l_values) (sc := defScope s_l_values) (by decide +kernel)) (fun _ _ _ _ _ => (pg_name (i := 8) sc_l_values.nd rfl (Or.inl rfl))) (fun _ _ _ _ _ => pts_nil) (fun _ _ _ _ _ => (C8.pe_c c_l_record hr (by decide) (by rfl) (pa_cons (pv 0) (pa_cons (pv 1) (pa_cons (pe_lst (pa_cons pe_int pa_nil)) (pa_cons pe_int pa_nil)))))))
    (pss_one (ps_set (i := 3) sc_l_values.nd rfl (Or.inl rfl) (pe_op op_cat (pv 3) (pe_lst (pa_cons (pv 6) (pa_cons (pe_op op_cat (pe_op op_cat (pe_slice sl_list (pv 2) po_none (po_some (pv 5))) (pe_lst (pa_cons (pe_ix (r := rIxL K) ix_list (pv 6) pe_int (fun _ _ => rfl)) pa_nil))) (pe_slice sl_list (pv 2) (po_some (pe_op op_add (pv 5) pe_int)) po_none)) (pa_cons (pe_op op_cat (pe_slice sl_list (pv 2) po_none (po_some (pv 5))) (pe_lst (pa_cons (C8.pe_c c_l_odd_record hr (by decide) (by rfl) (pa_cons (pv 0) (pa_cons (pe_ix (r := rIxL K) ix_list (pv 2) (pv 5) (fun _ _ => rfl)) pa_nil))) pa_nil))) pa_nil))))))))))))
    (pss_one (ps_ret (pe_op op_cat (pv 3) (pe_lst (pa_cons (C8.pe_c c_l_odd hr (by decide) (by rfl) (pa_cons (pv 0) pa_nil)) pa_nil))))))), ?_⟩
    refine ⟨_, rfl, _, rfl, T, xs, rfl, SqL.of eT, fun p1 n1 => ?_⟩
    generalize h1 : upd H p1 (.lst xs.reverse) = H1
    have z1 : Same H H1 := h1 ▸ sm_upd n1
    have e1 : H1 p1 = some (.lst xs.reverse) := h1 ▸ upd_same
    refine ⟨_, rfl, T, xs, rfl, .inl ⟨SqL.of (z1 _ _ eT), fun p2 n2 => ?_⟩⟩
    generalize h2 : upd H1 p2 (.tup xs) = H2
    have z2 : Same H1 H2 := h2 ▸ sm_upd n2
    have e2 : H2 p2 = some (.tup xs) := h2 ▸ upd_same
    have z02 := z1.trans z2
    refine ⟨_, rfl, _, rfl, 1, rfl, T, xs, rfl, SqL.of (z02 _ _ eT), fun p3 n3 => ?_⟩
    generalize h3 : upd H2 p3 (.lst (cutV xs none (some 1))) = H3
    have z3 : Same H2 H3 := h3 ▸ sm_upd n3
    have e3 : H3 p3 = some (.lst (cutV xs none (some 1))) := h3 ▸ upd_same
    have cl3 := cutV_length xs none (some 1)
    have z03 := z02.trans z3
    refine ⟨T, p3, xs, _, rfl, rfl, z03 _ _ eT, e3, len10 (by omega), fun p4 n4 => ?_⟩
    generalize h4 : upd H3 p4 (.lst (xs ++ cutV xs none (some 1))) = H4
    have z4 : Same H3 H4 := h4 ▸ sm_upd n4
    have e4 : H4 p4 = some (.lst (xs ++ cutV xs none (some 1))) := h4 ▸ upd_same
    have z04 := z03.trans z4
    refine ⟨len10 (by simp), fun p5 n5 => ?_⟩
    generalize h5 : upd H4 p5 (.lst []) = H5
    have z5 : Same H4 H5 := h5 ▸ sm_upd n5
    have e5 : H5 p5 = some (.lst []) := h5 ▸ upd_same
    refine fun p6 n6 => ?_
    generalize h6 : upd H5 p6 (.dK []) = H6
    have z6 : Same H5 H6 := h6 ▸ sm_upd n6
    have e6 : H6 p6 = some (.dK []) := h6 ▸ upd_same
    have z06 := z04.trans (z5.trans z6)
    -- the lists of the parts
    refine ⟨_, rfl, T, rfl, ⟨_, SqL.of (z06 _ _ eT)⟩, fun Y nY => ?_⟩
    refine lc_list (K := K) (a := T) (xs := xs) (fun i H' => ∃ ys, H' Y = some (.lst ys) ∧ ImL (erH Y H') ys ∧ ys.length = i ∧ Same H6 H') ⟨[], upd_same, .nil, rfl, sm_upd nY⟩ ?_ ?_ ?_
    · rintro i H' _ ⟨_, _, _, _, s'⟩
      exact SqL.of (s' _ _ (z06 _ _ eT))
    · rintro i v H' hv ⟨ys, eY, iY, lY, s'⟩
      obtain ⟨e, d, rfl, ee, hd⟩ := (oT.same (z06.trans s')).at hv
      have bb := bT d (List.mem_of_getElem? hd)
      have hi3 : i < 3 := by
        have := (List.getElem?_eq_some_iff.mp hv).1
        omega
      refine ⟨rfl, _, rfl, e, _, rfl, .inr (SqT.of ee), fun l nl => ?_⟩
      have zl := sm_upd (o := .lst [.str (wd d.lo), .int d.t, .int d.n]) nl
      have nlY : l ≠ Y := fun z => by
        rw [z, eY] at nl
        cases nl
      refine ⟨ys, zl _ _ eY, ltS (by omega), ys ++ [.ref l], upd_same, ?_, by rw [List.length_append, lY]; rfl, fun b o eb => ?_⟩
      · rw [erH_upd]
        refine (iY.kp (erH_mono (Fr.same zl).kp)).app (.cons ⟨.list [.str (wd d.lo), .int d.t, .int d.n], .lst ?_ (.cons (.str _) (.cons (.int _) (.cons (.int _) .nil))), im_rlst (bb.1.mono (by decide)) (bb.2.mono (by decide))⟩ .nil)
        unfold erH
        rw [if_neg nlY]
        exact upd_same
      · rw [upd_ne (ne_of_none eb nY)]
        exact zl _ _ (s' _ _ eb)
    rintro H7 ⟨ys, eY, iY, lY, s7⟩
    have iY := iY.kp erH_kp
    have z07 := z06.trans s7
    refine ⟨len10 (by simp), fun p8 n8 => ?_⟩
    generalize h8 : upd H7 p8 (.lst [.non]) = H8
    have z8 : Same H7 H8 := h8 ▸ sm_upd n8
    have e8 : H8 p8 = some (.lst [.non]) := h8 ▸ upd_same
    have z08 := z07.trans z8
    have z68 := s7.trans z8
    have z58 := z6.trans z68
    have z48 := z5.trans z58
    have z38 := z4.trans z48
    have z28 := z3.trans z38
    have z18 := z2.trans z28
    refine ⟨len10 (by simp), fun F nF => ?_⟩
    have vl : VlL H8 [.ref T, .ref p1, .ref p2, .ref p4, .ref p5, .non, .ref p6, .str "pins", .ref Y, .ref p8] := by
      have im8 := imT.same z08
      refine .cons (im8.seq (kb := true) (by omega) (z08 _ _ eT)) (.cons (im8.rev.seq (kb := true) (by rw [List.length_reverse]; omega) (z18 _ _ e1)) (.cons (im8.seq (kb := false) (by omega) (z28 _ _ e2)) (.cons ((im8.app (im8.cut _ _)).seq (kb := true) (by rw [List.length_append]; omega) (z48 _ _ e4)) (.cons (ImL.nil.seq (kb := true) (by decide) (z58 _ _ e5)) ?_))))
      refine .cons ⟨_, .non, vl_by (by decide +kernel)⟩ (.cons ⟨_, .dk0 (z68 _ _ e6), vl_by (by decide +kernel)⟩ (.cons ⟨_, .str "pins", vl_by (by decide +kernel)⟩ (.cons ((iY.same z8).seq (kb := true) (by omega) (z8 _ _ eY)) (.cons (ImL.seq (kb := true) (.cons ⟨_, .non, im_by (by decide +kernel)⟩ .nil) (by decide) e8) .nil))))
    have vl0 := vl.kp (erH_new nF)
    have fr8 : Fr H H8 := Fr.same z08
    have hP8 := hP.same z08
    rw [← erH_upd (F := F) (H := H8) (o := .lst [.ref T, .ref p1, .ref p2, .ref p4, .ref p5, .non, .ref p6, .str "pins", .ref Y, .ref p8])] at vl0
    have eF := upd_same (H := H8) (a := F) (o := .lst [.ref T, .ref p1, .ref p2, .ref p4, .ref p5, .non, .ref p6, .str "pins", .ref Y, .ref p8])
    have zF : Same H8 (upd H8 F (.lst [.ref T, .ref p1, .ref p2, .ref p4, .ref p5, .non, .ref p6, .str "pins", .ref Y, .ref p8])) := sm_upd nF
    generalize upd H8 F (.lst [.ref T, .ref p1, .ref p2, .ref p4, .ref p5, .non, .ref p6, .str "pins", .ref Y, .ref p8]) = H9 at vl0 eF zF ⊢
    have lf : [V.ref T, .ref p1, .ref p2, .ref p4, .ref p5, .non, .ref p6, .str "pins", .ref Y, .ref p8].length = 10 := rfl
    generalize [V.ref T, .ref p1, .ref p2, .ref p4, .ref p5, .non, .ref p6, .str "pins", .ref Y, .ref p8] = fs at vl0 eF lf ⊢
    clear vl z18 z28 z38 z48 z58 z68 z02 z03 z04 z06 z07 h1 h2 h3 h4 h5 h6 h8 e1 e2 e3 e4 e5 e6 e8 z1 z2 z3 z4 z5 z6 z8 s7 eY iY lY cl3
    refine ⟨8, rfl, by decide, by decide, ?_⟩
    refine for_range (lo := 0) (n := 8) (fun i σ H' => ∃ (F : Addr) (us : List V) (Hb : Hp) (y4 y5 y6 : Option V), σ = [some (.ref a), some (.ref r), some (.ref T), some (.ref F), y4, y5, y6, none, none] ∧ H' F = some (.lst us) ∧ VlL (erH F H') us ∧ us.length = 10 + 5 * i ∧ Fr H Hb ∧ Pen Hb a (m + 60 * i) ∧ Hb F = none ∧ Fr Hb H' ∧ Pen H' a (m + 60 * i)) ⟨F, fs, H8, _, _, _, rfl, eF, vl0, lf, fr8, hP8, nF, Fr.same zF, hP8.same zF⟩ ?_ ?_
    · clear eF vl0 hP8 fr8 zF lf nF
      rintro i σ H1 hi ⟨F, us, Hb, y4, y5, y6, rfl, eF, vF, lu, fb, hPb, nb, f1, hP1⟩
      have fT := fb.trans f1
      have eT1 := fT.l _ _ eT
      have lx3 : ((xs.length : Nat) : Int) = 3 := by omega
      refine ⟨_, rfl, _, rfl, T, xs, rfl, .inl (SqL.of eT1), a, _, _, rfl, hP1, by omega, by omega, Bd.small 20 (by omega) (by decide), fun at_ H2 at0 at1 hP2 f2 => ?_⟩
      have g2 := f1.trans f2
      have eT2 := f2.l _ _ eT1
      have eF2 := f2.l _ _ eF
      have vF2 := vF.kp (erH_mono f2.kp)
      have imb : ImL (erH F Hb) xs := (imT.kp fb.kp).kp (erH_new nb)
      have imF : ∀ {X : Hp}, Fr Hb X → ImL (erH F X) xs := fun f => imb.kp (erH_mono f.kp)
      have oTX : ∀ {X : Hp}, Fr Hb X → Obs rcO X xs ds := fun f => oT.fr (fb.trans f)
      obtain ⟨rv, hrv, mrv⟩ := at_in (xs := xs) at0 (by omega)
      obtain ⟨ix, hix⟩ := List.mem_iff_getElem?.mp mrv
      clear eT1 f1 vF eF hP1
      -- the first that is appended
      refine ⟨_, rfl, .inl ⟨rfl, _, SqL.of eF2⟩, ?_⟩
      refine ⟨_, rfl, _, rfl, _, rfl, T, xs, rfl, SqL.of eT2, fun p1 n1 => ?_⟩
      have cl1 := cutV_length xs none (some at_)
      have z1 := sm_upd (o := .lst (cutV xs none (some at_))) n1
      have e1 := upd_same (H := H2) (a := p1) (o := .lst (cutV xs none (some at_)))
      generalize upd H2 p1 (.lst (cutV xs none (some at_))) = H3 at z1 e1 ⊢
      have g3 := g2.trans (Fr.same z1)
      obtain ⟨e, d, rfl, ee, hd⟩ := (oTX g3).at hix
      have bb := bT d (List.mem_of_getElem? hd)
      refine ⟨_, rfl, _, rfl, _, rfl, _, rfl, T, _, _, _, rfl, rfl, SqL.of (z1 _ _ eT2), hrv, a, _, r, e, p, q, c, d, rfl, hP2.same z1, by omega, (fb.trans g3).t _ _ er, R, ee, bb.1, bb.2, fun e' H4 d' ee' bt' bn' hP4 f4 => ?_⟩
      have g4 := g3.trans f4
      refine ⟨len10 (by simp), fun p2 n2 => ?_⟩
      have z2 := sm_upd (o := .lst [.ref e']) n2
      have e2 := upd_same (H := H4) (a := p2) (o := .lst [.ref e'])
      generalize upd H4 p2 (.lst [.ref e']) = H5 at z2 e2 ⊢
      have g5 := g4.trans (Fr.same z2)
      have f35 := f4.trans (Fr.same z2)
      refine ⟨p1, p2, _, _, rfl, rfl, f35.l _ _ e1, e2, len10 (by show _ + 1 ≤ 1000; omega), fun p3 n3 => ?_⟩
      have z3 := sm_upd (o := .lst (cutV xs none (some at_) ++ [.ref e'])) n3
      have e3 := upd_same (H := H5) (a := p3) (o := .lst (cutV xs none (some at_) ++ [.ref e']))
      generalize upd H5 p3 (.lst (cutV xs none (some at_) ++ [.ref e'])) = H6 at z3 e3 ⊢
      have g6 := g5.trans (Fr.same z3)
      have cl2 := cutV_length xs (some (at_ + 1)) none
      refine ⟨_, rfl, _, rfl, _, _, rfl, rfl, _, rfl, T, _, rfl, SqL.of ((fb.trans g6).l _ _ eT), fun p4 n4 => ?_⟩
      have z4 := sm_upd (o := .lst (cutV xs (some (at_ + 1)) none)) n4
      have e4 := upd_same (H := H6) (a := p4) (o := .lst (cutV xs (some (at_ + 1)) none))
      generalize upd H6 p4 (.lst (cutV xs (some (at_ + 1)) none)) = H7 at z4 e4 ⊢
      have g7 := g6.trans (Fr.same z4)
      refine ⟨p3, p4, _, _, rfl, rfl, z4 _ _ e3, e4, len10 (by rw [List.length_append]; show _ + 1 + _ ≤ 1000; omega), fun p5 n5 => ?_⟩
      have z47 := (z2.trans (z3.trans z4))
      have f27 := (Fr.same z1).trans (f4.trans (Fr.same z47))
      have eF7 := f27.l _ _ eF2
      have z5 := sm_upd (o := .lst ((cutV xs none (some at_) ++ [.ref e']) ++ cutV xs (some (at_ + 1)) none)) n5
      have v5 := vl_seq eF7 n5 (zs := (cutV xs none (some at_) ++ [.ref e']) ++ cutV xs (some (at_ + 1)) none) ((((imF g7).cut _ _).app (.cons (im_at eF7 (z47 _ _ ee') bt' bn') .nil)).app ((imF g7).cut _ _)) (by rw [List.length_append, List.length_append]; show _ + 1 + _ ≤ 100; omega)
      generalize upd H7 p5 (.lst ((cutV xs none (some at_) ++ [.ref e']) ++ cutV xs (some (at_ + 1)) none)) = H8 at z5 v5 ⊢
      have g8 := g7.trans (Fr.same z5)
      have eF8 := z5 _ _ eF7
      have vF8 := vF2.kp (erH_mono (f27.trans (Fr.same z5)).kp)
      have hP8 := hP4.same (z47.trans z5)
      refine ⟨F, _, _, rfl, rfl, eF8, ltS (by omega), ?_⟩
      have vF9 := vl_push vF8 v5
      have eF9 := upd_same (H := H8) (a := F) (o := .lst (us ++ [.ref p5]))
      have g9 := g8.over (o := .lst (us ++ [.ref p5])) nb
      have hP9 := hPb.over (o := .lst (us ++ [.ref p5])) nb hP8
      generalize upd H8 F (.lst (us ++ [.ref p5])) = H9 at vF9 eF9 g9 hP9 ⊢
      have lu9 : (us ++ [V.ref p5]).length = 11 + 5 * i := by rw [List.length_append, lu]; show 10 + 5 * i + 1 = _; omega
      generalize us ++ [V.ref p5] = u9 at vF9 eF9 lu9 ⊢
      clear z1 e1 ee f4 z2 e2 f35 z3 e3 z4 e4 z47 f27 eF7 z5 v5 g8 eF8 vF8 hP8 g2 g3 g4 g5 g6 g7 eF2 vF2 hP2 hP4 eT2 ee' bt' bn' n1 n2 n3 n4 n5
      -- the second
      have eT9 := (fb.trans g9).l _ _ eT
      refine ⟨_, rfl, .inl ⟨rfl, _, SqL.of eF9⟩, ?_⟩
      refine ⟨_, rfl, _, rfl, _, rfl, T, xs, rfl, SqL.of eT9, fun p1 n1 => ?_⟩
      have z1 := sm_upd (o := .lst (cutV xs none (some at_))) n1
      have e1 := upd_same (H := H9) (a := p1) (o := .lst (cutV xs none (some at_)))
      generalize upd H9 p1 (.lst (cutV xs none (some at_))) = H10 at z1 e1 ⊢
      refine ⟨_, rfl, _, rfl, _, _, rfl, rfl, _, rfl, T, _, rfl, SqL.of (z1 _ _ eT9), fun p2 n2 => ?_⟩
      have z2 := sm_upd (o := .lst (cutV xs (some (at_ + 1)) none)) n2
      have e2 := upd_same (H := H10) (a := p2) (o := .lst (cutV xs (some (at_ + 1)) none))
      generalize upd H10 p2 (.lst (cutV xs (some (at_ + 1)) none)) = H11 at z2 e2 ⊢
      refine ⟨p1, p2, _, _, rfl, rfl, z2 _ _ e1, e2, len10 (by omega), fun p3 n3 => ?_⟩
      have g11 := g9.trans (Fr.same (z1.trans z2))
      have eF11 := (z1.trans z2) _ _ eF9
      have z3 := sm_upd (o := .lst (cutV xs none (some at_) ++ cutV xs (some (at_ + 1)) none)) n3
      have v3 := vl_seq eF11 n3 (zs := cutV xs none (some at_) ++ cutV xs (some (at_ + 1)) none) (((imF g11).cut _ _).app ((imF g11).cut _ _)) (by rw [List.length_append]; omega)
      generalize upd H11 p3 (.lst (cutV xs none (some at_) ++ cutV xs (some (at_ + 1)) none)) = H12 at z3 v3 ⊢
      have z9 := z1.trans (z2.trans z3)
      have eF12 := z3 _ _ eF11
      have vF12 := vF9.kp (erH_mono (Fr.same z9).kp)
      refine ⟨F, _, _, rfl, rfl, eF12, ltS (by omega), ?_⟩
      have vF13 := vl_push vF12 v3
      have eF13 := upd_same (H := H12) (a := F) (o := .lst (u9 ++ [.ref p3]))
      have g13 := (g9.trans (Fr.same z9)).over (o := .lst (u9 ++ [.ref p3])) nb
      have hP13 := hPb.over (o := .lst (u9 ++ [.ref p3])) nb (hP9.same z9)
      generalize upd H12 F (.lst (u9 ++ [.ref p3])) = H13 at vF13 eF13 g13 hP13 ⊢
      have lu13 : (u9 ++ [V.ref p3]).length = 12 + 5 * i := by rw [List.length_append, lu9]; show 11 + 5 * i + 1 = _; omega
      generalize u9 ++ [V.ref p3] = u13 at vF13 eF13 lu13 ⊢
      have vq := vF13.kp erH_kp
      have f13 := fb.trans g13
      clear z1 e1 z2 e2 z3 v3 g11 eF11 z9 eF12 vF12 vF13 n1 n2 n3 eT9 vF9 eF9 g9 hP9 imF imb oTX g13
      -- some records
      refine ⟨_, rfl, a, _, _, rfl, hP13, by omega, by decide, Bd.small 20 (by decide) (by decide), fun g H14 g0 g1 hP14 f14 => ⟨_, _, rfl, rfl, _, rfl, by omega, by omega, fun G nG => ?_⟩⟩
      refine lc_range (lo := 0) (n := (1 + g).toNat) (fun j H' => ∃ (ys : List V) (es : List Rec), H' G = some (.lst ys) ∧ Obs rcO H' ys es ∧ es.length = j ∧ RcB 402 es ∧ Pen H' a (m + 60 * i + 6 + 13 * j) ∧ Fr H14 H') ⟨[], [], upd_same, .nil, rfl, fun _ z => (nomatch z), (hP14.new nG).mono (by omega), Fr.new nG⟩ ?_ ?_
      · rintro j H15 hj ⟨ys, es, eG, oG, lG, bG, hP15, f15⟩
        have f1415 := (f13.trans f14).trans f15
        refine ⟨rfl, _, rfl, _, rfl, len10 (by simp), fun O nO => ?_⟩
        have zO := sm_upd (o := .lst [.int 0]) nO
        refine ⟨a, _, r, O, p, q, c, [0], 20, 3, 200, rfl, hP15.same zO, by omega, zO _ _ (f1415.t _ _ er), R, upd_same, by simp, by simp, fun z hz => ?_, by decide, by decide, by decide, by decide, by decide, by decide, fun e H16 d o ed bt bn _ _ hP16 f16 => ?_⟩
        · rw [List.mem_singleton.mp hz]
          exact Bd.small 10 (by decide) (by decide)
        have f16 := (Fr.same zO).trans f16
        have eG16 := f16.l _ _ eG
        refine ⟨ys, eG16, ?_, ys ++ [.ref e], es ++ [d], upd_same, ?_, ?_, ?_, ?_, ?_⟩
        · have := oG.len
          exact ltS (by omega)
        · refine Obs.keep ((oG.fr f16).snoc ed) fun b d' eb => ?_
          rw [upd_ne (ne_of eb eG16 (by intro q; cases q))]
          exact eb
        · rw [List.length_append, lG]
          rfl
        · intro d' hd'
          rcases List.mem_append.mp hd' with h | h
          · exact bG d' h
          · rw [List.mem_singleton.mp h]
            exact ⟨bt.mono (by omega), bn.mono (by omega)⟩
        · exact ((hP14.over nG hP16)).mono (by omega)
        · exact (f15.trans f16).over nG
      rintro H15 ⟨ys, es, eG, oG, lG, bG, hP15, f15⟩
      have lys := oG.len
      have f1315 := f14.trans f15
      have fA := f13.trans f1315
      have eF15 := f1315.l _ _ eF13
      have vq := vq.kp f1315.kp
      clear f13 f14 f15 f1315 hP14 hP13 eF13 nG
      have imX : ∀ {X : Hp}, Fr H15 X → ImL X xs := fun f => imT.kp (fA.trans f).kp
      have oX : ∀ {X : Hp}, Fr H15 X → Obs rcO X xs ds := fun f => oT.fr (fA.trans f)
      have eTX : ∀ {X : Hp}, Fr H15 X → X T = some (.lst xs) := fun f => (fA.trans f).l _ _ eT
      have imG : ImL H15 ys := ImL.obs oG (bG.mono (by decide))
      have eT15 := fA.l _ _ eT
      obtain ⟨y0, hy0, my0⟩ := at_in (xs := ys) (d := 0) (by decide) (by omega)
      -- all of them
      refine ⟨_, rfl, _, rfl, ?_⟩
      refine ⟨_, rfl, _, rfl, _, rfl, T, xs, rfl, SqL.of eT15, fun p1 n1 => ?_⟩
      have z1 := sm_upd (o := .lst (cutV xs none (some at_))) n1
      have e1 := upd_same (H := H15) (a := p1) (o := .lst (cutV xs none (some at_)))
      generalize upd H15 p1 (.lst (cutV xs none (some at_))) = H16 at z1 e1 ⊢
      refine ⟨_, rfl, G, _, _, _, rfl, rfl, SqL.of (z1 _ _ eG), hy0, len10 (by simp), fun p2 n2 => ?_⟩
      have z2 := sm_upd (o := .lst [y0]) n2
      have e2 := upd_same (H := H16) (a := p2) (o := .lst [y0])
      generalize upd H16 p2 (.lst [y0]) = H17 at z2 e2 ⊢
      refine ⟨p1, p2, _, _, rfl, rfl, z2 _ _ e1, e2, len10 (by show _ + 1 ≤ 1000; omega), fun p3 n3 => ?_⟩
      have z3 := sm_upd (o := .lst (cutV xs none (some at_) ++ [y0])) n3
      have e3 := upd_same (H := H17) (a := p3) (o := .lst (cutV xs none (some at_) ++ [y0]))
      generalize upd H17 p3 (.lst (cutV xs none (some at_) ++ [y0])) = H18 at z3 e3 ⊢
      have z13 := z1.trans (z2.trans z3)
      refine ⟨_, rfl, _, rfl, _, _, rfl, rfl, _, rfl, T, _, rfl, SqL.of (z13 _ _ eT15), fun p4 n4 => ?_⟩
      have z4 := sm_upd (o := .lst (cutV xs (some (at_ + 1)) none)) n4
      have e4 := upd_same (H := H18) (a := p4) (o := .lst (cutV xs (some (at_ + 1)) none))
      generalize upd H18 p4 (.lst (cutV xs (some (at_ + 1)) none)) = H19 at z4 e4 ⊢
      refine ⟨p3, p4, _, _, rfl, rfl, z4 _ _ e3, e4, len10 (by rw [List.length_append]; show _ + 1 + _ ≤ 1000; omega), fun p5 n5 => ?_⟩
      have z5 := sm_upd (o := .lst ((cutV xs none (some at_) ++ [y0]) ++ cutV xs (some (at_ + 1)) none)) n5
      have e5 := upd_same (H := H19) (a := p5) (o := .lst ((cutV xs none (some at_) ++ [y0]) ++ cutV xs (some (at_ + 1)) none))
      generalize upd H19 p5 (.lst ((cutV xs none (some at_) ++ [y0]) ++ cutV xs (some (at_ + 1)) none)) = H20 at z5 e5 ⊢
      have z15 := z13.trans (z4.trans z5)
      have g20 := Fr.same z15
      have v5 : VlV H20 (.ref p5) := ImL.seq (kb := true) ((((imX g20).cut _ _).app (.cons ((imG y0 my0).kp g20.kp) .nil)).app ((imX g20).cut _ _)) (by rw [List.length_append, List.length_append]; show _ + 1 + _ ≤ 100; omega) e5
      -- the odd one
      refine ⟨_, rfl, _, rfl, _, rfl, T, xs, rfl, SqL.of (eTX g20), fun p6 n6 => ?_⟩
      have z6 := sm_upd (o := .lst (cutV xs none (some at_))) n6
      have e6 := upd_same (H := H20) (a := p6) (o := .lst (cutV xs none (some at_)))
      generalize upd H20 p6 (.lst (cutV xs none (some at_))) = H21 at z6 e6 ⊢
      have g21 := g20.trans (Fr.same z6)
      obtain ⟨e, d, he, ee, hd⟩ := (oX g21).at hix
      cases he
      have bb := bT d (List.mem_of_getElem? hd)
      refine ⟨_, rfl, _, rfl, _, rfl, T, _, _, _, rfl, rfl, SqL.of (eTX g21), hrv, a, _, e, d, rfl, hP15.same (z15.trans z6), by omega, ee, bb.1.mono (by decide), bb.2.mono (by decide), fun ox H22 hox hP22 f22 => ?_⟩
      have g22 := g21.trans f22
      refine ⟨len10 (by simp), fun p7 n7 => ?_⟩
      have z7 := sm_upd (o := .lst [ox]) n7
      have e7 := upd_same (H := H22) (a := p7) (o := .lst [ox])
      generalize upd H22 p7 (.lst [ox]) = H23 at z7 e7 ⊢
      have g23 := g22.trans (Fr.same z7)
      refine ⟨p6, p7, _, _, rfl, rfl, (f22.trans (Fr.same z7)).l _ _ e6, e7, len10 (by show _ + 1 ≤ 1000; omega), fun p8 n8 => ?_⟩
      have z8 := sm_upd (o := .lst (cutV xs none (some at_) ++ [ox])) n8
      have e8 := upd_same (H := H23) (a := p8) (o := .lst (cutV xs none (some at_) ++ [ox]))
      generalize upd H23 p8 (.lst (cutV xs none (some at_) ++ [ox])) = H24 at z8 e8 ⊢
      have g24 := g23.trans (Fr.same z8)
      have v8 : VlV H24 (.ref p8) := ImL.seq (kb := true) (((imX g24).cut _ _).app (.cons (hox.im.kp (Fr.same (z7.trans z8)).kp) .nil)) (by rw [List.length_append]; show _ + 1 ≤ 100; omega) e8
      have g2024 := (Fr.same z6).trans (f22.trans (Fr.same (z7.trans z8)))
      refine ⟨len10 (by simp), fun p9 n9 => ?_⟩
      have z9 := sm_upd (o := .lst [.ref G, .ref p5, .ref p8]) n9
      have e9 := upd_same (H := H24) (a := p9) (o := .lst [.ref G, .ref p5, .ref p8])
      have v9 : VlL H24 [.ref G, .ref p5, .ref p8] := .cons ((imG.kp g24.kp).seq (kb := true) (by omega) (g24.l _ _ eG)) (.cons (v5.kp g2024.kp) (.cons v8 .nil))
      generalize upd H24 p9 (.lst [.ref G, .ref p5, .ref p8]) = H25 at z9 e9 ⊢
      have g25 := g24.trans (Fr.same z9)
      have hP25 := hP22.same ((z7.trans z8).trans z9)
      refine ⟨F, p9, _, _, rfl, rfl, g25.l _ _ eF15, e9, len10 (by show _ + 3 ≤ 1000; omega), fun F2 nF2 => ?_⟩
      have vE : VlL H25 (u13 ++ [.ref G, .ref p5, .ref p8]) := (vq.kp g25.kp).app (v9.same z9)
      refine ⟨F2, u13 ++ [.ref G, .ref p5, .ref p8], H25, _, _, _, rfl, upd_same, ?_, ?_, fA.trans g25, hP25.mono (by omega), nF2, Fr.new nF2, (hP25.new nF2).mono (by omega)⟩
      · rw [erH_upd]
        exact vE.kp (erH_new nF2)
      · rw [List.length_append, lu13]
        show 12 + 5 * i + 3 = _
        omega
    · rintro σ H3 ⟨F, us, Hb, y4, y5, y6, rfl, eF, vF, lu, fb, hPb, nb, f1, hP1⟩
      have fA := fb.trans f1
      refine ⟨_, rfl, _, rfl, a, _, rfl, hP1, by omega, fun ox H4 hox hP4 f4 => ?_⟩
      refine ⟨len10 (by simp), fun p1 n1 => ?_⟩
      have z1 := sm_upd (o := .lst [ox]) n1
      have e1 := upd_same (H := H4) (a := p1) (o := .lst [ox])
      have f5 := f4.trans (Fr.same z1)
      refine ⟨F, p1, _, _, rfl, rfl, f5.l _ _ eF, e1, len10 (by show _ + 1 ≤ 1000; omega), fun F2 nF2 => ?_⟩
      have z2 := sm_upd (o := .lst (us ++ [ox])) nF2
      refine kk F2 _ _ upd_same ?_ (by rw [List.length_append]; show _ + 1 ≤ 100; omega) ((hP4.same (z1.trans z2)).mono (by omega)) (fA.trans (f5.trans (Fr.same z2)))
      exact (((vF.kp erH_kp).kp f5.kp).app (.one (hox.vl.kp (Fr.same z1).kp))).same z2
end
end Lf
namespace Lf
open PySem PySem.Spec PyProof.Rows L2
/-! ### _law_refused: InvalidRule or InvalidNumber, each with its value -/
/-- what the top tells of the classes -/
structure Two49 (K : PySem.W.Frag) (mg : Str → Option Value) (C CV L : Addr) : Prop where
  gL : mg "LeapfitError" = some (.ref L)
  mC : PySem.W.exmOne K (.ref C) (.ref L) = some true
  mV : PySem.W.exmOne K (.ref CV) (.ref L) = some true
  kCV : PySem.W.kitOne K (.ref C) (.ref CV) = some false
  kVV : PySem.W.kitOne K (.ref CV) (.ref CV) = some true
  kCC : PySem.W.kitOne K (.ref C) (.ref C) = some true
def Ech49 (C CV : Addr) (Q : VK) : XK := fun cls d H' =>
  (cls = .ref C ∧ ∃ dd v dat, d = some dd ∧ H' dd = some (.xd [("value", v)]) ∧ Dv H' v dat ∧ dat.showable = true ∧ dat.depth ≤ 60 ∧ dat.shown.length ≤ sizeLine ∧ ∀ T, H' T = none → Q (.ref T) (upd H' T (.tup [.str "number", .str dat.shown]))) ∨
  (cls = .ref CV ∧ ∃ dd v dat, d = some dd ∧ H' dd = some (.xd [("value", v)]) ∧ Dv H' v dat ∧ dat.showable = true ∧ dat.depth ≤ 60 ∧ dat.shown.length ≤ sizeLine ∧ ∀ T, H' T = none → Q (.ref T) (upd H' T (.tup [.str "rule", .str dat.shown])))
def TRef49 (C CV : Addr) : (XK → Hp → VK → Prop) → Hp → VK → Prop := fun tl H Q => tl (Ech49 C CV Q) H (fun _ _ => False)
abbrev s_l_refused : Stmt := topS 59
abbrev N_l_refused : List Str := ["_law_call", "_law_caught", "e"]
abbrev P_l_refused : List Str := ["_law_call"]
theorem sc_l_refused : FnScope N_l_refused P_l_refused (defScope s_l_refused) := ⟨rfl, rfl, rfl, by decide +kernel, rfl, by decide +kernel, by decide +kernel⟩
theorem three49 {α : Type} {l : List α} (h : l.length = 3) : ∃ a b c, l = [a, b, c] := by
  match l, h with
  | [a, b, c], _ => exact ⟨a, b, c, rfl⟩
theorem gives_49 {X : Cx} {C CV L g : Addr} {cdg : Value} {q : Str} (T : ValC X.prog X.K X.mg C "InvalidNumber" "value") (T2 : ValC X.prog X.K X.mg CV "InvalidRule" "value") (U : Two49 X.K X.mg C CV L) (B : Bi X.mg) (gd : X.A.guards = some []) (hu : X.A.units + 80 < cLine) :
    LamX.GivesTo X N_l_refused "_law_refused" (defScope s_l_refused) g cdg (defBody s_l_refused) "_law_call" q (TRef49 C CV) := by
  intro f c' s H Q tl act hc h
  have keyR : ∀ a : Addr × Addr, ∃ t : TS, (∀ (oe : Obj) (pn : List (Addr × Obj)), Zc (.ref C) (some a.2) oe → (∃ vs, oe.data = .fields vs) → PSs ((cxOf C8.CX0 X.prog X.w X.K X.mg X.base N_l_refused "_law_refused" (defScope s_l_refused) g cdg X.A X.stack s H C8.E0).nox.tr ((a.1, oe) :: pn) (fun _ _ => False)) (List.drop 2 (defBody s_l_refused)) t) ∧
      ∀ s0 s2 H1 (v : V) (dat : PyData), H1 a.2 = some (.xd [("value", v)]) → Dv H1 v dat → dat.showable = true → dat.depth ≤ 60 → dat.shown.length ≤ sizeLine → (∀ T, H1 T = none → Q (.ref T) (upd H1 T (.tup [.str "number", .str dat.shown]))) → t { nx := fun _ H' => Q .non H', rt := Q } [s0, some (.ref a.1), s2] H1 := by
    intro a
    refine ⟨?t, fun oe pn hz hf => ?p, fun s0 s2 H1 v dat e3 dv g1 g2 g3 hh => ?q⟩
    case p =>
      have ci := call_isKV (X := (cxOf C8.CX0 X.prog X.w X.K X.mg X.base N_l_refused "_law_refused" (defScope s_l_refused) g cdg X.A X.stack s H C8.E0).nox) (a := a.1) (dd := a.2) (pn := pn) (xe := fun _ _ => False) T.ex hz hf
      have cr := repr_any (X := (cxOf C8.CX0 X.prog X.w X.K X.mg X.base N_l_refused "_law_refused" (defScope s_l_refused) g cdg X.A X.stack s H C8.E0).nox.tr ((a.1, oe) :: pn) (fun _ _ => False)) gd (by show X.A.units + 3 + 70 < cLine; omega)
      exact pss_cons (ps_if (pt_val (pe_callB ci (by rfl) B.isinstance_ bt_isinstance (pa_cons (pv 1) (pa_cons (pe_glob (v := .ref CV) (by rfl) T2.gC rfl) pa_nil)))) pss_no pss_nil)
        (pss_one (ps_ret (pe_ifExp (pt_val (pe_callB ci (by rfl) B.isinstance_ bt_isinstance (pa_cons (pv 1) (pa_cons (pe_glob (v := .ref C) (by rfl) T.gC rfl) pa_nil)))) (pe_tup (pa_cons pe_str (pa_cons (pe_callB cr (by rfl) B.repr_ bt_repr (pa_cons (pe_xk (Y := (cxOf C8.CX0 X.prog X.w X.K X.mg X.base N_l_refused "_law_refused" (defScope s_l_refused) g cdg X.A X.stack s H C8.E0).nox.tr ((a.1, oe) :: pn) (fun _ _ => False)) (a := a.1) T.xf T.no hz hf List.mem_cons_self (pv 1)) pa_nil)) pa_nil))) pe_no)))
    case q =>
      refine ⟨_, rfl, _, _, false, _, rfl, fun u r => r, U.kCV, e3, false, rfl, iteF ?_⟩
      refine ⟨_, rfl, _, _, true, _, rfl, fun u r => r, U.kCC, e3, true, rfl, iteT ?_⟩
      exact ⟨_, rfl, rfl, rfl, _, _, v, rfl, e3, rfl, v, dat, rfl, dv, g1, g2, g3, len10 (by simp), hh⟩
  have keyV : ∀ a : Addr × Addr, ∃ t : TS, (∀ (oe : Obj) (pn : List (Addr × Obj)), Zc (.ref CV) (some a.2) oe → (∃ vs, oe.data = .fields vs) → PSs ((cxOf C8.CX0 X.prog X.w X.K X.mg X.base N_l_refused "_law_refused" (defScope s_l_refused) g cdg X.A X.stack s H C8.E0).nox.tr ((a.1, oe) :: pn) (fun _ _ => False)) (List.drop 2 (defBody s_l_refused)) t) ∧
      ∀ s0 s2 H1 (v : V) (dat : PyData), H1 a.2 = some (.xd [("value", v)]) → Dv H1 v dat → dat.showable = true → dat.depth ≤ 60 → dat.shown.length ≤ sizeLine → (∀ T, H1 T = none → Q (.ref T) (upd H1 T (.tup [.str "rule", .str dat.shown]))) → t { nx := fun _ H' => Q .non H', rt := Q } [s0, some (.ref a.1), s2] H1 := by
    intro a
    refine ⟨?t2, fun oe pn hz hf => ?p2, fun s0 s2 H1 v dat e3 dv g1 g2 g3 hh => ?q2⟩
    case p2 =>
      have ci := call_isKV (X := (cxOf C8.CX0 X.prog X.w X.K X.mg X.base N_l_refused "_law_refused" (defScope s_l_refused) g cdg X.A X.stack s H C8.E0).nox) (a := a.1) (dd := a.2) (pn := pn) (xe := fun _ _ => False) T2.ex hz hf
      have cr := repr_any (X := (cxOf C8.CX0 X.prog X.w X.K X.mg X.base N_l_refused "_law_refused" (defScope s_l_refused) g cdg X.A X.stack s H C8.E0).nox.tr ((a.1, oe) :: pn) (fun _ _ => False)) gd (by show X.A.units + 3 + 70 < cLine; omega)
      exact pss_cons (ps_if (pt_val (pe_callB ci (by rfl) B.isinstance_ bt_isinstance (pa_cons (pv 1) (pa_cons (pe_glob (v := .ref CV) (by rfl) T2.gC rfl) pa_nil)))) (pss_one (ps_ret (pe_tup (pa_cons pe_str (pa_cons (pe_callB cr (by rfl) B.repr_ bt_repr (pa_cons (pe_xk (Y := (cxOf C8.CX0 X.prog X.w X.K X.mg X.base N_l_refused "_law_refused" (defScope s_l_refused) g cdg X.A X.stack s H C8.E0).nox.tr ((a.1, oe) :: pn) (fun _ _ => False)) (a := a.1) T2.xf T2.no hz hf List.mem_cons_self (pv 1)) pa_nil)) pa_nil))))) pss_nil) pss_no
    case q2 =>
      refine ⟨_, rfl, _, _, true, _, rfl, fun u r => r, U.kVV, e3, true, rfl, iteT ?_⟩
      exact ⟨_, rfl, rfl, rfl, _, _, v, rfl, e3, rfl, v, dat, rfl, dv, g1, g2, g3, len10 (by simp), hh⟩
  obtain ⟨tR, ttR⟩ := Classical.axiomOfChoice keyR
  obtain ⟨tV, ttV⟩ := Classical.axiomOfChoice keyV
  refine ⟨_, pss_cons (ps_set (i := 1) sc_l_refused.nd rfl (Or.inl rfl) pe_non)
    (pss_keep (i := 2) (c := .ref L) (ts := fun _ => tAsg (tVar 2) (gName 1)) (tb := fun W D σ H => ∃ Ech : XK, (∀ cls d σ' H', Ech cls d H' → σ'.length = 3 → W cls d σ' H') ∧ σ[0]? = some (some (.ref f)) ∧ H c' = some (LamX.CodeO c' q) ∧ tl Ech H (fun _ H' => D.nx σ H'))
      (tr := fun a cls d D σ H => (∃ dd, cls = .ref C ∧ d = some dd ∧ tR (a, dd) D σ H) ∨ (∃ dd, cls = .ref CV ∧ d = some dd ∧ tV (a, dd) D σ H)) rfl rfl sc_l_refused.nd rfl rfl ⟨rfl, by decide, .inl U.gL⟩ (fun W pn xe tk => ?hb) (fun a oe pn => pss_one (ps_set (i := 1) sc_l_refused.nd rfl (Or.inl rfl) (pv 2))) (fun a oe cls d pn hz hf => ⟨fun pins s1 σ1 H1 D I h1 => ?hre⟩)), ?_⟩
  case hb =>
    constructor
    intro pins s1 σ1 H1 D I h1
    obtain ⟨Ech, hW, h2, h3, h4⟩ := h1
    exact (pss_one (ps_expr (act (fun cls d σ' H' => σ'.length = 3 → W cls d σ' H') pn xe Ech _ _ (takes_len tk) hW))).run pins s1 σ1 H1 D I ⟨h2, h3, h4⟩
  case hre =>
    rcases h1 with ⟨dd, e1, e2, hh⟩ | ⟨dd, e1, e2, hh⟩
    · subst e1 e2
      exact ((ttR (a, dd)).1 oe pn hz hf).run pins s1 σ1 H1 D I hh
    · subst e1 e2
      exact ((ttV (a, dd)).1 oe pn hz hf).run pins s1 σ1 H1 D I hh
  refine ⟨Ech49 C CV Q, fun cls d σ' H' he hl => ?_, rfl, hc, h⟩
  obtain ⟨s0, s1, s2, rfl⟩ := three49 hl
  rcases he with ⟨e1, dd, v, dat, e2, e3, dv, g1, g2, g3, qq⟩ | ⟨e1, dd, v, dat, e2, e3, dv, g1, g2, g3, qq⟩
  · subst e1 e2
    exact ⟨U.mC, fun a na => ⟨_, rfl, .inl ⟨dd, rfl, rfl, (ttR (a, dd)).2 s0 _ H' v dat e3 dv g1 g2 g3 qq⟩⟩⟩
  · subst e1 e2
    exact ⟨U.mV, fun a na => ⟨_, rfl, .inr ⟨dd, rfl, rfl, (ttV (a, dd)).2 s0 _ H' v dat e3 dv g1 g2 g3 qq⟩⟩⟩
end Lf
namespace Lf
open PySem PySem.Spec PyProof.Rows L2
abbrev qLam50 : Str := (("law" : Str) ++ (".<locals>." : Str)) ++ ("<lambda>" : Str)
theorem mn3 (x : Int) (h : 0 ≤ x) : 0 ≤ (if x < 3 then x else 3) ∧ (if x < 3 then x else 3) ≤ 3 := by
  by_cases z : x < 3
  · rw [if_pos z]
    omega
  · rw [if_neg z]
    omega
theorem Kp.trans {H H1 H2 : Hp} (f : Kp H H1) (g : Kp H1 H2) : Kp H H2 := ⟨fun b xs h => g.l _ _ (f.l _ _ h), fun b xs h => g.t _ _ (f.t _ _ h), fun b h => g.d0 _ (f.d0 _ h), fun b x v h => g.d1 _ _ _ (f.d1 _ _ _ h)⟩
theorem sh2 {x y : Str} (hx : PyData.strOk x = true) (hy : PyData.strOk y = true) : SeqAt.shaped (.tuple [.str x, .str y]) = true := by
  show (PyData.canLay0 (.tuple [.str x, .str y]) && decide ((PyData.tuple [.str x, .str y]).depth ≤ 64)) = true
  rw [Bool.and_eq_true]
  exact ⟨by simp [PyData.canLay0, PyData.canLayAll0, hx, hy], decide_eq_true (by show 1 ≤ 64; decide)⟩
theorem neS {K : PySem.W.Frag} {H : Hp} {r1 r2 : Addr} {x y : Str} {Q : V → Hp → Prop} (hx : SeqAt.shaped (.tuple [.str x, .str y]) = true) (e1 : H r1 = some (.tup [.str x, .str y])) (e2 : H r2 = some (.tup [.str x, .str y])) (h : Q (.bl false) H) : rNeD K (.ref r1) (.ref r2) H Q := by
  refine ⟨.tuple [.str x, .str y], .tuple [.str x, .str y], Dp.tup (SqT.of e1) (.cons (.str x) (.cons (.str y) .nil)), Dp.tup (SqT.of e2) (.cons (.str x) (.cons (.str y) .nil)), hx, hx, ?_⟩
  have hx : (PyData.canLay0 (.tuple [.str x, .str y]) && decide _) = true := hx
  rw [SeqAt.eqv_refl _ (Bool.and_eq_true _ _ ▸ hx).1]
  exact h
theorem eqS {K : PySem.W.Frag} {H : Hp} {r1 r2 : Addr} {x y : Str} {Q : V → Hp → Prop} (hx : SeqAt.shaped (.tuple [.str x, .str y]) = true) (e1 : H r1 = some (.tup [.str x, .str y])) (e2 : H r2 = some (.tup [.str x, .str y])) (h : Q (.bl true) H) : rEqD K (.ref r1) (.ref r2) H Q := by
  refine ⟨.tuple [.str x, .str y], .tuple [.str x, .str y], Dp.tup (SqT.of e1) (.cons (.str x) (.cons (.str y) .nil)), Dp.tup (SqT.of e2) (.cons (.str x) (.cons (.str y) .nil)), hx, hx, ?_⟩
  have hx : (PyData.canLay0 (.tuple [.str x, .str y]) && decide _) = true := hx
  rw [SeqAt.eqv_refl _ (Bool.and_eq_true _ _ ▸ hx).1]
  exact h
/-- no bound for a cycle q, and small enough to be shown -/
def PdW (q : Int) (d : PyData) : Prop := btwB q (10 ^ 60) d = false ∧ Sw d
def smB (d : PyData) : Bool := d.showable && (decide (d.depth ≤ 20) && (decide (d.shown.length ≤ 200) && PyData.strOk d.shown))
theorem sm_by {d : PyData} (h : smB d = true) : Sw d := by
  unfold smB at h
  rw [Bool.and_eq_true, Bool.and_eq_true, Bool.and_eq_true] at h
  have h3 : d.shown.length ≤ 200 := of_decide_eq_true h.2.2.1
  exact ⟨h.1, of_decide_eq_true h.2.1, by omega, h.2.2.2⟩
theorem sm_int {q : Int} (h0 : 1 ≤ q) (h1 : q ≤ 12) : Sw (.int (q - 1)) := by
  have : q = 1 ∨ q = 2 ∨ q = 3 ∨ q = 4 ∨ q = 5 ∨ q = 6 ∨ q = 7 ∨ q = 8 ∨ q = 9 ∨ q = 10 ∨ q = 11 ∨ q = 12 := by omega
  rcases this with rfl | rfl | rfl | rfl | rfl | rfl | rfl | rfl | rfl | rfl | rfl | rfl <;> exact sm_by (by decide +kernel)
def pinDs (p q c E m l : Int) : List Rec := [⟨false, E, (p * E + c) / q⟩, ⟨true, m, (p * m + c) / q⟩, ⟨false, l, (p * l + c) / q⟩]
theorem pin_rcb {p q c E m l : Int} (R : RuleB 200 p q c) (bE : Bd 204 E) (bm : Bd 204 m) (bl : Bd 204 l) : RcB 410 (pinDs p q c E m l) := by
  have q0 : 0 < q := by have := R.q1; omega
  have key : ∀ t, Bd 204 t → Bd 410 ((p * t + c) / q) := fun t bt => by
    have h1 : Bd 404 (p * t) := Bd.mul R.bp bt
    have h2 : Bd 405 (p * t + c) := Bd.add h1 (R.bc.mono (by decide))
    exact (h2.ediv q0).mono (by decide)
  intro d hd
  simp only [pinDs, List.mem_cons, List.not_mem_nil, or_false] at hd
  rcases hd with rfl | rfl | rfl
  · exact ⟨bE.mono (by decide), key E bE⟩
  · exact ⟨bm.mono (by decide), key m bm⟩
  · exact ⟨bl.mono (by decide), key l bl⟩
/-- where the base has the table of modules, nothing tracked stands there -/
theorem ps_n1 {X : Cx} {st : Stmt} {t : TS} (h1 : ∃ o, X.base.get? 1 = some o) (h : PS X st t) : PS X st (fun D σ H => H 1 = none → t D σ H) :=
  ⟨fun pins s σ H D I ht => h.run pins s σ H D I (ht (let ⟨o, ho⟩ := h1; (I.bs 1 o ho).2))⟩
theorem sho_bl (b : Bool) : (PyData.bool b).showable = true ∧ (PyData.bool b).depth ≤ 60 ∧ (PyData.bool b).shown.length ≤ sizeLine := by cases b <;> exact ⟨rfl, by decide, by decide +kernel⟩
section
variable {P : Program} {w : World} {K : PySem.W.Frag} {mg : Str → Option Value} {base : Heap} {C CV L cE PT : Addr}
abbrev s_law : Stmt := topS 62
abbrev N_law : List Str := ["_law_script", "_law_pen_here", "_law_turn", "_law_rule", "_law_most", "_law_value", "_law_kept", "_law_bound", "_law_due", "_law_odd_here", "_law_wrong"]
abbrev P_law : List Str := ["_law_script"]
theorem sc_law : FnScope N_law P_law (defScope s_law) := ⟨rfl, rfl, rfl, by decide +kernel, rfl, by decide +kernel, by decide +kernel⟩
theorem ok_law {f : Addr} {oc kV doc pm ct : Value} {od an : Option Addr} {osl : Array (Option Value)} (lkQ : K.lookup f = some ⟨oc, od, .func (PySem.W.fnOf "law" "law" (defArgs s_law) (defBody s_law) (defScope s_law) .none kV doc pm an (.ref cE) ct), osl⟩) (hcQ : PySem.W.codeIn K (.ref cE) "law" = true) (TB : LamX.TabB base mg cE PT) (o1 : ∃ o, base.get? 1 = some o)
    (T : ValC P K mg C "InvalidNumber" "value") (T2 : ValC P K mg CV "InvalidRule" "value") (U2 : Two49 K mg C CV L) (B : Bi mg) (D_l_refused : Df K mg "_law_refused" s_l_refused P_l_refused) (c_l_pen : C8.Cal P w K mg base 1 "_law_pen" (spPen K) []) (c_l_draw : C8.Cal P w K mg base 1 "_law_draw" spDraw []) (c_l_pick : C8.Cal P w K mg base 2 "_law_pick" spPick []) (c_l_small_rule : C8.Cal P w K mg base 3 "_law_small_rule" spSml []) (cA_l_odd : C8.Cal P w K mg base 3 "_law_odd" spOdd50 []) (c_l_are_pins : C8.Cal P w K mg base 4 "_law_are_pins" spAreP50 []) (c_l_values : C8.Cal P w K mg base 5 "_law_values" spVals50 []) (c_pins : C8.Cal P w K mg base 6 "pins" spPins [])
    (cA_are_pins : C8.Cal P w K mg base 6 "are_pins" spAreA []) (cx_are_pins : CalX P w K mg base 6 "are_pins" (spPinA CV C)) : FnG P w K mg base 9 f (PySem.W.fnOf "law" "law" (defArgs s_law) (defBody s_law) (defScope s_law) .none kV doc pm an (.ref cE) ct) P_law (spLawT K PT) := by
  refine fnG_lk lkQ hcQ sc_law (fun vs H Q E h => ?_) (fun A outer s H vs Q E hr gd h => ?_)
  · obtain ⟨a, ns, rfl, _⟩ := h
    rfl
  · obtain ⟨sc, ns, rfl, hS, hlen, hPT, kk⟩ := h
    obtain ⟨g, fdN, FN, hmN, bN⟩ := D_l_refused
    have kpN := FN.kp
    have c_l_odd := cA_l_odd
    have c_are_pins := cA_are_pins
    obtain ⟨ocN, odN, kVN, dcN, pmN, anN, cdN, ctN, slN, rfl, lkN, hcN⟩ := FN.ex
    have hu0 : (A.deeper (envOfC "law" (defScope s_law) s.heap.objs.size f (.ref cE))).units + 70 < cLine := by
      have := hr.un
      omega
    have hu1 : (A.deeper (envOfC "law" (defScope s_law) s.heap.objs.size f (.ref cE))).units + 80 < cLine := by
      have := hr.un
      omega
    have hT1 : (PT, (cxOf CX0 P w K mg base N_law "law" (defScope s_law) f (.ref cE) A outer s H E).nox.env.qual ++ ("<lambda>" : Str)) ∈ [(PT, qLam50)] := List.mem_singleton.mpr rfl
    have hT2 : ∀ p ∈ [(PT, qLam50)], p.1 = PT → p.2 = (cxOf CX0 P w K mg base N_law "law" (defScope s_law) f (.ref cE) A outer s H E).nox.env.qual ++ ("<lambda>" : Str) := fun p hp _ => by
      rw [List.mem_singleton.mp hp]
      rfl
    refine ⟨_, (pss_cons (ps_set (i := 1) sc_law.nd rfl (Or.inl rfl) (C8.pe_c c_l_pen hr (by decide) (by rfl) (pa_cons (pv 0) pa_nil)))
    (pss_cons (ps_for PassesOwn.never rfl (pi_range1 rfl B.range_ (pa_cons (pe_op op_add pe_int (pe_callB (call_min2 rfl) (by rfl) B.min_ bt_min (pa_cons pe_int (pa_cons (pe_callB (call_len_seq) (by rfl) B.len_ bt_len (pa_cons (pv 0) pa_nil)) pa_nil)))) pa_nil)) (pg_name (i := 2) sc_law.nd rfl (Or.inl rfl))
      (pss_cons (ps_set (i := 3) sc_law.nd rfl (Or.inr rfl) (C8.pe_c c_l_small_rule hr (by decide) (by rfl) (pa_cons (pv 1) (pa_cons pe_int pa_nil))))
    (pss_cons (ps_set (i := 4) sc_law.nd rfl (Or.inl rfl) (pe_op op_add (pe_ix (r := rIxT K) ix_tup (pv 3) pe_int (fun _ _ => rfl)) (C8.pe_c c_l_draw hr (by decide) (by rfl) (pa_cons (pv 1) (pa_cons (pe_op op_sub pe_int (pe_ix (r := rIxT K) ix_tup (pv 3) pe_int (fun _ _ => rfl))) pa_nil)))))
    (C8.pss_cut (ps_for PassesOwn.never rfl (pi_list (C8.pe_c c_l_values hr (by decide) (by rfl) (pa_cons (pv 1) (pa_cons (pv 3) (pa_cons (C8.pe_c c_pins hr (by decide) (by rfl) (pa_cons (pv 3) (pa_cons (pv 4) pa_nil))) pa_nil))))) (pg_name (i := 5) sc_law.nd rfl (Or.inl rfl))
      (pss_cons (ps_set (i := 6) sc_law.nd rfl (Or.inl rfl) (pe_callB ((repr_any1 o1 gd hu0)) (by rfl) B.repr_ bt_repr (pa_cons (pv 5) pa_nil)))
    (pss_one (ps_for PassesOwn.never rfl (pi_tup (pe_tup (pa_cons (pv 4) (pa_cons (pe_ix (r := rIxT K) ix_tup (pv 3) pe_int (fun _ _ => rfl)) pa_nil)))) (pg_name (i := 7) sc_law.nd rfl (Or.inr rfl))
      (pss_cons (ps_n1 o1 (ps_set (i := 8) sc_law.nd rfl (Or.inl rfl) (C8.pe_c c_l_are_pins hr (by decide) (by rfl) (pa_cons (pv 3) (pa_cons (pv 7) (pa_cons (pv 5) pa_nil))))))
    (pss_one (ps_n1 o1 (ps_if (PW.pt (pw_or (pt_cmpR op_ne (pe_callB ((repr_any1 o1 gd hu0)) (by rfl) B.repr_ bt_repr (pa_cons (C8.pe_c c_are_pins hr (by decide) (by rfl) (pa_cons (pv 3) (pa_cons (pv 7) (pa_cons (pv 5) pa_nil)))) pa_nil)) (pe_callB ((repr_any1 o1 gd hu0)) (by rfl) B.repr_ bt_repr (pa_cons (pv 8) pa_nil)) (nomark _)) (pw_or1 (pt_cmpR op_ne (pe_callB ((repr_any1 o1 gd hu0)) (by rfl) B.repr_ bt_repr (pa_cons (pv 5) pa_nil)) (pv 6) (nomark _)))))
      (pss_one (ps_ret pe_bl))
      pss_nil))))))))
    (pss_cons (ps_asg (pe_tup (pa_cons (C8.pe_c c_l_odd hr (by decide) (by rfl) (pa_cons (pv 1) pa_nil)) (pa_cons (C8.pe_c c_l_pick hr (by decide) (by rfl) (pa_cons (pv 1) (pa_cons (pe_lst (pa_cons (pe_op op_sub (pe_ix (r := rIxT K) ix_tup (pv 3) pe_int (fun _ _ => rfl)) pe_int) (pa_cons (pe_op op_add (pe_op op_pow pe_int pe_int) pe_int) (pa_cons pe_bl (pa_cons pe_non (pa_cons pe_str (pa_cons (pe_tup (pa_cons pe_int pa_nil)) pa_nil))))))) pa_nil))) pa_nil))) (pg_tup rfl (pgs_cons (pg_name (i := 9) sc_law.nd rfl (Or.inr rfl)) (pgs_cons (pg_name (i := 10) sc_law.nd rfl (Or.inr rfl)) pgs_nil))))
    (pss_cons (ps_for PassesOwn.never rfl (pi_tup (pe_tup (pa_cons (pv 4) (pa_cons (pv 10) pa_nil)))) (pg_name (i := 7) sc_law.nd rfl (Or.inr rfl))
      (pss_one (ps_if (pt_cmpR (op_neD hr.units) (LamX.pe_lamcall (T := [(PT, qLam50)]) (k := 6) (by rfl) hmN kpN lkN hcN bN sc_l_refused rfl (Or.inl rfl) (gives_49 T T2 U2 B gd hu1) TB rfl hT1 hT2 (hr.mono (by decide)) (LamX.lamS_by (sc := defScope s_law) (by decide +kernel)) rfl (fun _ _ _ _ _ => rfl) (fun A outer s H E f c' hr2 => pe_cx cx_are_pins hr2 (by decide) (takes_of rfl rfl rfl rfl) (by rfl) (pa_cons (pe_var (i := 9) rfl (Or.inr (Or.inr rfl))) (pa_cons (pe_var (i := 7) rfl (Or.inr (Or.inr rfl))) (pa_cons (pe_lst pa_nil) pa_nil))))) (pe_tup (pa_cons pe_str (pa_cons (pe_callB (repr_any gd hu0) (by rfl) B.repr_ bt_repr (pa_cons (pv 9) pa_nil)) pa_nil))) (nomark _))
      (pss_one (ps_ret pe_bl))
      pss_nil)))
    (pss_one (ps_if (pt_cmpR (op_neD hr.units) (LamX.pe_lamcall (T := [(PT, qLam50)]) (k := 6) (by rfl) hmN kpN lkN hcN bN sc_l_refused rfl (Or.inl rfl) (gives_49 T T2 U2 B gd hu1) TB rfl hT1 hT2 (hr.mono (by decide)) (LamX.lamS_by (sc := defScope s_law) (by decide +kernel)) rfl (fun _ _ _ _ _ => rfl) (fun A outer s H E f c' hr2 => pe_cx cx_are_pins hr2 (by decide) (takes_of rfl rfl rfl rfl) (by rfl) (pa_cons (pe_var (i := 3) rfl (Or.inr (Or.inr rfl))) (pa_cons (pe_var (i := 10) rfl (Or.inr (Or.inr rfl))) (pa_cons pe_non pa_nil))))) (pe_tup (pa_cons pe_str (pa_cons (pe_callB (repr_any gd hu0) (by rfl) B.repr_ bt_repr (pa_cons (pv 10) pa_nil)) pa_nil))) (nomark _))
      (pss_one (ps_ret pe_bl))
      pss_nil))))))))
    (pss_one (ps_ret pe_bl)))), ?_⟩
    refine ⟨_, rfl, sc, ns, rfl, hS, fun a H0 hP0 s0 => ?_⟩
    have t0 : LamX.Tabs [(PT, qLam50)] H0 := fun p hp => by
      rw [List.mem_singleton.mp hp]
      exact LamX.TabS.nil (s0 _ _ hPT)
    refine ⟨_, rfl, sc, _, rfl, .inl (s0.seq hS), _, _, rfl, _, _, rfl, rfl, _, rfl, ?_⟩
    obtain ⟨m0, m1⟩ := mn3 ((ns.map V.int).length : Int) (by omega)
    refine ⟨by omega, by omega, ?_⟩
    generalize hnn : (2 + (if ((ns.map V.int).length : Int) < 3 then ((ns.map V.int).length : Int) else 3)) = nn
    refine for_range (lo := 0) (n := nn.toNat) (fun i σ H1 => ∃ (y2 y3 y4 y5 y6 y7 y8 y9 y10 : Option V), σ = [some (.ref sc), some (.ref a), y2, y3, y4, y5, y6, y7, y8, y9, y10] ∧ Pen H1 a (20000 * i) ∧ LamX.Tabs [(PT, qLam50)] H1) ⟨_, _, _, _, _, _, _, _, _, rfl, hP0, t0⟩ ?_ ?_
    · rintro i σ H1 hi ⟨y2, y3, y4, y5, y6, y7, y8, y9, y10, rfl, hP1, t1⟩
      have hi9 : i < 9 := by omega
      refine ⟨_, rfl, a, _, 9, rfl, by decide, by decide, hP1, by omega, fun r H2 p q c R0 pb q12 er hP2 f2 => ?_⟩
      have R : RuleB 200 p q c := R0.mono (by decide)
      have q1 := R.q1
      have t2 := tabs_fr t1 f2
      refine ⟨_, rfl, r, _, _, _, rfl, rfl, SqT.of er, atI_nat (j := 1) rfl, _, rfl, _, rfl, r, _, _, _, rfl, rfl, SqT.of er, atI_nat (j := 1) rfl, _, _, rfl, rfl, a, _, _, rfl, hP2, by omega, by omega, Bd.small 20 (by omega) (by decide), fun e H3 e0 e1 hP3 f3 => ⟨_, _, rfl, rfl, ?_⟩⟩
      show gName 4 (V.int (q + e)) _ _ _
      have hqM : q ≤ q + e := by omega
      have hM : q + e ≤ 40 := by omega
      generalize q + e = M at hqM hM ⊢
      have er3 := f3.t _ _ er
      have t3 := tabs_fr t2 f3
      have hM60 : M ≤ 10 ^ 60 := Int.le_trans hM (by decide)
      clear er t1 t2 f2 f3 hP1 hP2 e0 e1
      refine ⟨fun σ' H' => ∃ (y5 y6 y7 y8 : Option V), σ' = [some (.ref sc), some (.ref a), some (.int ((0 : Int) + i)), some (.ref r), some (.int M), y5, y6, y7, y8, y9, y10] ∧ H' r = some (.tup [.int p, .int q, .int c]) ∧ Pen H' a (20000 * i + 2000) ∧ LamX.Tabs [(PT, qLam50)] H', ?_, ?_⟩
      · refine ⟨_, rfl, _, rfl, _, rfl, _, rfl, r, p, q, c, M, 200, rfl, er3, R, hqM, hM60, by decide, by decide, fun F H4 x y z E0 m l s4 nF eF ex ey ez ok bE bm bl => ?_⟩
        have oF : Obs rcO H4 [.ref x, .ref y, .ref z] (pinDs p q c E0 m l) := .cons ex (.cons ey (.cons ez .nil))
        have bd := pin_rcb R bE bm bl
        have er4 := s4 _ _ er3
        refine ⟨a, _, r, F, p, q, c, _, _, rfl, hP3.same s4, by omega, er4, R, eF, oF, bd, rfl, fun G H5 us eG vG lG hP5 f5 => ?_⟩
        have er5 := f5.t _ _ er4
        have t5 := tabs_fr (tabs_same t3 s4) f5
        clear er4 eF oF bd f5 nF ex ey ez ok bE bm bl s4 er3 hP3 t3
        refine ⟨G, rfl, ⟨_, SqL.of eG⟩, ?_⟩
        refine for_it (walk_list (K := K) (a := G) (xs := us)) (fun k σ H' => ∃ (y5 y6 y7 y8 : Option V), σ = [some (.ref sc), some (.ref a), some (.int ((0 : Int) + i)), some (.ref r), some (.int M), y5, y6, y7, y8, y9, y10] ∧ Same H5 H') ⟨_, _, _, _, rfl, Same.refl _⟩ ?_ ?_ ?_
        · rintro k σ H' _ ⟨_, _, _, _, _, s'⟩
          exact SqL.of (s' _ _ eG)
        · rintro k x σ _ H6 hk ⟨y5, y6, y7, y8, rfl, s6⟩ ⟨rfl, hx⟩
          obtain ⟨dv, ix, vl⟩ := vG x (List.mem_of_getElem? hx)
          have ix6 := DvF.kp (Fr.same s6).kp _ _ ix
          have er6 := s6 _ _ er5
          refine ⟨_, rfl, x, dv, rfl, ix6, vl.s1, vl.s2, vl.s3, ?_⟩
          refine ⟨_, rfl, _, rfl, r, _, _, _, rfl, rfl, SqT.of er6, atI_nat (j := 1) rfl, len10 (by simp), fun q2 nq2 => ⟨q2, rfl, ⟨_, SqT.of upd_same⟩, ?_⟩⟩
          have z2 := sm_upd (o := .tup [.int M, .int q]) nq2
          have eq2 := upd_same (H := H6) (a := q2) (o := .tup [.int M, .int q])
          generalize upd H6 q2 (.tup [.int M, .int q]) = H7 at z2 eq2 ⊢
          refine for_tup (K := K) (a := q2) (xs := [.int M, .int q]) (fun m σ H' => ∃ (y7 y8 : Option V), σ = [some (.ref sc), some (.ref a), some (.int ((0 : Int) + i)), some (.ref r), some (.int M), some x, some (.str dv.shown), y7, y8, y9, y10] ∧ Same H7 H') ⟨_, _, rfl, Same.refl _⟩ ?_ ?_ ?_
          · rintro m σ H' _ ⟨_, _, _, s'⟩
            exact SqT.of (s' _ _ eq2)
          · rintro m bv σ H8 hx2 ⟨y7, y8, rfl, s8⟩
            obtain ⟨N, rfl, hqN, hN, hN60⟩ : ∃ N : Int, bv = .int N ∧ q ≤ N ∧ N ≤ 40 ∧ N ≤ 10 ^ 60 := by
              match m, hx2 with
              | 0, hx2 =>
                cases hx2
                exact ⟨M, rfl, hqM, hM, hM60⟩
              | 1, hx2 =>
                cases hx2
                exact ⟨q, rfl, Int.le_refl _, by omega, by omega⟩
            have s58 := s6.trans (z2.trans s8)
            have er8 := s58 _ _ er5
            have ix8 := DvF.kp (Fr.same (z2.trans s8)).kp _ _ ix6
            refine fun h1n => ?_
            refine ⟨_, rfl, _, rfl, _, rfl, r, x, dv, p, q, c, N, 900, rfl, er8, R.mono (by decide), pb, hqN, hN, DvF.dv h1n _ _ ix8, vl.bd, by decide, by decide, fun H9 b s9 hb => ?_⟩
            refine fun h1n9 => ?_
            have ix9 := DvF.kp (Fr.same s9).kp _ _ ix8
            refine ⟨_, rfl, _, rfl, _, rfl, r, x, dv, p, q, c, N, 900, rfl, s9 _ _ er8, R.mono (by decide), hqN, hN60, DvF.dv h1n9 _ _ ix9, vl.rg, vl.bd, by decide, by decide, fun H10 b2 s10 hb2 => ?_⟩
            refine ⟨.bl b2, .bool b2, rfl, .bl b2, (sho_bl b2).1, (sho_bl b2).2.1, (sho_bl b2).2.2, ?_⟩
            refine ⟨_, rfl, .bl b, .bool b, rfl, .bl b, (sho_bl b).1, (sho_bl b).2.1, (sho_bl b).2.2, ?_⟩
            obtain rfl : b = b2 := by
              rw [Bool.eq_iff_iff, hb, hb2]
            refine ⟨rfl, _, rfl, iteFs (by rw [decide_eq_true rfl]; rfl) ?_⟩
            refine ⟨_, rfl, x, dv, rfl, DvF.kp (Fr.same s10).kp _ _ ix9, vl.s1, vl.s2, vl.s3, _, rfl, rfl, _, rfl, iteFs (by rw [decide_eq_true rfl]; rfl) ?_⟩
            exact ⟨_, _, rfl, s8.trans (s9.trans s10)⟩
          · rintro σ H8 ⟨y7, y8, rfl, s8⟩
            exact ⟨_, _, _, _, rfl, s6.trans (z2.trans s8)⟩
        · rintro σ H6 ⟨y5, y6, y7, y8, rfl, s6⟩
          exact ⟨_, _, _, _, rfl, s6 _ _ er5, (hP5.same s6).mono (by omega), tabs_same t5 s6⟩
      rintro σ H7 ⟨y5, y6, y7, y8, rfl, er7, hP7, t7⟩
      -- what is refused
      refine ⟨_, rfl, a, _, rfl, hP7, by omega, fun ov H8 oo hP8 f8 => ?_⟩
      obtain ⟨od_, go, ⟨ro, so⟩, _⟩ := oo
      have er8 := f8.t _ _ er7
      have t8 := tabs_fr t7 f8
      clear er7 hP7 t7 f8
      refine ⟨_, rfl, _, rfl, r, _, _, _, rfl, rfl, SqT.of er8, atI_nat (j := 1) rfl, _, _, rfl, rfl, _, _, rfl, rfl, ⟨by decide, by decide, by decide⟩, _, _, rfl, rfl, len10 (by simp), fun tu ntu => ?_⟩
      have z1 := sm_upd (o := .tup [.int 9]) ntu
      refine ⟨len10 (by simp), fun O nO => ?_⟩
      have z4 := sm_upd (o := .lst [.int (q - 1), .int (10 ^ 60 + 1), .bl true, .non, .str "9", .ref tu]) nO
      have z14 := z1.trans z4
      have etu := z4 _ _ (upd_same (H := H8) (a := tu) (o := .tup [.int 9]))
      have wrong : ∀ {X : Hp}, X tu = some (.tup [.int 9]) → ∀ v ∈ [V.int (q - 1), .int (10 ^ 60 + 1), .bl true, .non, .str "9", .ref tu], ∃ d, Dv X v d ∧ PdW q d := fun {X} etu v hv => by
        have lowi : ∀ z : Int, z < q → btwB q (10 ^ 60) (.int z) = false := fun z hz => by
          show (decide (q ≤ z) && decide (z ≤ 10 ^ 60)) = false
          rw [decide_eq_false (by omega), Bool.false_and]
        simp only [List.mem_cons, List.not_mem_nil, or_false] at hv
        rcases hv with rfl | rfl | rfl | rfl | rfl | rfl
        · exact ⟨_, .int _, lowi _ (by omega), sm_int q1 (by omega)⟩
        · refine ⟨_, .int _, ?_, sm_by (by decide +kernel)⟩
          show (decide (q ≤ 10 ^ 60 + 1) && decide ((10 : Int) ^ 60 + 1 ≤ 10 ^ 60)) = false
          rw [show decide ((10 : Int) ^ 60 + 1 ≤ 10 ^ 60) = false by decide, Bool.and_false]
        · exact ⟨_, .bl true, rfl, sm_by (by decide +kernel)⟩
        · exact ⟨_, .non, rfl, sm_by (by decide +kernel)⟩
        · exact ⟨_, .str _, rfl, sm_by (by decide +kernel)⟩
        · exact ⟨_, .tup etu (.cons (.int 9) .nil), rfl, sm_by (by decide +kernel)⟩
      refine ⟨a, O, _, _, rfl, hP8.same z14, by omega, upd_same, by simp, by simp, fun wv H9 hw hP9 f9 => ?_⟩
      have hw : wv ∈ [V.int (q - 1), .int (10 ^ 60 + 1), .bl true, .non, .str "9", .ref tu] := hw
      have f9' : Fr H8 H9 := (Fr.same z14).trans f9
      obtain ⟨wd_, gw, wb, sw⟩ := wrong (f9.t _ _ etu) wv hw
      refine ⟨len10 (by simp), fun tt ntt => ⟨tt, _, rfl, SqT.of upd_same, rfl, _, _, rfl, _, _, rfl, rfl, ?_⟩⟩
      have ztt := sm_upd (o := .tup [ov, wv]) ntt
      have f10' := f9'.trans (Fr.same ztt)
      have go := Dv.kp f10'.kp _ _ go
      have gw := Dv.kp (Fr.same ztt).kp _ _ gw
      have er10 := f10'.t _ _ er8
      have t10 := tabs_fr t8 f10'
      have hP10 := hP9.same ztt
      generalize upd H9 tt (.tup [ov, wv]) = H10 at go gw er10 t10 hP10 ⊢
      clear wrong hw hP9 f9 f9' f10' er8 z1 z4 z14 ztt etu hP8 t8 ntu nO ntt
      have dep : od_.depth ≤ 60 := Nat.le_trans so.s2 (by decide)
      have lng : od_.shown.length ≤ sizeLine := Nat.le_trans so.s3 (by rw [sizeLine_eq]; decide)
      have depw : wd_.depth ≤ 60 := Nat.le_trans sw.s2 (by decide)
      have lngw : wd_.shown.length ≤ sizeLine := Nat.le_trans sw.s3 (by rw [sizeLine_eq]; decide)
      have stR : PyData.strOk "rule" = true := by decide +kernel
      have stN : PyData.strOk "number" = true := by decide +kernel
      -- with two bounds
      refine ⟨_, rfl, _, rfl, len10 (by simp), fun q2 nq2 => ⟨q2, rfl, ⟨_, SqT.of upd_same⟩, ?_⟩⟩
      have z1 := sm_upd (o := .tup [.int M, wv]) nq2
      have eq2 := upd_same (H := H10) (a := q2) (o := .tup [.int M, wv])
      have go := Dv.kp (Fr.same z1).kp _ _ go
      have gw := Dv.kp (Fr.same z1).kp _ _ gw
      have er11 := z1 _ _ er10
      have hP11 := hP10.same z1
      have t11 := tabs_same t10 z1
      generalize upd H10 q2 (.tup [.int M, wv]) = H11 at go gw er11 hP11 t11 eq2 ⊢
      clear z1 er10 hP10 t10
      refine for_tup (K := K) (a := q2) (xs := [.int M, wv]) (fun m σ H' => ∃ (y7 : Option V), σ = [some (.ref sc), some (.ref a), some (.int ((0 : Int) + i)), some (.ref r), some (.int M), y5, y6, y7, y8, some ov, some wv] ∧ Pen H' a (20000 * i + 3000) ∧ LamX.Tabs [(PT, qLam50)] H' ∧ Kp H11 H') ⟨_, rfl, hP11.mono (by omega), t11, ⟨fun _ _ h => h, fun _ _ h => h, fun _ h => h, fun _ _ _ h => h⟩⟩ ?_ ?_ ?_
      · rintro m σ H' _ ⟨_, _, _, _, kp⟩
        exact SqT.of (kp.t _ _ eq2)
      · rintro m bv σ H' hx ⟨y7', rfl, hP', t', kp'⟩
        refine ⟨t', fun H13 x13 t13 => ?_⟩
        have k13 := kp'.trans (ext_kp x13)
        refine ⟨_, rfl, _, rfl, len10 (by simp), fun el nel => ?_⟩
        have ze := sm_upd (o := .lst []) nel
        refine ⟨ov, bv, .ref el, rfl, ov, bv, rfl, .inl ⟨od_, Dv.kp (k13.trans (Fr.same ze).kp) _ _ go, ro, fun H14 s14 dd ndd => ?_⟩⟩
        have z1 := sm_upd (o := .xd [("value", ov)]) ndd
        have s1 := ze.trans (s14.trans z1)
        have k14 := k13.trans (Fr.same s1).kp
        refine .inr ⟨rfl, dd, ov, od_, rfl, upd_same, Dv.kp k14 _ _ go, so.s1, dep, lng, fun T1 nT1 => ?_⟩
        have z2 := sm_upd (o := .tup [.str "rule", .str od_.shown]) nT1
        refine ⟨_, rfl, ov, od_, rfl, Dv.kp (k14.trans (Fr.same z2).kp) _ _ go, so.s1, dep, lng, len10 (by simp), fun T2 nT2 => ?_⟩
        have z3 := sm_upd (o := .tup [.str "rule", .str od_.shown]) nT2
        refine neS (sh2 stR so.s4) (z3 _ _ upd_same) upd_same ⟨_, rfl, iteF ?_⟩
        have s := s1.trans (z2.trans z3)
        exact ⟨_, rfl, (hP'.extN x13).same s, tabs_same t13 s, k13.trans (Fr.same s).kp⟩
      · rintro σ H' ⟨y7', rfl, hP', t', kp'⟩
        refine ⟨t', fun H13 x13 t13 => ?_⟩
        have k13 := kp'.trans (ext_kp x13)
        refine ⟨_, rfl, _, rfl, .ref r, wv, .non, rfl, .ref r, wv, rfl, .inr ⟨r, p, q, c, 200, wd_, rfl, k13.t _ _ er11, R, Dv.kp k13 _ _ gw, wb, fun H14 s14 dd ndd => ?_⟩⟩
        have z1 := sm_upd (o := .xd [("value", wv)]) ndd
        have s1 := s14.trans z1
        have k14 := k13.trans (Fr.same s1).kp
        refine .inl ⟨rfl, dd, wv, wd_, rfl, upd_same, Dv.kp k14 _ _ gw, sw.s1, depw, lngw, fun T1 nT1 => ?_⟩
        have z2 := sm_upd (o := .tup [.str "number", .str wd_.shown]) nT1
        refine ⟨_, rfl, wv, wd_, rfl, Dv.kp (k14.trans (Fr.same z2).kp) _ _ gw, sw.s1, depw, lngw, len10 (by simp), fun T2 nT2 => ?_⟩
        have z3 := sm_upd (o := .tup [.str "number", .str wd_.shown]) nT2
        refine neS (sh2 stN sw.s4) (z3 _ _ upd_same) upd_same ⟨_, rfl, iteF ?_⟩
        have s := s1.trans (z2.trans z3)
        exact ⟨_, _, _, _, _, _, _, _, _, rfl, ((hP'.extN x13).same s).mono (by omega), tabs_same t13 s⟩
    · rintro σ H1 ⟨y2, y3, y4, y5, y6, y7, y8, y9, y10, rfl, hP1, t1⟩
      exact kk _
end
/-! ### what the top has written -/
abbrev sI_InvalidNumber : Stmt := (C8.clsBody (topS 3)).getD 0 (.Pass ⟨0, 0, 0, 0⟩)
theorem iniT_InvalidNumber : IniT "value" (defArgs sI_InvalidNumber) (defBody sI_InvalidNumber) (defScope sI_InvalidNumber) := ⟨⟨_, rfl, rfl⟩, ⟨_, _, _, _, _, _, _, _, _, _, _, _, rfl, _, fun env => rfl⟩, rfl, rfl, rfl, rfl, by decide +kernel, by decide +kernel, rfl, rfl, rfl, by decide +kernel, by decide +kernel, by decide +kernel⟩
abbrev sI_InvalidRule : Stmt := (C8.clsBody (topS 2)).getD 0 (.Pass ⟨0, 0, 0, 0⟩)
theorem iniT_InvalidRule : IniT "value" (defArgs sI_InvalidRule) (defBody sI_InvalidRule) (defScope sI_InvalidRule) := ⟨⟨_, rfl, rfl⟩, ⟨_, _, _, _, _, _, _, _, _, _, _, _, rfl, _, fun env => rfl⟩, rfl, rfl, rfl, rfl, by decide +kernel, by decide +kernel, rfl, rfl, rfl, by decide +kernel, by decide +kernel, by decide +kernel⟩
theorem all_mk {l : PySem.W.OpenLaw} {w : World} {K : PySem.W.Frag} {h : Heap} {mg : Str → Option Value} {fa : Addr} (X : K.In h) (G : h.Ns mainGlobals mg) (hfa : mg "law" = some (.ref fa))
    {f0 f1 f2 f3 f4 f5 f6 f7 f8 f9 f10 f11 f12 f13 f14 f15 f16 f17 f18 f19 f20 f21 f22 f23 f24 f25 f26 f27 f28 f29 f30 f31 f32 f33 f34 f35 f36 f37 f38 f39 f40 f41 f42 f43 f44 f45 f46 f47 f48 : Addr} {od0 an0 od1 an1 od2 an2 od3 an3 od4 an4 od5 an5 od6 an6 od7 an7 od8 an8 od9 an9 od10 an10 od11 an11 od12 an12 od13 an13 od14 an14 od15 an15 od16 an16 od17 an17 od18 an18 od19 an19 od20 an20 od21 an21 od22 an22 od23 an23 od24 an24 od25 an25 od26 an26 od27 an27 od28 an28 od29 an29 od30 an30 od31 an31 od32 an32 od33 an33 od34 an34 od35 an35 od36 an36 od37 an37 od38 an38 od39 an39 od40 an40 od41 an41 od42 an42 od43 an43 od44 an44 od45 an45 od46 an46 od47 an47 od48 an48 : Option Addr} {sl0 sl1 sl2 sl3 sl4 sl5 sl6 sl7 sl8 sl9 sl10 sl11 sl12 sl13 sl14 sl15 sl16 sl17 sl18 sl19 sl20 sl21 sl22 sl23 sl24 sl25 sl26 sl27 sl28 sl29 sl30 sl31 sl32 sl33 sl34 sl35 sl36 sl37 sl38 sl39 sl40 sl41 sl42 sl43 sl44 sl45 sl46 sl47 sl48 : Array (Option Value)} {oc0 kV0 dc0 pm0 cd0 ct0 oc1 kV1 dc1 pm1 cd1 ct1 oc2 kV2 dc2 pm2 cd2 ct2 oc3 kV3 dc3 pm3 cd3 ct3 oc4 kV4 dc4 pm4 cd4 ct4 oc5 kV5 dc5 pm5 cd5 ct5 oc6 kV6 dc6 pm6 cd6 ct6 oc7 kV7 dc7 pm7 cd7 ct7 oc8 kV8 dc8 pm8 cd8 ct8 oc9 kV9 dc9 pm9 cd9 ct9 oc10 kV10 dc10 pm10 cd10 ct10 oc11 kV11 dc11 pm11 cd11 ct11 oc12 kV12 dc12 pm12 cd12 ct12 oc13 kV13 dc13 pm13 cd13 ct13 oc14 kV14 dc14 pm14 cd14 ct14 oc15 kV15 dc15 pm15 cd15 ct15 oc16 kV16 dc16 pm16 cd16 ct16 oc17 kV17 dc17 pm17 cd17 ct17 oc18 kV18 dc18 pm18 cd18 ct18 oc19 kV19 dc19 pm19 cd19 ct19 oc20 kV20 dc20 pm20 cd20 ct20 oc21 kV21 dc21 pm21 cd21 ct21 oc22 kV22 dc22 pm22 cd22 ct22 oc23 kV23 dc23 pm23 cd23 ct23 oc24 kV24 dc24 pm24 cd24 ct24 oc25 kV25 dc25 pm25 cd25 ct25 oc26 kV26 dc26 pm26 cd26 ct26 oc27 kV27 dc27 pm27 cd27 ct27 oc28 kV28 dc28 pm28 cd28 ct28 oc29 kV29 dc29 pm29 cd29 ct29 oc30 kV30 dc30 pm30 cd30 ct30 oc31 kV31 dc31 pm31 cd31 ct31 oc32 kV32 dc32 pm32 cd32 ct32 oc33 kV33 dc33 pm33 cd33 ct33 oc34 kV34 dc34 pm34 cd34 ct34 oc35 kV35 dc35 pm35 cd35 ct35 oc36 kV36 dc36 pm36 cd36 ct36 oc37 kV37 dc37 pm37 cd37 ct37 oc38 kV38 dc38 pm38 cd38 ct38 oc39 kV39 dc39 pm39 cd39 ct39 oc40 kV40 dc40 pm40 cd40 ct40 oc41 kV41 dc41 pm41 cd41 ct41 oc42 kV42 dc42 pm42 cd42 ct42 oc43 kV43 dc43 pm43 cd43 ct43 oc44 kV44 dc44 pm44 cd44 ct44 oc45 kV45 dc45 pm45 cd45 ct45 oc46 kV46 dc46 pm46 cd46 ct46 oc47 kV47 dc47 pm47 cd47 ct47 oc48 kV48 dc48 pm48 cd48 ct48 : Value}
    (a0 : PySem.W.nsIn K mainGlobals "_law_pen" = some (some (.ref f0))) (l0 : K.lookup f0 = some ⟨oc0, od0, .func (PySem.W.fnOf "_law_pen" "_law_pen" (defArgs s_l_pen) (defBody s_l_pen) (defScope s_l_pen) .none kV0 dc0 pm0 an0 cd0 ct0), sl0⟩) (c0 : PySem.W.codeIn K cd0 "_law_pen" = true) (k0 : PySem.W.keepIn K (.ref f0) = true)
    (a1 : PySem.W.nsIn K mainGlobals "_law_draw" = some (some (.ref f1))) (l1 : K.lookup f1 = some ⟨oc1, od1, .func (PySem.W.fnOf "_law_draw" "_law_draw" (defArgs s_l_draw) (defBody s_l_draw) (defScope s_l_draw) .none kV1 dc1 pm1 an1 cd1 ct1), sl1⟩) (c1 : PySem.W.codeIn K cd1 "_law_draw" = true) (k1 : PySem.W.keepIn K (.ref f1) = true)
    (a2 : PySem.W.nsIn K mainGlobals "_law_pick" = some (some (.ref f2))) (l2 : K.lookup f2 = some ⟨oc2, od2, .func (PySem.W.fnOf "_law_pick" "_law_pick" (defArgs s_l_pick) (defBody s_l_pick) (defScope s_l_pick) .none kV2 dc2 pm2 an2 cd2 ct2), sl2⟩) (c2 : PySem.W.codeIn K cd2 "_law_pick" = true) (k2 : PySem.W.keepIn K (.ref f2) = true)
    (a3 : PySem.W.nsIn K mainGlobals "_law_gcd" = some (some (.ref f3))) (l3 : K.lookup f3 = some ⟨oc3, od3, .func (PySem.W.fnOf "_law_gcd" "_law_gcd" (defArgs s_l_gcd) (defBody s_l_gcd) (defScope s_l_gcd) .none kV3 dc3 pm3 an3 cd3 ct3), sl3⟩) (c3 : PySem.W.codeIn K cd3 "_law_gcd" = true) (k3 : PySem.W.keepIn K (.ref f3) = true)
    (a4 : PySem.W.nsIn K mainGlobals "is_integer" = some (some (.ref f4))) (l4 : K.lookup f4 = some ⟨oc4, od4, .func (PySem.W.fnOf "is_integer" "is_integer" (defArgs s_is_integer) (defBody s_is_integer) (defScope s_is_integer) .none kV4 dc4 pm4 an4 cd4 ct4), sl4⟩) (c4 : PySem.W.codeIn K cd4 "is_integer" = true) (k4 : PySem.W.keepIn K (.ref f4) = true)
    (a5 : PySem.W.nsIn K mainGlobals "gcd" = some (some (.ref f5))) (l5 : K.lookup f5 = some ⟨oc5, od5, .func (PySem.W.fnOf "gcd" "gcd" (defArgs s_gcd) (defBody s_gcd) (defScope s_gcd) .none kV5 dc5 pm5 an5 cd5 ct5), sl5⟩) (c5 : PySem.W.codeIn K cd5 "gcd" = true) (k5 : PySem.W.keepIn K (.ref f5) = true)
    (a6 : PySem.W.nsIn K mainGlobals "is_rule" = some (some (.ref f6))) (l6 : K.lookup f6 = some ⟨oc6, od6, .func (PySem.W.fnOf "is_rule" "is_rule" (defArgs s_is_rule) (defBody s_is_rule) (defScope s_is_rule) .none kV6 dc6 pm6 an6 cd6 ct6), sl6⟩) (c6 : PySem.W.codeIn K cd6 "is_rule" = true) (k6 : PySem.W.keepIn K (.ref f6) = true)
    (a7 : PySem.W.nsIn K mainGlobals "check_rule" = some (some (.ref f7))) (l7 : K.lookup f7 = some ⟨oc7, od7, .func (PySem.W.fnOf "check_rule" "check_rule" (defArgs s_check_rule) (defBody s_check_rule) (defScope s_check_rule) .none kV7 dc7 pm7 an7 cd7 ct7), sl7⟩) (c7 : PySem.W.codeIn K cd7 "check_rule" = true) (k7 : PySem.W.keepIn K (.ref f7) = true)
    (a8 : PySem.W.nsIn K mainGlobals "is_rate" = some (some (.ref f8))) (l8 : K.lookup f8 = some ⟨oc8, od8, .func (PySem.W.fnOf "is_rate" "is_rate" (defArgs s_is_rate) (defBody s_is_rate) (defScope s_is_rate) .none kV8 dc8 pm8 an8 cd8 ct8), sl8⟩) (c8 : PySem.W.codeIn K cd8 "is_rate" = true) (k8 : PySem.W.keepIn K (.ref f8) = true)
    (a9 : PySem.W.nsIn K mainGlobals "check_rate" = some (some (.ref f9))) (l9 : K.lookup f9 = some ⟨oc9, od9, .func (PySem.W.fnOf "check_rate" "check_rate" (defArgs s_check_rate) (defBody s_check_rate) (defScope s_check_rate) .none kV9 dc9 pm9 an9 cd9 ct9), sl9⟩) (c9 : PySem.W.codeIn K cd9 "check_rate" = true) (k9 : PySem.W.keepIn K (.ref f9) = true)
    (a10 : PySem.W.nsIn K mainGlobals "simplest_inside" = some (some (.ref f10))) (l10 : K.lookup f10 = some ⟨oc10, od10, .func (PySem.W.fnOf "simplest_inside" "simplest_inside" (defArgs s_simplest_inside) (defBody s_simplest_inside) (defScope s_simplest_inside) .none kV10 dc10 pm10 an10 cd10 ct10), sl10⟩) (c10 : PySem.W.codeIn K cd10 "simplest_inside" = true) (k10 : PySem.W.keepIn K (.ref f10) = true)
    (a11 : PySem.W.nsIn K mainGlobals "is_record" = some (some (.ref f11))) (l11 : K.lookup f11 = some ⟨oc11, od11, .func (PySem.W.fnOf "is_record" "is_record" (defArgs s_is_record) (defBody s_is_record) (defScope s_is_record) .none kV11 dc11 pm11 an11 cd11 ct11), sl11⟩) (c11 : PySem.W.codeIn K cd11 "is_record" = true) (k11 : PySem.W.keepIn K (.ref f11) = true)
    (a12 : PySem.W.nsIn K mainGlobals "split_records" = some (some (.ref f12))) (l12 : K.lookup f12 = some ⟨oc12, od12, .func (PySem.W.fnOf "split_records" "split_records" (defArgs s_split_records) (defBody s_split_records) (defScope s_split_records) .none kV12 dc12 pm12 an12 cd12 ct12), sl12⟩) (c12 : PySem.W.codeIn K cd12 "split_records" = true) (k12 : PySem.W.keepIn K (.ref f12) = true)
    (a13 : PySem.W.nsIn K mainGlobals "_law_odd_record" = some (some (.ref f13))) (l13 : K.lookup f13 = some ⟨oc13, od13, .func (PySem.W.fnOf "_law_odd_record" "_law_odd_record" (defArgs s_l_odd_record) (defBody s_l_odd_record) (defScope s_l_odd_record) .none kV13 dc13 pm13 an13 cd13 ct13), sl13⟩) (c13 : PySem.W.codeIn K cd13 "_law_odd_record" = true) (k13 : PySem.W.keepIn K (.ref f13) = true)
    (a14 : PySem.W.nsIn K mainGlobals "_law_far" = some (some (.ref f14))) (l14 : K.lookup f14 = some ⟨oc14, od14, .func (PySem.W.fnOf "_law_far" "_law_far" (defArgs s_l_far) (defBody s_l_far) (defScope s_l_far) .none kV14 dc14 pm14 an14 cd14 ct14), sl14⟩) (c14 : PySem.W.codeIn K cd14 "_law_far" = true) (k14 : PySem.W.keepIn K (.ref f14) = true)
    (a15 : PySem.W.nsIn K mainGlobals "_law_count" = some (some (.ref f15))) (l15 : K.lookup f15 = some ⟨oc15, od15, .func (PySem.W.fnOf "_law_count" "_law_count" (defArgs s_l_count) (defBody s_l_count) (defScope s_l_count) .none kV15 dc15 pm15 an15 cd15 ct15), sl15⟩) (c15 : PySem.W.codeIn K cd15 "_law_count" = true) (k15 : PySem.W.keepIn K (.ref f15) = true)
    (a16 : PySem.W.nsIn K mainGlobals "_law_time" = some (some (.ref f16))) (l16 : K.lookup f16 = some ⟨oc16, od16, .func (PySem.W.fnOf "_law_time" "_law_time" (defArgs s_l_time) (defBody s_l_time) (defScope s_l_time) .none kV16 dc16 pm16 an16 cd16 ct16), sl16⟩) (c16 : PySem.W.codeIn K cd16 "_law_time" = true) (k16 : PySem.W.keepIn K (.ref f16) = true)
    (a17 : PySem.W.nsIn K mainGlobals "_law_record" = some (some (.ref f17))) (l17 : K.lookup f17 = some ⟨oc17, od17, .func (PySem.W.fnOf "_law_record" "_law_record" (defArgs s_l_record) (defBody s_l_record) (defScope s_l_record) .none kV17 dc17 pm17 an17 cd17 ct17), sl17⟩) (c17 : PySem.W.codeIn K cd17 "_law_record" = true) (k17 : PySem.W.keepIn K (.ref f17) = true)
    (a18 : PySem.W.nsIn K mainGlobals "tighter_pairs" = some (some (.ref f18))) (l18 : K.lookup f18 = some ⟨oc18, od18, .func (PySem.W.fnOf "tighter_pairs" "tighter_pairs" (defArgs s_tighter_pairs) (defBody s_tighter_pairs) (defScope s_tighter_pairs) .none kV18 dc18 pm18 an18 cd18 ct18), sl18⟩) (c18 : PySem.W.codeIn K cd18 "tighter_pairs" = true) (k18 : PySem.W.keepIn K (.ref f18) = true)
    (a19 : PySem.W.nsIn K mainGlobals "simplest_between" = some (some (.ref f19))) (l19 : K.lookup f19 = some ⟨oc19, od19, .func (PySem.W.fnOf "simplest_between" "simplest_between" (defArgs s_simplest_between) (defBody s_simplest_between) (defScope s_simplest_between) .none kV19 dc19 pm19 an19 cd19 ct19), sl19⟩) (c19 : PySem.W.codeIn K cd19 "simplest_between" = true) (k19 : PySem.W.keepIn K (.ref f19) = true)
    (a20 : PySem.W.nsIn K mainGlobals "reduce_rate" = some (some (.ref f20))) (l20 : K.lookup f20 = some ⟨oc20, od20, .func (PySem.W.fnOf "reduce_rate" "reduce_rate" (defArgs s_reduce_rate) (defBody s_reduce_rate) (defScope s_reduce_rate) .none kV20 dc20 pm20 an20 cd20 ct20), sl20⟩) (c20 : PySem.W.codeIn K cd20 "reduce_rate" = true) (k20 : PySem.W.keepIn K (.ref f20) = true)
    (a21 : PySem.W.nsIn K mainGlobals "tight_pairs" = some (some (.ref f21))) (l21 : K.lookup f21 = some ⟨oc21, od21, .func (PySem.W.fnOf "tight_pairs" "tight_pairs" (defArgs s_tight_pairs) (defBody s_tight_pairs) (defScope s_tight_pairs) .none kV21 dc21 pm21 an21 cd21 ct21), sl21⟩) (c21 : PySem.W.codeIn K cd21 "tight_pairs" = true) (k21 : PySem.W.keepIn K (.ref f21) = true)
    (a22 : PySem.W.nsIn K mainGlobals "leave_no_rate" = some (some (.ref f22))) (l22 : K.lookup f22 = some ⟨oc22, od22, .func (PySem.W.fnOf "leave_no_rate" "leave_no_rate" (defArgs s_leave_no_rate) (defBody s_leave_no_rate) (defScope s_leave_no_rate) .none kV22 dc22 pm22 an22 cd22 ct22), sl22⟩) (c22 : PySem.W.codeIn K cd22 "leave_no_rate" = true) (k22 : PySem.W.keepIn K (.ref f22) = true)
    (a23 : PySem.W.nsIn K mainGlobals "rate_ends" = some (some (.ref f23))) (l23 : K.lookup f23 = some ⟨oc23, od23, .func (PySem.W.fnOf "rate_ends" "rate_ends" (defArgs s_rate_ends) (defBody s_rate_ends) (defScope s_rate_ends) .none kV23 dc23 pm23 an23 cd23 ct23), sl23⟩) (c23 : PySem.W.codeIn K cd23 "rate_ends" = true) (k23 : PySem.W.keepIn K (.ref f23) = true)
    (a24 : PySem.W.nsIn K mainGlobals "phase_ends" = some (some (.ref f24))) (l24 : K.lookup f24 = some ⟨oc24, od24, .func (PySem.W.fnOf "phase_ends" "phase_ends" (defArgs s_phase_ends) (defBody s_phase_ends) (defScope s_phase_ends) .none kV24 dc24 pm24 an24 cd24 ct24), sl24⟩) (c24 : PySem.W.codeIn K cd24 "phase_ends" = true) (k24 : PySem.W.keepIn K (.ref f24) = true)
    (a25 : PySem.W.nsIn K mainGlobals "_law_odd" = some (some (.ref f25))) (l25 : K.lookup f25 = some ⟨oc25, od25, .func (PySem.W.fnOf "_law_odd" "_law_odd" (defArgs s_l_odd) (defBody s_l_odd) (defScope s_l_odd) .none kV25 dc25 pm25 an25 cd25 ct25), sl25⟩) (c25 : PySem.W.codeIn K cd25 "_law_odd" = true) (k25 : PySem.W.keepIn K (.ref f25) = true)
    (a26 : PySem.W.nsIn K mainGlobals "divide_up" = some (some (.ref f26))) (l26 : K.lookup f26 = some ⟨oc26, od26, .func (PySem.W.fnOf "divide_up" "divide_up" (defArgs s_divide_up) (defBody s_divide_up) (defScope s_divide_up) .none kV26 dc26 pm26 an26 cd26 ct26), sl26⟩) (c26 : PySem.W.codeIn K cd26 "divide_up" = true) (k26 : PySem.W.keepIn K (.ref f26) = true)
    (a27 : PySem.W.nsIn K mainGlobals "first_exit" = some (some (.ref f27))) (l27 : K.lookup f27 = some ⟨oc27, od27, .func (PySem.W.fnOf "first_exit" "first_exit" (defArgs s_first_exit) (defBody s_first_exit) (defScope s_first_exit) .none kV27 dc27 pm27 an27 cd27 ct27), sl27⟩) (c27 : PySem.W.codeIn K cd27 "first_exit" = true) (k27 : PySem.W.keepIn K (.ref f27) = true)
    (a28 : PySem.W.nsIn K mainGlobals "first_inside" = some (some (.ref f28))) (l28 : K.lookup f28 = some ⟨oc28, od28, .func (PySem.W.fnOf "first_inside" "first_inside" (defArgs s_first_inside) (defBody s_first_inside) (defScope s_first_inside) .none kV28 dc28 pm28 an28 cd28 ct28), sl28⟩) (c28 : PySem.W.codeIn K cd28 "first_inside" = true) (k28 : PySem.W.keepIn K (.ref f28) = true)
    (a29 : PySem.W.nsIn K mainGlobals "line_from" = some (some (.ref f29))) (l29 : K.lookup f29 = some ⟨oc29, od29, .func (PySem.W.fnOf "line_from" "line_from" (defArgs s_line_from) (defBody s_line_from) (defScope s_line_from) .none kV29 dc29 pm29 an29 cd29 ct29), sl29⟩) (c29 : PySem.W.codeIn K cd29 "line_from" = true) (k29 : PySem.W.keepIn K (.ref f29) = true)
    (a30 : PySem.W.nsIn K mainGlobals "first_between" = some (some (.ref f30))) (l30 : K.lookup f30 = some ⟨oc30, od30, .func (PySem.W.fnOf "first_between" "first_between" (defArgs s_first_between) (defBody s_first_between) (defScope s_first_between) .none kV30 dc30 pm30 an30 cd30 ct30), sl30⟩) (c30 : PySem.W.codeIn K cd30 "first_between" = true) (k30 : PySem.W.keepIn K (.ref f30) = true)
    (a31 : PySem.W.nsIn K mainGlobals "first_hit" = some (some (.ref f31))) (l31 : K.lookup f31 = some ⟨oc31, od31, .func (PySem.W.fnOf "first_hit" "first_hit" (defArgs s_first_hit) (defBody s_first_hit) (defScope s_first_hit) .none kV31 dc31 pm31 an31 cd31 ct31), sl31⟩) (c31 : PySem.W.codeIn K cd31 "first_hit" = true) (k31 : PySem.W.keepIn K (.ref f31) = true)
    (a32 : PySem.W.nsIn K mainGlobals "check_between" = some (some (.ref f32))) (l32 : K.lookup f32 = some ⟨oc32, od32, .func (PySem.W.fnOf "check_between" "check_between" (defArgs s_check_between) (defBody s_check_between) (defScope s_check_between) .none kV32 dc32 pm32 an32 cd32 ct32), sl32⟩) (c32 : PySem.W.codeIn K cd32 "check_between" = true) (k32 : PySem.W.keepIn K (.ref f32) = true)
    (a33 : PySem.W.nsIn K mainGlobals "pin" = some (some (.ref f33))) (l33 : K.lookup f33 = some ⟨oc33, od33, .func (PySem.W.fnOf "pin" "pin" (defArgs s_pin) (defBody s_pin) (defScope s_pin) .none kV33 dc33 pm33 an33 cd33 ct33), sl33⟩) (c33 : PySem.W.codeIn K cd33 "pin" = true) (k33 : PySem.W.keepIn K (.ref f33) = true)
    (a34 : PySem.W.nsIn K mainGlobals "check_pinned" = some (some (.ref f34))) (l34 : K.lookup f34 = some ⟨oc34, od34, .func (PySem.W.fnOf "check_pinned" "check_pinned" (defArgs s_check_pinned) (defBody s_check_pinned) (defScope s_check_pinned) .none kV34 dc34 pm34 an34 cd34 ct34), sl34⟩) (c34 : PySem.W.codeIn K cd34 "check_pinned" = true) (k34 : PySem.W.keepIn K (.ref f34) = true)
    (a35 : PySem.W.nsIn K mainGlobals "pins" = some (some (.ref f35))) (l35 : K.lookup f35 = some ⟨oc35, od35, .func (PySem.W.fnOf "pins" "pins" (defArgs s_pins) (defBody s_pins) (defScope s_pins) .none kV35 dc35 pm35 an35 cd35 ct35), sl35⟩) (c35 : PySem.W.codeIn K cd35 "pins" = true) (k35 : PySem.W.keepIn K (.ref f35) = true)
    (a36 : PySem.W.nsIn K mainGlobals "_law_less" = some (some (.ref f36))) (l36 : K.lookup f36 = some ⟨oc36, od36, .func (PySem.W.fnOf "_law_less" "_law_less" (defArgs s_l_less) (defBody s_l_less) (defScope s_l_less) .none kV36 dc36 pm36 an36 cd36 ct36), sl36⟩) (c36 : PySem.W.codeIn K cd36 "_law_less" = true) (k36 : PySem.W.keepIn K (.ref f36) = true)
    (a37 : PySem.W.nsIn K mainGlobals "_law_interval" = some (some (.ref f37))) (l37 : K.lookup f37 = some ⟨oc37, od37, .func (PySem.W.fnOf "_law_interval" "_law_interval" (defArgs s_l_interval) (defBody s_l_interval) (defScope s_l_interval) .none kV37 dc37 pm37 an37 cd37 ct37), sl37⟩) (c37 : PySem.W.codeIn K cd37 "_law_interval" = true) (k37 : PySem.W.keepIn K (.ref f37) = true)
    (a38 : PySem.W.nsIn K mainGlobals "_law_fits" = some (some (.ref f38))) (l38 : K.lookup f38 = some ⟨oc38, od38, .func (PySem.W.fnOf "_law_fits" "_law_fits" (defArgs s_l_fits) (defBody s_l_fits) (defScope s_l_fits) .none kV38 dc38 pm38 an38 cd38 ct38), sl38⟩) (c38 : PySem.W.codeIn K cd38 "_law_fits" = true) (k38 : PySem.W.keepIn K (.ref f38) = true)
    (a39 : PySem.W.nsIn K mainGlobals "_law_only" = some (some (.ref f39))) (l39 : K.lookup f39 = some ⟨oc39, od39, .func (PySem.W.fnOf "_law_only" "_law_only" (defArgs s_l_only) (defBody s_l_only) (defScope s_l_only) .none kV39 dc39 pm39 an39 cd39 ct39), sl39⟩) (c39 : PySem.W.codeIn K cd39 "_law_only" = true) (k39 : PySem.W.keepIn K (.ref f39) = true)
    (a40 : PySem.W.nsIn K mainGlobals "_law_are_records" = some (some (.ref f40))) (l40 : K.lookup f40 = some ⟨oc40, od40, .func (PySem.W.fnOf "_law_are_records" "_law_are_records" (defArgs s_l_are_records) (defBody s_l_are_records) (defScope s_l_are_records) .none kV40 dc40 pm40 an40 cd40 ct40), sl40⟩) (c40 : PySem.W.codeIn K cd40 "_law_are_records" = true) (k40 : PySem.W.keepIn K (.ref f40) = true)
    (a41 : PySem.W.nsIn K mainGlobals "_law_are_pins" = some (some (.ref f41))) (l41 : K.lookup f41 = some ⟨oc41, od41, .func (PySem.W.fnOf "_law_are_pins" "_law_are_pins" (defArgs s_l_are_pins) (defBody s_l_are_pins) (defScope s_l_are_pins) .none kV41 dc41 pm41 an41 cd41 ct41), sl41⟩) (c41 : PySem.W.codeIn K cd41 "_law_are_pins" = true) (k41 : PySem.W.keepIn K (.ref f41) = true)
    (a42 : PySem.W.nsIn K mainGlobals "_law_small_rule" = some (some (.ref f42))) (l42 : K.lookup f42 = some ⟨oc42, od42, .func (PySem.W.fnOf "_law_small_rule" "_law_small_rule" (defArgs s_l_small_rule) (defBody s_l_small_rule) (defScope s_l_small_rule) .none kV42 dc42 pm42 an42 cd42 ct42), sl42⟩) (c42 : PySem.W.codeIn K cd42 "_law_small_rule" = true) (k42 : PySem.W.keepIn K (.ref f42) = true)
    (a43 : PySem.W.nsIn K mainGlobals "is_first_rate" = some (some (.ref f43))) (l43 : K.lookup f43 = some ⟨oc43, od43, .func (PySem.W.fnOf "is_first_rate" "is_first_rate" (defArgs s_is_first_rate) (defBody s_is_first_rate) (defScope s_is_first_rate) .none kV43 dc43 pm43 an43 cd43 ct43), sl43⟩) (c43 : PySem.W.codeIn K cd43 "is_first_rate" = true) (k43 : PySem.W.keepIn K (.ref f43) = true)
    (a44 : PySem.W.nsIn K mainGlobals "are_pins" = some (some (.ref f44))) (l44 : K.lookup f44 = some ⟨oc44, od44, .func (PySem.W.fnOf "are_pins" "are_pins" (defArgs s_are_pins) (defBody s_are_pins) (defScope s_are_pins) .none kV44 dc44 pm44 an44 cd44 ct44), sl44⟩) (c44 : PySem.W.codeIn K cd44 "are_pins" = true) (k44 : PySem.W.keepIn K (.ref f44) = true)
    (a45 : PySem.W.nsIn K mainGlobals "_law_moved" = some (some (.ref f45))) (l45 : K.lookup f45 = some ⟨oc45, od45, .func (PySem.W.fnOf "_law_moved" "_law_moved" (defArgs s_l_moved) (defBody s_l_moved) (defScope s_l_moved) .none kV45 dc45 pm45 an45 cd45 ct45), sl45⟩) (c45 : PySem.W.codeIn K cd45 "_law_moved" = true) (k45 : PySem.W.keepIn K (.ref f45) = true)
    (a46 : PySem.W.nsIn K mainGlobals "_law_values" = some (some (.ref f46))) (l46 : K.lookup f46 = some ⟨oc46, od46, .func (PySem.W.fnOf "_law_values" "_law_values" (defArgs s_l_values) (defBody s_l_values) (defScope s_l_values) .none kV46 dc46 pm46 an46 cd46 ct46), sl46⟩) (c46 : PySem.W.codeIn K cd46 "_law_values" = true) (k46 : PySem.W.keepIn K (.ref f46) = true)
    (a47 : PySem.W.nsIn K mainGlobals "_law_refused" = some (some (.ref f47))) (l47 : K.lookup f47 = some ⟨oc47, od47, .func (PySem.W.fnOf "_law_refused" "_law_refused" (defArgs s_l_refused) (defBody s_l_refused) (defScope s_l_refused) .none kV47 dc47 pm47 an47 cd47 ct47), sl47⟩) (c47 : PySem.W.codeIn K cd47 "_law_refused" = true) (k47 : PySem.W.keepIn K (.ref f47) = true)
    (a48 : PySem.W.nsIn K mainGlobals "law" = some (some (.ref f48))) (l48 : K.lookup f48 = some ⟨oc48, od48, .func (PySem.W.fnOf "law" "law" (defArgs s_law) (defBody s_law) (defScope s_law) .none kV48 dc48 pm48 an48 cd48 ct48), sl48⟩) (c48 : PySem.W.codeIn K cd48 "law" = true) (k48 : PySem.W.keepIn K (.ref f48) = true)
    (z0 : PySem.W.nsIn K mainGlobals "len" = some none) (z1 : PySem.W.nsIn K mainGlobals "abs" = some none) (z2 : PySem.W.nsIn K mainGlobals "list" = some none) (z3 : PySem.W.nsIn K mainGlobals "range" = some none) (z4 : PySem.W.nsIn K mainGlobals "sum" = some none) (z5 : PySem.W.nsIn K mainGlobals "repr" = some none) (z6 : PySem.W.nsIn K mainGlobals "max" = some none) (z7 : PySem.W.nsIn K mainGlobals "min" = some none) (z8 : PySem.W.nsIn K mainGlobals "reversed" = some none) (z9 : PySem.W.nsIn K mainGlobals "divmod" = some none) (z10 : PySem.W.nsIn K mainGlobals "isinstance" = some none) (z11 : PySem.W.nsIn K mainGlobals "all" = some none) (z12 : PySem.W.nsIn K mainGlobals "int" = some none) (z13 : PySem.W.nsIn K mainGlobals "bool" = some none) (z14 : PySem.W.nsIn K mainGlobals "tuple" = some none) (z15 : PySem.W.nsIn K mainGlobals "sorted" = some none) (z16 : PySem.W.nsIn K mainGlobals "zip" = some none) (z17 : PySem.W.nsIn K mainGlobals "enumerate" = some none) (z18 : PySem.W.nsIn K mainGlobals "set" = some none) (z19 : PySem.W.nsIn K mainGlobals "str" = some none)
    {vC0 vI0 vD0 vX0 vN0 : Addr} {vnm0 vqn0 : Str} {vbs0 vbm0 vsb0 : List Value} {vsn0 : List Str} {vab0 : Bool} {vcl0 : Option Bool} {vdd0 von0 vcd0 vce0 van0 : Option Addr} {vk00 vk10 vk20 vk30 vk50 : Option Value} {voc0 vkV0 vdc0 vpm0 vct0 vcc0 vce20 : Value} {vsl0 vcs0 vcs20 : Array (Option Value)} {vvs0 : Array Value} {vfl0 : Str} {vtf0 : Tok} (v0_0 : PySem.W.nsIn K mainGlobals "InvalidNumber" = some (some (.ref vC0))) (v0_1 : K.lookup vC0 = some (excClassObj vnm0 vqn0 vC0 vN0 vbs0 vbm0 true vsn0 vsb0 vab0 vcl0 vdd0 vk00 vk10 vk20 vk30 vk50 "ValueError.__new__")) (v0_2 : PySem.HandSPX.refsVE vbm0 = true) (v0_3 : PySem.W.findIn K (.ref vC0) "__setattr__" = some (some (.builtin "object.__setattr__"))) (v0_4 : PySem.W.subIn K (.ref vC0) (.type "BaseException") = some true) (v0_5 : PySem.W.typeIn K (.ref vC0) = some (.type "type")) (v0_6 : PySem.W.keepIn K (.ref vC0) = true) (v0_7 : PySem.W.findIn K (.ref vC0) "__init__" = some (some (.ref vI0))) (v0_8 : K.lookup vI0 = some ⟨voc0, von0, .func (PySem.W.ksFn "__init__" "InvalidNumber.__init__" (defArgs sI_InvalidNumber) (defBody sI_InvalidNumber) (defScope sI_InvalidNumber) .none vkV0 vdc0 vpm0 van0 (.ref vD0) vct0 vX0), vsl0⟩) (v0_9 : PySem.W.codeIn K (.ref vD0) "InvalidNumber.__init__" = true) (v0_10 : K.lookup vD0 = some ⟨vcc0, vcd0, .fields vvs0, vcs0⟩) (v0_11 : vvs0[2]? = some (.str vfl0 vtf0)) (v0_12 : ((l.prog.main.file : Str) == vfl0) = true) (v0_13 : K.lookup vX0 = some ⟨vce20, vce0, .cell (some (.ref vC0)), vcs20⟩) (v0_14 : PySem.W.mroIn K vC0 (.ref vC0) = some true) (v0_15 : PySem.W.ks_superIn K vC0 vC0 "__init__" = some (some (.builtin "ValueError.__init__"))) (v0_16 : PySem.W.subIn K (.ref vC0) (.type "ValueError") = some true) (v0_17 : PySem.W.findIn K (.ref vC0) "value" = some none) (v0_18 : PySem.W.typeIn K (.ref vI0) = some (.type "function")) (v0_19 : PySem.W.findIn K (.ref vC0) "__getattribute__" = some (some (.builtin "BaseException.__getattribute__"))) (v0_20 : PySem.W.findIn K (.ref vC0) "__getattr__" = some none) (v0_21 : PySem.W.hasDictIn K vC0 = true) (v0_22 : PySem.W.findIn K (.ref vC0) "__class__" = some (some (.builtin "object.__class__"))) (v0_23 : PySem.W.mroIn K vC0 (.type "object") = some true) (v0_24 : PySem.W.subIn K (.ref vC0) (.ref vC0) = some true) {vC1 vI1 vD1 vX1 vN1 : Addr} {vnm1 vqn1 : Str} {vbs1 vbm1 vsb1 : List Value} {vsn1 : List Str} {vab1 : Bool} {vcl1 : Option Bool} {vdd1 von1 vcd1 vce1 van1 : Option Addr} {vk01 vk11 vk21 vk31 vk51 : Option Value} {voc1 vkV1 vdc1 vpm1 vct1 vcc1 vce21 : Value} {vsl1 vcs1 vcs21 : Array (Option Value)} {vvs1 : Array Value} {vfl1 : Str} {vtf1 : Tok} (v1_0 : PySem.W.nsIn K mainGlobals "InvalidRule" = some (some (.ref vC1))) (v1_1 : K.lookup vC1 = some (excClassObj vnm1 vqn1 vC1 vN1 vbs1 vbm1 true vsn1 vsb1 vab1 vcl1 vdd1 vk01 vk11 vk21 vk31 vk51 "ValueError.__new__")) (v1_2 : PySem.HandSPX.refsVE vbm1 = true) (v1_3 : PySem.W.findIn K (.ref vC1) "__setattr__" = some (some (.builtin "object.__setattr__"))) (v1_4 : PySem.W.subIn K (.ref vC1) (.type "BaseException") = some true) (v1_5 : PySem.W.typeIn K (.ref vC1) = some (.type "type")) (v1_6 : PySem.W.keepIn K (.ref vC1) = true) (v1_7 : PySem.W.findIn K (.ref vC1) "__init__" = some (some (.ref vI1))) (v1_8 : K.lookup vI1 = some ⟨voc1, von1, .func (PySem.W.ksFn "__init__" "InvalidRule.__init__" (defArgs sI_InvalidRule) (defBody sI_InvalidRule) (defScope sI_InvalidRule) .none vkV1 vdc1 vpm1 van1 (.ref vD1) vct1 vX1), vsl1⟩) (v1_9 : PySem.W.codeIn K (.ref vD1) "InvalidRule.__init__" = true) (v1_10 : K.lookup vD1 = some ⟨vcc1, vcd1, .fields vvs1, vcs1⟩) (v1_11 : vvs1[2]? = some (.str vfl1 vtf1)) (v1_12 : ((l.prog.main.file : Str) == vfl1) = true) (v1_13 : K.lookup vX1 = some ⟨vce21, vce1, .cell (some (.ref vC1)), vcs21⟩) (v1_14 : PySem.W.mroIn K vC1 (.ref vC1) = some true) (v1_15 : PySem.W.ks_superIn K vC1 vC1 "__init__" = some (some (.builtin "ValueError.__init__"))) (v1_16 : PySem.W.subIn K (.ref vC1) (.type "ValueError") = some true) (v1_17 : PySem.W.findIn K (.ref vC1) "value" = some none) (v1_18 : PySem.W.typeIn K (.ref vI1) = some (.type "function")) (v1_19 : PySem.W.findIn K (.ref vC1) "__getattribute__" = some (some (.builtin "BaseException.__getattribute__"))) (v1_20 : PySem.W.findIn K (.ref vC1) "__getattr__" = some none) (v1_21 : PySem.W.hasDictIn K vC1 = true) (v1_22 : PySem.W.findIn K (.ref vC1) "__class__" = some (some (.builtin "object.__class__"))) (v1_23 : PySem.W.mroIn K vC1 (.type "object") = some true) (v1_24 : PySem.W.subIn K (.ref vC1) (.ref vC1) = some true) (vu0 : PySem.W.nsIn K cStatics "thirdparty.any" = some none) (vu1 : PySem.W.specialIn K (.builtin "object.__class__") "__get__" = some (some (.builtin "getset_descriptor.__get__"))) (vu2 : PySem.W.takesIn K (.builtin "object.__class__") = some true) (vu3 : (l.prog.main.scope.names.lookup ("super" : Str)).isSome = false) (vu4 : PySem.W.nsIn K mainGlobals "super" = some none)
    {cL PT : Addr} {eL : Value} {dL : Option Addr} {vL : Array Value} {sL : Array (Option Value)}
    {tM : Tok} (xM : PySem.W.nsIn K mainGlobals "MOST_CYCLE" = some (some (.int (10 ^ 60) tM))) {tP : Tok} (xP : PySem.W.nsIn K mainGlobals "MOST_PINS" = some (some (.int 3 tP)))
    {Lc : Addr} (x7 : PySem.W.nsIn K mainGlobals "LeapfitError" = some (some (.ref Lc))) (x8 : PySem.W.typeIn K (.ref Lc) = some (.type "type")) (x9 : PySem.W.subIn K (.ref vC0) (.ref Lc) = some true) (x10 : PySem.W.subIn K (.ref vC1) (.ref Lc) = some true)
    (x11 : PySem.W.kitOne K (.ref vC0) (.ref vC1) = some false) (x12 : PySem.W.kitOne K (.ref vC1) (.ref vC1) = some true) (x13 : PySem.W.kitOne K (.ref vC0) (.ref vC0) = some true) (x14 : PySem.W.subIn K (.ref Lc) (.type "BaseException") = some true) (x15 : PySem.W.hasDictIn K Lc = true)
    (v0 : cd48 = .ref cL) (v1 : K.lookup cL = some ⟨eL, dL, .fields vL, sL⟩) (v2 : vL[11]? = some (.ref PT)) (v3 : K.lookup PT = none) (v4 : PySem.W.codeHdIn K cL PT = true) (v5 : h.get? PT = some { cls := .none, data := .fields #[] }) :
    LawGT1 l w K 9 "_law_script" mg fa h := by
  have e := hfa.symm.trans (PySem.W.mg_of X G a48)
  cases e
  subst v0
  have B : Bi mg := ⟨PySem.W.mg_none_of X G z0, PySem.W.mg_none_of X G z1, PySem.W.mg_none_of X G z2, PySem.W.mg_none_of X G z3, PySem.W.mg_none_of X G z4, PySem.W.mg_none_of X G z5, PySem.W.mg_none_of X G z6, PySem.W.mg_none_of X G z7, PySem.W.mg_none_of X G z8, PySem.W.mg_none_of X G z9, PySem.W.mg_none_of X G z10, PySem.W.mg_none_of X G z11, PySem.W.mg_none_of X G z12, PySem.W.mg_none_of X G z13, PySem.W.mg_none_of X G z14, PySem.W.mg_none_of X G z15, PySem.W.mg_none_of X G z16, PySem.W.mg_none_of X G z17, PySem.W.mg_none_of X G z18, PySem.W.mg_none_of X G z19⟩
  have UE : Bm mg := ⟨⟨tM, PySem.W.mg_of X G xM⟩⟩
  have UT : Bpn mg := ⟨⟨tP, PySem.W.mg_of X G xP⟩⟩
  have V_InvalidNumber : ValC l.prog K mg vC0 "InvalidNumber" "value" := ⟨PySem.W.mg_of X G v0_0, ⟨vI0, vD0, vX0, "InvalidNumber.__init__", defArgs sI_InvalidNumber, defBody sI_InvalidNumber, defScope sI_InvalidNumber, vkV0, vdc0, vpm0, vct0, voc0, van0, von0, vsl0, v0_8, v0_9, iniT_InvalidNumber, ⟨⟨⟨vnm0, vqn0, vN0, vbs0, vbm0, vsn0, vsb0, vab0, vcl0, vdd0, vk00, vk10, vk20, vk30, vk50, v0_1, v0_2⟩, v0_3, v0_4, v0_5, v0_6⟩, ⟨_, _, _, _, _, _, v0_10, v0_11, v0_12⟩, ⟨_, _, _, v0_13⟩, v0_14, vu0, v0_15, v0_16, v0_17, vu3⟩, v0_7, v0_18, .all fun us hl => match us, hl with | [_, _], _ => rfl⟩, PySem.W.mg_none_of X G vu4, ⟨v0_19, v0_20, v0_4, v0_21, v0_22, vu1, vu2, v0_23⟩, v0_24⟩
  have V_InvalidRule : ValC l.prog K mg vC1 "InvalidRule" "value" := ⟨PySem.W.mg_of X G v1_0, ⟨vI1, vD1, vX1, "InvalidRule.__init__", defArgs sI_InvalidRule, defBody sI_InvalidRule, defScope sI_InvalidRule, vkV1, vdc1, vpm1, vct1, voc1, van1, von1, vsl1, v1_8, v1_9, iniT_InvalidRule, ⟨⟨⟨vnm1, vqn1, vN1, vbs1, vbm1, vsn1, vsb1, vab1, vcl1, vdd1, vk01, vk11, vk21, vk31, vk51, v1_1, v1_2⟩, v1_3, v1_4, v1_5, v1_6⟩, ⟨_, _, _, _, _, _, v1_10, v1_11, v1_12⟩, ⟨_, _, _, v1_13⟩, v1_14, vu0, v1_15, v1_16, v1_17, vu3⟩, v1_7, v1_18, .all fun us hl => match us, hl with | [_, _], _ => rfl⟩, PySem.W.mg_none_of X G vu4, ⟨v1_19, v1_20, v1_4, v1_21, v1_22, vu1, vu2, v1_23⟩, v1_24⟩
  have F0 := fun_mk (st := s_l_pen) l0 c0 k0
  have D_l_pen : Df K mg "_law_pen" s_l_pen P_l_pen := ⟨f0, _, F0, PySem.W.mg_of X G a0, F0.binds fun _ _ _ _ _ _ us hl => match us, hl with | [_], _ => rfl⟩
  have F1 := fun_mk (st := s_l_draw) l1 c1 k1
  have D_l_draw : Df K mg "_law_draw" s_l_draw P_l_draw := ⟨f1, _, F1, PySem.W.mg_of X G a1, F1.binds fun _ _ _ _ _ _ us hl => match us, hl with | [_, _], _ => rfl⟩
  have F2 := fun_mk (st := s_l_pick) l2 c2 k2
  have D_l_pick : Df K mg "_law_pick" s_l_pick P_l_pick := ⟨f2, _, F2, PySem.W.mg_of X G a2, F2.binds fun _ _ _ _ _ _ us hl => match us, hl with | [_, _], _ => rfl⟩
  have F3 := fun_mk (st := s_l_gcd) l3 c3 k3
  have D_l_gcd : Df K mg "_law_gcd" s_l_gcd P_l_gcd := ⟨f3, _, F3, PySem.W.mg_of X G a3, F3.binds fun _ _ _ _ _ _ us hl => match us, hl with | [_, _], _ => rfl⟩
  have F4 := fun_mk (st := s_is_integer) l4 c4 k4
  have D_is_integer : Df K mg "is_integer" s_is_integer P_is_integer := ⟨f4, _, F4, PySem.W.mg_of X G a4, F4.binds fun _ _ _ _ _ _ us hl => match us, hl with | [_], _ => rfl⟩
  have F5 := fun_mk (st := s_gcd) l5 c5 k5
  have D_gcd : Df K mg "gcd" s_gcd P_gcd := ⟨f5, _, F5, PySem.W.mg_of X G a5, F5.binds fun _ _ _ _ _ _ us hl => match us, hl with | [_, _], _ => rfl⟩
  have F6 := fun_mk (st := s_is_rule) l6 c6 k6
  have D_is_rule : Df K mg "is_rule" s_is_rule P_is_rule := ⟨f6, _, F6, PySem.W.mg_of X G a6, F6.binds fun _ _ _ _ _ _ us hl => match us, hl with | [_], _ => rfl⟩
  have F7 := fun_mk (st := s_check_rule) l7 c7 k7
  have D_check_rule : Df K mg "check_rule" s_check_rule P_check_rule := ⟨f7, _, F7, PySem.W.mg_of X G a7, F7.binds fun _ _ _ _ _ _ us hl => match us, hl with | [_], _ => rfl⟩
  have F8 := fun_mk (st := s_is_rate) l8 c8 k8
  have D_is_rate : Df K mg "is_rate" s_is_rate P_is_rate := ⟨f8, _, F8, PySem.W.mg_of X G a8, F8.binds fun _ _ _ _ _ _ us hl => match us, hl with | [_], _ => rfl⟩
  have F9 := fun_mk (st := s_check_rate) l9 c9 k9
  have D_check_rate : Df K mg "check_rate" s_check_rate P_check_rate := ⟨f9, _, F9, PySem.W.mg_of X G a9, F9.binds fun _ _ _ _ _ _ us hl => match us, hl with | [_], _ => rfl⟩
  have F10 := fun_mk (st := s_simplest_inside) l10 c10 k10
  have D_simplest_inside : Df K mg "simplest_inside" s_simplest_inside P_simplest_inside := ⟨f10, _, F10, PySem.W.mg_of X G a10, F10.binds fun _ _ _ _ _ _ us hl => match us, hl with | [_, _], _ => rfl⟩
  have F11 := fun_mk (st := s_is_record) l11 c11 k11
  have D_is_record : Df K mg "is_record" s_is_record P_is_record := ⟨f11, _, F11, PySem.W.mg_of X G a11, F11.binds fun _ _ _ _ _ _ us hl => match us, hl with | [_], _ => rfl⟩
  have F12 := fun_mk (st := s_split_records) l12 c12 k12
  have D_split_records : Df K mg "split_records" s_split_records P_split_records := ⟨f12, _, F12, PySem.W.mg_of X G a12, F12.binds fun _ _ _ _ _ _ us hl => match us, hl with | [_], _ => rfl⟩
  have F13 := fun_mk (st := s_l_odd_record) l13 c13 k13
  have D_l_odd_record : Df K mg "_law_odd_record" s_l_odd_record P_l_odd_record := ⟨f13, _, F13, PySem.W.mg_of X G a13, F13.binds fun _ _ _ _ _ _ us hl => match us, hl with | [_, _], _ => rfl⟩
  have F14 := fun_mk (st := s_l_far) l14 c14 k14
  have D_l_far : Df K mg "_law_far" s_l_far P_l_far := ⟨f14, _, F14, PySem.W.mg_of X G a14, F14.binds fun _ _ _ _ _ _ us hl => match us, hl with | [_, _], _ => rfl⟩
  have F15 := fun_mk (st := s_l_count) l15 c15 k15
  have D_l_count : Df K mg "_law_count" s_l_count P_l_count := ⟨f15, _, F15, PySem.W.mg_of X G a15, F15.binds fun _ _ _ _ _ _ us hl => match us, hl with | [_, _], _ => rfl⟩
  have F16 := fun_mk (st := s_l_time) l16 c16 k16
  have D_l_time : Df K mg "_law_time" s_l_time P_l_time := ⟨f16, _, F16, PySem.W.mg_of X G a16, F16.binds fun _ _ _ _ _ _ us hl => match us, hl with | [_, _], _ => rfl⟩
  have F17 := fun_mk (st := s_l_record) l17 c17 k17
  have D_l_record : Df K mg "_law_record" s_l_record P_l_record := ⟨f17, _, F17, PySem.W.mg_of X G a17, F17.binds fun _ _ _ _ _ _ us hl => match us, hl with | [_, _, _, _], _ => rfl⟩
  have F18 := fun_mk (st := s_tighter_pairs) l18 c18 k18
  have D_tighter_pairs : Df K mg "tighter_pairs" s_tighter_pairs P_tighter_pairs := ⟨f18, _, F18, PySem.W.mg_of X G a18, F18.binds fun _ _ _ _ _ _ us hl => match us, hl with | [_, _, _], _ => rfl⟩
  have F19 := fun_mk (st := s_simplest_between) l19 c19 k19
  have D_simplest_between : Df K mg "simplest_between" s_simplest_between P_simplest_between := ⟨f19, _, F19, PySem.W.mg_of X G a19, F19.binds fun _ _ _ _ _ _ us hl => match us, hl with | [_, _], _ => rfl⟩
  have F20 := fun_mk (st := s_reduce_rate) l20 c20 k20
  have D_reduce_rate : Df K mg "reduce_rate" s_reduce_rate P_reduce_rate := ⟨f20, _, F20, PySem.W.mg_of X G a20, F20.binds fun _ _ _ _ _ _ us hl => match us, hl with | [_, _], _ => rfl⟩
  have F21 := fun_mk (st := s_tight_pairs) l21 c21 k21
  have D_tight_pairs : Df K mg "tight_pairs" s_tight_pairs P_tight_pairs := ⟨f21, _, F21, PySem.W.mg_of X G a21, F21.binds fun _ _ _ _ _ _ us hl => match us, hl with | [_], _ => rfl⟩
  have F22 := fun_mk (st := s_leave_no_rate) l22 c22 k22
  have D_leave_no_rate : Df K mg "leave_no_rate" s_leave_no_rate P_leave_no_rate := ⟨f22, _, F22, PySem.W.mg_of X G a22, F22.binds fun _ _ _ _ _ _ us hl => match us, hl with | [_], _ => rfl⟩
  have F23 := fun_mk (st := s_rate_ends) l23 c23 k23
  have D_rate_ends : Df K mg "rate_ends" s_rate_ends P_rate_ends := ⟨f23, _, F23, PySem.W.mg_of X G a23, F23.binds fun _ _ _ _ _ _ us hl => match us, hl with | [_], _ => rfl⟩
  have F24 := fun_mk (st := s_phase_ends) l24 c24 k24
  have D_phase_ends : Df K mg "phase_ends" s_phase_ends P_phase_ends := ⟨f24, _, F24, PySem.W.mg_of X G a24, F24.binds fun _ _ _ _ _ _ us hl => match us, hl with | [_, _], _ => rfl⟩
  have F25 := fun_mk (st := s_l_odd) l25 c25 k25
  have D_l_odd : Df K mg "_law_odd" s_l_odd P_l_odd := ⟨f25, _, F25, PySem.W.mg_of X G a25, F25.binds fun _ _ _ _ _ _ us hl => match us, hl with | [_], _ => rfl⟩
  have F26 := fun_mk (st := s_divide_up) l26 c26 k26
  have D_divide_up : Df K mg "divide_up" s_divide_up P_divide_up := ⟨f26, _, F26, PySem.W.mg_of X G a26, F26.binds fun _ _ _ _ _ _ us hl => match us, hl with | [_, _], _ => rfl⟩
  have F27 := fun_mk (st := s_first_exit) l27 c27 k27
  have D_first_exit : Df K mg "first_exit" s_first_exit P_first_exit := ⟨f27, _, F27, PySem.W.mg_of X G a27, F27.binds fun _ _ _ _ _ _ us hl => match us, hl with | [_, _], _ => rfl⟩
  have F28 := fun_mk (st := s_first_inside) l28 c28 k28
  have D_first_inside : Df K mg "first_inside" s_first_inside P_first_inside := ⟨f28, _, F28, PySem.W.mg_of X G a28, F28.binds fun _ _ _ _ _ _ us hl => match us, hl with | [_, _], _ => rfl⟩
  have F29 := fun_mk (st := s_line_from) l29 c29 k29
  have D_line_from : Df K mg "line_from" s_line_from P_line_from := ⟨f29, _, F29, PySem.W.mg_of X G a29, F29.binds fun _ _ _ _ _ _ us hl => match us, hl with | [_, _], _ => rfl⟩
  have F30 := fun_mk (st := s_first_between) l30 c30 k30
  have D_first_between : Df K mg "first_between" s_first_between P_first_between := ⟨f30, _, F30, PySem.W.mg_of X G a30, F30.binds fun _ _ _ _ _ _ us hl => match us, hl with | [_, _], _ => rfl⟩
  have F31 := fun_mk (st := s_first_hit) l31 c31 k31
  have D_first_hit : Df K mg "first_hit" s_first_hit P_first_hit := ⟨f31, _, F31, PySem.W.mg_of X G a31, F31.binds fun _ _ _ _ _ _ us hl => match us, hl with | [_, _, _, _], _ => rfl⟩
  have F32 := fun_mk (st := s_check_between) l32 c32 k32
  have D_check_between : Df K mg "check_between" s_check_between P_check_between := ⟨f32, _, F32, PySem.W.mg_of X G a32, F32.binds fun _ _ _ _ _ _ us hl => match us, hl with | [_, _, _], _ => rfl⟩
  have F33 := fun_mk (st := s_pin) l33 c33 k33
  have D_pin : Df K mg "pin" s_pin P_pin := ⟨f33, _, F33, PySem.W.mg_of X G a33, F33.binds fun _ _ _ _ _ _ us hl => match us, hl with | [_, _, _], _ => rfl⟩
  have F34 := fun_mk (st := s_check_pinned) l34 c34 k34
  have D_check_pinned : Df K mg "check_pinned" s_check_pinned P_check_pinned := ⟨f34, _, F34, PySem.W.mg_of X G a34, F34.binds fun _ _ _ _ _ _ us hl => match us, hl with | [_, _], _ => rfl⟩
  have F35 := fun_mk (st := s_pins) l35 c35 k35
  have D_pins : Df K mg "pins" s_pins P_pins := ⟨f35, _, F35, PySem.W.mg_of X G a35, F35.binds fun _ _ _ _ _ _ us hl => match us, hl with | [_, _], _ => rfl⟩
  have F36 := fun_mk (st := s_l_less) l36 c36 k36
  have D_l_less : Df K mg "_law_less" s_l_less P_l_less := ⟨f36, _, F36, PySem.W.mg_of X G a36, F36.binds fun _ _ _ _ _ _ us hl => match us, hl with | [_, _], _ => rfl⟩
  have F37 := fun_mk (st := s_l_interval) l37 c37 k37
  have D_l_interval : Df K mg "_law_interval" s_l_interval P_l_interval := ⟨f37, _, F37, PySem.W.mg_of X G a37, F37.binds fun _ _ _ _ _ _ us hl => match us, hl with | [_], _ => rfl⟩
  have F38 := fun_mk (st := s_l_fits) l38 c38 k38
  have D_l_fits : Df K mg "_law_fits" s_l_fits P_l_fits := ⟨f38, _, F38, PySem.W.mg_of X G a38, F38.binds fun _ _ _ _ _ _ us hl => match us, hl with | [_, _], _ => rfl⟩
  have F39 := fun_mk (st := s_l_only) l39 c39 k39
  have D_l_only : Df K mg "_law_only" s_l_only P_l_only := ⟨f39, _, F39, PySem.W.mg_of X G a39, F39.binds fun _ _ _ _ _ _ us hl => match us, hl with | [_, _, _], _ => rfl⟩
  have F40 := fun_mk (st := s_l_are_records) l40 c40 k40
  have D_l_are_records : Df K mg "_law_are_records" s_l_are_records P_l_are_records := ⟨f40, _, F40, PySem.W.mg_of X G a40, F40.binds fun _ _ _ _ _ _ us hl => match us, hl with | [_], _ => rfl⟩
  have F41 := fun_mk (st := s_l_are_pins) l41 c41 k41
  have D_l_are_pins : Df K mg "_law_are_pins" s_l_are_pins P_l_are_pins := ⟨f41, _, F41, PySem.W.mg_of X G a41, F41.binds fun _ _ _ _ _ _ us hl => match us, hl with | [_, _, _], _ => rfl⟩
  have F42 := fun_mk (st := s_l_small_rule) l42 c42 k42
  have D_l_small_rule : Df K mg "_law_small_rule" s_l_small_rule P_l_small_rule := ⟨f42, _, F42, PySem.W.mg_of X G a42, F42.binds fun _ _ _ _ _ _ us hl => match us, hl with | [_, _], _ => rfl⟩
  have F43 := fun_mk (st := s_is_first_rate) l43 c43 k43
  have D_is_first_rate : Df K mg "is_first_rate" s_is_first_rate P_is_first_rate := ⟨f43, _, F43, PySem.W.mg_of X G a43, F43.binds fun _ _ _ _ _ _ us hl => match us, hl with | [_, _, _], _ => rfl⟩
  have F44 := fun_mk (st := s_are_pins) l44 c44 k44
  have D_are_pins : Df K mg "are_pins" s_are_pins P_are_pins := ⟨f44, _, F44, PySem.W.mg_of X G a44, F44.binds fun _ _ _ _ _ _ us hl => match us, hl with | [_, _, _], _ => rfl⟩
  have F45 := fun_mk (st := s_l_moved) l45 c45 k45
  have D_l_moved : Df K mg "_law_moved" s_l_moved P_l_moved := ⟨f45, _, F45, PySem.W.mg_of X G a45, F45.binds fun _ _ _ _ _ _ us hl => match us, hl with | [_, _, _], _ => rfl⟩
  have F46 := fun_mk (st := s_l_values) l46 c46 k46
  have D_l_values : Df K mg "_law_values" s_l_values P_l_values := ⟨f46, _, F46, PySem.W.mg_of X G a46, F46.binds fun _ _ _ _ _ _ us hl => match us, hl with | [_, _, _], _ => rfl⟩
  have F47 := fun_mk (st := s_l_refused) l47 c47 k47
  have D_l_refused : Df K mg "_law_refused" s_l_refused P_l_refused := ⟨f47, _, F47, PySem.W.mg_of X G a47, F47.binds fun _ _ _ _ _ _ us hl => match us, hl with | [_], _ => rfl⟩
  have F48 := fun_mk (st := s_law) l48 c48 k48
  refine ⟨PySem.W.fnOf "law" "law" (defArgs s_law) (defBody s_law) (defScope s_law) .none kV48 dc48 pm48 an48 (.ref cL) ct48, cL, PT, spLawT K PT, v5, v3, PySem.W.codeHd_of_K X v4, fun s v => .of_eq rfl, fun H a ns hl ht hS => ⟨a, ns, rfl, hS, hl, ht, fun _ => rfl⟩, fun base _ _ o1 TB => ?_⟩
  have T := V_InvalidNumber
  have c_l_pen := ok_l_pen (P := l.prog) (w := w) (base := base) D_l_pen B
  have c_l_draw := ok_l_draw (P := l.prog) (w := w) (base := base) D_l_draw B
  have c_l_pick := ok_l_pick (P := l.prog) (w := w) (base := base) D_l_pick B c_l_draw
  have c_l_gcd := ok_l_gcd (P := l.prog) (w := w) (base := base) D_l_gcd
  have cA_is_integer := okA_is_integer (P := l.prog) (w := w) (base := base) D_is_integer B
  have c_is_integer := ok_is_integer (P := l.prog) (w := w) (base := base) D_is_integer B
  have c_gcd := ok_gcd (P := l.prog) (w := w) (base := base) D_gcd
  have cA_is_rule := okA_is_rule (P := l.prog) (w := w) (base := base) D_is_rule B cA_is_integer c_gcd
  have c_is_rule := ok_is_rule (P := l.prog) (w := w) (base := base) D_is_rule B c_is_integer c_gcd
  have cx_check_rule := okx_check_rule (P := l.prog) (w := w) (base := base) D_check_rule V_InvalidRule cA_is_rule
  have c_check_rule := ok_check_rule (P := l.prog) (w := w) (base := base) D_check_rule c_is_rule
  have cA_is_rate := okA_is_rate (P := l.prog) (w := w) (base := base) D_is_rate B cA_is_integer c_gcd
  have c_is_rate := ok_is_rate (P := l.prog) (w := w) (base := base) D_is_rate B c_is_integer c_gcd
  have c_check_rate := ok_check_rate (P := l.prog) (w := w) (base := base) D_check_rate c_is_rate
  have c_simplest_inside := ok_simplest_inside (P := l.prog) (w := w) (base := base) D_simplest_inside B
  have cA_is_record := okA_is_record (P := l.prog) (w := w) (base := base) D_is_record B cA_is_integer
  have c_is_record := ok_is_record (P := l.prog) (w := w) (base := base) D_is_record B c_is_integer
  have c_split_records := okS_split_records (P := l.prog) (w := w) (base := base) D_split_records B
  have cA_l_odd_record := okA_l_odd_record (P := l.prog) (w := w) (base := base) D_l_odd_record B c_l_pick
  have c_l_odd_record := ok_l_odd_record (P := l.prog) (w := w) (base := base) D_l_odd_record B c_l_pick
  have c_l_far := ok_l_far (P := l.prog) (w := w) (base := base) D_l_far B c_l_draw
  have c_l_count := ok_l_count (P := l.prog) (w := w) (base := base) D_l_count
  have c_l_time := ok_l_time (P := l.prog) (w := w) (base := base) D_l_time B c_l_draw c_l_far
  have c_l_record := ok_l_record (P := l.prog) (w := w) (base := base) D_l_record B c_l_draw c_l_pick c_l_count c_l_time
  have c_tighter_pairs := ok_tighter_pairs (P := l.prog) (w := w) (base := base) D_tighter_pairs B
  have cA_simplest_between := okA_simplest_between (P := l.prog) (w := w) (base := base) D_simplest_between c_check_rate c_simplest_inside
  have c_simplest_between := ok_simplest_between (P := l.prog) (w := w) (base := base) cA_simplest_between
  have c_reduce_rate := ok_reduce_rate (P := l.prog) (w := w) (base := base) D_reduce_rate c_gcd
  have c_tight_pairs := okS_tight_pairs (P := l.prog) (w := w) (base := base) D_tight_pairs c_split_records c_tighter_pairs
  have c_leave_no_rate := ok_leave_no_rate (P := l.prog) (w := w) (base := base) D_leave_no_rate
  have c_rate_ends := okS_rate_ends (P := l.prog) (w := w) (base := base) D_rate_ends c_tight_pairs c_leave_no_rate c_reduce_rate
  have c_phase_ends := okS_phase_ends (P := l.prog) (w := w) (base := base) D_phase_ends B c_split_records
  have cA_l_odd := okA_l_odd (P := l.prog) (w := w) (base := base) D_l_odd c_l_pick
  have c_l_odd := ok_l_odd (P := l.prog) (w := w) (base := base) D_l_odd c_l_pick
  have c_divide_up := ok_divide_up (P := l.prog) (w := w) (base := base) D_divide_up
  have c_first_exit := ok_first_exit (P := l.prog) (w := w) (base := base) D_first_exit B c_divide_up
  have c_first_inside := ok_first_inside (P := l.prog) (w := w) (base := base) D_first_inside B c_divide_up c_first_exit
  have c_line_from := ok_line_from (P := l.prog) (w := w) (base := base) D_line_from
  have c_first_between := ok_first_between (P := l.prog) (w := w) (base := base) D_first_between c_divide_up c_line_from c_first_inside
  have c_first_hit := ok_first_hit (P := l.prog) (w := w) (base := base) D_first_hit c_first_between
  have cx_check_between := okx_check_between (P := l.prog) (w := w) (base := base) D_check_between V_InvalidNumber cA_is_integer
  have c_check_between := ok_check_between (P := l.prog) (w := w) (base := base) D_check_between c_is_integer
  have c_pin := ok_pin (P := l.prog) (w := w) (base := base) D_pin
  have cx_check_pinned := okx_check_pinned (P := l.prog) (w := w) (base := base) D_check_pinned UE cx_check_rule c_check_rule cx_check_between c_check_between
  have c_check_pinned := ok_check_pinned (P := l.prog) (w := w) (base := base) D_check_pinned UE c_check_rule c_check_between
  have cx_pins := okx_pins (P := l.prog) (w := w) (base := base) D_pins cx_check_pinned c_first_hit c_pin
  have c_pins := ok_pins (P := l.prog) (w := w) (base := base) D_pins c_check_pinned c_first_hit c_pin
  have c_l_less := ok_l_less (P := l.prog) (w := w) (base := base) D_l_less
  have c_l_interval := ok_l_interval (P := l.prog) (w := w) (base := base) D_l_interval c_l_less
  have c_l_fits := ok_l_fits (P := l.prog) (w := w) (base := base) D_l_fits c_l_count
  have c_l_only := ok_l_only (P := l.prog) (w := w) (base := base) D_l_only B c_l_interval c_l_gcd
  have c_l_are_records := ok_l_are_records (P := l.prog) (w := w) (base := base) D_l_are_records B
  have c_l_are_pins := ok_l_are_pins (P := l.prog) (w := w) (base := base) D_l_are_pins B c_l_are_records c_l_fits c_l_only
  have c_l_small_rule := ok_l_small_rule (P := l.prog) (w := w) (base := base) D_l_small_rule B c_l_draw c_l_pick c_l_far c_l_gcd
  have c_is_first_rate := ok_is_first_rate (P := l.prog) (w := w) (base := base) D_is_first_rate c_simplest_between
  have cA_are_pins := okA_are_pins (P := l.prog) (w := w) (base := base) D_are_pins B UT c_check_pinned cA_is_record c_phase_ends c_rate_ends c_is_first_rate c_simplest_between
  have cx_are_pins := okx_are_pins (P := l.prog) (w := w) (base := base) D_are_pins B UT cx_check_pinned cA_is_record c_phase_ends c_rate_ends c_is_first_rate c_simplest_between
  have c_l_moved := ok_l_moved (P := l.prog) (w := w) (base := base) D_l_moved B c_l_draw c_l_pick c_l_count
  have c_l_values := ok_l_values (P := l.prog) (w := w) (base := base) D_l_values B c_l_draw c_l_moved c_l_record cA_l_odd cA_l_odd_record
  have U2 : Two49 K mg vC0 vC1 Lc := ⟨PySem.W.mg_of X G x7, PySem.W.exm_ref x14 x15 x8 x9, PySem.W.exm_ref x14 x15 x8 x10, x11, x12, x13⟩
  exact ok_law (P := l.prog) (w := w) (base := base) l48 c48 TB o1 V_InvalidNumber V_InvalidRule U2 B D_l_refused c_l_pen c_l_draw c_l_pick c_l_small_rule cA_l_odd c_l_are_pins c_l_values c_pins cA_are_pins cx_are_pins
end Lf
open PySem PySem.W PyProof.Rows
set_option maxRecDepth 100000 in
set_option maxHeartbeats 0 in
theorem PySem.Challenge.cw_leapfit_k50_pins_checked_holds : PySem.Challenge.rw_leapfit_k50_pins_checked.Holds := by
  w_on; o_law; k_head; (case hw => w_witness2)
  k_fill
  refine Lf.walkGT1 (l := PySem.Challenge.rw_leapfit_k50_pins_checked) (k := 9) (x := "_law_script") rfl rfl rfl ⟨rfl, by decide, by decide⟩ (fun w h Y => PySem.W.km_in_of Y) ?F
  case F =>
    intro w mg fa h Y KX G hmg
    refine' Lf.all_mk KX G hmg ?a0 ?l0 ?c0 ?k0 ?a1 ?l1 ?c1 ?k1 ?a2 ?l2 ?c2 ?k2 ?a3 ?l3 ?c3 ?k3 ?a4 ?l4 ?c4 ?k4 ?a5 ?l5 ?c5 ?k5 ?a6 ?l6 ?c6 ?k6 ?a7 ?l7 ?c7 ?k7 ?a8 ?l8 ?c8 ?k8 ?a9 ?l9 ?c9 ?k9 ?a10 ?l10 ?c10 ?k10 ?a11 ?l11 ?c11 ?k11 ?a12 ?l12 ?c12 ?k12 ?a13 ?l13 ?c13 ?k13 ?a14 ?l14 ?c14 ?k14 ?a15 ?l15 ?c15 ?k15 ?a16 ?l16 ?c16 ?k16 ?a17 ?l17 ?c17 ?k17 ?a18 ?l18 ?c18 ?k18 ?a19 ?l19 ?c19 ?k19 ?a20 ?l20 ?c20 ?k20 ?a21 ?l21 ?c21 ?k21 ?a22 ?l22 ?c22 ?k22 ?a23 ?l23 ?c23 ?k23 ?a24 ?l24 ?c24 ?k24 ?a25 ?l25 ?c25 ?k25 ?a26 ?l26 ?c26 ?k26 ?a27 ?l27 ?c27 ?k27 ?a28 ?l28 ?c28 ?k28 ?a29 ?l29 ?c29 ?k29 ?a30 ?l30 ?c30 ?k30 ?a31 ?l31 ?c31 ?k31 ?a32 ?l32 ?c32 ?k32 ?a33 ?l33 ?c33 ?k33 ?a34 ?l34 ?c34 ?k34 ?a35 ?l35 ?c35 ?k35 ?a36 ?l36 ?c36 ?k36 ?a37 ?l37 ?c37 ?k37 ?a38 ?l38 ?c38 ?k38 ?a39 ?l39 ?c39 ?k39 ?a40 ?l40 ?c40 ?k40 ?a41 ?l41 ?c41 ?k41 ?a42 ?l42 ?c42 ?k42 ?a43 ?l43 ?c43 ?k43 ?a44 ?l44 ?c44 ?k44 ?a45 ?l45 ?c45 ?k45 ?a46 ?l46 ?c46 ?k46 ?a47 ?l47 ?c47 ?k47 ?a48 ?l48 ?c48 ?k48 ?z0 ?z1 ?z2 ?z3 ?z4 ?z5 ?z6 ?z7 ?z8 ?z9 ?z10 ?z11 ?z12 ?z13 ?z14 ?z15 ?z16 ?z17 ?z18 ?z19 ?v0_0 ?v0_1 ?v0_2 ?v0_3 ?v0_4 ?v0_5 ?v0_6 ?v0_7 ?v0_8 ?v0_9 ?v0_10 ?v0_11 ?v0_12 ?v0_13 ?v0_14 ?v0_15 ?v0_16 ?v0_17 ?v0_18 ?v0_19 ?v0_20 ?v0_21 ?v0_22 ?v0_23 ?v0_24 ?v1_0 ?v1_1 ?v1_2 ?v1_3 ?v1_4 ?v1_5 ?v1_6 ?v1_7 ?v1_8 ?v1_9 ?v1_10 ?v1_11 ?v1_12 ?v1_13 ?v1_14 ?v1_15 ?v1_16 ?v1_17 ?v1_18 ?v1_19 ?v1_20 ?v1_21 ?v1_22 ?v1_23 ?v1_24 ?vu0 ?vu1 ?vu2 ?vu3 ?vu4 ?xM ?xP ?x7 ?x8 ?x9 ?x10 ?x11 ?x12 ?x13 ?x14 ?x15 ?v0 ?v1 ?v2 ?v3 ?v4 ?v5
    (case a0 => k_is); (case l0 => k_is); (case c0 => k_is); (case k0 => k_is)
    (case a1 => k_is); (case l1 => k_is); (case c1 => k_is); (case k1 => k_is)
    (case a2 => k_is); (case l2 => k_is); (case c2 => k_is); (case k2 => k_is)
    (case a3 => k_is); (case l3 => k_is); (case c3 => k_is); (case k3 => k_is)
    (case a4 => k_is); (case l4 => k_is); (case c4 => k_is); (case k4 => k_is)
    (case a5 => k_is); (case l5 => k_is); (case c5 => k_is); (case k5 => k_is)
    (case a6 => k_is); (case l6 => k_is); (case c6 => k_is); (case k6 => k_is)
    (case a7 => k_is); (case l7 => k_is); (case c7 => k_is); (case k7 => k_is)
    (case a8 => k_is); (case l8 => k_is); (case c8 => k_is); (case k8 => k_is)
    (case a9 => k_is); (case l9 => k_is); (case c9 => k_is); (case k9 => k_is)
    (case a10 => k_is); (case l10 => k_is); (case c10 => k_is); (case k10 => k_is)
    (case a11 => k_is); (case l11 => k_is); (case c11 => k_is); (case k11 => k_is)
    (case a12 => k_is); (case l12 => k_is); (case c12 => k_is); (case k12 => k_is)
    (case a13 => k_is); (case l13 => k_is); (case c13 => k_is); (case k13 => k_is)
    (case a14 => k_is); (case l14 => k_is); (case c14 => k_is); (case k14 => k_is)
    (case a15 => k_is); (case l15 => k_is); (case c15 => k_is); (case k15 => k_is)
    (case a16 => k_is); (case l16 => k_is); (case c16 => k_is); (case k16 => k_is)
    (case a17 => k_is); (case l17 => k_is); (case c17 => k_is); (case k17 => k_is)
    (case a18 => k_is); (case l18 => k_is); (case c18 => k_is); (case k18 => k_is)
    (case a19 => k_is); (case l19 => k_is); (case c19 => k_is); (case k19 => k_is)
    (case a20 => k_is); (case l20 => k_is); (case c20 => k_is); (case k20 => k_is)
    (case a21 => k_is); (case l21 => k_is); (case c21 => k_is); (case k21 => k_is)
    (case a22 => k_is); (case l22 => k_is); (case c22 => k_is); (case k22 => k_is)
    (case a23 => k_is); (case l23 => k_is); (case c23 => k_is); (case k23 => k_is)
    (case a24 => k_is); (case l24 => k_is); (case c24 => k_is); (case k24 => k_is)
    (case a25 => k_is); (case l25 => k_is); (case c25 => k_is); (case k25 => k_is)
    (case a26 => k_is); (case l26 => k_is); (case c26 => k_is); (case k26 => k_is)
    (case a27 => k_is); (case l27 => k_is); (case c27 => k_is); (case k27 => k_is)
    (case a28 => k_is); (case l28 => k_is); (case c28 => k_is); (case k28 => k_is)
    (case a29 => k_is); (case l29 => k_is); (case c29 => k_is); (case k29 => k_is)
    (case a30 => k_is); (case l30 => k_is); (case c30 => k_is); (case k30 => k_is)
    (case a31 => k_is); (case l31 => k_is); (case c31 => k_is); (case k31 => k_is)
    (case a32 => k_is); (case l32 => k_is); (case c32 => k_is); (case k32 => k_is)
    (case a33 => k_is); (case l33 => k_is); (case c33 => k_is); (case k33 => k_is)
    (case a34 => k_is); (case l34 => k_is); (case c34 => k_is); (case k34 => k_is)
    (case a35 => k_is); (case l35 => k_is); (case c35 => k_is); (case k35 => k_is)
    (case a36 => k_is); (case l36 => k_is); (case c36 => k_is); (case k36 => k_is)
    (case a37 => k_is); (case l37 => k_is); (case c37 => k_is); (case k37 => k_is)
    (case a38 => k_is); (case l38 => k_is); (case c38 => k_is); (case k38 => k_is)
    (case a39 => k_is); (case l39 => k_is); (case c39 => k_is); (case k39 => k_is)
    (case a40 => k_is); (case l40 => k_is); (case c40 => k_is); (case k40 => k_is)
    (case a41 => k_is); (case l41 => k_is); (case c41 => k_is); (case k41 => k_is)
    (case a42 => k_is); (case l42 => k_is); (case c42 => k_is); (case k42 => k_is)
    (case a43 => k_is); (case l43 => k_is); (case c43 => k_is); (case k43 => k_is)
    (case a44 => k_is); (case l44 => k_is); (case c44 => k_is); (case k44 => k_is)
    (case a45 => k_is); (case l45 => k_is); (case c45 => k_is); (case k45 => k_is)
    (case a46 => k_is); (case l46 => k_is); (case c46 => k_is); (case k46 => k_is)
    (case a47 => k_is); (case l47 => k_is); (case c47 => k_is); (case k47 => k_is)
    (case a48 => k_is); (case l48 => k_is); (case c48 => k_is); (case k48 => k_is)
    (case z0 => k_is); (case z1 => k_is); (case z2 => k_is); (case z3 => k_is); (case z4 => k_is); (case z5 => k_is); (case z6 => k_is); (case z7 => k_is); (case z8 => k_is); (case z9 => k_is); (case z10 => k_is); (case z11 => k_is); (case z12 => k_is); (case z13 => k_is); (case z14 => k_is); (case z15 => k_is); (case z16 => k_is); (case z17 => k_is); (case z18 => k_is); (case z19 => k_is)
    (case v0_0 => k_is)
    (case v0_1 => k_is)
    (case v0_2 => first | rfl | decide +kernel)
    (case v0_3 => k_is)
    (case v0_4 => k_is)
    (case v0_5 => k_is)
    (case v0_6 => k_is)
    (case v0_7 => k_is)
    (case v0_8 => k_is)
    (case v0_9 => k_is)
    (case v0_10 => k_is)
    (case v0_11 => first | rfl | k_is)
    (case v0_12 => first | rfl | decide +kernel)
    (case v0_13 => k_is)
    (case v0_14 => first | k_is | kernel_rfl)
    (case v0_15 => kernel_rfl)
    (case v0_16 => k_is)
    (case v0_17 => k_is)
    (case v0_18 => k_is)
    (case v0_19 => k_is)
    (case v0_20 => k_is)
    (case v0_21 => k_is)
    (case v0_22 => k_is)
    (case v0_23 => k_is)
    (case v0_24 => first | rfl | k_is)
    (case v1_0 => k_is)
    (case v1_1 => k_is)
    (case v1_2 => first | rfl | decide +kernel)
    (case v1_3 => k_is)
    (case v1_4 => k_is)
    (case v1_5 => k_is)
    (case v1_6 => k_is)
    (case v1_7 => k_is)
    (case v1_8 => k_is)
    (case v1_9 => k_is)
    (case v1_10 => k_is)
    (case v1_11 => first | rfl | k_is)
    (case v1_12 => first | rfl | decide +kernel)
    (case v1_13 => k_is)
    (case v1_14 => first | k_is | kernel_rfl)
    (case v1_15 => kernel_rfl)
    (case v1_16 => k_is)
    (case v1_17 => k_is)
    (case v1_18 => k_is)
    (case v1_19 => k_is)
    (case v1_20 => k_is)
    (case v1_21 => k_is)
    (case v1_22 => k_is)
    (case v1_23 => k_is)
    (case v1_24 => first | rfl | k_is)
    (case vu0 => k_is)
    (case vu1 => k_is)
    (case vu2 => k_is)
    (case vu3 => first | rfl | decide +kernel)
    (case vu4 => k_is)
    (case xM => k_is); (case xP => k_is); (case x7 => k_is); (case x8 => k_is); (case x9 => k_is); (case x10 => k_is); (case x11 => first | kernel_rfl | k_is); (case x12 => first | kernel_rfl | k_is); (case x13 => first | kernel_rfl | k_is); (case x14 => k_is); (case x15 => k_is)
    (case v0 => first | rfl | k_is); (case v1 => k_is); (case v2 => first | rfl | k_is); (case v3 => kernel_rfl); (case v4 => kernel_rfl); (case v5 => exact PySem.W.km_tabs_of Y _ (by decide))
