import PyProof.Rows.All
import Wide.All
import OpenK.AllK
import Wide.FinOn
import HandS.ForMost
import HandS.Codes
import HandS.Wide
import HandS.WideBits
import HandS.IsInst
import HandS.RaiseMore
import HandS.Style
import HandS.NoneIn
import HandS.TupMul
import HandS.TupAny
import HandS.Walk
import HandS.SetFor
import HandS.Strs
import KE.LtSeq
import HandS.Conv
import HandS.Exc
import HandS.TryOnly
import HandS.ExcOwn
import HandS.ExcIs
import HandS.WordsExc
import HandS.Lambda
import HandS.EndTab
import HandS.EndOwn
import KE.KNestM
import HandS.ExcInit
import HandS.ExcField
import KE.KExcSuper
import KE.KExcIs
import HandS.Defaults
import KE.DatumOrd
import KE.SortData
import KE.SortKeyHeap
import HandS.CallSlots
import HandS.DeepEq
import KE.KSortKey
import KE.GoesMore
import KE.GoesEnumKw
import HandS.SortInts
import HandS.Deep
import HandS.DictComp
import HandS.Evl
import HandS.SortKw
import HandS.RevRange
import HandS.RevTup
import HandS.FStr
import HandS.StrMore
import HandS.MapObj
import HandS.StrSplit
import HandS.TupLe
import HandS.SetTxt0
import HandS.WordsDict
import KE.KDictZip
import KE.SortKeyHeap
import PyProof.ListNew
import PySem.Challenge.RW_leapfit_k89_texts_that_are_no_rules_or_r
set_option Elab.async false
set_option linter.all false
set_option maxRecDepth 100000
set_option maxHeartbeats 4000000
set_option linter.all false
namespace Lf
/-! ### sums of rounded quotients -/
def fs : Nat → Int → Int → Int → Int
  | 0, _, _, _ => 0
  | n + 1, a, b, m => fs n a b m + (a * n + b) / m
def tri (n : Int) : Int := n * (n - 1) / 2
theorem tri_succ (n : Int) : tri (n + 1) = tri n + n := by
  unfold tri
  rw [show (n + 1) * (n + 1 - 1) = n * (n - 1) + n * 2 by
    rw [Int.add_sub_cancel, Int.mul_sub, Int.add_mul]; omega]
  rw [Int.add_mul_ediv_right _ _ (by decide)]
theorem tri_zero : tri 0 = 0 := rfl
theorem div_shift (x k m : Int) (h : 0 < m) : (x + m * k) / m = x / m + k := by
  rw [Int.add_mul_ediv_left _ _ (by omega)]
theorem fs_red (n : Nat) (a b m : Int) (h : 0 < m) : fs n a b m = fs n (a % m) b m + a / m * tri n := by
  induction n with
  | zero => simp [fs, tri_zero]
  | succ n ih =>
    show fs n a b m + (a * n + b) / m = fs n (a % m) b m + (a % m * n + b) / m + a / m * tri ((n + 1 : Nat) : Int)
    have e : a * n + b = (a % m * n + b) + m * (a / m * n) := by
      have q := Int.emod_add_mul_ediv a m
      have q2 : a * n = (a % m + m * (a / m)) * n := by rw [q]
      rw [q2, Int.add_mul, Int.mul_assoc]; omega
    rw [e, div_shift _ _ _ h, ih, Int.natCast_add, Int.natCast_one, tri_succ, Int.mul_add]
    omega
theorem fs_redb (n : Nat) (a b m : Int) (h : 0 < m) : fs n a b m = fs n a (b % m) m + b / m * n := by
  induction n with
  | zero => simp [fs]
  | succ n ih =>
    show fs n a b m + (a * n + b) / m = fs n a (b % m) m + (a * n + b % m) / m + b / m * ((n + 1 : Nat) : Int)
    have e : a * n + b = (a * n + b % m) + m * (b / m) := by
      have q := Int.emod_add_mul_ediv b m
      omega
    rw [e, div_shift _ _ _ h, ih, Int.natCast_add, Int.natCast_one, Int.mul_add, Int.mul_one]
    omega
/-- each term of the second sum grows by one when its offset grows by its divisor -/
theorem fs_up (n : Nat) (a b m : Int) (h : 0 < m) : fs n a (b + m) m = fs n a b m + n := by
  induction n with
  | zero => simp [fs]
  | succ n ih =>
    show fs n a (b + m) m + (a * n + (b + m)) / m = fs n a b m + (a * n + b) / m + ((n + 1 : Nat) : Int)
    rw [show a * n + (b + m) = (a * n + b) + m * 1 by omega, div_shift _ _ _ h, ih]
    omega
/-- the first term apart -/
theorem fs_first (n : Nat) (a b m : Int) : fs (n + 1) a b m = b / m + fs n a (b + a) m := by
  induction n with
  | zero => show 0 + (a * ((0 : Nat) : Int) + b) / m = b / m + 0; simp
  | succ n ih =>
    show fs (n + 1) a b m + (a * ((n + 1 : Nat) : Int) + b) / m = b / m + (fs n a (b + a) m + (a * n + (b + a)) / m)
    rw [ih, show a * ((n + 1 : Nat) : Int) + b = a * n + (b + a) by
      rw [Int.natCast_add, Int.natCast_one, Int.mul_add]; omega]
    omega
theorem fs_swap (n : Nat) (a b m : Int) (ha : 0 < a) (ham : a < m) (hb : 0 ≤ b) (hbm : b < m) :
    fs n a b m = fs ((a * n + b) / m).toNat m ((a * n + b) % m) a := by
  induction n with
  | zero =>
    have e : (a * ((0 : Nat) : Int) + b) / m = 0 := by
      rw [show a * ((0 : Nat) : Int) + b = b by simp]
      exact Int.ediv_eq_zero_of_lt hb hbm
    rw [e]; rfl
  | succ n ih =>
    show fs n a b m + (a * n + b) / m = fs ((a * ((n + 1 : Nat) : Int) + b) / m).toNat m ((a * ((n + 1 : Nat) : Int) + b) % m) a
    rw [ih]
    have hm : 0 < m := by omega
    have hy : 0 ≤ a * n + b := by
      have := Int.mul_nonneg (Int.le_of_lt ha) (Int.natCast_nonneg n); omega
    generalize hyd : a * (n : Int) + b = y at hy
    have e : a * ((n + 1 : Nat) : Int) + b = y + a := by
      rw [Int.natCast_add, Int.natCast_one, Int.mul_add]; omega
    rw [e]
    have hq : 0 ≤ y / m := Int.ediv_nonneg hy (by omega)
    have hr0 : 0 ≤ y % m := Int.emod_nonneg _ (by omega)
    have hr1 : y % m < m := Int.emod_lt_of_pos _ hm
    have hd := Int.emod_add_mul_ediv y m
    generalize y / m = q at *
    generalize y % m = r at *
    by_cases hc : r + a < m
    · have e1 : (y + a) / m = q := by
        rw [show y + a = (r + a) + m * q by omega, div_shift _ _ _ hm, Int.ediv_eq_zero_of_lt (by omega) hc]
        omega
      have e2 : (y + a) % m = r + a := by
        have := Int.emod_add_mul_ediv (y + a) m
        rw [e1] at this
        omega
      rw [e1, e2, fs_up _ _ _ _ ha]
      omega
    · have e1 : (y + a) / m = q + 1 := by
        rw [show y + a = (r + a - m) + m * (q + 1) by rw [Int.mul_add]; omega, div_shift _ _ _ hm, Int.ediv_eq_zero_of_lt (by omega) (by omega)]
        omega
      have e2 : (y + a) % m = r + a - m := by
        have := Int.emod_add_mul_ediv (y + a) m
        rw [e1, Int.mul_add] at this
        omega
      rw [e1, e2, show (q + 1).toNat = q.toNat + 1 by omega, fs_first, Int.ediv_eq_zero_of_lt (by omega) (by omega), show r + a - m + m = r + a by omega, fs_up _ _ _ _ ha]
      omega
/-- a whole turn of the loop -/
theorem fs_turn (n a b m : Int) (hn : 0 ≤ n) (hm : 0 < m) :
    fs n.toNat a b m = a / m * tri n + b / m * n + fs ((a % m * n + b % m) / m).toNat m ((a % m * n + b % m) % m) (a % m) := by
  have h1 := fs_red n.toNat a b m hm
  have h2 := fs_redb n.toNat (a % m) b m hm
  have en : ((n.toNat : Nat) : Int) = n := by omega
  rw [en] at h1 h2
  have ha0 : 0 ≤ a % m := Int.emod_nonneg _ (by omega)
  have ha1 : a % m < m := Int.emod_lt_of_pos _ hm
  have hb0 : 0 ≤ b % m := Int.emod_nonneg _ (by omega)
  have hb1 : b % m < m := Int.emod_lt_of_pos _ hm
  by_cases hz : a % m = 0
  · have e0 : (a % m * n + b % m) / m = 0 := by
      rw [hz, Int.zero_mul, Int.zero_add]
      exact Int.ediv_eq_zero_of_lt hb0 hb1
    have z : fs n.toNat (a % m) (b % m) m = 0 := by
      rw [hz]
      have : ∀ k : Nat, fs k 0 (b % m) m = 0 := fun k => by
        induction k with
        | zero => rfl
        | succ k ih =>
          show fs k 0 (b % m) m + (0 * (k : Int) + b % m) / m = 0
          rw [ih, Int.zero_mul, Int.zero_add, Int.zero_add]
          exact Int.ediv_eq_zero_of_lt hb0 hb1
      exact this _
    rw [e0]
    show _ = _ + fs 0 m _ _
    have e3 : fs 0 m ((a % m * n + b % m) % m) (a % m) = 0 := rfl
    have e4 : (0 : Int).toNat = 0 := rfl
    rw [e3, h1, h2, z]
    omega
  · have h3 := fs_swap n.toNat (a % m) (b % m) m (by omega) ha1 hb0 hb1
    rw [en] at h3
    rw [h1, h2, h3]
    omega
theorem turn_le (n a b m : Int) (hn : 0 < n) (hm : 0 < m) : (a % m * n + b % m) / m ≤ n ∧ 0 ≤ (a % m * n + b % m) / m := by
  have ha0 : 0 ≤ a % m := Int.emod_nonneg _ (by omega)
  have ha1 : a % m < m := Int.emod_lt_of_pos _ hm
  have hb0 : 0 ≤ b % m := Int.emod_nonneg _ (by omega)
  have hb1 : b % m < m := Int.emod_lt_of_pos _ hm
  have h0 : 0 ≤ a % m * n := Int.mul_nonneg ha0 (by omega)
  refine ⟨?_, Int.ediv_nonneg (by omega) (by omega)⟩
  have h1 : a % m * n ≤ (m - 1) * n := Int.mul_le_mul_of_nonneg_right (by omega) (by omega)
  rw [Int.sub_mul, Int.one_mul] at h1
  have h2 : (a % m * n + b % m) / m < n + 1 := by
    apply Int.ediv_lt_of_lt_mul hm
    rw [Int.add_mul, Int.one_mul, Int.mul_comm n m]
    omega
  omega
theorem turn_zero (n a b m : Int) (hm : 0 < m) (hz : a % m = 0) : (a % m * n + b % m) / m = 0 := by
  rw [hz, Int.zero_mul, Int.zero_add]
  exact Int.ediv_eq_zero_of_lt (Int.emod_nonneg _ (by omega)) (Int.emod_lt_of_pos _ hm)
/-! ### sizes -/
def Bd (k : Nat) (i : Int) : Prop := i.natAbs < 2 ^ k
theorem Bd.mono {k j : Nat} {i : Int} (h : Bd k i) (e : k ≤ j) : Bd j i := Nat.lt_of_lt_of_le h (Nat.pow_le_pow_right (by decide) e)
theorem Bd.le {k : Nat} {i j : Int} (h : Bd k j) (e : i.natAbs ≤ j.natAbs) : Bd k i := Nat.lt_of_le_of_lt e h
theorem Bd.mul {k j : Nat} {x y : Int} (h : Bd k x) (h2 : Bd j y) : Bd (k + j) (x * y) := by
  unfold Bd
  rw [Int.natAbs_mul, Nat.pow_add]
  exact Nat.mul_lt_mul'' h h2
theorem Bd.add {k : Nat} {x y : Int} (h : Bd k x) (h2 : Bd k y) : Bd (k + 1) (x + y) := by
  unfold Bd at *
  rw [Nat.pow_succ]
  omega
theorem Bd.sub {k : Nat} {x y : Int} (h : Bd k x) (h2 : Bd k y) : Bd (k + 1) (x - y) := by
  unfold Bd at *
  rw [Nat.pow_succ]
  omega
theorem Bd.neg {k : Nat} {x : Int} (h : Bd k x) : Bd k (-x) := by
  unfold Bd at *
  omega
theorem Bd.ediv {k : Nat} {x m : Int} (h : Bd k x) (hm : 0 < m) : Bd k (x / m) := by
  refine h.le ?_
  rcases Int.lt_or_le x 0 with hx | hx
  · have h1 : x / m < 0 := Int.ediv_neg_of_neg_of_pos hx hm
    have h2 : x ≤ x / m := by
      apply Int.le_ediv_of_mul_le hm
      have : (-x) * 1 ≤ (-x) * m := Int.mul_le_mul_of_nonneg_left (by omega) (by omega)
      rw [Int.neg_mul, Int.neg_mul, Int.mul_one] at this
      omega
    omega
  · have h1 : 0 ≤ x / m := Int.ediv_nonneg hx (by omega)
    have h2 : x / m ≤ x := Int.ediv_le_self _ hx
    omega
theorem Bd.emod {k : Nat} {x m : Int} (h : Bd k m) (hm : 0 < m) : Bd k (x % m) := by
  refine h.le ?_
  have := Int.emod_nonneg x (show m ≠ 0 by omega)
  have := Int.emod_lt_of_pos x hm
  omega
theorem Bd.log {k : Nat} {i : Int} (h : Bd k i) (hk : 0 < k) : i.natAbs.log2 < k := by
  by_cases e : i.natAbs = 0
  · rw [e]; exact hk
  · exact (Nat.log2_lt e).mpr h
theorem Bd.small {k : Nat} {i : Int} (c : Nat) (h : i.natAbs < 2 ^ c) (e : c ≤ k) : Bd k i := Bd.mono (k := c) h e
theorem Bd.between {k : Nat} {x y : Int} (h : Bd k y) (h0 : 0 ≤ x) (h1 : x ≤ y) : Bd k x := h.le (by omega)
/-! ### the greatest common divisor -/
theorem gcd_turn (x y : Int) (hx : 0 ≤ x) (hy : 0 < y) : Int.gcd y (x % y) = Int.gcd x y := by
  unfold Int.gcd
  rw [show (x % y).natAbs = x.natAbs % y.natAbs by
    obtain ⟨a, rfl⟩ := Int.eq_ofNat_of_zero_le hx
    obtain ⟨b, rfl⟩ := Int.eq_ofNat_of_zero_le (Int.le_of_lt hy)
    rfl]
  rw [Nat.gcd_comm, ← Nat.gcd_rec, Nat.gcd_comm]
end Lf
namespace Lf
theorem nab_ediv {x m : Int} (hm : 0 < m) : (x / m).natAbs ≤ x.natAbs := by
  rcases Int.lt_or_le x 0 with hx | hx
  · have h1 : x / m < 0 := Int.ediv_neg_of_neg_of_pos hx hm
    have h2 : x ≤ x / m := by
      apply Int.le_ediv_of_mul_le hm
      have : (-x) * 1 ≤ (-x) * m := Int.mul_le_mul_of_nonneg_left (by omega) (by omega)
      rw [Int.neg_mul, Int.neg_mul, Int.mul_one] at this
      omega
    omega
  · have h1 : 0 ≤ x / m := Int.ediv_nonneg hx (by omega)
    have h2 : x / m ≤ x := Int.ediv_le_self _ hx
    omega
theorem fs_nab (n : Nat) (a b m : Int) (hm : 0 < m) : (fs n a b m).natAbs ≤ n * (a.natAbs * n + b.natAbs) := by
  induction n with
  | zero => show (0 : Int).natAbs ≤ _; simp
  | succ n ih =>
    show (fs n a b m + (a * n + b) / m).natAbs ≤ (n + 1) * (a.natAbs * (n + 1) + b.natAbs)
    have h1 := nab_ediv (x := a * n + b) hm
    have h2 := Int.natAbs_add_le (a * n) b
    have h3 := Int.natAbs_add_le (fs n a b m) ((a * n + b) / m)
    have h4 : (a * (n : Int)).natAbs = a.natAbs * n := by rw [Int.natAbs_mul]; rfl
    rw [h4] at h2
    have h5 : n * (a.natAbs * n + b.natAbs) ≤ n * (a.natAbs * (n + 1) + b.natAbs) := Nat.mul_le_mul_left _ (Nat.add_le_add_right (Nat.mul_le_mul_left _ (by omega)) _)
    have h6 : a.natAbs * n ≤ a.natAbs * (n + 1) := Nat.mul_le_mul_left _ (by omega)
    rw [Nat.add_mul, Nat.one_mul]
    omega
theorem fs_bd {n k j : Nat} {a b m : Int} (hm : 0 < m) (hn : n < 2 ^ j) (ha : Bd k a) (hb : Bd k b) : Bd (j + (k + j + 1)) (fs n a b m) := by
  unfold Bd at *
  have h := fs_nab n a b m hm
  refine Nat.lt_of_le_of_lt h ?_
  rw [Nat.pow_add 2 j]
  have h1 : a.natAbs * n + b.natAbs < 2 ^ (k + j + 1) := by
    have e : a.natAbs * n ≤ 2 ^ k * 2 ^ j := Nat.mul_le_mul (Nat.le_of_lt ha) (Nat.le_of_lt hn)
    have e2 : 2 ^ k ≤ 2 ^ k * 2 ^ j := Nat.le_mul_of_pos_right _ (Nat.pow_pos (by decide))
    rw [Nat.pow_succ, Nat.pow_add]
    omega
  exact Nat.mul_lt_mul'' hn h1
def trm (p q c s : Int) (i : Nat) : Int := (p * (s + i) + c) / q
theorem trm_sum (p q c s : Int) (n : Nat) : ((List.range n).map (trm p q c s)).sum = fs n p (p * s + c) q := by
  induction n with
  | zero => rfl
  | succ n ih =>
    rw [List.range_succ, List.map_append, List.sum_append, ih]
    show _ + (trm p q c s n + 0) = fs n p (p * s + c) q + (p * n + (p * s + c)) / q
    unfold trm
    rw [show p * (s + (n : Int)) + c = p * n + (p * s + c) by rw [Int.mul_add]; omega]
    omega
end Lf
namespace Lf
/-! ### triples in lowest terms -/
def gg (p q : Int) : Int := (Int.gcd p q : Int)
theorem gg_pos {p q : Int} (h : 1 ≤ q) : 0 < gg p q := by
  have : 0 < Int.gcd p q := Int.gcd_pos_of_ne_zero_right _ (by omega)
  unfold gg
  omega
theorem gg_p (p q : Int) : p = gg p q * (p / gg p q) := (Int.mul_ediv_cancel' (Int.gcd_dvd_left ..)).symm
theorem gg_q (p q : Int) : q = gg p q * (q / gg p q) := (Int.mul_ediv_cancel' (Int.gcd_dvd_right ..)).symm
theorem gg_mul (g x y : Int) (h : 0 ≤ g) : gg (g * x) (g * y) = g * gg x y := by
  unfold gg
  rw [Int.gcd_mul_left, Int.natCast_mul, Int.natAbs_of_nonneg h]
/-- reduced, multiplied, reduced again -/
theorem gg_twice (p q u v : Int) (h : 1 ≤ q) : gg (u * p) (v * q) = gg p q * gg (u * (p / gg p q)) (v * (q / gg p q)) := by
  have hg := gg_pos (p := p) h
  rw [← gg_mul _ _ _ (Int.le_of_lt hg)]
  congr 1
  · rw [Int.mul_left_comm, ← gg_p]
  · rw [Int.mul_left_comm, ← gg_q]
theorem red_p (p q u v : Int) (h : 1 ≤ q) (hv : 1 ≤ v) : u * (p / gg p q) / gg (u * (p / gg p q)) (v * (q / gg p q)) = u * p / gg (u * p) (v * q) := by
  have hg := gg_pos (p := p) h
  have e := gg_twice p q u v h
  rw [e]
  have e2 : u * p = gg p q * (u * (p / gg p q)) := by rw [Int.mul_left_comm, ← gg_p]
  rw [e2, Int.mul_ediv_mul_of_pos _ _ hg]
theorem red_q (p q u v : Int) (h : 1 ≤ q) (hv : 1 ≤ v) : v * (q / gg p q) / gg (u * (p / gg p q)) (v * (q / gg p q)) = v * q / gg (u * p) (v * q) := by
  have hg := gg_pos (p := p) h
  have e := gg_twice p q u v h
  rw [e]
  have e2 : v * q = gg p q * (v * (q / gg p q)) := by rw [Int.mul_left_comm, ← gg_q]
  rw [e2, Int.mul_ediv_mul_of_pos _ _ hg]
theorem red_c (p q u v c : Int) (h : 1 ≤ q) (hv : 1 ≤ v) : c / gg p q / gg (u * (p / gg p q)) (v * (q / gg p q)) = c / gg (u * p) (v * q) := by
  have hg := gg_pos (p := p) h
  rw [gg_twice p q u v h, Int.ediv_ediv_of_nonneg (Int.le_of_lt hg)]
theorem red_shift (p q a b c : Int) (h : 1 ≤ q) : (p * a + q * b + c) / gg p q = p / gg p q * a + q / gg p q * b + c / gg p q := by
  have hg := gg_pos (p := p) h
  have e : p * a + q * b + c = c + gg p q * (p / gg p q * a + q / gg p q * b) := by
    rw [Int.mul_add, ← Int.mul_assoc, ← Int.mul_assoc, ← gg_p, ← gg_q]
    omega
  rw [e, div_shift _ _ _ hg]
  omega
theorem div_neg1 (c g : Int) (hg : 0 < g) : (-1 - c) / g = -1 - c / g := by
  have e := Int.emod_add_mul_ediv c g
  have h0 := Int.emod_nonneg c (show g ≠ 0 by omega)
  have h1 := Int.emod_lt_of_pos c hg
  have e2 : -1 - c = (g - 1 - c % g) + g * (-1 - c / g) := by
    rw [Int.mul_sub]
    omega
  rw [e2, div_shift _ _ _ hg, Int.ediv_eq_zero_of_lt (by omega) (by omega)]
  omega
theorem red_mirror (p q c : Int) (h : 1 ≤ q) : (q - 1 - c) / gg p q = q / gg p q - 1 - c / gg p q := by
  have hg := gg_pos (p := p) h
  have e : q - 1 - c = (-1 - c) + gg p q * (q / gg p q) := by
    rw [← gg_q]
    omega
  rw [e, div_shift _ _ _ hg, div_neg1 _ _ hg]
  omega
end Lf
namespace Lf
theorem gg1 {p q : Int} (h : Int.gcd p q = 1) : gg p q = 1 := by
  unfold gg
  rw [h]
  rfl
theorem thin2 (p q c j k : Int) (h : 1 ≤ q * j) (hk : 1 ≤ k) :
    p / gg p (q * j) / gg (p / gg p (q * j)) (q * j / gg p (q * j) * k) = p / gg p (q * (j * k)) ∧
    q * j / gg p (q * j) * k / gg (p / gg p (q * j)) (q * j / gg p (q * j) * k) = q * (j * k) / gg p (q * (j * k)) ∧
    c / gg p (q * j) / gg (p / gg p (q * j)) (q * j / gg p (q * j) * k) = c / gg p (q * (j * k)) := by
  have e : q * (j * k) = k * (q * j) := by rw [← Int.mul_assoc, Int.mul_comm]
  have h1 := red_p p (q * j) 1 k h hk
  have h2 := red_q p (q * j) 1 k h hk
  have h3 := red_c p (q * j) 1 k c h hk
  simp only [Int.one_mul] at h1 h2 h3
  rw [Int.mul_comm (q * j / gg p (q * j)) k, e]
  exact ⟨h1, h2, h3⟩
theorem sample2 (p q c j k : Int) (h : 1 ≤ q) :
    p * j / gg (p * j) q * k / gg (p * j / gg (p * j) q * k) (q / gg (p * j) q) = p * (j * k) / gg (p * (j * k)) q ∧
    q / gg (p * j) q / gg (p * j / gg (p * j) q * k) (q / gg (p * j) q) = q / gg (p * (j * k)) q ∧
    c / gg (p * j) q / gg (p * j / gg (p * j) q * k) (q / gg (p * j) q) = c / gg (p * (j * k)) q := by
  have e : p * (j * k) = k * (p * j) := by rw [← Int.mul_assoc, Int.mul_comm]
  have h1 := red_p (p * j) q k 1 h (by decide)
  have h2 := red_q (p * j) q k 1 h (by decide)
  have h3 := red_c (p * j) q k 1 c h (by decide)
  simp only [Int.one_mul] at h1 h2 h3
  rw [Int.mul_comm (p * j / gg (p * j) q) k, e]
  exact ⟨h1, h2, h3⟩
theorem both2 (p q c k : Int) (h : 1 ≤ q) (hk : 1 ≤ k) :
    p * k / gg (p * k) q / gg (p * k / gg (p * k) q) (q / gg (p * k) q * k) = k * p / gg (k * p) (k * q) ∧
    q / gg (p * k) q * k / gg (p * k / gg (p * k) q) (q / gg (p * k) q * k) = k * q / gg (k * p) (k * q) ∧
    c / gg (p * k) q / gg (p * k / gg (p * k) q) (q / gg (p * k) q * k) = c / gg (k * p) (k * q) := by
  have h1 := red_p (p * k) q 1 k h hk
  have h2 := red_q (p * k) q 1 k h hk
  have h3 := red_c (p * k) q 1 k c h hk
  simp only [Int.one_mul] at h1 h2 h3
  rw [Int.mul_comm (q / gg (p * k) q) k, Int.mul_comm k p]
  exact ⟨h1, h2, h3⟩
theorem one_le_mul {x y : Int} (h : 1 ≤ x) (h2 : 1 ≤ y) : 1 ≤ x * y := by
  have := Int.mul_le_mul h h2 (by decide) (by omega)
  omega
end Lf
namespace Lf
/-! ### sums over ranges -/
theorem fs_add (n m : Nat) (a b q : Int) : fs (n + m) a b q = fs n a b q + fs m a (a * n + b) q := by
  induction m with
  | zero => show fs n a b q = fs n a b q + 0; omega
  | succ m ih =>
    show fs (n + m) a b q + (a * ((n + m : Nat) : Int) + b) / q = fs n a b q + (fs m a (a * n + b) q + (a * m + (a * n + b)) / q)
    rw [ih, show a * ((n + m : Nat) : Int) + b = a * m + (a * n + b) by rw [Int.natCast_add, Int.mul_add]; omega]
    omega
/-- two neighbouring ranges -/
theorem fs_split (p q c s m e : Int) (h1 : s ≤ m) (h2 : m ≤ e) : fs (m - s).toNat p (p * s + c) q + fs (e - m).toNat p (p * m + c) q = fs (e - s).toNat p (p * s + c) q := by
  have e1 : (e - s).toNat = (m - s).toNat + (e - m).toNat := by omega
  rw [e1, fs_add, show ((m - s).toNat : Int) = m - s by omega, show p * (m - s) + (p * s + c) = p * m + c by rw [Int.mul_sub]; omega]
theorem fs_one (p b q : Int) : fs 1 p b q = b / q := by
  show 0 + (p * ((0 : Nat) : Int) + b) / q = b / q
  simp
/-- one step of the offset: a term grows by one exactly where the divisor divides -/
theorem step_div (x q : Int) (h : 0 < q) : (x + 1) / q = x / q + (if (x + 1) % q = 0 then 1 else 0) := by
  have e := Int.emod_add_mul_ediv x q
  have h0 := Int.emod_nonneg x (show q ≠ 0 by omega)
  have h1 := Int.emod_lt_of_pos x h
  by_cases hc : x % q + 1 = q
  · have e2 : x + 1 = 0 + q * (x / q + 1) := by rw [Int.mul_add]; omega
    have e3 : (x + 1) % q = 0 := by rw [e2, Int.zero_add, Int.mul_emod_right]
    rw [if_pos e3, e2, div_shift _ _ _ h, Int.zero_ediv]
    omega
  · have e2 : x + 1 = (x % q + 1) + q * (x / q) := by omega
    have e3 : (x + 1) % q = x % q + 1 := by
      rw [e2, Int.add_mul_emod_self_left]
      exact Int.emod_eq_of_lt (by omega) (by omega)
    rw [if_neg (by omega)]
    rw [e2, div_shift _ _ _ h, Int.ediv_eq_zero_of_lt (by omega) (by omega)]
    omega
theorem hit_once (p q b : Int) (hg : Int.gcd p q = 1) (i j : Int) (hi : 0 ≤ i) (hij : i < j) (hj : j < q) (h1 : (p * i + b) % q = 0) (h2 : (p * j + b) % q = 0) : False := by
  have d1 := Int.dvd_of_emod_eq_zero h1
  have d2 := Int.dvd_of_emod_eq_zero h2
  have d3 : q ∣ p * (j - i) := by
    have := Int.dvd_sub d2 d1
    rw [show p * j + b - (p * i + b) = p * (j - i) by rw [Int.mul_sub]; omega] at this
    exact this
  have d4 : q ∣ j - i := by
    have n1 : q.natAbs ∣ p.natAbs * (j - i).natAbs := by
      rw [← Int.natAbs_mul]
      exact Int.natAbs_dvd_natAbs.mpr d3
    have n2 : Nat.Coprime q.natAbs p.natAbs := by
      unfold Nat.Coprime
      rw [Nat.gcd_comm]
      exact hg
    exact Int.natAbs_dvd_natAbs.mp (Nat.Coprime.dvd_of_dvd_mul_left n2 n1)
  have := Int.le_of_dvd (by omega) d4
  omega
theorem fs_step_le (p q b : Int) (hq : 0 < q) (hg : Int.gcd p q = 1) (n : Nat) (hn : (n : Int) ≤ q) :
    fs n p (b + 1) q - fs n p b q = 0 ∧ (∀ i : Nat, i < n → (p * i + (b + 1)) % q ≠ 0) ∨ fs n p (b + 1) q - fs n p b q = 1 ∧ (∃ i : Nat, i < n ∧ (p * i + (b + 1)) % q = 0) := by
  induction n with
  | zero => exact .inl ⟨rfl, fun i h => absurd h (by omega)⟩
  | succ n ih =>
    have e : fs (n + 1) p (b + 1) q - fs (n + 1) p b q = (fs n p (b + 1) q - fs n p b q) + ((p * n + (b + 1)) / q - (p * n + b) / q) := by
      show fs n p (b + 1) q + (p * n + (b + 1)) / q - (fs n p b q + (p * n + b) / q) = _
      omega
    have s := step_div (p * n + b) q hq
    rw [show p * (n : Int) + b + 1 = p * n + (b + 1) by omega] at s
    rw [e]
    rcases ih (by omega) with ⟨h1, h2⟩ | ⟨h1, i, hi, h2⟩
    · by_cases hc : (p * (n : Int) + (b + 1)) % q = 0
      · rw [if_pos hc] at s
        exact .inr ⟨by omega, n, by omega, hc⟩
      · rw [if_neg hc] at s
        refine .inl ⟨by omega, fun i hi => ?_⟩
        by_cases hin : i = n
        · subst hin; exact hc
        · exact h2 i (by omega)
    · have hc : ¬ (p * (n : Int) + (b + 1)) % q = 0 := fun z => hit_once p q (b + 1) hg i n (by omega) (by omega) (by omega) h2 z
      rw [if_neg hc] at s
      exact .inr ⟨by omega, i, by omega, h2⟩
theorem fs_step (p q b : Int) (hq : 0 < q) (hg : Int.gcd p q = 1) : fs q.toNat p (b + 1) q = fs q.toNat p b q + 1 := by
  have hle : ∀ b, fs q.toNat p (b + 1) q - fs q.toNat p b q ≤ 1 := fun b => by
    rcases fs_step_le p q b hq hg q.toNat (by omega) with ⟨h, _⟩ | ⟨h, _⟩ <;> omega
  have many : ∀ (k : Nat) (b : Int), fs q.toNat p (b + k) q - fs q.toNat p b q ≤ k := fun k => by
    induction k with
    | zero => intro b; simp
    | succ k ih =>
      intro b
      have h1 := ih b
      have h2 := hle (b + k)
      rw [show b + ((k + 1 : Nat) : Int) = b + k + 1 by omega]
      omega
  have up := fs_up q.toNat p b q hq
  have h1 := many (q.toNat - 1) (b + 1)
  rw [show b + 1 + ((q.toNat - 1 : Nat) : Int) = b + q by omega] at h1
  have h2 := hle b
  omega
theorem fs_from (p q : Int) (hq : 0 < q) (hg : Int.gcd p q = 1) (k : Nat) (b : Int) : fs q.toNat p (b + k) q = fs q.toNat p b q + k := by
  induction k with
  | zero => simp
  | succ k ih =>
    rw [show b + ((k + 1 : Nat) : Int) = b + k + 1 by omega, fs_step p q _ hq hg, ih]
    omega
theorem fs_any (p q b : Int) (hq : 0 < q) (hg : Int.gcd p q = 1) : fs q.toNat p b q = fs q.toNat p 0 q + b := by
  rcases Int.lt_or_le b 0 with h | h
  · have := fs_from p q hq hg (-b).toNat b
    rw [show b + ((-b).toNat : Int) = 0 by omega] at this
    omega
  · have := fs_from p q hq hg b.toNat 0
    rw [show 0 + (b.toNat : Int) = b by omega] at this
    omega
/-- terms in reverse order -/
theorem fs_rev (n : Nat) (a b q : Int) : fs n a b q = fs n (-a) (a * (n - 1) + b) q := by
  induction n with
  | zero => rfl
  | succ n ih =>
    rw [fs_first n (-a)]
    show fs n a b q + (a * n + b) / q = _
    rw [ih, show a * (((n + 1 : Nat) : Int) - 1) + b = a * n + b by rw [show ((n + 1 : Nat) : Int) - 1 = n by omega],
      show a * (n : Int) + b + -a = a * (n - 1) + b by rw [Int.mul_sub]; omega]
    omega
/-- negated terms -/
theorem fs_neg (n : Nat) (a b q : Int) (hq : 0 < q) : fs n (-a) (-b) q = - fs n a (b + q - 1) q := by
  induction n with
  | zero => rfl
  | succ n ih =>
    show fs n (-a) (-b) q + (-a * n + -b) / q = - (fs n a (b + q - 1) q + (a * n + (b + q - 1)) / q)
    rw [ih]
    have h1 := div_neg1 (a * n + (b - 1)) q hq
    have h2 := div_shift (a * n + (b - 1)) 1 q hq
    rw [show -1 - (a * (n : Int) + (b - 1)) = -a * n + -b by rw [Int.neg_mul]; omega] at h1
    rw [show a * (n : Int) + (b - 1) + q * 1 = a * n + (b + q - 1) by omega] at h2
    omega
theorem fs_cycle (p q b : Int) (hq : 0 < q) (hg : Int.gcd p q = 1) : fs q.toNat p b q = b + (p - 1) * (q - 1) / 2 := by
  have h0 := fs_any p q b hq hg
  have r := fs_rev q.toNat p 0 q
  have ng := fs_neg q.toNat p (-(p * (q - 1))) q hq
  rw [show ((q.toNat : Nat) : Int) = q by omega, Int.add_zero] at r
  rw [Int.neg_neg] at ng
  have h2 := fs_any p q (-(p * (q - 1)) + q - 1) hq hg
  have key : 2 * fs q.toNat p 0 q = (p - 1) * (q - 1) := by
    have e : (p - 1) * (q - 1) = p * (q - 1) - (q - 1) := by rw [Int.sub_mul, Int.one_mul]
    omega
  have : (p - 1) * (q - 1) / 2 = fs q.toNat p 0 q := by
    rw [← key, Int.mul_ediv_cancel_left _ (by decide)]
  omega
/-- Hermite's identity -/
theorem fs_hermite (k y : Int) (hk : 0 < k) : fs k.toNat 1 y k = y := by
  have := fs_cycle 1 k y hk (by simp [Int.gcd])
  rw [this]
  simp
/-- mirrored -/
theorem fs_mirror (n : Nat) (p q c s : Int) (hq : 0 < q) : fs n p (p * (1 - (s + n)) + (q - 1 - c)) q = - fs n p (p * s + c) q := by
  induction n with
  | zero => rfl
  | succ n ih =>
    rw [fs_first]
    show _ = -(fs n p (p * s + c) q + (p * n + (p * s + c)) / q)
    have e1 : p * (1 - (s + ((n + 1 : Nat) : Int))) + (q - 1 - c) + p = p * (1 - (s + n)) + (q - 1 - c) := by
      rw [show (1 - (s + ((n + 1 : Nat) : Int))) = (1 - (s + n)) - 1 by omega, Int.mul_sub p _ 1]
      omega
    rw [e1, ih]
    have h1 := div_neg1 (p * n + (p * s + c)) q hq
    have h2 := div_shift (-1 - (p * n + (p * s + c))) 1 q hq
    rw [show -1 - (p * (n : Int) + (p * s + c)) + q * 1 = p * (1 - (s + ((n + 1 : Nat) : Int))) + (q - 1 - c) by
      rw [show (1 - (s + ((n + 1 : Nat) : Int))) = -(n : Int) - s by omega, Int.mul_sub, Int.mul_neg]; omega] at h2
    omega
theorem fs_lowest (n : Nat) (p q c s : Int) (hq : 1 ≤ q) : fs n (p / gg p q) (p / gg p q * s + c / gg p q) (q / gg p q) = fs n p (p * s + c) q := by
  have hg := gg_pos (p := p) hq
  induction n with
  | zero => rfl
  | succ n ih =>
    show fs n (p / gg p q) (p / gg p q * s + c / gg p q) (q / gg p q) + (p / gg p q * n + (p / gg p q * s + c / gg p q)) / (q / gg p q) = fs n p (p * s + c) q + (p * n + (p * s + c)) / q
    rw [ih]
    have e1 : p / gg p q * n + (p / gg p q * s + c / gg p q) = (p * n + (p * s + c)) / gg p q := by
      have : p * n + (p * s + c) = c + gg p q * (p / gg p q * n + p / gg p q * s) := by
        rw [Int.mul_add, ← Int.mul_assoc, ← Int.mul_assoc, ← gg_p]
        omega
      rw [this, div_shift _ _ _ hg]
      omega
    have e2 : (p * n + (p * s + c)) / gg p q / (q / gg p q) = (p * n + (p * s + c)) / q := by
      rw [Int.ediv_ediv_of_nonneg (Int.le_of_lt hg), ← gg_q]
    rw [e1, e2]
theorem sum_map_add {α : Type} (l : List α) (f g : α → Int) : (l.map fun x => f x + g x).sum = (l.map f).sum + (l.map g).sum := by
  induction l with
  | nil => rfl
  | cons x r ih => simp only [List.map_cons, List.sum_cons, ih]; omega
theorem range_fs (k : Nat) (a b q : Int) : ((List.range k).map fun (j : Nat) => (a * j + b) / q).sum = fs k a b q := by
  induction k with
  | zero => rfl
  | succ k ih =>
    rw [List.range_succ, List.map_append, List.sum_append, ih]
    show _ + ((a * k + b) / q + 0) = fs k a b q + (a * k + b) / q
    omega
theorem fs_thin (n : Nat) (p q b k : Int) (hq : 0 < q) (hk : 0 < k) : ((List.range k.toNat).map fun (j : Nat) => fs n p (b + q * j) (q * k)).sum = fs n p b q := by
  induction n with
  | zero =>
    show ((List.range k.toNat).map fun _ => (0 : Int)).sum = 0
    induction k.toNat with
    | zero => rfl
    | succ m ih => rw [List.range_succ, List.map_append, List.sum_append, ih]; rfl
  | succ n ih =>
    have e : (List.range k.toNat).map (fun (j : Nat) => fs (n + 1) p (b + q * j) (q * k)) = (List.range k.toNat).map (fun (j : Nat) => fs n p (b + q * j) (q * k) + (1 * (j : Int) + (p * n + b) / q) / k) := by
      apply List.map_congr_left
      intro j _
      show fs n p (b + q * j) (q * k) + (p * n + (b + q * j)) / (q * k) = _
      rw [← Int.ediv_ediv_of_nonneg (Int.le_of_lt hq), show p * (n : Int) + (b + q * j) = (p * n + b) + q * j by omega, div_shift _ _ _ hq, Int.one_mul, Int.add_comm]
      rw [Int.add_comm (j : Int)]
      omega
    rw [e, sum_map_add, ih, range_fs, fs_hermite _ _ hk]
    rfl
theorem fs_sample (n : Nat) (p q b k : Int) (hk : 0 ≤ k) : ((List.range k.toNat).map fun (j : Nat) => fs n (p * k) (b + p * j) q).sum = fs (k.toNat * n) p b q := by
  induction n with
  | zero =>
    show ((List.range k.toNat).map fun _ => (0 : Int)).sum = 0
    induction k.toNat with
    | zero => rfl
    | succ m ih => rw [List.range_succ, List.map_append, List.sum_append, ih]; rfl
  | succ n ih =>
    have e : (List.range k.toNat).map (fun (j : Nat) => fs (n + 1) (p * k) (b + p * j) q) = (List.range k.toNat).map (fun (j : Nat) => fs n (p * k) (b + p * j) q + (p * (j : Int) + (p * ((k.toNat * n : Nat) : Int) + b)) / q) := by
      apply List.map_congr_left
      intro j _
      show fs n (p * k) (b + p * j) q + (p * k * n + (b + p * j)) / q = _
      rw [Int.natCast_mul, show ((k.toNat : Nat) : Int) = k by omega, ← Int.mul_assoc]
      rw [show p * k * (n : Int) + (b + p * j) = p * j + (p * k * n + b) by omega]
    rw [e, sum_map_add, ih, range_fs, Nat.mul_succ, fs_add]
end Lf
namespace Lf
theorem fs_lin (n : Nat) (a b m i j : Int) (hm : 0 < m) : fs n (a + i * m) (b + j * m) m = fs n a b m + i * tri n + j * n := by
  induction n with
  | zero => simp [fs, tri_zero]
  | succ n ih =>
    show fs n (a + i * m) (b + j * m) m + ((a + i * m) * n + (b + j * m)) / m = fs n a b m + (a * n + b) / m + i * tri ((n + 1 : Nat) : Int) + j * ((n + 1 : Nat) : Int)
    rw [ih, show (a + i * m) * (n : Int) + (b + j * m) = (a * n + b) + m * (i * n + j) by
      rw [Int.add_mul, Int.mul_add, Int.mul_comm i m, Int.mul_assoc, Int.mul_comm j m]; omega, div_shift _ _ _ hm, Int.natCast_add, Int.natCast_one, tri_succ, Int.mul_add, Int.mul_add]
    omega
theorem fs_scale (n : Nat) (a b m k : Int) (hk : 0 < k) : fs n (a * k) (b * k) (m * k) = fs n a b m := by
  induction n with
  | zero => rfl
  | succ n ih =>
    show fs n (a * k) (b * k) (m * k) + (a * k * n + b * k) / (m * k) = fs n a b m + (a * n + b) / m
    rw [ih, show a * k * (n : Int) + b * k = (a * n + b) * k by rw [Int.add_mul, Int.mul_right_comm], Int.mul_ediv_mul_of_pos_left _ _ hk]
theorem fs_last (n a b m : Int) (hn : 0 < n) : fs n.toNat a b m - fs (n - 1).toNat a b m = (a * (n - 1) + b) / m := by
  have e : n.toNat = (n - 1).toNat + 1 := by omega
  rw [e]
  show fs (n - 1).toNat a b m + (a * ((n - 1).toNat : Int) + b) / m - fs (n - 1).toNat a b m = _
  rw [show ((n - 1).toNat : Int) = n - 1 by omega]
  omega
theorem fs_part (n k a b m : Int) (h0 : 0 ≤ k) (h1 : k ≤ n) : fs k.toNat a b m + fs (n - k).toNat a (a * k + b) m = fs n.toNat a b m := by
  rw [show n.toNat = k.toNat + (n - k).toNat by omega, fs_add, show ((k.toNat : Nat) : Int) = k by omega]
theorem Bd.grow3 {k : Nat} {r d : Int} (h0 : 0 ≤ r) (h : Bd k r) (d0 : 0 ≤ d) (d1 : d < 1000) : Bd (k + 10) (1000 * r + d) := by
  unfold Bd at *
  have e : (2 : Nat) ^ (k + 10) = 2 ^ k * 1024 := by rw [Nat.pow_add]
  rw [e]
  generalize (2 : Nat) ^ k = m at h
  omega
theorem Bd.grow1 {k : Nat} {r d : Int} (h0 : 0 ≤ r) (h : Bd k r) (d0 : 0 ≤ d) (d1 : d < 10) : Bd (k + 4) (10 * r + d) := by
  unfold Bd at *
  have e : (2 : Nat) ^ (k + 4) = 2 ^ k * 16 := by rw [Nat.pow_add]
  rw [e]
  generalize (2 : Nat) ^ k = m at h
  omega
end Lf
namespace Lf
/-! ### events -/
theorem gal {p q : Int} (c m t : Int) (hp : 1 ≤ p) (hq : 1 ≤ q) : m ≤ (p * t + c) / q ↔ (q * m + (p - 1 - c)) / p ≤ t := by
  rw [Int.le_ediv_iff_mul_le (by omega), ← Int.lt_add_one_iff (a := (q * m + (p - 1 - c)) / p), Int.ediv_lt_iff_lt_mul (by omega), Int.mul_comm m q, Int.add_mul, Int.one_mul, Int.mul_comm t p]
  omega
theorem ct_mono {p q c s t : Int} (hp : 0 ≤ p) (hq : 1 ≤ q) (h : s ≤ t) : (p * s + c) / q ≤ (p * t + c) / q := by
  apply Int.ediv_le_ediv (by omega)
  have := Int.mul_le_mul_of_nonneg_left h hp
  omega
theorem ev_at {p q c m t : Int} (hp : 1 ≤ p) (hq : 1 ≤ q) (h1 : (p * (t - 1) + c) / q < m) (h2 : m ≤ (p * t + c) / q) : (q * m + (p - 1 - c)) / p = t := by
  have a := (gal c m t hp hq).mp h2
  have b : ¬ (q * m + (p - 1 - c)) / p ≤ t - 1 := fun h => by
    have := (gal c m (t - 1) hp hq).mpr h
    omega
  omega
theorem fs_const (k : Nat) (a b m v : Int) (h : ∀ i : Nat, i < k → (a * i + b) / m = v) : fs k a b m = k * v := by
  induction k with
  | zero => simp [fs]
  | succ k ih =>
    show fs k a b m + (a * k + b) / m = ((k + 1 : Nat) : Int) * v
    rw [ih (fun i hi => h i (by omega)), h k (by omega), Int.natCast_add, Int.natCast_one, Int.add_mul]
    omega
/-- the sum of the counts of a range by the times of its events -/
theorem fs_dual (p q c s : Int) (hp : 1 ≤ p) (hq : 1 ≤ q) (n : Nat) :
    fs n p (p * s + c) q = n * ((p * (s - 1) + c) / q) + ((p * (s + n - 1) + c) / q - (p * (s - 1) + c) / q) * (s + n) - fs ((p * (s + n - 1) + c) / q - (p * (s - 1) + c) / q).toNat q (q * ((p * (s - 1) + c) / q + 1) + (p - 1 - c)) p := by
  induction n with
  | zero =>
    rw [show s + ((0 : Nat) : Int) - 1 = s - 1 by omega, Int.sub_self]
    simp [fs]
  | succ n ih =>
    show fs n p (p * s + c) q + (p * n + (p * s + c)) / q = _
    rw [ih]
    have e0 : p * (n : Int) + (p * s + c) = p * (s + ((n + 1 : Nat) : Int) - 1) + c := by
      rw [show s + ((n + 1 : Nat) : Int) - 1 = s + n by omega, Int.mul_add]
      omega
    rw [e0]
    have m1 : (p * (s - 1) + c) / q ≤ (p * (s + n - 1) + c) / q := ct_mono (by omega) hq (by omega)
    have m2 : (p * (s + n - 1) + c) / q ≤ (p * (s + ((n + 1 : Nat) : Int) - 1) + c) / q := ct_mono (by omega) hq (by omega)
    have key : ∀ i : Nat, (i : Int) < (p * (s + ((n + 1 : Nat) : Int) - 1) + c) / q - (p * (s + n - 1) + c) / q → (q * ((p * (s + n - 1) + c) / q + 1 + i) + (p - 1 - c)) / p = s + n := fun i hi => by
      apply ev_at hp hq
      · show (p * (s + n - 1) + c) / q < _
        omega
      · rw [show s + (n : Int) = s + ((n + 1 : Nat) : Int) - 1 by omega] at *
        omega
    generalize hl : (p * (s - 1) + c) / q = low at *
    generalize hh : (p * (s + n - 1) + c) / q = hi at *
    generalize hh2 : (p * (s + ((n + 1 : Nat) : Int) - 1) + c) / q = hi2 at *
    rw [show (hi2 - low).toNat = (hi - low).toNat + (hi2 - hi).toNat by omega, fs_add, show ((hi - low).toNat : Int) = hi - low by omega]
    have fc := fs_const (hi2 - hi).toNat q (q * (hi - low) + (q * (low + 1) + (p - 1 - c))) p (s + n) (fun i h => by
      have := key i (by omega)
      rw [show q * (i : Int) + (q * (hi - low) + (q * (low + 1) + (p - 1 - c))) = q * (hi + 1 + i) + (p - 1 - c) by
        have : q * (hi + 1 + i) = q * i + q * (hi - low) + q * (low + 1) := by rw [← Int.mul_add, ← Int.mul_add]; congr 1; omega
        omega]
      exact this)
    rw [fc, show ((hi2 - hi).toNat : Int) = hi2 - hi by omega]
    rw [show s + ((n + 1 : Nat) : Int) = s + n + 1 by omega, show ((n + 1 : Nat) : Int) = n + 1 by omega]
    generalize s + (n : Int) = x
    have e3 : (hi2 - low) * (x + 1) = hi2 * x - low * x + hi2 - low := by rw [Int.mul_add, Int.sub_mul]; omega
    have e4 : (hi - low) * x = hi * x - low * x := by rw [Int.sub_mul]
    have e5 : (hi2 - hi) * x = hi2 * x - hi * x := by rw [Int.sub_mul]
    have e6 : ((n : Int) + 1) * low = n * low + low := by rw [Int.add_mul, Int.one_mul]
    rw [e3, e4, e5, e6]
    omega
theorem ct_fast {p q c s : Int} (hq : 1 ≤ q) (h : q ≤ p) (n : Nat) : (n : Int) ≤ (p * (s + n) + c) / q - (p * s + c) / q := by
  induction n with
  | zero => simp
  | succ n ih =>
    have : (p * (s + n) + c) / q + 1 ≤ (p * (s + ((n + 1 : Nat) : Int)) + c) / q := by
      have e := div_shift (p * (s + n) + c) 1 q (by omega)
      rw [← e]
      apply Int.ediv_le_ediv (by omega)
      rw [show s + ((n + 1 : Nat) : Int) = s + n + 1 by omega, Int.mul_add p (s + n) 1]
      omega
    omega
theorem ct_slow {p q c s : Int} (hq : 1 ≤ q) (h : p ≤ q) (n : Nat) : (p * (s + n) + c) / q - (p * s + c) / q ≤ n := by
  induction n with
  | zero => simp
  | succ n ih =>
    have : (p * (s + ((n + 1 : Nat) : Int)) + c) / q ≤ (p * (s + n) + c) / q + 1 := by
      have e := div_shift (p * (s + n) + c) 1 q (by omega)
      rw [← e]
      apply Int.ediv_le_ediv (by omega)
      rw [show s + ((n + 1 : Nat) : Int) = s + n + 1 by omega, Int.mul_add p (s + n) 1]
      omega
    omega
end Lf

namespace Lf
open PySem PySem.Spec PyProof.Rows L2
def topS (i : Nat) : Stmt := PySem.Challenge.pw_leapfit_k89_texts_that_are_no_rules_or_r.main.body.getD i (.Pass ⟨0, 0, 0, 0⟩)
/-! ### heaps -/
theorem len10 {n : Nat} (h : n ≤ 1000) : n ≤ sizeLine := Nat.le_of_lt (small1000 h)
def penD (l : Addr) (t r : Int) : List (Key × V) := [(Sum.inr "cells", .ref l), (Sum.inr "at", .int t), (Sum.inr "left", .int r)]
/-- all but the source's own dict stays -/
structure Fr (H H' : Hp) : Prop where
  k : ∀ b o, H b = some o → (∀ x : Addr × Int × Int, o ≠ .dK (penD x.1 x.2.1 x.2.2)) → H' b = some o
theorem Fr.t {H H' : Hp} (f : Fr H H') (b : Addr) (xs : List V) (h : H b = some (.tup xs)) : H' b = some (.tup xs) := f.k b _ h fun _ z => by cases z
theorem Fr.l {H H' : Hp} (f : Fr H H') (b : Addr) (xs : List V) (h : H b = some (.lst xs)) : H' b = some (.lst xs) := f.k b _ h fun _ z => by cases z
theorem Fr.refl (H : Hp) : Fr H H := ⟨fun _ _ h _ => h⟩
theorem Fr.trans {H H1 H2 : Hp} (a : Fr H H1) (b : Fr H1 H2) : Fr H H2 := ⟨fun c o h n => b.k c o (a.k c o h n) n⟩
theorem Fr.same {H H1 : Hp} (a : Same H H1) : Fr H H1 := ⟨fun c o h _ => a c _ h⟩
theorem sm_upd {H : Hp} {p : Addr} {o : HO} (h : H p = none) : Same H (upd H p o) := fun b x e => by
  rw [upd_ne (ne_of_none e h)]
  exact e
theorem Fr.new {H : Hp} {p : Addr} {o : HO} (h : H p = none) : Fr H (upd H p o) := Fr.same (sm_upd h)
theorem Fr.dict {H : Hp} {p l : Addr} {t r : Int} {o : HO} (h : H p = some (.dK (penD l t r))) : Fr H (upd H p o) :=
  ⟨fun b o e n => by rw [upd_ne (ne_of e h (n (l, t, r)))]; exact e⟩
theorem Fr.d0 {H H' : Hp} (f : Fr H H') (b : Addr) (h : H b = some (.dK [])) : H' b = some (.dK []) := f.k b _ h fun _ z => by cases z
/-! ### the source of numbers -/
theorem sct : ¬ ("cells" : Str) = "at" := by decide +kernel
theorem scr : ¬ ("cells" : Str) = "left" := by decide +kernel
theorem str_ : ¬ ("at" : Str) = "left" := by decide +kernel
theorem srt : ¬ ("left" : Str) = "at" := by decide +kernel
theorem kct : ¬ (Sum.inr ("cells" : Str) : Key) = Sum.inr ("at" : Str) := fun h => sct (Sum.inr.inj h)
theorem kcr : ¬ (Sum.inr ("cells" : Str) : Key) = Sum.inr ("left" : Str) := fun h => scr (Sum.inr.inj h)
theorem ktr : ¬ (Sum.inr ("at" : Str) : Key) = Sum.inr ("left" : Str) := fun h => str_ (Sum.inr.inj h)
theorem krt : ¬ (Sum.inr ("left" : Str) : Key) = Sum.inr ("at" : Str) := fun h => srt (Sum.inr.inj h)
theorem dg_rest {H : Hp} {a l : Addr} {t r : Int} (h : H a = some (.dK (penD l t r))) : DGet H a (.str "left") (some (.int r)) := by
  have e : valV (penD l t r) (Sum.inr "left" : Key) = some (.int r) := by
    unfold penD
    rw [valV_neg kcr, valV_neg ktr, valV_pos rfl]
  rw [← e]
  exact DGet.k (k := Sum.inr "left") h
theorem dg_turn {H : Hp} {a l : Addr} {t r : Int} (h : H a = some (.dK (penD l t r))) : DGet H a (.str "at") (some (.int t)) := by
  have e : valV (penD l t r) (Sum.inr "at" : Key) = some (.int t) := by
    unfold penD
    rw [valV_neg kct, valV_pos rfl]
  rw [← e]
  exact DGet.k (k := Sum.inr "at") h
theorem dg_cells {H : Hp} {a l : Addr} {t r : Int} (h : H a = some (.dK (penD l t r))) : DGet H a (.str "cells") (some (.ref l)) := by
  have e : valV (penD l t r) (Sum.inr "cells" : Key) = some (.ref l) := by
    unfold penD
    rw [valV_pos rfl]
  rw [← e]
  exact DGet.k (k := Sum.inr "cells") h
theorem dp_rest {H : Hp} {a l : Addr} {t r y : Int} (h : H a = some (.dK (penD l t r))) : DPut H a (.str "left") (.int y) (upd H a (.dK (penD l t y))) := by
  have e : putK (penD l t r) (Sum.inr "left" : Key) (.int y) = penD l t y := by
    simp [putK, penD, scr, str_]
  rw [← e]
  exact DPut.k (k := Sum.inr "left") h (by show 3 < sizeLine; exact small1000 (by decide))
theorem dp_turn {H : Hp} {a l : Addr} {t r y : Int} (h : H a = some (.dK (penD l t r))) : DPut H a (.str "at") (.int y) (upd H a (.dK (penD l y r))) := by
  have e : putK (penD l t r) (Sum.inr "at" : Key) (.int y) = penD l y r := by
    simp [putK, penD, sct, srt]
  rw [← e]
  exact DPut.k (k := Sum.inr "at") h (by show 3 < sizeLine; exact small1000 (by decide))
/-- where the source stands: its dict, its list of cells -/
structure PA where
  d : Addr
  l : Addr
instance : Coe PA Addr := ⟨PA.d⟩
structure Pen (H : Hp) (a : PA) (n : Nat) : Prop where
  ex : ∃ (cs : List Int) (t r : Int), H a.d = some (.dK (penD a.l t r)) ∧ H a.l = some (.lst (cs.map V.int)) ∧ cs.length ≤ 63 ∧ 0 ≤ t ∧ t ≤ n ∧ 0 ≤ r
theorem Pen.same {H H' : Hp} {a : PA} {n : Nat} (p : Pen H a n) (s : Same H H') : Pen H' a n := by
  obtain ⟨cs, t, r, h1, h2, h3⟩ := p.ex
  exact ⟨cs, t, r, s _ _ h1, s _ _ h2, h3⟩
theorem Pen.new {H : Hp} {a : PA} {p : Addr} {n : Nat} {o : HO} (q : Pen H a n) (h : H p = none) : Pen (upd H p o) a n := q.same (sm_upd h)
theorem Pen.mono {H : Hp} {a : PA} {n m : Nat} (p : Pen H a n) (h : n ≤ m) : Pen H a m := by
  obtain ⟨cs, t, r, h1, h2, h3, h4, h5, h6⟩ := p.ex
  exact ⟨cs, t, r, h1, h2, h3, h4, by omega, h6⟩
theorem Pen.put {H : Hp} {a l : Addr} {cs : List Int} {t r : Int} {n : Nat} {kvs : List (Key × V)} (ha : H a = some (.dK kvs)) (hl : H l = some (.lst (cs.map V.int))) (h1 : cs.length ≤ 63) (h2 : 0 ≤ t) (h3 : t ≤ n) (h4 : 0 ≤ r) :
    Pen (upd H a (.dK (penD l t r))) ⟨a, l⟩ n :=
  ⟨cs, t, r, upd_same, by show upd H a _ l = _; rw [upd_ne (ne_of hl ha (by intro z; cases z))]; exact hl, h1, h2, h3, h4⟩
/-- an address that was free when the source stood already -/
theorem Pen.over {H H' : Hp} {a : PA} {L : Addr} {n m : Nat} {o : HO} (p0 : Pen H a m) (hL : H L = none) (p : Pen H' a n) : Pen (upd H' L o) a n := by
  obtain ⟨_, _, _, g1, g2, _⟩ := p0.ex
  obtain ⟨cs, t, r, h1, h2, h3⟩ := p.ex
  exact ⟨cs, t, r, by rw [upd_ne (ne_of_none g1 hL)]; exact h1, by rw [upd_ne (ne_of_none g2 hL)]; exact h2, h3⟩
theorem Fr.over {H H' : Hp} {L : Addr} {o : HO} (f : Fr H H') (hL : H L = none) : Fr H (upd H' L o) :=
  ⟨fun b o e n => by rw [upd_ne (ne_of_none e hL)]; exact f.k _ _ e n⟩
/-! ### defs by their names -/
def Df (K : PySem.W.Frag) (mg : Str → Option Value) (x : Str) (st : Stmt) (ps : List Str) : Prop := ∃ f fd, Fun K x x st f fd ∧ mg x = some (.ref f) ∧ Binds K fd ps []
structure Bi (mg : Str → Option Value) : Prop where
  len_ : mg "len" = none
  abs_ : mg "abs" = none
  list_ : mg "list" = none
  range_ : mg "range" = none
  sum_ : mg "sum" = none
  repr_ : mg "repr" = none
  max_ : mg "max" = none
  min_ : mg "min" = none
  reversed_ : mg "reversed" = none
  divmod_ : mg "divmod" = none
  isinstance_ : mg "isinstance" = none
  all_ : mg "all" = none
  int_ : mg "int" = none
  bool_ : mg "bool" = none
  tuple_ : mg "tuple" = none
  sorted_ : mg "sorted" = none
  zip_ : mg "zip" = none
  enumerate_ : mg "enumerate" = none
  set_ : mg "set" = none
  str_ : mg "str" = none
theorem bt_len : bootBuiltins ("len" : Str) = Option.some (Value.builtin "len") := by decide +kernel
theorem bt_abs : bootBuiltins ("abs" : Str) = Option.some (Value.builtin "abs") := by decide +kernel
theorem bt_sum : bootBuiltins ("sum" : Str) = Option.some (Value.builtin "sum") := by decide +kernel
theorem bt_repr : bootBuiltins ("repr" : Str) = Option.some (Value.builtin "repr") := by decide +kernel
theorem bt_max : bootBuiltins ("max" : Str) = Option.some (Value.builtin "max") := by decide +kernel
theorem bt_min : bootBuiltins ("min" : Str) = Option.some (Value.builtin "min") := by decide +kernel
theorem bt_divmod : bootBuiltins ("divmod" : Str) = Option.some (Value.builtin "divmod") := by decide +kernel
theorem bt_isinstance : bootBuiltins ("isinstance" : Str) = Option.some (Value.builtin "isinstance") := by decide +kernel
theorem bt_all : bootBuiltins ("all" : Str) = Option.some (Value.builtin "all") := by decide +kernel
theorem bt_set : bootBuiltins ("set" : Str) = Option.some (Value.type "set") := by decide +kernel
theorem bt_str : bootBuiltins ("str" : Str) = Option.some (Value.type "str") := by decide +kernel
theorem bt_sorted : bootBuiltins ("sorted" : Str) = Option.some (Value.builtin "sorted") := by decide +kernel
theorem bt_list : bootBuiltins ("list" : Str) = Option.some (Value.type "list") := by decide +kernel
theorem bt_int : bootBuiltins ("int" : Str) = Option.some (Value.type "int") := by decide +kernel
theorem bt_bool : bootBuiltins ("bool" : Str) = Option.some (Value.type "bool") := by decide +kernel
theorem bt_tuple : bootBuiltins ("tuple" : Str) = Option.some (Value.type "tuple") := by decide +kernel
section
variable {P : Program} {w : World} {K : PySem.W.Frag} {mg : Str → Option Value} {base : Heap}
theorem cal_of {x : Str} {st : Stmt} {N ps : List Str} {k : Nat} {sp : Sp} (D : Df K mg x st ps) (S : FnScope N ps (defScope st)) (len : ∀ vs H Q E, sp vs H Q E → vs.length = ps.length)
    (hb : ∀ (f : Addr) (cdv : Value) (A : Around) (outer : List Env) (s : Shared) (H : Hp) (vs : List V) (Q : VK) (E : XK), Room k (A.deeper (envOfC x (defScope st) s.heap.objs.size f cdv)) → sp vs H Q E →
      ∃ t, PSs (cxOf CX0 P w K mg base N x (defScope st) f cdv A outer s H E).nox (defBody st) t ∧ t { nx := fun _ H' => Q .non H', rt := Q } (start N vs) H) : C8.Cal P w K mg base (k + 1) x sp [] := by
  obtain ⟨f, fd, F, hm, b⟩ := D
  exact ⟨⟨f, fd, ps, [], F.ok S len (fun cdv A outer s H vs Q E hr h => hb f cdv A outer s H vs Q E hr h), hm, F.kp, b, .nil⟩⟩
/-- the same, its own row known (for calls with keywords) -/
def CalF (P : Program) (w : World) (K : PySem.W.Frag) (mg : Str → Option Value) (base : Heap) (k : Nat) (x : Str) (st : Stmt) (ps : List Str) (sp : Sp) : Prop :=
  ∃ f fd, Fun K x x st f fd ∧ mg x = some (.ref f) ∧ FnOk P w K mg base CX0 k f fd ps sp ∧ Binds K fd ps []
theorem calF_of {x : Str} {st : Stmt} {N ps : List Str} {k : Nat} {sp : Sp} (D : Df K mg x st ps) (S : FnScope N ps (defScope st)) (len : ∀ vs H Q E, sp vs H Q E → vs.length = ps.length)
    (hb : ∀ (f : Addr) (cdv : Value) (A : Around) (outer : List Env) (s : Shared) (H : Hp) (vs : List V) (Q : VK) (E : XK), Room k (A.deeper (envOfC x (defScope st) s.heap.objs.size f cdv)) → sp vs H Q E →
      ∃ t, PSs (cxOf CX0 P w K mg base N x (defScope st) f cdv A outer s H E).nox (defBody st) t ∧ t { nx := fun _ H' => Q .non H', rt := Q } (start N vs) H) : CalF P w K mg base (k + 1) x st ps sp := by
  obtain ⟨f, fd, F, hm, b⟩ := D
  exact ⟨f, fd, F, hm, F.ok S len (fun cdv A outer s H vs Q E hr h => hb f cdv A outer s H vs Q E hr h), b⟩
theorem CalF.cal {x : Str} {st : Stmt} {ps : List Str} {k : Nat} {sp : Sp} (c : CalF P w K mg base k x st ps sp) : C8.Cal P w K mg base k x sp [] := by
  obtain ⟨f, fd, F, hm, G, b⟩ := c
  exact ⟨⟨f, fd, ps, [], G, hm, F.kp, b, .nil⟩⟩
/-! ### _law_pen -/
theorem cut_ints (ns : List Int) : ∃ cs : List Int, cutV (ns.map V.int) none (some 63) = cs.map V.int ∧ cs.length ≤ 63 := by
  refine ⟨ns.take 63, ?_, by rw [List.length_take]; omega⟩
  unfold cutV
  rw [HT.sIx_none, show HT.sIx (ns.map V.int).length (ns.map V.int).length (some 63) = min 63 (ns.map V.int).length from HT.sIx_nat _ _ 63]
  rw [List.drop_zero, Nat.sub_zero, List.map_take, List.length_map]
  by_cases h : 63 ≤ ns.length
  · rw [Nat.min_eq_left h]
  · rw [Nat.min_eq_right (by omega), List.take_of_length_le (by rw [List.length_map]; omega), List.take_of_length_le (by rw [List.length_map]; omega)]
def spPen (K : PySem.W.Frag) : Sp := fun vs H Q _ => ∃ (s : Addr) (ns : List Int), vs = [.ref s] ∧ SqL K H s (ns.map V.int) ∧ ∀ (a : PA) H', Pen H' a 0 → Same H H' → Q (.ref a) H'
end
end Lf
namespace Lf
open PySem PySem.Spec PyProof.Rows L2
/-! ### a try that catches, and keeps the exception in a name -/
abbrev dead : Ends := { nx := fun _ _ => False, rt := fun _ _ => False }
/-- the wish: the clause's class; then the suite; then, with the exception known, what follows -/
def wKeep (K : PySem.W.Frag) (c : Value) (i : Nat) (ts : Addr → TS) (go : Addr → Value → Option Addr → L2.St → Hp → Prop) : WX := fun cls d σ H =>
  PySem.W.exmOne K cls c = some true ∧ ∀ a, H a = none → ts a { nx := fun σ' H' => go a cls d (σ'.set i none) H', rt := fun _ _ => False } (σ.set i (some (.ref a))) H
/-- slots are as many as names -/
theorem takes_len {X : Cx} {W : WX} (t : Takes X W) : Takes X (fun cls d σ H => σ.length = X.N.length → W cls d σ H) := fun u s' ⟨a, B, sI, pins, σ, H, cls, d, e, I, nb, up, sky, na, os, ag, ww⟩ =>
  t u s' ⟨a, B, sI, pins, σ, H, cls, d, e, I, nb, up, sky, na, os, ag, ww I.len⟩
section
variable {X : Cx} {pins : List (Addr × Obj)} {σ : L2.St} {H : Hp} {s : Shared}
/-- an exception's object, known from now on -/
theorem pin_in (J : Inv X pins σ H s) {a : Addr} {oe : Obj} {vs : Array Value} (ge : s.heap.get? a = some oe) (dt : oe.data = .fields vs) (na : H a = none) (n1 : a ≠ X.env.locals) (n2 : a ∉ X.fs) : Inv (X.tr ((a, oe) :: (X.pn ++ pins)) X.xe) [] σ H s := by
  refine ⟨J.ok.toTry _ _, J.os, J.bare, J.base, J.loc, J.cell, J.free, J.freeC, fun p hp => ?_, J.hok, J.len⟩
  rw [List.append_nil] at hp
  rcases List.mem_cons.mp hp with rfl | hp
  · refine ⟨ge, na, n1, n2, fun v z => ?_⟩
    have z : oe.data = .cell v := z
    rw [dt] at z
    cases z
  · exact J.pin p hp
theorem pin_out {a : Addr} {oe : Obj} {pn : List (Addr × Obj)} (ok : X.Ok) (J : Inv (X.tr ((a, oe) :: (X.pn ++ pins)) X.xe) pn σ H s) : Inv X pins σ H s :=
  ⟨ok, J.os, J.bare, J.base, J.loc, J.cell, J.free, J.freeC, fun p hp => J.pin p (List.mem_append.mpr (.inl (List.mem_cons_of_mem _ hp))), J.hok, J.len⟩
theorem out_suite {a : Addr} {oe : Obj} {pn : List (Addr × Obj)} (ok : X.Ok) (J : Inv (X.suite a ((a, oe) :: (X.pn ++ pins))) pn σ H s) : Inv (X.tr ((a, oe) :: (X.pn ++ pins)) X.xe) [] σ H s :=
  ⟨ok.toTry _ _, J.os, J.bare, J.base, J.loc, J.cell, J.free, J.freeC, fun p hp => J.pin p (List.mem_append.mpr (.inl (by rw [List.append_nil] at hp; exact hp))), J.hok, J.len⟩
end
section
variable {X : Cx} {x n : Str} {c : Value} {i : Nat} {body suite rest : List Stmt} {b0 : Stmt} {np po pq : Pos} {tb : WX → TS} {ts : Addr → TS} {tr : Addr → Value → Option Addr → TS}
theorem pss_keep (stk : X.stack = X.env :: X.outer) (fr : X.env.frame = some X.env.locals) (nd : X.N.Nodup) (ni : X.N[i]? = some n) (kn : X.env.kindOf n = some .local) (hc : Names X x c)
    (hb : ∀ (W : WX) (pn : List (Addr × Obj)) (xe : Value → Shared → Prop), Takes (X.tr pn xe) W → PSs (X.tr pn xe) body (tb W))
    (hsu : ∀ (a : Addr) (oe : Obj) (pn : List (Addr × Obj)), PSs (X.suite a ((a, oe) :: pn)) (b0 :: suite) (ts a))
    (hre : ∀ (a : Addr) (oe : Obj) (cls : Value) (d : Option Addr) (pn : List (Addr × Obj)), Zc cls d oe → (∃ vs, oe.data = .fields vs) → PSs (X.tr ((a, oe) :: pn) X.xe) rest (tr a cls d)) :
    PSs X (.Try body [.ExceptHandler (some (.Name x np)) (some n) (b0 :: suite) pq] [] [] po :: rest) (fun D σ H => tb (wKeep X.K c i ts (fun a cls d σ' H' => tr a cls d D σ' H')) dead σ H) := by
  refine ⟨fun pins s σ H D I h => wpAny_execs_cons (wpAny_Try_except ?_)⟩
  have ok := I.ok
  have frm : X.A.frames = some (X.env :: X.outer) := by rw [ok.frames, stk]
  refine wpAny_mono ((hb (wKeep X.K c i ts (fun a cls d σ' H' => tr a cls d D σ' H')) (X.pn ++ pins) _ (fun u s' air => ?_)).run [] s σ H dead (I.toTry _) h) (fun f s1 z => ?_) (fun e s1 he => he)
  · obtain ⟨a, B, sI, pins', σ1, H1, cls, d, rfl, J0, nb, up, sky, na, os, ag, em, go⟩ := air
    have J : Inv X pins σ1 H1 sI := J0.ofTry ok
    rw [stk] at sky
    refine Sky.land Zc.steady frm fr sky fun h3 f3 u3 => ?_
    have J3 : Inv X pins σ1 H1 { s' with heap := h3 } := J.landed nb f3.1 (up.trans u3) os ag
    obtain ⟨o3, v3, g3, z3, d3⟩ := f3.there
    have nf : a ∉ frs (X.env :: X.outer) := fun hm => by
      obtain ⟨_, o', e', hn⟩ := f3.2.2.1.mem hm
      rw [g3] at e'
      cases e'
      exact hn _ d3
    have n1 : a ≠ X.env.locals := fun z => nf (List.mem_filterMap.mpr ⟨X.env, List.mem_cons_self, by rw [fr, z]⟩)
    have n2 : a ∉ X.fs := fun hm => by
      obtain ⟨e, he, q⟩ := List.mem_filterMap.mp hm
      exact nf (List.mem_filterMap.mpr ⟨e, List.mem_cons_of_mem _ he, q⟩)
    have S3 := J3.suite g3 d3 na n1 n2
    refine wpAny_handleBy_cons (codeAny_handlers_test ?_) (by intro q; cases q)
    have lt : PySem.W.Looks (model X.prog X.w) h3 (typeOf (.ref a)) cls := fun A Q E s k q => wpAny_typeOf_ref (k _ _ g3) (by rw [z3.1]; exact q)
    have lm := PySem.W.exm_one (M := model X.prog X.w) J3.kIn lt em
    have seen : ∀ {Q : Value → Shared → Prop} {E : Value → Shared → Prop}, Q c { s' with heap := h3 } → wpAny (model X.prog X.w) (X.A.mark (some (.ref a))) (eval (.Name x np) X.env) Q E { s' with heap := h3 } := fun {Q E} q => by
      obtain ⟨hg, hd, hm | ⟨hm, hv, hw⟩⟩ := hc
      · exact ld_glob S3 hg hm q hd
      · exact ld_blt S3 hg hm hv q hw hd
    refine seen (lm.here (codeAny_handlers_suite_as (HandSPX.lands_againZ f3 fun h4 f4 u4 => ?_)))
    have J4 : Inv X pins σ1 H1 { s' with heap := h4 } := J.landed nb f4.1 ((up.trans u3).trans u4) os ag
    obtain ⟨o4, v4, g4, z4, d4⟩ := f4.there
    have S4 := J4.suite g4 d4 na n1 n2
    refine store_ok (X := X.suite a ((a, o4) :: (X.pn ++ pins))) (v := .ref a) S4 nd ni (.inl kn) rfl (fun s5 S5 => ?_) (.inr kn)
    refine wpAny_mono ((hsu a o4 (X.pn ++ pins)).run [] s5 _ H1 _ S5 (go a na)) (fun f s6 q => ?_) (fun _ _ z => False.elim z)
    cases f with
    | next =>
      obtain ⟨σ6, H6, S6, q6⟩ := q
      refine gone_ok (X := X.tr ((a, o4) :: (X.pn ++ pins)) X.xe) (out_suite ok S6) nd ni kn fun s7 J7 => ?_
      refine wpAny_mono ((hre a o4 cls d (X.pn ++ pins) z4 ⟨_, d4⟩).run [] s7 _ H6 D J7 q6) (fun f s8 r => ?_) (fun _ _ z => z)
      cases f with
      | next =>
        obtain ⟨σ8, H8, J8, q8⟩ := r
        exact ⟨σ8, H8, pin_out ok J8, q8⟩
      | brk =>
        obtain ⟨σ8, H8, J8, q8⟩ := r
        exact ⟨σ8, H8, pin_out ok J8, q8⟩
      | cont =>
        obtain ⟨σ8, H8, J8, q8⟩ := r
        exact ⟨σ8, H8, pin_out ok J8, q8⟩
      | ret u =>
        obtain ⟨v8, σ8, H8, J8, r8, q8⟩ := r
        exact ⟨v8, σ8, H8, pin_out ok J8, r8, q8⟩
    | brk =>
      obtain ⟨_, _, _, q6⟩ := q
      exact False.elim q6
    | cont =>
      obtain ⟨_, _, _, q6⟩ := q
      exact False.elim q6
    | ret u =>
      obtain ⟨_, _, _, _, _, q6⟩ := q
      exact False.elim q6
  · cases f with
    | next =>
      obtain ⟨_, _, _, q6⟩ := z
      exact False.elim q6
    | brk =>
      obtain ⟨_, _, _, q6⟩ := z
      exact False.elim q6
    | cont =>
      obtain ⟨_, _, _, q6⟩ := z
      exact False.elim q6
    | ret u =>
      obtain ⟨_, _, _, _, _, q6⟩ := z
      exact False.elim q6
end
/-! ### isinstance of a known exception -/
/-- by one class, or by a tuple of classes -/
def rIsK (K : PySem.W.Frag) (D a : Addr) : List V → Hp → VK → Prop := fun xs H Q => ∃ (y : V) (b : Bool), xs = [.ref a, y] ∧ Q (.bl b) H ∧
  ((∃ cv, (∀ u, RelV y u → u = cv) ∧ PySem.W.kitOne K (.ref D) cv = some b) ∨ ∃ (tp : Addr) (cs : List Addr), y = .ref tp ∧ SqT K H tp (cs.map V.ref) ∧ PySem.W.kitAny K (.ref D) (cs.map Value.ref) = some b)
theorem vals_refs : ∀ {cs : List Addr} {us : List Value}, Vals (cs.map V.ref) us → us = cs.map Value.ref
  | [], _, r => by cases r; rfl
  | c :: cs, _, r => by
    cases r with
    | cons r1 r2 =>
      rw [vals_refs r2]
      cases r1
      rfl
theorem call_isK {X : Cx} {a D : Addr} {oe : Obj} {pn : List (Addr × Obj)} {xe : Value → Shared → Prop} (C : ExcC X.K D) (hz : Zc (.ref D) none oe) (hf : ∃ vs, oe.data = .fields vs) : CallR (X.tr ((a, oe) :: pn) xe) (.builtin "isinstance") (rIsK X.K D a) := by
  intro pins s σ H xs us Q I r h
  obtain ⟨y, b, rfl, q, h⟩ := h
  cases r with
  | cons rx rr =>
    cases rr with
    | cons rt rr =>
      cases rr
      cases rx
      obtain ⟨ge, _⟩ := I.pin (a, oe) (List.mem_append.mpr (.inl List.mem_cons_self))
      obtain ⟨vs, hv⟩ := hf
      have J : PySem.W.InstAt s.heap a oe D none := by
        obtain ⟨oc, od, oda, osl⟩ := oe
        obtain ⟨h1, h2⟩ := hz
        dsimp only at h1 h2 hv
        subst h1 h2 hv
        exact ⟨ge, rfl, rfl, trivial⟩
      have kx := PySem.W.handS_kitx_exc (x := a) (ox := oe) C.hg C.hk C.hs C.hd C.ha C.hn C.ht C.hm
      rcases h with ⟨cv, hcv, e⟩ | ⟨tp, cs, rfl, hT, e⟩
      · have ec := hcv _ rt
        subst ec
        exact PySem.W.kia_one kx I.kIn J e (fun z => nomatch z) fun tk => ⟨.bl b, H, I.kept (t' := tk) fun _ _ z => z, rfl, q⟩
      · obtain ⟨its, rv, ⟨o, e1, e2, nn, e3⟩, _⟩ := I.tuple hT
        have ei := vals_refs rv
        subst ei
        cases rt
        obtain ⟨oc, od, oda, osl⟩ := o
        dsimp only at e2 e3
        subst e2 e3
        exact PySem.W.kia_tup kx I.kIn J e1 e (fun z => nomatch z) fun tk => ⟨.bl b, H, I.kept (t' := tk) fun _ _ z => z, rfl, q⟩
/-! ### an own exception without arguments, made -/
theorem pmk_none {X : Cx} {C : Addr} {bmB : List Value} {B newId initId : String} {x : Str} {p po : Pos} (F : ExcBaseFacts B newId initId bmB) (q : PySem.W.excIn X.K C bmB newId = true) (gC : X.mg x = some (.ref C)) (kC : PySem.W.keepIn X.K (.ref C) = true) (r : Raises X (.ref C)) (hg : Gl X x)
    (hdb : (x == ("__debug__" : Str)) = false := by decide) : PMk X (.Call (.Name x p) [] [] po) (fun _ H Q => Q (.ref C) none H) := by
  intro pins s σ H Q I h
  refine wpAny_Call_Name_kw (ld_glob I hg gC ?_ hdb)
  refine PySem.W.callWith_K0 I.kIn kC ?_
  show wpAny _ _ (call (.ref C) []) _ _ _
  obtain ⟨bm, N, nm, qn, bs, hdct, sn, sub, ab, col, dd, k0, k1, k2, k3, k5, mN, hC, hN, hni, T⟩ := exc_obj I.kIn q
  refine wpAny_call_exc_subT F T hC hN hni (fun h' e hm => ?_) (by show 0 ≤ sizeLine; omega)
  exact mk_of I hm r h (I.hok.gone hm.new)
/-! ### what the top tells of the class NoEvents, at C, and of the classes beside it -/
structure NoEv (K : PySem.W.Frag) (mg : Str → Option Value) (C : Addr) : Prop where
  gC : mg "NoEvents" = some (.ref C)
  kC : PySem.W.keepIn K (.ref C) = true
  xi : PySem.W.excIn K C [.type "ValueError", .type "Exception", .type "BaseException", .type "object"] "ValueError.__new__" = true
  ex : ExcC K C
  ty : PySem.W.typeIn K (.ref C) = some (.type "type")
  sf : PySem.W.subIn K (.ref C) (.ref C) = some true
structure NoEvB (K : PySem.W.Frag) (mg : Str → Option Value) (C L N R E I : Addr) : Prop where
  gL : mg "LeapfitError" = some (.ref L)
  gN : mg "InvalidNumber" = some (.ref N)
  gR : mg "InvalidRule" = some (.ref R)
  gE : mg "NoRule" = some (.ref E)
  gI : mg "InvalidCounts" = some (.ref I)
  bV : mg "ValueError" = none
  oL : PySem.W.kitOne K (.ref C) (.ref L) = some true
  oV : PySem.W.kitOne K (.ref C) (.type "ValueError") = some true
  oN : PySem.W.kitAny K (.ref C) [.ref N, .ref R, .ref E, .ref I] = some false
theorem NoEv.raises {X : Cx} {C : Addr} (T : NoEv X.K X.mg C) : Raises X (.ref C) := raises_own T.ex.hs T.ty
theorem NoEv.meets {K : PySem.W.Frag} {mg : Str → Option Value} {C : Addr} (T : NoEv K mg C) : PySem.W.exmOne K (.ref C) (.ref C) = some true := PySem.W.exm_ref T.ex.hs T.ex.hd T.ty T.sf
/-- a def that raises, by its name -/
def CalX (P : Program) (w : World) (K : PySem.W.Frag) (mg : Str → Option Value) (base : Heap) (k : Nat) (x : Str) (sp : Sp) : Prop :=
  ∃ f fd ps, FnOk P w K mg base (L2.CX P w) k f fd ps sp ∧ mg x = some (.ref f) ∧ PySem.W.keepIn K (.ref f) = true ∧ Binds K fd ps []
theorem calx_of {P : Program} {w : World} {K : PySem.W.Frag} {mg : Str → Option Value} {base : Heap} {x : Str} {st : Stmt} {N ps : List Str} {k : Nat} {sp : Sp} (D : Df K mg x st ps) (S : FnScope N ps (defScope st)) (len : ∀ vs H Q E, sp vs H Q E → vs.length = ps.length)
    (hb : ∀ (f : Addr) (cdv : Value) (A : Around) (outer : List Env) (s : Shared) (H : Hp) (vs : List V) (Q : VK) (E : XK), Room k (A.deeper (envOfC x (defScope st) s.heap.objs.size f cdv)) → sp vs H Q E →
      ∃ t, PSs (cxOf (L2.CX P w) P w K mg base N x (defScope st) f cdv A outer s H E) (defBody st) t ∧ t { nx := fun _ H' => Q .non H', rt := Q } (start N vs) H) : CalX P w K mg base (k + 1) x sp := by
  obtain ⟨f, fd, F, hm, b⟩ := D
  exact ⟨f, fd, ps, F.okX S len (fun cdv A outer s H vs Q E hr h => hb f cdv A outer s H vs Q E hr h), hm, F.kp, b⟩
section
variable {X : Cx} {x : Str} {sp : Sp} {W : WX} {j k : Nat} {e : Expr} {es : List Expr} {t : TA} {p po : Pos}
/-- it is called where what it raises is taken -/
theorem pe_cx (c : CalX X.prog X.w X.K X.mg X.base k x sp) (hr : Room j X.A) (hk : k ≤ j) (tk : Takes X W) (hg : Gl X x) (ha : L2.PA X (e :: es) t)
    (hdb : (x == ("__debug__" : Str)) = false := by decide) (he : starEach (e :: es) X.env = (false, eval e X.env) :: starEach es X.env := by rfl) (hpl : (backTo po (starEach es X.env)).any (·.1) = false := by rfl) :
    PE X (.Call (.Name x p) (e :: es) [] po) (tCallS sp (WE W) t) := by
  obtain ⟨f, fd, ps, F, hm, kp, b⟩ := c
  exact pe_callS F (hr.mono hk) hg hm kp b (fun σ => passAt tk σ) ha hdb he hpl
end
end Lf
namespace Lf
open PySem PySem.Spec PyProof.Rows L2
/-! ### a def called where no repr is under way -/
structure FnG (P : Program) (w : World) (K : PySem.W.Frag) (mg : Str → Option Value) (base : Heap) (k : Nat) (f : Addr) (fd : FuncData) (ps : List Str) (sp : Sp) : Prop where
  lenG : ∀ vs H Q E, sp vs H Q E → vs.length = ps.length
  runG : ∀ (A : Around) (out : List Env) (sh : Shared) (H : Hp) (ar : Args) (us : List Value) (vs : List V) (Q : VK) (E : XK), Room k A → A.guards = some [] → Env0 P w K mg base A out sh H → BindsTo sh fd ar (ps.zip us) → Vals vs us → sp vs H Q E →
    codeAny (model P w) A (.call (.ref f) ar) (CR CX0 out P w H sh Q E) sh
theorem fnG_of {P : Program} {w : World} {K : PySem.W.Frag} {mg : Str → Option Value} {base : Heap} {x qual : Str} {st : Stmt} {f : Addr} {fd : FuncData} {N ps : List Str} {k : Nat} {sp : Sp} (F : Fun K x qual st f fd) (S : FnScope N ps (defScope st)) (ln : ∀ vs H Q E, sp vs H Q E → vs.length = ps.length)
    (bd : ∀ (cdv : Value) (A : Around) (out : List Env) (sh : Shared) (H : Hp) (vs : List V) (Q : VK) (E : XK), Room k (A.deeper (envOfC qual (defScope st) sh.heap.objs.size f cdv)) → A.guards = some [] → sp vs H Q E →
      ∃ t, PSs (cxOf CX0 P w K mg base N qual (defScope st) f cdv A out sh H E).nox (defBody st) t ∧ t { nx := fun _ H' => Q .non H', rt := Q } (start N vs) H) : FnG P w K mg base (k + 1) f fd ps sp := by
  obtain ⟨oc, od, kV, doc, pm, an, cdv, ct, osl, rfl, lkp, cin⟩ := F.ex
  refine ⟨ln, fun A out sh H ar us vs Q E rm gd en bnd rel pr => ?_⟩
  have lv := ln _ _ _ _ pr
  have inK : K.In sh.heap := en.mod.kin.keeps fun b o e => (en.bs b o e).1
  have nol : sh.heap.NoLimit := en.mod.nolimit.keeps fun b o e => (en.bs b o e).1
  have knd : ∀ y ∈ ps.zip us, (defScope st).names.lookup y.1 = some .local ∨ ((defScope st).names.lookup y.1 = some .cell ∧ ((cellsFrom (sh.heap.objs.size + 1) (defScope st).names []).lookup y.1).isSome = true) := fun ⟨n, v⟩ hy => by
    rcases S.par n (List.of_mem_zip hy).1 with z | z
    · exact .inl z
    · exact .inr ⟨z, PySem.W.cellsFrom_some _ _ _ (.inl z)⟩
  refine codeAny_call_function rm.depth (inK _ _ lkp) rfl S.co S.gen rfl (PySem.W.codeRec_of inK cin) (bnd _ _ _ _ ?_)
  refine wpAny_newFunctionEnv_cells S.kind knd fun env he sh1 x1 => ?_
  subst he
  refine ⟨nol.keeps x1.toInCall.keep, codeAny_func ?_⟩
  obtain ⟨t, ht, hq⟩ := bd cdv A out sh H vs Q E (rm.deeper _) gd pr
  have inv := inv_start (CX := CX0) (P := P) (w := w) (K := K) (mg := mg) (base := base) (E := E) (f := f) (cd := cdv) (qual := qual) S rm.hd en lv rel x1
  refine wpAny_mono (ht.nox.run [] sh1 (start N vs) H _ inv hq) (fun fl sh' hs => ?_) fun e sh' hs => hs
  cases fl with
  | ret u =>
    obtain ⟨v, σ', H', J, rv, z⟩ := hs
    exact ⟨v, H', J.os, J.bare, J.base, J.hok, rv, z⟩
  | next =>
    obtain ⟨σ', H', J, z⟩ := hs
    exact ⟨V.non, H', J.os, J.bare, J.base, J.hok, rfl, z⟩
  | brk =>
    obtain ⟨_, _, _, z⟩ := hs
    exact False.elim z
  | cont =>
    obtain ⟨_, _, _, z⟩ := hs
    exact False.elim z
/-- the law called, at the heap behind the top -/
theorem lawG {P : Program} {w : World} {K : PySem.W.Frag} {mg mb : Str → Option Value} {k : Nat} {fa ad : Addr} {fd : FuncData} {x : Str} {sp : Sp} {sh : Shared} {vs : List Value} {ns : List Int}
    (inK : K.In sh.heap) (nsm : sh.heap.Ns mainGlobals mg) (nsb : sh.heap.Ns builtinsNs mb) (bb : ∀ x : Str, x ≠ "__name__" → mb x = bootBuiltins x) (nol : sh.heap.NoLimit) (gn : sh.gens = #[])
    (ga : sh.heap.get? ad = some { cls := .type "list", data := .seq vs.toArray }) (isI : IntsAre vs ns) (len : ns.length ≤ sizeLine) (rm : Room k callerA)
    (F : ∀ base : Heap, K.In base → base.Ns mainGlobals mg → FnG P w K mg base k fa fd [x] sp) (bnd : ∀ (s : Shared) (u : Value), BindsTo s fd ⟨[u], []⟩ [(x, u)])
    (pr : ∀ H : Hp, SqL K H ad (ns.map V.int) → sp [.ref ad] H (fun v _ => v = .bl true) fun _ _ _ => False) :
    codeAny (model P w) callerA (.call (.ref fa) ⟨[.ref ad], []⟩) (fun r sh' => r = .ok (.ret (.bool true)) ∧ OldK sh.heap sh'.heap ∧ sh'.os = sh.os ∧ AllBare sh'.gens) sh := by
  have rel := vals_ints isI
  have lnv := isI.length
  have main : ∀ H : Hp, Only H → SqL K H ad (ns.map V.int) → HOk P w H sh.heap → (∀ b, H b ≠ none → b = ad) → (H ad ≠ none → K.lookup ad = none) →
      codeAny (model P w) callerA (.call (.ref fa) ⟨[.ref ad], []⟩) (fun r sh' => r = .ok (.ret (.bool true)) ∧ OldK sh.heap sh'.heap ∧ sh'.os = sh.os ∧ AllBare sh'.gens) sh := by
    intro H only seq hok one nk
    have lay : ∀ {b : Addr} {o : Obj}, sh.heap.get? b = some o → H b = none → (hidT sh.heap H).get? b = some o := fun e n => hidT_get e n
    have nod : ∀ {b : Addr} {o : Obj} {es : Array DictEntry} {ep : Nat}, sh.heap.get? b = some o → o.data = .dict es ep → H b = none := fun {b o es ep} e d => by
      cases z : H b with
      | none => rfl
      | some u =>
        have eb : b = ad := one b (by rw [z]; simp)
        subst eb
        rw [ga] at e
        cases e
        exact (nomatch (show Data.seq vs.toArray _ = Data.dict es ep from d))
    have nsL : ∀ {b : Addr} {m : Str → Option Value}, sh.heap.Ns b m → (hidT sh.heap H).Ns b m := fun {b m} ⟨o, es, ep, e, d, r⟩ => ⟨o, es, ep, lay e (nod e d), d, r⟩
    have inB : K.In (hidT sh.heap H) := fun b o e => lay (inK b o e) (by
      cases z : H b with
      | none => rfl
      | some u =>
        have eb : b = ad := one b (by rw [z]; simp)
        subst eb
        rw [nk (by rw [z]; simp)] at e
        cases e)
    have md : Mod K mg (hidT sh.heap H) := ⟨inB, nsL nsm, ⟨mb, nsL nsb, bb⟩, let ⟨mc, h1, h2⟩ := nol; ⟨mc, nsL h1, h2⟩⟩
    have en : Env0 P w K mg (hidT sh.heap H) callerA [] sh H := ⟨rfl, md, fun b o e => of_hidT e, Nat.le_of_eq (hidT_size _ _), trivial, fun b hb => absurd (show b ∈ ([] : List Addr) from hb) (by simp), hok, .of_eq gn⟩
    refine codeAny_mono ((F _ inB (nsL nsm)).runG callerA [] sh H ⟨[.ref ad], []⟩ [.ref ad] [.ref ad] _ _ rm rfl en (bnd sh (.ref ad)) (.cons rfl .nil) (pr H seq)) fun r sh' h => ?_
    match r, h with
    | .error e, h => exact (show False from h).elim
    | .ok .next, h => exact False.elim h
    | .ok .brk, h => exact False.elim h
    | .ok .cont, h => exact False.elim h
    | .ok (.ret u), h =>
      obtain ⟨v, H', os, bare, un, hok', rv, z⟩ := h
      have z' : v = .bl true := z
      subst z'
      have eu : u = Value.bool true := rv
      subst eu
      refine ⟨rfl, OldK.of_keep (fun b o e => ?_), os, bare⟩
      cases zb : H b with
      | none => exact un.keep b o e zb (fun z => absurd (show b ∈ ([] : List Addr) from z) (by simp)) (by simp)
      | some u =>
        rcases only b with z | ⟨ob, xs, z⟩
        · rw [zb] at z
          cases z
        · have e1 := (hok b _ z).1
          have e2 := (hok' b _ (un.frzs b ob _ z)).1
          rw [e] at e1
          cases e1
          exact e2
  cases hk : K.lookup ad with
  | some o =>
    have e := inK ad o hk
    rw [ga] at e
    cases e
    exact main (fun _ => none) (fun _ => .inl rfl) (.inr ⟨_, vs.toArray, _, hk, rfl, rfl, rfl, by rw [List.size_toArray, lnv]; exact len, by simpa using rel⟩) (fun b u z => nomatch (show (none : Option HO) = some u from z)) (fun b z => absurd rfl z) (fun z => absurd rfl z)
  | none =>
    refine main (fun b => if b = ad then some (.frz { cls := .type "list", data := .seq vs.toArray } (.lst (ns.map V.int))) else none) (fun b => ?_) (.inl (.inr ⟨{ cls := .type "list", data := .seq vs.toArray }, if_pos rfl⟩)) (fun b u z => ?_) (fun b z => ?_) (fun _ => hk)
    · by_cases eb : b = ad
      · exact .inr ⟨_, _, if_pos eb⟩
      · exact .inl (if_neg eb)
    · by_cases eb : b = ad
      · subst eb
        have z' := (if_pos rfl).symm.trans z
        cases z'
        exact ⟨ga, by rw [List.length_map]; exact len, vs, _, rel, ga⟩
      · exact (nomatch (if_neg eb).symm.trans z)
    · by_cases eb : b = ad
      · exact eb
      · exact absurd (if_neg eb) z
theorem walkG {l : PySem.W.OpenLaw} {n k : Nat} {q : Program} {loose : List Str} {XP : (Str → Option Value) → Heap → Prop} {YP : World → Heap → Prop} {d : DefRec} {K : Params → PySem.W.Frag} {sp : World → Sp} {x : Str}
    (most : l.most = some n) (nsz : n ≤ sizeLine) (nodf : d.params.defaults = []) (rm : Room k callerA) (inY : ∀ (w : World) (h : Heap), YP w h → (K w.params).In h)
    (F : ∀ (w : World) (mg : Str → Option Value) (fa : Addr) (h : Heap), (K w.params).In h → h.Ns mainGlobals mg → mg d.name = some (.ref fa) → ∃ fd : FuncData, (∀ (s : Shared) (u : Value), BindsTo s fd ⟨[u], []⟩ [(x, u)]) ∧ ∀ base : Heap, (K w.params).In base → base.Ns mainGlobals mg → FnG l.prog w (K w.params) mg base k fa fd [x] (sp w))
    (pr : ∀ (w : World) (H : Hp) (a : Addr) (ns : List Int), ns.length ≤ n → SqL (K w.params) H a (ns.map V.int) → sp w [.ref a] H (fun v _ => v = .bl true) fun _ _ _ => False) : PySem.W.WalkO q loose XP YP l.row.toRowW d [] (fun f vs => PySem.call f vs) := by
  refine Att.attach_call most nodf fun w s₀ sh mg mb fa o pm cd doc a vs ns G Y ho hd hcd hmg hobj hints hlen hg => ?_
  have inK := inY w _ Y
  obtain ⟨fd, hb, hF⟩ := F w mg fa _ inK G.T.g hmg
  exact lawG inK G.T.g G.T.b G.T.builtins G.T.nolimit hg hobj hints (Nat.le_trans hlen nsz) rm hF hb (fun H hS => pr w H a ns hlen hS)
/-! ### repr of data -/
theorem repr_data {X : Cx} (gd : X.A.guards = some []) (hu : X.A.units + 70 < cLine) : CallR X (.builtin "repr") (fun xs H Q => ∃ (a : Addr) (d : PyData), xs = [.ref a] ∧ Dp X.K H (.ref a) d ∧ d.showable = true ∧ d.hasDict = false ∧ d.depth ≤ 60 ∧ d.shown.length ≤ sizeLine ∧ Q (.str d.shown) H) := by
  intro pins s σ H xs us Q I rel h
  obtain ⟨a, d, rfl, dp, sw, nd, dd, sz, hq⟩ := h
  obtain ⟨u, hu1, ru⟩ := vals1 rel
  subst hu1
  obtain ⟨as, rd⟩ := Dp.reads I d (.ref a) u dp ru
  have eu : u = Value.ref a := ru
  subst eu
  refine repr_of_reads' rd sw (fun z => by rw [nd] at z; cases z) gd (by omega) (fun _ _ e => e) (fun h' u tk hk => ?_) sz
  exact ⟨.str d.shown, H, I.kept hk, ⟨u, rfl⟩, hq⟩
theorem show_fits (ds : List Int) (hb : ∀ z ∈ ds, Bd 1900 z) (hl : ds.length ≤ 100) : (PyData.tuple (ds.map PyData.int)).showable = true ∧ (PyData.tuple (ds.map PyData.int)).hasDict = false ∧ (PyData.tuple (ds.map PyData.int)).depth ≤ 60 ∧ (PyData.tuple (ds.map PyData.int)).shown.length ≤ sizeLine := by
  have lg : ∀ z ∈ ds, z.natAbs.log2 < 1920 := fun z hz => ((hb z hz).mono (show 1900 ≤ 1920 by decide)).log (by decide)
  have key : ∀ l : List Int, (∀ z ∈ l, z.natAbs.log2 < 1920) → PyData.showableAll (l.map PyData.int) = true ∧ PyData.hasDictAll (l.map PyData.int) = false ∧ PyData.depthAll (l.map PyData.int) = 0 ∧ ((PyData.shownAll (l.map PyData.int)).map (·.length)).sum ≤ 1921 * l.length ∧ (PyData.shownAll (l.map PyData.int)).length = l.length := by
    intro l
    induction l with
    | nil => intro _; exact ⟨rfl, rfl, rfl, by simp [PyData.shownAll], rfl⟩
    | cons z r ih =>
      intro h
      obtain ⟨i1, i2, i3, i4, i5⟩ := ih fun y hy => h y (List.mem_cons_of_mem _ hy)
      have hz := h z (List.mem_cons_self ..)
      refine ⟨?_, ?_, ?_, ?_, ?_⟩
      · simp [PyData.showableAll, PyData.showable, hz, i1]
      · simp [PyData.hasDictAll, PyData.hasDict, i2]
      · simp [PyData.depthAll, PyData.depth, i3]
      · have := PyProof.Rows.int_text_len_1921 hz
        simp only [List.map_cons, PyData.shownAll, PyData.shown, List.sum_cons, List.length_cons]
        omega
      · simp [PyData.shownAll, i5]
  obtain ⟨k1, k2, k3, k4, k5⟩ := key ds lg
  refine ⟨by simpa [PyData.showable] using k1, by simpa [PyData.hasDict] using k2, by simp [PyData.depth, k3], ?_⟩
  have := tupleText_len_le (PyData.shownAll (ds.map PyData.int))
  rw [k5] at this
  show (tupleText (PyData.shownAll (ds.map PyData.int))).length ≤ sizeLine
  rw [sizeLine_eq]
  omega
theorem dpAll_ints {K : PySem.W.Frag} {H : Hp} : ∀ ds : List Int, DpAll K H (ds.map V.int) (ds.map PyData.int)
  | [] => .nil
  | c :: r => .cons (.int c) (dpAll_ints r)
/-- repr of a tuple of ints -/
theorem rp_ints {K : PySem.W.Frag} {H : Hp} {a : Addr} {Q : VK} (ds : List Int) (e : H a = some (.tup (ds.map V.int))) (hb : ∀ z ∈ ds, Bd 1900 z) (hl : ds.length ≤ 100) (h : Q (.str (PyData.tuple (ds.map PyData.int)).shown) H) :
    ∃ (a' : Addr) (d : PyData), [V.ref a] = [.ref a'] ∧ Dp K H (.ref a') d ∧ d.showable = true ∧ d.hasDict = false ∧ d.depth ≤ 60 ∧ d.shown.length ≤ sizeLine ∧ Q (.str d.shown) H := by
  obtain ⟨f1, f2, f3, f4⟩ := show_fits ds hb hl
  exact ⟨a, _, rfl, Dp.tup (SqT.of e) (dpAll_ints ds), f1, f2, f3, f4, h⟩
end Lf
namespace Lf
open PySem PySem.Spec PyProof.Rows L2
/-! ### guards and a table of code objects together -/
theorem lawGT {P : Program} {w : World} {K : PySem.W.Frag} {mg mb : Str → Option Value} {k : Nat} {fa ad cT PT : Addr} {fd : FuncData} {x : Str} {sp : Sp} {sh : Shared} {vs : List Value} {ns : List Int}
    (inK : K.In sh.heap) (nsm : sh.heap.Ns mainGlobals mg) (nsb : sh.heap.Ns builtinsNs mb) (bb : ∀ x : Str, x ≠ "__name__" → mb x = bootBuiltins x) (nol : sh.heap.NoLimit) (gn : sh.gens = #[])
    (tP : sh.heap.get? PT = some { cls := .none, data := .fields #[] }) (nP : K.lookup PT = none) (hC : PySem.W.CodeHd sh.heap cT PT)
    (bM : ∃ (bm : Addr) (ob : Obj), mg "__builtins__" = some (.ref bm) ∧ bm ≠ builtinsNs ∧ sh.heap.get? bm = some ob ∧ ob.cls = .type "module" ∧ ob.dict = some builtinsNs ∧ ob.data = .plain)
    (ga : sh.heap.get? ad = some { cls := .type "list", data := .seq vs.toArray }) (isI : IntsAre vs ns) (len : ns.length ≤ sizeLine) (rm : Room k callerA)
    (F : ∀ base : Heap, K.In base → base.Ns mainGlobals mg → LamX.TabB base mg cT PT → FnG P w K mg base k fa fd [x] sp) (bnd : ∀ (s : Shared) (u : Value), BindsTo s fd ⟨[u], []⟩ [(x, u)])
    (pr : ∀ H : Hp, H PT = some (.tbl #[]) → SqL K H ad (ns.map V.int) → sp [.ref ad] H (fun v _ => v = .bl true) fun _ _ _ => False) :
    codeAny (model P w) callerA (.call (.ref fa) ⟨[.ref ad], []⟩) (fun r sh' => r = .ok (.ret (.bool true)) ∧ OldK sh.heap sh'.heap ∧ sh'.os = sh.os ∧ AllBare sh'.gens) sh := by
  have rel := vals_ints isI
  have lnv := isI.length
  have nab : ¬ ad = PT := fun z => by
    rw [z, tP] at ga
    cases ga
  have main : ∀ H : Hp, H PT = some (.tbl #[]) → (∀ b, H b = none ∨ b = PT ∨ ∃ o xs, H b = some (.frz o (.lst xs))) → SqL K H ad (ns.map V.int) → HOk P w H sh.heap → (∀ b, H b ≠ none → b = ad ∨ b = PT) → (H ad ≠ none → K.lookup ad = none) →
      codeAny (model P w) callerA (.call (.ref fa) ⟨[.ref ad], []⟩) (fun r sh' => r = .ok (.ret (.bool true)) ∧ OldK sh.heap sh'.heap ∧ sh'.os = sh.os ∧ AllBare sh'.gens) sh := by
    intro H hT only seq hok one nk
    have lay : ∀ {b : Addr} {o : Obj}, sh.heap.get? b = some o → H b = none → (hidT sh.heap H).get? b = some o := fun e n => hidT_get e n
    -- what is no list and no empty record is not tracked
    have off : ∀ {b : Addr} {o : Obj}, sh.heap.get? b = some o → (∀ zs m, o.data ≠ .seq zs m) → o.data ≠ .fields #[] → H b = none := fun {b o} e n1 n2 => by
      cases z : H b with
      | none => rfl
      | some u =>
        rcases one b (by rw [z]; simp) with eb | eb
        · rw [eb, ga] at e
          cases e
          exact absurd rfl (n1 _ _)
        · rw [eb, tP] at e
          cases e
          exact absurd rfl n2
    have nsL : ∀ {b : Addr} {m : Str → Option Value}, sh.heap.Ns b m → (hidT sh.heap H).Ns b m := fun {b m} ⟨o, es, ep, e, d, r⟩ =>
      ⟨o, es, ep, lay e (off e (fun zs m z => by rw [d] at z; cases z) (fun z => by rw [d] at z; cases z)), d, r⟩
    have inB : K.In (hidT sh.heap H) := fun b o e => lay (inK b o e) (by
      cases z : H b with
      | none => rfl
      | some u =>
        rcases one b (by rw [z]; simp) with eb | eb
        · subst eb
          rw [nk (by rw [z]; simp)] at e
          cases e
        · rw [eb, nP] at e
          cases e)
    have md : Mod K mg (hidT sh.heap H) := ⟨inB, nsL nsm, ⟨mb, nsL nsb, bb⟩, let ⟨mc, h1, h2⟩ := nol; ⟨mc, nsL h1, h2⟩⟩
    have gP : ¬ mainGlobals = PT := fun z => by
      obtain ⟨o, es, ep, e, d, _⟩ := nsm
      rw [z, tP] at e
      cases e
      cases d
    have tb : LamX.TabB (hidT sh.heap H) mg cT PT := by
      refine ⟨?_, ?_, gP⟩
      · obtain ⟨o, us, fi, tf, fl, tg, iF, tx, tt, e1, r1, r2, r3, rr⟩ := hC
        refine ⟨o, us, fi, tf, fl, tg, iF, tx, tt, lay e1 (off e1 (fun zs m z => by rw [r2] at z; cases z) (fun z => ?_)), r1, r2, r3, rr⟩
        rw [r2] at z
        cases z
        simp at r3
      · obtain ⟨bm, ob, b1, b2, b3, b4, b5, b6⟩ := bM
        refine ⟨bm, ob, b1, b2, fun z => ?_, fun z => ?_, lay b3 (off b3 (fun zs m z => by rw [b6] at z; cases z) (fun z => by rw [b6] at z; cases z)), b4, b5, b6⟩
        · obtain ⟨o, es, ep, e, d, _⟩ := nsm
          rw [z, e] at b3
          cases b3
          rw [d] at b6
          cases b6
        · rw [z, tP] at b3
          cases b3
          cases b6
    have en : Env0 P w K mg (hidT sh.heap H) callerA [] sh H := ⟨rfl, md, fun b o e => of_hidT e, Nat.le_of_eq (hidT_size _ _), trivial, fun b hb => absurd (show b ∈ ([] : List Addr) from hb) (by simp), hok, .of_eq gn⟩
    refine codeAny_mono ((F _ inB (nsL nsm) tb).runG callerA [] sh H ⟨[.ref ad], []⟩ [.ref ad] [.ref ad] _ _ rm rfl en (bnd sh (.ref ad)) (.cons rfl .nil) (pr H hT seq)) fun r sh' h => ?_
    match r, h with
    | .error e, h => exact (show False from h).elim
    | .ok .next, h => exact False.elim h
    | .ok .brk, h => exact False.elim h
    | .ok .cont, h => exact False.elim h
    | .ok (.ret u), h =>
      obtain ⟨v, H', os, bare, un, hok', rv, z⟩ := h
      have z' : v = .bl true := z
      subst z'
      have eu : u = Value.bool true := rv
      subst eu
      have old : ∀ b o, ¬ b = PT → sh.heap.get? b = some o → sh'.heap.get? b = some o := fun b o nb e => by
        cases zb : H b with
        | none => exact un.keep b o e zb (fun z => absurd (show b ∈ ([] : List Addr) from z) (by simp)) (by simp)
        | some u =>
          rcases only b with z | z | ⟨ob, xs, z⟩
          · rw [zb] at z
            cases z
          · exact absurd z nb
          · have e1 := (hok b _ z).1
            have e2 := (hok' b _ (un.frzs b ob _ z)).1
            rw [e] at e1
            cases e1
            exact e2
      obtain ⟨more, zm⟩ := un.tbls PT #[] hT
      have grown : sh'.heap.get? PT = some { cls := .none, data := .fields (#[] ++ more) } := hok' PT _ zm
      refine ⟨rfl, ⟨fun b o e => ?_, fun b o e => ?_⟩, os, bare⟩
      · by_cases hb : b = PT
        · rw [hb] at e ⊢
          rw [tP] at e
          cases e
          exact .inr (.inl ⟨(hC.tab tP).isCodeTable, rfl, #[], more, rfl, grown⟩)
        · exact .inl (old b o hb e)
      · by_cases hb : b = PT
        · rw [hb]
          exact ⟨_, grown⟩
        · exact ⟨o, old b o hb e⟩
  cases hk : K.lookup ad with
  | some o =>
    have e := inK ad o hk
    rw [ga] at e
    cases e
    refine main (fun b => if b = PT then some (.tbl #[]) else none) (if_pos rfl) (fun b => ?_) (.inr ⟨_, vs.toArray, _, hk, rfl, rfl, rfl, by rw [List.size_toArray, lnv]; exact len, by simpa using rel⟩) (fun b u z => ?_) (fun b z => ?_) (fun z => absurd (if_neg nab) z)
    · by_cases hb : b = PT
      · exact .inr (.inl hb)
      · exact .inl (if_neg hb)
    · by_cases hb : b = PT
      · rw [hb] at z ⊢
        have z' := (if_pos rfl).symm.trans z
        cases z'
        exact tP
      · exact (nomatch (if_neg hb).symm.trans z)
    · by_cases hb : b = PT
      · exact .inr hb
      · exact absurd (if_neg hb) z
  | none =>
    refine main (fun b => if b = ad then some (.frz { cls := .type "list", data := .seq vs.toArray } (.lst (ns.map V.int))) else if b = PT then some (.tbl #[]) else none) ((if_neg (fun z => nab z.symm)).trans (if_pos rfl)) (fun b => ?_) (.inl (.inr ⟨{ cls := .type "list", data := .seq vs.toArray }, if_pos rfl⟩)) (fun b u z => ?_) (fun b z => ?_) (fun _ => hk)
    · by_cases eb : b = ad
      · exact .inr (.inr ⟨_, _, if_pos eb⟩)
      · by_cases hb : b = PT
        · exact .inr (.inl hb)
        · exact .inl ((if_neg eb).trans (if_neg hb))
    · by_cases eb : b = ad
      · subst eb
        have z' := (if_pos rfl).symm.trans z
        cases z'
        exact ⟨ga, by rw [List.length_map]; exact len, vs, _, rel, ga⟩
      · have z1 := (if_neg eb).symm.trans z
        by_cases hb : b = PT
        · rw [hb] at z1 ⊢
          have z' := (if_pos rfl).symm.trans z1
          cases z'
          exact tP
        · exact (nomatch (if_neg hb).symm.trans z1)
    · by_cases eb : b = ad
      · exact .inl eb
      · by_cases hb : b = PT
        · exact .inr hb
        · exact absurd ((if_neg eb).trans (if_neg hb)) z
/-- what the head tells of the law, of the table PT of the code object cT -/
structure LawGT (l : PySem.W.OpenLaw) (w : World) (K : PySem.W.Frag) (k : Nat) (x : Str) (mg : Str → Option Value) (fa : Addr) (h : Heap) : Prop where
  ex : ∃ (fd : FuncData) (cT PT : Addr) (sp : Sp), h.get? PT = some { cls := .none, data := .fields #[] } ∧ K.lookup PT = none ∧ PySem.W.CodeHd h cT PT ∧ (∀ (s : Shared) (u : Value), BindsTo s fd ⟨[u], []⟩ [(x, u)]) ∧
    (∀ (H : Hp) (a : Addr) (ns : List Int), ns.length ≤ 63 → H PT = some (.tbl #[]) → SqL K H a (ns.map V.int) → sp [.ref a] H (fun v _ => v = .bl true) fun _ _ _ => False) ∧
    ∀ base : Heap, K.In base → base.Ns mainGlobals mg → LamX.TabB base mg cT PT → FnG l.prog w K mg base k fa fd [x] sp
theorem walkGT {l : PySem.W.OpenLaw} {k : Nat} {q : Program} {loose : List Str} {XP : (Str → Option Value) → Heap → Prop} {YP : World → Heap → Prop} {d : DefRec} {K : Params → PySem.W.Frag} {x : Str}
    (most : l.most = some 63) (nodf : d.params.defaults = []) (rm : Room k callerA) (inY : ∀ (w : World) (h : Heap), YP w h → (K w.params).In h)
    (F : ∀ (w : World) (mg : Str → Option Value) (fa : Addr) (h : Heap), YP w h → (K w.params).In h → h.Ns mainGlobals mg → mg d.name = some (.ref fa) → LawGT l w (K w.params) k x mg fa h) : PySem.W.WalkO q loose XP YP l.row.toRowW d [] (fun f vs => PySem.call f vs) := by
  refine Att.attach_call most nodf fun w s₀ sh mg mb fa o pm cd doc a vs ns G Y ho hd hcd hmg hobj hints hlen hg => ?_
  have inK := inY w _ Y
  obtain ⟨fd, cT, PT, sp, tP, nP, hC, hb, hp, hF⟩ := (F w mg fa _ Y inK G.T.g hmg).ex
  exact lawGT inK G.T.g G.T.b G.T.builtins G.T.nolimit hg tP nP hC G.T.bmain hobj hints (Nat.le_trans hlen (by decide)) rm hF hb (fun H hH hS => hp H a ns hlen hH hS)
/-! ### a def by its row, called where no repr is under way -/
theorem fnG_lk {P : Program} {w : World} {K : PySem.W.Frag} {mg : Str → Option Value} {base : Heap} {x : Str} {st : Stmt} {f : Addr} {N ps : List Str} {k : Nat} {sp : Sp} {oc kV doc pm cdv ct : Value} {od an : Option Addr} {osl : Array (Option Value)}
    (lkp : K.lookup f = some ⟨oc, od, .func (PySem.W.fnOf x x (defArgs st) (defBody st) (defScope st) .none kV doc pm an cdv ct), osl⟩) (cin : PySem.W.codeIn K cdv x = true) (S : FnScope N ps (defScope st)) (ln : ∀ vs H Q E, sp vs H Q E → vs.length = ps.length)
    (bd : ∀ (A : Around) (out : List Env) (sh : Shared) (H : Hp) (vs : List V) (Q : VK) (E : XK), Room k (A.deeper (envOfC x (defScope st) sh.heap.objs.size f cdv)) → A.guards = some [] → sp vs H Q E →
      ∃ t, PSs (cxOf CX0 P w K mg base N x (defScope st) f cdv A out sh H E).nox (defBody st) t ∧ t { nx := fun _ H' => Q .non H', rt := Q } (start N vs) H) : FnG P w K mg base (k + 1) f (PySem.W.fnOf x x (defArgs st) (defBody st) (defScope st) .none kV doc pm an cdv ct) ps sp := by
  refine ⟨ln, fun A out sh H ar us vs Q E rm gd en bnd rel pr => ?_⟩
  have lv := ln _ _ _ _ pr
  have kIn : K.In sh.heap := en.mod.kin.keeps fun b o e => (en.bs b o e).1
  have nol : sh.heap.NoLimit := en.mod.nolimit.keeps fun b o e => (en.bs b o e).1
  have knd : ∀ y ∈ ps.zip us, (defScope st).names.lookup y.1 = some .local ∨ ((defScope st).names.lookup y.1 = some .cell ∧ ((cellsFrom (sh.heap.objs.size + 1) (defScope st).names []).lookup y.1).isSome = true) := fun ⟨n, v⟩ hy => by
    rcases S.par n (List.of_mem_zip hy).1 with z | z
    · exact .inl z
    · exact .inr ⟨z, PySem.W.cellsFrom_some _ _ _ (.inl z)⟩
  refine codeAny_call_function rm.depth (kIn _ _ lkp) rfl S.co S.gen rfl (PySem.W.codeRec_of kIn cin) (bnd _ _ _ _ ?_)
  refine wpAny_newFunctionEnv_cells S.kind knd fun env he sh1 x1 => ?_
  subst he
  refine ⟨nol.keeps x1.toInCall.keep, codeAny_func ?_⟩
  obtain ⟨t, ht, hq⟩ := bd A out sh H vs Q E (rm.deeper _) gd pr
  have inv := inv_start (CX := CX0) (P := P) (w := w) (K := K) (mg := mg) (base := base) (E := E) (f := f) (cd := cdv) (qual := x) S rm.hd en lv rel x1
  refine wpAny_mono (ht.nox.run [] sh1 (start N vs) H _ inv hq) (fun fl sh' hs => ?_) fun e sh' hs => hs
  cases fl with
  | ret u =>
    obtain ⟨v, σ', H', J, rv, z⟩ := hs
    exact ⟨v, H', J.os, J.bare, J.base, J.hok, rv, z⟩
  | next =>
    obtain ⟨σ', H', J, z⟩ := hs
    exact ⟨V.non, H', J.os, J.bare, J.base, J.hok, rfl, z⟩
  | brk =>
    obtain ⟨_, _, _, z⟩ := hs
    exact False.elim z
  | cont =>
    obtain ⟨_, _, _, z⟩ := hs
    exact False.elim z
section
variable {X : Cx} {x : Str} {sp : Sp} {W : WX} {j k i : Nat} {f : Addr} {fd : FuncData} {ps : List Str} {e : Expr} {es : List Expr} {t : TA} {p po : Pos}
/-- such a def, called by its name -/
theorem pe_g (F : FnG X.prog X.w X.K X.mg X.base k f fd ps sp) (gd : X.A.guards = some []) (hr : Room j X.A) (hk : k ≤ j) (hg : Gl X x) (hm : X.mg x = some (.ref f)) (kp : PySem.W.keepIn X.K (.ref f) = true) (hb : Binds X.K fd ps []) (ha : L2.PA X (e :: es) t)
    (hdb : (x == ("__debug__" : Str)) = false := by decide) (he : starEach (e :: es) X.env = (false, eval e X.env) :: starEach es X.env := by rfl) (hpl : (backTo po (starEach es X.env)).any (·.1) = false := by rfl) :
    PE X (.Call (.Name x p) (e :: es) [] po) (fun σ H Q => t σ H fun vs H1 => sp vs H1 Q (fun _ _ _ => False)) := by
  refine ⟨fun pins s σ H Q I h => wpAny_Call_Name_kw (ld_glob I hg hm ?_ hdb)⟩
  refine PySem.W.callWith_K (h₀ := X.base) I.ok.mod.kin kp (thn (ha.run po pins s σ H _ I h) fun us s1 ⟨vs, H1, I1, rv, q⟩ => ⟨I1.kIn, ?_⟩) he hpl
  have hl : us.length = ps.length := by rw [← rv.length]; exact F.lenG _ _ _ _ q
  have b := hb s1 us I1.kIn (by rw [List.append_nil]; exact hl)
  rw [List.append_nil] at b
  refine wpAny_call (codeAny_mono (F.runG X.A X.stack s1 H1 ⟨us, []⟩ us vs Q _ (hr.mono hk) gd I1.env0 b rv q) fun r s' hq => ?_)
  cases r with
  | error e => exact (show False from hq).elim
  | ok fl =>
    cases fl with
    | ret u => exact I1.after hq
    | next => exact False.elim hq
    | brk => exact False.elim hq
    | cont => exact False.elim hq
/-- a name that holds one of some defs that raise -/
theorem pe_vx (S : Addr → Prop) (hS : ∀ f, S f → ∃ fd ps, FnOk X.prog X.w X.K X.mg X.base (L2.CX X.prog X.w) k f fd ps sp ∧ PySem.W.keepIn X.K (.ref f) = true ∧ Binds X.K fd ps []) (hr : Room j X.A) (hk : k ≤ j) (tk : Takes X W) (hN : X.N[i]? = some x) (hv : Vis X.env.scope x) (ha : L2.PA X (e :: es) t)
    (hd : (x == ("__debug__" : Str)) = false := by decide) (hcd : (x == ("__classdict__" : Str)) = false := by decide) (he : starEach (e :: es) X.env = (false, eval e X.env) :: starEach es X.env := by rfl) (hpl : (backTo po (starEach es X.env)).any (·.1) = false := by rfl) :
    PE X (.Call (.Name x p) (e :: es) [] po) (fun σ H Q => ∃ f, σ[i]? = some (some (.ref f)) ∧ S f ∧ t σ H fun vs H1 => sp vs H1 Q (WE W σ)) := by
  refine ⟨fun pins s σ H Q I h => ?_⟩
  obtain ⟨f, hs, hf, h⟩ := h
  obtain ⟨fd, ps, F, kp, b⟩ := hS f hf
  refine wpAny_Call_Name_kw (thn ((pe_var (pos := p) (i := i) hN hv hd hcd).run pins s σ H (fun v H1 => v = .ref f ∧ H1 = H) I ⟨.ref f, hs, rfl, rfl⟩) fun u s1 ⟨v, H1, I1, r1, q1, q2⟩ => ?_)
  subst q1
  rw [q2] at I1
  cases r1
  refine PySem.W.callWith_K (h₀ := X.base) I1.ok.mod.kin kp (thn (ha.run po pins s1 σ H _ I1 h) fun us s2 ⟨vs, H2, I2, rv, q⟩ => ⟨I2.kIn, ?_⟩) he hpl
  exact run_fnS F (hr.mono hk) b (passAt tk σ) I2 rv q
end
end Lf
namespace Lf
open PySem PySem.Spec PyProof.Rows L2
/-! ### as lawGT, for some tables of code objects, and the base has the table of modules -/
def InT (TS : List (Addr × Addr)) (b : Addr) : Prop := ∃ q ∈ TS, q.2 = b
theorem lawGTn {P : Program} {w : World} {K : PySem.W.Frag} {mg mb : Str → Option Value} {k : Nat} {fa ad : Addr} {TS : List (Addr × Addr)} {fd : FuncData} {x : Str} {sp : Sp} {sh : Shared} {vs : List Value} {ns : List Int}
    (inK : K.In sh.heap) (nsm : sh.heap.Ns mainGlobals mg) (nsb : sh.heap.Ns builtinsNs mb) (bb : ∀ x : Str, x ≠ "__name__" → mb x = bootBuiltins x) (nol : sh.heap.NoLimit) (gn : sh.gens = #[])
    (sM : ∃ mm, sh.heap.Ns sysModules mm) (tPs : ∀ q ∈ TS, sh.heap.get? q.2 = some { cls := .none, data := .fields #[] }) (nPs : ∀ q ∈ TS, K.lookup q.2 = none) (hCs : ∀ q ∈ TS, PySem.W.CodeHd sh.heap q.1 q.2)
    (bM : ∃ (bm : Addr) (ob : Obj), mg "__builtins__" = some (.ref bm) ∧ bm ≠ builtinsNs ∧ sh.heap.get? bm = some ob ∧ ob.cls = .type "module" ∧ ob.dict = some builtinsNs ∧ ob.data = .plain)
    (ga : sh.heap.get? ad = some { cls := .type "list", data := .seq vs.toArray }) (isI : IntsAre vs ns) (len : ns.length ≤ sizeLine) (rm : Room k callerA)
    (F : ∀ base : Heap, K.In base → base.Ns mainGlobals mg → (∃ o, base.get? 1 = some o) → (∀ q ∈ TS, LamX.TabB base mg q.1 q.2) → FnG P w K mg base k fa fd [x] sp) (bnd : ∀ (s : Shared) (u : Value), BindsTo s fd ⟨[u], []⟩ [(x, u)])
    (pr : ∀ H : Hp, (∀ q ∈ TS, H q.2 = some (.tbl #[])) → SqL K H ad (ns.map V.int) → sp [.ref ad] H (fun v _ => v = .bl true) fun _ _ _ => False) :
    codeAny (model P w) callerA (.call (.ref fa) ⟨[.ref ad], []⟩) (fun r sh' => r = .ok (.ret (.bool true)) ∧ OldK sh.heap sh'.heap ∧ sh'.os = sh.os ∧ AllBare sh'.gens) sh := by
  have rel := vals_ints isI
  have lnv := isI.length
  have tP : ∀ {b}, InT TS b → sh.heap.get? b = some { cls := .none, data := .fields #[] } := fun ⟨q, hq, e⟩ => e ▸ tPs q hq
  have nP : ∀ {b}, InT TS b → K.lookup b = none := fun ⟨q, hq, e⟩ => e ▸ nPs q hq
  have nab : ¬ InT TS ad := fun z => by
    rw [tP z] at ga
    cases ga
  have main : ∀ H : Hp, (∀ b, InT TS b → H b = some (.tbl #[])) → (∀ b, H b = none ∨ InT TS b ∨ ∃ o xs, H b = some (.frz o (.lst xs))) → SqL K H ad (ns.map V.int) → HOk P w H sh.heap → (∀ b, H b ≠ none → b = ad ∨ InT TS b) → (H ad ≠ none → K.lookup ad = none) →
      codeAny (model P w) callerA (.call (.ref fa) ⟨[.ref ad], []⟩) (fun r sh' => r = .ok (.ret (.bool true)) ∧ OldK sh.heap sh'.heap ∧ sh'.os = sh.os ∧ AllBare sh'.gens) sh := by
    intro H hT only seq hok one nk
    have lay : ∀ {b : Addr} {o : Obj}, sh.heap.get? b = some o → H b = none → (hidT sh.heap H).get? b = some o := fun e n => hidT_get e n
    -- what is no list and no empty record is not tracked
    have off : ∀ {b : Addr} {o : Obj}, sh.heap.get? b = some o → (∀ zs m, o.data ≠ .seq zs m) → o.data ≠ .fields #[] → H b = none := fun {b o} e n1 n2 => by
      cases z : H b with
      | none => rfl
      | some u =>
        rcases one b (by rw [z]; simp) with eb | eb
        · rw [eb, ga] at e
          cases e
          exact absurd rfl (n1 _ _)
        · rw [tP eb] at e
          cases e
          exact absurd rfl n2
    have nsL : ∀ {b : Addr} {m : Str → Option Value}, sh.heap.Ns b m → (hidT sh.heap H).Ns b m := fun {b m} ⟨o, es, ep, e, d, r⟩ =>
      ⟨o, es, ep, lay e (off e (fun zs m z => by rw [d] at z; cases z) (fun z => by rw [d] at z; cases z)), d, r⟩
    have inB : K.In (hidT sh.heap H) := fun b o e => lay (inK b o e) (by
      cases z : H b with
      | none => rfl
      | some u =>
        rcases one b (by rw [z]; simp) with eb | eb
        · subst eb
          rw [nk (by rw [z]; simp)] at e
          cases e
        · rw [nP eb] at e
          cases e)
    have md : Mod K mg (hidT sh.heap H) := ⟨inB, nsL nsm, ⟨mb, nsL nsb, bb⟩, let ⟨mc, h1, h2⟩ := nol; ⟨mc, nsL h1, h2⟩⟩
    have tb : ∀ q ∈ TS, LamX.TabB (hidT sh.heap H) mg q.1 q.2 := fun q hq => by
      have tq := tPs q hq
      have hC := hCs q hq
      have gP : ¬ mainGlobals = q.2 := fun z => by
        obtain ⟨o, es, ep, e, d, _⟩ := nsm
        rw [z, tq] at e
        cases e
        cases d
      refine ⟨?_, ?_, gP⟩
      · obtain ⟨o, us, fi, tf, fl, tg, iF, tx, tt, e1, r1, r2, r3, rr⟩ := hC
        refine ⟨o, us, fi, tf, fl, tg, iF, tx, tt, lay e1 (off e1 (fun zs m z => by rw [r2] at z; cases z) (fun z => ?_)), r1, r2, r3, rr⟩
        rw [r2] at z
        cases z
        simp at r3
      · obtain ⟨bm, ob, b1, b2, b3, b4, b5, b6⟩ := bM
        refine ⟨bm, ob, b1, b2, fun z => ?_, fun z => ?_, lay b3 (off b3 (fun zs m z => by rw [b6] at z; cases z) (fun z => by rw [b6] at z; cases z)), b4, b5, b6⟩
        · obtain ⟨o, es, ep, e, d, _⟩ := nsm
          rw [z, e] at b3
          cases b3
          rw [d] at b6
          cases b6
        · rw [z, tq] at b3
          cases b3
          cases b6
    have en : Env0 P w K mg (hidT sh.heap H) callerA [] sh H := ⟨rfl, md, fun b o e => of_hidT e, Nat.le_of_eq (hidT_size _ _), trivial, fun b hb => absurd (show b ∈ ([] : List Addr) from hb) (by simp), hok, .of_eq gn⟩
    refine codeAny_mono ((F _ inB (nsL nsm) (let ⟨_, h⟩ := sM; let ⟨o, _, _, e, _⟩ := nsL h; ⟨o, e⟩) tb).runG callerA [] sh H ⟨[.ref ad], []⟩ [.ref ad] [.ref ad] _ _ rm rfl en (bnd sh (.ref ad)) (.cons rfl .nil) (pr H (fun q hq => hT q.2 ⟨q, hq, rfl⟩) seq)) fun r sh' h => ?_
    match r, h with
    | .error e, h => exact (show False from h).elim
    | .ok .next, h => exact False.elim h
    | .ok .brk, h => exact False.elim h
    | .ok .cont, h => exact False.elim h
    | .ok (.ret u), h =>
      obtain ⟨v, H', os, bare, un, hok', rv, z⟩ := h
      have z' : v = .bl true := z
      subst z'
      have eu : u = Value.bool true := rv
      subst eu
      have old : ∀ b o, ¬ InT TS b → sh.heap.get? b = some o → sh'.heap.get? b = some o := fun b o nb e => by
        cases zb : H b with
        | none => exact un.keep b o e zb (fun z => absurd (show b ∈ ([] : List Addr) from z) (by simp)) (by simp)
        | some u =>
          rcases only b with z | z | ⟨ob, xs, z⟩
          · rw [zb] at z
            cases z
          · exact absurd z nb
          · have e1 := (hok b _ z).1
            have e2 := (hok' b _ (un.frzs b ob _ z)).1
            rw [e] at e1
            cases e1
            exact e2
      have hT' : ∀ b, InT TS b → ∃ more, sh'.heap.get? b = some { cls := .none, data := .fields (#[] ++ more) } := fun b hb => by
        obtain ⟨more, zm⟩ := un.tbls b #[] (hT b hb)
        exact ⟨more, hok' b _ zm⟩
      refine ⟨rfl, ⟨fun b o e => ?_, fun b o e => ?_⟩, os, bare⟩
      · by_cases hb : InT TS b
        · obtain ⟨more, grown⟩ := hT' b hb
          have tb := tP hb
          rw [tb] at e
          cases e
          obtain ⟨q, hq, eq⟩ := hb
          exact .inr (.inl ⟨by rw [← eq]; exact ((hCs q hq).tab (tPs q hq)).isCodeTable, rfl, #[], more, rfl, grown⟩)
        · exact .inl (old b o hb e)
      · by_cases hb : InT TS b
        · obtain ⟨more, grown⟩ := hT' b hb
          exact ⟨_, grown⟩
        · exact ⟨o, old b o hb e⟩
  haveI : ∀ b, Decidable (InT TS b) := fun b => Classical.propDecidable _
  cases hk : K.lookup ad with
  | some o =>
    have e := inK ad o hk
    rw [ga] at e
    cases e
    refine main (fun b => if InT TS b then some (.tbl #[]) else none) (fun b hb => if_pos hb) (fun b => ?_) (.inr ⟨_, vs.toArray, _, hk, rfl, rfl, rfl, by rw [List.size_toArray, lnv]; exact len, by simpa using rel⟩) (fun b u z => ?_) (fun b z => ?_) (fun z => absurd (if_neg nab) z)
    · by_cases hb : InT TS b
      · exact .inr (.inl hb)
      · exact .inl (if_neg hb)
    · by_cases hb : InT TS b
      · have z' := (if_pos hb).symm.trans z
        cases z'
        exact tP hb
      · exact (nomatch (if_neg hb).symm.trans z)
    · by_cases hb : InT TS b
      · exact .inr hb
      · exact absurd (if_neg hb) z
  | none =>
    refine main (fun b => if b = ad then some (.frz { cls := .type "list", data := .seq vs.toArray } (.lst (ns.map V.int))) else if InT TS b then some (.tbl #[]) else none) (fun b hb => (if_neg (fun (z : b = ad) => nab (z ▸ hb))).trans (if_pos hb)) (fun b => ?_) (.inl (.inr ⟨{ cls := .type "list", data := .seq vs.toArray }, if_pos rfl⟩)) (fun b u z => ?_) (fun b z => ?_) (fun _ => hk)
    · by_cases eb : b = ad
      · exact .inr (.inr ⟨_, _, if_pos eb⟩)
      · by_cases hb : InT TS b
        · exact .inr (.inl hb)
        · exact .inl ((if_neg eb).trans (if_neg hb))
    · by_cases eb : b = ad
      · subst eb
        have z' := (if_pos rfl).symm.trans z
        cases z'
        exact ⟨ga, by rw [List.length_map]; exact len, vs, _, rel, ga⟩
      · have z1 := (if_neg eb).symm.trans z
        by_cases hb : InT TS b
        · have z' := (if_pos hb).symm.trans z1
          cases z'
          exact tP hb
        · exact (nomatch (if_neg hb).symm.trans z1)
    · by_cases eb : b = ad
      · exact .inl eb
      · by_cases hb : InT TS b
        · exact .inr hb
        · exact absurd ((if_neg eb).trans (if_neg hb)) z
/-- what the head tells of the law, of the tables of some code objects -/
structure LawGTn (l : PySem.W.OpenLaw) (w : World) (K : PySem.W.Frag) (k : Nat) (x : Str) (mg : Str → Option Value) (fa : Addr) (h : Heap) : Prop where
  ex : ∃ (fd : FuncData) (TS : List (Addr × Addr)) (sp : Sp), (∀ q ∈ TS, h.get? q.2 = some { cls := .none, data := .fields #[] }) ∧ (∀ q ∈ TS, K.lookup q.2 = none) ∧ (∀ q ∈ TS, PySem.W.CodeHd h q.1 q.2) ∧ (∀ (s : Shared) (u : Value), BindsTo s fd ⟨[u], []⟩ [(x, u)]) ∧
    (∀ (H : Hp) (a : Addr) (ns : List Int), ns.length ≤ 63 → (∀ q ∈ TS, H q.2 = some (.tbl #[])) → SqL K H a (ns.map V.int) → sp [.ref a] H (fun v _ => v = .bl true) fun _ _ _ => False) ∧
    ∀ base : Heap, K.In base → base.Ns mainGlobals mg → (∃ o, base.get? 1 = some o) → (∀ q ∈ TS, LamX.TabB base mg q.1 q.2) → FnG l.prog w K mg base k fa fd [x] sp
theorem walkGTn {l : PySem.W.OpenLaw} {k : Nat} {q : Program} {loose : List Str} {XP : (Str → Option Value) → Heap → Prop} {YP : World → Heap → Prop} {d : DefRec} {K : Params → PySem.W.Frag} {x : Str}
    (noImp : importsNone q = true) (most : l.most = some 63) (nodf : d.params.defaults = []) (rm : Room k callerA) (inY : ∀ (w : World) (h : Heap), YP w h → (K w.params).In h)
    (F : ∀ (w : World) (mg : Str → Option Value) (fa : Addr) (h : Heap), YP w h → (K w.params).In h → h.Ns mainGlobals mg → mg d.name = some (.ref fa) → LawGTn l w (K w.params) k x mg fa h) : PySem.W.WalkO q loose XP YP l.row.toRowW d [] (fun f vs => PySem.call f vs) := by
  refine Att.attach_call most nodf fun w s₀ sh mg mb fa o pm cd doc a vs ns G Y ho hd hcd hmg hobj hints hlen hg => ?_
  have inK := inY w _ Y
  obtain ⟨fd, TS, sp, tP, nP, hC, hb, hp, hF⟩ := (F w mg fa _ Y inK G.T.g hmg).ex
  exact lawGTn inK G.T.g G.T.b G.T.builtins G.T.nolimit hg (let ⟨mm, h, _⟩ := (G.T.seer noImp).mods; ⟨mm, h⟩) tP nP hC G.T.bmain hobj hints (Nat.le_trans hlen (by decide)) rm hF hb (fun H hH hS => hp H a ns hlen hH hS)
/-! ### a def that makes lambdas: its row, its code object, its table -/
structure DfT (K : PySem.W.Frag) (mg : Str → Option Value) (base : Heap) (x : Str) (st : Stmt) (ps : List Str) (PT : Addr) : Prop where
  ex : ∃ (f cQ : Addr) (oc kV doc pm ct : Value) (od an : Option Addr) (osl : Array (Option Value)), K.lookup f = some ⟨oc, od, .func (PySem.W.fnOf x x (defArgs st) (defBody st) (defScope st) .none kV doc pm an (.ref cQ) ct), osl⟩ ∧ PySem.W.codeIn K (.ref cQ) x = true ∧ PySem.W.keepIn K (.ref f) = true ∧ mg x = some (.ref f) ∧
    Binds K (PySem.W.fnOf x x (defArgs st) (defBody st) (defScope st) .none kV doc pm an (.ref cQ) ct) ps [] ∧ LamX.TabB base mg cQ PT
theorem calT_of {P : Program} {w : World} {K : PySem.W.Frag} {mg : Str → Option Value} {base : Heap} {x : Str} {st : Stmt} {N ps : List Str} {k : Nat} {sp : Sp} {PT : Addr} (D : DfT K mg base x st ps PT) (S : FnScope N ps (defScope st)) (len : ∀ vs H Q E, sp vs H Q E → vs.length = ps.length)
    (hb : ∀ (f cQ : Addr) (A : Around) (outer : List Env) (s : Shared) (H : Hp) (vs : List V) (Q : VK) (E : XK), LamX.TabB base mg cQ PT → Room k (A.deeper (envOfC x (defScope st) s.heap.objs.size f (.ref cQ))) → sp vs H Q E →
      ∃ t, PSs (cxOf CX0 P w K mg base N x (defScope st) f (.ref cQ) A outer s H E).nox (defBody st) t ∧ t { nx := fun _ H' => Q .non H', rt := Q } (start N vs) H) : C8.Cal P w K mg base (k + 1) x sp [] := by
  obtain ⟨f, cQ, oc, kV, doc, pm, ct, od, an, osl, lk, hcd, kp, hm, b, TB⟩ := D.ex
  refine ⟨⟨f, _, ps, [], fn_of lk hcd S len fun A outer s H vs Q E hr hsp => ?_, hm, kp, b, .nil⟩⟩
  obtain ⟨t, h, q⟩ := hb f cQ A outer s H vs Q E TB hr hsp
  exact ⟨t, h.nox, q⟩
end Lf
namespace Lf
open PySem PySem.Spec PyProof.Rows L2
/-! ### an own exception class over ValueError whose __init__ says super().__init__(text), self.x = x -/
/-- the context of such an __init__ at its entry -/
def cxSup (P : Program) (w : World) (K : PySem.W.Frag) (mg : Str → Option Value) (base : Heap) (N : List Str) (env : Env) (A : Around) (outer : List Env) (s : Shared) (H : Hp) : Cx where
  prog := P
  w := w
  K := K
  mg := mg
  base := base
  A := A.deeper env
  N := N
  s_0 := s
  H_0 := H
  env := env
  outer := outer
  stack := env :: outer
  ex := []
  calm := true
  fn := fun _ => false
  pn := []
  xe := fun _ _ => False
/-- what it promises -/
def spIni (C : Addr) (x : Str) : Sp := fun vs H Q _ => ∃ (a : Addr) (v : V), vs = [.ref a, v] ∧ H a = some (exo a C none) ∧
  ∀ dx, H dx = none → dx ≠ a → Q .non (upd (upd H dx (exd dx [(x, v)])) a (exo a C (some dx)))
/-- its text -/
structure IniT (x : Str) (params : Arguments) (body : List Stmt) (scope : Scope) : Prop where
  pa : ∃ ar, (params.posonlyargs ++ params.args).head? = some ar ∧ ar.arg = "self"
  bd : ∃ txt p0 p1 p2 p3 p4 p5 p6 p7 p8 p9 j, body = [.Expr (.Call (.Attribute (.Call (.Name "super" p0) [] [] p1) "__init__" p2) [.Constant (.str txt) j p3] [] p4) p5, .Assign [.Attribute (.Name "self" p6) x p7] (.Name x p8) p9] ∧
    ∃ pl : Env → Sem Bool, ∀ env : Env, eval (.Call (.Attribute (.Call (.Name "super" p0) [] [] p1) "__init__" p2) [.Constant (.str txt) j p3] [] p4) env = (do
      let ov ← attributeBase (.Call (.Name "super" p0) [] [] p1) "__init__" env (eval (.Call (.Name "super" p0) [] [] p1) env)
      standAt p2.atName
      let (f, first) ← holding [ov] (getMethod ov "__init__" (pl env))
      callWith p4 f first (backTo p4 (starEach [.Constant (.str txt) j p3] env)) [])
  ls : scope.names.lookup ("self" : Str) = some .local
  lx : scope.names.lookup x = some .local
  lc : scope.names.lookup ("__class__" : Str) = some .free
  lu : scope.names.lookup ("super" : Str) = some .globalImplicit
  nc : ∀ y ∈ scope.names, y.2 ≠ .cell
  nf : ∀ y ∈ scope.names, y.2 = .free → y.1 = "__class__"
  co : scope.isCoroutine = false
  ge : scope.isGenerator = false
  kd : scope.kind = .function
  ne : x ≠ "self"
  dx : (x == ("__debug__" : Str)) = false
  dc : (x == ("__classdict__" : Str)) = false
/-- what the written part tells of it -/
structure SupC (P : Program) (K : PySem.W.Frag) (C cda cc : Addr) (x : Str) : Prop where
  cls : OexC K C
  code : ∃ ccl cdd vs ccs file tf, K.lookup cda = some ⟨ccl, cdd, .fields vs, ccs⟩ ∧ vs[2]? = some (.str file tf) ∧ ((P.main.file : Str) == file) = true
  cell : ∃ cl cld csl, K.lookup cc = some ⟨cl, cld, .cell (some (.ref C)), csl⟩
  sub : PySem.W.mroIn K C (.ref C) = some true
  st : PySem.W.nsIn K cStatics "thirdparty.any" = some none
  sup : PySem.W.ks_superIn K C C "__init__" = some (some (.builtin "ValueError.__init__"))
  ve : PySem.W.subIn K (.ref C) (.type "ValueError") = some true
  no : PySem.W.findIn K (.ref C) x = some none
  top : (P.main.scope.names.lookup ("super" : Str)).isSome = false
theorem bt_super : bootBuiltins ("super" : Str) = Option.some (Value.type "super") := by decide +kernel
section
variable {P : Program} {w : World} {K : PySem.W.Frag} {mg : Str → Option Value} {base : Heap}
theorem fn_sup {CX : CXT} {C f cda cc : Addr} {name qual x : Str} {params : Arguments} {body : List Stmt} {scope : Scope} {dV kV doc pm ct oc : Value} {an od : Option Addr} {osl : Array (Option Value)}
    (lk : K.lookup f = some ⟨oc, od, .func (PySem.W.ksFn name qual params body scope dV kV doc pm an (.ref cda) ct cc), osl⟩) (hcd : PySem.W.codeIn K (.ref cda) qual = true) (T : IniT x params body scope) (S : SupC P K C cda cc x) (ms : mg "super" = none) :
    FnOk P w K mg base CX 1 f (PySem.W.ksFn name qual params body scope dV kV doc pm an (.ref cda) ct cc) ["self", x] (spIni C x) := by
  refine ⟨fun vs H Q E h => ?_, fun A outer s H args us vs Q E hr e0 hb r hsp => ?_⟩
  · obtain ⟨a, v, rfl, _⟩ := h
    rfl
  obtain ⟨a, v, rfl, ea, q⟩ := hsp
  obtain ⟨u, rfl, ru⟩ : ∃ u, us = [.ref a, u] ∧ RelV v u := by
    cases r with
    | cons ra r =>
      cases r with
      | cons rv r =>
        cases r
        cases ra
        exact ⟨_, rfl, rv⟩
  have KX : K.In s.heap := e0.mod.kin.keeps fun b o e => (e0.bs b o e).1
  have lim : s.heap.NoLimit := e0.mod.nolimit.keeps fun b o e => (e0.bs b o e).1
  refine ks_codeAny_call_defAt (fd := PySem.W.ksFn name qual params body scope dV kV doc pm an (.ref cda) ct cc) (body := body) hr.depth (KX _ _ lk) rfl lim (PySem.W.codeRec_of KX hcd) rfl hb T.nc (fun y hy => ?_) (fun h₀ hns hk => ?_) T.co T.ge T.kd
  · have : y = (("self" : Str), Value.ref a) ∨ y = (x, u) := by simpa using hy
    rcases this with rfl | rfl
    · exact T.ls
    · exact T.lx
  obtain ⟨txt, p0, p1, p2, p3, p4, p5, p6, p7, p8, p9, j, rfl, pl, hpl⟩ := T.bd
  obtain ⟨ar, har, ear⟩ := T.pa
  obtain ⟨cl, cld, csl, hcell⟩ := S.cell
  obtain ⟨ccl, cdd, fvs, ccs, file, tf, hcode, hvs, hfile⟩ := S.code
  show _root_.PySem.wpAt _ (A.deeper (PySem.W.ksEnv qual scope s.heap.objs.size f (.ref cda) cc)) (.func _ (PySem.W.ksEnv qual scope s.heap.objs.size f (.ref cda) cc)) (execs _ (PySem.W.ksEnv qual scope s.heap.objs.size f (.ref cda) cc)) _ _ _
  generalize hX : cxSup P w K mg base ["self", x] (PySem.W.ksEnv qual scope s.heap.objs.size f (.ref cda) cc) A outer s H = X
  have bcell : base.get? cc = some ⟨cl, cld, .cell (some (.ref C)), csl⟩ := e0.mod.kin _ _ hcell
  have luc : ∀ y c, List.lookup y [(("__class__" : Str), cc)] = some c → y = "__class__" ∧ c = cc := fun y c h => by
    rw [List.lookup_cons] at h
    by_cases hy : (y == ("__class__" : Str)) = true
    · rw [hy] at h
      exact ⟨by simpa using hy, (Option.some.inj h).symm⟩
    · rw [Bool.not_eq_true] at hy
      rw [hy] at h
      cases h
  have noA : ∀ b : Addr, b ∉ ([] : List Addr) := fun b z => nomatch z
  have I : Inv X [] [some (.ref a), some v] H { s with heap := h₀, toks := s.toks + [(("self" : Str), Value.ref a), (x, u)].length } := by
    subst hX
    refine ⟨⟨e0.mod, T.kd, rfl, rfl, Nat.le_refl _, fun y z c h1 h2 => ?_, fun y hy => ?_, fun y c z _ => (nomatch z), fun _ => hr.hd, Around.frames_deeper e0.frames, .inr ⟨rfl, rfl⟩, fun b z => absurd z (noA b), e0.bs, e0.bsz, fun b _ _ => noA b, fun b z => absurd z (noA b), e0.funs, e0.frf⟩,
      rfl, e0.bare, Un.kept hk, ⟨_, hns, fun i y v' h1 h2 h3 => ?_⟩, fun y c h => ?_, e0.hok.fresh (Nat.le_refl _), fun y c h => ?_, fun p hp => absurd (show p ∈ ([] : List (Addr × Obj)) from hp) (by simp), e0.hok.kept hk, rfl⟩
    · rw [(luc y c h1).1, (luc z c h2).1]
    · have hy : scope.names.lookup y = some .cell ∨ scope.names.lookup y = some .free := hy
      rcases hy with hy | hy
      · exact absurd rfl (T.nc _ (PySem.mem_of_lookup hy))
      · have := T.nf _ (PySem.mem_of_lookup hy) rfl
        dsimp only at this
        subst this
        exact ⟨cc, rfl⟩
    · match i, h1, h2 with
      | 0, h1, h2 =>
        cases h1
        cases h2
        refine ⟨.ref a, rfl, .inl ⟨T.ls, ?_⟩⟩
        show List.lookup _ [(x, u), ("self", .ref a)] = _
        rw [List.lookup_cons, show (("self" : Str) == x) = false by simpa using fun z => T.ne z.symm]
        rfl
      | 1, h1, h2 =>
        cases h1
        cases h2
        refine ⟨u, ru, .inl ⟨T.lx, ?_⟩⟩
        show List.lookup _ [(x, u), ("self", .ref a)] = _
        rw [List.lookup_cons, beq_self_eq_true]
    · obtain ⟨_, rfl⟩ := luc y c h
      exact ⟨_, _, hk _ _ ((e0.bs _ _ bcell).1), rfl⟩
    · obtain ⟨_, rfl⟩ := luc y c h
      exact (e0.bs _ _ bcell).2
  have eE : X.env = PySem.W.ksEnv qual scope s.heap.objs.size f (.ref cda) cc := by subst hX; rfl
  have eA : X.A = A.deeper (PySem.W.ksEnv qual scope s.heap.objs.size f (.ref cda) cc) := by subst hX; rfl
  have eP : X.prog = P ∧ X.w = w ∧ X.K = K ∧ X.mg = mg ∧ X.base = base ∧ X.N = [("self" : Str), x] ∧ X.stack = PySem.W.ksEnv qual scope s.heap.objs.size f (.ref cda) cc :: outer ∧ X.s_0 = s ∧ X.H_0 = H ∧ X.outer = outer ∧ X.ex = [] := by subst hX; exact ⟨rfl, rfl, rfl, rfl, rfl, rfl, rfl, rfl, rfl, rfl, rfl⟩
  have Z : ∀ s', (∃ σ' H', Inv X [] σ' H' s' ∧ Q .non H') → CR CX outer P w H s Q E (.ok (.ret .none)) s' := fun s' ⟨σ', H', J, q'⟩ => by
    subst hX
    exact ⟨.non, H', J.os, J.bare, J.base, J.hok, rfl, q'⟩
  have hxe : ∀ e s', X.xe e s' → False := by subst hX; exact fun _ _ z => z
  have hprog : X.prog = P := by subst hX; rfl
  have hw : X.w = w := by subst hX; rfl
  have hK : X.K = K := by subst hX; rfl
  have hmg : X.mg = mg := by subst hX; rfl
  have hN : X.N = [("self" : Str), x] := by subst hX; rfl
  subst hprog hw hK hmg
  rw [← eA, ← eE]
  obtain ⟨nm, qn, N, bs, bm, sn, sub, ab, col, dd, k0, k1, k2, k3, k5, hC, hbm⟩ := S.cls.cls
  obtain ⟨t1, ho⟩ := exo_at I.hok ea
  obtain ⟨cdD, hcl⟩ : ∃ cdD, PySem.W.clsIn X.K C = some cdD := ⟨_, by unfold PySem.W.clsIn; rw [hC] <;> rfl⟩
  have hne : ¬ (("__init__" : Str) == ("__class__" : Str)) = true := by decide
  have hbase : ∀ s', Inv X [] [some (.ref a), some v] H s' → (∃ m, s'.heap.Ns X.env.locals m ∧ m "self" = some (.ref a)) := fun s' J => by
    obtain ⟨m, hn, hl⟩ := J.loc
    obtain ⟨u', ru', lk'⟩ := hl 0 "self" (.ref a) (by rw [hN]; rfl) rfl (by rw [eE]; exact .inl T.ls)
    cases ru'
    rcases lk' with ⟨_, e⟩ | ⟨z, _⟩
    · exact ⟨m, hn, e⟩
    · rw [eE] at z
      have z : scope.names.lookup ("self" : Str) = some .cell ∨ scope.names.lookup ("self" : Str) = some .free := z
      rw [T.ls] at z
      rcases z with z | z <;> cases z
  obtain ⟨m, hn, hself⟩ := hbase _ I
  obtain ⟨mb, hb1, hb2⟩ := I.mod.blt
  have hfr : ∀ {s'} , Inv X [] [some (.ref a), some v] H s' → ∃ o, s'.heap.get? a = some o ∧ o.cls = .ref C ∧ ∀ c, o.data ≠ .cls c := fun {s'} J => by
    obtain ⟨t1, h1⟩ := exo_at J.hok ea
    exact ⟨_, h1, rfl, fun c z => by cases z⟩
  obtain ⟨oD, hD1, hD2⟩ : ∃ oD, h₀.get? C = some oD ∧ oD.data = .cls cdD := by
    unfold PySem.W.clsIn at hcl
    split at hcl
    · rename_i c d cd' sl hoo
      cases hcl
      exact ⟨_, I.kIn _ _ hoo, rfl⟩
    · cases hcl
  refine ks_wpAt_execs_cons (ks_wpAt_Expr_any (ks_wpAt_MethodCall (pl := pl X.env) ?_ (hpl X.env)) ?hi ?hs)
  case hi => exact I.quiet
  case hs => rfl
  refine ks_wpAt_super_base (env := X.env) (attr := "__init__") (f := f) (cc := cda) (fd := PySem.W.ksFn name qual params _ scope dV kV doc pm an (.ref cda) ct cc) (ar := ar) (by rw [eE]; exact T.lu) (by rw [eE]; exact T.lc) (by decide) (by rw [eE]) (I.kIn _ _ lk) rfl har (by rw [eE]) (I.kIn _ _ hcode) rfl hvs hfile S.top ?_
  refine PySem.W.ks_loadName_global I.ok.kind (by rw [eE]; exact T.lu) (Calls.loadGlobal_builtin (by rw [I.ok.glob]; exact I.mod.glob.keeps I.bk) ms (by rw [I.ok.blt]; exact hb1.keeps I.bk) ((hb2 _ (by decide)).trans bt_super) ⟨rfl, ?_⟩)
  refine wpAny_loadName_free I.ok.kind (by rw [eE]; exact T.lc) (by rw [eE]; rfl) ⟨_, I.kIn _ _ hcell, rfl⟩ ?_
  rw [ear]
  refine wpAny_loadName_local I.ok.kind (by rw [eE]; exact T.ls) hn hself ?_
  refine ks_wpAny_isType_cls hD1 hD2 ⟨rfl, ?_⟩
  refine ks_wpAny_call_super hD1 hD2 ho rfl (fun c z => by cases z) (PySem.W.looks_mroIn I.kIn S.sub) (fun h1 e1 kk1 => ?_)
  have I1 := I.kept (t' := s.toks + [(("self" : Str), Value.ref a), (x, u)].length) kk1
  have hm : PySem.W.alongIn X.K "__init__" ((cdD.mro.dropWhile (· != .ref C)).drop 1) = some (some (.builtin "ValueError.__init__")) := by
    have z := S.sup
    unfold PySem.W.ks_superIn at z
    rw [hcl, Option.bind_some] at z
    exact z
  obtain ⟨t2, ho1⟩ := exo_at I1.hok ea
  have IA : PySem.W.InstAt h1 a { cls := .ref C, dict := none, data := .fields #[.ref t2, .none, .none, .none, .bool false, .none] } C none := ⟨ho1, rfl, rfl, trivial⟩
  refine PySem.W.kxs_getMethod PySem.W.kxs_ValueError e1 (PySem.W.looks_opaque I1.kIn S.st) (l₀ := cdD.mro) (fun A Q E s k q => wpAny_bind ((PySem.W.looks_clsIn I1.kIn hcl) A _ E s k (wpAny_pure q))) rfl I1.kIn hm (IA.type.andThen (PySem.W.looks_subIn I1.kIn S.ve)) (PySem.W.ks_ne I1.kIn IA hcl) (by decide) ?_
  have I2 := I1.kept (h' := h1.push (PySem.W.kxs_mw "ValueError.__init__" a)) (t' := s.toks + [(("self" : Str), Value.ref a), (x, u)].length + 1) (fun b o e => Heap.get?_push_of_some _ e)
  have hmw : (h1.push (PySem.W.kxs_mw "ValueError.__init__" a)).get? h1.objs.size = some (PySem.W.kxs_mw "ValueError.__init__" a) := Heap.get?_push_at rfl rfl
  have I3 : Inv X [(h1.objs.size, PySem.W.kxs_mw "ValueError.__init__" a)] [some (.ref a), some v] H _ := I2.pins_of (fun p hp => by
    have hp : p = (h1.objs.size, PySem.W.kxs_mw "ValueError.__init__" a) := by simpa using hp
    subst hp
    exact ⟨hmw, I1.hok.fresh (Nat.le_refl _), fun z => absurd I1.lt (by rw [← z]; exact Nat.lt_irrefl _), I1.nofs (Nat.le_refl _), fun v z => by cases z⟩)
  have hst : starEach [Expr.Constant (Const.str txt) j p3] X.env = (false, eval (Expr.Constant (Const.str txt) j p3) X.env) :: starEach [] X.env := rfl
  refine PySem.W.kxs_callWith (i := "ValueError.__init__") (x := a) (by rfl) ?_
  show wpAny _ _ (evalArgs _ true ((false, eval (Expr.Constant (Const.str txt) j p3) X.env) :: _) []) _ _ _
  refine Calls.evalArgs_plain ?_
  have hpa : L2.PA X [Expr.Constant (Const.str txt) j p3] (tCons (tC (.str txt)) tNil) := pa_cons pe_str pa_nil
  refine thn (hpa.run p4 _ _ _ H (fun vs H' => H' = H ∧ vs = [.str txt]) I3 ⟨rfl, rfl⟩) fun us s4 ⟨vs, H4, I4, r4, eH, ev⟩ => ?_
  subst eH ev
  have hu4 := (I4.pin (h1.objs.size, PySem.W.kxs_mw "ValueError.__init__" a) (by simp)).1
  refine ⟨hu4, ?_⟩
  obtain ⟨t3, ho4⟩ := exo_at I4.hok ea
  have hlen : us.length ≤ sizeLine := by
    rw [← r4.length]
    rw [sizeLine_eq]; exact (by show 1 ≤ _; omega)
  obtain ⟨h4, g4, d4, t4, os4⟩ := s4
  refine wpAny_call (codeAny_of_tree ?_)
  show wpAny _ _ (callAny (.ref h1.objs.size) ⟨us, []⟩) _ _ _
  simp only [callAny]
  refine wpAny_bind (wpAny_load hu4 ?_)
  simp only [PySem.W.kxs_mw, show (Value.type "method-wrapper" == Value.type "method" || Value.type "method-wrapper" == Value.type "builtin_function_or_method" || Value.type "method-wrapper" == Value.type "method-wrapper") = true by decide, if_true]
  refine PySem.W.KFB.if_so (by decide) ?_
  refine wpAny_bind (PySem.W.check_bound_init F.excBase_ValueError.toExcCallFacts (I4.kIn _ _ hC) ho4 rfl ?_)
  refine wpAny_bind (wpAny_pure (wpAny_pure ?_))
  refine ⟨plainId_quiet F.excBase_ValueError.init.plain _, codeAny_builtin F.excBase_ValueError.initEntry ?_⟩
  refine PySem.W.exc_init_tree (cls := .ref C) (t0 := t3) (dv := none) (c2 := .none) (c3 := .none) (b4 := .bool false) ho4 hlen (fun h5 k5 e5 _ => ?_)
  have J5 := I4.write (t' := t4) (x := a) (e := a) (o := exo a C none) (by rw [ea]; exact True.intro) (.inl rfl) k5 ⟨_, e5⟩ (exo_ok e5)
  have eu : upd H4 a (exo a C none) = H4 := by
    funext b
    by_cases hb : b = a
    · rw [hb, upd_same, ea]
    · rw [upd_ne hb]
  rw [eu] at J5
  have J6 : Inv X [] [some (.ref a), some v] H4 _ := J5.pins_of (fun p hp => nomatch hp)
  have hps : PSs X [Stmt.Assign [(Expr.Name "self" p6).Attribute x p7] (Expr.Name x p8) p9] (tOst X.K x (tVar 0) (tVar 1)) :=
    pss_one (ps_ost (pe_var (by rw [hN]; rfl) (by rw [eE]; exact .inl T.ls) (by decide) (by decide)) (pe_var (by rw [hN]; rfl) (by rw [eE]; exact .inl T.lx) T.dx T.dc))
  show _root_.PySem.wpAt _ _ _ _ _ _ _
  refine wpAt_of_wpAny (wpAny_mono (hps.run [] _ _ H4 { nx := fun _ H' => Q .non H', rt := fun _ _ => False } J6 ?_) (fun fl s' hs => ?_) fun e s' hs => ?_)
  · exact ⟨_, rfl, _, rfl, a, C, rfl, S.cls, S.no, .inl ⟨ea, fun dx n ne => q dx n ne⟩⟩
  · cases fl with
    | ret u =>
      obtain ⟨v, σ', H', J, rv, q⟩ := hs
      exact False.elim q
    | next =>
      obtain ⟨σ', H', J, q⟩ := hs
      exact Z s' ⟨σ', H', J, q⟩
    | brk =>
      obtain ⟨_, _, _, q⟩ := hs
      exact False.elim q
    | cont =>
      obtain ⟨_, _, _, q⟩ := hs
      exact False.elim q
  · exact (hxe _ _ hs).elim
end

section
variable {P : Program} {w : World} {K : PySem.W.Frag} {mg : Str → Option Value} {base : Heap}
/-- what the top tells of such a class: at C, its __init__ at fI, its name nm, its field x -/
structure ValC (P : Program) (K : PySem.W.Frag) (mg : Str → Option Value) (C : Addr) (nm x : Str) : Prop where
  gC : mg nm = some (.ref C)
  ini : ∃ (fI cda cc : Addr) (qual : Str) (params : Arguments) (body : List Stmt) (scope : Scope) (kV doc pm ct oc : Value) (an od : Option Addr) (osl : Array (Option Value)),
    K.lookup fI = some ⟨oc, od, .func (PySem.W.ksFn "__init__" qual params body scope .none kV doc pm an (.ref cda) ct cc), osl⟩ ∧ PySem.W.codeIn K (.ref cda) qual = true ∧ IniT x params body scope ∧ SupC P K C cda cc x ∧
    PySem.W.findIn K (.ref C) "__init__" = some (some (.ref fI)) ∧ PySem.W.typeIn K (.ref fI) = some (.type "function") ∧ Binds K (PySem.W.ksFn "__init__" qual params body scope .none kV doc pm an (.ref cda) ct cc) ["self", x] []
  ms : mg "super" = none
  ex : ExcC K C
  sf : PySem.W.subIn K (.ref C) (.ref C) = some true
theorem ValC.oex {C : Addr} {nm x : Str} (T : ValC P K mg C nm x) : OexC K C := by
  obtain ⟨fI, cda, cc, qual, params, body, scope, kV, doc, pm, ct, oc, an, od, osl, _, _, _, S, _⟩ := T.ini
  exact S.cls
theorem ValC.raises {X : Cx} {C : Addr} {nm x : Str} (T : ValC P X.K X.mg C nm x) : Raises X (.ref C) := raises_own T.oex.exC T.oex.tyC
theorem ValC.meets {C : Addr} {nm x : Str} (T : ValC P K mg C nm x) : PySem.W.exmOne K (.ref C) (.ref C) = some true := PySem.W.exm_ref T.ex.hs T.ex.hd T.oex.tyC T.sf
theorem ValC.no {C : Addr} {nm x : Str} (T : ValC P K mg C nm x) : PySem.W.findIn K (.ref C) x = some none := by
  obtain ⟨fI, cda, cc, qual, params, body, scope, kV, doc, pm, ct, oc, an, od, osl, _, _, _, S, _⟩ := T.ini
  exact S.no
theorem ValC.xf {C : Addr} {nm x : Str} (T : ValC P K mg C nm x) : XfC K C := ⟨T.ex.hg, T.ex.hk, T.ex.hs, T.ex.hd⟩
theorem back_to {H1 : Hp} {a d C : Addr} {fs : List (Str × V)} (ha : H1 a = none) (hd : d ≠ a) :
    upd (del (upd (upd (upd H1 a (exo a C none)) d (exd d fs)) a (exo a C (some d))) a) d (.xd fs) = upd H1 d (.xd fs) := by
  funext b
  by_cases h1 : b = d
  · subst h1
    rw [upd_same, upd_same]
  · rw [upd_ne h1, upd_ne h1]
    by_cases h2 : b = a
    · subst h2
      rw [del_same, ha]
    · rw [del_ne h2, upd_ne h2, upd_ne h1, upd_ne h2]
/-- nm(e): the exception, its value -/
theorem pmk_val {X : Cx} {C : Addr} {nm x : Str} {e : Expr} {te : TE} {p pos : Pos} {j : Nat} (T : ValC X.prog X.K X.mg C nm x) (hr : Room j X.A) (hj : 2 ≤ j) (hg : Gl X nm) (he : PE X e te)
    (hdb : (nm == ("__debug__" : Str)) = false := by decide) (hs : starEach [e] X.env = (false, eval e X.env) :: starEach [] X.env := by rfl) :
    PMk X (.Call (.Name nm p) [e] [] pos) (tMkO C (spIni C x) [] (tCons te tNil)) := by
  obtain ⟨fI, cda, cc, qual, params, body, scope, kV, doc, pm, ct, oc, an, od, osl, lk, hcd, iT, S, fi, ti, bi⟩ := T.ini
  have F := fn_sup (P := X.prog) (w := X.w) (base := X.base) (CX := CX0) lk hcd iT S T.ms
  exact pmk_oex (X := X) (p := p) (pos := pos) (x := nm) S.cls fi ti F (hr.mono hj) bi .nil (fun _ _ _ _ _ _ _ z => z.elim) hg T.gC (pa_cons he pa_nil hs) hdb hs
theorem mkv {C : Addr} {x : Str} {v : V} {H1 : Hp} {Q : XK} (h : ∀ d, H1 d = none → Q (.ref C) (some d) (upd H1 d (.xd [(x, v)]))) : [v].length ≤ 1000 ∧ ∀ a, H1 a = none → spIni C x (.ref a :: ([v] ++ [])) (upd H1 a (exo a C none))
    (fun v H2 => v = .non ∧ ∃ (d : Addr) (fs : List (Str × V)), H2 a = some (exo a C (some d)) ∧ H2 d = some (exd d fs) ∧ H1 d = none ∧ Q (.ref C) (some d) (upd (del H2 a) d (.xd fs))) (fun _ _ _ => False) := by
  refine ⟨by show 1 ≤ 1000; decide, fun a ha => ⟨a, v, rfl, upd_same, fun dx hx hne => ⟨rfl, dx, [(x, v)], upd_same, ?_, ?_, ?_⟩⟩⟩
  · rw [upd_ne hne, upd_same]
  · rw [upd_ne hne] at hx
    exact hx
  · rw [back_to ha hne]
    rw [upd_ne hne] at hx
    exact h dx hx
/-! ### isinstance of a caught exception that has its dict -/
/-- in the suite -/
def rIsV (K : PySem.W.Frag) (D a dd : Addr) : List V → Hp → VK → Prop := fun xs H Q => ∃ (c : V) (cv : Value) (b : Bool) (fs : List (Str × V)), xs = [.ref a, c] ∧ (∀ u, RelV c u → u = cv) ∧ PySem.W.kitOne K (.ref D) cv = some b ∧ H dd = some (.xd fs) ∧ Q (.bl b) H
theorem call_isV {X : Cx} {a D dd : Addr} {oe : Obj} {pn : List (Addr × Obj)} (C : ExcC X.K D) (hz : Zc (.ref D) (some dd) oe) (hf : ∃ vs, oe.data = .fields vs) : CallR (X.suite a ((a, oe) :: pn)) (.builtin "isinstance") (rIsV X.K D a dd) := by
  intro pins s σ H xs us Q I r h
  obtain ⟨c, cv, b, fs, rfl, hcv, e, ed, q⟩ := h
  cases r with
  | cons rx rr =>
    cases rr with
    | cons rt rr =>
      cases rr
      cases rx
      obtain ⟨ge, _⟩ := I.pin (a, oe) (List.mem_append.mpr (.inl List.mem_cons_self))
      obtain ⟨vs, hv⟩ := hf
      obtain ⟨mA, hns, _⟩ := (show ObjOk X.prog X.w H s.heap dd (.xd fs) from I.hok dd _ ed)
      obtain ⟨od, _, _, ho, _⟩ := hns
      have J : PySem.W.InstAt s.heap a oe D (some od) := by
        obtain ⟨oc, od', oda, osl⟩ := oe
        obtain ⟨h1, h2⟩ := hz
        dsimp only at h1 h2 hv
        subst h1 h2 hv
        exact ⟨ge, rfl, rfl, ho⟩
      have hcl : (PySem.W.clsIn X.K D).isSome = true := by
        obtain ⟨cd, hc, _⟩ := PySem.W.any_some C.hd
        rw [hc]
        rfl
      have kx := PySem.W.kitx_exc (x := a) (ox := oe) (od := some od) hcl C.hg C.hk C.hs C.ha C.hn C.ht C.hm
      have ec := hcv _ rt
      subst ec
      exact PySem.W.kia_one kx I.kIn J e (fun z => nomatch z) fun tk => ⟨.bl b, H, I.kept (t' := tk) fun _ _ z => z, rfl, q⟩
end
end Lf
namespace Lf
open PySem PySem.Spec PyProof.Rows L2
/-! ### data of any kind -/
mutual
inductive Dv (H : Hp) : V → PyData → Prop
  | non : Dv H .non .none
  | bl (b : Bool) : Dv H (.bl b) (.bool b)
  | int (i : Int) : Dv H (.int i) (.int i)
  | str (x : Str) : Dv H (.str x) (.str x)
  | lst {a : Addr} {xs : List V} {ds : List PyData} : a ≠ 1 → H a = some (.lst xs) → DvAll H xs ds → Dv H (.ref a) (.list ds)
  | tup {a : Addr} {xs : List V} {ds : List PyData} : H a = some (.tup xs) → DvAll H xs ds → Dv H (.ref a) (.tuple ds)
  | dk0 {a : Addr} : H a = some (.dK []) → Dv H (.ref a) (.dict [])
  | dk1 {a : Addr} {x : Str} {v : V} {d : PyData} : H a = some (.dK [(Sum.inr x, v)]) → Dv H v d → Dv H (.ref a) (.dict [(.str x, d)])
inductive DvAll (H : Hp) : List V → List PyData → Prop
  | nil : DvAll H [] []
  | cons {v : V} {vs : List V} {d : PyData} {ds : List PyData} : Dv H v d → DvAll H vs ds → DvAll H (v :: vs) (d :: ds)
end
/-- what such data leans on stays -/
structure Kp (H H' : Hp) : Prop where
  l : ∀ b xs, H b = some (.lst xs) → H' b = some (.lst xs)
  t : ∀ b xs, H b = some (.tup xs) → H' b = some (.tup xs)
  d0 : ∀ b, H b = some (.dK []) → H' b = some (.dK [])
  d1 : ∀ b x v, H b = some (.dK [(Sum.inr x, v)]) → H' b = some (.dK [(Sum.inr x, v)])
theorem Fr.kp {H H' : Hp} (f : Fr H H') : Kp H H' := ⟨f.l, f.t, f.d0, fun b x v h => f.k _ _ h fun _ z => by cases z⟩
theorem ext_kp {H H' : Hp} (e : LamX.ExtN H H') : Kp H H' := ⟨fun _ _ h => e _ _ h (fun _ z => by cases z), fun _ _ h => e _ _ h (fun _ z => by cases z), fun _ h => e _ _ h (fun _ z => by cases z), fun _ _ _ h => e _ _ h (fun _ z => by cases z)⟩
mutual
theorem Dv.kp {H H' : Hp} (f : Kp H H') : ∀ (d : PyData) (v : V), Dv H v d → Dv H' v d
  | .none, _, .non => .non
  | .bool _, _, .bl b => .bl b
  | .int _, _, .int i => .int i
  | .str _, _, .str x => .str x
  | .list ds, _, .lst n h hs => .lst n (f.l _ _ h) (Dv.kpAll f ds _ hs)
  | .tuple ds, _, .tup h hs => .tup (f.t _ _ h) (Dv.kpAll f ds _ hs)
  | .dict [], _, .dk0 h => .dk0 (f.d0 _ h)
  | .dict [(.str _, d)], _, .dk1 h h2 => .dk1 (f.d1 _ _ _ h) (Dv.kp f d _ h2)
theorem Dv.kpAll {H H' : Hp} (f : Kp H H') : ∀ (ds : List PyData) (vs : List V), DvAll H vs ds → DvAll H' vs ds
  | [], _, .nil => .nil
  | d :: ds, _, .cons h hs => .cons (Dv.kp f d _ h) (Dv.kpAll f ds _ hs)
end
theorem Dv.fr {H H' : Hp} (f : Fr H H') (d : PyData) (v : V) (h : Dv H v d) : Dv H' v d := Dv.kp f.kp d v h
section
variable {X : Cx} {pins : List (Addr × Obj)} {σ : L2.St} {H : Hp} {s : Shared}
mutual
theorem Dv.reads (I : Inv X pins σ H s) : ∀ (d : PyData) (v : V) (u : Value), Dv H v d → RelV v u → ∃ as, Reads s.heap u d as ∧ sysModules ∉ as
  | .none, _, _, .non, r => by
    cases r
    exact ⟨_, Reads.none, by simp⟩
  | .bool b, _, _, .bl _, r => by
    cases r
    exact ⟨_, Reads.bool b, by simp⟩
  | .int i, _, _, .int _, r => by
    obtain ⟨t, rfl⟩ := r
    exact ⟨_, Reads.int i t, by simp⟩
  | .str x, _, _, .str _, r => by
    obtain ⟨t, rfl⟩ := r
    exact ⟨_, Reads.str x t, by simp⟩
  | .list ds, _, _, .lst n1 h hs, r => by
    cases r
    obtain ⟨its, rv, ⟨o, n, ho, hc, _, hd⟩, _⟩ := I.list (SqL.of h)
    obtain ⟨as, hr, ns⟩ := Dv.readsAll I ds _ its hs rv
    exact ⟨_, Reads.list ho hc hd hr, fun z => (List.mem_cons.mp z).elim (fun e => n1 e.symm) ns⟩
  | .tuple ds, _, _, .tup h hs, r => by
    cases r
    obtain ⟨its, rv, ⟨o, ho, hc, n, hd⟩, _⟩ := I.tuple (SqT.of h)
    obtain ⟨as, hr, ns⟩ := Dv.readsAll I ds _ its hs rv
    exact ⟨_, Reads.tuple ho hc hd hr, ns⟩
  | .dict [], _, _, .dk0 (a := a) h, r => by
    cases r
    obtain ⟨_, hne, vs, kv, o, es, ep, ho, hx, hd, hk, hp, hn⟩ := (show ObjOk X.prog X.w H s.heap a (.dK []) from I.hok a _ h)
    cases kv
    have he : es.toList = [] := by
      cases hE : es.toList with
      | nil => rfl
      | cons x y => rw [hE] at hp; cases hp
    refine ⟨_, Reads.dict (kvs := []) ho hx.1 hd (by rw [he]; exact .nil) (by rw [he]; exact .nil), ?_⟩
    intro z
    have z' : sysModules = a := by simpa using z
    rw [z'] at hne
    simp at hne
  | .dict [(.str x, d)], _, _, .dk1 (a := a) (v := v) h h2, r => by
    cases r
    obtain ⟨_, hne, vs, kv, o, es, ep, ho, hx, hd, hk, hp, hn⟩ := (show ObjOk X.prog X.w H s.heap a (.dK [(Sum.inr x, v)]) from I.hok a _ h)
    cases kv with
    | @cons _ q _ _ k1 k2 =>
      cases k2
      obtain ⟨qk, qv⟩ := q
      obtain ⟨ek, rv⟩ := k1
      dsimp only at ek rv
      subst ek
      obtain ⟨as, hr, ns⟩ := Dv.reads I d v qv h2 rv
      have hE : ∃ e t, es.toList = [e] ∧ e.key = .str x t ∧ e.val = qv := by
        generalize es.toList = l at hp
        cases hp with
        | @cons e _ es' _ hi hv hr =>
          cases hr
          rcases keyIs_shape (show keyIs (Sum.inr x) e.key = true from hi) with ⟨i, t, z, _⟩ | ⟨y, t, z, ev⟩
          · cases z
          · cases z
            exact ⟨e, t, rfl, ev, hv⟩
      obtain ⟨e, t, hE1, hE2, hE3⟩ := hE
      have q1 : ReadsAll s.heap (es.toList.map (·.key)) [PyData.str x] ([] ++ []) := by
        rw [hE1]
        simp only [List.map_cons, List.map_nil]
        rw [hE2]
        exact .cons (Reads.str x t) .nil
      have q2 : ReadsAll s.heap (es.toList.map (·.val)) [d] (as ++ []) := by
        rw [hE1]
        simp only [List.map_cons, List.map_nil]
        rw [hE3]
        exact .cons hr .nil
      refine ⟨_, Reads.dict (kvs := [(.str x, d)]) ho hx.1 hd q1 q2, fun z => ?_⟩
      have z' : sysModules = a ∨ sysModules ∈ as := by simpa using z
      rcases z' with z' | z'
      · rw [z'] at hne
        simp at hne
      · exact ns z'
theorem Dv.readsAll (I : Inv X pins σ H s) : ∀ (ds : List PyData) (vs : List V) (us : List Value), DvAll H vs ds → Vals vs us → ∃ as, ReadsAll s.heap us ds as ∧ sysModules ∉ as
  | [], _, _, .nil, r => by
    cases r
    exact ⟨_, ReadsAll.nil, by simp⟩
  | d :: ds, _, _, .cons h1 h2, r => by
    cases r with
    | cons r1 r2 =>
      obtain ⟨as, q1, n1⟩ := Dv.reads I d _ _ h1 r1
      obtain ⟨bs, q2, n2⟩ := Dv.readsAll I ds _ _ h2 r2
      exact ⟨_, ReadsAll.cons q1 q2, fun z => (List.mem_append.mp z).elim n1 n2⟩
end
end
/-- repr of such data -/
theorem repr_any {X : Cx} (gd : X.A.guards = some []) (hu : X.A.units + 70 < cLine) : CallR X (.builtin "repr") (fun xs H Q => ∃ (v : V) (d : PyData), xs = [v] ∧ Dv H v d ∧ d.showable = true ∧ d.depth ≤ 60 ∧ d.shown.length ≤ sizeLine ∧ Q (.str d.shown) H) := by
  intro pins s σ H xs us Q I rel h
  obtain ⟨v, d, rfl, dp, sw, dd, sz, hq⟩ := h
  obtain ⟨u, hu1, ru⟩ := vals1 rel
  subst hu1
  obtain ⟨as, rd, hsm⟩ := Dv.reads I d v u dp ru
  have big : ∀ a, u = Value.ref a → wpAny (model X.prog X.w) X.A (call (.builtin "repr") [u]) (EP X pins σ Q) X.xe s := fun a ea => by
    subst ea
    refine repr_of_reads' rd sw (fun _ => hsm) gd (by omega) (fun _ _ e => e) (fun h' u tk hk => ?_) sz
    exact ⟨.str d.shown, H, I.kept hk, ⟨u, rfl⟩, hq⟩
  cases dp with
  | non =>
    have eu : u = Value.none := ru
    subst eu
    exact PySem.P.repr_of_none ⟨.str "None", H, I.tok _, ⟨_, rfl⟩, hq⟩
  | bl b =>
    have eu : u = Value.bool b := ru
    subst eu
    refine PySem.P.repr_of_bool ⟨.str (if b then "True" else "False"), H, I.tok _, ⟨_, rfl⟩, ?_⟩
    cases b <;> exact hq
  | int i =>
    obtain ⟨t, rfl⟩ := ru
    refine PySem.P.repr_of_int (by simpa [PyData.showable] using sw) ⟨.str (toString i), H, I.tok _, ⟨_, rfl⟩, hq⟩
  | str x =>
    obtain ⟨t, rfl⟩ := ru
    exact PySem.P.repr_of_str ⟨.str (reprText x), H, I.tok _, ⟨_, rfl⟩, hq⟩ sz
  | lst _ h hs => exact big _ ru
  | tup h hs => exact big _ ru
  | dk0 h => exact big _ ru
  | dk1 h h2 => exact big _ ru
/-- the name of its type -/
def tyN : PyData → String
  | .none => "NoneType"
  | .bool _ => "bool"
  | .int _ => "int"
  | .str _ => "str"
  | .list _ => "list"
  | .tuple _ => "tuple"
  | .dict _ => "dict"
def isB : PyData → Bool
  | .bool _ => true
  | _ => false
def isIB : PyData → Bool
  | .bool _ => true
  | .int _ => true
  | _ => false
/-- an integer, not a bool -/
def isI : PyData → Bool
  | .int _ => true
  | _ => false
theorem Dv.ty {K : PySem.W.Frag} {H : Hp} {v : V} {d : PyData} (h : Dv H v d) : TyX K H v (.type (tyN d)) := by
  cases h with
  | non => exact .base .non
  | bl b => exact .base (.bl b)
  | int i => exact .base (.int i)
  | str x => exact .base (.str x)
  | lst _ h _ => exact .base (.lst h)
  | tup h _ => exact .base (.tup h)
  | dk0 h => exact .base (.dK h)
  | dk1 h _ => exact .base (.dK h)
theorem kit_int (d : PyData) : kitB (tyN d) "int" = some (isIB d) := by
  cases d
  · show kitB "NoneType" "int" = some false; decide +kernel
  · show kitB "bool" "int" = some true; decide +kernel
  · show kitB "int" "int" = some true; decide +kernel
  · show kitB "str" "int" = some false; decide +kernel
  · show kitB "list" "int" = some false; decide +kernel
  · show kitB "tuple" "int" = some false; decide +kernel
  · show kitB "dict" "int" = some false; decide +kernel
theorem kit_bool (d : PyData) : kitB (tyN d) "bool" = some (isB d) := by
  cases d
  · show kitB "NoneType" "bool" = some false; decide +kernel
  · show kitB "bool" "bool" = some true; decide +kernel
  · show kitB "int" "bool" = some false; decide +kernel
  · show kitB "str" "bool" = some false; decide +kernel
  · show kitB "list" "bool" = some false; decide +kernel
  · show kitB "tuple" "bool" = some false; decide +kernel
  · show kitB "dict" "bool" = some false; decide +kernel
/-- a new list is not where the modules are -/
def tLst1 (t : TA) : TE := fun σ H Q => t σ H fun xs H1 => xs.length ≤ sizeLine ∧ ∀ l, H1 l = none → l ≠ 1 → Q (.ref l) (upd H1 l (.lst xs))
theorem pe_lst1 {X : Cx} {es : List Expr} {t : TA} {pos : Pos} (h : L2.PA X es t) : PE X (.List es pos) (tLst1 t) := by
  constructor
  intro pins s σ H Q I hq
  refine wpAny_List_spliced (thn (h.run pos pins s σ H _ I hq) fun us s1 ⟨xs, H1, J, r, z, q⟩ => ?_)
  refine ⟨r.length ▸ z, ?_⟩
  have fresh := J.hok.fresh (Nat.le_refl s1.heap.objs.size)
  have n1 : s1.heap.objs.size ≠ 1 := by
    obtain ⟨o, _, _, e, _⟩ := J.mod.glob
    have lt := Heap.lt_size (J.bk _ _ e)
    intro c
    rw [c] at lt
    exact absurd lt (by decide)
  refine ⟨.ref s1.heap.objs.size, upd H1 s1.heap.objs.size (.lst xs), ?_, rfl, q _ fresh n1⟩
  exact J.laid (t' := s1.toks) (fun b u e => Heap.get?_push_of_some _ e) (Nat.le_refl _) ⟨z, us, 0, r, Heap.get?_push_size _ rfl⟩
end Lf
namespace Lf
open PySem PySem.Spec PyProof.Rows L2
/-! ### data of any kind at any address: where the modules are known to stand, nothing tracked is there -/
mutual
inductive DvF (H : Hp) : V → PyData → Prop
  | non : DvF H .non .none
  | bl (b : Bool) : DvF H (.bl b) (.bool b)
  | int (i : Int) : DvF H (.int i) (.int i)
  | str (x : Str) : DvF H (.str x) (.str x)
  | lst {a : Addr} {xs : List V} {ds : List PyData} : H a = some (.lst xs) → DvFAll H xs ds → DvF H (.ref a) (.list ds)
  | tup {a : Addr} {xs : List V} {ds : List PyData} : H a = some (.tup xs) → DvFAll H xs ds → DvF H (.ref a) (.tuple ds)
  | dk0 {a : Addr} : H a = some (.dK []) → DvF H (.ref a) (.dict [])
  | dk1 {a : Addr} {x : Str} {v : V} {d : PyData} : H a = some (.dK [(Sum.inr x, v)]) → DvF H v d → DvF H (.ref a) (.dict [(.str x, d)])
inductive DvFAll (H : Hp) : List V → List PyData → Prop
  | nil : DvFAll H [] []
  | cons {v : V} {vs : List V} {d : PyData} {ds : List PyData} : DvF H v d → DvFAll H vs ds → DvFAll H (v :: vs) (d :: ds)
end
mutual
theorem DvF.dv {H : Hp} (n : H 1 = none) : ∀ (d : PyData) (v : V), DvF H v d → Dv H v d
  | .none, _, .non => .non
  | .bool _, _, .bl b => .bl b
  | .int _, _, .int i => .int i
  | .str _, _, .str x => .str x
  | .list ds, _, .lst (a := a) h hs => .lst (fun e => by subst e; rw [n] at h; cases h) h (DvFAll.dv n ds _ hs)
  | .tuple ds, _, .tup h hs => .tup h (DvFAll.dv n ds _ hs)
  | .dict [], _, .dk0 h => .dk0 h
  | .dict [(.str _, d)], _, .dk1 h g => .dk1 h (DvF.dv n d _ g)
theorem DvFAll.dv {H : Hp} (n : H 1 = none) : ∀ (ds : List PyData) (vs : List V), DvFAll H vs ds → DvAll H vs ds
  | [], _, .nil => .nil
  | d :: ds, _, .cons h hs => .cons (DvF.dv n d _ h) (DvFAll.dv n ds _ hs)
end
theorem dvf_ints {H : Hp} : ∀ ns : List Int, DvFAll H (ns.map V.int) (ns.map PyData.int)
  | [] => .nil
  | _ :: r => .cons (.int _) (dvf_ints r)
/-- repr of such data, where the base has the table of modules -/
theorem repr_any1 {X : Cx} (h1 : ∃ o, X.base.get? 1 = some o) (gd : X.A.guards = some []) (hu : X.A.units + 70 < cLine) : CallR X (.builtin "repr") (fun xs H Q => ∃ (v : V) (d : PyData), xs = [v] ∧ DvF H v d ∧ d.showable = true ∧ d.depth ≤ 60 ∧ d.shown.length ≤ sizeLine ∧ Q (.str d.shown) H) := by
  intro pins s σ H xs us Q I rel h
  obtain ⟨v, d, e, dp, sw, dd, sz, hq⟩ := h
  obtain ⟨o, ho⟩ := h1
  exact repr_any gd hu pins s σ H xs us Q I rel ⟨v, d, e, DvF.dv (I.bs 1 o ho).2 d v dp, sw, dd, sz, hq⟩
end Lf
namespace Lf
open PySem PySem.Spec PyProof.Rows L2
/-! ### enumerate of a tuple; of a list or a tuple -/
set_option maxHeartbeats 4000000 in
theorem meets_enum1 {v : Value} {o : Obj} {G : Heap → Prop} (B : Begins v o G) :
    Meets (Builtin.«enumerate.__new__» ⟨[.type "enumerate", v], []⟩) (fun _ R s => G s.heap ∧
      R (.ok (.ret (.ref (s.heap.push o).objs.size))) { s with heap := (s.heap.push o).push { cls := .type "enumerate", data := .fields #[.none, .bool false, .ref s.heap.objs.size, rawInt 0, .none, .none] } }) :=
  .of_wp fun prog w A R s h => by
    obtain ⟨hp, g, d, tk, os⟩ := s
    obtain ⟨h1, h⟩ := h
    have hsub := sub_enumerate
    have q1 : ∀ {A' : Around} {E : Value → Shared → Prop} {Q : Value → Shared → Prop}, Q (.ref hp.objs.size) ⟨hp.push o, g, d, tk, os⟩ → wpAny (model prog w) A' (pyIter v) Q E ⟨hp, g, d, tk, os⟩ :=
      fun q => B.iter prog w _ _ ⟨hp, g, d, tk, os⟩ _ h1 q
    wp_walk using q1
    refine wpAny_stack_any fun st => wpAny_pure ?_
    split
    · rename_i c _ _ _ _ _
      cases (c == Value.type "enumerate")
      · wp_walk using q1
        exact ⟨_, rfl, h⟩
      · wp_walk using q1
        exact ⟨_, rfl, h⟩
    · wp_walk using q1
      exact ⟨_, rfl, h⟩
theorem enum_begins1 {prog : Program} {w : World} {A : Around} {E : Value → Shared → Prop} {s : Shared} {v : Value} {o : Obj} {G : Heap → Prop} {Q : Value → Shared → Prop} (B : Begins v o G) (h1 : G s.heap)
    (h : ∀ h', IsEnum h' (s.heap.objs.size + 1) s.heap.objs.size 0 .none → h'.get? s.heap.objs.size = some o → h'.objs.size = s.heap.objs.size + 2 →
      (∀ b o, s.heap.get? b = some o → h'.get? b = some o) → Q (.ref (s.heap.objs.size + 1)) { s with heap := h' }) :
    wpAny (model prog w) A (call (.type "enumerate") [v]) Q E s := by
  refine callType_new F.called_enumerate (by decide) (F.typeCall_enumerate_1 _) (F.newCall_enumerate_1 _) (fun obj => F.args_object_init_2 obj _) F.entry_enumerate_new
    (meets_enum1 B) ⟨h1, ?_⟩
  have hz : (s.heap.push o).objs.size = s.heap.objs.size + 1 := Heap.size_push ..
  show _ ∧ _
  rw [hz]
  have he : IsEnum ((s.heap.push o).push { cls := .type "enumerate", data := .fields #[.none, .bool false, .ref s.heap.objs.size, rawInt 0, .none, .none] }) (s.heap.objs.size + 1) s.heap.objs.size 0 .none := by
    have := Heap.get?_push_size (s.heap.push o) (o := { cls := .type "enumerate", data := .fields #[.none, .bool false, .ref s.heap.objs.size, rawInt 0, .none, .none] }) rfl
    rw [hz] at this
    exact this
  exact ⟨⟨_, he, rfl⟩, h _ he (Heap.get?_push_of_some _ (Heap.get?_push_size _ B.free)) (by rw [Heap.size_push, hz]) fun b o x => Heap.get?_push_of_some _ (Heap.get?_push_of_some _ x)⟩
def IteT (K : PySem.W.Frag) (a : Addr) : It :=
  ⟨fun i H => ∃ (xs : List V) (x : V), SqT K H a xs ∧ xs[i]? = some x, fun i H v H' => ∃ T x, v = .ref T ∧ H T = none ∧ H' = upd H T (.tup [.int (i : Nat), x]) ∧ ∀ xs, SqT K H a xs → xs[i]? = some x, fun i H => ∃ xs : List V, SqT K H a xs ∧ xs.length = i⟩
theorem turn_enumT {P : Program} {w : World} {K : PySem.W.Frag} {elts : List Expr} {kk : Nat} {tpos : Pos} (a e it : Addr) (ne1 : e ≠ it) (ne2 : a ≠ it) (ne3 : e ≠ a) :
    Turn P w K (.Tuple elts kk tpos) (IteT K a) [e, it] e (fun i h => (∃ old, IsEnum h e it ((i : Nat) : Int) old) ∧ h.IsTupleIter it a i) where
  mem := by simp
  obj := fun i h st b hb => by
    obtain ⟨⟨old, he⟩, ⟨o, ho, hc, hd⟩⟩ := st
    have e' : b = e ∨ b = it := by simpa using hb
    rcases e' with z | z
    · rw [z]; exact ⟨_, he, fun v q => nomatch q⟩
    · rw [z]; exact ⟨o, ho, fun v q => by rw [hd] at q; cases q⟩
  keep := fun i h h' st k => let ⟨⟨old, he⟩, hi⟩ := st; ⟨⟨old, k e (by simp) _ he⟩, hi.at fun o q => k it (by simp) o q⟩
  item := by
    intro X hP hw hK hc i pins s σ H E I hf st hg
    subst hP hw hK
    obtain ⟨⟨old, he⟩, hit⟩ := st
    obtain ⟨xs, x, hq, hx⟩ := hg
    obtain ⟨its, rv, p, hz⟩ := I.tuple hq
    obtain ⟨u, hu, ru⟩ := rv.get hx
    have hel : e < s.heap.objs.size := Heap.lt_size he
    have hil : it < s.heap.objs.size := by obtain ⟨_, q, _⟩ := hit; exact Heap.lt_size q
    have hlt : i < its.toArray.size := by
      have := (List.getElem?_eq_some_iff.mp hu).1
      simpa using this
    have D := Draws.tuple (prog := X.prog) (w := X.w) (A := X.A.in1) (I.ok.hd hc) it a ne2 its.toArray
    refine wpAny_pyNext_enum_itemD D he ⟨hit, p⟩ hlt ne1 (by simp [ne1, ne3]) fun x' h' tk hP ho hit' hT hsz hk => ?_
    have eu : x' = u := by
      have hP : its.toArray[i]? = some x' := hP
      rw [show its.toArray[i]? = some u by simpa using hu] at hP
      exact (Option.some.inj hP).symm
    subst eu
    refine ⟨_, rfl, wpAny_letOwnedTupleGo_enum (s := { s with heap := h', toks := tk + 1 }) ho fun h'' he' sb => ?_⟩
    have hT2 : h''.get? s.heap.objs.size = some { cls := .type "tuple", data := .seq #[.int i tk, x'] } := (sb.2 _ (Nat.ne_of_gt hel)).trans hT
    have new : ObjOk X.prog X.w (upd H s.heap.objs.size (.tup [.int (i : Nat), x])) h'' s.heap.objs.size (.tup [.int (i : Nat), x]) :=
      ⟨by show 2 ≤ sizeLine; decide, [.int i tk, x'], .cons ⟨_, rfl⟩ (.cons ru .nil), ⟨_, hT2, rfl, _, rfl⟩⟩
    have I1 : Inv X pins σ (upd H s.heap.objs.size (.tup [.int (i : Nat), x])) { s with heap := h'', toks := tk + 1 } :=
      I.turnedNew (ch := [e, it]) (fun b ob hb q => (sb.2 b (fun z => hb (by simp [z]))).trans (hk b ob (fun z => hb (by simp [z])) (fun z => hb (by simp [z])) q)) hf (Nat.le_refl _) new
    refine ⟨.ref s.heap.objs.size, _, I1, rfl, ⟨_, x, rfl, I.hok.fresh (Nat.le_refl _), rfl, fun ys hy => by rw [I.tuple_inj hy hq]; exact hx⟩, ⟨⟨x', ?_⟩, hit'.1.at fun o q => (sb.2 it (Ne.symm ne1)).trans q⟩, fun b hb => ?_⟩
    · have e1 : ((i + 1 : Nat) : Int) = (i : Int) + 1 := by omega
      rw [e1]; exact he'
    · have hb' : b < s.heap.objs.size := by
        have e' : b = e ∨ b = it := by simpa using hb
        rcases e' with z | z
        · rw [z]; exact hel
        · rw [z]; exact hil
      rw [upd_ne (Nat.ne_of_lt hb')]
      exact (hf b hb).1
  done := by
    intro X hP hw hK hc i pins s σ H E I hf st hg
    subst hP hw hK
    obtain ⟨⟨old, he⟩, hit⟩ := st
    obtain ⟨xs, hq, hx⟩ := hg
    obtain ⟨its, rv, p, hz⟩ := I.tuple hq
    obtain ⟨f0, f1, f2, f3, f4, f5⟩ := hf it (by simp)
    have hl := rv.length
    have ei : i = its.toArray.size := by
      simp
      omega
    have D := Draws.tuple (prog := X.prog) (w := X.w) (A := X.A.in1) (I.ok.hd hc) it a ne2 its.toArray
    refine wpAny_pyNext_enum_endD D he ⟨ei ▸ hit, p⟩ fun h' eb => ⟨rfl, I.turned (t' := s.toks) (fun b o hb q => eb b o hb q) f0 f1 f3 f4 f5⟩
  self := fun A i s Q E st h => let ⟨⟨_, he⟩, _⟩ := st; wpAny_pyIter_enum he h
/-! ### a list or a tuple -/
def SqB (K : PySem.W.Frag) : Bool → Hp → Addr → List V → Prop
  | true => SqL K
  | false => SqT K
def sqO : Bool → List V → HO
  | true, xs => .lst xs
  | false, xs => .tup xs
theorem SqB.of {K : PySem.W.Frag} {b : Bool} {H : Hp} {a : Addr} {xs : List V} (h : H a = some (sqO b xs)) : SqB K b H a xs := by
  cases b
  · exact SqT.of h
  · exact SqL.of h
def Itb (K : PySem.W.Frag) : Bool → Addr → It
  | true => Itl K
  | false => Itt K
def IteB (K : PySem.W.Frag) : Bool → Addr → It
  | true => Ite K
  | false => IteT K
theorem walk_seq {K : PySem.W.Frag} {b : Bool} {a : Addr} {xs : List V} : Walk (Itb K b a) xs.length (fun H => SqB K b H a xs) (YAt xs) := by
  cases b
  · exact walk_tup
  · exact walk_list
theorem walk_enumT {K : PySem.W.Frag} {a : Addr} {xs : List V} : Walk (IteT K a) xs.length (fun H => SqT K H a xs) (YPair (fun i => some (.int (i : Nat))) (fun i => xs[i]?)) := by
  refine ⟨fun i _ hi q => ⟨xs, xs[i], q, by simp [hi]⟩, fun _ q => ⟨xs, q, rfl⟩, fun i H v H' _ q y => ?_⟩
  obtain ⟨T, x, h1, h2, h3, h4⟩ := y
  exact ⟨T, .int (i : Nat), x, h1, h2, h3, rfl, h4 xs q⟩
theorem walk_enumB {K : PySem.W.Frag} {b : Bool} {a : Addr} {xs : List V} : Walk (IteB K b a) xs.length (fun H => SqB K b H a xs) (YPair (fun i => some (.int (i : Nat))) (fun i => xs[i]?)) := by
  cases b
  · exact walk_enumT
  · exact walk_enum
def iSeq (K : PySem.W.Frag) (tl : TE) : TI := fun σ H R => tl σ H fun x H1 => ∃ a b xs, x = .ref a ∧ SqB K b H1 a xs ∧ R (Itb K b a) H1
theorem pi_seq {X : Cx} {tg l : Expr} {tl : TE} (hl : PE X l tl) : PI X tg l (iSeq X.K tl) := by
  refine ⟨fun pins s σ H R I h => ?_⟩
  refine thn (hl.run pins s σ H _ I h) fun v s1 ⟨x, H1, I1, r1, q1⟩ => ?_
  obtain ⟨a, b, xs, e, hq, q⟩ := q1
  subst e
  cases r1
  cases b with
  | true =>
    obtain ⟨its, rv, p, hz⟩ := I1.list hq
    refine wpAny_pyIter_list p.isList ?_
    refine ⟨s1.heap.objs.size, [s1.heap.objs.size], _, _, H1, rfl, I1.kept (t' := s1.toks) fun b o e => Heap.get?_push_of_some _ e, turn_list a _, ⟨_, Heap.get?_push_size _ rfl, rfl, rfl⟩, fun b hb => ?_, q⟩
    have e : b = s1.heap.objs.size := by simpa using hb
    subst e
    exact I1.fpOk (Nat.le_refl _) (I1.hok.fresh (Nat.le_refl _))
  | false =>
    obtain ⟨its, rv, p, hz⟩ := I1.tuple hq
    refine wpAny_pyIter_tuple (show s1.heap.IsTuple a its.toArray from p) ?_
    refine ⟨s1.heap.objs.size, [s1.heap.objs.size], _, _, H1, rfl, I1.kept (t' := s1.toks) fun b o e => Heap.get?_push_of_some _ e, turn_tuple a _, ⟨_, Heap.get?_push_size _ rfl, rfl, rfl⟩, fun b hb => ?_, q⟩
    have e : b = s1.heap.objs.size := by simpa using hb
    subst e
    exact I1.fpOk (Nat.le_refl _) (I1.hok.fresh (Nat.le_refl _))
def iEnumB (K : PySem.W.Frag) (ta : TA) : TI := fun σ H R => ta σ H fun vs H1 => ∃ a b xs, vs = [.ref a] ∧ SqB K b H1 a xs ∧ R (IteB K b a) H1
theorem pi_enumB {X : Cx} {e : Expr} {ta : TA} {p pos tpos : Pos} {elts : List Expr} {kk : Nat} (hg : Gl X "enumerate") (hm : X.mg "enumerate" = none) (ha : L2.PA X [e] ta) (hs : starEach [e] X.env = [(false, eval e X.env)] := by rfl) :
    PI X (.Tuple elts kk tpos) (.Call (.Name "enumerate" p) [e] [] pos) (iEnumB X.K ta) := by
  refine ⟨fun pins s σ H R I h => ?_⟩
  refine Call_ (ld_blt I hg hm boot_enumerate (PyProof.Rows.callWith_type1 (thn (ha.run pos pins s σ H _ I h) fun us s1 ⟨vs, H1, I1, r1, q1⟩ => ?_) hs rfl))
  obtain ⟨a, b, xs, ex, hq, q⟩ := q1
  subst ex
  cases r1 with
  | cons r rr =>
    cases rr
    cases r
    cases b with
    | true =>
      obtain ⟨its, rv, p', hz⟩ := I1.list hq
      refine call_enumerate_list p'.isList fun h' he hit hsz hk => wpAny_pyIter_enum he ?_
      have I2 : Inv X pins σ H1 { s1 with heap := h' } := I1.kept (t' := s1.toks) hk
      refine ⟨s1.heap.objs.size + 1, [s1.heap.objs.size + 1, s1.heap.objs.size], _, _, H1, rfl, I2, turn_enum a (s1.heap.objs.size + 1) s1.heap.objs.size, ⟨⟨.none, he⟩, hit, Nat.succ_ne_self _⟩, fun b hb => ?_, q⟩
      have e' : b = s1.heap.objs.size + 1 ∨ b = s1.heap.objs.size := by simpa using hb
      have hle : s1.heap.objs.size ≤ b := by
        rcases e' with z | z
        · rw [z]; exact Nat.le_add_right _ _
        · rw [z]; exact Nat.le_refl _
      exact I1.fpOk hle (I1.hok.fresh hle)
    | false =>
      obtain ⟨its, rv, p', hz⟩ := I1.tuple hq
      have hal : a < s1.heap.objs.size := by
        obtain ⟨_, q, _⟩ := p'
        exact Heap.lt_size q
      refine enum_begins1 (begins_tuple a its.toArray) p' fun h' he hit hsz hk => wpAny_pyIter_enum he ?_
      have I2 : Inv X pins σ H1 { s1 with heap := h' } := I1.kept (t' := s1.toks) hk
      refine ⟨s1.heap.objs.size + 1, [s1.heap.objs.size + 1, s1.heap.objs.size], _, _, H1, rfl, I2, turn_enumT a (s1.heap.objs.size + 1) s1.heap.objs.size (Nat.succ_ne_self _) (Nat.ne_of_lt hal) (Nat.ne_of_gt (Nat.lt_succ_of_lt hal)), ⟨⟨.none, he⟩, ⟨_, hit, rfl, rfl⟩⟩, fun b hb => ?_, q⟩
      have e' : b = s1.heap.objs.size + 1 ∨ b = s1.heap.objs.size := by simpa using hb
      have hle : s1.heap.objs.size ≤ b := by
        rcases e' with z | z
        · rw [z]; exact Nat.le_add_right _ _
        · rw [z]; exact Nat.le_refl _
      exact I1.fpOk hle (I1.hok.fresh hle)
end Lf
namespace Lf
open PySem PySem.Spec PyProof.Rows L2
section
variable {P : Program} {w : World} {K : PySem.W.Frag} {mg : Str → Option Value} {base : Heap}
/-! ### _law_draw -/
theorem at_mod (cs : List Int) (t : Int) (h : cs ≠ []) : ∃ c, atI (cs.map V.int) (t % ((cs.map V.int).length : Int)) = some (.int c) := by
  have hl : 0 < cs.length := List.length_pos_iff.mpr h
  rw [List.length_map]
  have h0 := Int.emod_nonneg t (show (cs.length : Int) ≠ 0 by omega)
  have h1 := Int.emod_lt_of_pos t (show (0 : Int) < cs.length by omega)
  generalize t % (cs.length : Int) = i at h0 h1
  obtain ⟨j, rfl⟩ := Int.eq_ofNat_of_zero_le h0
  have hj : j < cs.length := by omega
  refine ⟨cs[j], atI_nat ?_⟩
  rw [List.getElem?_map, List.getElem?_eq_getElem hj]
  rfl
theorem dp_ints {K : PySem.W.Frag} {H : Hp} : ∀ cs : List Int, DpAll K H (cs.map V.int) (cs.map PyData.int)
  | [] => .nil
  | c :: r => .cons (.int c) (dp_ints r)
theorem sh_ints (cs : List Int) : SeqAt.shaped (.list (cs.map PyData.int)) = true := by
  have h : ∀ cs : List Int, PyData.canLayAll0 (cs.map PyData.int) = true ∧ PyData.depthAll (cs.map PyData.int) = 0 := by
    intro cs
    induction cs with
    | nil => exact ⟨rfl, rfl⟩
    | cons c r ih => exact ⟨by simpa [PyData.canLayAll0, PyData.canLay0] using ih.1, by simpa [PyData.depthAll, PyData.depth] using ih.2⟩
  simp [SeqAt.shaped, PyData.canLay0, PyData.depth, (h cs).1, (h cs).2]
def spDraw : Sp := fun vs H Q _ => ∃ (a : PA) (n : Nat) (many : Int), vs = [.ref a, .int many] ∧ Pen H a n ∧ n < 2 ^ 40 ∧ 0 < many ∧ Bd 9000 many ∧
  ∀ d H', 0 ≤ d → d < many → Pen H' a (n + 1) → Fr H H' → Q (.int d) H'
end
end Lf
namespace Lf
open PySem PySem.Spec PyProof.Rows L2
/-! ### powers of any size that fits -/
def CPowW (i j : Int) : Prop := 0 ≤ j ∧ (Builtin.Int.intBits i : Int) * j ≤ 2 ^ 27
theorem op_powW {X : Cx} : OpR X (binaryOp .Pow) (rI CPowW fun i j => .int (i ^ j.toNat)) := opI fun _ _ _ _ _ _ _ hc q => pow_int hc.1 hc.2 q
section
variable {P : Program} {w : World} {K : PySem.W.Frag} {mg : Str → Option Value} {base : Heap}
/-! ### _law_start -/
def spStart (K : PySem.W.Frag) : Sp := fun vs H Q _ => ∃ (s : Addr) (ns : List Int), vs = [.ref s] ∧ SqL K H s (ns.map V.int) ∧ ∀ (a : PA) H', Pen H' a 0 → Same H H' → Q (.ref a) H'
abbrev s_l_start : Stmt := topS 20
abbrev N_l_start : List Str := ["_law_script", "_law_limit", "_law_cell"]
abbrev P_l_start : List Str := ["_law_script"]
theorem sc_l_start : FnScope N_l_start P_l_start (defScope s_l_start) := ⟨rfl, rfl, rfl, by decide +kernel, rfl, by decide +kernel, by decide +kernel⟩
theorem ok_l_start (D : Df K mg "_law_start" s_l_start P_l_start) (B : Bi mg) : C8.Cal P w K mg base 1 "_law_start" (spStart K) [] := by
  refine cal_of D sc_l_start (fun vs H Q E h => ?_) (fun f cdv A outer s H vs Q E hr h => ?_)
  · obtain ⟨a, ns, rfl, _⟩ := h
    rfl
  · obtain ⟨a, ns, rfl, hS, q⟩ := h
    refine ⟨_, (C8.pss_cut (ps_set (i := 1) sc_l_start.nd rfl (Or.inr rfl) (pe_op op_powW (pe_op op_pow pe_int pe_int) pe_int))
    (pss_one (ps_ret (pe_disp (pps_cons pe_str (pe_lc (own := [("_law_cell", 2)]) (g := (gName 2)) (by rfl) sc_l_start.nd (pi_list (pe_slice sl_list (pv 0) po_none (po_some pe_int))) (blkOk_by (own := [("_law_cell", 2)]) (N := N_l_start) (sc := defScope s_l_start) (by decide +kernel)) (fun _ _ _ _ _ => (pg_name (i := 2) sc_l_start.nd rfl (Or.inl rfl))) (fun _ _ _ _ _ => pts_nil) (fun _ _ _ _ _ => (pe_ifExp (pt_cmpR op_ge (pe_callB (call_abs) (by rfl) B.abs_ bt_abs (pa_cons (pv 2) pa_nil)) (pe_op op_pow pe_int pe_int) (nomark _)) (pe_op op_mod (pe_callB (call_abs) (by rfl) B.abs_ bt_abs (pa_cons (pv 2) pa_nil)) (pv 1)) (pv 2)))) (pps_cons pe_str pe_int (pps_cons pe_str pe_int pps_nil))) (by rfl) (by rfl) (fun z => by cases z) (by decide))))), ?_⟩
    refine ⟨fun σ' H' => ∃ lim : Int, 0 < lim ∧ σ' = [some (.ref a), some (.int lim), none] ∧ H' = H, ?_, ?_⟩
    · refine ⟨_, _, rfl, rfl, ⟨by decide, by decide, by decide⟩, _, _, rfl, rfl, ⟨by decide, by decide +kernel⟩, ?_⟩
      exact ⟨_, Int.pow_pos (Int.pow_pos (by decide)), rfl, rfl⟩
    rintro σ' H1 ⟨lim, l0, rfl, rfl⟩
    refine fun p np => ?_
    have s1 : Same H1 (upd H1 p (.dK [])) := sm_upd np
    have ep := upd_same (H := H1) (a := p) (o := .dK [])
    refine ⟨_, rfl, 63, rfl, a, _, rfl, s1.seq hS, fun c nc => ?_⟩
    obtain ⟨cs, ec, hc⟩ := cut_ints ns
    rw [ec]
    have s2 := sm_upd (o := .lst (cs.map V.int)) nc
    have ec2 := upd_same (H := upd H1 p (.dK [])) (a := c) (o := .lst (cs.map V.int))
    have ep := s2 _ _ ep
    have s12 := s1.trans s2
    generalize upd (upd H1 p (.dK [])) c (.lst (cs.map V.int)) = H2 at ep ec2 s12 ⊢
    refine ⟨c, rfl, ⟨_, SqL.of ec2⟩, fun Y nY => ?_⟩
    have npY : p ≠ Y := ne_of_none ep nY
    refine lc_it (walk_list (K := K) (a := c) (xs := cs.map V.int)) (fun i H' => ∃ zs : List Int, H' Y = some (.lst (zs.map V.int)) ∧ zs.length ≤ i ∧ Same H2 H') ⟨[], upd_same, Nat.le_refl _, sm_upd nY⟩ ?_ ?_ ?_
    · rintro i H7 _ ⟨_, _, _, s7⟩
      exact SqL.of (s7 _ _ ec2)
    · rintro i x _ H7 hi ⟨zs, eY, lz, s7⟩ ⟨rfl, hx⟩
      have hi6 : i < cs.length := by
        have := (List.getElem?_eq_some_iff.mp hx).1
        rwa [List.length_map] at this
      obtain ⟨z, rfl⟩ : ∃ z, x = V.int z := by
        obtain ⟨z, _, e⟩ := List.mem_map.mp (List.mem_of_getElem? hx)
        exact ⟨z, e.symm⟩
      have fin : ∀ y : Int, ∃ acc, H7 Y = some (.lst acc) ∧ acc.length < sizeLine ∧ (fun i H' => ∃ zs : List Int, H' Y = some (.lst (zs.map V.int)) ∧ zs.length ≤ i ∧ Same H2 H') (i + 1) (upd H7 Y (.lst (acc ++ [.int y]))) := fun y => by
        refine ⟨zs.map V.int, eY, small1000 (by rw [List.length_map]; omega), zs ++ [y], ?_, by rw [List.length_append]; show zs.length + 1 ≤ _; omega, fun b o eb => ?_⟩
        · rw [upd_same, List.map_append]
          rfl
        · rw [upd_ne (ne_of_none eb nY)]
          exact s7 _ _ eb
      refine ⟨rfl, _, rfl, z, rfl, _, _, rfl, rfl, ⟨by decide, by decide, by decide⟩, _, _, rfl, rfl, _, rfl, ite2 (fun _ => ?_) (fun _ => ?_)⟩
      · refine ⟨_, rfl, z, rfl, _, rfl, _, _, rfl, rfl, l0, ?_⟩
        exact fin _
      · exact ⟨_, rfl, fin _⟩
    rintro H7 ⟨zs, eY, lz, s7⟩
    have lz : zs.length ≤ 63 := by rw [List.length_map] at lz; omega
    refine ⟨s7 _ _ ep, penD Y 0 0, rfl, by show 3 ≤ 15; decide, ?_⟩
    have e : mergeK [] (penD Y 0 0) = penD Y 0 0 := by
      simp [mergeK, penD, putK, sct, scr, str_]
    rw [e]
    refine q ⟨p, Y⟩ _ ⟨zs, 0, 0, upd_same, ?_, lz, by omega, by omega, by omega⟩ ?_
    · show upd _ p _ Y = _
      rw [upd_ne npY.symm]
      exact eY
    · intro b o eb
      rw [upd_ne (ne_of_none eb np)]
      exact s7 _ _ (s12 _ _ eb)
/-! ### _law_draw -/
abbrev s_l_draw : Stmt := topS 21
abbrev N_l_draw : List Str := ["_law_state", "_law_size", "_law_digit", "_law_at", "_law_cell", "_law_mixed", "_law_step"]
abbrev P_l_draw : List Str := ["_law_state", "_law_size"]
theorem sc_l_draw : FnScope N_l_draw P_l_draw (defScope s_l_draw) := ⟨rfl, rfl, rfl, by decide +kernel, rfl, by decide +kernel, by decide +kernel⟩
theorem ok_l_draw (D : Df K mg "_law_draw" s_l_draw P_l_draw) (B : Bi mg) : C8.Cal P w K mg base 1 "_law_draw" spDraw [] := by
  refine cal_of D sc_l_draw (fun vs H Q E h => ?_) (fun f cdv A outer s H vs Q E hr h => ?_)
  · obtain ⟨a, n, many, rfl, _⟩ := h
    rfl
  · obtain ⟨⟨a, l⟩, n, many, rfl, hP, hn, h0, hb, q⟩ := h
    have hu := hu_of hr
    have hd : CDivW 0 many := ⟨h0, hb.log (by decide)⟩
    obtain ⟨cs, t, r, ea, el, hl, ht0, htn, hr0⟩ := hP.ex
    have ea : H a = some (.dK (penD l t r)) := ea
    have el : H l = some (.lst (cs.map V.int)) := el
    refine ⟨_, (pss_cons (ps_if (pt_cmpR op_gt (pe_dget hu (pv 0) pe_str (fun _ _ => rfl)) pe_int (nomark _))
      (pss_cons (ps_set (i := 2) sc_l_draw.nd rfl (Or.inl rfl) (pe_op op_mod (pe_dget hu (pv 0) pe_str (fun _ _ => rfl)) (pv 1)))
    (pss_cons (ps_dput hu (pv 0) pe_str (pe_op op_fdivW (pe_dget hu (pv 0) pe_str (fun _ _ => rfl)) (pv 1)) rfl)
    (pss_one (ps_ret (pv 2)))))
      pss_nil)
    (pss_cons (ps_set (i := 3) sc_l_draw.nd rfl (Or.inl rfl) (pe_dget hu (pv 0) pe_str (fun _ _ => rfl)))
    (pss_cons (ps_dput hu (pv 0) pe_str (pe_op op_add (pv 3) pe_int) rfl)
    (C8.pss_cut (ps_set (i := 4) sc_l_draw.nd rfl (Or.inl rfl) (pe_op op_add (pe_op op_mul (pv 3) (pv 3)) pe_int))
    (C8.pss_cut (ps_if (pt_cmpR (op_neD hr.units) (pe_dget hu (pv 0) pe_str (fun _ _ => rfl)) (pe_lst pa_nil) (nomark _))
      (pss_one (ps_set (i := 4) sc_l_draw.nd rfl (Or.inl rfl) (pe_ix (r := rIxL K) ix_list (pe_dget hu (pv 0) pe_str (fun _ _ => rfl)) (pe_op op_mod (pv 3) (pe_callB (call_len_seq) (by rfl) B.len_ bt_len (pa_cons (pe_dget hu (pv 0) pe_str (fun _ _ => rfl)) pa_nil))) (fun _ _ => rfl))))
      pss_nil)
    (C8.pss_cut (ps_if (PW.pt (pw_and (pt_cmpR op_lt (pv 3) (pe_callB (call_len_seq) (by rfl) B.len_ bt_len (pa_cons (pe_dget hu (pv 0) pe_str (fun _ _ => rfl)) pa_nil)) (nomark _)) (pw_and1 (pt_cmpR op_ge (pv 4) (pe_op op_pow pe_int pe_int) (nomark _)))))
      (pss_cons (ps_dput hu (pv 0) pe_str (pe_op op_fdivW (pv 4) (pv 1)) rfl)
    (pss_one (ps_ret (pe_op op_mod (pv 4) (pv 1)))))
      pss_nil)
    (C8.pss_cut (ps_set (i := 5) sc_l_draw.nd rfl (Or.inl rfl) (pe_op op_mod (pe_op op_mul (pe_op op_add (pe_op op_add (pe_op op_mod (pv 4) pe_int) (pe_op op_mul pe_int (pv 3))) pe_int) pe_int) pe_int))
    (C8.pss_cut (ps_for PassesOwn.never rfl (pi_range1 rfl B.range_ (pa_cons pe_int pa_nil)) (pg_name (i := 6) sc_l_draw.nd rfl (Or.inl rfl))
      (pss_cons (ps_set (i := 5) sc_l_draw.nd rfl (Or.inl rfl) (pe_op op_add (pe_op op_add (pe_op op_add (pe_op op_mul (pv 5) (pv 5)) (pe_op op_mul pe_int (pv 5))) (pv 3)) (pv 6)))
    (pss_one (ps_set (i := 5) sc_l_draw.nd rfl (Or.inl rfl) (pe_op op_mod (pv 5) pe_int)))))
    (pss_one (ps_ret (pe_op op_mod (pe_op op_fdiv (pv 5) pe_int) (pv 1)))))))))))), ?_⟩
    refine ⟨_, rfl, a, _, rfl, dg_rest ea, _, _, rfl, rfl, _, rfl, ite2 (fun e => ?_) (fun e => ?_)⟩
    · refine ⟨_, rfl, a, _, rfl, dg_rest ea, _, rfl, _, _, rfl, rfl, h0, ?_⟩
      refine ⟨_, rfl, a, _, rfl, dg_rest ea, _, rfl, _, _, rfl, rfl, hd, _, rfl, a, _, rfl, dp_rest ea, ?_⟩
      refine ⟨_, rfl, ?_⟩
      exact q _ _ (Int.emod_nonneg _ (by omega)) (Int.emod_lt_of_pos _ h0) (Pen.put ea el hl ht0 (by omega) (Int.ediv_nonneg hr0 (by omega))) (Fr.dict ea)
    · refine ⟨_, rfl, a, _, rfl, dg_turn ea, ?_⟩
      refine ⟨_, rfl, _, _, rfl, rfl, _, rfl, a, _, rfl, dp_turn ea, ?_⟩
      have ea1 : upd H a (.dK (penD l (t + 1) r)) a = some (.dK (penD l (t + 1) r)) := upd_same
      have nla : l ≠ a := ne_of el ea (by intro z; cases z)
      have el1 : upd H a (.dK (penD l (t + 1) r)) l = some (.lst (cs.map V.int)) := by rw [upd_ne nla]; exact el
      have f1 : Fr H (upd H a (.dK (penD l (t + 1) r))) := Fr.dict ea
      generalize upd H a (.dK (penD l (t + 1) r)) = H1 at ea1 el1 f1
      refine ⟨fun σ' H' => ∃ c : Int, σ' = [some (.ref a), some (.int many), none, some (.int t), some (.int c), none, none] ∧ H1 = H', ?_, ?_⟩
      · exact ⟨_, rfl, _, rfl, _, _, rfl, rfl, .inl ⟨by omega, by omega⟩, _, _, rfl, rfl, _, rfl, rfl⟩
      rintro σ' H' ⟨c0, rfl, rfl⟩
      refine ⟨fun σ' H' => ∃ c : Int, σ' = [some (.ref a), some (.int many), none, some (.int t), some (.int c), none, none] ∧ Same H1 H', ?_, ?_⟩
      · refine ⟨_, rfl, a, _, rfl, dg_cells ea1, Nat.zero_le _, fun p np => ?_⟩
        have s1 : Same H1 (upd H1 p (.lst [])) := sm_upd np
        refine ⟨.list (cs.map PyData.int), .list [], Dp.lst (SqL.of (s1 _ _ el1)) (dp_ints cs), Dp.lst (SqL.of upd_same) .nil, sh_ints cs, rfl, _, rfl, ?_⟩
        by_cases hc : cs = []
        · subst hc
          exact iteF ⟨_, rfl, s1⟩
        · obtain ⟨c, r', rfl⟩ : ∃ c r', cs = c :: r' := by
            cases cs with
            | nil => exact absurd rfl hc
            | cons c r' => exact ⟨c, r', rfl⟩
          refine iteT ?_
          obtain ⟨v, hv⟩ := at_mod (c :: r') t hc
          refine ⟨_, rfl, a, _, rfl, dg_cells (s1 _ _ ea1), _, rfl, _, rfl, a, _, rfl, dg_cells (s1 _ _ ea1), l, _, rfl, .inl (SqL.of (s1 _ _ el1)), _, _, rfl, rfl, ?_, l, _, _, _, rfl, rfl, SqL.of (s1 _ _ el1), hv, ?_⟩
          · show (0 : Int) < (((c :: r').map V.int).length : Int)
            rw [List.length_map, List.length_cons]
            omega
          · exact ⟨v, rfl, s1⟩
      rintro σ' H2 ⟨c, rfl, s2⟩
      have ea2 := s2 _ _ ea1
      have el2 := s2 _ _ el1
      have f2 : Fr H H2 := f1.trans (Fr.same s2)
      refine ⟨fun σ' H' => σ' = [some (.ref a), some (.int many), none, some (.int t), some (.int c), none, none] ∧ H2 = H', ?_, ?_⟩
      · refine ⟨_, rfl, _, rfl, a, _, rfl, dg_cells ea2, l, _, rfl, .inl (SqL.of el2), _, _, rfl, rfl, _, rfl, ite2 (fun e1 => ?_) (fun e1 => ?_)⟩
        · refine ⟨_, rfl, _, _, rfl, rfl, ⟨by decide, by decide, by decide⟩, _, _, rfl, rfl, _, rfl, ite2 (fun e2 => ?_) (fun e2 => ?_)⟩
          · have e3 := of_decide_eq_true e2
            have p18 : (0 : Int) ≤ 10 ^ (18 : Int).toNat := by decide
            have c0' : 0 ≤ c := Int.le_trans p18 e3
            refine ⟨_, rfl, _, rfl, _, _, rfl, rfl, hd, _, rfl, a, _, rfl, dp_rest ea2, ?_⟩
            refine ⟨_, rfl, _, rfl, _, _, rfl, rfl, h0, ?_⟩
            exact q _ _ (Int.emod_nonneg _ (by omega)) (Int.emod_lt_of_pos _ h0) (Pen.put ea2 el2 hl (by omega) (by omega) (Int.ediv_nonneg (by omega) (by omega))) (f2.trans (Fr.dict ea2))
          · exact ⟨rfl, rfl⟩
        · exact iteF ⟨rfl, rfl⟩
      rintro σ' H' ⟨rfl, rfl⟩
      have mlt : (0 : Int) < 4294967311 := by decide
      have md : ∀ x : Int, 0 ≤ x % 4294967311 ∧ x % 4294967311 < 4294967311 := fun x => ⟨Int.emod_nonneg _ (by decide), Int.emod_lt_of_pos _ mlt⟩
      refine ⟨fun σ' H' => ∃ m : Int, 0 ≤ m ∧ m < 4294967311 ∧ σ' = [some (.ref a), some (.int many), none, some (.int t), some (.int c), some (.int m), none] ∧ H2 = H', ?_, ?_⟩
      · refine ⟨_, rfl, _, _, rfl, rfl, mlt, _, rfl, _, _, rfl, rfl, .inl ⟨by decide, by decide⟩, _, _, rfl, rfl, _, _, rfl, rfl, _, _, rfl, rfl, .inr ⟨by decide, by decide⟩, _, _, rfl, rfl, mlt, ?_⟩
        exact ⟨_, (md _).1, (md _).2, rfl, rfl⟩
      rintro σ' H' ⟨m, m0, m1, rfl, rfl⟩
      refine ⟨fun σ' H' => ∃ (m : Int) (y : Option V), 0 ≤ m ∧ m < 4294967311 ∧ σ' = [some (.ref a), some (.int many), none, some (.int t), some (.int c), some (.int m), y] ∧ H2 = H', ?_, ?_⟩
      · refine ⟨3, rfl, by decide, by decide, ?_⟩
        refine for_range (lo := 0) (n := 3) (fun i σ H' => ∃ (m : Int) (y : Option V), 0 ≤ m ∧ m < 4294967311 ∧ σ = [some (.ref a), some (.int many), none, some (.int t), some (.int c), some (.int m), y] ∧ H2 = H') ⟨m, _, m0, m1, rfl, rfl⟩ ?_ ?_
        · rintro i σ H' hi ⟨m, y, m0, m1, rfl, rfl⟩
          refine ⟨_, rfl, _, rfl, _, _, rfl, rfl, .inl ⟨by omega, by omega⟩, _, rfl, _, _, rfl, rfl, .inl ⟨by decide, by decide⟩, _, _, rfl, rfl, _, rfl, _, _, rfl, rfl, _, rfl, _, _, rfl, rfl, ?_⟩
          refine ⟨_, rfl, _, _, rfl, rfl, mlt, ?_⟩
          exact ⟨_, _, (md _).1, (md _).2, rfl, rfl⟩
        · rintro σ H' ⟨m, y, m0, m1, rfl, rfl⟩
          exact ⟨m, y, m0, m1, rfl, rfl⟩
      rintro σ' H' ⟨m, y, m0, m1, rfl, rfl⟩
      refine ⟨_, rfl, _, _, rfl, rfl, ⟨by decide, by decide⟩, _, rfl, _, _, rfl, rfl, h0, ?_⟩
      exact q _ _ (Int.emod_nonneg _ (by omega)) (Int.emod_lt_of_pos _ h0) ⟨cs, t + 1, r, ea2, el2, hl, by omega, by omega, hr0⟩ f2
end
end Lf
namespace Lf
open PySem PySem.Spec PyProof.Rows L2
theorem Bd.grow {k : Nat} {r d : Int} (h0 : 0 ≤ r) (h : Bd k r) (d0 : 0 ≤ d) (d1 : d < 10 ^ 6) : Bd (k + 20) (r * 10 ^ 6 + d) := by
  unfold Bd at *
  have e : (2 : Nat) ^ (k + 20) = 2 ^ k * 1048576 := by rw [Nat.pow_add]
  rw [e]
  generalize (2 : Nat) ^ k = m at h
  omega
/-- a rule, its numbers within k bits -/
structure RuleB (k : Nat) (p q c : Int) : Prop where
  p0 : 0 ≤ p
  q1 : 1 ≤ q
  g : Int.gcd p q = 1
  bp : Bd k p
  bq : Bd k q
  bc : Bd k c
theorem RuleB.mono {k j : Nat} {p q c : Int} (h : RuleB k p q c) (e : k ≤ j) : RuleB j p q c := ⟨h.p0, h.q1, h.g, h.bp.mono e, h.bq.mono e, h.bc.mono e⟩
theorem gcd_pos {p q : Int} (h : 1 ≤ q) : 0 < (Int.gcd p q : Int) := by
  have : 0 < Int.gcd p q := Int.gcd_pos_of_ne_zero_right _ (by omega)
  omega
theorem gcd_le {p q : Int} (h : 1 ≤ q) : (Int.gcd p q : Int) ≤ q := Int.le_of_dvd (by omega) (Int.gcd_dvd_right ..)
theorem low_rule {k : Nat} {p q c : Int} (h0 : 0 ≤ p) (h1 : 1 ≤ q) (bp : Bd k p) (bq : Bd k q) (bc : Bd k c) : RuleB k (p / (Int.gcd p q : Int)) (q / (Int.gcd p q : Int)) (c / (Int.gcd p q : Int)) := by
  have hg := gcd_pos (p := p) h1
  refine ⟨Int.ediv_nonneg h0 (by omega), ?_, ?_, bp.ediv hg, bq.ediv hg, bc.ediv hg⟩
  · exact Int.le_ediv_of_mul_le hg (by rw [Int.one_mul]; exact gcd_le h1)
  · have : 0 < Int.gcd p q := by omega
    exact Int.gcd_ediv_gcd_ediv_gcd this
/-- a new rule stands at r -/
abbrev tup3 (p q c : Int) : HO := .tup [.int p, .int q, .int c]
theorem low_rule' {k : Nat} {p q c : Int} (h0 : 0 ≤ p) (h1 : 1 ≤ q) (bp : Bd k p) (bq : Bd k q) (bc : Bd k c) : RuleB k (p / gg p q) (q / gg p q) (c / gg p q) := low_rule h0 h1 bp bq bc
theorem low_le {p q : Int} (h1 : 1 ≤ q) : q / (Int.gcd p q : Int) ≤ q := Int.ediv_le_self _ (by omega)
section
variable {P : Program} {w : World} {K : PySem.W.Frag} {mg : Str → Option Value} {base : Heap}
/-! ### _law_gcd, _law_lowest -/
def spGcd : Sp := fun vs H Q _ => ∃ (x y : Int), vs = [.int x, .int y] ∧ 0 ≤ x ∧ 0 ≤ y ∧ Q (.int (Int.gcd x y : Int)) H
def mu1 : L2.St → Hp → Nat := fun σ _ => match σ with
  | _ :: some (.int v) :: _ => v.toNat
  | _ => 0
end
end Lf
namespace Lf
open PySem PySem.Spec PyProof.Rows L2
/-! ### objects in a row -/
inductive Obs {α : Type} (O : α → HO) (H : Hp) : List V → List α → Prop
  | nil : Obs O H [] []
  | cons {r : Addr} {vs : List V} {d : α} {ds : List α} : H r = some (O d) → Obs O H vs ds → Obs O H (.ref r :: vs) (d :: ds)
section
variable {α : Type} {O : α → HO} {H H' : Hp}
theorem Obs.len {vs : List V} {ds : List α} (h : Obs O H vs ds) : vs.length = ds.length := by
  induction h with
  | nil => rfl
  | cons _ _ ih => rw [List.length_cons, List.length_cons, ih]
theorem Obs.at {vs : List V} {ds : List α} (h : Obs O H vs ds) : ∀ {i : Nat} {x : V}, vs[i]? = some x → ∃ r d, x = .ref r ∧ H r = some (O d) ∧ ds[i]? = some d := by
  induction h with
  | nil =>
    intro i x e
    cases e
  | cons e0 _ ih =>
    intro i x e
    cases i with
    | zero =>
      cases e
      exact ⟨_, _, rfl, e0, rfl⟩
    | succ i => exact ih e
theorem Obs.on {vs : List V} {ds : List α} (h : Obs O H vs ds) : ∀ {i : Nat} {d : α}, ds[i]? = some d → ∃ r, vs[i]? = some (.ref r) ∧ H r = some (O d) := by
  induction h with
  | nil =>
    intro i x e
    cases e
  | cons e0 _ ih =>
    intro i x e
    cases i with
    | zero =>
      cases e
      exact ⟨_, rfl, e0⟩
    | succ i => exact ih e
theorem Obs.keep {vs : List V} {ds : List α} (h : Obs O H vs ds) (f : ∀ b d, H b = some (O d) → H' b = some (O d)) : Obs O H' vs ds := by
  induction h with
  | nil => exact .nil
  | cons e0 _ ih => exact .cons (f _ _ e0) ih
theorem Obs.same {vs : List V} {ds : List α} (h : Obs O H vs ds) (s : Same H H') : Obs O H' vs ds := h.keep fun b d e => s _ _ e
theorem Obs.snoc {vs : List V} {ds : List α} {r : Addr} {d : α} (h : Obs O H vs ds) (e : H r = some (O d)) : Obs O H (vs ++ [.ref r]) (ds ++ [d]) := by
  induction h with
  | nil => exact .cons e .nil
  | cons e0 _ ih => exact .cons e0 ih
theorem Obs.app {vs us : List V} {ds es : List α} (h : Obs O H vs ds) (h2 : Obs O H us es) : Obs O H (vs ++ us) (ds ++ es) := by
  induction h with
  | nil => exact h2
  | cons e0 _ ih => exact .cons e0 ih
theorem Obs.drop {vs : List V} {ds : List α} (h : Obs O H vs ds) : ∀ n, Obs O H (vs.drop n) (ds.drop n) := by
  induction h with
  | nil =>
    intro n
    rw [List.drop_nil, List.drop_nil]
    exact .nil
  | cons e0 h ih =>
    intro n
    cases n with
    | zero => exact .cons e0 h
    | succ n => exact ih n
theorem Obs.take {vs : List V} {ds : List α} (h : Obs O H vs ds) : ∀ n, Obs O H (vs.take n) (ds.take n) := by
  induction h with
  | nil =>
    intro n
    rw [List.take_nil, List.take_nil]
    exact .nil
  | cons e0 h ih =>
    intro n
    cases n with
    | zero => exact .nil
    | succ n => exact .cons e0 (ih n)
end
/-! ### records -/
structure Rec where
  lo : Bool
  t : Int
  n : Int
def wd : Bool → Str
  | true => "at least"
  | false => "at most"
abbrev rcO (d : Rec) : HO := .tup [.str (wd d.lo), .int d.t, .int d.n]
theorem w_lo (b : Bool) : decide (V.str (wd b) = V.str ("at least" : Str)) = b := by
  cases b
  · exact decide_eq_false (by intro z; exact absurd (V.str.inj z) (by decide +kernel))
  · exact decide_eq_true rfl
theorem w_hi (b : Bool) : decide (V.str (wd b) = V.str ("at most" : Str)) = !b := by
  cases b
  · exact decide_eq_true rfl
  · exact decide_eq_false (by intro z; exact absurd (V.str.inj z) (by decide +kernel))
def RcB (k : Nat) (ds : List Rec) : Prop := ∀ d ∈ ds, Bd k d.t ∧ Bd k d.n
theorem RcB.mono {k j : Nat} {ds : List Rec} (h : RcB k ds) (e : k ≤ j) : RcB j ds := fun d hd => ⟨(h d hd).1.mono e, (h d hd).2.mono e⟩
theorem Obs.fr {H H' : Hp} {vs : List V} {ds : List Rec} (h : Obs rcO H vs ds) (f : Fr H H') : Obs rcO H' vs ds := h.keep fun b d e => f.t _ _ e
/-- what split_records gives: index, time, count -/
abbrev T3 := Int × Int × Int
abbrev trO (x : T3) : HO := .tup [.int x.1, .int x.2.1, .int x.2.2]
def sel (b : Bool) : Nat → List Rec → List T3
  | _, [] => []
  | k, d :: ds => if d.lo = b then ((k : Int), d.t, d.n) :: sel b (k + 1) ds else sel b (k + 1) ds
theorem sel_snoc (b : Bool) (k : Nat) (ds : List Rec) (d : Rec) : sel b k (ds ++ [d]) = sel b k ds ++ (if d.lo = b then [(((k + ds.length : Nat) : Int), d.t, d.n)] else []) := by
  induction ds generalizing k with
  | nil =>
    show (if d.lo = b then _ else _) = _
    by_cases h : d.lo = b
    · rw [if_pos h, if_pos h]
      rfl
    · rw [if_neg h, if_neg h]
      rfl
  | cons e r ih =>
    show (if e.lo = b then ((k : Int), e.t, e.n) :: sel b (k + 1) (r ++ [d]) else sel b (k + 1) (r ++ [d])) = (if e.lo = b then _ else _) ++ _
    rw [ih (k + 1), List.length_cons, show k + 1 + r.length = k + (r.length + 1) by omega]
    by_cases h : e.lo = b
    · rw [if_pos h, if_pos h]
      rfl
    · rw [if_neg h, if_neg h]
theorem sel_len (b : Bool) (k : Nat) (ds : List Rec) : (sel b k ds).length ≤ ds.length := by
  induction ds generalizing k with
  | nil => exact Nat.le_refl _
  | cons e r ih =>
    show (if e.lo = b then _ else _ : List T3).length ≤ _
    have := ih (k + 1)
    by_cases h : e.lo = b
    · rw [if_pos h, List.length_cons, List.length_cons]
      omega
    · rw [if_neg h, List.length_cons]
      omega
theorem sel_take {b : Bool} {ds : List Rec} {i : Nat} {d : Rec} (e : ds[i]? = some d) : sel b 0 (ds.take (i + 1)) = sel b 0 (ds.take i) ++ (if d.lo = b then [((i : Int), d.t, d.n)] else []) := by
  have hi : i < ds.length := (List.getElem?_eq_some_iff.mp e).1
  rw [List.take_add_one, e]
  show sel b 0 (ds.take i ++ [d]) = _
  rw [sel_snoc, List.length_take, Nat.min_eq_left (by omega), Nat.zero_add]
/-- each of them speaks of a record at its index -/
theorem sel_mem {b : Bool} {k : Nat} {ds : List Rec} {x : T3} (h : x ∈ sel b k ds) : ∃ (i : Nat) (d : Rec), ds[i]? = some d ∧ d.lo = b ∧ x = (((k + i : Nat) : Int), d.t, d.n) := by
  induction ds generalizing k with
  | nil => cases h
  | cons e r ih =>
    have h : x ∈ (if e.lo = b then ((k : Int), e.t, e.n) :: sel b (k + 1) r else sel b (k + 1) r) := h
    have up : x ∈ sel b (k + 1) r → ∃ (i : Nat) (d : Rec), (e :: r)[i]? = some d ∧ d.lo = b ∧ x = (((k + i : Nat) : Int), d.t, d.n) := fun z => by
      obtain ⟨i, d, h1, h2, h3⟩ := ih z
      exact ⟨i + 1, d, h1, h2, by rw [h3, show k + 1 + i = k + (i + 1) by omega]⟩
    by_cases hb : e.lo = b
    · rw [if_pos hb] at h
      rcases List.mem_cons.mp h with rfl | h
      · exact ⟨0, e, rfl, hb, rfl⟩
      · exact up h
    · rw [if_neg hb] at h
      exact up h
theorem mem_sel {b : Bool} {ds : List Rec} {i : Nat} {d : Rec} (e : ds[i]? = some d) (hb : d.lo = b) : ∀ k, (((k + i : Nat) : Int), d.t, d.n) ∈ sel b k ds := by
  induction ds generalizing i with
  | nil => cases e
  | cons f r ih =>
    intro k
    show _ ∈ (if f.lo = b then _ else _)
    cases i with
    | zero =>
      cases e
      rw [if_pos hb]
      exact List.mem_cons_self
    | succ i =>
      have := ih e (k + 1)
      rw [show k + 1 + i = k + (i + 1) by omega] at this
      by_cases h : f.lo = b
      · rw [if_pos h]
        exact List.mem_cons_of_mem _ this
      · rw [if_neg h]
        exact this
theorem sel_bd {k : Nat} {b : Bool} {ds : List Rec} (h : RcB k ds) {x : T3} (hx : x ∈ sel b 0 ds) : Bd k x.2.1 ∧ Bd k x.2.2 := by
  obtain ⟨i, d, e, _, rfl⟩ := sel_mem hx
  exact h d (List.mem_of_getElem? e)
/-- what a list has as its greatest -/
def IsMx (l : List Int) : Option Int → Prop
  | none => l = []
  | some m => m ∈ l ∧ ∀ y ∈ l, y ≤ m
def IsMn (l : List Int) : Option Int → Prop
  | none => l = []
  | some m => m ∈ l ∧ ∀ y ∈ l, m ≤ y
def oV : Option Int → V
  | none => .non
  | some i => .int i
theorem maxOf_mx (x : Int) (xs : List Int) : PySem.W.maxOf x xs ∈ x :: xs ∧ ∀ y ∈ x :: xs, y ≤ PySem.W.maxOf x xs := by
  induction xs generalizing x with
  | nil => exact ⟨List.mem_cons_self, fun y hy => by rw [List.mem_singleton.mp hy]; exact Int.le_refl _⟩
  | cons z r ih =>
    have e : PySem.W.maxOf x (z :: r) = PySem.W.maxOf (if decide (x < z) = true then z else x) r := rfl
    rw [e]
    obtain ⟨h1, h2⟩ := ih (if decide (x < z) = true then z else x)
    refine ⟨?_, fun y hy => ?_⟩
    · rcases List.mem_cons.mp h1 with h | h
      · rw [h]
        by_cases c : x < z
        · rw [if_pos (decide_eq_true c)]
          exact List.mem_cons_of_mem _ List.mem_cons_self
        · rw [if_neg (fun h => c (of_decide_eq_true h))]
          exact List.mem_cons_self
      · exact List.mem_cons_of_mem _ (List.mem_cons_of_mem _ h)
    · have g := h2 _ List.mem_cons_self
      have gx : x ≤ PySem.W.maxOf (if decide (x < z) = true then z else x) r ∧ z ≤ PySem.W.maxOf (if decide (x < z) = true then z else x) r := by
        by_cases c : x < z
        · rw [if_pos (decide_eq_true c)] at g ⊢
          exact ⟨by omega, g⟩
        · rw [if_neg (fun h => c (of_decide_eq_true h))] at g ⊢
          exact ⟨g, by omega⟩
      rcases List.mem_cons.mp hy with rfl | hy
      · exact gx.1
      · rcases List.mem_cons.mp hy with rfl | hy
        · exact gx.2
        · exact h2 _ (List.mem_cons_of_mem _ hy)
theorem minOf_mn (x : Int) (xs : List Int) : PySem.W.minOf x xs ∈ x :: xs ∧ ∀ y ∈ x :: xs, PySem.W.minOf x xs ≤ y := by
  induction xs generalizing x with
  | nil => exact ⟨List.mem_cons_self, fun y hy => by rw [List.mem_singleton.mp hy]; exact Int.le_refl _⟩
  | cons z r ih =>
    have e : PySem.W.minOf x (z :: r) = PySem.W.minOf (if decide (z < x) = true then z else x) r := rfl
    rw [e]
    obtain ⟨h1, h2⟩ := ih (if decide (z < x) = true then z else x)
    refine ⟨?_, fun y hy => ?_⟩
    · rcases List.mem_cons.mp h1 with h | h
      · rw [h]
        by_cases c : z < x
        · rw [if_pos (decide_eq_true c)]
          exact List.mem_cons_of_mem _ List.mem_cons_self
        · rw [if_neg (fun h => c (of_decide_eq_true h))]
          exact List.mem_cons_self
      · exact List.mem_cons_of_mem _ (List.mem_cons_of_mem _ h)
    · have g := h2 _ List.mem_cons_self
      have gx : PySem.W.minOf (if decide (z < x) = true then z else x) r ≤ x ∧ PySem.W.minOf (if decide (z < x) = true then z else x) r ≤ z := by
        by_cases c : z < x
        · rw [if_pos (decide_eq_true c)] at g ⊢
          exact ⟨by omega, g⟩
        · rw [if_neg (fun h => c (of_decide_eq_true h))] at g ⊢
          exact ⟨g, by omega⟩
      rcases List.mem_cons.mp hy with rfl | hy
      · exact gx.1
      · rcases List.mem_cons.mp hy with rfl | hy
        · exact gx.2
        · exact h2 _ (List.mem_cons_of_mem _ hy)
/-- max(list, default=d), min(list, default=d) -/
def rMxD (K : PySem.W.Frag) : List V → List V → Hp → VK → Prop := fun vs zs H Q => ∃ (a : Addr) (ns : List Int), vs = [V.ref a] ∧ zs = [.non] ∧ SqL K H a (ns.map V.int) ∧ ∀ m, IsMx ns m → Q (oV m) H
def rMnD (K : PySem.W.Frag) : List V → List V → Hp → VK → Prop := fun vs zs H Q => ∃ (a : Addr) (ns : List Int), vs = [V.ref a] ∧ zs = [.non] ∧ SqL K H a (ns.map V.int) ∧ ∀ m, IsMn ns m → Q (oV m) H
theorem cr_maxD {X : Cx} (hc : X.calm = true) (hu : X.A.units + 64 < cLine) : CallRK X (.builtin "max") [Str.ofString "default"] (rMxD X.K) := by
  intro pins s σ H xs zs us ws Q I r rz h
  obtain ⟨a, ns, rfl, rfl, hs, q⟩ := h
  obtain ⟨its, rv, hl, _⟩ := I.list hs
  rw [Vals.ref1 r]
  obtain ⟨d, rfl, rd⟩ := vals1 rz
  have ed : d = Value.none := rd
  subst ed
  refine PySem.W.max_list_datum_default (α := Int) (xs := ns) (I.ok.hd hc) hl.isList (by simpa using PySem.W.HoldAll.of_ints rv.ints) (by show _ + 1 + 0 < _; omega) (fun e h' tk hk => ⟨.non, H, I.kept hk, rfl, q none e⟩) fun y ys i v h' tk e hv hh hk => ?_
  obtain ⟨as, hr⟩ := hh
  obtain ⟨t, rfl⟩ : ∃ t, v = Value.int (PySem.W.maxOf y ys) t := by
    cases hr
    exact ⟨_, rfl⟩
  exact ⟨.int _, H, I.kept hk, ⟨_, rfl⟩, q (some _) (by rw [e]; exact maxOf_mx y ys)⟩
theorem cr_minD {X : Cx} (hc : X.calm = true) (hu : X.A.units + 64 < cLine) : CallRK X (.builtin "min") [Str.ofString "default"] (rMnD X.K) := by
  intro pins s σ H xs zs us ws Q I r rz h
  obtain ⟨a, ns, rfl, rfl, hs, q⟩ := h
  obtain ⟨its, rv, hl, _⟩ := I.list hs
  rw [Vals.ref1 r]
  obtain ⟨d, rfl, rd⟩ := vals1 rz
  have ed : d = Value.none := rd
  subst ed
  refine PySem.W.min_list_datum_default (α := Int) (xs := ns) (I.ok.hd hc) hl.isList (by simpa using PySem.W.HoldAll.of_ints rv.ints) (by show _ + 1 + 0 < _; omega) (fun e h' tk hk => ⟨.non, H, I.kept hk, rfl, q none e⟩) fun y ys i v h' tk e hv hh hk => ?_
  obtain ⟨as, hr⟩ := hh
  obtain ⟨t, rfl⟩ : ∃ t, v = Value.int (PySem.W.minOf y ys) t := by
    cases hr
    exact ⟨_, rfl⟩
  exact ⟨.int _, H, I.kept hk, ⟨_, rfl⟩, q (some _) (by rw [e]; exact minOf_mn y ys)⟩
end Lf
namespace Lf
open PySem PySem.Spec PyProof.Rows L2
theorem iteD {c A B : Prop} [Decidable c] (hc : c) (h : A) : if decide c = true then A else B := by
  rw [if_pos (decide_eq_true hc)]
  exact h
theorem iteDn {c A B : Prop} [Decidable c] (hc : ¬ c) (h : B) : if decide c = true then A else B := by
  rw [if_neg (fun z => hc (of_decide_eq_true z))]
  exact h
theorem iteTs {b : Bool} {A B : Prop} (h : b = true) (hA : A) : if b = true then A else B := by
  rw [h, if_pos rfl]
  exact hA
theorem iteFz {b : Bool} {A B : Prop} (h : b = false) (hB : B) : if b = true then A else B := by
  rw [h, if_neg Bool.false_ne_true]
  exact hB
theorem bool_f {b : Bool} (h : ¬ b = true) : b = false := by
  cases b
  · rfl
  · exact absurd rfl h
theorem lenS {n : Nat} (h : n ≤ 100000) : n ≤ sizeLine := by
  rw [sizeLine_eq]
  omega
theorem ltS {n : Nat} (h : n ≤ 100000) : n < sizeLine := by
  rw [sizeLine_eq]
  omega
theorem flat_is (ns : List Int) : (ns.map V.int).all flatV = true := by
  induction ns with
  | nil => rfl
  | cons n r ih => simpa [flatV] using ih
theorem mulW {a b : Nat} {x y : Int} (h : Bd a x) (h2 : Bd b y) (ha : 0 < a) (hb : 0 < b) (hab : a + b ≤ 1000000) : CMulW x y := wide_mul h h2 ha hb hab
theorem divW {b : Nat} {x y : Int} (h0 : 0 < y) (h : Bd b y) (hb : b ≤ 9000) : CDivW x y := ⟨h0, (h.mono hb).log (by decide)⟩
theorem divP {b : Nat} {x y : Int} (h0 : 0 < y) (h : Bd b y) (hb : b ≤ 9000) : CDivP x y := ⟨h0, PyProof.noPylong_of_log2 ((h.mono hb).log (by decide))⟩
theorem kii : kitB "int" "int" = some true := by decide +kernel
theorem kib : kitB "int" "bool" = some false := by decide +kernel
theorem ktt : kitB "tuple" "tuple" = some true := by decide +kernel
section
variable {P : Program} {w : World} {K : PySem.W.Frag} {mg : Str → Option Value} {base : Heap}
/-! ### integers -/
def spIsInt : Sp := fun vs H Q _ => ∃ i : Int, vs = [.int i] ∧ Q (.bl true) H
abbrev s_is_integer : Stmt := topS 4
abbrev N_is_integer : List Str := ["value"]
abbrev P_is_integer : List Str := ["value"]
theorem sc_is_integer : FnScope N_is_integer P_is_integer (defScope s_is_integer) := ⟨rfl, rfl, rfl, by decide +kernel, rfl, by decide +kernel, by decide +kernel⟩
theorem ok_is_integer (D : Df K mg "is_integer" s_is_integer P_is_integer) (B : Bi mg) : C8.Cal P w K mg base 1 "is_integer" spIsInt [] := by
  refine cal_of D sc_is_integer (fun vs H Q E h => ?_) (fun f cdv A outer s H vs Q E hr h => ?_)
  · obtain ⟨i, rfl, _⟩ := h
    rfl
  · obtain ⟨i, rfl, q⟩ := h
    refine ⟨_, (pss_one (ps_ret (pe_and (pe_callB (call_isi) (by rfl) B.isinstance_ bt_isinstance (pa_cons (pv 0) (pa_cons (pe_bltn (v := .ty "int") (by rfl) B.int_ bt_int rfl) pa_nil))) (pe_one (pe_not (pe_callB (call_isi) (by rfl) B.isinstance_ bt_isinstance (pa_cons (pv 0) (pa_cons (pe_bltn (v := .ty "bool") (by rfl) B.bool_ bt_bool rfl) pa_nil)))))))), ?_⟩
    refine ⟨_, rfl, _, _, _, _, true, rfl, .ty "int", .base (.int i), kit_ty kii, true, rfl, iteT ?_⟩
    exact ⟨_, rfl, _, _, _, _, false, rfl, .ty "bool", .base (.int i), kit_ty kib, false, rfl, q⟩
def spCheckInt : Sp := fun vs H Q _ => ∃ i : Int, vs = [.int i] ∧ Q .non H
end
end Lf
namespace Lf
open PySem PySem.Spec PyProof.Rows L2
section
variable {P : Program} {w : World} {K : PySem.W.Frag} {mg : Str → Option Value} {base : Heap}
abbrev s_gcd : Stmt := topS 5
abbrev N_gcd : List Str := ["first", "second"]
abbrev P_gcd : List Str := ["first", "second"]
theorem sc_gcd : FnScope N_gcd P_gcd (defScope s_gcd) := ⟨rfl, rfl, rfl, by decide +kernel, rfl, by decide +kernel, by decide +kernel⟩
theorem ok_gcd (D : Df K mg "gcd" s_gcd P_gcd) : C8.Cal P w K mg base 1 "gcd" spGcd [] := by
  refine cal_of D sc_gcd (fun vs H Q E h => ?_) (fun f cdv A outer s H vs Q E hr h => ?_)
  · obtain ⟨x, y, rfl, _⟩ := h
    rfl
  · obtain ⟨x, y, rfl, hx, hy, q⟩ := h
    refine ⟨_, (pss_cons (ps_while PassesOwn.never (pt_truth (pv 1) (fun _ => rfl))
      (pss_one (ps_par (i := 0) (j := 1) rfl sc_gcd.nd rfl rfl (by decide) rfl rfl (pa_cons (pv 1) (pa_cons (pe_op op_mod (pv 0) (pv 1)) pa_nil)) rfl)))
    (pss_one (ps_ret (pv 0)))), ?_⟩
    refine while_by (fun σ H' => ∃ u v : Int, σ = [some (.int u), some (.int v)] ∧ 0 ≤ u ∧ 0 ≤ v ∧ Int.gcd u v = Int.gcd x y ∧ H' = H) mu1 ⟨x, y, rfl, hx, hy, rfl, rfl⟩ ?_ ?_
    · rintro σ H' ⟨u, v, rfl, hu, hv, e, rfl⟩
      refine ⟨_, rfl, _, rfl, ite2 (fun c => ?_) (fun c => ?_)⟩
      · have hv0 : 0 < v := by
          have : v ≠ 0 := by simpa using c
          omega
        refine ⟨_, rfl, _, rfl, _, rfl, _, _, rfl, rfl, hv0, _, _, rfl, ⟨v, u % v, rfl, hv, Int.emod_nonneg _ (by omega), ?_, rfl⟩, ?_⟩
        · rw [gcd_turn u v hu hv0]; exact e
        · show (u % v).toNat < v.toNat
          have := Int.emod_lt_of_pos u hv0
          omega
      · have hv0 : v = 0 := by simpa using c
        subst hv0
        refine ⟨_, rfl, ?_⟩
        have e2 : (Int.gcd x y : Int) = u := by
          rw [← e, Int.gcd_zero_right]
          omega
        rw [← e2]
        exact q
    · rintro σ H' Q1 Q2 hQ ⟨v, h1, b, h4, h5⟩
      exact ⟨v, h1, b, h4, hQ _ _ h5⟩
/-! ### rules -/
def spIsRule : Sp := fun vs H Q _ => ∃ (r : Addr) (p q c : Int) (k : Nat), vs = [.ref r] ∧ H r = some (.tup [.int p, .int q, .int c]) ∧ RuleB k p q c ∧ ∀ H', Same H H' → Q (.bl true) H'
abbrev s_is_rule : Stmt := topS 9
abbrev N_is_rule : List Str := ["value", "item"]
abbrev P_is_rule : List Str := ["value"]
theorem sc_is_rule : FnScope N_is_rule P_is_rule (defScope s_is_rule) := ⟨rfl, rfl, rfl, by decide +kernel, rfl, by decide +kernel, by decide +kernel⟩
theorem ok_is_rule (D : Df K mg "is_rule" s_is_rule P_is_rule) (B : Bi mg) (c_is_integer : C8.Cal P w K mg base 1 "is_integer" spIsInt []) (c_gcd : C8.Cal P w K mg base 1 "gcd" spGcd []) : C8.Cal P w K mg base 2 "is_rule" spIsRule [] := by
  refine cal_of D sc_is_rule (fun vs H Q E h => ?_) (fun f cdv A outer s H vs Q E hr h => ?_)
  · obtain ⟨r, p, q, c, k, rfl, _⟩ := h
    rfl
  · obtain ⟨r, p, q, c, k, rfl, er, R, kk⟩ := h
    refine ⟨_, (pss_cons (ps_if (PW.pt (pw_or (pt_not (pt_val (pe_callB (call_isi) (by rfl) B.isinstance_ bt_isinstance (pa_cons (pv 0) (pa_cons (pe_bltn (v := .ty "tuple") (by rfl) B.tuple_ bt_tuple rfl) pa_nil))))) (pw_or1 (pt_cmpR op_ne (pe_callB (call_len_seq) (by rfl) B.len_ bt_len (pa_cons (pv 0) pa_nil)) pe_int (nomark _)))))
      (pss_one (ps_ret pe_bl))
      pss_nil)
    (pss_cons (ps_if (pt_not (pt_val (pe_callB (cr_all rfl) (by rfl) B.all_ bt_all (pa_cons (pe_lc (own := [("item", 1)]) (g := (gName 1)) (by rfl) sc_is_rule.nd (pi_tup (pv 0)) (blkOk_by (own := [("item", 1)]) (N := N_is_rule) (sc := defScope s_is_rule) (by decide +kernel)) (fun _ _ _ _ _ => (pg_name (i := 1) sc_is_rule.nd rfl (Or.inl rfl))) (fun _ _ _ _ _ => pts_nil) (fun _ _ _ _ _ => (C8.pe_c c_is_integer hr (by decide) (by rfl) (pa_cons (pv 1) pa_nil)))) pa_nil))))
      (pss_one (ps_ret pe_bl))
      pss_nil)
    (pss_one (ps_ret (pe_and (pe_cmpR op_ge (pe_ix (r := rIxT K) ix_tup (pv 0) pe_int (fun _ _ => rfl)) pe_int (nomark _)) (pe_and (pe_cmpR op_ge (pe_ix (r := rIxT K) ix_tup (pv 0) pe_int (fun _ _ => rfl)) pe_int (nomark _)) (pe_one (pe_cmpR op_eq (C8.pe_c c_gcd hr (by decide) (by rfl) (pa_cons (pe_ix (r := rIxT K) ix_tup (pv 0) pe_int (fun _ _ => rfl)) (pa_cons (pe_ix (r := rIxT K) ix_tup (pv 0) pe_int (fun _ _ => rfl)) pa_nil))) pe_int (nomark _))))))))), ?_⟩
    refine ⟨_, rfl, _, _, _, _, true, rfl, .ty "tuple", .base (.tup er), kit_ty ktt, true, rfl, iteF ?_⟩
    refine ⟨_, rfl, r, _, rfl, .inr (SqT.of er), rfl, _, rfl, iteNS rfl ?_⟩
    refine ⟨_, rfl, r, rfl, ⟨_, SqT.of er⟩, fun L nL => ?_⟩
    refine lc_tup (K := K) (a := r) (xs := [.int p, .int q, .int c]) (fun i H' => Same H H' ∧ H' L = some (.lst (List.replicate i (V.bl true)))) ?_ ?_ ?_ ?_
    · exact ⟨sm_upd nL, upd_same⟩
    · rintro i H' hi ⟨s1, _⟩
      exact SqT.of (s1 _ _ er)
    · rintro i x H' hx ⟨s1, eL⟩
      have hi : i < 3 := (List.getElem?_eq_some_iff.mp hx).1
      obtain ⟨z, rfl⟩ : ∃ z, x = V.int z := by
        match i, hi with
        | 0, _ => exact ⟨p, (Option.some.inj hx).symm⟩
        | 1, _ => exact ⟨q, (Option.some.inj hx).symm⟩
        | 2, _ => exact ⟨c, (Option.some.inj hx).symm⟩
      refine ⟨rfl, _, rfl, z, rfl, _, eL, ?_, ?_, ?_⟩
      · rw [List.length_replicate]
        exact small1000 (by omega)
      · intro b o eb
        rw [upd_ne (ne_of_none eb nL)]
        exact s1 _ _ eb
      · rw [upd_same, ← List.replicate_succ']
    · rintro H' ⟨s1, eL⟩
      have eL' : H' L = some (.lst ([true, true, true].map V.bl)) := eL
      refine ⟨L, [true, true, true], rfl, SqL.of eL', true, rfl, iteF ?_⟩
      have er' := s1 _ _ er
      refine ⟨_, rfl, r, _, _, _, rfl, rfl, SqT.of er', atI_nat (j := 0) rfl, _, _, rfl, rfl, _, rfl, iteD R.p0 ?_⟩
      refine ⟨_, rfl, r, _, _, _, rfl, rfl, SqT.of er', atI_nat (j := 1) rfl, _, _, rfl, rfl, _, rfl, iteD R.q1 ?_⟩
      refine ⟨_, rfl, r, _, _, _, rfl, rfl, SqT.of er', atI_nat (j := 0) rfl, _, rfl, r, _, _, _, rfl, rfl, SqT.of er', atI_nat (j := 1) rfl, p, q, rfl, R.p0, by have := R.q1; omega, rfl, ?_⟩
      rw [R.g]
      exact kk _ s1
def spCheckRule : Sp := fun vs H Q _ => ∃ (r : Addr) (p q c : Int) (k : Nat), vs = [.ref r] ∧ H r = some (.tup [.int p, .int q, .int c]) ∧ RuleB k p q c ∧ ∀ H', Same H H' → Q .non H'
end
end Lf
namespace Lf
open PySem PySem.Spec PyProof.Rows L2
/-- repr of an int or of None -/
theorem repr_some {X : Cx} : CallR X (.builtin "repr") (fun xs H Q => (∃ i : Int, xs = [.int i] ∧ i.natAbs.log2 < 1920 ∧ Q (.str (toString i)) H) ∨ (xs = [.non] ∧ Q (.str "None") H)) := by
  intro pins s σ H xs us Q I rel h
  rcases h with h | ⟨rfl, hq⟩
  · exact SkE.call_repr_int pins s σ H xs us Q I rel h
  · obtain ⟨u, hu, ru⟩ := vals1 rel
    subst hu
    have eu : u = Value.none := ru
    subst eu
    exact PySem.P.repr_of_none ⟨.str "None", H, I.tok _, ⟨_, rfl⟩, hq⟩
theorem cut_take (xs : List V) (m : Int) (h : 0 ≤ m) : cutV xs none (some m) = xs.take m.toNat := by
  obtain ⟨n, rfl⟩ := Int.eq_ofNat_of_zero_le h
  unfold cutV
  rw [HT.sIx_none, show HT.sIx xs.length xs.length (some ((n : Nat) : Int)) = min n xs.length from HT.sIx_nat _ _ n, List.drop_zero, Nat.sub_zero]
  show xs.take (min n xs.length) = xs.take n
  by_cases hn : n ≤ xs.length
  · rw [Nat.min_eq_left hn]
  · rw [Nat.min_eq_right (by omega), List.take_of_length_le (Nat.le_refl _), List.take_of_length_le (by omega)]
theorem flat_ints (ns : List Int) : (ns.map V.int).all flatV = true := by
  induction ns with
  | nil => rfl
  | cons n r ih => simpa [flatV] using ih
theorem inV_ints (ns : List Int) (k : Int) : inV (V.int k) (ns.map V.int) = decide (k ∈ ns) := by
  induction ns with
  | nil => rfl
  | cons n r ih =>
    have ih' : ((r.map V.int).any fun y => eqV y (V.int k)) = decide (k ∈ r) := ih
    show (eqV (V.int n) (V.int k) || (r.map V.int).any fun y => eqV y (V.int k)) = decide (k ∈ n :: r)
    rw [ih']
    by_cases h : n = k
    · subst h
      simp [eqV]
    · have h' : ¬ k = n := fun z => h z.symm
      simp [eqV, h, h']
end Lf
namespace Lf
open PySem PySem.Spec PyProof.Rows L2
theorem obs_cut {α : Type} {O : α → HO} {H : Hp} {vs : List V} {ds : List α} (h : Obs O H vs ds) (lo hi : Option Int) : ∃ es, Obs O H (cutV vs lo hi) es ∧ (∀ d ∈ es, d ∈ ds) ∧ es.length ≤ ds.length := by
  unfold cutV
  generalize HT.sIx vs.length 0 lo = i
  generalize HT.sIx vs.length vs.length hi - i = j
  refine ⟨(ds.drop i).take j, (h.drop i).take j, fun d hd => List.mem_of_mem_drop (List.mem_of_mem_take hd), ?_⟩
  rw [List.length_take, List.length_drop]
  omega
theorem at_map {cs : List Int} {i : Nat} {x : V} (h : (cs.map V.int)[i]? = some x) : ∃ c, c ∈ cs ∧ x = .int c := by
  rw [List.getElem?_map] at h
  cases e : cs[i]? with
  | none =>
    rw [e] at h
    cases h
  | some c =>
    rw [e] at h
    cases h
    exact ⟨c, List.mem_of_getElem? e, rfl⟩
theorem in_words (b : Bool) : inV (.str (wd b)) [.str "at least", .str "at most"] = true := by
  cases b <;> decide +kernel
theorem kit_lt {K : PySem.W.Frag} : PySem.W.kitAny K (.type "list") [.type "list", .type "tuple"] = some true :=
  kitAny_cons (b := true) (kit_ty (by decide +kernel)) (fun z => by cases z) (fun _ => rfl)
def lph (p q : Int) (ds : List Rec) : List Int := (sel true 0 ds).map fun x => x.2.2 * q - p * x.2.1
def hph (p q : Int) (ds : List Rec) : List Int := (sel false 0 ds).map fun x => (x.2.2 + 1) * q - p * x.2.1 - 1
def okPh : Option Int → Option Int → Bool
  | some x, some y => decide (x ≤ y)
  | _, _ => true
theorem mx_uniq {l : List Int} {a b : Option Int} (h : IsMx l a) (h2 : IsMx l b) : a = b := by
  cases a with
  | none =>
    cases b with
    | none => rfl
    | some y =>
      have e : l = [] := h
      subst e
      cases h2.1
  | some x =>
    cases b with
    | none =>
      have e : l = [] := h2
      subst e
      cases h.1
    | some y =>
      have h1 := h.2 y h2.1
      have h3 := h2.2 x h.1
      rw [show x = y by omega]
theorem mn_uniq {l : List Int} {a b : Option Int} (h : IsMn l a) (h2 : IsMn l b) : a = b := by
  cases a with
  | none =>
    cases b with
    | none => rfl
    | some y =>
      have e : l = [] := h
      subst e
      cases h2.1
  | some x =>
    cases b with
    | none =>
      have e : l = [] := h2
      subst e
      cases h.1
    | some y =>
      have h1 := h.2 y h2.1
      have h3 := h2.2 x h.1
      rw [show x = y by omega]
def fitB (p q c : Int) (d : Rec) : Bool := if d.lo = true then decide (d.n ≤ (p * d.t + c) / q) else decide ((p * d.t + c) / q ≤ d.n)
structure Bc (mg : Str → Option Value) : Prop where
  most_ : ∃ t, mg "MOST_RECORDS" = some (.int 200 t)
section
variable {P : Program} {w : World} {K : PySem.W.Frag} {mg : Str → Option Value} {base : Heap}
/-! ### is_record, check_records -/
def spIsRec : Sp := fun vs H Q _ => ∃ (r : Addr) (d : Rec), vs = [.ref r] ∧ H r = some (rcO d) ∧ ∀ H', Same H H' → Q (.bl true) H'
abbrev s_is_record : Stmt := topS 7
abbrev N_is_record : List Str := ["value"]
abbrev P_is_record : List Str := ["value"]
theorem sc_is_record : FnScope N_is_record P_is_record (defScope s_is_record) := ⟨rfl, rfl, rfl, by decide +kernel, rfl, by decide +kernel, by decide +kernel⟩
theorem ok_is_record (D : Df K mg "is_record" s_is_record P_is_record) (B : Bi mg) (c_is_integer : C8.Cal P w K mg base 1 "is_integer" spIsInt []) : C8.Cal P w K mg base 2 "is_record" spIsRec [] := by
  refine cal_of D sc_is_record (fun vs H Q E h => ?_) (fun f cdv A outer s H vs Q E hr h => ?_)
  · obtain ⟨r, d, rfl, _⟩ := h
    rfl
  · obtain ⟨r, d, rfl, er, kk⟩ := h
    refine ⟨_, (pss_cons (ps_if (PW.pt (pw_or (pt_not (pt_val (pe_callB (call_isi) (by rfl) B.isinstance_ bt_isinstance (pa_cons (pv 0) (pa_cons (pe_bltn (v := .ty "tuple") (by rfl) B.tuple_ bt_tuple rfl) pa_nil))))) (pw_or1 (pt_cmpR op_ne (pe_callB (call_len_seq) (by rfl) B.len_ bt_len (pa_cons (pv 0) pa_nil)) pe_int (nomark _)))))
      (pss_one (ps_ret pe_bl))
      pss_nil)
    (pss_one (ps_ret (pe_and (pe_cmpR op_in_seq (pe_ix (r := rIxT K) ix_tup (pv 0) pe_int (fun _ _ => rfl)) (pe_tup (pa_cons pe_str (pa_cons pe_str pa_nil))) rfl) (pe_and (C8.pe_c c_is_integer hr (by decide) (by rfl) (pa_cons (pe_ix (r := rIxT K) ix_tup (pv 0) pe_int (fun _ _ => rfl)) pa_nil)) (pe_one (C8.pe_c c_is_integer hr (by decide) (by rfl) (pa_cons (pe_ix (r := rIxT K) ix_tup (pv 0) pe_int (fun _ _ => rfl)) pa_nil)))))))), ?_⟩
    refine ⟨_, rfl, _, _, _, _, true, rfl, .ty "tuple", .base (.tup er), kit_ty ktt, true, rfl, iteF ?_⟩
    refine ⟨_, rfl, r, _, rfl, .inr (SqT.of er), rfl, _, rfl, iteNS rfl ?_⟩
    refine ⟨_, rfl, r, _, _, _, rfl, rfl, SqT.of er, atI_nat (j := 0) rfl, len10 (by simp), fun p np => ?_⟩
    have er1 := sm_upd (o := .tup [.str "at least", .str "at most"]) np _ _ er
    refine ⟨p, _, rfl, .inr (SqT.of upd_same), rfl, rfl, _, rfl, iteTs (in_words d.lo) ?_⟩
    refine ⟨_, rfl, r, _, _, _, rfl, rfl, SqT.of er1, atI_nat (j := 1) rfl, d.t, rfl, true, rfl, iteT ?_⟩
    refine ⟨_, rfl, r, _, _, _, rfl, rfl, SqT.of er1, atI_nat (j := 2) rfl, d.n, rfl, ?_⟩
    exact kk _ (sm_upd np)
def spCkRec : Sp := fun vs H Q _ => ∃ (L : Addr) (xs : List V) (ds : List Rec), vs = [.ref L] ∧ H L = some (.lst xs) ∧ Obs rcO H xs ds ∧ ds.length ≤ 200 ∧ ∀ H', Same H H' → Q .non H'
/-! ### split_records -/
def spSplit : Sp := fun vs H Q _ => ∃ (L : Addr) (xs : List V) (ds : List Rec), vs = [.ref L] ∧ H L = some (.lst xs) ∧ Obs rcO H xs ds ∧ ds.length ≤ 1000 ∧
  ∀ T H' A B as bs, Same H H' → H' T = some (.tup [.ref A, .ref B]) → H' A = some (.lst as) → Obs trO H' as (sel true 0 ds) → H' B = some (.lst bs) → Obs trO H' bs (sel false 0 ds) → Q (.ref T) H'
end
end Lf
namespace Lf
open PySem PySem.Spec PyProof.Rows L2
/-! ### checks of integers: any value -/
def atLeast (l : Int) : PyData → Bool
  | .int i => decide (l ≤ i)
  | _ => false
theorem isI_b {d : PyData} (h : isI d = true) : isIB d = true ∧ isB d = false := by
  cases d <;> first | exact ⟨rfl, rfl⟩ | cases h
section
variable {P : Program} {w : World} {K : PySem.W.Frag} {mg : Str → Option Value} {base : Heap} {C : Addr}
def spIsAny : Sp := fun vs H Q _ => ∃ (v : V) (d : PyData), vs = [v] ∧ Dv H v d ∧ Q (.bl (isI d)) H
theorem okA_is_integer (D : Df K mg "is_integer" s_is_integer P_is_integer) (B : Bi mg) : C8.Cal P w K mg base 1 "is_integer" spIsAny [] := by
  refine cal_of D sc_is_integer (fun vs H Q E h => ?_) (fun f cdv A outer s H vs Q E hr h => ?_)
  · obtain ⟨v, d, rfl, _⟩ := h
    rfl
  · obtain ⟨v, d, rfl, dv, q⟩ := h
    refine ⟨_, (pss_one (ps_ret (pe_and (pe_callB (call_isi) (by rfl) B.isinstance_ bt_isinstance (pa_cons (pv 0) (pa_cons (pe_bltn (v := .ty "int") (by rfl) B.int_ bt_int rfl) pa_nil))) (pe_one (pe_not (pe_callB (call_isi) (by rfl) B.isinstance_ bt_isinstance (pa_cons (pv 0) (pa_cons (pe_bltn (v := .ty "bool") (by rfl) B.bool_ bt_bool rfl) pa_nil)))))))), ?_⟩
    refine ⟨_, rfl, _, _, _, _, isIB d, rfl, .ty "int", dv.ty, kit_ty (kit_int d), isIB d, rfl, ?_⟩
    by_cases hb : isIB d = true
    · rw [if_pos hb]
      refine ⟨_, rfl, _, _, _, _, isB d, rfl, .ty "bool", dv.ty, kit_ty (kit_bool d), isB d, rfl, ?_⟩
      have e : (!isB d) = isI d := by
        cases d <;> first | rfl | cases hb
      rw [e]
      exact q
    · rw [if_neg hb]
      have e : isI d = false := by
        cases d <;> first | rfl | exact absurd rfl hb
      rw [e] at q
      exact q
/-- InvalidNumber, with the value -/
def Out (C : Addr) (v : V) (H : Hp) (E : XK) : Prop := ∀ dd, H dd = none → E (.ref C) (some dd) (upd H dd (.xd [("value", v)]))
def spCkI (C : Addr) : Sp := fun vs H Q E => ∃ (v : V) (d : PyData), vs = [v] ∧ Dv H v d ∧ (isI d = true → Q .non H) ∧ (isI d = false → Out C v H E)
def spCkL (C : Addr) : Sp := fun vs H Q E => ∃ (v : V) (d : PyData) (l : Int), vs = [v, .int l] ∧ Dv H v d ∧ (atLeast l d = true → Q .non H) ∧ (atLeast l d = false → Out C v H E)
end
end Lf
namespace Lf
open PySem PySem.Spec PyProof.Rows L2
/-! ### records: any value -/
/-- x in a tuple whose items are data of any depth -/
def rInDT (K : PySem.W.Frag) : R2 := fun x y H Q => ∃ d ds, Dp K H x d ∧ Dp K H y (.tuple ds) ∧ SeqAt.shaped d = true ∧ SeqAt.shaped (.tuple ds) = true ∧ Q (.bl (ds.any fun z => PyData.eqv z d)) H
theorem op_inDT {X : Cx} (hu : X.A.units + 65 < cLine) : OpR X (compareOp .In) (rInDT X.K) := by
  intro pins s σ H x y v u Q I rx ry h
  obtain ⟨d, ds, hd, he, sd, se, q⟩ := h
  obtain ⟨as, r1⟩ := Dp.reads I d x v hd rx
  obtain ⟨bs, r2⟩ := Dp.reads I (.tuple ds) y u he ry
  exact SeqAt.in_tuple_reads r2 r1 (SeqAt.canLay_of_shaped se) (SeqAt.canLay_of_shaped sd) (room_in_shaped sd hu) ⟨.bl _, H, I, rfl, q⟩
mutual
theorem Dv.dp {K : PySem.W.Frag} {H : Hp} : ∀ (d : PyData) (v : V), Dv H v d → d.hasDict = false → Dp K H v d
  | .none, _, .non, _ => .non
  | .bool _, _, .bl b, _ => .bl b
  | .int _, _, .int i, _ => .int i
  | .str _, _, .str x, _ => .str x
  | .list ds, _, .lst _ h hs, n => .lst (SqL.of h) (Dv.dpAll ds _ hs (by simpa [PyData.hasDict] using n))
  | .tuple ds, _, .tup h hs, n => .tup (SqT.of h) (Dv.dpAll ds _ hs (by simpa [PyData.hasDict] using n))
  | .dict [], _, .dk0 h, n => by simp [PyData.hasDict] at n
  | .dict [(.str _, d)], _, .dk1 h h2, n => by simp [PyData.hasDict] at n
theorem Dv.dpAll {K : PySem.W.Frag} {H : Hp} : ∀ (ds : List PyData) (vs : List V), DvAll H vs ds → PyData.hasDictAll ds = false → DpAll K H vs ds
  | [], _, .nil, _ => .nil
  | d :: ds, _, .cons h hs, n => by
    have n : d.hasDict = false ∧ PyData.hasDictAll ds = false := by simpa [PyData.hasDictAll] using n
    exact .cons (Dv.dp d _ h n.1) (Dv.dpAll ds _ hs n.2)
end
def words : List PyData := [.str "at least", .str "at most"]
def recB : PyData → Bool
  | .tuple [d0, d1, d2] => words.any (fun z => PyData.eqv z d0) && (isI d1 && isI d2)
  | _ => false
/-- its first part may be looked for -/
def rgB : PyData → Bool
  | .tuple [d0, _, _] => !d0.hasDict && SeqAt.shaped d0
  | _ => true
theorem rec_three {ds : List PyData} (h : ds.length ≠ 3) : recB (.tuple ds) = false := by
  match ds, h with
  | [], _ => rfl
  | [_], _ => rfl
  | [_, _], _ => rfl
  | [_, _, _], h => exact absurd rfl h
  | _ :: _ :: _ :: _ :: _, _ => rfl
theorem len_ne3 {n : Nat} (h : n ≠ 3) : (!decide (V.int (n : Int) = V.int 3)) = true := by
  have : ¬ V.int (n : Int) = V.int 3 := fun z => h (by
    have := V.int.inj z
    omega)
  rw [decide_eq_false this]
  rfl
def isT' : PyData → Bool
  | .tuple _ => true
  | _ => false
theorem kit_tup' (d : PyData) : kitB (tyN d) "tuple" = some (isT' d) := by
  cases d
  · show kitB "NoneType" "tuple" = some false; decide +kernel
  · show kitB "bool" "tuple" = some false; decide +kernel
  · show kitB "int" "tuple" = some false; decide +kernel
  · show kitB "str" "tuple" = some false; decide +kernel
  · show kitB "list" "tuple" = some false; decide +kernel
  · show kitB "tuple" "tuple" = some true; decide +kernel
  · show kitB "dict" "tuple" = some false; decide +kernel
theorem dva_length {H : Hp} {vs : List V} {ds : List PyData} (h : DvAll H vs ds) : vs.length = ds.length := by
  induction ds generalizing vs with
  | nil =>
    cases h
    rfl
  | cons d ds ih =>
    cases h with
    | cons _ h2 => rw [List.length_cons, List.length_cons, ih h2]
/-- the exception, with what it keeps -/
def OutY (C : Addr) (x : Str) (v : V) (H : Hp) (E : XK) : Prop := ∀ dd, H dd = none → E (.ref C) (some dd) (upd H dd (.xd [(x, v)]))
def opp (d : Rec) : Rec := ⟨!d.lo, d.t, if d.lo = true then d.n - 1 else d.n + 1⟩
section
variable {P : Program} {w : World} {K : PySem.W.Frag} {mg : Str → Option Value} {base : Heap} {C : Addr}
def spIsRecD : Sp := fun vs H Q _ => ∃ (v : V) (d : PyData), vs = [v] ∧ Dv H v d ∧ rgB d = true ∧ ∀ H', Same H H' → Q (.bl (recB d)) H'
theorem okA_is_record (D : Df K mg "is_record" s_is_record P_is_record) (B : Bi mg) (cA_is_integer : C8.Cal P w K mg base 1 "is_integer" spIsAny []) : C8.Cal P w K mg base 2 "is_record" spIsRecD [] := by
  refine cal_of D sc_is_record (fun vs H Q E h => ?_) (fun f cdv A outer s H vs Q E hr h => ?_)
  · obtain ⟨v, d, rfl, _⟩ := h
    rfl
  · obtain ⟨v, d, rfl, dv, rg, kk⟩ := h
    have c_is_integer := cA_is_integer
    have hu : (A.deeper (envOfC "is_record" (defScope s_is_record) s.heap.objs.size f cdv)).units + 65 < cLine := by
      have := hr.un
      omega
    refine ⟨_, (pss_cons (ps_if (PW.pt (pw_or (pt_not (pt_val (pe_callB (call_isi) (by rfl) B.isinstance_ bt_isinstance (pa_cons (pv 0) (pa_cons (pe_bltn (v := .ty "tuple") (by rfl) B.tuple_ bt_tuple rfl) pa_nil))))) (pw_or1 (pt_cmpR op_ne (pe_callB (call_len_seq) (by rfl) B.len_ bt_len (pa_cons (pv 0) pa_nil)) pe_int (nomark _)))))
      (pss_one (ps_ret pe_bl))
      pss_nil)
    (pss_one (ps_ret (pe_and (pe_cmpR (op_inDT hu) (pe_ix (r := rIxT K) ix_tup (pv 0) pe_int (fun _ _ => rfl)) (pe_tup (pa_cons pe_str (pa_cons pe_str pa_nil))) rfl) (pe_and (C8.pe_c c_is_integer hr (by decide) (by rfl) (pa_cons (pe_ix (r := rIxT K) ix_tup (pv 0) pe_int (fun _ _ => rfl)) pa_nil)) (pe_one (C8.pe_c c_is_integer hr (by decide) (by rfl) (pa_cons (pe_ix (r := rIxT K) ix_tup (pv 0) pe_int (fun _ _ => rfl)) pa_nil)))))))), ?_⟩
    refine ⟨_, rfl, _, _, _, _, isT' d, rfl, .ty "tuple", dv.ty, kit_ty (kit_tup' d), isT' d, rfl, ?_⟩
    cases ht : isT' d with
    | false =>
      have e : recB d = false := by
        cases d <;> first | rfl | cases ht
      rw [e] at kk
      exact iteT (iteT (kk _ (Same.refl _)))
    | true =>
      cases dv with
      | tup er hs =>
        rename_i r xs ds
        refine iteF ⟨_, rfl, r, _, rfl, .inr (SqT.of er), rfl, _, rfl, ?_⟩
        have hl := dva_length hs
        by_cases h3 : xs.length = 3
        · match xs, ds, hs, h3, hl with
          | [v0, v1, v2], [d0, d1, d2], hs, _, _ =>
            cases hs with
            | cons g0 hs =>
              cases hs with
              | cons g1 hs =>
                cases hs with
                | cons g2 hs =>
                  have rg : (!d0.hasDict && SeqAt.shaped d0) = true := rg
                  rw [Bool.and_eq_true] at rg
                  have nd : d0.hasDict = false := by
                    have := rg.1
                    cases h : d0.hasDict with
                    | false => rfl
                    | true =>
                      rw [h] at this
                      cases this
                  refine iteNS rfl ?_
                  refine ⟨_, rfl, r, _, _, _, rfl, rfl, SqT.of er, atI_nat (j := 0) rfl, len10 (by simp), fun p np => ?_⟩
                  have z := sm_upd (o := .tup [.str "at least", .str "at most"]) np
                  have er1 := z _ _ er
                  have kz := (Fr.same z).kp
                  refine ⟨d0, words, Dv.dp d0 _ (Dv.kp kz _ _ g0) nd, Dp.tup (SqT.of upd_same) (.cons (.str _) (.cons (.str _) .nil)), rg.2, by decide +kernel, _, rfl, ?_⟩
                  have kk : ∀ H', Same H H' → Q (.bl (words.any (fun z => PyData.eqv z d0) && (isI d1 && isI d2))) H' := kk
                  cases c0 : words.any (fun z => PyData.eqv z d0) with
                  | false =>
                    rw [c0] at kk
                    exact iteF (kk _ z)
                  | true =>
                    rw [c0] at kk
                    refine iteT ⟨_, rfl, r, _, _, _, rfl, rfl, SqT.of er1, atI_nat (j := 1) rfl, v1, d1, rfl, Dv.kp kz _ _ g1, isI d1, rfl, ?_⟩
                    cases c1 : isI d1 with
                    | false =>
                      rw [c1] at kk
                      exact iteF (kk _ z)
                    | true =>
                      rw [c1] at kk
                      refine iteT ⟨_, rfl, r, _, _, _, rfl, rfl, SqT.of er1, atI_nat (j := 2) rfl, v2, d2, rfl, Dv.kp kz _ _ g2, ?_⟩
                      exact kk _ z
        · rw [rec_three (by omega)] at kk
          exact iteTs (len_ne3 h3) (kk _ (Same.refl _))
      | _ => cases ht
/-! ### opposite -/
def spOpp : Sp := fun vs H Q _ => ∃ (r : Addr) (d : Rec), vs = [.ref r] ∧ H r = some (rcO d) ∧ ∀ e H', Same H H' → H' e = some (rcO (opp d)) → Q (.ref e) H'
def spOppX (C : Addr) : Sp := fun vs H _ E => ∃ (v : V) (d : PyData), vs = [v] ∧ Dv H v d ∧ rgB d = true ∧ recB d = false ∧ ∀ H', Same H H' → OutY C "index" (.int 0) H' E
end
/-- n.x of an exception that a name keeps -/
theorem pe_xk {Y : Cx} {a C : Addr} {oe : Obj} {cls : Value} {d : Option Addr} {e : Expr} {te : TE} {pos : Pos} {n : Str} (T : XfC Y.K C) (hno : PySem.W.findIn Y.K (.ref C) n = some none)
    (hz : Zc cls d oe) (hf : ∃ vs, oe.data = .fields vs) (hin : (a, oe) ∈ Y.pn) (he : PE Y e te) (hb : attributeBase e n Y.env (eval e Y.env) = eval e Y.env := by rfl) : PE Y (.Attribute e n pos) (tXf a cls d C n te) := by
  constructor
  intro pins s σ H Q I h
  refine attr_of hb (thn (he.run pins s σ H _ I h) fun u s1 hh => ?_)
  obtain ⟨x, H1, J1, rx, ex, ec, dd, fs, v, ed, ea, l, q⟩ := hh
  subst ex ec ed
  obtain rfl : u = Value.ref a := rx
  obtain ⟨there, _⟩ := J1.pin (a, oe) (List.mem_append_left _ hin)
  obtain ⟨vs, hd⟩ := hf
  obtain ⟨mA, hns, hr⟩ := (show ObjOk Y.prog Y.w H1 s1.heap dd (.xd fs) from J1.hok dd _ ea)
  obtain ⟨od, ho, hl⟩ := lookIn_ns hns
  obtain ⟨u, hu, ru⟩ := RelO.some_of (v := v) (o := mA n) (by rw [← l]; exact hr n)
  have inst : PySem.W.InstAt s1.heap a oe C (some od) := ⟨there, hz.1, by unfold PySem.W.notCls; rw [hd] <;> rfl, by rw [hz.2]; exact ho⟩
  have found := PySem.W.findObj_own T.hdC hno rfl (by rw [hl, hu])
  exact HandSPX.exc_get J1.kIn inst T.ga T.gg T.exC found (handed_of ru) ⟨v, H1, J1.tok _, ru, q⟩
end Lf
namespace Lf
open PySem PySem.Spec PyProof.Rows L2
/-! ### rules: any value -/
def ruleD : PyData → Bool
  | .tuple [.int p, .int q, .int _] => decide (0 ≤ p) && (decide (1 ≤ q) && decide (V.int (Int.gcd p q : Int) = V.int 1))
  | _ => false
theorem rule_three {ds : List PyData} (h : ds.length ≠ 3) : ruleD (.tuple ds) = false := by
  unfold ruleD
  split
  · rename_i p q c e
    cases e
    exact absurd rfl h
  · rfl
theorem rule_i {d0 d1 d2 : PyData} (h : ([isI d0, isI d1, isI d2].all fun b => b) = false) : ruleD (.tuple [d0, d1, d2]) = false := by
  unfold ruleD
  split
  · rename_i p q c e
    cases e
    cases h
  · rfl
theorem isI_inv3 {H : Hp} {v : V} {d : PyData} (h : Dv H v d) (hi : isI d = true) : ∃ z, v = .int z ∧ d = .int z := by
  cases h with
  | int z => exact ⟨z, rfl, rfl⟩
  | _ => cases hi
section
variable {P : Program} {w : World} {K : PySem.W.Frag} {mg : Str → Option Value} {base : Heap} {C CV : Addr}
def spIsRuleD : Sp := fun vs H Q _ => ∃ (v : V) (d : PyData), vs = [v] ∧ Dv H v d ∧ ∀ H', Same H H' → Q (.bl (ruleD d)) H'
theorem okA_is_rule (D : Df K mg "is_rule" s_is_rule P_is_rule) (B : Bi mg) (cA_is_integer : C8.Cal P w K mg base 1 "is_integer" spIsAny []) (c_gcd : C8.Cal P w K mg base 1 "gcd" spGcd []) : C8.Cal P w K mg base 2 "is_rule" spIsRuleD [] := by
  refine cal_of D sc_is_rule (fun vs H Q E h => ?_) (fun f cdv A outer s H vs Q E hr h => ?_)
  · obtain ⟨v, d, rfl, _⟩ := h
    rfl
  · obtain ⟨v, d, rfl, dv, kk⟩ := h
    have c_is_integer := cA_is_integer
    refine ⟨_, (pss_cons (ps_if (PW.pt (pw_or (pt_not (pt_val (pe_callB (call_isi) (by rfl) B.isinstance_ bt_isinstance (pa_cons (pv 0) (pa_cons (pe_bltn (v := .ty "tuple") (by rfl) B.tuple_ bt_tuple rfl) pa_nil))))) (pw_or1 (pt_cmpR op_ne (pe_callB (call_len_seq) (by rfl) B.len_ bt_len (pa_cons (pv 0) pa_nil)) pe_int (nomark _)))))
      (pss_one (ps_ret pe_bl))
      pss_nil)
    (pss_cons (ps_if (pt_not (pt_val (pe_callB (cr_all rfl) (by rfl) B.all_ bt_all (pa_cons (pe_lc (own := [("item", 1)]) (g := (gName 1)) (by rfl) sc_is_rule.nd (pi_tup (pv 0)) (blkOk_by (own := [("item", 1)]) (N := N_is_rule) (sc := defScope s_is_rule) (by decide +kernel)) (fun _ _ _ _ _ => (pg_name (i := 1) sc_is_rule.nd rfl (Or.inl rfl))) (fun _ _ _ _ _ => pts_nil) (fun _ _ _ _ _ => (C8.pe_c c_is_integer hr (by decide) (by rfl) (pa_cons (pv 1) pa_nil)))) pa_nil))))
      (pss_one (ps_ret pe_bl))
      pss_nil)
    (pss_one (ps_ret (pe_and (pe_cmpR op_ge (pe_ix (r := rIxT K) ix_tup (pv 0) pe_int (fun _ _ => rfl)) pe_int (nomark _)) (pe_and (pe_cmpR op_ge (pe_ix (r := rIxT K) ix_tup (pv 0) pe_int (fun _ _ => rfl)) pe_int (nomark _)) (pe_one (pe_cmpR op_eq (C8.pe_c c_gcd hr (by decide) (by rfl) (pa_cons (pe_ix (r := rIxT K) ix_tup (pv 0) pe_int (fun _ _ => rfl)) (pa_cons (pe_ix (r := rIxT K) ix_tup (pv 0) pe_int (fun _ _ => rfl)) pa_nil))) pe_int (nomark _))))))))), ?_⟩
    refine ⟨_, rfl, _, _, _, _, isT' d, rfl, .ty "tuple", dv.ty, kit_ty (kit_tup' d), isT' d, rfl, ?_⟩
    cases ht : isT' d with
    | false =>
      have e : ruleD d = false := by
        cases d <;> first | rfl | cases ht
      rw [e] at kk
      exact iteT (iteT (kk _ (Same.refl _)))
    | true =>
      cases dv with
      | tup er hs =>
        rename_i r xs ds
        refine iteF ⟨_, rfl, r, _, rfl, .inr (SqT.of er), rfl, _, rfl, ?_⟩
        have hl := dva_length hs
        by_cases h3 : xs.length = 3
        · match xs, ds, hs, h3, hl with
          | [v0, v1, v2], [d0, d1, d2], hs, _, _ =>
            cases hs with
            | cons g0 hs =>
              cases hs with
              | cons g1 hs =>
                cases hs with
                | cons g2 hs =>
                  refine iteNS rfl ?_
                  refine ⟨_, rfl, r, rfl, ⟨_, SqT.of er⟩, fun L nL => ?_⟩
                  refine lc_tup (K := K) (a := r) (xs := [v0, v1, v2]) (fun i H' => Same H H' ∧ H' L = some (.lst ((([isI d0, isI d1, isI d2] : List Bool).take i).map V.bl))) ?_ ?_ ?_ ?_
                  · exact ⟨sm_upd nL, upd_same⟩
                  · rintro i H' hi ⟨s1, _⟩
                    exact SqT.of (s1 _ _ er)
                  · rintro i x H' hx ⟨s1, eL⟩
                    have hi : i < 3 := (List.getElem?_eq_some_iff.mp hx).1
                    have kz := (Fr.same s1).kp
                    obtain ⟨d, gd, e1⟩ : ∃ d, Dv H' x d ∧ (([isI d0, isI d1, isI d2] : List Bool).take (i + 1)) = (([isI d0, isI d1, isI d2] : List Bool).take i) ++ [isI d] := by
                      match i, hi with
                      | 0, _ =>
                        cases (Option.some.inj hx)
                        exact ⟨d0, Dv.kp kz _ _ g0, rfl⟩
                      | 1, _ =>
                        cases (Option.some.inj hx)
                        exact ⟨d1, Dv.kp kz _ _ g1, rfl⟩
                      | 2, _ =>
                        cases (Option.some.inj hx)
                        exact ⟨d2, Dv.kp kz _ _ g2, rfl⟩
                    refine ⟨rfl, _, rfl, x, d, rfl, gd, _, eL, ?_, ?_, ?_⟩
                    · rw [List.length_map, List.length_take]
                      exact small1000 (by omega)
                    · intro b o eb
                      rw [upd_ne (ne_of_none eb nL)]
                      exact s1 _ _ eb
                    · rw [upd_same, e1, List.map_append]
                      rfl
                  · rintro H' ⟨s1, eL⟩
                    have eL' : H' L = some (.lst ([isI d0, isI d1, isI d2].map V.bl)) := eL
                    have er' := s1 _ _ er
                    cases ha : ([isI d0, isI d1, isI d2].all fun b => b) with
                    | false =>
                      rw [rule_i ha] at kk
                      exact ⟨L, _, rfl, SqL.of eL', _, rfl, iteTs (by show (!([isI d0, isI d1, isI d2].all fun b => b)) = true; rw [ha]; rfl) (kk _ s1)⟩
                    | true =>
                      have i3 : isI d0 = true ∧ isI d1 = true ∧ isI d2 = true := by
                        simpa [List.all_cons] using ha
                      obtain ⟨p, rfl, rfl⟩ := isI_inv3 g0 i3.1
                      obtain ⟨q, rfl, rfl⟩ := isI_inv3 g1 i3.2.1
                      obtain ⟨c, rfl, rfl⟩ := isI_inv3 g2 i3.2.2
                      have kk : ∀ H', Same H H' → Q (.bl (decide (0 ≤ p) && (decide (1 ≤ q) && decide (V.int (Int.gcd p q : Int) = V.int 1)))) H' := kk
                      refine ⟨L, _, rfl, SqL.of eL', true, rfl, iteF ?_⟩
                      refine ⟨_, rfl, r, _, _, _, rfl, rfl, SqT.of er', atI_nat (j := 0) rfl, _, _, rfl, rfl, _, rfl, ite2 (fun c1 => ?_) (fun c1 => ?_)⟩
                      · have c1 : p ≥ 0 := of_decide_eq_true c1
                        rw [decide_eq_true (show 0 ≤ p from c1), Bool.true_and] at kk
                        refine ⟨_, rfl, r, _, _, _, rfl, rfl, SqT.of er', atI_nat (j := 1) rfl, _, _, rfl, rfl, _, rfl, ite2 (fun c2 => ?_) (fun c2 => ?_)⟩
                        · have c2 : q ≥ 1 := of_decide_eq_true c2
                          rw [decide_eq_true (show 1 ≤ q from c2), Bool.true_and] at kk
                          exact ⟨_, rfl, r, _, _, _, rfl, rfl, SqT.of er', atI_nat (j := 0) rfl, _, rfl, r, _, _, _, rfl, rfl, SqT.of er', atI_nat (j := 1) rfl, p, q, rfl, c1, by omega, rfl, kk _ s1⟩
                        · have c2 : ¬ q ≥ 1 := fun z => c2 (decide_eq_true z)
                          rw [decide_eq_false (show ¬ 1 ≤ q from c2), Bool.false_and] at kk
                          exact kk _ s1
                      · have c1 : ¬ p ≥ 0 := fun z => c1 (decide_eq_true z)
                        rw [decide_eq_false (show ¬ 0 ≤ p from c1), Bool.false_and] at kk
                        exact kk _ s1
        · rw [rule_three (by omega)] at kk
          exact iteTs (len_ne3 h3) (kk _ (Same.refl _))
      | _ => cases ht
/-- the exception, with the value -/
def OutX3 (C : Addr) (x : Str) (v : V) (H : Hp) (E : XK) : Prop := ∀ dd, H dd = none → E (.ref C) (some dd) (upd H dd (.xd [(x, v)]))
def spCkRuleX (C : Addr) : Sp := fun vs H Q E => ∃ (v : V) (d : PyData), vs = [v] ∧ Dv H v d ∧ (∀ H', Same H H' → ruleD d = true → Q .non H') ∧ ∀ H', Same H H' → ruleD d = false → OutX3 C "value" v H' E
end
end Lf
namespace Lf
open PySem PySem.Spec PyProof.Rows L2
def Odp (Pd : PyData → Prop) (H : Hp) (x : V) : Prop := ∃ d, Dv H x d ∧ Pd d
def OdpL (Pd : PyData → Prop) (H : Hp) (xs : List V) : Prop := ∀ x ∈ xs, Odp Pd H x
section
variable {Pd : PyData → Prop} {H H' : Hp} {xs ys : List V}
theorem OdpL.kp (h : OdpL Pd H xs) (f : Kp H H') : OdpL Pd H' xs := fun x hx => by
  obtain ⟨d, h1, h2⟩ := h x hx
  exact ⟨d, Dv.kp f _ _ h1, h2⟩
theorem OdpL.same (h : OdpL Pd H xs) (s : Same H H') : OdpL Pd H' xs := h.kp (Fr.same s).kp
theorem OdpL.snoc {x : V} (h : OdpL Pd H xs) (o : Odp Pd H x) : OdpL Pd H (xs ++ [x]) := fun y hy => by
  rcases List.mem_append.mp hy with hy | hy
  · exact h y hy
  · rw [List.mem_singleton.mp hy]
    exact o
theorem OdpL.app (h : OdpL Pd H xs) (h2 : OdpL Pd H ys) : OdpL Pd H (xs ++ ys) := fun y hy => (List.mem_append.mp hy).elim (h y) (h2 y)
theorem OdpL.nil : OdpL Pd H [] := fun _ z => (nomatch z)
end
def Pd37 (d : PyData) : Prop := rgB d = true ∧ recB d = false
theorem odd_by {d : PyData} (h : (rgB d && !recB d) = true) : Pd37 d := by
  rw [Bool.and_eq_true] at h
  refine ⟨h.1, ?_⟩
  cases e : recB d with
  | false => rfl
  | true =>
    rw [e] at h
    cases h.2
theorem rec_i {d0 d1 d2 : PyData} (h : isI d1 = false ∨ isI d2 = false) : recB (.tuple [d0, d1, d2]) = false := by
  show (words.any (fun z => PyData.eqv z d0) && (isI d1 && isI d2)) = false
  rcases h with h | h <;> rw [h] <;> simp
theorem rec_s {x : Str} {t n : Int} (h : (words.any fun z => PyData.eqv z (.str x)) = false) : recB (.tuple [.str x, .int t, .int n]) = false := by
  show (words.any (fun z => PyData.eqv z (.str x)) && (isI (.int t) && isI (.int n))) = false
  rw [h]
  rfl
theorem rg_w (b : Bool) {d1 d2 : PyData} : rgB (.tuple [.str (wd b), d1, d2]) = true := by
  show (!PyData.hasDict (.str (wd b)) && SeqAt.shaped (.str (wd b))) = true
  cases b <;> decide +kernel
theorem rg_lw (b : Bool) {d1 d2 : PyData} : rgB (.tuple [.list [.str (wd b)], d1, d2]) = true := by
  show (!PyData.hasDict (.list [.str (wd b)]) && SeqAt.shaped (.list [.str (wd b)])) = true
  cases b <;> decide +kernel
theorem mergeK1 {x : Str} {v : V} : mergeK [] [(Sum.inr x, v)] = [(Sum.inr x, v)] := by
  simp [mergeK, putK]
end Lf
namespace Lf
open PySem PySem.Spec PyProof.Rows L2
/-! ### tables of code objects, kept -/
theorem tabs_fr {T : List (Addr × Str)} {H H' : Hp} (t : LamX.Tabs T H) (f : Fr H H') : LamX.Tabs T H' := fun p hp => by
  obtain ⟨ps, h1, h2, h3⟩ := t p hp
  refine ⟨ps, f.k _ _ h1 (fun _ z => by cases z), h2, fun pos cv hc => ?_⟩
  obtain ⟨c, e1, e2⟩ := h3 pos cv hc
  exact ⟨c, e1, f.k _ _ e2 fun _ z => by unfold LamX.CodeO at z; cases z⟩
theorem tabs_same {T : List (Addr × Str)} {H H' : Hp} (t : LamX.Tabs T H) (s : Same H H') : LamX.Tabs T H' := tabs_fr t (Fr.same s)
theorem Pen.extN {H H' : Hp} {a : PA} {n : Nat} (p : Pen H a n) (e : LamX.ExtN H H') : Pen H' a n := by
  obtain ⟨cs, t, r, h1, h2, h3⟩ := p.ex
  exact ⟨cs, t, r, e _ _ h1 (fun _ z => by cases z), e _ _ h2 (fun _ z => by cases z), h3⟩
theorem tup_extN {H H' : Hp} {b : Addr} {xs : List V} (e : LamX.ExtN H H') (h : H b = some (.tup xs)) : H' b = some (.tup xs) := e _ _ h fun _ z => by cases z
def spLawT (K : PySem.W.Frag) (PT : Addr) : Sp := fun vs H Q _ => ∃ (a : Addr) (ns : List Int), vs = [.ref a] ∧ SqL K H a (ns.map V.int) ∧ ns.length ≤ 63 ∧ H PT = some (.tbl #[]) ∧ ∀ H', Q (.bl true) H'
theorem iteFs {b : Bool} {A B : Prop} (h : b = false) (hB : B) : if b = true then A else B := by
  rw [h, if_neg Bool.false_ne_true]
  exact hB
theorem notin_of {ns : List Int} {k : Int} (h : k ∈ ns) : (if true = true then !inV (V.int k) (ns.map V.int) else inV (V.int k) (ns.map V.int)) = false := by
  rw [if_pos rfl, inV_ints, decide_eq_true h]
  rfl
/-- two pairs that are the same are not different -/
theorem ne2 {K : PySem.W.Frag} {H : Hp} {r1 r2 : Addr} {p q p' q' : Int} {Q : V → Hp → Prop} (e1 : H r1 = some (.tup [.int p, .int q])) (e2 : H r2 = some (.tup [.int p', .int q'])) (hp : p = p') (hq : q = q') (h : Q (.bl false) H) : rNeD K (.ref r1) (.ref r2) H Q := by
  subst hp hq
  refine ⟨.tuple [.int p, .int q], .tuple [.int p, .int q], Dp.tup (SqT.of e1) (.cons (.int p) (.cons (.int q) .nil)), Dp.tup (SqT.of e2) (.cons (.int p) (.cons (.int q) .nil)), rfl, rfl, ?_⟩
  rw [SeqAt.eqv_refl _ rfl]
  exact h
abbrev qLam : Str := (("law" : Str) ++ (".<locals>." : Str)) ++ ("<lambda>" : Str)
end Lf
namespace Lf
open PySem PySem.Spec PyProof.Rows L2
/-- two rules that are the same are not different -/
theorem ne3 {K : PySem.W.Frag} {H : Hp} {r1 r2 : Addr} {p q c p' q' c' : Int} {Q : V → Hp → Prop} (e1 : H r1 = some (.tup [.int p, .int q, .int c])) (e2 : H r2 = some (.tup [.int p', .int q', .int c'])) (hp : p = p') (hq : q = q') (hc : c = c') (h : Q (.bl false) H) : rNeD K (.ref r1) (.ref r2) H Q := by
  subst hp hq hc
  refine ⟨.tuple [.int p, .int q, .int c], .tuple [.int p, .int q, .int c], Dp.tup (SqT.of e1) (.cons (.int p) (.cons (.int q) (.cons (.int c) .nil))), Dp.tup (SqT.of e2) (.cons (.int p) (.cons (.int q) (.cons (.int c) .nil))), rfl, rfl, ?_⟩
  rw [SeqAt.eqv_refl _ rfl]
  exact h
theorem logR {k : Nat} {i : Int} (h : Bd k i) (hk : k ≤ 1920) : i.natAbs.log2 < 1920 := (h.mono hk).log (by decide)
def spLaw (K : PySem.W.Frag) : Sp := fun vs H Q _ => ∃ (a : Addr) (ns : List Int), vs = [.ref a] ∧ SqL K H a (ns.map V.int) ∧ ns.length ≤ 63 ∧ ∀ H', Q (.bl true) H'
end Lf
namespace Lf
open PySem PySem.Spec PyProof.Rows L2
/-! ### lists of the very same items, or of other lengths -/
def SmI (xs : List V) : Prop := ∀ z ∈ xs, flatB z = true ∨ ∃ c, z = .ref c
def rNeS (K : PySem.W.Frag) : R2 := fun x y H Q => ∃ a b xs ys, x = .ref a ∧ y = .ref b ∧ SqL K H a xs ∧ SqL K H b ys ∧ ((xs.length ≠ ys.length ∧ Q (.bl true) H) ∨ (xs = ys ∧ SmI xs ∧ Q (.bl false) H))
def rEqS (K : PySem.W.Frag) : R2 := fun x y H Q => ∃ a b xs ys, x = .ref a ∧ y = .ref b ∧ SqL K H a xs ∧ SqL K H b ys ∧ ((xs.length ≠ ys.length ∧ Q (.bl false) H) ∨ (xs = ys ∧ SmI xs ∧ Q (.bl true) H))
theorem smI_at {A : Around} {s : Shared} {xs : List V} : ∀ {us ws : List Value}, SmI xs → Vals xs us → Vals xs ws → ∀ j (h1 : j < us.length) (h2 : j < ws.length), SeqAt.EqAt A s us[j] ws[j] true := by
  induction xs with
  | nil =>
    intro us ws _ r1 r2 j h1 _
    cases r1
    exact absurd h1 (Nat.not_lt_zero j)
  | cons x xs ih =>
    intro us ws hs r1 r2 j h1 h2
    cases r1 with
    | cons a1 b1 =>
      cases r2 with
      | cons a2 b2 =>
        cases j with
        | zero =>
          rcases hs x List.mem_cons_self with f | ⟨c, rfl⟩
          · exact eqAt_same a1 a2 f
          · cases a1
            cases a2
            exact SeqAt.EqAt.same _
        | succ j => exact ih (fun z hz => hs z (List.mem_cons_of_mem _ hz)) b1 b2 j (Nat.lt_of_succ_lt_succ h1) (Nat.lt_of_succ_lt_succ h2)
section
variable {X : Cx}
theorem op_neS (hu : X.A.units + 64 < cLine) : OpR X (compareOp .NotEq) (rNeS X.K) := by
  intro pins s σ H x y v u Q I rx ry h
  obtain ⟨a, b, xs, ys, rfl, rfl, ha, hb, h⟩ := h
  cases rx
  cases ry
  obtain ⟨us, r1, p1, _⟩ := I.list ha
  obtain ⟨ws, r2, p2, _⟩ := I.list hb
  have l1 := r1.length
  have l2 := r2.length
  rcases h with ⟨hne, q⟩ | ⟨rfl, hs, q⟩
  · exact SeqAt.RcNeAt.lists_lengths p1.isList p2.isList (by rw [bne_iff_ne, List.size_toArray, List.size_toArray]; omega) (by omega) _ _ _ _ ⟨.bl true, H, I, rfl, q⟩
  · have hsz : us.toArray.size = ws.toArray.size := by rw [List.size_toArray, List.size_toArray]; omega
    have R := SeqAt.RcNeAt.lists (e := fun _ => true) p1.isList p2.isList hsz (show X.A.units < cLine by omega) (fun j h1 h2 => by
      have := smI_at (A := X.A.in1) (s := s) hs r1 r2 j (by simpa using h1) (by simpa using h2)
      simpa using this)
    rw [show ((List.range us.toArray.size).all fun _ => true) = true from List.all_eq_true.mpr fun _ _ => rfl] at R
    exact R _ _ _ _ ⟨.bl false, H, I, rfl, q⟩
theorem op_eqS (hu : X.A.units + 64 < cLine) : OpR X (compareOp .Eq) (rEqS X.K) := by
  intro pins s σ H x y v u Q I rx ry h
  obtain ⟨a, b, xs, ys, rfl, rfl, ha, hb, h⟩ := h
  cases rx
  cases ry
  obtain ⟨us, r1, p1, _⟩ := I.list ha
  obtain ⟨ws, r2, p2, _⟩ := I.list hb
  have l1 := r1.length
  have l2 := r2.length
  rcases h with ⟨hne, q⟩ | ⟨rfl, hs, q⟩
  · exact SeqAt.RcAt.lists_lengths p1.isList p2.isList (by rw [bne_iff_ne, List.size_toArray, List.size_toArray]; omega) (by omega) _ _ _ _ ⟨.bl false, H, I, rfl, q⟩
  · have hsz : us.toArray.size = ws.toArray.size := by rw [List.size_toArray, List.size_toArray]; omega
    have R := SeqAt.RcAt.lists (e := fun _ => true) p1.isList p2.isList hsz (show X.A.units < cLine by omega) (fun j h1 h2 => by
      have := smI_at (A := X.A.in1) (s := s) hs r1 r2 j (by simpa using h1) (by simpa using h2)
      simpa using this)
    rw [show ((List.range us.toArray.size).all fun _ => true) = true from List.all_eq_true.mpr fun _ _ => rfl] at R
    exact R _ _ _ _ ⟨.bl true, H, I, rfl, q⟩
end
end Lf
namespace Lf
open PySem PySem.Spec PyProof.Rows L2
def tNoSb : TS := fun _ _ _ => False
theorem pss_nob {X : Cx} {b : List Stmt} : PSs X b tNoSb := ⟨fun _ _ _ _ _ _ h => h.elim⟩
theorem nf_of {H H' : Hp} (s : Same H H') {F : Addr} (n : H' F = none) : H F = none := by
  cases e : H F with
  | none => rfl
  | some o =>
    rw [s _ _ e] at n
    cases n
theorem at_in {xs : List V} {d : Int} (h0 : 0 ≤ d) (h1 : d < (xs.length : Int)) : ∃ x, atI xs d = some x ∧ x ∈ xs := by
  obtain ⟨j, rfl⟩ := Int.eq_ofNat_of_zero_le h0
  have hj : j < xs.length := by omega
  exact ⟨_, atI_nat (List.getElem?_eq_getElem hj), List.getElem_mem hj⟩
section
variable {P : Program} {w : World} {K : PySem.W.Frag} {mg : Str → Option Value} {base : Heap} {C : Addr}
/-! ### _law_divisor -/
abbrev s_l_divisor : Stmt := topS 22
abbrev N_l_divisor : List Str := ["_law_one", "_law_two"]
abbrev P_l_divisor : List Str := ["_law_one", "_law_two"]
theorem sc_l_divisor : FnScope N_l_divisor P_l_divisor (defScope s_l_divisor) := ⟨rfl, rfl, rfl, by decide +kernel, rfl, by decide +kernel, by decide +kernel⟩
theorem ok_l_divisor (D : Df K mg "_law_divisor" s_l_divisor P_l_divisor) : C8.Cal P w K mg base 1 "_law_divisor" spGcd [] := by
  refine cal_of D sc_l_divisor (fun vs H Q E h => ?_) (fun f cdv A outer s H vs Q E hr h => ?_)
  · obtain ⟨x, y, rfl, _⟩ := h
    rfl
  · obtain ⟨x, y, rfl, hx, hy, q⟩ := h
    refine ⟨_, (pss_cons (ps_while PassesOwn.never (pt_cmpR op_gt (pv 1) pe_int (nomark _))
      (pss_one (ps_par (i := 0) (j := 1) rfl sc_l_divisor.nd rfl rfl (by decide) rfl rfl (pa_cons (pv 1) (pa_cons (pe_op op_mod (pv 0) (pv 1)) pa_nil)) rfl)))
    (pss_one (ps_ret (pv 0)))), ?_⟩
    refine while_by (fun σ H' => ∃ u v : Int, σ = [some (.int u), some (.int v)] ∧ 0 ≤ u ∧ 0 ≤ v ∧ Int.gcd u v = Int.gcd x y ∧ H' = H) mu1 ⟨x, y, rfl, hx, hy, rfl, rfl⟩ ?_ ?_
    · rintro σ H' ⟨u, v, rfl, hu, hv, e, rfl⟩
      refine ⟨_, rfl, _, _, rfl, rfl, _, rfl, ite2 (fun c => ?_) (fun c => ?_)⟩
      · have hv0 : 0 < v := of_decide_eq_true c
        refine ⟨_, rfl, _, rfl, _, rfl, _, _, rfl, rfl, hv0, _, _, rfl, ⟨v, u % v, rfl, hv, Int.emod_nonneg _ (by omega), ?_, rfl⟩, ?_⟩
        · rw [gcd_turn u v hu hv0]; exact e
        · show (u % v).toNat < v.toNat
          have := Int.emod_lt_of_pos u hv0
          omega
      · have hv0 : v = 0 := by
          have : ¬ 0 < v := fun z => c (decide_eq_true z)
          omega
        subst hv0
        refine ⟨_, rfl, ?_⟩
        have e2 : (Int.gcd x y : Int) = u := by
          rw [← e, Int.gcd_zero_right]
          omega
        rw [← e2]
        exact q
    · rintro σ H' Q1 Q2 hQ ⟨v, h1, i, j, h2, h3, b, h4, h5⟩
      exact ⟨v, h1, i, j, h2, h3, b, h4, hQ _ _ h5⟩
/-! ### _law_rule -/
def spRule01 : Sp := fun vs H Q _ => ∃ (a : PA) (n : Nat), vs = [.ref a] ∧ Pen H a n ∧ n < 2 ^ 39 ∧ ∀ r H' p q c, RuleB 100 p q c → H' r = some (.tup [.int p, .int q, .int c]) → Pen H' a (n + 4) → Fr H H' → Q (.ref r) H'
abbrev s_l_rule : Stmt := topS 23
abbrev N_l_rule : List Str := ["_law_state", "_law_scale", "_law_p", "_law_q", "_law_c", "_law_g"]
abbrev P_l_rule : List Str := ["_law_state"]
theorem sc_l_rule : FnScope N_l_rule P_l_rule (defScope s_l_rule) := ⟨rfl, rfl, rfl, by decide +kernel, rfl, by decide +kernel, by decide +kernel⟩
theorem ok_l_rule (D : Df K mg "_law_rule" s_l_rule P_l_rule) (B : Bi mg) (c_l_draw : C8.Cal P w K mg base 1 "_law_draw" spDraw []) (c_l_divisor : C8.Cal P w K mg base 1 "_law_divisor" spGcd []) : C8.Cal P w K mg base 2 "_law_rule" spRule01 [] := by
  refine cal_of D sc_l_rule (fun vs H Q E h => ?_) (fun f cdv A outer s H vs Q E hr h => ?_)
  · obtain ⟨a, n, rfl, _⟩ := h
    rfl
  · obtain ⟨a, n, rfl, hP, hn, kk⟩ := h
    refine ⟨_, (pss_cons (ps_set (i := 1) sc_l_rule.nd rfl (Or.inl rfl) (pe_ix (r := rIxL K) ix_list (pe_lst (pa_cons pe_int (pa_cons pe_int (pa_cons (pe_op op_pow pe_int pe_int) pa_nil)))) (C8.pe_c c_l_draw hr (by decide) (by rfl) (pa_cons (pv 0) (pa_cons pe_int pa_nil))) (fun _ _ => rfl)))
    (pss_cons (ps_par (i := 2) (j := 3) rfl sc_l_rule.nd rfl rfl (by decide) rfl rfl (pa_cons (C8.pe_c c_l_draw hr (by decide) (by rfl) (pa_cons (pv 0) (pa_cons (pv 1) pa_nil))) (pa_cons (pe_op op_add pe_int (C8.pe_c c_l_draw hr (by decide) (by rfl) (pa_cons (pv 0) (pa_cons (pv 1) pa_nil)))) pa_nil)) rfl)
    (pss_cons (ps_par (i := 4) (j := 5) rfl sc_l_rule.nd rfl rfl (by decide) rfl rfl (pa_cons (pe_op op_sub (C8.pe_c c_l_draw hr (by decide) (by rfl) (pa_cons (pv 0) (pa_cons (pe_op op_mul pe_int (pv 1)) pa_nil))) (pv 1)) (pa_cons (C8.pe_c c_l_divisor hr (by decide) (by rfl) (pa_cons (pv 2) (pa_cons (pv 3) pa_nil))) pa_nil)) rfl)
    (pss_one (ps_ret (pe_tup (pa_cons (pe_op op_fdivW (pv 2) (pv 5)) (pa_cons (pe_op op_fdivW (pv 3) (pv 5)) (pa_cons (pe_op op_fdivW (pv 4) (pv 5)) pa_nil))))))))), ?_⟩
    refine ⟨_, _, rfl, rfl, ⟨by decide, by decide, by decide⟩, len10 (by simp), fun O nO => ?_⟩
    refine ⟨_, rfl, a, _, _, rfl, hP.new nO, by omega, by decide, Bd.small 20 (by decide) (by decide), fun i H1 i0 i1 hP1 f1 => ?_⟩
    have eO := f1.l _ _ (upd_same (H := H) (a := O) (o := .lst [.int 5, .int 30, .int (10 ^ (9 : Int).toNat)]))
    obtain ⟨x, hx, mx⟩ := at_in (xs := [.int 5, .int 30, .int (10 ^ (9 : Int).toNat)]) i0 (by show i < 3; omega)
    refine ⟨O, _, _, _, rfl, rfl, SqL.of eO, hx, ?_⟩
    have f1 := (Fr.new nO).trans f1
    obtain ⟨sc, rfl, s1, s2⟩ : ∃ sc : Int, x = .int sc ∧ 1 ≤ sc ∧ sc ≤ 1000000000 := by
      simp only [List.mem_cons, List.not_mem_nil, or_false] at mx
      rcases mx with rfl | rfl | rfl <;> exact ⟨_, rfl, by decide, by decide⟩
    clear mx hx eO
    have bs : ∀ x : Int, x.natAbs < 2 ^ 40 → Bd 100 x := fun x h => Bd.small 40 h (by decide)
    refine ⟨_, rfl, _, rfl, a, _, _, rfl, hP1, by omega, by omega, (bs _ (by omega)).mono (by decide), fun p H2 p0 p1 hP2 f2 => ?_⟩
    refine ⟨_, rfl, _, rfl, a, _, _, rfl, hP2, by omega, by omega, (bs _ (by omega)).mono (by decide), fun q' H3 q0 q1 hP3 f3 => ?_⟩
    refine ⟨_, _, rfl, rfl, _, _, rfl, ?_⟩
    refine ⟨_, rfl, _, rfl, _, _, rfl, rfl, .inl ⟨by decide, by decide⟩, a, _, _, rfl, hP3, by omega, by omega, (bs _ (by omega)).mono (by decide), fun c H4 c0 c1 hP4 f4 => ?_⟩
    refine ⟨_, rfl, _, _, rfl, rfl, ?_⟩
    refine ⟨_, rfl, _, rfl, p, 1 + q', rfl, p0, by omega, ?_⟩
    refine ⟨_, _, rfl, ?_⟩
    have q1' : 1 ≤ 1 + q' := by omega
    have gp : (0 : Int) < (Int.gcd p (1 + q') : Int) := gcd_pos q1'
    have gb : (Int.gcd p (1 + q') : Int) ≤ 1 + q' := by
      have := Int.gcd_le_natAbs_right p (show (1 + q') ≠ 0 by omega)
      omega
    have hd : CDivW 0 (Int.gcd p (1 + q') : Int) := ⟨gp, ((bs _ (by omega)).mono (by decide : 100 ≤ 9000)).log (by decide)⟩
    have R : RuleB 100 (p / (Int.gcd p (1 + q') : Int)) ((1 + q') / (Int.gcd p (1 + q') : Int)) ((c - sc) / (Int.gcd p (1 + q') : Int)) := low_rule p0 q1' (bs _ (by omega)) (bs _ (by omega)) (bs _ (by omega))
    refine ⟨_, rfl, _, rfl, _, _, rfl, rfl, hd, _, rfl, _, rfl, _, _, rfl, rfl, hd, _, rfl, _, rfl, _, _, rfl, rfl, hd, len10 (by simp), fun r nr => ?_⟩
    exact kk r _ _ _ _ R upd_same ((hP4.new nr).mono (by omega)) (f1.trans (f2.trans (f3.trans (f4.trans (Fr.new nr)))))
/-! ### _law_count -/
def spCount30 : Sp := fun vs H Q _ => ∃ (r : Addr) (p q c t : Int) (k : Nat), vs = [.ref r, .int t] ∧ H r = some (.tup [.int p, .int q, .int c]) ∧ RuleB k p q c ∧ Bd k t ∧ 0 < k ∧ k ≤ 3000 ∧ Q (.int ((p * t + c) / q)) H
end
end Lf
namespace Lf
open PySem PySem.Spec PyProof.Rows L2 TL
/-! ### decimal digits -/
/-- the last k digits -/
def digK : Nat → Nat → List Nat
  | 0, _ => []
  | k + 1, b => digK k (b / 10) ++ [48 + b % 10]
theorem numL_app (r : Nat) (h : 1 ≤ r) : ∀ (k b : Nat), b < 10 ^ k → numL (r * 10 ^ k + b) = numL r ++ digK k b
  | 0, b, hb => by
    have : b = 0 := by
      have : b < 1 := hb
      omega
    subst this
    rw [Nat.pow_zero, Nat.mul_one, Nat.add_zero]
    simp [digK]
  | k + 1, b, hb => by
    have e : r * 10 ^ (k + 1) = 10 * (r * 10 ^ k) := by
      rw [Nat.pow_succ]
      calc r * (10 ^ k * 10) = (r * 10 ^ k) * 10 := (Nat.mul_assoc _ _ _).symm
        _ = 10 * (r * 10 ^ k) := Nat.mul_comm _ _
    have p : 1 ≤ r * 10 ^ k := Nat.mul_pos h (Nat.pow_pos (by decide))
    have hb' : b / 10 < 10 ^ k := by
      rw [Nat.pow_succ] at hb
      omega
    have ih := numL_app r h k (b / 10) hb'
    rw [e, numL_step (by omega)]
    have q : (10 * (r * 10 ^ k) + b) / 10 = r * 10 ^ k + b / 10 := by omega
    have m : (10 * (r * 10 ^ k) + b) % 10 = b % 10 := by omega
    rw [q, m, ih, List.append_assoc]
    rfl
theorem digK_zero : ∀ k : Nat, digK k 0 = List.replicate k 48
  | 0 => rfl
  | k + 1 => by
    show digK k (0 / 10) ++ [48 + 0 % 10] = _
    rw [Nat.zero_div, Nat.zero_mod, digK_zero k, List.replicate_succ']
theorem digK_pad : ∀ (k b : Nat), 1 ≤ k → b < 10 ^ k → digK k b = List.replicate (k - (numL b).length) 48 ++ numL b
  | 0, _, h, _ => by omega
  | 1, b, _, hb => by
    have hb : b < 10 := hb
    rw [numL_lt hb]
    show digK 0 (b / 10) ++ [48 + b % 10] = _
    rw [Nat.mod_eq_of_lt hb]
    rfl
  | k + 2, b, _, hb => by
    have hb' : b / 10 < 10 ^ (k + 1) := by
      rw [Nat.pow_succ] at hb
      omega
    have ih := digK_pad (k + 1) (b / 10) (by omega) hb'
    show digK (k + 1) (b / 10) ++ [48 + b % 10] = _
    by_cases c : b < 10
    · rw [Nat.div_eq_of_lt c, digK_zero, numL_lt c, Nat.mod_eq_of_lt c]
      rfl
    · rw [ih, numL_step (n := b) (by omega), List.append_assoc, List.length_append]
      show _ = List.replicate (k + 2 - ((numL (b / 10)).length + 1)) 48 ++ _
      rw [show k + 2 - ((numL (b / 10)).length + 1) = k + 1 - (numL (b / 10)).length by omega]
/-- how an integer is written -/
def decL : Int → List Nat
  | .ofNat n => numL n
  | .negSucc n => 45 :: numL (n + 1)
theorem tl_int (n : Int) : tl (Str.ofString (toString n)) = decL n := by
  cases n with
  | ofNat n => exact tl_num n
  | negSucc n =>
    rw [tl_ofString]
    show ("-" ++ Nat.repr (n + 1)).toList.map Char.toNat = 45 :: numL (n + 1)
    rw [String.toList_append, List.map_append, Nat.toList_repr]
    rfl
theorem numL_head : ∀ n : Nat, 1 ≤ n → (numL n).head? ≠ some 48 := fun n => by
  induction n using Nat.strongRecOn with
  | _ n ih =>
    intro h
    by_cases c : n < 10
    · rw [numL_lt c]
      intro z
      have z : some (48 + n) = some 48 := z
      have := Option.some.inj z
      omega
    · rw [numL_step (by omega)]
      have i := ih (n / 10) (by omega) (by omega)
      have ne := numL_ne (n / 10)
      cases e : numL (n / 10) with
      | nil => exact absurd e ne
      | cons x r =>
        rw [e] at i
        exact i
/-! ### how an integer is read -/
def isDg (c : Nat) : Bool := decide (48 ≤ c) && decide (c ≤ 57)
theorem isDg_iff (c : Nat) : isDg c = true ↔ 48 ≤ c ∧ c ≤ 57 := by
  unfold isDg
  rw [Bool.and_eq_true, decide_eq_true_iff, decide_eq_true_iff]
def digsOf (l : List Nat) : List Nat := if l.head? = some 45 then l.tail else l
def ReadOk (l : List Nat) : Prop := 1 ≤ (digsOf l).length ∧ (digsOf l).length ≤ 200 ∧ (digsOf l).all isDg = true ∧ ¬ ((digsOf l).head? = some 48 ∧ l ≠ [48])
instance (l : List Nat) : Decidable (ReadOk l) := by unfold ReadOk; infer_instance
def valOf (l : List Nat) : Int := if l.head? = some 45 then -((NumText.digitsVal (digsOf l) : Nat) : Int) else ((NumText.digitsVal (digsOf l) : Nat) : Int)
def readI (l : List Nat) : Option Int := if ReadOk l then some (valOf l) else none
theorem all_dg {l : List Nat} : l.all isDg = true ↔ NumText.AllDigits l := by
  rw [List.all_eq_true]
  exact ⟨fun h c hc => (isDg_iff c).mp (h c hc), fun h c hc => (isDg_iff c).mpr (h c hc)⟩
theorem numL_no45 (n : Nat) : (numL n).head? ≠ some 45 := fun h => by
  have := numL_free (n := n) (s := 45) (.inl (by decide))
  exact this (List.mem_of_mem_head? h)
theorem readI_decL (n : Int) (h : (numL n.natAbs).length ≤ 200) : readI (decL n) = some n := by
  unfold readI
  cases n with
  | ofNat n =>
    have e : digsOf (decL (Int.ofNat n)) = numL n := if_neg (numL_no45 n)
    have h : (numL n).length ≤ 200 := h
    have ok : ReadOk (decL (Int.ofNat n)) := by
      unfold ReadOk
      rw [e]
      refine ⟨List.length_pos_iff.mpr (numL_ne n), h, all_dg.mpr (numL_digits n), fun z => ?_⟩
      rcases Nat.eq_zero_or_pos n with c | c
      · subst c
        exact z.2 (numL_lt (by decide))
      · exact numL_head n c z.1
    rw [if_pos ok]
    unfold valOf
    rw [e, if_neg (show ¬ (decL (Int.ofNat n)).head? = some 45 from numL_no45 n), numL_val]
    rfl
  | negSucc n =>
    have e : digsOf (decL (Int.negSucc n)) = numL (n + 1) := rfl
    have h : (numL (n + 1)).length ≤ 200 := h
    have ok : ReadOk (decL (Int.negSucc n)) := by
      unfold ReadOk
      rw [e]
      exact ⟨List.length_pos_iff.mpr (numL_ne _), h, all_dg.mpr (numL_digits _), fun z => numL_head (n + 1) (by omega) z.1⟩
    rw [if_pos ok]
    unfold valOf
    rw [e, if_pos (show (decL (Int.negSucc n)).head? = some 45 from rfl), numL_val]
    rfl
/-- what int(text) gives -/
theorem intText_read {x : Str} (h : ReadOk (tl x)) : intText? x = some (valOf (tl x)) := by
  obtain ⟨h1, h2, h3, _⟩ := h
  have hd := all_dg.mp h3
  have hl : x.length = (tl x).length := len_tl x
  unfold valOf
  by_cases c : (tl x).head? = some 45
  · have e : digsOf (tl x) = (tl x).tail := if_pos c
    rw [if_pos c]
    rw [e] at h1 h2 hd ⊢
    have e2 : tl x = 45 :: (tl x).tail := by
      cases q : tl x with
      | nil =>
        rw [q] at c
        cases c
      | cons a r =>
        rw [q] at c
        have c : some a = some 45 := c
        cases c
        rfl
    refine intText_neg (x := x) (cs := (tl x).tail) e2 hd (List.length_pos_iff.mp h1) ?_
    have := congrArg List.length e2
    rw [List.length_cons] at this
    omega
  · have e : digsOf (tl x) = tl x := if_neg c
    rw [if_neg c]
    rw [e] at h1 h2 hd ⊢
    exact intText_digits (x := x) hd (List.length_pos_iff.mp h1) (by omega)
end Lf
namespace Lf
open PySem PySem.Spec PyProof.Rows L2 TL
/-! ### sep.join(reversed(a list of texts)) -/
theorem strs_app : ∀ {us vs : List Value} {xs ys : List Str}, StrsAre us xs → StrsAre vs ys → StrsAre (us ++ vs) (xs ++ ys)
  | _, _, _, _, .nil, h => h
  | _, _, _, _, .cons y t r, h => .cons y t (strs_app r h)
theorem strs_rev : ∀ {us : List Value} {ys : List Str}, StrsAre us ys → StrsAre us.reverse ys.reverse
  | _, _, .nil => .nil
  | _, _, .cons y t r => by
    rw [List.reverse_cons, List.reverse_cons]
    exact strs_app (strs_rev r) (.cons y t .nil)
theorem items_rev {its : List Value} {acc : Array Value} (h : ItemsOf (fun i v => its.toArray[its.toArray.size - 1 - i]? = some v) acc its.toArray.size) : acc.toList = its.reverse := by
  obtain ⟨h1, h2⟩ := h
  have h1 : acc.size = its.length := h1
  apply List.ext_getElem?
  intro i
  by_cases c : i < its.length
  · obtain ⟨v, hv⟩ : ∃ v, acc[i]? = some v := ⟨acc[i]'(by omega), Array.getElem?_eq_getElem (by omega)⟩
    have e := h2 i v hv
    rw [Array.getElem?_toList, hv, List.getElem?_reverse c]
    have e : its.toArray[its.length - 1 - i]? = some v := e
    rw [List.getElem?_toArray] at e
    exact e.symm
  · rw [List.getElem?_eq_none (by rw [Array.length_toList]; omega), List.getElem?_eq_none (by rw [List.length_reverse]; omega)]
section
variable {prog : Program} {w : World} {A : Around} {E : Value → Shared → Prop} {s : Shared}
theorem join_rev {x : Str} {t : Tok} {ys : List Str} {it l : Addr} {items : Array Value} {Q : Value → Shared → Prop} (hh : A.handled = none) (hit : s.heap.IsRevIter it l ((items.size : Int) - 1)) (hl : s.heap.IsList l items) (hne : l ≠ it) (hn : items.size ≤ sizeLine)
    (hP : ∀ acc : Array Value, ItemsOf (fun i v => items[items.size - 1 - i]? = some v) acc items.size → StrsAre acc.toList ys) (hok : (ys.map (·.length)).sum + ys.length * x.length ≤ 16777216)
    (hq : ∀ h' t' k, (∀ b o, b ≠ it → s.heap.get? b = some o → h'.get? b = some o) → Q (.str (Txt.join x ys) t') { s with heap := h', toks := k }) :
    wpAny (model prog w) A (call (.builtin "str.join") [.str x t, .ref it]) Q E s := by
  refine wpAny_call (codeAny_call_builtin F.slot_str_join.plain F.entry_str_join (F.slot_str_join.check _ _ _ _ _ _ _ _ (typeIs_str _ _ _) (F.args_str_join_2 _ _) ?_))
  rw [join_tree_other]
  have hT := hit.typeIs
  refine wpAny_bind (wpAny_typeOf hT ?_)
  show wpAny _ A.in1 ((pyIter (.ref it)).tryCatch _ >>= fun it => collect it >>= fun items => joinTail x items) _ _ s
  refine wpAny_bind (wpAny_tryCatch (wpAny_pyIter_revIter hit ?_))
  refine wpAny_bind (RT.collect_rev (A := A.in1) hh hit hl hne hn fun h' tk acc hk hacc => ?_)
  obtain ⟨ll, hl', ht⟩ := strsAre_values (hP acc hacc)
  subst ht
  rw [hl']
  have hok' := joinOk_of hok
  unfold JoinOk at hok'
  rw [Bool.not_eq_true'] at hok'
  have g : Gives (joinTail x (strValues ll)) (joinMade x ll) := by
    have g0 := gives_joinTail x ll hok'
    cases ll with
    | nil => exact g0
    | cons p r => cases r with
      | nil => exact g0
      | cons q r' => exact g0
  exact g prog w A (wants Q E) { s with heap := h', toks := tk } (post_join ll ⟨joinFit_length hok', fun t' k => hq h' t' k hk⟩)
end
section
variable {X : Cx}
/-- sep.join(reversed(xs)), xs a list of texts -/
def tJoinRev (K : PySem.W.Frag) (to : TE) (ta : TA) : TE := fun σ H Q => to σ H fun x H1 => (∃ a, x = .str a) ∧ ta σ H1 fun vs H2 => ∃ (a : Str) (q : Addr) (ys : List Str),
  x = .str a ∧ vs = [.ref q] ∧ SqL K H2 q (ys.map V.str) ∧ (ys.map (·.length)).sum + ys.length * a.length ≤ 16777216 ∧ Q (.str (Txt.join a ys.reverse)) H2
theorem pe_joinRev {o e : Expr} {to : TE} {ta : TA} {apos pos p pos2 : Pos} (hc : X.calm = true) (ho : PE X o to) (hg : Gl X "reversed") (hm : X.mg "reversed" = none) (ha : L2.PA X [e] ta)
    (hs1 : starEach [.Call (.Name "reversed" p) [e] [] pos2] X.env = [(false, eval (.Call (.Name "reversed" p) [e] [] pos2) X.env)] := by rfl)
    (hs : starEach [e] X.env = [(false, eval e X.env)] := by rfl)
    (hbase : attributeBase o "join" X.env (eval o X.env) = eval o X.env := by rfl) (hline : (apos.endLine == pos.line) = true := by rfl) :
    PE X (.Call (.Attribute o "join" apos) [.Call (.Name "reversed" p) [e] [] pos2] [] pos) (tJoinRev X.K to ta) := by
  refine ⟨fun pins s σ H Q I h => ?_⟩
  refine PySem.Call_method1 hbase hs1 hline (thn (ho.run pins s σ H _ I h) fun v s1 ⟨x, H1, I1, r1, q1⟩ => ?_)
  obtain ⟨⟨a, rfl⟩, q1⟩ := q1
  obtain ⟨t, rfl⟩ := _root_.id r1
  refine ⟨"str", _, F.plainAttrs_str, F.slot_str_join, F.type_str_join, typeIs_str _ _ _, (fun _ e => nomatch e), Calls.callWith_builtin rfl (Calls.evalArgs_plain (Calls.spliced_cons ?_))⟩
  refine Call_ (ld_blt I1 hg hm PyProof.Rows.boot_reversed (PyProof.Rows.callWith_type1 (thn (ha.run pos2 pins s1 σ H1 _ I1 q1) fun us s3 ⟨vs, H2, I3, r3, q3⟩ => ?_) hs rfl))
  obtain ⟨a', q, ys, ea, rfl, hq, hz, q3⟩ := q3
  cases ea
  cases r3 with
  | cons r rr =>
    cases rr
    cases r
    obtain ⟨its, rv, pl, hsz⟩ := I3.list hq
    have hlen : its.length = (ys.map V.str).length := rv.length.symm
    refine call_reversed_list pl.isList (Calls.spliced_nil ?_)
    have ll : q < s3.heap.objs.size := by
      obtain ⟨o, ho, _⟩ := pl.isList
      exact Heap.lt_size ho
    refine join_rev (s := { s3 with heap := s3.heap.push (revObj q ((its.toArray.size : Int) - 1)) }) (ys := ys.reverse) (it := s3.heap.objs.size) (l := q) (items := its.toArray) (I3.ok.hd hc) ⟨_, Heap.get?_push_size _ rfl, rfl, rfl⟩ (pl.isList.push _) (Nat.ne_of_lt ll) (by simp only [List.size_toArray]; omega) (fun acc hacc => ?_) ?_ fun h' t' k hk => ?_
    · rw [items_rev hacc]
      exact strs_rev (strs_of_vals rv)
    · rw [List.map_reverse, List.sum_reverse, List.length_reverse]
      exact hz
    · exact ⟨.str _, H2, I3.kept (t' := k) (fun b o e => hk b o (Nat.ne_of_lt (Heap.lt_size e)) (Heap.get?_push_of_some _ e)), ⟨t', rfl⟩, q3⟩
end
end Lf
namespace Lf
open PySem PySem.Spec PyProof.Rows L2 TL
/-! ### write_integer -/
/-- the text of an integer -/
def strS (n : Int) : Str := Str.ofString (toString n)
theorem tl_strS (n : Int) : tl (strS n) = decL n := tl_int n
structure Bn (mg : Str → Option Value) : Prop where
  digs_ : ∃ t, mg "DIGITS" = some (.str "0123456789" t)
  most_ : ∃ t, mg "MOST_DIGITS" = some (.int 200 t)
  bdig_ : ∃ t, mg "BLOCK_DIGITS" = some (.int 60 t)
  blk_ : ∃ t, mg "BLOCK" = some (.int (10 ^ 60) t)
theorem zfill_num {b : Nat} (hb : b < 10 ^ 60) : tl (Txt.zfill (strS (b : Int)) 60) = digK 60 b := by
  have e0 : tl (strS (b : Int)) = numL b := tl_num b
  have hl := numL_len (n := b) (k := 60) (by decide) hb
  have hlen : (strS (b : Int)).length = (numL b).length := by rw [len_tl, e0]
  rw [digK_pad 60 b (by decide) hb]
  unfold Txt.zfill
  by_cases c : (60 : Int) ≤ ((strS (b : Int)).length : Int)
  · rw [if_pos c, e0, show 60 - (numL b).length = 0 by omega]
    rfl
  · rw [if_neg c]
    have z : zfilled (strS (b : Int)) ((60 : Int).toNat - (strS (b : Int)).length) = Builtin.Str.padded (strS (b : Int)) ((60 : Int).toNat - (strS (b : Int)).length) 0 48 := by
      have hd : ∀ c, (strS (b : Int)).cps[0]? = some c → 48 ≤ c := fun c h => by
        rw [← Array.getElem?_toList] at h
        have : c ∈ numL b := by
          rw [← e0]
          exact List.mem_of_getElem? h
        exact (numL_digits b c this).1
      unfold zfilled
      split
      · rename_i h
        have := hd _ h
        omega
      · rename_i h
        have := hd _ h
        omega
      · rfl
    rw [z]
    show (Builtin.Str.padded _ _ _ _).cps.toList = _
    rw [padded_list, show (strS (b : Int)).cps.toList = numL b from e0, hlen, List.replicate_zero, List.append_nil]
    rfl
section
variable {P : Program} {w : World} {K : PySem.W.Frag} {mg : Str → Option Value} {base : Heap}
def spWr : Sp := fun vs H Q _ => ∃ n : Int, vs = [.int n] ∧ (numL n.natAbs).length ≤ 6000 ∧ ∀ H', Same H H' → Q (.str (strS n)) H'
end
end Lf
namespace Lf
open PySem PySem.Spec PyProof.Rows L2 TL
/-! ### words_of, read_integer -/
theorem starts1 (z : Str) {c : Nat} {y : Str} (hy : tl y = [c]) : Txt.startswith z y = decide ((tl z).head? = some c) := by
  obtain rfl : y = ⟨#[c]⟩ := ext_tl hy
  have e : (z.cps.extract 0 1).toList = (tl z).take 1 := by
    rw [Array.toList_extract, List.extract_eq_take_drop, List.drop_zero, Nat.sub_zero]
  unfold Txt.startswith Builtin.Str.subAt
  show (decide (0 + 1 ≤ z.length) && (z.cps.extract 0 (0 + 1) == #[c])) = _
  rw [Nat.zero_add, Bool.eq_iff_iff, Bool.and_eq_true, decide_eq_true_iff, decide_eq_true_iff, beq_iff_eq, ← Array.toList_inj, e, len_tl]
  cases tl z with
  | nil => simp
  | cons a r => simp
def isSt : PyData → Bool
  | .str _ => true
  | _ => false
theorem kit_st (d : PyData) : kitB (tyN d) "str" = some (isSt d) := by
  cases d
  · show kitB "NoneType" "str" = some false; decide +kernel
  · show kitB "bool" "str" = some false; decide +kernel
  · show kitB "int" "str" = some false; decide +kernel
  · show kitB "str" "str" = some true; decide +kernel
  · show kitB "list" "str" = some false; decide +kernel
  · show kitB "tuple" "str" = some false; decide +kernel
  · show kitB "dict" "str" = some false; decide +kernel
def shT (n : Nat) : PyData → Prop
  | .str z => z.length ≤ n ∧ PyData.strOk z = true
  | _ => True
/-- words of at most n signs -/
def WsOk (n : Nat) (ws : List Str) : Prop := ∀ w ∈ ws, w.length ≤ n ∧ PyData.strOk w = true
theorem strOk_tl {z : Str} : PyData.strOk z = true ↔ ∀ c ∈ tl z, c < 0x110000 := by
  show z.cps.all (· < 0x110000) = true ↔ _
  rw [← Array.all_toList, List.all_eq_true]
  exact ⟨fun h c hc => of_decide_eq_true (h c hc), fun h c hc => decide_eq_true (h c hc)⟩
/-- the words that one space separates -/
def splS (z : Str) : List Str := Txt.split z (Str.ofString " ")
def wordsO : PyData → List Str
  | .str z => splS z
  | _ => []
theorem tl_splS (z : Str) : (splS z).map tl = spl [32] 0 [] (tl z) := by
  have e : tl (Str.ofString " ") = [32] := by decide +kernel
  have := split_spl z (Str.ofString " ") (by rw [e]; simp) (kind_ok (by decide +kernel))
  rw [e] at this
  exact this
theorem spl_len : ∀ (l acc : List Nat), ∀ p ∈ spl [32] 0 acc l, p.length ≤ acc.length + l.length
  | [], acc, p, h => by
    rw [spl_nil, List.mem_singleton] at h
    rw [h]
    exact Nat.le_add_right _ _
  | c :: r, acc, p, h => by
    by_cases hc : pre [32] (c :: r) = true
    · rw [spl_hit hc] at h
      rcases List.mem_cons.mp h with rfl | h
      · exact Nat.le_add_right _ _
      · have := spl_len r [] p h
        simp at this
        rw [List.length_cons]
        omega
    · rw [spl_miss (by simpa using hc)] at h
      have := spl_len r (acc ++ [c]) p h
      rw [List.length_append] at this
      rw [List.length_cons]
      simp at this
      omega
theorem spl_mem : ∀ (l acc : List Nat), ∀ p ∈ spl [32] 0 acc l, ∀ c ∈ p, c ∈ acc ∨ c ∈ l
  | [], acc, p, h, c, hc => by
    rw [spl_nil, List.mem_singleton] at h
    rw [h] at hc
    exact .inl hc
  | x :: r, acc, p, h, c, hc => by
    by_cases hx : pre [32] (x :: r) = true
    · rw [spl_hit hx] at h
      rcases List.mem_cons.mp h with rfl | h
      · exact .inl hc
      · rcases spl_mem r [] p h c hc with h | h
        · cases h
        · exact .inr (List.mem_cons_of_mem _ h)
    · rw [spl_miss (by simpa using hx)] at h
      rcases spl_mem r (acc ++ [x]) p h c hc with h | h
      · rcases List.mem_append.mp h with h | h
        · exact .inl h
        · rw [List.mem_singleton.mp h]
          exact .inr List.mem_cons_self
      · exact .inr (List.mem_cons_of_mem _ h)
theorem splS_len {z w : Str} (h : w ∈ splS z) : w.length ≤ z.length := by
  have m : tl w ∈ (splS z).map tl := List.mem_map.mpr ⟨w, h, rfl⟩
  rw [tl_splS] at m
  have := spl_len (tl z) [] (tl w) m
  rw [len_tl, len_tl z]
  simpa using this
theorem spl_num : ∀ (l acc : List Nat), (spl [32] 0 acc l).length ≤ l.length + 1
  | [], acc => by
    rw [spl_nil]
    exact Nat.le_refl _
  | c :: r, acc => by
    by_cases hc : pre [32] (c :: r) = true
    · rw [spl_hit hc]
      have := spl_num r []
      show (spl [32] 0 [] r).length + 1 ≤ r.length + 1 + 1
      omega
    · rw [spl_miss (by simpa using hc)]
      have := spl_num r (acc ++ [c])
      rw [List.length_cons]
      omega
theorem splS_num (z : Str) : (splS z).length ≤ z.length + 1 := by
  have := spl_num (tl z) []
  rw [← tl_splS, List.length_map] at this
  rw [len_tl z]
  exact this
theorem wordsO_num {n : Nat} {d : PyData} (h : shT n d) : (wordsO d).length ≤ n + 1 := by
  cases d <;> first | exact Nat.zero_le _ | (exact Nat.le_trans (splS_num _) (Nat.succ_le_succ h.1))
theorem splS_ok {n : Nat} {z : Str} (h1 : z.length ≤ n) (h2 : PyData.strOk z = true) : WsOk n (splS z) := fun w hw => by
  refine ⟨Nat.le_trans (splS_len hw) h1, strOk_tl.mpr fun c hc => ?_⟩
  have m : tl w ∈ (splS z).map tl := List.mem_map.mpr ⟨w, hw, rfl⟩
  rw [tl_splS] at m
  rcases spl_mem (tl z) [] (tl w) m c hc with h | h
  · cases h
  · exact strOk_tl.mp h2 c h
theorem wordsO_ok {n : Nat} {d : PyData} (h : shT n d) : WsOk n (wordsO d) := by
  cases d <;> first | exact splS_ok h.1 h.2 | (intro w hw; cases hw; done)
/-- an int, or None -/
def oVs : Option Int → V
  | none => .non
  | some i => .int i
section
variable {P : Program} {w : World} {K : PySem.W.Frag} {mg : Str → Option Value} {base : Heap}
def spWords : Sp := fun vs H Q _ => ∃ (v : V) (d : PyData), vs = [v] ∧ Dv H v d ∧ shT 10000 d ∧ ∀ L H', H L = none → H' = upd H L (.lst ((wordsO d).map V.str)) → Q (.ref L) H'
abbrev s_words_of : Stmt := topS 15
abbrev N_words_of : List Str := ["text"]
abbrev P_words_of : List Str := ["text"]
theorem sc_words_of : FnScope N_words_of P_words_of (defScope s_words_of) := ⟨rfl, rfl, rfl, by decide +kernel, rfl, by decide +kernel, by decide +kernel⟩
theorem ok_words_of (D : Df K mg "words_of" s_words_of P_words_of) (B : Bi mg) : C8.Cal P w K mg base 1 "words_of" spWords [] := by
  refine cal_of D sc_words_of (fun vs H Q E h => ?_) (fun f cdv A outer s H vs Q E hr h => ?_)
  · obtain ⟨v, d, rfl, _⟩ := h
    rfl
  · obtain ⟨v, d, rfl, dv, sh, kk⟩ := h
    refine ⟨_, (pss_one (ps_ret (pe_ifExp (pt_val (pe_callB (call_isi) (by rfl) B.isinstance_ bt_isinstance (pa_cons (pv 0) (pa_cons (pe_bltn (v := .ty "str") (by rfl) B.str_ bt_str rfl) pa_nil)))) (pe_bm PySem.F.plainAttrs_str PySem.F.slot_str_split PySem.F.type_str_split mt_split (pv 0) (pa_cons pe_str pa_nil)) (pe_lst pa_nil)))), ?_⟩
    refine ⟨_, rfl, _, _, _, _, isSt d, rfl, .ty "str", dv.ty, kit_ty (kit_st d), isSt d, rfl, ?_⟩
    cases hs : isSt d with
    | false =>
      have e : wordsO d = [] := by cases d <;> first | rfl | cases hs
      rw [e] at kk
      exact iteFs rfl ⟨len10 (by simp), fun L nL => kk L _ nL rfl⟩
    | true =>
      obtain ⟨z, rfl, rfl⟩ : ∃ z, v = .str z ∧ d = .str z := by
        cases dv <;> first | exact ⟨_, rfl, rfl⟩ | (cases hs; done)
      have sh : z.length ≤ 10000 := sh.1
      exact iteTs rfl ⟨_, rfl, rfl, z, _, rfl, rfl, by decide +kernel, by rw [sizeLine_eq]; omega, fun L nL => kk L _ nL rfl⟩
theorem dig_in (c : Nat) : decide (c ∈ (Str.ofString "0123456789").cps.toList) = isDg c := by
  have e : (Str.ofString "0123456789").cps.toList = [48, 49, 50, 51, 52, 53, 54, 55, 56, 57] := by decide +kernel
  rw [e, Bool.eq_iff_iff, decide_eq_true_iff, isDg_iff]
  simp only [List.mem_cons, List.not_mem_nil, or_false]
  omega
structure Bm (mg : Str → Option Value) : Prop where
  digs_ : ∃ t, mg "DIGITS" = some (.str "0123456789" t)
  most_ : ∃ t, mg "MOST_DIGITS" = some (.int 200 t)
def spReadI : Sp := fun vs H Q _ => ∃ z : Str, vs = [.str z] ∧ z.length ≤ 10000 ∧ ∀ H', Same H H' → Q (oVs (readI (tl z))) H'
abbrev s_read_integer : Stmt := topS 16
abbrev N_read_integer : List Str := ["word", "digits", "digit"]
abbrev P_read_integer : List Str := ["word"]
theorem sc_read_integer : FnScope N_read_integer P_read_integer (defScope s_read_integer) := ⟨rfl, rfl, rfl, by decide +kernel, rfl, by decide +kernel, by decide +kernel⟩
theorem ok_read_integer (D : Df K mg "read_integer" s_read_integer P_read_integer) (UD : Bm mg) (B : Bi mg) : C8.Cal P w K mg base 1 "read_integer" spReadI [] := by
  obtain ⟨tD, hc_DIGITS⟩ := UD.digs_
  obtain ⟨tM, hc_MOST_DIGITS⟩ := UD.most_
  refine cal_of D sc_read_integer (fun vs H Q E h => ?_) (fun f cdv A outer s H vs Q E hr h => ?_)
  · obtain ⟨z, rfl, _⟩ := h
    rfl
  · obtain ⟨z, rfl, hz, kk⟩ := h
    refine ⟨_, (C8.pss_cut (ps_set (i := 1) sc_read_integer.nd rfl (Or.inl rfl) (pe_ifExp (pt_val (pe_bm PySem.F.plainAttrs_str PySem.F.slot_str_startswith PySem.F.type_str_startswith mt_startswith (pv 0) (pa_cons pe_str pa_nil))) (pe_slice sl_str (pv 0) (po_some pe_int) po_none) (pv 0)))
    (pss_cons (ps_if (PW.pt (pw_or (pt_not (pt_chain op_le op_le pe_int (pe_callB (call_len_str) (by rfl) B.len_ bt_len (pa_cons (pv 1) pa_nil)) (pe_glob (v := .int 200) (by rfl) hc_MOST_DIGITS ⟨_, rfl⟩))) (pw_or1 (pt_not (pt_val (pe_callB (cr_all rfl) (by rfl) B.all_ bt_all (pa_cons (pe_lc (own := [("digit", 2)]) (g := (gName 2)) (by rfl) sc_read_integer.nd (pi_str (pv 1)) (blkOk_by (own := [("digit", 2)]) (N := N_read_integer) (sc := defScope s_read_integer) (by decide +kernel)) (fun _ _ _ _ _ => (pg_name (i := 2) sc_read_integer.nd rfl (Or.inl rfl))) (fun _ _ _ _ _ => pts_nil) (fun _ _ _ _ _ => (pe_cmpR op_in_sign (pv 2) (pe_glob (v := .str "0123456789") (by rfl) hc_DIGITS ⟨_, rfl⟩) rfl))) pa_nil)))))))
      (pss_one (ps_ret pe_non))
      pss_nil)
    (pss_cons (ps_if (PW.pt (pw_and (pt_val (pe_bm PySem.F.plainAttrs_str PySem.F.slot_str_startswith PySem.F.type_str_startswith mt_startswith (pv 1) (pa_cons pe_str pa_nil))) (pw_and1 (pt_cmpR op_ne (pv 0) pe_str (nomark _)))))
      (pss_one (ps_ret pe_non))
      pss_nil)
    (pss_one (ps_ret (pe_callTy (call_int_str) (by rfl) B.int_ bt_int (pa_cons (pv 0) pa_nil))))))), ?_⟩
    have st45 : Txt.startswith z (Str.ofString "-") = decide ((tl z).head? = some 45) := starts1 z (by decide +kernel)
    have hzl : z.length = (tl z).length := len_tl z
    refine ⟨fun σ' H' => ∃ y : Str, σ' = [some (.str z), some (.str y), none] ∧ tl y = digsOf (tl z) ∧ H' = H, ?_, ?_⟩
    · refine ⟨_, rfl, rfl, z, _, rfl, rfl, _, rfl, ?_⟩
      rw [st45]
      by_cases c : (tl z).head? = some 45
      · refine iteD c ⟨_, rfl, 1, rfl, z, rfl, by rw [sizeLine_eq]; omega, _, rfl, ?_, rfl⟩
        show ((((tl z).drop (HT.sIx z.length 0 (some 1))).take (HT.sIx z.length z.length none - HT.sIx z.length 0 (some 1))).toArray).toList = _
        have p1 : 1 ≤ z.length := by
          cases q : tl z with
          | nil =>
            rw [q] at c
            cases c
          | cons a r =>
            rw [hzl, q]
            exact Nat.succ_le_succ (Nat.zero_le _)
        rw [HT.sIx_none, show HT.sIx z.length 0 (some 1) = min 1 z.length from HT.sIx_nat _ _ 1, Nat.min_eq_left p1, List.toList_toArray, List.take_of_length_le (by rw [List.length_drop]; omega)]
        unfold digsOf
        rw [if_pos c, List.drop_one]
      · refine iteDn c ⟨_, rfl, z, rfl, ?_, rfl⟩
        unfold digsOf
        rw [if_neg c]
    rintro σ' H1 ⟨y, rfl, hy, rfl⟩
    have hyl : y.length = (digsOf (tl z)).length := by rw [len_tl, hy]
    have ly : y.length ≤ z.length := by
      rw [hyl, hzl]
      unfold digsOf
      split
      · rw [List.length_tail]
        omega
      · exact Nat.le_refl _
    have no : ¬ ReadOk (tl z) → ∀ H', Same H1 H' → Q .non H' := fun h H' s' => by
      have := kk H' s'
      unfold readI at this
      rw [if_neg h] at this
      exact this
    have s0 : Txt.startswith y (Str.ofString "0") = decide ((digsOf (tl z)).head? = some 48) := by
      rw [← hy]
      exact starts1 y (by decide +kernel)
    have hzd : y.cps.size = y.length := rfl
    have hyd : y.cps.toList.length = y.length := by
      rw [Array.length_toList]
      rfl
    have nk : readI (tl z) = none → ∀ H', Same H1 H' → Q .non H' := fun h H' s' => by
      have := kk H' s'
      rw [h] at this
      exact this
    refine ⟨_, rfl, y, rfl, by rw [sizeLine_eq]; omega, _, _, rfl, rfl, _, rfl, ?_⟩
    by_cases h1 : 1 ≤ (digsOf (tl z)).length
    · refine iteD (show (1 : Int) ≤ ((y.length : Nat) : Int) by omega) ⟨_, _, rfl, rfl, _, rfl, ?_⟩
      by_cases h2 : (digsOf (tl z)).length ≤ 200
      · refine iteFs (by rw [decide_eq_true (show ((y.length : Nat) : Int) ≤ 200 by omega)]; rfl) ?_
        refine ⟨_, rfl, y, rfl, fun Y nY => ?_⟩
        refine lc_it (walk_str (z := y)) (fun i H' => Same H1 H' ∧ H' Y = some (.lst (((y.cps.toList.take i).map isDg).map V.bl))) ⟨sm_upd nY, upd_same⟩ (fun _ _ _ _ => trivial) ?_ ?_
        · rintro i x H' _ hi ⟨s', eY⟩ ⟨rfl, c, hc, rfl⟩
          rw [← Array.getElem?_toList] at hc
          refine ⟨rfl, _, rfl, c, _, rfl, rfl, _, eY, ?_, ?_, ?_⟩
          · rw [List.length_map, List.length_map, List.length_take]
            exact small1000 (by omega)
          · intro b o eb
            rw [upd_ne (ne_of_none eb nY)]
            exact s' _ _ eb
          · rw [upd_same, List.take_add_one, hc, List.map_append, List.map_append, dig_in]
            rfl
        rintro H' ⟨s', eY⟩
        rw [List.take_of_length_le (by rw [hyd, ← hzd]; exact Nat.le_refl _)] at eY
        have ea : (y.cps.toList.map isDg).all id = (digsOf (tl z)).all isDg := by
          rw [List.all_map, ← hy]
          rfl
        refine ⟨Y, _, rfl, SqL.of eY, _, rfl, ?_⟩
        rw [ea]
        cases h3 : (digsOf (tl z)).all isDg with
        | false => exact iteTs rfl (no (fun r => by rw [r.2.2.1] at h3; cases h3) H' s')
        | true =>
          refine iteFs rfl ?_
          refine ⟨_, rfl, rfl, y, _, rfl, rfl, _, rfl, ?_⟩
          rw [s0]
          have ez : (z = Str.ofString "0") ↔ tl z = [48] := ⟨fun h => by rw [h]; decide +kernel, fun h => ext_tl (by rw [h]; decide +kernel)⟩
          have go : ReadOk (tl z) → ∃ a n, [V.str z] = [V.str a] ∧ intText? a = some n ∧ a.length ≤ 640 ∧ Q (V.int n) H' := fun ok => by
            have lz : z.length ≤ 201 := by
              have : (tl z).length ≤ (digsOf (tl z)).length + 1 := by
                unfold digsOf
                split
                · rw [List.length_tail]
                  omega
                · omega
              omega
            refine ⟨z, _, rfl, intText_read ok, by omega, ?_⟩
            have := kk H' s'
            unfold readI at this
            rw [if_pos ok] at this
            exact this
          by_cases h4 : (digsOf (tl z)).head? = some 48
          · refine iteD h4 ⟨_, rfl, rfl, _, rfl, ?_⟩
            by_cases h5 : tl z = [48]
            · refine iteFs (by rw [decide_eq_true (show V.str z = V.str (Str.ofString "0") by rw [ez.mpr h5])]; rfl) ⟨_, rfl, go ⟨h1, h2, h3, fun q => q.2 h5⟩⟩
            · refine iteTs (by rw [decide_eq_false (fun q => h5 (ez.mp (V.str.inj q)))]; rfl) (no (fun r => r.2.2.2 ⟨h4, h5⟩) H' s')
          · exact iteDn h4 ⟨_, rfl, go ⟨h1, h2, h3, fun q => h4 q.1⟩⟩
      · exact iteTs (by rw [decide_eq_false (show ¬ ((y.length : Nat) : Int) ≤ 200 by omega)]; rfl) (no (fun r => h2 r.2.1) H1 (Same.refl _))
    · exact iteDn (show ¬ (1 : Int) ≤ ((y.length : Nat) : Int) by omega) ⟨_, rfl, iteTs rfl (no (fun r => h1 r.1) H1 (Same.refl _))⟩
end
end Lf
namespace Lf
open PySem PySem.Spec PyProof.Rows L2
abbrev strL (zs : List Str) : List V := zs.map V.str
end Lf
namespace Lf
open PySem PySem.Spec PyProof.Rows L2
/-! ### lists of words are the same, or not -/
def rEqW (K : PySem.W.Frag) (g : Bool → Bool) : R2 := fun x y H Q => ∃ (a b : Addr) (xs ys : List Str), x = .ref a ∧ y = .ref b ∧ SqL K H a (strL xs) ∧ SqL K H b (strL ys) ∧ Q (.bl (g (decide (xs = ys)))) H
theorem words_all (xs ys : List Str) (hl : xs.length = ys.length) : ((List.range xs.length).all fun j => decide (xs[j]? = ys[j]?)) = decide (xs = ys) := by
  by_cases c : xs = ys
  · subst c
    rw [decide_eq_true (p := xs = xs) rfl, List.all_eq_true]
    exact fun j _ => decide_eq_true rfl
  · rw [decide_eq_false c, List.all_eq_false]
    refine Classical.byContradiction fun n => c (List.ext_getElem? fun j => ?_)
    by_cases lt : j < xs.length
    · refine Classical.byContradiction fun ne => n ⟨j, List.mem_range.mpr lt, ?_⟩
      rw [decide_eq_false ne]
      exact Bool.false_ne_true
    · rw [List.getElem?_eq_none (by omega), List.getElem?_eq_none (by omega)]
theorem words_at {A : Around} {s : Shared} {xs ys : List Str} {us ws : List Value} (h1 : Vals (strL xs) us) (h2 : Vals (strL ys) ws) (j : Nat) (l1 : j < us.length) (l2 : j < ws.length) : SeqAt.EqAt A s us[j] ws[j] (decide (xs[j]? = ys[j]?)) := by
  have s1 : StrsAre us xs := h1.strs
  have s2 : StrsAre ws ys := h2.strs
  obtain ⟨x, t, e1⟩ := s1.all us[j] (List.getElem_mem l1)
  obtain ⟨y, u, e2⟩ := s2.all ws[j] (List.getElem_mem l2)
  have g1 : xs[j]? = some x := by rw [← s1.strs, List.getElem?_map, List.getElem?_eq_getElem l1, e1]; rfl
  have g2 : ys[j]? = some y := by rw [← s2.strs, List.getElem?_map, List.getElem?_eq_getElem l2, e2]; rfl
  rw [g1, g2, e1, e2]
  have e : decide ((some x : Option Str) = some y) = (x == y) := by
    by_cases c : x = y
    · subst c
      simp
    · rw [decide_eq_false fun z => c (Option.some.inj z)]
      exact (beq_eq_false_iff_ne.mpr c).symm
  rw [e]
  exact SeqAt.EqAt.str_str x t y u
section
variable {X : Cx}
theorem op_eqW (hu : X.A.units + 64 < cLine) : OpR X (compareOp .Eq) (rEqW X.K id) := by
  intro pins s σ H x y v u Q I rx ry h
  obtain ⟨a, b, xs, ys, rfl, rfl, ha, hb, q⟩ := h
  cases rx
  cases ry
  obtain ⟨us, r1, p1, _⟩ := I.list ha
  obtain ⟨ws, r2, p2, _⟩ := I.list hb
  have l1 := r1.length
  have l2 := r2.length
  have l3 : (strL xs).length = xs.length := List.length_map _
  have l4 : (strL ys).length = ys.length := List.length_map _
  by_cases c : xs.length = ys.length
  · have hsz : us.toArray.size = ws.toArray.size := by rw [List.size_toArray, List.size_toArray]; omega
    have R := SeqAt.RcAt.lists (e := fun j => decide (xs[j]? = ys[j]?)) p1.isList p2.isList hsz (show X.A.units < cLine by omega) (fun j h1 h2 => by
      have := words_at (A := X.A.in1) (s := s) r1 r2 j (by simpa using h1) (by simpa using h2)
      simpa using this)
    rw [show us.toArray.size = xs.length by rw [List.size_toArray]; omega, words_all xs ys c] at R
    exact R _ _ _ _ ⟨.bl _, H, I, rfl, q⟩
  · have e : decide (xs = ys) = false := decide_eq_false fun z => c (by rw [z])
    rw [e] at q
    exact SeqAt.RcAt.lists_lengths p1.isList p2.isList (by rw [bne_iff_ne, List.size_toArray, List.size_toArray]; omega) (by omega) _ _ _ _ ⟨.bl false, H, I, rfl, q⟩
theorem op_neW (hu : X.A.units + 64 < cLine) : OpR X (compareOp .NotEq) (rEqW X.K not) := by
  intro pins s σ H x y v u Q I rx ry h
  obtain ⟨a, b, xs, ys, rfl, rfl, ha, hb, q⟩ := h
  cases rx
  cases ry
  obtain ⟨us, r1, p1, _⟩ := I.list ha
  obtain ⟨ws, r2, p2, _⟩ := I.list hb
  have l1 := r1.length
  have l2 := r2.length
  have l3 : (strL xs).length = xs.length := List.length_map _
  have l4 : (strL ys).length = ys.length := List.length_map _
  by_cases c : xs.length = ys.length
  · have hsz : us.toArray.size = ws.toArray.size := by rw [List.size_toArray, List.size_toArray]; omega
    have R := SeqAt.RcNeAt.lists (e := fun j => decide (xs[j]? = ys[j]?)) p1.isList p2.isList hsz (show X.A.units < cLine by omega) (fun j h1 h2 => by
      have := words_at (A := X.A.in1) (s := s) r1 r2 j (by simpa using h1) (by simpa using h2)
      simpa using this)
    rw [show us.toArray.size = xs.length by rw [List.size_toArray]; omega, words_all xs ys c] at R
    exact R _ _ _ _ ⟨.bl _, H, I, rfl, q⟩
  · have e : decide (xs = ys) = false := decide_eq_false fun z => c (by rw [z])
    rw [e] at q
    exact SeqAt.RcNeAt.lists_lengths p1.isList p2.isList (by rw [bne_iff_ne, List.size_toArray, List.size_toArray]; omega) (by omega) _ _ _ _ ⟨.bl true, H, I, rfl, q⟩
end
end Lf
namespace Lf
open PySem PySem.Spec PyProof.Rows L2 TL
/-! ### rules and records, read and written -/
def oPs : Option Int → PyData
  | none => .none
  | some i => .int i
theorem oVs_dv {H : Hp} (o : Option Int) : Dv H (oVs o) (oPs o) := by
  cases o
  · exact .non
  · exact .int _
def numsV (ws : List Str) : List V := ws.map fun w => oVs (readI (tl w))
def numsP (ws : List Str) : List PyData := ws.map fun w => oPs (readI (tl w))
theorem nums_dv {H : Hp} : ∀ ws : List Str, DvAll H (numsV ws) (numsP ws)
  | [] => .nil
  | w :: ws => .cons (oVs_dv _) (nums_dv ws)
def ruleB (ws : List Str) : Bool := decide (ws.take 1 = [Str.ofString "rule"]) && ruleD (.tuple (numsP (ws.drop 1)))
theorem rule_get {ds : List PyData} (h : ruleD (.tuple ds) = true) : ∃ p q c : Int, ds = [.int p, .int q, .int c] ∧ 0 ≤ p ∧ 1 ≤ q ∧ Int.gcd p q = 1 := by
  unfold ruleD at h
  split at h
  · rename_i p q c e
    cases e
    rw [Bool.and_eq_true, Bool.and_eq_true, decide_eq_true_iff, decide_eq_true_iff, decide_eq_true_iff] at h
    have := V.int.inj h.2.2
    exact ⟨p, q, c, rfl, h.1, h.2.1, by omega⟩
  · cases h
/-- the written form of a rule -/
def ruleL (p q c : Int) : List Nat := tl (Str.ofString "rule ") ++ decL p ++ [32] ++ decL q ++ [32] ++ decL c
theorem cutV_take (xs : List V) (k : Nat) : cutV xs none (some (k : Int)) = xs.take k := by
  unfold cutV
  rw [HT.sIx_none, show HT.sIx xs.length xs.length (some (k : Int)) = min k xs.length from HT.sIx_nat _ _ k, List.drop_zero, Nat.sub_zero]
  by_cases h : k ≤ xs.length
  · rw [Nat.min_eq_left h]
  · rw [Nat.min_eq_right (by omega), List.take_of_length_le (Nat.le_refl _), List.take_of_length_le (by omega)]
theorem cutV_drop (xs : List V) (k : Nat) : cutV xs (some (k : Int)) none = xs.drop k := by
  unfold cutV
  rw [HT.sIx_none, show HT.sIx xs.length 0 (some (k : Int)) = min k xs.length from HT.sIx_nat _ _ k, List.take_of_length_le (by rw [List.length_drop]; omega)]
  by_cases h : k ≤ xs.length
  · rw [Nat.min_eq_left h]
  · rw [Nat.min_eq_right (by omega), List.drop_of_length_le (Nat.le_refl _), List.drop_of_length_le (by omega)]
theorem cutV_d1 (xs : List V) : cutV xs (some (1 : Int)) none = xs.drop 1 := cutV_drop xs 1
theorem cutV_t1 (xs : List V) : cutV xs none (some (1 : Int)) = xs.take 1 := cutV_take xs 1
section
variable {P : Program} {w : World} {K : PySem.W.Frag} {mg : Str → Option Value} {base : Heap} {C : Addr}
def spRRule : Sp := fun vs H Q _ => ∃ (W : Addr) (ws : List Str), vs = [.ref W] ∧ H W = some (.lst (ws.map V.str)) ∧ ws.length ≤ 10001 ∧ WsOk 10000 ws ∧ (ruleB ws = false → ∀ H', Same H H' → Q .non H') ∧
  (ruleB ws = true → ∀ T H', Same H H' → H' T = some (.tup (numsV (ws.drop 1))) → Q (.ref T) H')
abbrev s_read_rule : Stmt := topS 17
abbrev N_read_rule : List Str := ["words", "rule", "word"]
abbrev P_read_rule : List Str := ["words"]
theorem sc_read_rule : FnScope N_read_rule P_read_rule (defScope s_read_rule) := ⟨rfl, rfl, rfl, by decide +kernel, rfl, by decide +kernel, by decide +kernel⟩
theorem ok_read_rule (D : Df K mg "read_rule" s_read_rule P_read_rule) (B : Bi mg) (c_read_integer : C8.Cal P w K mg base 1 "read_integer" spReadI []) (cA_is_rule : C8.Cal P w K mg base 2 "is_rule" spIsRuleD []) : C8.Cal P w K mg base 3 "read_rule" spRRule [] := by
  refine cal_of D sc_read_rule (fun vs H Q E h => ?_) (fun f cdv A outer s H vs Q E hr h => ?_)
  · obtain ⟨W, ws, rfl, _⟩ := h
    rfl
  · obtain ⟨W, ws, rfl, eW, lw, ow, kn, ky⟩ := h
    have c_is_rule := cA_is_rule
    refine ⟨_, (pss_cons (ps_set (i := 1) sc_read_rule.nd rfl (Or.inl rfl) (pe_callTy (call_tuple_of) (by rfl) B.tuple_ bt_tuple (pa_cons (pe_lc (own := [("word", 2)]) (g := (gName 2)) (by rfl) sc_read_rule.nd (pi_list (pe_slice sl_list (pv 0) (po_some pe_int) po_none)) (blkOk_by (own := [("word", 2)]) (N := N_read_rule) (sc := defScope s_read_rule) (by decide +kernel)) (fun _ _ _ _ _ => (pg_name (i := 2) sc_read_rule.nd rfl (Or.inl rfl))) (fun _ _ _ _ _ => pts_nil) (fun _ _ _ _ _ => (C8.pe_c c_read_integer hr (by decide) (by rfl) (pa_cons (pv 2) pa_nil)))) pa_nil)))
    (pss_one (ps_ret (pe_ifExp (PW.pt (pw_and (pt_cmpR (op_eqW hr.units) (pe_slice sl_list (pv 0) po_none (po_some pe_int)) (pe_lst (pa_cons pe_str pa_nil)) (nomark _)) (pw_and1 (pt_val (C8.pe_c c_is_rule hr (by decide) (by rfl) (pa_cons (pv 1) pa_nil)))))) (pv 1) pe_non)))), ?_⟩
    have lmap : (ws.map V.str).length = ws.length := List.length_map _
    refine ⟨_, rfl, 1, rfl, W, _, rfl, SqL.of eW, fun S nS => ?_⟩
    rw [cutV_d1, ← List.map_drop]
    have zS := sm_upd (o := .lst ((ws.drop 1).map V.str)) nS
    have eS := upd_same (H := H) (a := S) (o := .lst ((ws.drop 1).map V.str))
    have eW1 := zS _ _ eW
    have od : WsOk 10000 (ws.drop 1) := fun w hw => ow w (List.mem_of_mem_drop hw)
    have ld : (ws.drop 1).length ≤ 10001 := by
      rw [List.length_drop]
      omega
    obtain ⟨us, hus⟩ : ∃ us, us = ws.drop 1 := ⟨_, rfl⟩
    rw [← hus] at zS eS eW1 od ld ⊢
    generalize upd H S (.lst (us.map V.str)) = H1 at zS eS eW1 ⊢
    have lus : (us.map V.str).length = us.length := List.length_map _
    refine ⟨S, rfl, ⟨_, SqL.of eS⟩, fun Y nY => ?_⟩
    refine lc_list (K := K) (a := S) (xs := us.map V.str) (fun i H' => Same H1 H' ∧ H' Y = some (.lst (numsV (us.take i)))) ⟨sm_upd nY, upd_same⟩ ?_ ?_ ?_
    · rintro i H' _ ⟨s', _⟩
      exact SqL.of (s' _ _ eS)
    · rintro i y H' hy ⟨s', eY⟩
      rw [List.getElem?_map, Option.map_eq_some_iff] at hy
      obtain ⟨u, hu, rfl⟩ := hy
      have hi := (List.getElem?_eq_some_iff.mp hu).1
      refine ⟨rfl, _, rfl, u, rfl, (od u (List.mem_of_getElem? hu)).1, fun H2 s2 => ?_⟩
      refine ⟨_, s2 _ _ eY, ?_, ?_, ?_⟩
      · unfold numsV
        rw [List.length_map, List.length_take]
        exact ltS (by omega)
      · intro b o eb
        rw [upd_ne (ne_of_none eb nY)]
        exact s2 _ _ (s' _ _ eb)
      · rw [upd_same, List.take_add_one, hu]
        unfold numsV
        rw [List.map_append]
        rfl
    rintro H2 ⟨s2, eY⟩
    rw [lus, List.take_length] at eY
    refine ⟨Y, _, rfl, .inl ⟨SqL.of eY, fun T nT => ?_⟩⟩
    have zT := sm_upd (o := .tup (numsV us)) nT
    have eT := upd_same (H := H2) (a := T) (o := .tup (numsV us))
    have s3 := zS.trans (s2.trans zT)
    have eW3 := zT _ _ (s2 _ _ eW1)
    generalize upd H2 T (.tup (numsV us)) = H3 at zT eT s3 eW3 ⊢
    refine ⟨_, rfl, 1, rfl, W, _, rfl, SqL.of eW3, fun R nR => ?_⟩
    rw [cutV_t1, ← List.map_take]
    have zR := sm_upd (o := .lst ((ws.take 1).map V.str)) nR
    have eR := upd_same (H := H3) (a := R) (o := .lst ((ws.take 1).map V.str))
    refine ⟨len10 (by simp), fun M nM => ?_⟩
    have zM := sm_upd (o := .lst [.str "rule"]) nM
    have sM := s3.trans (zR.trans zM)
    refine ⟨R, M, ws.take 1, [Str.ofString "rule"], rfl, rfl, SqL.of (zM _ _ eR), SqL.of upd_same, _, rfl, ?_⟩
    have eTM := zM _ _ (zR _ _ eT)
    by_cases c : ws.take 1 = [Str.ofString "rule"]
    · refine iteTs (by show decide _ = true; exact decide_eq_true c) ?_
      have dvT : Dv (upd (upd H3 R (.lst ((ws.take 1).map V.str))) M (.lst [.str "rule"])) (.ref T) (.tuple (numsP us)) := .tup eTM (nums_dv us)
      refine ⟨_, rfl, _, _, rfl, dvT, fun H4 s4 => ⟨_, rfl, ?_⟩⟩
      have rb : ruleB ws = ruleD (.tuple (numsP us)) := by
        unfold ruleB
        rw [decide_eq_true c, Bool.true_and, hus]
      rw [rb, ← hus] at ky
      rw [rb] at kn
      cases hr2 : ruleD (.tuple (numsP us)) with
      | true => exact iteTs rfl ⟨_, rfl, ky hr2 T H4 (sM.trans s4) (s4 _ _ eTM)⟩
      | false => exact iteFs rfl (kn hr2 H4 (sM.trans s4))
    · refine iteFs (by show decide _ = false; exact decide_eq_false c) (iteFs rfl ?_)
      refine kn ?_ _ sM
      unfold ruleB
      rw [decide_eq_false c, Bool.false_and]
/-! ### parse_rule -/
def spPRule (C : Addr) : Sp := fun vs H Q E => ∃ (v : V) (d : PyData), vs = [v] ∧ Dv H v d ∧ shT 10000 d ∧ (ruleB (wordsO d) = false → ∀ H', Same H H' → OutY C "line" v H' E) ∧
  (ruleB (wordsO d) = true → ∀ T H', Same H H' → H' T = some (.tup (numsV ((wordsO d).drop 1))) → Q (.ref T) H')
abbrev s_parse_rule : Stmt := topS 13
abbrev N_parse_rule : List Str := ["text", "rule"]
abbrev P_parse_rule : List Str := ["text"]
theorem sc_parse_rule : FnScope N_parse_rule P_parse_rule (defScope s_parse_rule) := ⟨rfl, rfl, rfl, by decide +kernel, rfl, by decide +kernel, by decide +kernel⟩
theorem okx_parse_rule (D : Df K mg "parse_rule" s_parse_rule P_parse_rule) (T : ValC P K mg C "ParseError" "line") (c_words_of : C8.Cal P w K mg base 1 "words_of" spWords []) (c_read_rule : C8.Cal P w K mg base 3 "read_rule" spRRule []) : CalX P w K mg base 4 "parse_rule" (spPRule C) := by
  refine calx_of D sc_parse_rule (fun vs H Q E h => ?_) (fun f cdv A outer s H vs Q E hr h => ?_)
  · obtain ⟨v, d, rfl, _⟩ := h
    rfl
  · obtain ⟨v, d, rfl, dv, sh, kn, ky⟩ := h
    refine ⟨_, (pss_cons (ps_set (i := 1) sc_parse_rule.nd rfl (Or.inl rfl) (C8.pe_c c_read_rule hr (by decide) (by rfl) (pa_cons (C8.pe_c c_words_of hr (by decide) (by rfl) (pa_cons (pv 0) pa_nil)) pa_nil)))
    (pss_cons (ps_if (pt_cmpR op_isN (pv 1) pe_non (nomark _))
      (pss_one (ps_raise rfl (takes_of rfl rfl rfl rfl) (pmk_val T hr (by decide) rfl (pv 0))))
      pss_nil)
    (pss_one (ps_ret (pv 1))))), ?_⟩
    refine ⟨_, rfl, v, d, rfl, dv, sh, fun L H1 nL e1 => ?_⟩
    subst e1
    have zL := sm_upd (o := .lst ((wordsO d).map V.str)) nL
    refine ⟨L, wordsO d, rfl, upd_same, wordsO_num sh, wordsO_ok sh, fun hb H2 s2 => ?_, fun hb T H2 s2 eT => ?_⟩
    · exact ⟨_, rfl, rfl, _, rfl, iteD rfl ⟨_, rfl, mkv (kn hb H2 (zL.trans s2))⟩⟩
    · exact ⟨_, rfl, rfl, _, rfl, iteDn (fun z => by cases z) ⟨_, rfl, ky hb T H2 (zL.trans s2) eT⟩⟩
end
end Lf
namespace Lf
open PySem PySem.Spec PyProof.Rows L2 TL
/-! ### records -/
/-- the written form of a record -/
def recL (x : Rec) : List Nat := tl (wd x.lo) ++ [32] ++ decL x.n ++ tl (Str.ofString " at ") ++ decL x.t
def recV (ws : List Str) : List V := [.str (ws.getD 0 Str.empty ++ Str.ofString " " ++ ws.getD 1 Str.empty), oVs (readI (tl (ws.getD 4 Str.empty))), oVs (readI (tl (ws.getD 2 Str.empty)))]
def recP (ws : List Str) : List PyData := [.str (ws.getD 0 Str.empty ++ Str.ofString " " ++ ws.getD 1 Str.empty), oPs (readI (tl (ws.getD 4 Str.empty))), oPs (readI (tl (ws.getD 2 Str.empty)))]
def recW (ws : List Str) : Bool := decide (ws.length = 5) && (decide (ws.getD 3 Str.empty = Str.ofString "at") && recB (.tuple (recP ws)))
theorem decL_len {n : Int} {k : Nat} (h : (numL n.natAbs).length ≤ k) : (decL n).length ≤ k + 1 := by
  cases n with
  | ofNat n =>
    have h : (numL n).length ≤ k := h
    exact Nat.le_succ_of_le h
  | negSucc n =>
    have h : (numL (n + 1)).length ≤ k := h
    exact Nat.succ_le_succ h
theorem rec_ofQ {H : Hp} {v : V} {d : PyData} (dv : Dv H v d) (h : recB d = true) : ∃ (r : Addr) (x : Rec), v = .ref r ∧ H r = some (rcO x) := by
  cases dv with
  | tup e1 e2 =>
    rename_i a xs ds
    have l3 : ds.length = 3 := Decidable.byContradiction fun n => by
      rw [rec_three n] at h
      cases h
    match ds, l3 with
    | [d0, d1, d2], _ =>
      cases e2 with
      | cons a0 e3 =>
        cases e3 with
        | cons a1 e4 =>
          cases e4 with
          | cons a2 e5 =>
            cases e5
            rename_i v0 v1 v2
            have h : (words.any (fun z => PyData.eqv z d0) && (isI d1 && isI d2)) = true := h
            rw [Bool.and_eq_true, Bool.and_eq_true] at h
            obtain ⟨hw, i1, i2⟩ := h
            obtain ⟨t, rfl, rfl⟩ : ∃ t, v1 = .int t ∧ d1 = .int t := by
              cases a1 <;> first | exact ⟨_, rfl, rfl⟩ | cases i1
            obtain ⟨n, rfl, rfl⟩ : ∃ n, v2 = .int n ∧ d2 = .int n := by
              cases a2 <;> first | exact ⟨_, rfl, rfl⟩ | cases i2
            obtain ⟨b, rfl⟩ : ∃ b, v0 = .str (wd b) := by
              cases a0 with
              | str x =>
                have hw : x = "at least" ∨ x = "at most" := by
                  simp [words, PyData.eqv] at hw
                  rcases hw with h | h
                  · exact .inl h.symm
                  · exact .inr h.symm
                rcases hw with rfl | rfl
                · exact ⟨true, rfl⟩
                · exact ⟨false, rfl⟩
              | non => simp [words, PyData.eqv] at hw
              | bl => simp [words, PyData.eqv] at hw
              | int => simp [words, PyData.eqv] at hw
              | lst => simp [words, PyData.eqv] at hw
              | tup => simp [words, PyData.eqv] at hw
              | dk0 => simp [words, PyData.eqv] at hw
              | dk1 => simp [words, PyData.eqv] at hw
            exact ⟨a, ⟨b, t, n⟩, rfl, e1⟩
  | non => cases h
  | bl => cases h
  | int => cases h
  | str => cases h
  | lst => cases h
  | dk0 => cases h
  | dk1 => cases h
theorem len_strS {n : Int} {k : Nat} (h : (numL n.natAbs).length ≤ k) : (strS n).length ≤ k + 1 := by
  rw [len_tl, tl_strS]
  exact decL_len h
section
variable {P : Program} {w : World} {K : PySem.W.Frag} {mg : Str → Option Value} {base : Heap} {C : Addr}
def spFRule (C : Addr) : Sp := fun vs H Q E => ∃ (v : V) (d : PyData), vs = [v] ∧ Dv H v d ∧ (ruleD d = false → ∀ H', Same H H' → OutX3 C "value" v H' E) ∧
  (∀ r p q c, v = .ref r → H r = some (.tup [.int p, .int q, .int c]) → ruleD d = true → (numL p.natAbs).length ≤ 6000 ∧ (numL q.natAbs).length ≤ 6000 ∧ (numL c.natAbs).length ≤ 6000 ∧ ∀ z H', Same H H' → tl z = ruleL p q c → Q (.str z) H')
def spFRec (C : Addr) : Sp := fun vs H Q E => ∃ (v : V) (d : PyData), vs = [v] ∧ Dv H v d ∧ rgB d = true ∧ (recB d = false → ∀ H', Same H H' → OutY C "index" (.int 0) H' E) ∧
  (∀ r x, v = .ref r → H r = some (rcO x) → recB d = true → (numL x.t.natAbs).length ≤ 6000 ∧ (numL x.n.natAbs).length ≤ 6000 ∧ ∀ z H', Same H H' → tl z = recL x → Q (.str z) H')
/-! ### read_record -/
def spRRec : Sp := fun vs H Q _ => ∃ (W : Addr) (ws : List Str), vs = [.ref W] ∧ H W = some (.lst (ws.map V.str)) ∧ ws.length ≤ 10001 ∧ WsOk 10000 ws ∧ (recW ws = false → ∀ H', Same H H' → Q .non H') ∧
  (recW ws = true → ∀ T H', Same H H' → H' T = some (.tup (recV ws)) → Q (.ref T) H')
abbrev s_read_record : Stmt := topS 18
abbrev N_read_record : List Str := ["words", "record"]
abbrev P_read_record : List Str := ["words"]
theorem sc_read_record : FnScope N_read_record P_read_record (defScope s_read_record) := ⟨rfl, rfl, rfl, by decide +kernel, rfl, by decide +kernel, by decide +kernel⟩
theorem ok_read_record (D : Df K mg "read_record" s_read_record P_read_record) (B : Bi mg) (c_read_integer : C8.Cal P w K mg base 1 "read_integer" spReadI []) (cA_is_record : C8.Cal P w K mg base 2 "is_record" spIsRecD []) : C8.Cal P w K mg base 3 "read_record" spRRec [] := by
  refine cal_of D sc_read_record (fun vs H Q E h => ?_) (fun f cdv A outer s H vs Q E hr h => ?_)
  · obtain ⟨W, ws, rfl, _⟩ := h
    rfl
  · obtain ⟨W, ws, rfl, eW, lw, ow, kn, ky⟩ := h
    have c_is_record := cA_is_record
    refine ⟨_, (pss_cons (ps_if (PW.pt (pw_or (pt_cmpR op_ne (pe_callB (call_len_seq) (by rfl) B.len_ bt_len (pa_cons (pv 0) pa_nil)) pe_int (nomark _)) (pw_or1 (pt_cmpR op_ne (pe_ix (r := rIxL K) ix_list (pv 0) pe_int (fun _ _ => rfl)) pe_str (nomark _)))))
      (pss_one (ps_ret pe_non))
      pss_nil)
    (pss_cons (ps_set (i := 1) sc_read_record.nd rfl (Or.inl rfl) (pe_tup (pa_cons (pe_joined (PJ.cons (pe_fmt (pe_ix (r := rIxL K) ix_list (pv 0) pe_int (fun _ _ => rfl))) (PJ.cons pe_str (PJ.cons (pe_fmt (pe_ix (r := rIxL K) ix_list (pv 0) pe_int (fun _ _ => rfl))) PJ.nil)))) (pa_cons (C8.pe_c c_read_integer hr (by decide) (by rfl) (pa_cons (pe_ix (r := rIxL K) ix_list (pv 0) pe_int (fun _ _ => rfl)) pa_nil)) (pa_cons (C8.pe_c c_read_integer hr (by decide) (by rfl) (pa_cons (pe_ix (r := rIxL K) ix_list (pv 0) pe_int (fun _ _ => rfl)) pa_nil)) pa_nil)))))
    (pss_one (ps_ret (pe_ifExp (pt_val (C8.pe_c c_is_record hr (by decide) (by rfl) (pa_cons (pv 1) pa_nil))) (pv 1) pe_non))))), ?_⟩
    have lmap : (ws.map V.str).length = ws.length := List.length_map _
    refine ⟨_, rfl, W, _, rfl, .inl (SqL.of eW), rfl, _, rfl, ?_⟩
    by_cases c5 : ws.length = 5
    · match ws, c5 with
      | [w0, w1, w2, w3, w4], _ =>
        have at_ : ∀ (i : Nat) (u : Str), [w0, w1, w2, w3, w4][i]? = some u → ([w0, w1, w2, w3, w4].map V.str)[i]? = some (.str u) := fun i u h => by
          rw [List.getElem?_map, h]
          rfl
        have o0 := ow w0 (by simp)
        have o1 := ow w1 (by simp)
        have o2 := ow w2 (by simp)
        have o4 := ow w4 (by simp)
        refine iteFs rfl ⟨_, rfl, W, _, _, _, rfl, rfl, SqL.of eW, atI_nat (j := 3) (at_ 3 _ rfl), rfl, _, rfl, ?_⟩
        by_cases c3 : w3 = Str.ofString "at"
        · refine iteFs (by rw [decide_eq_true (show V.str w3 = V.str (Str.ofString "at") by rw [c3])]; rfl) ?_
          have fitS : ∀ {n : Nat}, n ≤ 100000 → n ≤ sizeLine := fun h => by
            rw [sizeLine_eq]
            omega
          have ap : ∀ a b : Str, (a ++ b).length = a.length + b.length := fun a b => by
            rw [len_tl, tl_append, List.length_append, ← len_tl, ← len_tl]
          have c0 : Str.empty.length = 0 := rfl
          have c2 : (Str.ofString " ").length = 1 := by decide +kernel
          refine ⟨_, rfl, W, _, _, _, rfl, rfl, SqL.of eW, atI_nat (j := 0) (at_ 0 _ rfl), .inl ⟨_, rfl, fitS (by omega), _, rfl, fitS (by rw [ap]; omega), ?_⟩⟩
          refine ⟨_, rfl, fitS (by rw [ap, ap, c2]; omega), _, rfl, W, _, _, _, rfl, rfl, SqL.of eW, atI_nat (j := 1) (at_ 1 _ rfl), .inl ⟨_, rfl, fitS (by omega), _, rfl, fitS (by rw [ap, ap, ap, c2]; omega), ?_⟩⟩
          have e01 : Str.empty ++ w0 ++ Str.ofString " " ++ w1 = w0 ++ Str.ofString " " ++ w1 := ext_tl (by simp only [tl_append]; rfl)
          rw [e01]
          refine ⟨_, rfl, W, _, _, _, rfl, rfl, SqL.of eW, atI_nat (j := 4) (at_ 4 _ rfl), w4, rfl, o4.1, fun H1 s1 => ?_⟩
          refine ⟨_, rfl, W, _, _, _, rfl, rfl, SqL.of (s1 _ _ eW), atI_nat (j := 2) (at_ 2 _ rfl), w2, rfl, o2.1, fun H2 s2 => ⟨len10 (by simp), fun T nT => ?_⟩⟩
          have zT := sm_upd (o := .tup [.str (w0 ++ Str.ofString " " ++ w1), oVs (readI (tl w4)), oVs (readI (tl w2))]) nT
          have eT := upd_same (H := H2) (a := T) (o := .tup [.str (w0 ++ Str.ofString " " ++ w1), oVs (readI (tl w4)), oVs (readI (tl w2))])
          have s3 := s1.trans (s2.trans zT)
          have dv : Dv (upd H2 T (.tup [.str (w0 ++ Str.ofString " " ++ w1), oVs (readI (tl w4)), oVs (readI (tl w2))])) (.ref T) (.tuple (recP [w0, w1, w2, w3, w4])) := .tup eT (.cons (.str _) (.cons (oVs_dv _) (.cons (oVs_dv _) .nil)))
          have so : PyData.strOk (w0 ++ Str.ofString " " ++ w1) = true := strOk_tl.mpr fun c hc => by
            rw [tl_append, tl_append] at hc
            rcases List.mem_append.mp hc with hc | hc
            · rcases List.mem_append.mp hc with hc | hc
              · exact strOk_tl.mp o0.2 c hc
              · rw [show tl (Str.ofString " ") = [32] by decide +kernel, List.mem_singleton] at hc
                omega
            · exact strOk_tl.mp o1.2 c hc
          have rg : rgB (.tuple (recP [w0, w1, w2, w3, w4])) = true := by
            show (!PyData.hasDict (.str (w0 ++ Str.ofString " " ++ w1)) && SeqAt.shaped (.str (w0 ++ Str.ofString " " ++ w1))) = true
            have : SeqAt.shaped (.str (w0 ++ Str.ofString " " ++ w1)) = true := by
              show (PyData.canLay0 (.str _) && decide (PyData.depth (.str _) ≤ 64)) = true
              rw [Bool.and_eq_true]
              exact ⟨by simpa [PyData.canLay0] using so, rfl⟩
            rw [this]
            rfl
          refine ⟨_, rfl, _, _, rfl, dv, rg, fun H4 s4 => ⟨_, rfl, ?_⟩⟩
          have rb : recW [w0, w1, w2, w3, w4] = recB (.tuple (recP [w0, w1, w2, w3, w4])) := by
            show (decide (5 = 5) && (decide (w3 = Str.ofString "at") && recB (.tuple (recP [w0, w1, w2, w3, w4])))) = _
            rw [decide_eq_true c3]
            rfl
          cases hb : recB (.tuple (recP [w0, w1, w2, w3, w4])) with
          | true => exact iteTs rfl ⟨_, rfl, ky (rb.trans hb) T H4 (s3.trans s4) (s4 _ _ eT)⟩
          | false => exact iteFs rfl (kn (rb.trans hb) H4 (s3.trans s4))
        · refine iteTs (by rw [decide_eq_false (fun z => c3 (V.str.inj z))]; rfl) (kn ?_ _ (Same.refl _))
          show (decide (5 = 5) && (decide (w3 = Str.ofString "at") && recB (.tuple (recP [w0, w1, w2, w3, w4])))) = _
          rw [decide_eq_false c3]
          rfl
    · have n5 : (!decide (V.int ((ws.map V.str).length : Int) = V.int 5)) = true := by
        rw [decide_eq_false (fun z => c5 (by have := V.int.inj z; omega))]
        rfl
      refine iteTs n5 (iteTs rfl (kn ?_ _ (Same.refl _)))
      unfold recW
      rw [decide_eq_false c5, Bool.false_and]
/-! ### parse_record -/
def spPRec (C : Addr) : Sp := fun vs H Q E => ∃ (v : V) (d : PyData), vs = [v] ∧ Dv H v d ∧ shT 10000 d ∧ (recW (wordsO d) = false → ∀ H', Same H H' → OutY C "line" v H' E) ∧
  (recW (wordsO d) = true → ∀ T H', Same H H' → H' T = some (.tup (recV (wordsO d))) → Q (.ref T) H')
abbrev s_parse_record : Stmt := topS 14
abbrev N_parse_record : List Str := ["text", "record"]
abbrev P_parse_record : List Str := ["text"]
theorem sc_parse_record : FnScope N_parse_record P_parse_record (defScope s_parse_record) := ⟨rfl, rfl, rfl, by decide +kernel, rfl, by decide +kernel, by decide +kernel⟩
theorem okx_parse_record (D : Df K mg "parse_record" s_parse_record P_parse_record) (T : ValC P K mg C "ParseError" "line") (c_words_of : C8.Cal P w K mg base 1 "words_of" spWords []) (c_read_record : C8.Cal P w K mg base 3 "read_record" spRRec []) : CalX P w K mg base 4 "parse_record" (spPRec C) := by
  refine calx_of D sc_parse_record (fun vs H Q E h => ?_) (fun f cdv A outer s H vs Q E hr h => ?_)
  · obtain ⟨v, d, rfl, _⟩ := h
    rfl
  · obtain ⟨v, d, rfl, dv, sh, kn, ky⟩ := h
    refine ⟨_, (pss_cons (ps_set (i := 1) sc_parse_record.nd rfl (Or.inl rfl) (C8.pe_c c_read_record hr (by decide) (by rfl) (pa_cons (C8.pe_c c_words_of hr (by decide) (by rfl) (pa_cons (pv 0) pa_nil)) pa_nil)))
    (pss_cons (ps_if (pt_cmpR op_isN (pv 1) pe_non (nomark _))
      (pss_one (ps_raise rfl (takes_of rfl rfl rfl rfl) (pmk_val T hr (by decide) rfl (pv 0))))
      pss_nil)
    (pss_one (ps_ret (pv 1))))), ?_⟩
    refine ⟨_, rfl, v, d, rfl, dv, sh, fun L H1 nL e1 => ?_⟩
    subst e1
    have zL := sm_upd (o := .lst ((wordsO d).map V.str)) nL
    refine ⟨L, wordsO d, rfl, upd_same, wordsO_num sh, wordsO_ok sh, fun hb H2 s2 => ?_, fun hb T H2 s2 eT => ?_⟩
    · exact ⟨_, rfl, rfl, _, rfl, iteD rfl ⟨_, rfl, mkv (kn hb H2 (zL.trans s2))⟩⟩
    · exact ⟨_, rfl, rfl, _, rfl, iteDn (fun z => by cases z) ⟨_, rfl, ky hb T H2 (zL.trans s2) eT⟩⟩
end
end Lf
namespace Lf
open PySem PySem.Spec PyProof.Rows L2
/-- a promise where nothing is raised -/
structure Wr (sp : Sp) (vs : List V) (H : Hp) (Q : VK) : Prop where
  ex : sp vs H Q C8.E0
/-- a def that may raise, where it does not -/
theorem calm_of {P : Program} {w : World} {K : PySem.W.Frag} {mg : Str → Option Value} {base : Heap} {k : Nat} {x : Str} {sp : Sp} (c : CalX P w K mg base k x sp) : C8.Cal P w K mg base k x (fun vs H Q _ => Wr sp vs H Q) [] := by
  obtain ⟨f, fd, ps, F, hm, kp, b⟩ := c
  refine ⟨⟨f, fd, ps, [], ⟨fun vs H Q E h => F.len vs H Q C8.E0 h.ex, fun A outer s H args us vs Q E hr e hb r h => ?_⟩, hm, kp, b, .nil⟩⟩
  refine codeAny_mono (F.run A outer s H args us vs Q C8.E0 hr e hb r h.ex) fun r s' z => ?_
  match r, z with
  | .ok (.ret u), z => exact z
  | .ok .next, z => exact False.elim z
  | .ok .brk, z => exact False.elim z
  | .ok .cont, z => exact False.elim z
  | .error e, z =>
    obtain ⟨_, _, _, _, _, _, _, _, _, _, _, _, hE⟩ := z
    exact False.elim hE
end Lf
namespace Lf
open PySem PySem.Spec PyProof.Rows L2 TL
/-! ### the words of a written form -/
theorem decL_free {n : Int} {s : Nat} (h : s < 48 ∨ 57 < s) (h2 : s ≠ 45) : s ∉ decL n := by
  cases n with
  | ofNat n => exact numL_free h
  | negSucc n =>
    intro hm
    rcases List.mem_cons.mp hm with e | hm
    · exact h2 e
    · exact numL_free h hm
theorem tl_sp : tl (Str.ofString " ") = [32] := by decide +kernel
theorem split_words {x : Str} {ws : List Str} (hne : ws ≠ []) (hp : ∀ p ∈ ws, 32 ∉ tl p) (hx : tl x = joinL [32] (ws.map tl)) : splS x = ws := by
  have e : x = Str.join (Str.ofString " ") ws := ext_tl (by rw [hx, tl_join, tl_sp])
  rw [e, ← join_eq]
  exact split_join tl_sp (by decide +kernel) hne hp
theorem numL_no32 (n : Int) : 32 ∉ tl (strS n) := by
  rw [tl_strS]
  exact decL_free (.inl (by decide)) (by decide)
theorem words_rule {x : Str} {p q c : Int} (hx : tl x = ruleL p q c) : splS x = [Str.ofString "rule", strS p, strS q, strS c] := by
  refine split_words (by simp) (fun w hw => ?_) ?_
  · simp only [List.mem_cons, List.not_mem_nil, or_false] at hw
    rcases hw with rfl | rfl | rfl | rfl
    · decide +kernel
    · exact numL_no32 _
    · exact numL_no32 _
    · exact numL_no32 _
  · rw [hx]
    unfold ruleL
    show _ = tl (Str.ofString "rule") ++ ([32] ++ (tl (strS p) ++ ([32] ++ (tl (strS q) ++ ([32] ++ tl (strS c))))))
    rw [tl_strS, tl_strS, tl_strS, show tl (Str.ofString "rule ") = tl (Str.ofString "rule") ++ [32] by decide +kernel]
    simp only [List.append_assoc]
theorem readI_strS {n : Int} (h : (numL n.natAbs).length ≤ 200) : readI (tl (strS n)) = some n := by
  rw [tl_strS]
  exact readI_decL n h
theorem rule_text {x : Str} {p q c : Int} (hx : tl x = ruleL p q c) (lp : (numL p.natAbs).length ≤ 200) (lq : (numL q.natAbs).length ≤ 200) (lc : (numL c.natAbs).length ≤ 200) :
    ruleB (splS x) = ruleD (.tuple [.int p, .int q, .int c]) ∧ numsV ((splS x).drop 1) = [.int p, .int q, .int c] := by
  rw [words_rule hx]
  constructor
  · show (decide ([Str.ofString "rule"] = [Str.ofString "rule"]) && ruleD (.tuple [oPs (readI (tl (strS p))), oPs (readI (tl (strS q))), oPs (readI (tl (strS c)))])) = _
    rw [readI_strS lp, readI_strS lq, readI_strS lc, decide_eq_true rfl]
    rfl
  · show [oVs (readI (tl (strS p))), oVs (readI (tl (strS q))), oVs (readI (tl (strS c)))] = _
    rw [readI_strS lp, readI_strS lq, readI_strS lc]
    rfl
/-- the second word of a record -/
def w2 (b : Bool) : Str := if b = true then "least" else "most"
theorem words_rec {x : Str} {r : Rec} (hx : tl x = recL r) : splS x = [Str.ofString "at", w2 r.lo, strS r.n, Str.ofString "at", strS r.t] := by
  refine split_words (by simp) (fun w hw => ?_) ?_
  · simp only [List.mem_cons, List.not_mem_nil, or_false] at hw
    rcases hw with rfl | rfl | rfl | rfl | rfl
    · decide +kernel
    · cases r.lo <;> decide +kernel
    · exact numL_no32 _
    · decide +kernel
    · exact numL_no32 _
  · rw [hx]
    unfold recL
    show _ = tl (Str.ofString "at") ++ ([32] ++ (tl (w2 r.lo) ++ ([32] ++ (tl (strS r.n) ++ ([32] ++ (tl (Str.ofString "at") ++ ([32] ++ tl (strS r.t))))))))
    rw [tl_strS, tl_strS, show tl (wd r.lo) = tl (Str.ofString "at") ++ ([32] ++ tl (w2 r.lo)) by cases r.lo <;> decide +kernel, show tl (Str.ofString " at ") = [32] ++ (tl (Str.ofString "at") ++ [32]) by decide +kernel]
    simp only [List.append_assoc]
theorem rec_text {x : Str} {r : Rec} (hx : tl x = recL r) (lt' : (numL r.t.natAbs).length ≤ 200) (ln : (numL r.n.natAbs).length ≤ 200) :
    recW (splS x) = true ∧ recV (splS x) = [.str (wd r.lo), .int r.t, .int r.n] := by
  have e : Str.ofString "at" ++ Str.ofString " " ++ w2 r.lo = wd r.lo := ext_tl (by cases r.lo <;> decide +kernel)
  rw [words_rec hx]
  constructor
  · show (decide (5 = 5) && (decide (Str.ofString "at" = Str.ofString "at") && recB (.tuple [.str (Str.ofString "at" ++ Str.ofString " " ++ w2 r.lo), oPs (readI (tl (strS r.t))), oPs (readI (tl (strS r.n)))]))) = true
    rw [readI_strS lt', readI_strS ln, e, decide_eq_true rfl, decide_eq_true rfl]
    show (words.any (fun z => PyData.eqv z (.str (wd r.lo))) && (isI (.int r.t) && isI (.int r.n))) = true
    have h : words.any (fun z => PyData.eqv z (.str (wd r.lo))) = true := by cases r.lo <;> decide +kernel
    rw [h]
    rfl
  · show [V.str (Str.ofString "at" ++ Str.ofString " " ++ w2 r.lo), oVs (readI (tl (strS r.t))), oVs (readI (tl (strS r.n)))] = _
    rw [readI_strS lt', readI_strS ln, e]
    rfl
theorem decL_ok (n : Int) : ∀ c ∈ decL n, c < 0x110000 := fun c hc => by
  cases n with
  | ofNat n =>
    have := numL_digits n c hc
    omega
  | negSucc n =>
    rcases List.mem_cons.mp hc with e | hm
    · omega
    · have := numL_digits (n + 1) c hm
      omega
theorem decL_neg {n : Nat} (h : 1 ≤ n) : decL (-(n : Int)) = 45 :: numL n := by
  cases n with
  | zero => omega
  | succ n => rfl
theorem num_lt {x : Int} {k : Nat} (hk : 0 < k) (h : x.natAbs < 10 ^ k) : (numL x.natAbs).length ≤ k := numL_len hk h
theorem num_bd {x : Int} {k : Nat} (h : Bd 100 x) (hk : 31 ≤ k) : (numL x.natAbs).length ≤ k := by
  have h : x.natAbs < 2 ^ 100 := h
  refine Nat.le_trans (numL_len (k := 31) (by decide) (Nat.lt_of_lt_of_le h (by decide +kernel))) hk
theorem ruleL_len {p q c : Int} {k : Nat} (lp : (numL p.natAbs).length ≤ k) (lq : (numL q.natAbs).length ≤ k) (lc : (numL c.natAbs).length ≤ k) : (ruleL p q c).length ≤ 3 * k + 20 := by
  have h1 := decL_len lp
  have h2 := decL_len lq
  have h3 := decL_len lc
  have h4 : (tl (Str.ofString "rule ")).length = 5 := by decide +kernel
  unfold ruleL
  simp only [List.length_append, h4, List.length_cons, List.length_nil]
  omega
theorem recL_len {r : Rec} {k : Nat} (lt' : (numL r.t.natAbs).length ≤ k) (ln : (numL r.n.natAbs).length ≤ k) : (recL r).length ≤ 3 * k + 20 := by
  have h1 := decL_len lt'
  have h2 := decL_len ln
  have h4 : (tl (Str.ofString " at ")).length = 4 := by decide +kernel
  have h5 : (tl (wd r.lo)).length ≤ 8 := by cases r.lo <;> decide +kernel
  unfold recL
  simp only [List.length_append, h4, List.length_cons, List.length_nil]
  omega
theorem ruleL_ok (p q c : Int) : ∀ x ∈ ruleL p q c, x < 0x110000 := fun x hx => by
  unfold ruleL at hx
  have h0 : ∀ x ∈ tl (Str.ofString "rule "), x < 0x110000 := by decide +kernel
  simp only [List.mem_append, List.mem_cons, List.not_mem_nil, or_false] at hx
  rcases hx with (((((h | h) | h) | h) | h) | h)
  · exact h0 x h
  · exact decL_ok _ x h
  · omega
  · exact decL_ok _ x h
  · omega
  · exact decL_ok _ x h
theorem recL_ok (r : Rec) : ∀ x ∈ recL r, x < 0x110000 := fun x hx => by
  unfold recL at hx
  have h0 : ∀ x ∈ tl (Str.ofString " at "), x < 0x110000 := by decide +kernel
  have h1 : ∀ x ∈ tl (wd r.lo), x < 0x110000 := by cases r.lo <;> decide +kernel
  simp only [List.mem_append, List.mem_cons, List.not_mem_nil, or_false] at hx
  rcases hx with ((((h | h) | h) | h) | h)
  · exact h1 x h
  · omega
  · exact decL_ok _ x h
  · exact h0 x h
  · exact decL_ok _ x h
end Lf
namespace Lf
open PySem PySem.Spec PyProof.Rows L2 TL
/-! ### tuples of the very same items -/
def rNeT (K : PySem.W.Frag) : R2 := fun x y H Q => ∃ a b xs, x = .ref a ∧ y = .ref b ∧ SqT K H a xs ∧ SqT K H b xs ∧ SmI xs ∧ Q (.bl false) H
theorem op_neT {X : Cx} (hu : X.A.units + 64 < cLine) : OpR X (compareOp .NotEq) (rNeT X.K) := by
  intro pins s σ H x y v u Q I rx ry h
  obtain ⟨a, b, xs, rfl, rfl, ha, hb, hs, q⟩ := h
  cases rx
  cases ry
  obtain ⟨us, r1, p1, _⟩ := I.tuple ha
  obtain ⟨ws, r2, p2, _⟩ := I.tuple hb
  have l1 := r1.length
  have l2 := r2.length
  have t1 : s.heap.IsTuple a us.toArray := by
    obtain ⟨o, ho, hc, n, hd⟩ := p1
    exact ⟨o, ho, hc, n, hd⟩
  have t2 : s.heap.IsTuple b ws.toArray := by
    obtain ⟨o, ho, hc, n, hd⟩ := p2
    exact ⟨o, ho, hc, n, hd⟩
  have R := SeqAt.RcNeAt.tuples (e := fun _ => true) t1 t2 (show X.A.units < cLine by omega) (fun j h1 h2 => by
    have := smI_at (A := X.A.in1) (s := s) hs r1 r2 j (by simpa using h1) (by simpa using h2)
    simpa using this)
  have e : (!((List.range (min us.toArray.size ws.toArray.size)).all (fun _ => true) && us.toArray.size == ws.toArray.size)) = false := by
    rw [show ((List.range (min us.toArray.size ws.toArray.size)).all fun _ => true) = true from List.all_eq_true.mpr fun _ _ => rfl, Bool.true_and]
    have : us.toArray.size = ws.toArray.size := by
      rw [List.size_toArray, List.size_toArray]
      omega
    rw [this]
    simp
  rw [e] at R
  exact R _ _ _ _ ⟨.bl false, H, I, rfl, q⟩
/-! ### words hold no space -/
theorem spl_free : ∀ (l acc : List Nat), 32 ∉ acc → ∀ p ∈ spl [32] 0 acc l, 32 ∉ p
  | [], acc, ha, p, h => by
    rw [spl_nil, List.mem_singleton] at h
    rw [h]
    exact ha
  | x :: r, acc, ha, p, h => by
    by_cases hx : pre [32] (x :: r) = true
    · rw [spl_hit hx] at h
      rcases List.mem_cons.mp h with rfl | h
      · exact ha
      · exact spl_free r [] (by simp) p h
    · have nx : x ≠ 32 := fun e => hx (by rw [e]; rfl)
      rw [spl_miss (by simpa using hx)] at h
      refine spl_free r (acc ++ [x]) (fun m => ?_) p h
      rcases List.mem_append.mp m with m | m
      · exact ha m
      · exact nx (List.mem_singleton.mp m).symm
theorem spl_ne : ∀ (l acc : List Nat), spl [32] 0 acc l ≠ []
  | [], acc => by
    rw [spl_nil]
    simp
  | x :: r, acc => by
    by_cases hx : pre [32] (x :: r) = true
    · rw [spl_hit hx]
      simp
    · rw [spl_miss (by simpa using hx)]
      exact spl_ne r _
theorem splS_free {z w : Str} (h : w ∈ splS z) : 32 ∉ tl w := by
  have m : tl w ∈ (splS z).map tl := List.mem_map.mpr ⟨w, h, rfl⟩
  rw [tl_splS] at m
  exact spl_free (tl z) [] (by simp) (tl w) m
theorem splS_ne (z : Str) : splS z ≠ [] := fun h => by
  have := tl_splS z
  rw [h] at this
  exact spl_ne _ _ this.symm
/-- two words without a space are told apart in their joined text -/
theorem two_words {a b c d : List Nat} (ha : 32 ∉ a) (hc : 32 ∉ c) (h : a ++ [32] ++ b = c ++ [32] ++ d) : a = c ∧ b = d := by
  induction a generalizing c with
  | nil =>
    cases c with
    | nil => exact ⟨rfl, (List.cons.inj h).2⟩
    | cons y r =>
      have := (List.cons.inj h).1
      exact absurd (by rw [← this]; exact List.mem_cons_self) hc
  | cons x a ih =>
    cases c with
    | nil =>
      have := (List.cons.inj h).1
      exact absurd (by rw [this]; exact List.mem_cons_self) ha
    | cons y c =>
      obtain ⟨e1, e2⟩ := List.cons.inj h
      obtain ⟨e3, e4⟩ := ih (fun m => ha (List.mem_cons_of_mem _ m)) (fun m => hc (List.mem_cons_of_mem _ m)) e2
      exact ⟨by rw [e1, e3], e4⟩
/-- a record that five words write -/
def recIn (ws : List Str) : Option (Bool × Int × Int) :=
  if ws.length = 5 ∧ ws.getD 0 Str.empty = Str.ofString "at" ∧ (ws.getD 1 Str.empty = w2 true ∨ ws.getD 1 Str.empty = w2 false) ∧ ws.getD 3 Str.empty = Str.ofString "at" then
    match readI (tl (ws.getD 2 Str.empty)), readI (tl (ws.getD 4 Str.empty)) with
    | some n, some t => some (decide (ws.getD 1 Str.empty = w2 true), t, n)
    | _, _ => none
  else none
theorem w2_ne : w2 true ≠ w2 false := by decide +kernel
theorem rec_in {ws : List Str} (hf : ∀ w ∈ ws, 32 ∉ tl w) : match recIn ws with
    | some (b, t, n) => recW ws = true ∧ recV ws = [.str (wd b), .int t, .int n]
    | none => recW ws = false := by
  have key : ∀ b : Bool, ws.getD 0 Str.empty = Str.ofString "at" → ws.getD 1 Str.empty = w2 b → ws.getD 0 Str.empty ++ Str.ofString " " ++ ws.getD 1 Str.empty = wd b := fun b h0 h1 => by
    rw [h0, h1]
    exact ext_tl (by cases b <;> decide +kernel)
  by_cases c : ws.length = 5 ∧ ws.getD 0 Str.empty = Str.ofString "at" ∧ (ws.getD 1 Str.empty = w2 true ∨ ws.getD 1 Str.empty = w2 false) ∧ ws.getD 3 Str.empty = Str.ofString "at"
  · obtain ⟨l5, h0, h1, h3⟩ := id c
    obtain ⟨b, hb⟩ : ∃ b, ws.getD 1 Str.empty = w2 b := h1.elim (fun h => ⟨true, h⟩) (fun h => ⟨false, h⟩)
    have db : decide (ws.getD 1 Str.empty = w2 true) = b := by
      rw [hb]
      cases b
      · exact decide_eq_false (fun z => w2_ne z.symm)
      · exact decide_eq_true rfl
    have kb := key b h0 hb
    have wb : words.any (fun z => PyData.eqv z (.str (wd b))) = true := by cases b <;> decide +kernel
    unfold recIn
    rw [if_pos c, db]
    have rw' : recW ws = (isI (oPs (readI (tl (ws.getD 4 Str.empty)))) && isI (oPs (readI (tl (ws.getD 2 Str.empty))))) := by
      unfold recW recP
      rw [decide_eq_true l5, decide_eq_true h3, kb, Bool.true_and, Bool.true_and]
      show (words.any (fun z => PyData.eqv z (.str (wd b))) && _) = _
      rw [wb, Bool.true_and]
    cases e2 : readI (tl (ws.getD 2 Str.empty)) with
    | none =>
      rw [e2] at rw'
      rw [rw']
      cases readI (tl (ws.getD 4 Str.empty)) <;> rfl
    | some n =>
      cases e4 : readI (tl (ws.getD 4 Str.empty)) with
      | none =>
        rw [e2, e4] at rw'
        rw [rw']
        rfl
      | some t =>
        rw [e2, e4] at rw'
        refine ⟨rw', ?_⟩
        unfold recV
        rw [kb, e2, e4]
        rfl
  · unfold recIn
    rw [if_neg c]
    show recW ws = false
    unfold recW
    by_cases l5 : ws.length = 5
    · by_cases h3 : ws.getD 3 Str.empty = Str.ofString "at"
      · rw [decide_eq_true l5, decide_eq_true h3, Bool.true_and, Bool.true_and]
        show (words.any (fun z => PyData.eqv z (.str (ws.getD 0 Str.empty ++ Str.ofString " " ++ ws.getD 1 Str.empty))) && _) = false
        have nw : words.any (fun z => PyData.eqv z (.str (ws.getD 0 Str.empty ++ Str.ofString " " ++ ws.getD 1 Str.empty))) = false := by
          have ne : ∀ b : Bool, ws.getD 0 Str.empty ++ Str.ofString " " ++ ws.getD 1 Str.empty ≠ wd b := fun b e => by
            have e := congrArg tl e
            rw [tl_append, tl_append, tl_sp, show tl (wd b) = tl (Str.ofString "at") ++ [32] ++ tl (w2 b) by cases b <;> decide +kernel] at e
            have f0 : 32 ∉ tl (ws.getD 0 Str.empty) := by
              match ws, l5 with
              | [w0, w1, w2, w3, w4], _ => exact hf w0 List.mem_cons_self
            obtain ⟨g0, g1⟩ := two_words f0 (by decide +kernel) e
            refine c ⟨l5, ext_tl g0, ?_, h3⟩
            cases b
            · exact .inr (ext_tl g1)
            · exact .inl (ext_tl g1)
          have n1 := ne true
          have n2 := ne false
          show (PyData.eqv (.str (wd true)) (.str _) || (PyData.eqv (.str (wd false)) (.str _) || false)) = false
          have q : ∀ b : Bool, PyData.eqv (.str (wd b)) (.str (ws.getD 0 Str.empty ++ Str.ofString " " ++ ws.getD 1 Str.empty)) = false := fun b => by
            show (wd b == _) = false
            exact beq_eq_false_iff_ne.mpr (fun z => ne b z.symm)
          rw [q true, q false]
          rfl
        rw [nw, Bool.false_and]
      · rw [decide_eq_false h3, Bool.false_and, Bool.and_false]
    · rw [decide_eq_false l5, Bool.false_and]
section
variable {P : Program} {w : World} {K : PySem.W.Frag} {mg : Str → Option Value} {base : Heap}
/-! ### _law_integer -/
abbrev s_l_integer : Stmt := topS 24
abbrev N_l_integer : List Str := ["_law_word", "_law_digits", "_law_sign"]
abbrev P_l_integer : List Str := ["_law_word"]
theorem sc_l_integer : FnScope N_l_integer P_l_integer (defScope s_l_integer) := ⟨rfl, rfl, rfl, by decide +kernel, rfl, by decide +kernel, by decide +kernel⟩
theorem ok_l_integer (D : Df K mg "_law_integer" s_l_integer P_l_integer) (B : Bi mg) : C8.Cal P w K mg base 1 "_law_integer" spReadI [] := by
  refine cal_of D sc_l_integer (fun vs H Q E h => ?_) (fun f cdv A outer s H vs Q E hr h => ?_)
  · obtain ⟨z, rfl, _⟩ := h
    rfl
  · obtain ⟨z, rfl, hz, kk⟩ := h
    refine ⟨_, (C8.pss_cut (ps_set (i := 1) sc_l_integer.nd rfl (Or.inl rfl) (pe_ifExp (pt_cmpR op_eq (pe_slice sl_str (pv 0) po_none (po_some pe_int)) pe_str (nomark _)) (pe_slice sl_str (pv 0) (po_some pe_int) po_none) (pv 0)))
    (pss_cons (ps_if (PW.pt (pw_or (pt_cmpR op_eq (pv 1) pe_str (nomark _)) (pw_or (pt_cmpR op_gt (pe_callB (call_len_str) (by rfl) B.len_ bt_len (pa_cons (pv 1) pa_nil)) pe_int (nomark _)) (pw_or1 (pt_cmpR (op_neS hr.units) (pe_lc (own := [("_law_sign", 2)]) (g := (gName 2)) (by rfl) sc_l_integer.nd (pi_str (pv 1)) (blkOk_by (own := [("_law_sign", 2)]) (N := N_l_integer) (sc := defScope s_l_integer) (by decide +kernel)) (fun _ _ _ _ _ => (pg_name (i := 2) sc_l_integer.nd rfl (Or.inl rfl))) (fun _ _ _ _ _ => (pts_one (pt_cmpR op_notIn_sign (pv 2) pe_str rfl))) (fun _ _ _ _ _ => (pv 2))) (pe_lst pa_nil) (nomark _))))))
      (pss_one (ps_ret pe_non))
      pss_nil)
    (pss_one (ps_ret (pe_ifExp (PW.pt (pw_and (pt_cmpR op_eq (pe_ix ix_str (pv 1) pe_int (fun _ _ => rfl)) pe_str (nomark _)) (pw_and1 (pt_cmpR op_ne (pv 0) pe_str (nomark _))))) pe_non (pe_callTy (call_int_str) (by rfl) B.int_ bt_int (pa_cons (pv 0) pa_nil))))))), ?_⟩
    have hzl : z.length = (tl z).length := len_tl z
    have hz2 : z.length ≤ sizeLine := by
      rw [sizeLine_eq]
      omega
    have tk : tl (cutS z none (some 1)) = (tl z).take 1 := by
      show ((((tl z).drop (HT.sIx z.length 0 none)).take (HT.sIx z.length z.length (some 1) - HT.sIx z.length 0 none)).toArray).toList = _
      rw [HT.sIx_none, show HT.sIx z.length z.length (some 1) = min 1 z.length from HT.sIx_nat _ _ 1, List.toList_toArray, List.drop_zero, Nat.sub_zero]
      by_cases c : 1 ≤ z.length
      · rw [Nat.min_eq_left c]
      · rw [Nat.min_eq_right (by omega), List.take_of_length_le (by omega), List.take_of_length_le (by omega)]
    have e45 : (cutS z none (some 1) = Str.ofString "-") ↔ (tl z).head? = some 45 := by
      have e0 : tl (Str.ofString "-") = [45] := by decide +kernel
      constructor
      · intro h
        have := congrArg tl h
        rw [tk, e0] at this
        cases q : tl z with
        | nil =>
          rw [q] at this
          cases this
        | cons x r =>
          rw [q] at this
          cases this
          rfl
      · intro h
        apply ext_tl
        rw [tk, e0]
        cases q : tl z with
        | nil =>
          rw [q] at h
          cases h
        | cons x r =>
          rw [q] at h
          cases h
          rfl
    refine ⟨fun σ' H' => ∃ y : Str, σ' = [some (.str z), some (.str y), none] ∧ tl y = digsOf (tl z) ∧ H' = H, ?_, ?_⟩
    · refine ⟨_, rfl, 1, rfl, z, rfl, hz2, rfl, _, rfl, ?_⟩
      by_cases c : (tl z).head? = some 45
      · refine iteD (by rw [e45.mpr c]) ⟨_, rfl, 1, rfl, z, rfl, hz2, _, rfl, ?_, rfl⟩
        show ((((tl z).drop (HT.sIx z.length 0 (some 1))).take (HT.sIx z.length z.length none - HT.sIx z.length 0 (some 1))).toArray).toList = _
        have p1 : 1 ≤ z.length := by
          cases q : tl z with
          | nil =>
            rw [q] at c
            cases c
          | cons a r =>
            rw [hzl, q]
            exact Nat.succ_le_succ (Nat.zero_le _)
        rw [HT.sIx_none, show HT.sIx z.length 0 (some 1) = min 1 z.length from HT.sIx_nat _ _ 1, Nat.min_eq_left p1, List.toList_toArray, List.take_of_length_le (by rw [List.length_drop]; omega)]
        unfold digsOf
        rw [if_pos c, List.drop_one]
      · refine iteDn (fun q => c (e45.mp (V.str.inj q))) ⟨_, rfl, z, rfl, ?_, rfl⟩
        unfold digsOf
        rw [if_neg c]
    rintro σ' H1 ⟨y, rfl, hy, rfl⟩
    have hyl : y.length = (digsOf (tl z)).length := by rw [len_tl, hy]
    have ly : y.length ≤ z.length := by
      rw [hyl, hzl]
      unfold digsOf
      split
      · rw [List.length_tail]
        omega
      · exact Nat.le_refl _
    have hyd : y.cps.toList.length = y.length := by
      rw [Array.length_toList]
      rfl
    have hzd : y.cps.size = y.length := rfl
    have no : ¬ ReadOk (tl z) → ∀ H', Same H1 H' → Q .non H' := fun h H' s' => by
      have := kk H' s'
      unfold readI at this
      rw [if_neg h] at this
      exact this
    refine ⟨_, rfl, rfl, _, rfl, ?_⟩
    by_cases h1 : 1 ≤ (digsOf (tl z)).length
    · refine iteFs (decide_eq_false fun q => ?_) ?_
      · have := V.str.inj q
        rw [this] at hyl
        have e0 : (Str.ofString "").length = 0 := rfl
        omega
      refine ⟨_, rfl, y, rfl, by rw [sizeLine_eq]; omega, _, _, rfl, rfl, _, rfl, ?_⟩
      by_cases h2 : (digsOf (tl z)).length ≤ 200
      · refine iteDn (show ¬ (200 : Int) < ((y.length : Nat) : Int) by omega) ?_
        refine ⟨_, rfl, y, rfl, fun Y nY => ?_⟩
        refine lc_it (walk_str (z := y)) (fun i H' => Same H1 H' ∧ ∃ vs', H' Y = some (.lst vs') ∧ vs'.length ≤ i ∧ (vs' = [] ↔ (y.cps.toList.take i).all isDg = true) ∧ (∀ v ∈ vs', flatB v = true)) ⟨sm_upd nY, [], upd_same, Nat.le_refl _, by simp, fun v hv => (nomatch hv)⟩ (fun _ _ _ _ => trivial) ?_ ?_
        · rintro i x H' H'' hi ⟨s', vs', eY, lv, hv, hf⟩ ⟨rfl, c, hc, rfl⟩
          rw [← Array.getElem?_toList] at hc
          refine ⟨rfl, _, rfl, c, _, rfl, rfl, _, rfl, ?_⟩
          rw [dig_in]
          have tk : (y.cps.toList.take (i + 1)).all isDg = ((y.cps.toList.take i).all isDg && isDg c) := by
            rw [List.take_add_one, hc, List.all_append]
            simp
          cases hd : isDg c with
          | true =>
            refine iteFs rfl ⟨s', vs', eY, by omega, ?_, hf⟩
            rw [tk, hd, Bool.and_true]
            exact hv
          | false =>
            refine iteTs rfl ⟨_, rfl, vs', eY, ltS (by omega), fun b o eb => ?_, vs' ++ [.str ⟨#[c]⟩], upd_same, by rw [List.length_append]; show vs'.length + 1 ≤ i + 1; omega, ?_, fun v hv' => ?_⟩
            · rw [upd_ne (ne_of_none eb nY)]
              exact s' _ _ eb
            · rw [tk, hd, Bool.and_false]
              simp
            · rcases List.mem_append.mp hv' with h | h
              · exact hf v h
              · rw [List.mem_singleton.mp h]
                rfl
        rintro H' ⟨s', vs', eY, lv, hv, hf⟩
        rw [List.take_of_length_le (by rw [hyd, ← hzd]; exact Nat.le_refl _), show y.cps.toList = digsOf (tl z) from hy] at hv
        refine ⟨len10 (by simp), fun Z nZ => ?_⟩
        have zZ := sm_upd (o := .lst []) nZ
        have sZ := s'.trans zZ
        have eYZ := zZ _ _ eY
        have eZ := upd_same (H := H') (a := Z) (o := .lst [])
        generalize upd H' Z (.lst []) = H2 at zZ sZ eYZ eZ ⊢
        cases h3 : (digsOf (tl z)).all isDg with
        | false =>
          have nv : vs' ≠ [] := fun e => by
            have := hv.mp e
            rw [h3] at this
            cases this
          refine ⟨Y, Z, vs', [], rfl, rfl, SqL.of eYZ, SqL.of eZ, .inl ⟨fun e => nv (List.length_eq_zero_iff.mp e), _, rfl, iteTs rfl ?_⟩⟩
          exact no (fun r => by rw [r.2.2.1] at h3; cases h3) H2 sZ
        | true =>
          have ev := hv.mpr h3
          subst ev
          refine ⟨Y, Z, [], [], rfl, rfl, SqL.of eYZ, SqL.of eZ, .inr ⟨rfl, fun v hv => (nomatch hv), _, rfl, iteFs rfl ?_⟩⟩
          have ez : (z = Str.ofString "0") ↔ tl z = [48] := ⟨fun h => by rw [h]; decide +kernel, fun h => ext_tl (by rw [h]; decide +kernel)⟩
          have go : ReadOk (tl z) → ∃ a n, [V.str z] = [V.str a] ∧ intText? a = some n ∧ a.length ≤ 640 ∧ Q (V.int n) H2 := fun ok => by
            have lz : z.length ≤ 201 := by
              have : (tl z).length ≤ (digsOf (tl z)).length + 1 := by
                unfold digsOf
                split
                · rw [List.length_tail]
                  omega
                · omega
              omega
            refine ⟨z, _, rfl, intText_read ok, by omega, ?_⟩
            have := kk H2 sZ
            unfold readI at this
            rw [if_pos ok] at this
            exact this
          obtain ⟨d0, dr, hd0⟩ : ∃ d0 dr, digsOf (tl z) = d0 :: dr := by
            cases q : digsOf (tl z) with
            | nil =>
              rw [q] at h1
              exact absurd h1 (by decide)
            | cons x r => exact ⟨x, r, rfl⟩
          have hy0 : y.cps.toList = d0 :: dr := hy.trans hd0
          refine ⟨_, rfl, y, 0, d0, rfl, rfl, by rw [sizeLine_eq]; omega, atI_nat (j := 0) (by rw [hy0]; rfl), rfl, _, rfl, ?_⟩
          have e48 : ((⟨#[d0]⟩ : Str) = Str.ofString "0") ↔ d0 = 48 := by
            constructor
            · intro h
              have := congrArg tl h
              rw [show tl (Str.ofString "0") = [48] by decide +kernel] at this
              have this : [d0] = [48] := this
              cases this
              rfl
            · intro h
              subst h
              exact ext_tl (by decide +kernel)
          by_cases h4 : (digsOf (tl z)).head? = some 48
          · have hd48 : d0 = 48 := by
              rw [hd0] at h4
              exact Option.some.inj h4
            refine iteD (by rw [e48.mpr hd48]) ⟨_, rfl, rfl, _, rfl, ?_⟩
            by_cases h5 : tl z = [48]
            · refine iteFs (by rw [decide_eq_true (show V.str z = V.str (Str.ofString "0") by rw [ez.mpr h5])]; rfl) ⟨_, rfl, go ⟨h1, h2, h3, fun q => q.2 h5⟩⟩
            · refine iteTs (by rw [decide_eq_false (fun q => h5 (ez.mp (V.str.inj q)))]; rfl) (no (fun r => r.2.2.2 ⟨h4, h5⟩) H2 sZ)
          · have hd48 : d0 ≠ 48 := fun e => h4 (by rw [hd0, e]; rfl)
            exact iteDn (fun q => hd48 (e48.mp (V.str.inj q))) ⟨_, rfl, go ⟨h1, h2, h3, fun q => h4 q.1⟩⟩
      · exact iteD (show (200 : Int) < ((y.length : Nat) : Int) by omega) (no (fun r => h2 r.2.1) H1 (Same.refl _))
    · refine iteTs (decide_eq_true ?_) (no (fun r => h1 r.1) H1 (Same.refl _))
      have : y = Str.ofString "" := ext_tl (by
        rw [hy]
        have : (digsOf (tl z)) = [] := List.length_eq_zero_iff.mp (by omega)
        rw [this]
        rfl)
      rw [this]
end
end Lf
namespace Lf
open PySem PySem.Spec PyProof.Rows L2 TL
/-! ### plain lines -/
structure Lin (n : Nat) (z : Str) : Prop where
  len : z.length ≤ n
  asc : ∀ c ∈ tl z, c < 128
theorem Lin.mono {n m : Nat} {z : Str} (h : Lin n z) (e : n ≤ m) : Lin m z := ⟨Nat.le_trans h.len e, h.asc⟩
theorem Lin.app {n m : Nat} {a b : Str} (ha : Lin n a) (hb : Lin m b) : Lin (n + m) (a ++ b) := by
  have h1 := ha.len
  have h2 := hb.len
  rw [len_tl] at h1 h2
  refine ⟨by rw [len_tl, tl_append, List.length_append]; omega, fun c hc => ?_⟩
  rw [tl_append] at hc
  rcases List.mem_append.mp hc with h | h
  · exact ha.asc c h
  · exact hb.asc c h
theorem Lin.cut {n : Nat} {z : Str} (h : Lin n z) (lo hi : Option Int) : Lin n (cutS z lo hi) := by
  refine ⟨Nat.le_trans (cutS_length z lo hi) h.len, fun c hc => h.asc c ?_⟩
  have hc : c ∈ (((tl z).drop (HT.sIx z.length 0 lo)).take (HT.sIx z.length z.length hi - HT.sIx z.length 0 lo)).toArray.toList := hc
  rw [List.toList_toArray] at hc
  exact List.mem_of_mem_drop (List.mem_of_mem_take hc)
theorem Lin.of {n : Nat} {z : Str} (h : (decide (z.length ≤ n) && z.cps.toList.all fun c => decide (c < 128)) = true) : Lin n z := by
  rw [Bool.and_eq_true, List.all_eq_true] at h
  exact ⟨of_decide_eq_true h.1, fun c hc => of_decide_eq_true (h.2 c hc)⟩
theorem Lin.num {n : Int} {k : Nat} (h : (numL n.natAbs).length ≤ k) : Lin (k + 1) (strS n) := by
  refine ⟨by rw [len_tl, tl_strS]; cases n with
    | ofNat n => exact Nat.le_succ_of_le h
    | negSucc n => exact Nat.succ_le_succ h, fun c hc => ?_⟩
  rw [tl_strS] at hc
  cases n with
  | ofNat n =>
    have := numL_digits n c hc
    omega
  | negSucc n =>
    rcases List.mem_cons.mp hc with e | hm
    · omega
    · have := numL_digits (n + 1) c hm
      omega
theorem Lin.ok {n : Nat} {z : Str} (h : Lin n z) : PyData.strOk z = true := strOk_tl.mpr fun c hc => by
  have := h.asc c hc
  omega
theorem Lin.sh {n m : Nat} {z : Str} (h : Lin n z) (e : n ≤ m) : shT m (.str z) := ⟨Nat.le_trans h.len e, h.ok⟩
theorem Lin.up {n : Nat} {z : Str} (h : Lin n z) : Lin (3 * n) (Txt.upper z) := by
  refine ⟨by have := len_upper z; have := h.len; omega, fun c hc => ?_⟩
  rw [upper_ascii (x := z) h.asc] at hc
  have hc : c ∈ (z.cps.map up1).toList := hc
  rw [Array.toList_map] at hc
  obtain ⟨d, hd, rfl⟩ := List.mem_map.mp hc
  have h1 := h.asc d hd
  have : ∀ c, c < 128 → up1 c < 128 := by decide +kernel
  exact this d h1
theorem spl_sum : ∀ (l acc : List Nat), ((spl [32] 0 acc l).map List.length).sum ≤ acc.length + l.length
  | [], acc => by
    rw [spl_nil]
    simp
  | c :: r, acc => by
    by_cases hc : pre [32] (c :: r) = true
    · rw [spl_hit hc, List.map_cons, List.sum_cons]
      have := spl_sum r []
      show acc.length + ((spl [32] 0 [] r).map List.length).sum ≤ _
      rw [List.length_cons]
      simp at this
      omega
    · rw [spl_miss (by simpa using hc)]
      have := spl_sum r (acc ++ [c])
      rw [List.length_append] at this
      rw [List.length_cons]
      simp at this
      omega
theorem splS_sum (z : Str) : ((splS z).map (·.length)).sum ≤ z.length := by
  have := spl_sum (tl z) []
  rw [← tl_splS, List.map_map] at this
  have e : (splS z).map (·.length) = (splS z).map (List.length ∘ tl) := List.map_congr_left fun w _ => len_tl w
  rw [e, len_tl z]
  simpa using this
theorem splS_lin {n : Nat} {z w : Str} (h : Lin n z) (hw : w ∈ splS z) : Lin n w := by
  refine ⟨Nat.le_trans (splS_len hw) h.len, fun c hc => ?_⟩
  have m : tl w ∈ (splS z).map tl := List.mem_map.mpr ⟨w, hw, rfl⟩
  rw [tl_splS] at m
  rcases spl_mem (tl z) [] (tl w) m c hc with h' | h'
  · cases h'
  · exact h.asc c h'
theorem joinL_mem {c : Nat} : ∀ {ps : List (List Nat)}, c ∈ joinL [32] ps → c = 32 ∨ ∃ p ∈ ps, c ∈ p
  | [], h => nomatch h
  | [p], h => .inr ⟨p, List.mem_cons_self, h⟩
  | p :: q :: r, h => by
    have h : c ∈ p ++ ([32] ++ joinL [32] (q :: r)) := h
    rcases List.mem_append.mp h with h | h
    · exact .inr ⟨p, List.mem_cons_self, h⟩
    · rcases List.mem_append.mp h with h | h
      · exact .inl (List.mem_singleton.mp h)
      · rcases joinL_mem (ps := q :: r) h with h | ⟨x, hx, h⟩
        · exact .inl h
        · exact .inr ⟨x, List.mem_cons_of_mem _ hx, h⟩
theorem joinL_len : ∀ ps : List (List Nat), (joinL [32] ps).length ≤ (ps.map List.length).sum + ps.length
  | [] => Nat.le_refl _
  | [p] => by
    show p.length ≤ _
    simp
  | p :: q :: r => by
    have := joinL_len (q :: r)
    show (p ++ ([32] ++ joinL [32] (q :: r))).length ≤ _
    rw [List.length_append, List.length_append, List.map_cons, List.sum_cons, List.length_cons (a := p)]
    simp only [List.length_cons, List.length_nil] at this ⊢
    omega
theorem Lin.join {n s : Nat} {ws : List Str} (h : ∀ w ∈ ws, Lin n w) (hs : (ws.map (·.length)).sum ≤ s) : Lin (s + ws.length) (Txt.join (Str.ofString " ") ws) := by
  have e : (ws.map tl).map List.length = ws.map (·.length) := by
    rw [List.map_map]
    exact List.map_congr_left fun w _ => (len_tl w).symm
  rw [join_eq]
  refine ⟨?_, fun c hc => ?_⟩
  · rw [len_tl, tl_join, tl_sp]
    refine Nat.le_trans (joinL_len _) ?_
    rw [e, List.length_map]
    omega
  · rw [tl_join, tl_sp] at hc
    rcases joinL_mem hc with h' | ⟨p, hp, h'⟩
    · omega
    · obtain ⟨w, hw, rfl⟩ := List.mem_map.mp hp
      exact (h w hw).asc c h'
theorem sum_drop {l : List Nat} (k : Nat) : (l.take k).sum + (l.drop k).sum = l.sum := by
  rw [← List.sum_append, List.take_append_drop]
end Lf
namespace Lf
open PySem PySem.Spec PyProof.Rows L2 TL
/-! ### texts many times over -/
theorem op_mulS {X : Cx} : OpR X (binaryOp .Mult) (fun x y H Q => ∃ (a : Str) (i : Int), x = .str a ∧ y = .int i ∧ a.length ≤ 1 ∧ 0 ≤ i ∧ i ≤ 10000 ∧ Q (.str (Txt.mul a i)) H) := by
  intro pins s σ H x y v u Q I rx ry h
  obtain ⟨a, i, rfl, rfl, h1, h2, h3, q⟩ := h
  obtain ⟨t, rfl⟩ := rx
  obtain ⟨t', rfl⟩ := ry
  exact SB.mul (mulOk_of 1 10000 h1 (by omega) (by omega) (by decide) (by decide)) fun t2 k => ⟨.str _, H, I.tok k, ⟨t2, rfl⟩, q⟩
theorem Lin.nines {i : Int} (h0 : 0 ≤ i) {n : Nat} (h1 : i ≤ (n : Int)) : Lin n (Txt.mul (Str.ofString "9") i) := by
  have e : tl (Txt.mul (Str.ofString "9") i) = List.replicate i.toNat 57 := mul_one_list 57 i
  refine ⟨by rw [len_tl, e, List.length_replicate]; omega, fun c hc => ?_⟩
  rw [e] at hc
  have := (List.mem_replicate.mp hc).2
  omega
def mu3 : L2.St → Hp → Nat := fun σ _ => match σ with
  | _ :: _ :: _ :: some (.int v) :: _ => v.toNat
  | _ => 0
theorem len_apN (a b : Str) : (a ++ b).length = a.length + b.length := by
  rw [len_tl, tl_append, List.length_append, ← len_tl, ← len_tl]
section
variable {P : Program} {w : World} {K : PySem.W.Frag} {mg : Str → Option Value} {base : Heap}
/-! ### _law_rule_in -/
def spRIn : Sp := fun vs H Q _ => ∃ (W : Addr) (ws : List Str), vs = [.ref W] ∧ H W = some (.lst (ws.map V.str)) ∧ ws.length ≤ 10001 ∧ (∀ w ∈ ws, w.length ≤ 10000) ∧ (ruleD (.tuple (numsP ws)) = false → ∀ H', Same H H' → Q .non H') ∧
  (ruleD (.tuple (numsP ws)) = true → ∀ T H', Same H H' → H' T = some (.tup (numsV ws)) → Q (.ref T) H')
theorem nums_flat (ws : List Str) : (numsV ws).all flatV = true := by
  rw [List.all_eq_true]
  intro x hx
  obtain ⟨w, _, rfl⟩ := List.mem_map.mp hx
  cases readI (tl w) <;> rfl
theorem nums_none (ws : List Str) : inV .non (numsV ws) = ws.any fun w => (readI (tl w)).isNone := by
  unfold inV numsV
  rw [List.any_map]
  refine congrArg (fun g => List.any ws g) (funext fun w => ?_)
  show eqV (oVs (readI (tl w))) .non = _
  cases readI (tl w) <;> rfl
abbrev s_l_rule_in : Stmt := topS 25
abbrev N_l_rule_in : List Str := ["_law_words", "_law_numbers", "_law_one", "_law_two", "_law_word"]
abbrev P_l_rule_in : List Str := ["_law_words"]
theorem sc_l_rule_in : FnScope N_l_rule_in P_l_rule_in (defScope s_l_rule_in) := ⟨rfl, rfl, rfl, by decide +kernel, rfl, by decide +kernel, by decide +kernel⟩
theorem ok_l_rule_in (D : Df K mg "_law_rule_in" s_l_rule_in P_l_rule_in) (B : Bi mg) (c_l_integer : C8.Cal P w K mg base 1 "_law_integer" spReadI []) : C8.Cal P w K mg base 2 "_law_rule_in" spRIn [] := by
  refine cal_of D sc_l_rule_in (fun vs H Q E h => ?_) (fun f cdv A outer s H vs Q E hr h => ?_)
  · obtain ⟨W, ws, rfl, _⟩ := h
    rfl
  · obtain ⟨W, ws, rfl, eW, lw, ow, kn, ky⟩ := h
    refine ⟨_, (C8.pss_cut (ps_setLc (i := 1) (own := [("_law_word", 4)]) (g := (gName 4)) (by rfl) sc_l_rule_in.nd rfl rfl (sw_true rfl rfl rfl (by decide +kernel)) (pi_list (pv 0)) (blkOk_by (own := [("_law_word", 4)]) (N := N_l_rule_in) (sc := defScope s_l_rule_in) (by decide +kernel)) (fun _ _ _ _ _ => (pg_name (i := 4) sc_l_rule_in.nd rfl (Or.inl rfl))) (fun _ _ _ _ _ => pts_nil) (fun _ _ _ _ _ => (C8.pe_c c_l_integer hr (by decide) (by rfl) (pa_cons (pv 4) pa_nil))))
    (pss_cons (ps_if (PW.pt (pw_or (pt_cmpR op_ne (pe_callB (call_len_seq) (by rfl) B.len_ bt_len (pa_cons (pv 0) pa_nil)) pe_int (nomark _)) (pw_or (pt_cmpR op_in_seq pe_non (pv 1) rfl) (pw_or (pt_cmpR op_lt (pe_ix (r := rIxL K) ix_list (pv 1) pe_int (fun _ _ => rfl)) pe_int (nomark _)) (pw_or1 (pt_cmpR op_lt (pe_ix (r := rIxL K) ix_list (pv 1) pe_int (fun _ _ => rfl)) pe_int (nomark _)))))))
      (pss_one (ps_ret pe_non))
      pss_nil)
    (pss_cons (ps_par (i := 2) (j := 3) rfl sc_l_rule_in.nd rfl rfl (by decide) rfl rfl (pa_cons (pe_ix (r := rIxL K) ix_list (pv 1) pe_int (fun _ _ => rfl)) (pa_cons (pe_ix (r := rIxL K) ix_list (pv 1) pe_int (fun _ _ => rfl)) pa_nil)) rfl)
    (pss_cons (ps_while PassesOwn.never (pt_cmpR op_gt (pv 3) pe_int (nomark _))
      (pss_one (ps_par (i := 2) (j := 3) rfl sc_l_rule_in.nd rfl rfl (by decide) rfl rfl (pa_cons (pv 3) (pa_cons (pe_op op_mod (pv 2) (pv 3)) pa_nil)) rfl)))
    (pss_one (ps_ret (pe_ifExp (pt_cmpR op_eq (pv 2) pe_int (nomark _)) (pe_callTy (call_tuple_of) (by rfl) B.tuple_ bt_tuple (pa_cons (pv 1) pa_nil)) pe_non))))))), ?_⟩
    have lmap : (ws.map V.str).length = ws.length := List.length_map _
    refine ⟨fun σ' H' => ∃ N : Addr, σ' = [some (.ref W), some (.ref N), none, none, none] ∧ Same H H' ∧ H' N = some (.lst (numsV ws)), ?_, ?_⟩
    · refine ⟨_, rfl, W, rfl, ⟨_, SqL.of eW⟩, fun Y nY => ?_⟩
      refine lc_list (K := K) (a := W) (xs := ws.map V.str) (fun i H' => Same H H' ∧ H' Y = some (.lst (numsV (ws.take i)))) ⟨sm_upd nY, upd_same⟩ ?_ ?_ ?_
      · rintro i H' _ ⟨s', _⟩
        exact SqL.of (s' _ _ eW)
      · rintro i y H' hy ⟨s', eY⟩
        rw [List.getElem?_map, Option.map_eq_some_iff] at hy
        obtain ⟨u, hu, rfl⟩ := hy
        have hi := (List.getElem?_eq_some_iff.mp hu).1
        refine ⟨rfl, _, rfl, u, rfl, ow u (List.mem_of_getElem? hu), fun H2 s2 => ⟨_, s2 _ _ eY, ?_, ?_, ?_⟩⟩
        · unfold numsV
          rw [List.length_map, List.length_take]
          exact ltS (by omega)
        · intro b o eb
          rw [upd_ne (ne_of_none eb nY)]
          exact s2 _ _ (s' _ _ eb)
        · rw [upd_same, List.take_add_one, hu]
          unfold numsV
          rw [List.map_append]
          rfl
      rintro H2 ⟨s2, eY⟩
      rw [lmap, List.take_length] at eY
      exact ⟨Y, rfl, s2, eY⟩
    rintro σ' H1 ⟨N, rfl, s1, eN⟩
    refine ⟨_, rfl, W, _, rfl, .inl (SqL.of (s1 _ _ eW)), rfl, _, rfl, ?_⟩
    by_cases c3 : ws.length = 3
    · match ws, c3 with
      | [w0, w1, w2], _ =>
        refine iteFs rfl ⟨_, rfl, N, _, rfl, .inl (SqL.of eN), rfl, nums_flat _, _, rfl, ?_⟩
        rw [if_neg (by simp), nums_none]
        have bad : ((readI (tl w0)).isNone || ((readI (tl w1)).isNone || ((readI (tl w2)).isNone || false))) = true → ruleD (.tuple (numsP [w0, w1, w2])) = false := fun h => by
          refine rule_i ?_
          show (isI (oPs (readI (tl w0))) && (isI (oPs (readI (tl w1))) && (isI (oPs (readI (tl w2))) && true))) = false
          cases h0 : readI (tl w0) with
          | none => rfl
          | some p =>
            cases h1 : readI (tl w1) with
            | none => rfl
            | some q =>
              cases h2 : readI (tl w2) with
              | none => rfl
              | some c =>
                rw [h0, h1, h2] at h
                cases h
        show if ((readI (tl w0)).isNone || ((readI (tl w1)).isNone || ((readI (tl w2)).isNone || false))) = true then _ else _
        cases hb : ((readI (tl w0)).isNone || ((readI (tl w1)).isNone || ((readI (tl w2)).isNone || false))) with
        | true => exact iteTs rfl (kn (bad hb) H1 s1)
        | false =>
          refine iteFs rfl ?_
          obtain ⟨p, hp⟩ : ∃ p, readI (tl w0) = some p := by
            cases h0 : readI (tl w0) with
            | none => rw [h0] at hb; cases hb
            | some p => exact ⟨p, rfl⟩
          obtain ⟨q, hq⟩ : ∃ p, readI (tl w1) = some p := by
            cases h0 : readI (tl w1) with
            | none => rw [hp, h0] at hb; cases hb
            | some p => exact ⟨p, rfl⟩
          obtain ⟨c, hc⟩ : ∃ p, readI (tl w2) = some p := by
            cases h0 : readI (tl w2) with
            | none => rw [hp, hq, h0] at hb; cases hb
            | some p => exact ⟨p, rfl⟩
          have eV : numsV [w0, w1, w2] = [.int p, .int q, .int c] := by
            show [oVs (readI (tl w0)), oVs (readI (tl w1)), oVs (readI (tl w2))] = _
            rw [hp, hq, hc]
            rfl
          have eP : numsP [w0, w1, w2] = [.int p, .int q, .int c] := by
            show [oPs (readI (tl w0)), oPs (readI (tl w1)), oPs (readI (tl w2))] = _
            rw [hp, hq, hc]
            rfl
          rw [eV] at eN
          rw [eP] at kn ky
          rw [eV] at ky
          have rd : ruleD (.tuple [.int p, .int q, .int c]) = (decide (0 ≤ p) && (decide (1 ≤ q) && decide (V.int (Int.gcd p q : Int) = V.int 1))) := rfl
          refine ⟨_, rfl, N, _, _, _, rfl, rfl, SqL.of eN, atI_nat (j := 0) rfl, _, _, rfl, rfl, _, rfl, ?_⟩
          by_cases p0 : p < 0
          · refine iteD p0 (kn ?_ H1 s1)
            rw [rd, decide_eq_false (show ¬ 0 ≤ p by omega), Bool.false_and]
          refine iteDn p0 ⟨_, rfl, N, _, _, _, rfl, rfl, SqL.of eN, atI_nat (j := 1) rfl, _, _, rfl, rfl, _, rfl, ?_⟩
          by_cases q1 : q < 1
          · refine iteD q1 (kn ?_ H1 s1)
            rw [rd, decide_eq_false (show ¬ 1 ≤ q by omega), Bool.false_and, Bool.and_false]
          refine iteDn q1 ?_
          have p0 : 0 ≤ p := by omega
          have q1 : 1 ≤ q := by omega
          rw [rd, decide_eq_true p0, decide_eq_true q1, Bool.true_and, Bool.true_and] at kn ky
          refine ⟨_, rfl, N, _, _, _, rfl, rfl, SqL.of eN, atI_nat (j := 0) rfl, _, rfl, N, _, _, _, rfl, rfl, SqL.of eN, atI_nat (j := 1) rfl, _, _, rfl, ?_⟩
          refine while_by (fun σ H' => ∃ u v : Int, σ = [some (.ref W), some (.ref N), some (.int u), some (.int v), none] ∧ 0 ≤ u ∧ 0 ≤ v ∧ Int.gcd u v = Int.gcd p q ∧ H' = H1) mu3 ⟨p, q, rfl, p0, by omega, rfl, rfl⟩ ?_ ?_
          · rintro σ H' ⟨u, v, rfl, hu, hv, e, rfl⟩
            refine ⟨_, rfl, _, _, rfl, rfl, _, rfl, ite2 (fun c => ?_) (fun c => ?_)⟩
            · have hv0 : 0 < v := of_decide_eq_true c
              refine ⟨_, rfl, _, rfl, _, rfl, _, _, rfl, rfl, hv0, _, _, rfl, ⟨v, u % v, rfl, hv, Int.emod_nonneg _ (by omega), ?_, rfl⟩, ?_⟩
              · rw [gcd_turn u v hu hv0]; exact e
              · show (u % v).toNat < v.toNat
                have := Int.emod_lt_of_pos u hv0
                omega
            · have hv0 : v = 0 := by
                have : ¬ 0 < v := fun z => c (decide_eq_true z)
                omega
              subst hv0
              have e2 : (Int.gcd p q : Int) = u := by
                rw [← e, Int.gcd_zero_right]
                omega
              rw [e2] at kn ky
              refine ⟨_, rfl, rfl, _, rfl, ?_⟩
              by_cases u1 : V.int u = V.int 1
              · refine iteD u1 ⟨_, rfl, N, _, rfl, .inl ⟨SqL.of eN, fun T nT => ?_⟩⟩
                exact ky (decide_eq_true u1) T _ (s1.trans (sm_upd nT)) upd_same
              · exact iteDn u1 (kn (decide_eq_false u1) _ s1)
          · rintro σ H' Q1 Q2 hQ ⟨v, h1, i, j, h2, h3, b, h4, h5⟩
            exact ⟨v, h1, i, j, h2, h3, b, h4, hQ _ _ h5⟩
    · have n3 : (!decide (V.int ((ws.map V.str).length : Int) = V.int 3)) = true := by
        rw [decide_eq_false (fun z => c3 (by have := V.int.inj z; omega))]
        rfl
      refine iteTs n3 (kn (rule_three ?_) H1 s1)
      unfold numsP
      rw [List.length_map]
      exact c3
/-! ### _law_record_in -/
def spCIn : Sp := fun vs H Q _ => ∃ (W : Addr) (ws : List Str), vs = [.ref W] ∧ H W = some (.lst (ws.map V.str)) ∧ ws.length ≤ 10001 ∧ WsOk 10000 ws ∧ (recIn ws = none → ∀ H', Same H H' → Q .non H') ∧
  (∀ b t n, recIn ws = some (b, t, n) → ∀ T H', Same H H' → H' T = some (.tup [.str (wd b), .int t, .int n]) → Q (.ref T) H')
abbrev s_l_record_in : Stmt := topS 26
abbrev N_l_record_in : List Str := ["_law_words", "_law_n", "_law_t"]
abbrev P_l_record_in : List Str := ["_law_words"]
theorem sc_l_record_in : FnScope N_l_record_in P_l_record_in (defScope s_l_record_in) := ⟨rfl, rfl, rfl, by decide +kernel, rfl, by decide +kernel, by decide +kernel⟩
theorem ok_l_record_in (D : Df K mg "_law_record_in" s_l_record_in P_l_record_in) (B : Bi mg) (c_l_integer : C8.Cal P w K mg base 1 "_law_integer" spReadI []) : C8.Cal P w K mg base 2 "_law_record_in" spCIn [] := by
  refine cal_of D sc_l_record_in (fun vs H Q E h => ?_) (fun f cdv A outer s H vs Q E hr h => ?_)
  · obtain ⟨W, ws, rfl, _⟩ := h
    rfl
  · obtain ⟨W, ws, rfl, eW, lw, ow, kn, ky⟩ := h
    refine ⟨_, (pss_cons (ps_if (PW.pt (pw_or (pt_cmpR op_ne (pe_callB (call_len_seq) (by rfl) B.len_ bt_len (pa_cons (pv 0) pa_nil)) pe_int (nomark _)) (pw_or (pt_cmpR op_ne (pe_ix (r := rIxL K) ix_list (pv 0) pe_int (fun _ _ => rfl)) pe_str (nomark _)) (pw_or (pt_cmpR op_notIn_seq (pe_ix (r := rIxL K) ix_list (pv 0) pe_int (fun _ _ => rfl)) (pe_tup (pa_cons pe_str (pa_cons pe_str pa_nil))) rfl) (pw_or1 (pt_cmpR op_ne (pe_ix (r := rIxL K) ix_list (pv 0) pe_int (fun _ _ => rfl)) pe_str (nomark _)))))))
      (pss_one (ps_ret pe_non))
      pss_nil)
    (pss_cons (ps_par (i := 1) (j := 2) rfl sc_l_record_in.nd rfl rfl (by decide) rfl rfl (pa_cons (C8.pe_c c_l_integer hr (by decide) (by rfl) (pa_cons (pe_ix (r := rIxL K) ix_list (pv 0) pe_int (fun _ _ => rfl)) pa_nil)) (pa_cons (C8.pe_c c_l_integer hr (by decide) (by rfl) (pa_cons (pe_ix (r := rIxL K) ix_list (pv 0) pe_int (fun _ _ => rfl)) pa_nil)) pa_nil)) rfl)
    (pss_one (ps_ret (pe_ifExp (PW.pt (pw_or (pt_cmpR op_isN (pv 1) pe_non (nomark _)) (pw_or1 (pt_cmpR op_isN (pv 2) pe_non (nomark _))))) pe_non (pe_tup (pa_cons (pe_op op_add_str pe_str (pe_ix (r := rIxL K) ix_list (pv 0) pe_int (fun _ _ => rfl))) (pa_cons (pv 2) (pa_cons (pv 1) pa_nil))))))))), ?_⟩
    have lmap : (ws.map V.str).length = ws.length := List.length_map _
    refine ⟨_, rfl, W, _, rfl, .inl (SqL.of eW), rfl, _, rfl, ?_⟩
    have lw2 : ∀ b : Bool, inV (V.str (w2 b)) [.str "least", .str "most"] = true := fun b => by cases b <;> decide +kernel
    by_cases c5 : ws.length = 5
    · match ws, c5 with
      | [w0, w1, w2', w3, w4], _ =>
        have at_ : ∀ (i : Nat) (u : Str), [w0, w1, w2', w3, w4][i]? = some u → ([w0, w1, w2', w3, w4].map V.str)[i]? = some (.str u) := fun i u h => by
          rw [List.getElem?_map, h]
          rfl
        have o1 := ow w1 (by simp)
        have o2 := ow w2' (by simp)
        have o4 := ow w4 (by simp)
        have no : ¬ (w0 = Str.ofString "at" ∧ (w1 = w2 true ∨ w1 = w2 false) ∧ w3 = Str.ofString "at") → recIn [w0, w1, w2', w3, w4] = none := fun h => by
          unfold recIn
          exact if_neg (fun q => h q.2)
        have yes : w0 = Str.ofString "at" → (w1 = w2 true ∨ w1 = w2 false) → w3 = Str.ofString "at" → recIn [w0, w1, w2', w3, w4] = (match readI (tl w2'), readI (tl w4) with
          | some n, some t => some (decide (w1 = w2 true), t, n)
          | _, _ => none) := fun h0 h1 h3 => by
          unfold recIn
          exact if_pos ⟨rfl, h0, h1, h3⟩
        refine iteFs rfl ⟨_, rfl, W, _, _, _, rfl, rfl, SqL.of eW, atI_nat (j := 0) (at_ 0 _ rfl), rfl, _, rfl, ?_⟩
        by_cases c0 : w0 = Str.ofString "at"
        · refine iteFs (by rw [decide_eq_true (show V.str w0 = V.str (Str.ofString "at") by rw [c0])]; rfl) ?_
          refine ⟨_, rfl, W, _, _, _, rfl, rfl, SqL.of eW, atI_nat (j := 1) (at_ 1 _ rfl), len10 (by simp), fun M nM => ?_⟩
          have zM := sm_upd (o := .tup [.str "least", .str "most"]) nM
          have eW2 := zM _ _ eW
          have eM := upd_same (H := H) (a := M) (o := .tup [.str "least", .str "most"])
          generalize upd H M (.tup [.str "least", .str "most"]) = H1 at zM eW2 eM ⊢
          refine ⟨M, _, rfl, .inr (SqT.of eM), rfl, rfl, _, rfl, ?_⟩
          rw [if_pos rfl]
          by_cases c1 : w1 = w2 true ∨ w1 = w2 false
          · have ci : inV (V.str w1) [.str "least", .str "most"] = true := by
              rcases c1 with h | h
              · rw [h]; exact lw2 true
              · rw [h]; exact lw2 false
            refine iteFs (by rw [ci]; rfl) ⟨_, rfl, W, _, _, _, rfl, rfl, SqL.of eW2, atI_nat (j := 3) (at_ 3 _ rfl), rfl, _, rfl, ?_⟩
            by_cases c3 : w3 = Str.ofString "at"
            · refine iteFs (by rw [decide_eq_true (show V.str w3 = V.str (Str.ofString "at") by rw [c3])]; rfl) ?_
              refine ⟨_, rfl, W, _, _, _, rfl, rfl, SqL.of eW2, atI_nat (j := 2) (at_ 2 _ rfl), w2', rfl, o2.1, fun H2 s2 => ?_⟩
              refine ⟨_, rfl, W, _, _, _, rfl, rfl, SqL.of (s2 _ _ eW2), atI_nat (j := 4) (at_ 4 _ rfl), w4, rfl, o4.1, fun H3 s3 => ⟨_, _, rfl, ?_⟩⟩
              have sz := zM.trans (s2.trans s3)
              have ey := yes c0 c1 c3
              have eW3 := s3 _ _ (s2 _ _ eW2)
              obtain ⟨b, hb⟩ : ∃ b, w1 = w2 b := c1.elim (fun h => ⟨true, h⟩) (fun h => ⟨false, h⟩)
              have db : decide (w1 = w2 true) = b := by
                rw [hb]
                cases b
                · exact decide_eq_false (fun z => w2_ne z.symm)
                · exact decide_eq_true rfl
              have ew : Str.ofString "at " ++ w1 = wd b := by
                rw [hb]
                exact ext_tl (by cases b <;> decide +kernel)
              cases e2 : readI (tl w2') with
              | none =>
                rw [e2] at ey
                exact ⟨_, rfl, rfl, _, rfl, iteD rfl (kn ey H3 sz)⟩
              | some n =>
                refine ⟨_, rfl, rfl, _, rfl, iteDn (fun z => by cases z) ⟨_, rfl, rfl, _, rfl, ?_⟩⟩
                cases e4 : readI (tl w4) with
                | none =>
                  rw [e2, e4] at ey
                  exact iteD rfl (kn ey H3 sz)
                | some t =>
                  rw [e2, e4, db] at ey
                  refine iteDn (fun z => by cases z) ⟨_, rfl, W, _, _, _, rfl, rfl, SqL.of eW3, atI_nat (j := 1) (at_ 1 _ rfl), _, _, rfl, rfl, ?_, _, rfl, _, rfl, len10 (by simp), fun T nT => ?_⟩
                  · have := o1.1
                    have e3 : (Str.ofString "at ").length = 3 := by decide +kernel
                    rw [e3, sizeLine_eq]
                    omega
                  · refine ky b t n ey T _ (sz.trans (sm_upd nT)) ?_
                    rw [upd_same, ew]
                    rfl
            · refine iteTs (by rw [decide_eq_false (fun z => c3 (V.str.inj z))]; rfl) (kn (no fun h => c3 h.2.2) _ zM)
          · have ci : inV (V.str w1) [.str "least", .str "most"] = false := by
              have n1 : (Str.ofString "least" == w1) = false := beq_eq_false_iff_ne.mpr fun z => c1 (.inl z.symm)
              have n2 : (Str.ofString "most" == w1) = false := beq_eq_false_iff_ne.mpr fun z => c1 (.inr z.symm)
              show ((Str.ofString "least" == w1) || ((Str.ofString "most" == w1) || false)) = false
              rw [n1, n2]
              rfl
            exact iteTs (by rw [ci]; rfl) (kn (no fun h => c1 h.2.1) _ zM)
        · refine iteTs (by rw [decide_eq_false (fun z => c0 (V.str.inj z))]; rfl) (kn (no fun h => c0 h.1) _ (Same.refl _))
    · have n5 : (!decide (V.int ((ws.map V.str).length : Int) = V.int 5)) = true := by
        rw [decide_eq_false (fun z => c5 (by have := V.int.inj z; omega))]
        rfl
      refine iteTs n5 (kn ?_ _ (Same.refl _))
      unfold recIn
      exact if_neg (fun h => c5 h.1)
end
end Lf
namespace Lf
open PySem PySem.Spec PyProof.Rows L2 TL
theorem num_bd31 {x : Int} (h : Bd 100 x) : (numL x.natAbs).length ≤ 31 := num_bd h (Nat.le_refl _)
theorem log_num {x : Int} {k : Nat} (hk : 0 < k) (hk2 : 10 ^ k ≤ 2 ^ 1920) (h : x.natAbs < 10 ^ k) : x.natAbs.log2 < 1920 := by
  by_cases z : x.natAbs = 0
  · rw [z]
    decide
  · exact (Nat.log2_lt z).mpr (Nat.lt_of_lt_of_le h hk2)
section
variable {P : Program} {w : World} {K : PySem.W.Frag} {mg : Str → Option Value} {base : Heap}
/-! ### _law_line -/
def spLine : Sp := fun vs H Q _ => ∃ (a : PA) (n : Nat), vs = [.ref a] ∧ Pen H a n ∧ n < 2 ^ 38 ∧ ∀ z H', Lin 200 z → Pen H' a (n + 10) → Fr H H' → Q (.str z) H'
abbrev s_l_line : Stmt := topS 29
abbrev N_l_line : List Str := ["_law_state", "_law_rule_here", "_law_bound"]
abbrev P_l_line : List Str := ["_law_state"]
theorem sc_l_line : FnScope N_l_line P_l_line (defScope s_l_line) := ⟨rfl, rfl, rfl, by decide +kernel, rfl, by decide +kernel, by decide +kernel⟩
theorem ok_l_line (D : Df K mg "_law_line" s_l_line P_l_line) (B : Bi mg) (c_l_draw : C8.Cal P w K mg base 1 "_law_draw" spDraw []) (c_l_rule : C8.Cal P w K mg base 2 "_law_rule" spRule01 []) : C8.Cal P w K mg base 3 "_law_line" spLine [] := by
  refine cal_of D sc_l_line (fun vs H Q E h => ?_) (fun f cdv A outer s H vs Q E hr h => ?_)
  · obtain ⟨a, n, rfl, _⟩ := h
    rfl
  · obtain ⟨a, n, rfl, hP, hn, kk⟩ := h
    have dB : ∀ x : Int, 0 < x → x < 2 ^ 36 → Bd 9000 x := fun x h0 h => Bd.small 40 (by omega) (by decide)
    refine ⟨_, (pss_cons (ps_set (i := 1) sc_l_line.nd rfl (Or.inl rfl) (C8.pe_c c_l_rule hr (by decide) (by rfl) (pa_cons (pv 0) pa_nil)))
    (pss_cons (ps_if (pt_cmpR op_eq (C8.pe_c c_l_draw hr (by decide) (by rfl) (pa_cons (pv 0) (pa_cons pe_int pa_nil))) pe_int (nomark _))
      (pss_one (ps_ret (pe_op op_add_str (pe_op op_add_str (pe_op op_add_str (pe_op op_add_str (pe_op op_add_str pe_str (pe_callTy (call_str_int) (by rfl) B.str_ bt_str (pa_cons (pe_ix (r := rIxT K) ix_tup (pv 1) pe_int (fun _ _ => rfl)) pa_nil))) pe_str) (pe_callTy (call_str_int) (by rfl) B.str_ bt_str (pa_cons (pe_ix (r := rIxT K) ix_tup (pv 1) pe_int (fun _ _ => rfl)) pa_nil))) pe_str) (pe_callTy (call_str_int) (by rfl) B.str_ bt_str (pa_cons (pe_ix (r := rIxT K) ix_tup (pv 1) pe_int (fun _ _ => rfl)) pa_nil)))))
      pss_nil)
    (pss_cons (ps_set (i := 2) sc_l_line.nd rfl (Or.inl rfl) (pe_ix (r := rIxL K) ix_list (pe_lst (pa_cons pe_str (pa_cons pe_str pa_nil))) (C8.pe_c c_l_draw hr (by decide) (by rfl) (pa_cons (pv 0) (pa_cons pe_int pa_nil))) (fun _ _ => rfl)))
    (pss_one (ps_ret (pe_op op_add_str (pe_op op_add_str (pe_op op_add_str (pv 2) (pe_callTy (call_str_int) (by rfl) B.str_ bt_str (pa_cons (pe_op op_sub (C8.pe_c c_l_draw hr (by decide) (by rfl) (pa_cons (pv 0) (pa_cons pe_int pa_nil))) pe_int) pa_nil))) pe_str) (pe_callTy (call_str_int) (by rfl) B.str_ bt_str (pa_cons (pe_op op_sub (C8.pe_c c_l_draw hr (by decide) (by rfl) (pa_cons (pv 0) (pa_cons (pe_op op_pow pe_int pe_int) pa_nil))) pe_int) pa_nil)))))))), ?_⟩
    have fitS : ∀ {n : Nat}, n ≤ 100000 → n ≤ sizeLine := fun h => by
      rw [sizeLine_eq]
      omega
    have c5 : (Str.ofString "rule ").length = 5 := by decide +kernel
    have c1 : (Str.ofString " ").length = 1 := by decide +kernel
    have c4 : (Str.ofString " at ").length = 4 := by decide +kernel
    refine ⟨_, rfl, a, _, rfl, hP, by omega, fun r H1 p q c R er hP1 f1 => ?_⟩
    refine ⟨_, rfl, a, _, _, rfl, hP1, by omega, by decide, dB _ (by decide) (by decide), fun d1 H2 d10 d11 hP2 f2 => ⟨rfl, _, rfl, ite2 (fun cc => ?_) (fun cc => ?_)⟩⟩
    · have er2 := f2.t _ _ er
      have lp := num_bd31 R.bp
      have lq := num_bd31 R.bq
      have lc := num_bd31 R.bc
      have g : ∀ {x : Int}, Bd 100 x → x.natAbs.log2 < 1920 := fun {x} h => by
        have h : x.natAbs < 2 ^ 100 := h
        exact log_num (k := 31) (by decide) (by decide +kernel) (Nat.lt_of_lt_of_le h (by decide +kernel))
      have n1 := Lin.num lp
      have n2 := Lin.num lq
      have n3 := Lin.num lc
      have m1 := n1.len
      have m2 := n2.len
      have m3 := n3.len
      refine ⟨_, rfl, r, _, _, _, rfl, rfl, SqT.of er2, atI_nat (j := 0) rfl, _, rfl, g R.bp, _, _, rfl, rfl, fitS (by rw [c5]; show 5 + (strS p).length ≤ _; omega), _, _, rfl, rfl, fitS (by rw [len_apN, c5, c1]; show 5 + (strS p).length + 1 ≤ _; omega), ?_⟩
      refine ⟨_, rfl, r, _, _, _, rfl, rfl, SqT.of er2, atI_nat (j := 1) rfl, _, rfl, g R.bq, _, _, rfl, rfl, fitS (by rw [len_apN, len_apN, c5, c1]; show 5 + (strS p).length + 1 + (strS q).length ≤ _; omega), _, _, rfl, rfl, fitS (by rw [len_apN, len_apN, len_apN, c5, c1]; show 5 + (strS p).length + 1 + (strS q).length + 1 ≤ _; omega), ?_⟩
      refine ⟨_, rfl, r, _, _, _, rfl, rfl, SqT.of er2, atI_nat (j := 2) rfl, _, rfl, g R.bc, _, _, rfl, rfl, fitS (by rw [len_apN, len_apN, len_apN, len_apN, c5, c1]; show 5 + (strS p).length + 1 + (strS q).length + 1 + (strS c).length ≤ _; omega), ?_⟩
      exact kk _ H2 ((((((Lin.of (n := 5) (by decide +kernel)).app n1).app (Lin.of (n := 1) (by decide +kernel))).app n2).app (Lin.of (n := 1) (by decide +kernel))).app n3 |>.mono (by decide)) (hP2.mono (by omega)) (f1.trans f2)
    · refine ⟨len10 (by simp), fun O nO => ?_⟩
      have eO := upd_same (H := H2) (a := O) (o := .lst [.str "at least ", .str "at most "])
      refine ⟨_, rfl, a, _, _, rfl, hP2.new nO, by omega, by decide, dB _ (by decide) (by decide), fun d3 H3 d30 d31 hP3 f3 => ?_⟩
      obtain ⟨y, hy, my⟩ := at_in (xs := [.str "at least ", .str "at most "]) d30 (by show d3 < 2; omega)
      refine ⟨O, _, _, _, rfl, rfl, SqL.of (f3.l _ _ eO), hy, ?_⟩
      have f13 := f1.trans (f2.trans ((Fr.new nO).trans f3))
      obtain ⟨b, rfl, hb⟩ : ∃ b : Str, y = .str b ∧ Lin 9 b := by
        simp only [List.mem_cons, List.not_mem_nil, or_false] at my
        rcases my with rfl | rfl
        · exact ⟨_, rfl, Lin.of (by decide +kernel)⟩
        · exact ⟨_, rfl, Lin.of (by decide +kernel)⟩
      have hbl := hb.len
      refine ⟨_, rfl, _, rfl, a, _, _, rfl, hP3, by omega, by decide, dB _ (by decide) (by decide), fun d4 H4 d40 d41 hP4 f4 => ⟨_, _, rfl, rfl, ?_⟩⟩
      have s1 : (d4 - 50).natAbs < 10 ^ 2 := by
        have d41 : d4 < 99 := d41
        omega
      have n1 := Lin.num (numL_len (k := 2) (by decide) s1)
      have m1 := n1.len
      refine ⟨_, rfl, log_num (k := 2) (by decide) (by decide +kernel) s1, _, _, rfl, rfl, fitS (by show b.length + (strS (d4 - 50)).length ≤ _; omega), _, _, rfl, rfl, fitS (by rw [len_apN, c4]; show b.length + (strS (d4 - 50)).length + 4 ≤ _; omega), ?_⟩
      refine ⟨_, rfl, _, _, rfl, rfl, ⟨by decide, by decide, by decide⟩, a, _, _, rfl, hP4, by omega, by decide, dB _ (by decide) (by decide), fun d5 H5 d50 d51 hP5 f5 => ⟨_, _, rfl, rfl, ?_⟩⟩
      have s2 : (d5 - 99).natAbs < 10 ^ 7 := by
        have d51 : d5 < 10 ^ 6 := d51
        omega
      have n2 := Lin.num (numL_len (k := 7) (by decide) s2)
      have m2 := n2.len
      refine ⟨_, rfl, log_num (k := 7) (by decide) (by decide +kernel) s2, _, _, rfl, rfl, fitS (by rw [len_apN, len_apN, c4]; show b.length + (strS (d4 - 50)).length + 4 + (strS (d5 - 99)).length ≤ _; omega), ?_⟩
      exact kk _ H5 (((hb.app n1).app (Lin.of (n := 4) (by decide +kernel))).app n2 |>.mono (by decide)) (hP5.mono (by omega)) (f13.trans (f4.trans f5))
end
end Lf
namespace Lf
open PySem PySem.Spec PyProof.Rows L2 TL
section
variable {P : Program} {w : World} {K : PySem.W.Frag} {mg : Str → Option Value} {base : Heap}
/-! ### _law_changed -/
def LinL (n : Nat) (zs : List Str) : Prop := ∀ z ∈ zs, Lin n z
theorem LinL.app {n : Nat} {a b : List Str} (ha : LinL n a) (hb : LinL n b) : LinL n (a ++ b) := fun z hz => (List.mem_append.mp hz).elim (ha z) (hb z)
theorem sum_take_le (l : List Str) (k : Nat) : ((l.take k).map (·.length)).sum ≤ (l.map (·.length)).sum := by
  have := sum_drop (l := l.map (·.length)) k
  rw [List.map_take]
  omega
theorem sum_drop_le (l : List Str) (k : Nat) : ((l.drop k).map (·.length)).sum ≤ (l.map (·.length)).sum := by
  have := sum_drop (l := l.map (·.length)) k
  rw [List.map_drop]
  omega
/-- a list made in the body: not at an address of what stood before -/
structure Ap (H : Hp) (a : PA) (O : Addr) : Prop where
  f : ∀ b o, H b = some o → (∀ x : Addr × Int × Int, o ≠ .dK (penD x.1 x.2.1 x.2.2)) → b ≠ O
  l : a.l ≠ O
theorem Ap.of {H H' : Hp} {a : PA} {O : Addr} {n : Nat} (f : Fr H H') (p : Pen H' a n) (h : H' O = none) : Ap H a O := by
  obtain ⟨cs, t, r, h1, h2, h3⟩ := p.ex
  exact ⟨fun b o e z => ne_of_none (f.k _ _ e z) h, ne_of_none h2 h⟩
theorem Ap.fr {H H' : Hp} {a : PA} {O : Addr} {o : HO} (A : Ap H a O) (f : Fr H H') : Fr H (upd H' O o) :=
  ⟨fun b o e n => by rw [upd_ne (A.f _ _ e n)]; exact f.k _ _ e n⟩
theorem Ap.pen {H H' : Hp} {a : PA} {O : Addr} {o : HO} {n : Nat} {xs : List V} (A : Ap H a O) (p : Pen H' a n) (e : H' O = some (.lst xs)) : Pen (upd H' O o) a n := by
  obtain ⟨cs, t, r, h1, h2, h3⟩ := p.ex
  exact ⟨cs, t, r, by rw [upd_ne (ne_of h1 e (by intro z; cases z))]; exact h1, by rw [upd_ne A.l]; exact h2, h3⟩
def spChgd : Sp := fun vs H Q _ => ∃ (a : PA) (n : Nat) (z : Str), vs = [.ref a, .str z] ∧ Pen H a n ∧ n < 2 ^ 38 ∧ Lin 200 z ∧ ∀ y H', Lin 6000 y → Pen H' a (n + 10) → Fr H H' → Q (.str y) H'
abbrev s_l_changed : Stmt := topS 27
abbrev N_l_changed : List Str := ["_law_state", "_law_line_here", "_law_words", "_law_at", "_law_spot", "_law_signs", "_law_sign", "_law_some", "_law_word"]
abbrev P_l_changed : List Str := ["_law_state", "_law_line_here"]
theorem sc_l_changed : FnScope N_l_changed P_l_changed (defScope s_l_changed) := ⟨rfl, rfl, rfl, by decide +kernel, rfl, by decide +kernel, by decide +kernel⟩
theorem ok_l_changed (D : Df K mg "_law_changed" s_l_changed P_l_changed) (B : Bi mg) (c_l_draw : C8.Cal P w K mg base 1 "_law_draw" spDraw []) : C8.Cal P w K mg base 2 "_law_changed" spChgd [] := by
  refine cal_of D sc_l_changed (fun vs H Q E h => ?_) (fun f cdv A outer s H vs Q E hr h => ?_)
  · obtain ⟨a, n, z, rfl, _⟩ := h
    rfl
  · obtain ⟨a, n, z, rfl, hP, hn, hz, kk⟩ := h
    have dB : ∀ x : Int, 0 < x → x < 2 ^ 36 → Bd 9000 x := fun x h0 h => Bd.small 40 (by omega) (by decide)
    refine ⟨_, (pss_cons (ps_par (i := 2) (j := 3) rfl sc_l_changed.nd rfl rfl (by decide) rfl rfl (pa_cons (pe_bm PySem.F.plainAttrs_str PySem.F.slot_str_split PySem.F.type_str_split mt_split (pv 1) (pa_cons pe_str pa_nil)) (pa_cons (C8.pe_c c_l_draw hr (by decide) (by rfl) (pa_cons (pv 0) (pa_cons (pe_op op_add (pe_callB (call_len_str) (by rfl) B.len_ bt_len (pa_cons (pv 1) pa_nil)) pe_int) pa_nil))) pa_nil)) rfl)
    (pss_cons (ps_par (i := 4) (j := 5) rfl sc_l_changed.nd rfl rfl (by decide) rfl rfl (pa_cons (C8.pe_c c_l_draw hr (by decide) (by rfl) (pa_cons (pv 0) (pa_cons (pe_callB (call_len_seq) (by rfl) B.len_ bt_len (pa_cons (pv 2) pa_nil)) pa_nil))) (pa_cons pe_str pa_nil)) rfl)
    (pss_cons (ps_set (i := 6) sc_l_changed.nd rfl (Or.inl rfl) (pe_ix ix_str (pv 5) (C8.pe_c c_l_draw hr (by decide) (by rfl) (pa_cons (pv 0) (pa_cons (pe_callB (call_len_str) (by rfl) B.len_ bt_len (pa_cons (pv 5) pa_nil)) pa_nil))) (fun _ _ => rfl)))
    (C8.pss_cut (ps_set (i := 7) sc_l_changed.nd rfl (Or.inl rfl) (pe_lst (pa_cons (pe_op op_add_str (pe_op op_add_str (pe_slice sl_str (pv 1) po_none (po_some (pv 3))) (pv 6)) (pe_slice sl_str (pv 1) (po_some (pv 3)) po_none)) (pa_cons (pe_op op_add_str (pe_slice sl_str (pv 1) po_none (po_some (pv 3))) (pe_slice sl_str (pv 1) (po_some (pe_op op_add (pv 3) pe_int)) po_none)) (pa_cons (pe_op op_add_str (pe_op op_add_str (pe_slice sl_str (pv 1) po_none (po_some (pv 3))) (pv 6)) (pe_slice sl_str (pv 1) (po_some (pe_op op_add (pv 3) pe_int)) po_none)) pa_nil)))))
    (C8.pss_cut (ps_set (i := 7) sc_l_changed.nd rfl (Or.inl rfl) (pe_op op_cat (pv 7) (pe_lst (pa_cons (pe_op op_add_str (pv 1) pe_str) (pa_cons (pe_op op_add_str pe_str (pv 1)) (pa_cons pe_str (pa_cons (pe_bm PySem.F.plainAttrs_str PySem.F.slot_str_join PySem.F.type_str_join mt_join pe_str (pa_cons (pe_op op_cat (pe_slice sl_list (pv 2) po_none (po_some (pv 4))) (pe_slice sl_list (pv 2) (po_some (pe_op op_add (pv 4) pe_int)) po_none)) pa_nil)) (pa_cons (pe_op op_add_str (pv 1) pe_str) (pa_cons (pe_bm0 PySem.F.plainAttrs_str PySem.F.slot_str_upper PySem.F.type_str_upper mt_upper (pv 1)) pa_nil)))))))))
    (C8.pss_cut (ps_set (i := 7) sc_l_changed.nd rfl (Or.inl rfl) (pe_op op_cat (pv 7) (pe_lst (pa_cons (pe_bm PySem.F.plainAttrs_str PySem.F.slot_str_join PySem.F.type_str_join mt_join pe_str (pa_cons (pe_op op_cat (pe_slice sl_list (pv 2) po_none (po_some (pe_op op_add (pv 4) pe_int))) (pe_slice sl_list (pv 2) (po_some (pv 4)) po_none)) pa_nil)) (pa_cons (pe_ix (r := rIxL K) ix_list (pv 2) pe_int (fun _ _ => rfl)) (pa_cons (pe_op op_add_str pe_str (pv 1)) (pa_cons (pe_op op_add_str pe_str (pv 1)) (pa_cons (pe_op op_add_str (pv 1) pe_str) pa_nil))))))))
    (C8.pss_cut (ps_set (i := 8) sc_l_changed.nd rfl (Or.inl rfl) (pe_ix (r := rIxL K) ix_list (pe_lst (pa_cons pe_str (pa_cons pe_str (pa_cons pe_str (pa_cons pe_str (pa_cons (pe_op op_mulS pe_str pe_int) (pa_cons (pe_op op_add_str pe_str (pe_op op_mulS pe_str pe_int)) (pa_cons (pe_op op_mulS pe_str pe_int) (pa_cons (pe_op op_mulS pe_str pe_int) pa_nil))))))))) (C8.pe_c c_l_draw hr (by decide) (by rfl) (pa_cons (pv 0) (pa_cons pe_int pa_nil))) (fun _ _ => rfl)))
    (pss_cons (ps_expr (pe_bm PySem.F.plainAttrs_list PySem.F.slot_list_append PySem.F.type_list_append mt_append (pv 7) (pa_cons (pe_bm PySem.F.plainAttrs_str PySem.F.slot_str_join PySem.F.type_str_join mt_join pe_str (pa_cons (pe_op op_cat (pe_op op_cat (pe_slice sl_list (pv 2) po_none (po_some (pv 4))) (pe_lst (pa_cons (pv 8) pa_nil))) (pe_slice sl_list (pv 2) (po_some (pe_op op_add (pv 4) pe_int)) po_none)) pa_nil)) pa_nil)))
    (pss_one (ps_ret (pe_ix (r := rIxL K) ix_list (pv 7) (C8.pe_c c_l_draw hr (by decide) (by rfl) (pa_cons (pv 0) (pa_cons pe_int pa_nil))) (fun _ _ => rfl)))))))))))), ?_⟩
    have fitS : ∀ {n : Nat}, n ≤ 100000 → n ≤ sizeLine := fun h => by
      rw [sizeLine_eq]
      omega
    have zl := hz.len
    have w1 := splS_ne z
    have w2' := splS_num z
    have w3 := splS_sum z
    have w4 : LinL 200 (splS z) := fun w hw => splS_lin hz hw
    refine ⟨_, rfl, rfl, z, _, rfl, rfl, by decide +kernel, by rw [sizeLine_eq]; omega, fun W nW => ?_⟩
    have zW := sm_upd (o := .lst ((splS z).map V.str)) nW
    have eW := upd_same (H := H) (a := W) (o := .lst ((splS z).map V.str))
    have hP0 := hP.same zW
    obtain ⟨ws, hws⟩ : ∃ ws, splS z = ws := ⟨_, rfl⟩
    have eq : Txt.split z (Str.ofString " ") = ws := hws
    rw [eq]
    rw [hws] at w1 w2' w3 w4 zW eW hP0
    have fW := Fr.same zW
    generalize upd H W (.lst (ws.map V.str)) = H0 at eW hP0 fW ⊢
    have lmap : (ws.map V.str).length = ws.length := List.length_map _
    have w1 : 1 ≤ ws.length := by
      cases ws with
      | nil => exact absurd rfl w1
      | cons x r => exact Nat.succ_le_succ (Nat.zero_le _)
    refine ⟨_, rfl, _, rfl, z, rfl, fitS (by omega), _, _, rfl, rfl, a, _, _, rfl, hP0, by omega, by omega, Bd.small 20 (by omega) (by decide), fun at_ H1 at0 at1 hP1 f1 => ⟨_, _, rfl, ?_⟩⟩
    refine ⟨_, rfl, _, rfl, W, _, rfl, .inl (SqL.of (f1.l _ _ eW)), a, _, _, rfl, hP1, by omega, by omega, Bd.small 20 (by omega) (by decide), fun sp H2 sp0 sp1 hP2 f2 => ⟨_, _, rfl, ?_⟩⟩
    have lsg : Lin 32 (Str.ofString "0123456789 abtmostleasrpuiT-+_.\t") := Lin.of (by decide +kernel)
    have lsl : (Str.ofString "0123456789 abtmostleasrpuiT-+_.\t").length = 32 := by decide +kernel
    generalize Str.ofString "0123456789 abtmostleasrpuiT-+_.\t" = sg at lsg lsl ⊢
    refine ⟨_, rfl, _, rfl, _, rfl, sg, rfl, fitS (by omega), a, _, _, rfl, hP2, by omega, by omega, Bd.small 20 (by omega) (by decide), fun ds H3 ds0 ds1 hP3 f3 => ?_⟩
    obtain ⟨j, rfl⟩ := Int.eq_ofNat_of_zero_le ds0
    have hj : j < sg.cps.toList.length := by
      have : sg.cps.toList.length = sg.length := by
        rw [Array.length_toList]
        rfl
      omega
    obtain ⟨c, hc⟩ : ∃ c, sg.cps.toList[j]? = some c := ⟨_, List.getElem?_eq_getElem hj⟩
    have lc : Lin 1 ⟨#[c]⟩ := ⟨Nat.le_refl _, fun x hx => by
      have hx : x ∈ [c] := hx
      rw [List.mem_singleton.mp hx]
      exact lsg.asc c (List.mem_of_getElem? hc)⟩
    refine ⟨sg, _, c, rfl, rfl, fitS (by omega), atI_nat hc, ?_⟩
    have f03 := fW.trans (f1.trans (f2.trans f3))
    have eW3 := (f1.trans (f2.trans f3)).l _ _ eW
    have lcl : (⟨#[c]⟩ : Str).length = 1 := rfl
    have cl : ∀ lo hi, (cutS z lo hi).length ≤ 200 := fun lo hi => Nat.le_trans (cutS_length z lo hi) zl
    clear f1 f2 f3 eW hP0 hP1 hP2 fW hc hj ds1
    obtain ⟨k, rfl⟩ := Int.eq_ofNat_of_zero_le sp0
    have hk : k < ws.length := by omega
    have sl1 : (Str.ofString " ").length = 1 := by decide +kernel
    -- three lines
    refine ⟨fun σ' H' => ∃ (O : Addr) (zs : List Str), σ' = [some (.ref a), some (.str z), some (.ref W), some (.int at_), some (.int (k : Int)), some (.str sg), some (.str ⟨#[c]⟩), some (.ref O), none] ∧ H' O = some (.lst (zs.map V.str)) ∧ zs.length = 3 ∧ LinL 6000 zs ∧ H' W = some (.lst (ws.map V.str)) ∧ Pen H' a (n + 3) ∧ Fr H H', ?_, ?_⟩
    · refine ⟨_, rfl, _, rfl, at_, rfl, z, rfl, fitS (by omega), _, rfl, _, _, rfl, rfl, fitS (by have := cl none (some at_); omega), _, rfl, _, rfl, at_, rfl, z, rfl, fitS (by omega), _, _, rfl, rfl, fitS (by rw [len_apN]; have := cl none (some at_); have := cl (some at_) none; omega), ?_⟩
      refine ⟨_, rfl, _, rfl, at_, rfl, z, rfl, fitS (by omega), _, rfl, _, rfl, _, _, rfl, rfl, _, rfl, z, rfl, fitS (by omega), _, _, rfl, rfl, fitS (by have := cl none (some at_); have := cl (some (at_ + 1)) none; show (cutS z none (some at_)).length + (cutS z (some (at_ + 1)) none).length ≤ _; omega), ?_⟩
      refine ⟨_, rfl, _, rfl, at_, rfl, z, rfl, fitS (by omega), _, rfl, _, _, rfl, rfl, fitS (by have := cl none (some at_); omega), _, rfl, _, rfl, _, _, rfl, rfl, _, rfl, z, rfl, fitS (by omega), _, _, rfl, rfl, fitS (by rw [len_apN]; have := cl none (some at_); have := cl (some (at_ + 1)) none; show (cutS z none (some at_)).length + (⟨#[c]⟩ : Str).length + (cutS z (some (at_ + 1)) none).length ≤ _; omega), len10 (by simp), fun O nO => ?_⟩
      have zO := sm_upd (o := .lst ([cutS z none (some at_) ++ ⟨#[c]⟩ ++ cutS z (some at_) none, cutS z none (some at_) ++ cutS z (some (at_ + 1)) none, cutS z none (some at_) ++ ⟨#[c]⟩ ++ cutS z (some (at_ + 1)) none].map V.str)) nO
      refine ⟨O, [cutS z none (some at_) ++ ⟨#[c]⟩ ++ cutS z (some at_) none, cutS z none (some at_) ++ cutS z (some (at_ + 1)) none, cutS z none (some at_) ++ ⟨#[c]⟩ ++ cutS z (some (at_ + 1)) none], rfl, upd_same, rfl, fun y hy => ?_, zO _ _ eW3, hP3.same zO, f03.trans (Fr.same zO)⟩
      simp only [List.mem_cons, List.not_mem_nil, or_false] at hy
      rcases hy with rfl | rfl | rfl
      · exact (((hz.cut _ _).app lc).app (hz.cut _ _)).mono (by decide)
      · exact ((hz.cut _ _).app (hz.cut _ _)).mono (by decide)
      · exact (((hz.cut _ _).app lc).app (hz.cut _ _)).mono (by decide)
    clear hP3 eW3 f03
    rintro σ' H4 ⟨O, zs, rfl, eO, l3, lz, eW4, hP4, f4⟩
    -- the words cut at the spot
    have cutT : ∀ j : Nat, cutV (ws.map V.str) none (some (j : Int)) = (ws.take j).map V.str := fun j => by rw [cutV_take, List.map_take]
    have cutD : ∀ j : Nat, cutV (ws.map V.str) (some (j : Int)) none = (ws.drop j).map V.str := fun j => by rw [cutV_drop, List.map_drop]
    have lt1 : ∀ j : Nat, (ws.take j).length ≤ 201 := fun j => by
      rw [List.length_take]
      omega
    have ld1 : ∀ j : Nat, (ws.drop j).length ≤ 201 := fun j => by
      rw [List.length_drop]
      omega
    have linT : ∀ j : Nat, LinL 200 (ws.take j) := fun j x hx => w4 x (List.mem_of_mem_take hx)
    have linD : ∀ j : Nat, LinL 200 (ws.drop j) := fun j x hx => w4 x (List.mem_of_mem_drop hx)
    have sumT := fun j => sum_take_le ws j
    have sumD := fun j => sum_drop_le ws j
    refine ⟨fun σ' H' => ∃ (O : Addr) (zs : List Str), σ' = [some (.ref a), some (.str z), some (.ref W), some (.int at_), some (.int (k : Int)), some (.str sg), some (.str ⟨#[c]⟩), some (.ref O), none] ∧ H' O = some (.lst (zs.map V.str)) ∧ zs.length = 9 ∧ LinL 6000 zs ∧ H' W = some (.lst (ws.map V.str)) ∧ Pen H' a (n + 3) ∧ Fr H H', ?_, ?_⟩
    · refine ⟨_, rfl, _, rfl, _, _, rfl, rfl, fitS (by omega), _, rfl, _, _, rfl, rfl, fitS (by omega), ?_⟩
      refine ⟨rfl, _, rfl, _, rfl, (k : Int), rfl, W, _, rfl, SqL.of eW4, fun S1 nS1 => ?_⟩
      rw [cutT k]
      have z1 := sm_upd (o := .lst ((ws.take k).map V.str)) nS1
      refine ⟨_, rfl, _, rfl, _, _, rfl, rfl, _, rfl, W, _, rfl, SqL.of (z1 _ _ eW4), fun S2 nS2 => ?_⟩
      rw [show cutV (ws.map V.str) (some ((k : Int) + 1)) none = (ws.drop (k + 1)).map V.str from cutD (k + 1)]
      have z2 := sm_upd (o := .lst ((ws.drop (k + 1)).map V.str)) nS2
      refine ⟨S1, S2, _, _, rfl, rfl, z2 _ _ upd_same, upd_same, fitS (by rw [List.length_map, List.length_map]; have := lt1 k; have := ld1 (k + 1); omega), fun S3 nS3 => ?_⟩
      have z3 := sm_upd (o := .lst ((ws.take k).map V.str ++ (ws.drop (k + 1)).map V.str)) nS3
      have z123 := z1.trans (z2.trans z3)
      have sj : ((ws.take k ++ ws.drop (k + 1)).map (·.length)).sum ≤ 400 := by
        rw [List.map_append, List.sum_append]
        have := sumT k
        have := sumD (k + 1)
        omega
      have lj : (ws.take k ++ ws.drop (k + 1)).length ≤ 402 := by
        rw [List.length_append]
        have := lt1 k
        have := ld1 (k + 1)
        omega
      refine ⟨_, S3, ws.take k ++ ws.drop (k + 1), rfl, rfl, .inl (SqL.of (by rw [upd_same, List.map_append])), by rw [sl1]; omega, ?_⟩
      have ljn := (Lin.join ((linT k).app (linD (k + 1))) sj).mono (m := 802) (by omega)
      generalize Txt.join (Str.ofString " ") (ws.take k ++ ws.drop (k + 1)) = j1 at ljn ⊢
      have eO3 := z123 _ _ eO
      have eW5 := z123 _ _ eW4
      have hP5 := hP4.same z123
      have f5 := f4.trans (Fr.same z123)
      generalize upd (upd (upd H4 S1 (.lst ((ws.take k).map V.str))) S2 (.lst ((ws.drop (k + 1)).map V.str))) S3 (.lst ((ws.take k).map V.str ++ (ws.drop (k + 1)).map V.str)) = H5 at eO3 eW5 hP5 f5 ⊢
      have s1l : (Str.ofString " 1").length = 2 := by decide +kernel
      refine ⟨_, rfl, _, _, rfl, rfl, fitS (by omega), _, rfl, rfl, z, rfl, rfl, by omega, len10 (by simp), fun O2 nO2 => ?_⟩
      have zO2 := sm_upd (o := .lst ([z ++ Str.ofString " ", Str.ofString " " ++ z, Str.ofString "", j1, z ++ Str.ofString " 1", Txt.upper z].map V.str)) nO2
      refine ⟨O, O2, zs.map V.str, _, rfl, rfl, zO2 _ _ eO3, upd_same, fitS (by rw [List.length_map, l3]; show 3 + 6 ≤ _; decide), fun O3 nO3 => ?_⟩
      have zO3 := sm_upd (o := .lst (zs.map V.str ++ [z ++ Str.ofString " ", Str.ofString " " ++ z, Str.ofString "", j1, z ++ Str.ofString " 1", Txt.upper z].map V.str)) nO3
      have zz := zO2.trans zO3
      refine ⟨O3, zs ++ [z ++ Str.ofString " ", Str.ofString " " ++ z, Str.ofString "", j1, z ++ Str.ofString " 1", Txt.upper z], rfl, by rw [List.map_append]; exact upd_same, by rw [List.length_append, l3]; rfl, lz.app fun y hy => ?_, zz _ _ eW5, hP5.same zz, f5.trans (Fr.same zz)⟩
      simp only [List.mem_cons, List.not_mem_nil, or_false] at hy
      have c1 : Lin 1 (Str.ofString " ") := Lin.of (by decide +kernel)
      rcases hy with rfl | rfl | rfl | rfl | rfl | rfl
      · exact (hz.app c1).mono (by decide)
      · exact (c1.app hz).mono (by decide)
      · exact Lin.of (by decide +kernel)
      · exact ljn.mono (by decide)
      · exact (hz.app (Lin.of (n := 2) (by decide +kernel))).mono (by decide)
      · exact hz.up.mono (by decide)
    clear hP4 eW4 f4 eO l3 lz
    rintro σ' H5 ⟨O, zs, rfl, eO, l9, lz, eW5, hP5, f5⟩
    refine ⟨fun σ' H' => ∃ (O : Addr) (zs : List Str), σ' = [some (.ref a), some (.str z), some (.ref W), some (.int at_), some (.int (k : Int)), some (.str sg), some (.str ⟨#[c]⟩), some (.ref O), none] ∧ H' O = some (.lst (zs.map V.str)) ∧ zs.length = 14 ∧ LinL 6000 zs ∧ Ap H a O ∧ H' W = some (.lst (ws.map V.str)) ∧ Pen H' a (n + 3) ∧ Fr H H', ?_, ?_⟩
    · refine ⟨_, rfl, rfl, _, rfl, _, rfl, _, _, rfl, rfl, _, rfl, W, _, rfl, SqL.of eW5, fun S1 nS1 => ?_⟩
      rw [show cutV (ws.map V.str) none (some ((k : Int) + 1)) = (ws.take (k + 1)).map V.str from cutT (k + 1)]
      have z1 := sm_upd (o := .lst ((ws.take (k + 1)).map V.str)) nS1
      refine ⟨_, rfl, _, rfl, (k : Int), rfl, W, _, rfl, SqL.of (z1 _ _ eW5), fun S2 nS2 => ?_⟩
      rw [cutD k]
      have z2 := sm_upd (o := .lst ((ws.drop k).map V.str)) nS2
      refine ⟨S1, S2, _, _, rfl, rfl, z2 _ _ upd_same, upd_same, fitS (by rw [List.length_map, List.length_map]; have := lt1 (k + 1); have := ld1 k; omega), fun S3 nS3 => ?_⟩
      have z3 := sm_upd (o := .lst ((ws.take (k + 1)).map V.str ++ (ws.drop k).map V.str)) nS3
      have z123 := z1.trans (z2.trans z3)
      have sj : ((ws.take (k + 1) ++ ws.drop k).map (·.length)).sum ≤ 400 := by
        rw [List.map_append, List.sum_append]
        have := sumT (k + 1)
        have := sumD k
        omega
      have lj : (ws.take (k + 1) ++ ws.drop k).length ≤ 402 := by
        rw [List.length_append]
        have := lt1 (k + 1)
        have := ld1 k
        omega
      refine ⟨_, S3, ws.take (k + 1) ++ ws.drop k, rfl, rfl, .inl (SqL.of (by rw [upd_same, List.map_append])), by rw [sl1]; omega, ?_⟩
      have ljn := (Lin.join ((linT (k + 1)).app (linD k)) sj).mono (m := 802) (by omega)
      generalize Txt.join (Str.ofString " ") (ws.take (k + 1) ++ ws.drop k) = j1 at ljn ⊢
      have eO3 := z123 _ _ eO
      have eW6 := z123 _ _ eW5
      have hP6 := hP5.same z123
      have f6 := f5.trans (Fr.same z123)
      generalize upd (upd (upd H5 S1 (.lst ((ws.take (k + 1)).map V.str))) S2 (.lst ((ws.drop k).map V.str))) S3 (.lst ((ws.take (k + 1)).map V.str ++ (ws.drop k).map V.str)) = H6 at eO3 eW6 hP6 f6 ⊢
      obtain ⟨w0, hw0⟩ : ∃ w0, ws[0]? = some w0 := ⟨_, List.getElem?_eq_getElem (show 0 < ws.length by omega)⟩
      have d1 : (Str.ofString "0").length = 1 := by decide +kernel
      have d2 : (Str.ofString "-").length = 1 := by decide +kernel
      have d3 : (Str.ofString "\n").length = 1 := by decide +kernel
      refine ⟨_, rfl, W, _, _, _, rfl, rfl, SqL.of eW6, atI_nat (j := 0) (by rw [List.getElem?_map, hw0]; rfl), _, rfl, _, _, rfl, rfl, fitS (by omega), _, rfl, _, _, rfl, rfl, fitS (by omega), _, rfl, _, _, rfl, rfl, fitS (by omega), len10 (by simp), fun O2 nO2 => ?_⟩
      have zO2 := sm_upd (o := .lst ([j1, w0, Str.ofString "0" ++ z, Str.ofString "-" ++ z, z ++ Str.ofString "\n"].map V.str)) nO2
      refine ⟨O, O2, zs.map V.str, _, rfl, rfl, zO2 _ _ eO3, upd_same, fitS (by rw [List.length_map, l9]; show 9 + 5 ≤ _; decide), fun O3 nO3 => ?_⟩
      have zO3 := sm_upd (o := .lst (zs.map V.str ++ [j1, w0, Str.ofString "0" ++ z, Str.ofString "-" ++ z, z ++ Str.ofString "\n"].map V.str)) nO3
      have zz := zO2.trans zO3
      refine ⟨O3, zs ++ [j1, w0, Str.ofString "0" ++ z, Str.ofString "-" ++ z, z ++ Str.ofString "\n"], rfl, by rw [List.map_append]; exact upd_same, by rw [List.length_append, l9]; rfl, lz.app fun y hy => ?_, Ap.of (f6.trans (Fr.same zO2)) (hP6.same zO2) nO3, zz _ _ eW6, hP6.same zz, f6.trans (Fr.same zz)⟩
      simp only [List.mem_cons, List.not_mem_nil, or_false] at hy
      rcases hy with rfl | rfl | rfl | rfl | rfl
      · exact ljn.mono (by decide)
      · exact (w4 _ (List.mem_of_getElem? hw0)).mono (by decide)
      · exact ((Lin.of (n := 1) (by decide +kernel)).app hz).mono (by decide)
      · exact ((Lin.of (n := 1) (by decide +kernel)).app hz).mono (by decide)
      · exact (hz.app (Lin.of (n := 1) (by decide +kernel))).mono (by decide)
    clear hP5 eW5 f5 eO l9 lz
    rintro σ' H6 ⟨O, zs, rfl, eO, l14, lz, AO, eW6, hP6, f6⟩
    -- a word
    refine ⟨fun σ' H' => ∃ wd' : Str, σ' = [some (.ref a), some (.str z), some (.ref W), some (.int at_), some (.int (k : Int)), some (.str sg), some (.str ⟨#[c]⟩), some (.ref O), some (.str wd')] ∧ Lin 5000 wd' ∧ H' O = some (.lst (zs.map V.str)) ∧ H' W = some (.lst (ws.map V.str)) ∧ Pen H' a (n + 4) ∧ Fr H H', ?_, ?_⟩
    · have l9 : (Str.ofString "9").length ≤ 1 := by decide +kernel
      have d2 : (Str.ofString "-").length = 1 := by decide +kernel
      have n2 := Lin.nines (i := 200) (by decide) (n := 200) (by decide)
      have n3 := Lin.nines (i := 201) (by decide) (n := 201) (by decide)
      have n4 := Lin.nines (i := 5000) (by decide) (n := 5000) (by decide)
      have m2 := n2.len
      refine ⟨_, _, rfl, rfl, l9, by decide, by decide, ?_⟩
      refine ⟨_, _, rfl, rfl, l9, by decide, by decide, _, _, rfl, rfl, fitS (by omega), ?_⟩
      refine ⟨_, _, rfl, rfl, l9, by decide, by decide, ?_⟩
      refine ⟨_, _, rfl, rfl, l9, by decide, by decide, len10 (by simp), fun O2 nO2 => ?_⟩
      generalize Txt.mul (Str.ofString "9") 200 = x2 at n2 m2 ⊢
      generalize Txt.mul (Str.ofString "9") 201 = x3 at n3 ⊢
      generalize Txt.mul (Str.ofString "9") 5000 = x4 at n4 ⊢
      have zO2 := sm_upd (o := .lst [.str "1", .str "0", .str "-0", .str "+7", .str x2, .str (Str.ofString "-" ++ x2), .str x3, .str x4]) nO2
      have eO2 := upd_same (H := H6) (a := O2) (o := .lst [.str "1", .str "0", .str "-0", .str "+7", .str x2, .str (Str.ofString "-" ++ x2), .str x3, .str x4])
      refine ⟨_, rfl, a, _, _, rfl, hP6.same zO2, by omega, by decide, dB _ (by decide) (by decide), fun d H7 d0 d1 hP7 f7 => ?_⟩
      obtain ⟨y, hy, my⟩ := at_in (xs := [.str "1", .str "0", .str "-0", .str "+7", .str x2, .str (Str.ofString "-" ++ x2), .str x3, .str x4]) d0 (by show d < 8; omega)
      refine ⟨O2, _, _, _, rfl, rfl, SqL.of (f7.l _ _ eO2), hy, ?_⟩
      have fz := (Fr.same zO2).trans f7
      have e1 := fz.l _ _ eO
      have e2 := fz.l _ _ eW6
      have f8 := f6.trans fz
      simp only [List.mem_cons, List.not_mem_nil, or_false] at my
      rcases my with rfl | rfl | rfl | rfl | rfl | rfl | rfl | rfl
      · exact ⟨_, rfl, Lin.of (by decide +kernel), e1, e2, hP7, f8⟩
      · exact ⟨_, rfl, Lin.of (by decide +kernel), e1, e2, hP7, f8⟩
      · exact ⟨_, rfl, Lin.of (by decide +kernel), e1, e2, hP7, f8⟩
      · exact ⟨_, rfl, Lin.of (by decide +kernel), e1, e2, hP7, f8⟩
      · exact ⟨_, rfl, n2.mono (by decide), e1, e2, hP7, f8⟩
      · exact ⟨_, rfl, ((Lin.of (n := 1) (by decide +kernel)).app n2).mono (by decide), e1, e2, hP7, f8⟩
      · exact ⟨_, rfl, n3.mono (by decide), e1, e2, hP7, f8⟩
      · exact ⟨_, rfl, n4.mono (by decide), e1, e2, hP7, f8⟩
    clear hP6 eW6 f6 eO
    rintro σ' H7 ⟨wd', rfl, lw, eO, eW7, hP7, f7⟩
    refine ⟨_, rfl, .inl ⟨rfl, _, SqL.of eO⟩, rfl, _, rfl, _, rfl, (k : Int), rfl, W, _, rfl, SqL.of eW7, fun S1 nS1 => ?_⟩
    rw [cutT k]
    have z1 := sm_upd (o := .lst ((ws.take k).map V.str)) nS1
    refine ⟨_, rfl, len10 (by simp), fun S2 nS2 => ?_⟩
    have z2 := sm_upd (o := .lst ([V.str wd'])) nS2
    refine ⟨S1, S2, _, _, rfl, rfl, z2 _ _ upd_same, upd_same, fitS (by rw [List.length_map]; have := lt1 k; show _ + 1 ≤ _; omega), fun S3 nS3 => ?_⟩
    have z3 := sm_upd (o := .lst ((ws.take k).map V.str ++ [V.str wd'])) nS3
    refine ⟨_, rfl, _, rfl, _, _, rfl, rfl, _, rfl, W, _, rfl, SqL.of (z3 _ _ (z2 _ _ (z1 _ _ eW7))), fun S4 nS4 => ?_⟩
    rw [show cutV (ws.map V.str) (some ((k : Int) + 1)) none = (ws.drop (k + 1)).map V.str from cutD (k + 1)]
    have z4 := sm_upd (o := .lst ((ws.drop (k + 1)).map V.str)) nS4
    refine ⟨S3, S4, _, _, rfl, rfl, z4 _ _ upd_same, upd_same, fitS (by rw [List.length_append, List.length_map, List.length_map]; have := lt1 k; have := ld1 (k + 1); show _ + 1 + _ ≤ _; omega), fun S5 nS5 => ?_⟩
    have z5 := sm_upd (o := .lst ((ws.take k).map V.str ++ [V.str wd'] ++ (ws.drop (k + 1)).map V.str)) nS5
    have zA := z1.trans (z2.trans (z3.trans (z4.trans z5)))
    have lw1 := lw.len
    have sj : ((ws.take k ++ [wd'] ++ ws.drop (k + 1)).map (·.length)).sum ≤ 5400 := by
      rw [List.map_append, List.sum_append, List.map_append, List.sum_append]
      have := sumT k
      have := sumD (k + 1)
      show _ + (wd'.length + 0) + _ ≤ _
      omega
    have lj : (ws.take k ++ [wd'] ++ ws.drop (k + 1)).length ≤ 403 := by
      rw [List.length_append, List.length_append]
      have := lt1 k
      have := ld1 (k + 1)
      show _ + 1 + _ ≤ _
      omega
    have hl3 : LinL 5000 (ws.take k ++ [wd'] ++ ws.drop (k + 1)) := LinL.app (LinL.app (fun x hx => (linT k x hx).mono (by decide)) (fun x hx => by rw [List.mem_singleton.mp hx]; exact lw)) (fun x hx => (linD (k + 1) x hx).mono (by decide))
    refine ⟨_, S5, ws.take k ++ [wd'] ++ ws.drop (k + 1), rfl, rfl, .inl (SqL.of (by rw [upd_same, List.map_append, List.map_append]; rfl)), by rw [sl1]; omega, ?_⟩
    have ljn := (Lin.join hl3 sj).mono (m := 6000) (by omega)
    generalize Txt.join (Str.ofString " ") (ws.take k ++ [wd'] ++ ws.drop (k + 1)) = j1 at ljn ⊢
    have eO8 := zA _ _ eO
    have hP8 := hP7.same zA
    have f8 := f7.trans (Fr.same zA)
    generalize upd (upd (upd (upd (upd H7 S1 (.lst ((ws.take k).map V.str))) S2 (.lst ([V.str wd']))) S3 (.lst ((ws.take k).map V.str ++ [V.str wd']))) S4 (.lst ((ws.drop (k + 1)).map V.str))) S5 (.lst ((ws.take k).map V.str ++ [V.str wd'] ++ (ws.drop (k + 1)).map V.str)) = H8 at eO8 hP8 f8 ⊢
    refine ⟨O, _, _, rfl, rfl, eO8, fitS (by rw [List.length_map, l14]; decide), ?_⟩
    have hP9 := AO.pen (o := .lst (zs.map V.str ++ [V.str j1])) hP8 eO8
    have f9 := AO.fr (o := .lst (zs.map V.str ++ [V.str j1])) f8
    have e9 : upd H8 O (.lst (zs.map V.str ++ [V.str j1])) O = some (.lst ((zs ++ [j1]).map V.str)) := by rw [upd_same, List.map_append]; rfl
    generalize upd H8 O (.lst (zs.map V.str ++ [V.str j1])) = H9 at hP9 f9 e9 ⊢
    refine ⟨_, rfl, _, rfl, a, _, _, rfl, hP9, by omega, by decide, dB _ (by decide) (by decide), fun d H10 d0 d1 hPA fA => ?_⟩
    have lz2 : LinL 6000 (zs ++ [j1]) := lz.app fun x hx => by rw [List.mem_singleton.mp hx]; exact ljn
    have l15 : (zs ++ [j1]).length = 15 := by rw [List.length_append, l14]; rfl
    obtain ⟨y, hy, my⟩ := at_in (xs := (zs ++ [j1]).map V.str) d0 (by rw [List.length_map, l15]; omega)
    obtain ⟨y1, hy1, rfl⟩ := List.mem_map.mp my
    exact ⟨O, _, _, _, rfl, rfl, SqL.of (fA.l _ _ e9), hy, kk y1 _ (lz2 _ hy1) (hPA.mono (by omega)) (f9.trans fA)⟩
end
end Lf
namespace Lf
open PySem PySem.Spec PyProof.Rows L2 TL
/-! ### _law_parsed: what parsing gives, or its error -/
def TPd (C : Addr) : (XK → Hp → VK → Prop) → Hp → VK → Prop := fun tl H Q => tl (fun cls d H' => cls = .ref C ∧ ∃ (dd : Addr) (v : V), d = some dd ∧ H' dd = some (.xd [("line", v)]) ∧ ∀ T, H' T = none → Q (.ref T) (upd H' T (.tup [.str "error", v]))) H (fun v H' => ∀ T, H' T = none → Q (.ref T) (upd H' T (.tup [.str "parsed", v])))
abbrev s_l_parsed : Stmt := topS 28
abbrev N_l_parsed : List Str := ["_law_call", "_law_wrong", "_law_found", "e"]
abbrev P_l_parsed : List Str := ["_law_call"]
theorem sc_l_parsed : FnScope N_l_parsed P_l_parsed (defScope s_l_parsed) := ⟨rfl, rfl, rfl, by decide +kernel, rfl, by decide +kernel, by decide +kernel⟩
theorem four_of {α : Type} {l : List α} (h : l.length = 4) : ∃ a b c d, l = [a, b, c, d] := by
  match l, h with
  | [a, b, c, d], _ => exact ⟨a, b, c, d, rfl⟩
theorem gives_parsed {X : Cx} {C g : Addr} {cdg : Value} {q : Str} (T : ValC X.prog X.K X.mg C "ParseError" "line") :
    LamX.GivesTo X N_l_parsed "_law_parsed" (defScope s_l_parsed) g cdg (defBody s_l_parsed) "_law_call" q (TPd C) := by
  intro f c' s H Q tl act hc h
  refine ⟨_, pss_cons (ps_set (i := 1) sc_l_parsed.nd rfl (Or.inl rfl) pe_non) (pss_cons (ps_set (i := 2) sc_l_parsed.nd rfl (Or.inl rfl) pe_non) (pss_cons (ps_try_as (X := (cxOf C8.CX0 X.prog X.w X.K X.mg X.base N_l_parsed "_law_parsed" (defScope s_l_parsed) g cdg X.A X.stack s H C8.E0).nox) (i := 3) (c := .ref C)
      (tb := fun W D σ H => ∃ Ech : XK, (∀ cls d σ' H', Ech cls d H' → σ'.length = 4 → W cls d σ' H') ∧ σ[0]? = some (some (.ref f)) ∧ H c' = some (LamX.CodeO c' q) ∧ tl Ech H (fun v H' => D.nx (σ.set 2 (some v)) H'))
      (ts := fun a cls d D σ H1 => cls = .ref C ∧ σ.length = 4 ∧ σ[3]? = some (some (.ref a)) ∧ ∃ (dd : Addr) (v : V), d = some dd ∧ H1 dd = some (.xd [("line", v)]) ∧ ∀ T, H1 T = none → D.rt (.ref T) (upd H1 T (.tup [.str "error", v]))) (Wout := fun _ _ _ _ => False) rfl rfl sc_l_parsed.nd rfl rfl ⟨rfl, by decide, .inl T.gC⟩ takes0 (fun W pn xe tk _ => ?hb) (fun a oe cls d pn hz hf => ⟨fun pins s1 σ1 H1 D I h1 => ?hs⟩)) (pss_one (ps_ret (pe_tup (pa_cons pe_str (pa_cons (pv 2) pa_nil))))))), ?_⟩
  case hb =>
    refine ⟨fun pins s1 σ1 H1 D I h1 => ?_⟩
    obtain ⟨Ech, hW, h2, h3, h4⟩ := h1
    exact (pss_one (ps_set (i := 2) sc_l_parsed.nd rfl (Or.inl rfl) (act (fun cls d σ' H' => σ'.length = 4 → W cls d σ' H') pn xe Ech _ _ (takes_len tk) hW))).run pins s1 σ1 H1 D I ⟨h2, h3, h4⟩
  case hs =>
    obtain ⟨rfl, hl, h0, dd, v, rfl, e3, hh⟩ := h1
    refine (pss_cons (ps_set (i := 1) sc_l_parsed.nd rfl (Or.inl rfl) (pe_xk (Y := (cxOf C8.CX0 X.prog X.w X.K X.mg X.base N_l_parsed "_law_parsed" (defScope s_l_parsed) g cdg X.A X.stack s H C8.E0).nox.suite a ((a, oe) :: pn)) (a := a) T.xf T.no hz hf List.mem_cons_self (pv 3))) (pss_one (ps_ret (pe_tup (pa_cons pe_str (pa_cons (pv 1) pa_nil)))))).run pins s1 σ1 H1 D I ?_
    obtain ⟨x0, x1, x2, x3, rfl⟩ := four_of hl
    cases h0
    exact ⟨_, rfl, rfl, rfl, _, _, v, rfl, e3, by simp, _, rfl, len10 (by simp), hh⟩
  refine ⟨fun cls d H' => cls = .ref C ∧ ∃ (dd : Addr) (v : V), d = some dd ∧ H' dd = some (.xd [("line", v)]) ∧ ∀ T, H' T = none → Q (.ref T) (upd H' T (.tup [.str "error", v])), fun cls d σ' H' ⟨e1, dd, v, e2, e3, e4⟩ hl => ?_, rfl, hc, ?_⟩
  · subst e1 e2
    obtain ⟨x0, x1, x2, x3, rfl⟩ := four_of hl
    exact ⟨true, T.meets, fun _ a na => ⟨rfl, rfl, rfl, dd, v, rfl, e3, e4⟩, fun z => nomatch z⟩
  · have e2 : (fun v H' => tRet (tTup (tCons (tC (V.str "parsed")) (tCons (tVar 2) tNil))) { nx := fun _ H' => Q .non H', rt := Q } ([some (V.ref f), some .non, some .non, none].set 2 (some v)) H') = fun v H' => ∀ T, H' T = none → Q (.ref T) (upd H' T (.tup [.str "parsed", v])) := by
      funext v H'
      exact propext ⟨fun ⟨y, hy, _, q⟩ => by cases hy; exact q, fun q => ⟨v, rfl, len10 (by simp), q⟩⟩
    show tl _ H (fun v H' => tRet (tTup (tCons (tC (V.str "parsed")) (tCons (tVar 2) tNil))) { nx := fun _ H' => Q .non H', rt := Q } ([some (V.ref f), some .non, some .non, none].set 2 (some v)) H')
    rw [e2]
    exact h
end Lf
namespace Lf
open PySem PySem.Spec PyProof.Rows L2 TL
theorem mn12 (x : Int) (h : 0 ≤ x) : 0 ≤ (if x < 12 then x else 12) ∧ (if x < 12 then x else 12) ≤ 12 := by
  by_cases z : x < 12
  · rw [if_pos z]
    omega
  · rw [if_neg z]
    omega
def fV : PyData → V
  | .int i => .int i
  | _ => .non
theorem numsV_P (ws : List Str) : numsV ws = (numsP ws).map fV := by
  unfold numsV numsP
  rw [List.map_map]
  refine List.map_congr_left fun w _ => ?_
  show oVs _ = fV (oPs _)
  cases readI (tl w) <;> rfl
theorem ne_dv {H : Hp} {x y : V} {d : PyData} {Q : V → Hp → Prop} (h1 : Dv H x d) (h2 : Dv H y d) (nd : d.hasDict = false) (sh : SeqAt.shaped d = true) (q : Q (.bl false) H) {K : PySem.W.Frag} : rNeD K x y H Q := by
  refine ⟨d, d, Dv.dp _ _ h1 nd, Dv.dp _ _ h2 nd, sh, sh, ?_⟩
  have c : PyData.canLay0 d = true := by
    have h : (PyData.canLay0 d && decide (d.depth ≤ 64)) = true := sh
    rw [Bool.and_eq_true] at h
    exact h.1
  rw [SeqAt.eqv_refl _ c]
  exact q
theorem sh_err {z : Str} (h : PyData.strOk z = true) : SeqAt.shaped (.tuple [.str "error", .str z]) = true := by
  show (PyData.canLay0 (.tuple [.str "error", .str z]) && decide ((PyData.tuple [.str "error", .str z]).depth ≤ 64)) = true
  rw [Bool.and_eq_true]
  exact ⟨by simp [PyData.canLay0, PyData.canLayAll0, h, show PyData.strOk (Str.ofString "error") = true by decide +kernel], decide_eq_true (by show 1 ≤ 64; decide)⟩
theorem sh_rule {p q c : Int} : SeqAt.shaped (.tuple [.str "parsed", .tuple [.int p, .int q, .int c]]) = true := by
  show (PyData.canLay0 _ && decide _) = true
  rw [Bool.and_eq_true]
  exact ⟨by simp [PyData.canLay0, PyData.canLayAll0, show PyData.strOk (Str.ofString "parsed") = true by decide +kernel], decide_eq_true (by show 2 ≤ 64; decide)⟩
theorem sh_rec {b : Bool} {t n : Int} : SeqAt.shaped (.tuple [.str "parsed", .tuple [.str (wd b), .int t, .int n]]) = true := by
  have h : PyData.strOk (wd b) = true := by cases b <;> decide +kernel
  show (PyData.canLay0 _ && decide _) = true
  rw [Bool.and_eq_true]
  exact ⟨by simp [PyData.canLay0, PyData.canLayAll0, h, show PyData.strOk (Str.ofString "parsed") = true by decide +kernel], decide_eq_true (by show 2 ≤ 64; decide)⟩
/-- what the first words ask of the rule -/
def RuleAt (z : Str) (v : V) (H : Hp) : Prop := (ruleB (splS z) = false ∧ v = .non) ∨ (ruleB (splS z) = true ∧ ∃ R p q c, v = .ref R ∧ H R = some (.tup [.int p, .int q, .int c]) ∧ numsV ((splS z).drop 1) = [.int p, .int q, .int c])
def RecAt (ws : List Str) (v : V) (H : Hp) : Prop := (recIn ws = none ∧ v = .non) ∨ ∃ b t n R, recIn ws = some (b, t, n) ∧ v = .ref R ∧ H R = some (.tup [.str (wd b), .int t, .int n])
/-- the values that are no strings -/
def xs89 (L1 T1 D : Addr) : List V := [.non, .int 5, .ref L1, .ref T1, .ref D, .bl true]
structure F89 (L1 T1 D Tq PT : Addr) (H : Hp) : Prop where
  m : L1 ≠ 1
  eL : H L1 = some (.lst [.str "rule 1 2 3"])
  eT : H T1 = some (.tup [.str "at least 1 at 1"])
  eD : H D = some (.dK [])
  eQ : H Tq = some (.tup (xs89 L1 T1 D))
  t : LamX.Tabs [(PT, qLam)] H
theorem F89.ext {L1 T1 D Tq PT : Addr} {H H' : Hp} (h : F89 L1 T1 D Tq PT H) (e : LamX.ExtN H H') (t : LamX.Tabs [(PT, qLam)] H') : F89 L1 T1 D Tq PT H' := ⟨h.m, e _ _ h.eL (fun _ z => by cases z), e _ _ h.eT (fun _ z => by cases z), e _ _ h.eD (fun _ z => by cases z), e _ _ h.eQ (fun _ z => by cases z), t⟩
theorem F89.same {L1 T1 D Tq PT : Addr} {H H' : Hp} (h : F89 L1 T1 D Tq PT H) (s : Same H H') : F89 L1 T1 D Tq PT H' := ⟨h.m, s _ _ h.eL, s _ _ h.eT, s _ _ h.eD, s _ _ h.eQ, tabs_same h.t s⟩
theorem F89.dv {L1 T1 D Tq PT : Addr} {H : Hp} {x : V} (h : F89 L1 T1 D Tq PT H) (hx : x ∈ xs89 L1 T1 D) : SmI [.str "error", x] ∧ ∃ d, Dv H x d ∧ isSt d = false := by
  have sm : (flatB x = true ∨ ∃ c, x = .ref c) → SmI [.str "error", x] := fun hh z hz => by
    simp only [List.mem_cons, List.not_mem_nil, or_false] at hz
    rcases hz with rfl | rfl
    · exact .inl rfl
    · exact hh
  simp only [xs89, List.mem_cons, List.not_mem_nil, or_false] at hx
  rcases hx with rfl | rfl | rfl | rfl | rfl | rfl
  · exact ⟨sm (.inl rfl), _, .non, rfl⟩
  · exact ⟨sm (.inl rfl), _, .int _, rfl⟩
  · exact ⟨sm (.inr ⟨_, rfl⟩), _, .lst h.m h.eL (.cons (.str _) .nil), rfl⟩
  · exact ⟨sm (.inr ⟨_, rfl⟩), _, .tup h.eT (.cons (.str _) .nil), rfl⟩
  · exact ⟨sm (.inr ⟨_, rfl⟩), _, .dk0 h.eD, rfl⟩
  · exact ⟨sm (.inl rfl), _, .bl _, rfl⟩
theorem not_st {d : PyData} (h : isSt d = false) : shT 10000 d ∧ wordsO d = [] := by
  cases d <;> first | exact ⟨trivial, rfl⟩ | cases h
theorem ruleB_nums {ws : List Str} (h : ruleD (.tuple (numsP ws)) = true) : ∃ p q c, numsV ws = [.int p, .int q, .int c] := by
  obtain ⟨p, q, c, e, _⟩ := rule_get h
  exact ⟨p, q, c, by rw [numsV_P, e]; rfl⟩
section
variable {P : Program} {w : World} {K : PySem.W.Frag} {mg : Str → Option Value} {base : Heap} {CP cE PT : Addr}
abbrev s_law : Stmt := topS 30
abbrev N_law : List Str := ["_law_script", "_law_state", "_law_turn", "_law_line_here", "_law_words", "_law_rule_here", "_law_record", "_law_value"]
abbrev P_law : List Str := ["_law_script"]
theorem sc_law : FnScope N_law P_law (defScope s_law) := ⟨rfl, rfl, rfl, by decide +kernel, rfl, by decide +kernel, by decide +kernel⟩
theorem ok_law {f : Addr} {oc kV doc pm ct : Value} {od an : Option Addr} {osl : Array (Option Value)} (lkQ : K.lookup f = some ⟨oc, od, .func (PySem.W.fnOf "law" "law" (defArgs s_law) (defBody s_law) (defScope s_law) .none kV doc pm an (.ref cE) ct), osl⟩) (hcQ : PySem.W.codeIn K (.ref cE) "law" = true) (TB : LamX.TabB base mg cE PT)
    (B : Bi mg) (T : ValC P K mg CP "ParseError" "line") (D_l_parsed : Df K mg "_law_parsed" s_l_parsed P_l_parsed) (c_l_start : C8.Cal P w K mg base 1 "_law_start" (spStart K) []) (c_l_draw : C8.Cal P w K mg base 1 "_law_draw" spDraw []) (c_l_line : C8.Cal P w K mg base 3 "_law_line" spLine []) (c_l_changed : C8.Cal P w K mg base 2 "_law_changed" spChgd []) (c_l_rule_in : C8.Cal P w K mg base 2 "_law_rule_in" spRIn []) (c_l_record_in : C8.Cal P w K mg base 2 "_law_record_in" spCIn [])
    (cx_parse_rule : CalX P w K mg base 4 "parse_rule" (spPRule CP)) (cx_parse_record : CalX P w K mg base 4 "parse_record" (spPRec CP)) : FnG P w K mg base 7 f (PySem.W.fnOf "law" "law" (defArgs s_law) (defBody s_law) (defScope s_law) .none kV doc pm an (.ref cE) ct) P_law (spLawT K PT) := by
  refine fnG_lk lkQ hcQ sc_law (fun vs H Q E h => ?_) (fun A outer s H vs Q E hr gd h => ?_)
  · obtain ⟨a, ns, rfl, _⟩ := h
    rfl
  · obtain ⟨sc, ns, rfl, hS, hlen, hPT, kk⟩ := h
    obtain ⟨g, fdN, FN, hmN, bN⟩ := D_l_parsed
    have kpN := FN.kp
    obtain ⟨ocN, odN, kVN, dcN, pmN, anN, cdN, ctN, slN, rfl, lkN, hcN⟩ := FN.ex
    have hu64 : (A.deeper (envOfC "law" (defScope s_law) s.heap.objs.size f (.ref cE))).units + 64 < cLine := by
      have := hr.un
      omega
    have hT1 : (PT, (cxOf CX0 P w K mg base N_law "law" (defScope s_law) f (.ref cE) A outer s H E).nox.env.qual ++ ("<lambda>" : Str)) ∈ [(PT, qLam)] := List.mem_singleton.mpr rfl
    have hT2 : ∀ p ∈ [(PT, qLam)], p.1 = PT → p.2 = (cxOf CX0 P w K mg base N_law "law" (defScope s_law) f (.ref cE) A outer s H E).nox.env.qual ++ ("<lambda>" : Str) := fun p hp _ => by
      rw [List.mem_singleton.mp hp]
      rfl
    refine ⟨_, (pss_cons (ps_set (i := 1) sc_law.nd rfl (Or.inl rfl) (C8.pe_c c_l_start hr (by decide) (by rfl) (pa_cons (pv 0) pa_nil)))
    (pss_cons (ps_for PassesOwn.never rfl (pi_range1 rfl B.range_ (pa_cons (pe_op op_add pe_int (pe_callB (call_min2 rfl) (by rfl) B.min_ bt_min (pa_cons pe_int (pa_cons (pe_callB (call_len_seq) (by rfl) B.len_ bt_len (pa_cons (pv 0) pa_nil)) pa_nil)))) pa_nil)) (pg_name (i := 2) sc_law.nd rfl (Or.inl rfl))
      (pss_cons (ps_set (i := 3) sc_law.nd rfl (Or.inr rfl) (C8.pe_c c_l_line hr (by decide) (by rfl) (pa_cons (pv 1) pa_nil)))
    (C8.pss_cut (ps_if (pt_cmpR op_gt (C8.pe_c c_l_draw hr (by decide) (by rfl) (pa_cons (pv 1) (pa_cons pe_int pa_nil))) pe_int (nomark _))
      (pss_one (ps_set (i := 3) sc_law.nd rfl (Or.inr rfl) (C8.pe_c c_l_changed hr (by decide) (by rfl) (pa_cons (pv 1) (pa_cons (pv 3) pa_nil)))))
      pss_nil)
    (pss_cons (ps_set (i := 4) sc_law.nd rfl (Or.inl rfl) (pe_bm PySem.F.plainAttrs_str PySem.F.slot_str_split PySem.F.type_str_split mt_split (pv 3) (pa_cons pe_str pa_nil)))
    (C8.pss_cut (ps_set (i := 5) sc_law.nd rfl (Or.inl rfl) (pe_ifExp (pt_cmpR op_eq (pe_ix (r := rIxL K) ix_list (pv 4) pe_int (fun _ _ => rfl)) pe_str (nomark _)) (C8.pe_c c_l_rule_in hr (by decide) (by rfl) (pa_cons (pe_slice sl_list (pv 4) (po_some pe_int) po_none) pa_nil)) pe_non))
    (C8.pss_cut (ps_if (pt_cmpR (op_neD hr.units) (LamX.pe_lamcall (T := [(PT, qLam)]) (k := 4) (by rfl) hmN kpN lkN hcN bN sc_l_parsed rfl (Or.inl rfl) (gives_parsed T) TB rfl hT1 hT2 (hr.mono (by decide)) (LamX.lamS_by (sc := defScope s_law) (by decide +kernel)) rfl (fun _ _ _ _ _ => rfl) (fun A outer s H E f c' hr2 => pe_cx cx_parse_rule hr2 (by decide) (takes_of rfl rfl rfl rfl) (by rfl) (pa_cons (pe_var (i := 3) rfl (Or.inr (Or.inr rfl))) pa_nil))) (pe_ifExp (pt_cmpR op_isN (pv 5) pe_non (nomark _)) (pe_tup (pa_cons pe_str (pa_cons (pv 3) pa_nil))) (pe_tup (pa_cons pe_str (pa_cons (pv 5) pa_nil)))) (nomark _))
      (pss_one (ps_ret pe_bl))
      pss_nil)
    (C8.pss_cut (ps_set (i := 6) sc_law.nd rfl (Or.inl rfl) (C8.pe_c c_l_record_in hr (by decide) (by rfl) (pa_cons (pv 4) pa_nil)))
    (pss_one (ps_if (pt_cmpR (op_neD hr.units) (LamX.pe_lamcall (T := [(PT, qLam)]) (k := 4) (by rfl) hmN kpN lkN hcN bN sc_l_parsed rfl (Or.inl rfl) (gives_parsed T) TB rfl hT1 hT2 (hr.mono (by decide)) (LamX.lamS_by (sc := defScope s_law) (by decide +kernel)) rfl (fun _ _ _ _ _ => rfl) (fun A outer s H E f c' hr2 => pe_cx cx_parse_record hr2 (by decide) (takes_of rfl rfl rfl rfl) (by rfl) (pa_cons (pe_var (i := 3) rfl (Or.inr (Or.inr rfl))) pa_nil))) (pe_ifExp (pt_cmpR op_isN (pv 6) pe_non (nomark _)) (pe_tup (pa_cons pe_str (pa_cons (pv 3) pa_nil))) (pe_tup (pa_cons pe_str (pa_cons (pv 6) pa_nil)))) (nomark _))
      (pss_one (ps_ret pe_bl))
      pss_nil)))))))))
    (pss_cons (ps_for PassesOwn.never rfl (pi_tup (pe_tup (pa_cons pe_non (pa_cons pe_int (pa_cons (pe_lst1 (pa_cons pe_str pa_nil)) (pa_cons (pe_tup (pa_cons pe_str pa_nil)) (pa_cons pe_dnewK (pa_cons pe_bl pa_nil)))))))) (pg_name (i := 7) sc_law.nd rfl (Or.inr rfl))
      (pss_cons (ps_if (pt_cmpR (op_neT hu64) (LamX.pe_lamcall (T := [(PT, qLam)]) (k := 4) (by rfl) hmN kpN lkN hcN bN sc_l_parsed rfl (Or.inl rfl) (gives_parsed T) TB rfl hT1 hT2 (hr.mono (by decide)) (LamX.lamS_by (sc := defScope s_law) (by decide +kernel)) rfl (fun _ _ _ _ _ => rfl) (fun A outer s H E f c' hr2 => pe_cx cx_parse_rule hr2 (by decide) (takes_of rfl rfl rfl rfl) (by rfl) (pa_cons (pe_var (i := 7) rfl (Or.inr (Or.inr rfl))) pa_nil))) (pe_tup (pa_cons pe_str (pa_cons (pv 7) pa_nil))) (nomark _))
      (pss_one (ps_ret pe_bl))
      pss_nil)
    (pss_one (ps_if (pt_cmpR (op_neT hu64) (LamX.pe_lamcall (T := [(PT, qLam)]) (k := 4) (by rfl) hmN kpN lkN hcN bN sc_l_parsed rfl (Or.inl rfl) (gives_parsed T) TB rfl hT1 hT2 (hr.mono (by decide)) (LamX.lamS_by (sc := defScope s_law) (by decide +kernel)) rfl (fun _ _ _ _ _ => rfl) (fun A outer s H E f c' hr2 => pe_cx cx_parse_record hr2 (by decide) (takes_of rfl rfl rfl rfl) (by rfl) (pa_cons (pe_var (i := 7) rfl (Or.inr (Or.inr rfl))) pa_nil))) (pe_tup (pa_cons pe_str (pa_cons (pv 7) pa_nil))) (nomark _))
      (pss_one (ps_ret pe_bl))
      pss_nil))))
    (pss_one (ps_ret pe_bl))))), ?_⟩
    have fitS : ∀ {n : Nat}, n ≤ 100000 → n ≤ sizeLine := fun h => by
      rw [sizeLine_eq]
      omega
    refine ⟨_, rfl, sc, ns, rfl, hS, fun a H0 hP0 s0 => ?_⟩
    have t0 : LamX.Tabs [(PT, qLam)] H0 := fun p hp => by
      rw [List.mem_singleton.mp hp]
      exact LamX.TabS.nil (s0 _ _ hPT)
    refine ⟨_, rfl, sc, _, rfl, .inl (s0.seq hS), _, _, rfl, _, _, rfl, rfl, _, rfl, ?_⟩
    obtain ⟨m2, m3⟩ := mn12 ((ns.map V.int).length : Int) (by omega)
    refine ⟨by omega, by omega, ?_⟩
    generalize hmm : (4 + (if ((ns.map V.int).length : Int) < 12 then ((ns.map V.int).length : Int) else 12)) = mm
    have hm16 : mm.toNat ≤ 16 := by omega
    refine for_range (lo := 0) (n := mm.toNat) (fun i σ H' => ∃ (y2 y3 y4 y5 y6 : Option V), σ = [some (.ref sc), some (.ref a), y2, y3, y4, y5, y6, none] ∧ Pen H' a (30 * i) ∧ LamX.Tabs [(PT, qLam)] H') ⟨_, _, _, _, _, rfl, hP0, t0⟩ ?_ ?_
    · rintro i σ H1 hi ⟨y2, y3, y4, y5, y6, rfl, hP1, t1⟩
      have hi : i < 16 := by omega
      refine ⟨_, rfl, a, _, rfl, hP1, by omega, fun z0 H2 lz0 hP2 f2 => ?_⟩
      -- the line, changed or not
      refine ⟨fun σ' H' => ∃ (y2 : Option V) (z : Str), σ' = [some (.ref sc), some (.ref a), y2, some (.str z), y4, y5, y6, none] ∧ Lin 6000 z ∧ Pen H' a (30 * i + 30) ∧ LamX.Tabs [(PT, qLam)] H', ?_, ?_⟩
      · refine ⟨_, rfl, a, _, _, rfl, hP2, by omega, by decide, Bd.small 20 (by decide) (by decide), fun d H3 d0 d1 hP3 f3 => ⟨_, _, rfl, rfl, _, rfl, ?_⟩⟩
        have t3 := tabs_fr (tabs_fr t1 f2) f3
        by_cases c : (0 : Int) < d
        · refine iteD c ⟨_, rfl, _, rfl, a, _, z0, rfl, hP3, by omega, lz0, fun z H4 lz hP4 f4 => ?_⟩
          exact ⟨_, z, rfl, lz, hP4.mono (by omega), tabs_fr t3 f4⟩
        · exact iteDn c ⟨_, z0, rfl, lz0.mono (by decide), hP3.mono (by omega), t3⟩
      clear hP2 lz0 f2
      rintro σ' H3 ⟨y2', z, rfl, lz, hP3, t3⟩
      have zl := lz.len
      refine ⟨_, rfl, rfl, z, _, rfl, rfl, by decide +kernel, by rw [sizeLine_eq]; omega, fun W nW => ?_⟩
      have zW := sm_upd (o := .lst ((splS z).map V.str)) nW
      have eW := upd_same (H := H3) (a := W) (o := .lst ((splS z).map V.str))
      have hP4 := hP3.same zW
      have t4 := tabs_same t3 zW
      have ne := splS_ne z
      have sok : shT 10000 (.str z) := lz.sh (by decide)
      have num := wordsO_num sok
      have wok := wordsO_ok sok
      obtain ⟨ws, hws⟩ : ∃ ws, splS z = ws := ⟨_, rfl⟩
      have eq : Txt.split z (Str.ofString " ") = ws := hws
      rw [eq]
      have free : ∀ w ∈ ws, 32 ∉ tl w := fun w hw => splS_free (hws ▸ hw)
      rw [show wordsO (.str z) = ws from hws] at num wok
      rw [hws] at ne eW zW hP4 t4
      generalize upd H3 W (.lst (ws.map V.str)) = H4 at eW hP4 t4 ⊢
      clear zW hP3 t3 nW
      obtain ⟨w0, r, rfl⟩ : ∃ w0 r, ws = w0 :: r := by
        cases ws with
        | nil => exact absurd rfl ne
        | cons w0 r => exact ⟨w0, r, rfl⟩
      clear ne eq
      refine ⟨fun σ' H' => ∃ v5, σ' = [some (.ref sc), some (.ref a), y2', some (.str z), some (.ref W), some v5, y6, none] ∧ RuleAt z v5 H' ∧ H' W = some (.lst ((w0 :: r).map V.str)) ∧ Pen H' a (30 * i + 30) ∧ LamX.Tabs [(PT, qLam)] H', ?_, ?_⟩
      · refine ⟨_, rfl, W, _, _, _, rfl, rfl, SqL.of eW, atI_nat (j := 0) rfl, rfl, _, rfl, ?_⟩
        by_cases c : V.str w0 = V.str (Str.ofString "rule")
        · have c' := V.str.inj c
          refine iteD c ⟨_, rfl, 1, rfl, W, _, rfl, SqL.of eW, fun S nS => ?_⟩
          rw [cutV_d1, ← List.map_drop]
          have zS := sm_upd (o := .lst (((w0 :: r).drop 1).map V.str)) nS
          have rb : ruleB (splS z) = ruleD (.tuple (numsP r)) := by
            rw [hws]
            unfold ruleB
            show (decide ([w0] = [Str.ofString "rule"]) && ruleD (.tuple (numsP r))) = _
            rw [c', decide_eq_true rfl, Bool.true_and]
          refine ⟨S, r, rfl, upd_same, by rw [List.length_cons] at num; omega, fun w hw => (wok w (List.mem_cons_of_mem _ hw)).1, fun hb H5 s5 => ?_, fun hb R H5 s5 eR => ?_⟩
          · exact ⟨_, rfl, .inl ⟨rb.trans hb, rfl⟩, s5 _ _ (zS _ _ eW), (hP4.same zS).same s5, tabs_same (tabs_same t4 zS) s5⟩
          · obtain ⟨p, q, c2, hpq⟩ := ruleB_nums hb
            exact ⟨_, rfl, .inr ⟨rb.trans hb, R, p, q, c2, rfl, by rw [eR, hpq], by rw [hws]; exact hpq⟩, s5 _ _ (zS _ _ eW), (hP4.same zS).same s5, tabs_same (tabs_same t4 zS) s5⟩
        · refine iteDn c ⟨_, rfl, .inl ⟨?_, rfl⟩, eW, hP4, t4⟩
          rw [hws]
          unfold ruleB
          rw [show (w0 :: r).take 1 = [w0] from rfl, decide_eq_false (fun h => c (by rw [List.head_eq_of_cons_eq h])), Bool.false_and]
      clear eW hP4 t4
      rintro σ' H5 ⟨v5, rfl, ra, eW, hP5, t5⟩
      have okz := lz.ok
      -- parse_rule
      refine ⟨fun σ' H' => σ' = [some (.ref sc), some (.ref a), y2', some (.str z), some (.ref W), some v5, y6, none] ∧ H' W = some (.lst ((w0 :: r).map V.str)) ∧ Pen H' a (30 * i + 30) ∧ LamX.Tabs [(PT, qLam)] H', ?_, ?_⟩
      · refine ⟨t5, fun H6 e6 t6 => ?_⟩
        have eW6 := (ext_kp e6).l _ _ eW
        have hP6 := hP5.extN e6
        refine ⟨_, rfl, .str z, .str z, rfl, .str z, sok, fun hb H7 s7 dd nd => ?_, fun hb R2 H7 s7 eR2 => ?_⟩
        · have hb : ruleB (splS z) = false := hb
          refine ⟨rfl, dd, _, rfl, upd_same, fun Te nTe => ?_⟩
          have z1 := sm_upd (o := .xd [("line", .str z)]) nd
          have z2 := sm_upd (o := .tup [.str "error", .str z]) nTe
          obtain rfl : v5 = .non := by
            rcases ra with ⟨_, h⟩ | ⟨h, _⟩
            · exact h
            · rw [hb] at h
              cases h
          refine ⟨_, rfl, rfl, _, rfl, iteD rfl ⟨_, rfl, len10 (by simp), fun T2 nT2 => ?_⟩⟩
          have z3 := sm_upd (o := .tup [.str "error", .str z]) nT2
          refine ne_dv (.tup (z3 _ _ upd_same) (.cons (.str _) (.cons (.str _) .nil))) (.tup upd_same (.cons (.str _) (.cons (.str _) .nil))) rfl (sh_err okz) ⟨_, rfl, iteFs rfl ?_⟩
          have zz := s7.trans (z1.trans (z2.trans z3))
          exact ⟨rfl, zz _ _ eW6, hP6.same zz, tabs_same t6 zz⟩
        · have hb : ruleB (splS z) = true := hb
          refine fun Te nTe => ?_
          obtain ⟨R, p, q, c, rfl, eR, hn⟩ : ∃ R p q c, v5 = .ref R ∧ H5 R = some (.tup [.int p, .int q, .int c]) ∧ numsV ((splS z).drop 1) = [.int p, .int q, .int c] := by
            rcases ra with ⟨h, _⟩ | ⟨_, h⟩
            · rw [hb] at h
              cases h
            · exact h
          have eR2 : H7 R2 = some (.tup (numsV ((splS z).drop 1))) := eR2
          rw [hn] at eR2
          have z2 := sm_upd (o := .tup [.str "parsed", .ref R2]) nTe
          refine ⟨_, rfl, rfl, _, rfl, iteDn (fun z => by cases z) ⟨_, rfl, len10 (by simp), fun T2 nT2 => ?_⟩⟩
          have z3 := sm_upd (o := .tup [.str "parsed", .ref R]) nT2
          refine ne_dv (.tup (z3 _ _ upd_same) (.cons (.str _) (.cons (.tup (z3 _ _ (z2 _ _ eR2)) (.cons (.int _) (.cons (.int _) (.cons (.int _) .nil)))) .nil))) (.tup upd_same (.cons (.str _) (.cons (.tup (z3 _ _ (z2 _ _ (s7 _ _ (tup_extN e6 eR)))) (.cons (.int _) (.cons (.int _) (.cons (.int _) .nil)))) .nil))) rfl sh_rule ⟨_, rfl, iteFs rfl ?_⟩
          have zz := s7.trans (z2.trans z3)
          exact ⟨rfl, zz _ _ eW6, hP6.same zz, tabs_same t6 zz⟩
      clear eW hP5 t5 ra
      rintro σ' H5 ⟨rfl, eW, hP5, t5⟩
      -- the record that the reading finds
      refine ⟨fun σ' H' => ∃ v6, σ' = [some (.ref sc), some (.ref a), y2', some (.str z), some (.ref W), some v5, some v6, none] ∧ RecAt (w0 :: r) v6 H' ∧ Pen H' a (30 * i + 30) ∧ LamX.Tabs [(PT, qLam)] H', ?_, ?_⟩
      · refine ⟨_, rfl, W, w0 :: r, rfl, eW, num, wok, fun hb H6 s6 => ?_, fun b t n hb R H6 s6 eR => ?_⟩
        · exact ⟨_, rfl, .inl ⟨hb, rfl⟩, hP5.same s6, tabs_same t5 s6⟩
        · exact ⟨_, rfl, .inr ⟨b, t, n, R, hb, rfl, eR⟩, hP5.same s6, tabs_same t5 s6⟩
      clear eW hP5 t5
      rintro σ' H5 ⟨v6, rfl, ra, hP5, t5⟩
      have rin := rec_in free
      -- parse_record
      refine ⟨t5, fun H6 e6 t6 => ?_⟩
      have hP6 := hP5.extN e6
      refine ⟨_, rfl, .str z, .str z, rfl, .str z, sok, fun hb H7 s7 dd nd => ?_, fun hb R2 H7 s7 eR2 => ?_⟩
      · have hb : recW (splS z) = false := hb
        rw [hws] at hb
        refine ⟨rfl, dd, _, rfl, upd_same, fun Te nTe => ?_⟩
        have z1 := sm_upd (o := .xd [("line", .str z)]) nd
        have z2 := sm_upd (o := .tup [.str "error", .str z]) nTe
        obtain rfl : v6 = .non := by
          rcases ra with ⟨_, h⟩ | ⟨b, t, n, R, h, _⟩
          · exact h
          · rw [h] at rin
            rw [rin.1] at hb
            cases hb
        refine ⟨_, rfl, rfl, _, rfl, iteD rfl ⟨_, rfl, len10 (by simp), fun T2 nT2 => ?_⟩⟩
        have z3 := sm_upd (o := .tup [.str "error", .str z]) nT2
        refine ne_dv (.tup (z3 _ _ upd_same) (.cons (.str _) (.cons (.str _) .nil))) (.tup upd_same (.cons (.str _) (.cons (.str _) .nil))) rfl (sh_err okz) ⟨_, rfl, iteFs rfl ?_⟩
        have zz := s7.trans (z1.trans (z2.trans z3))
        exact ⟨_, _, _, _, _, rfl, (hP6.same zz).mono (by omega), tabs_same t6 zz⟩
      · have hb : recW (splS z) = true := hb
        rw [hws] at hb
        refine fun Te nTe => ?_
        obtain ⟨b, t, n, R, hi6, rfl, eR⟩ : ∃ b t n R, recIn (w0 :: r) = some (b, t, n) ∧ v6 = .ref R ∧ H5 R = some (.tup [.str (wd b), .int t, .int n]) := by
          rcases ra with ⟨h, _⟩ | h
          · rw [h] at rin
            rw [show recW (w0 :: r) = false from rin] at hb
            cases hb
          · exact h
        rw [hi6] at rin
        have eR2 : H7 R2 = some (.tup (recV (splS z))) := eR2
        rw [hws, rin.2] at eR2
        have z2 := sm_upd (o := .tup [.str "parsed", .ref R2]) nTe
        refine ⟨_, rfl, rfl, _, rfl, iteDn (fun z => by cases z) ⟨_, rfl, len10 (by simp), fun T2 nT2 => ?_⟩⟩
        have z3 := sm_upd (o := .tup [.str "parsed", .ref R]) nT2
        refine ne_dv (.tup (z3 _ _ upd_same) (.cons (.str _) (.cons (.tup (z3 _ _ (z2 _ _ eR2)) (.cons (.str _) (.cons (.int _) (.cons (.int _) .nil)))) .nil))) (.tup upd_same (.cons (.str _) (.cons (.tup (z3 _ _ (z2 _ _ (s7 _ _ (tup_extN e6 eR)))) (.cons (.str _) (.cons (.int _) (.cons (.int _) .nil)))) .nil))) rfl sh_rec ⟨_, rfl, iteFs rfl ?_⟩
        have zz := s7.trans (z2.trans z3)
        exact ⟨_, _, _, _, _, rfl, (hP6.same zz).mono (by omega), tabs_same t6 zz⟩
    · rintro σ H1 ⟨y2, y3, y4, y5, y6, rfl, hP1, t1⟩
      refine ⟨len10 (by simp), fun L1 nL1 mL1 => ⟨len10 (by simp), fun T1 nT1 => fun D nD => ⟨len10 (by simp), fun Tq nTq => ⟨Tq, rfl, ⟨_, SqT.of upd_same⟩, ?_⟩⟩⟩⟩
      have z1 := sm_upd (o := .lst [.str "rule 1 2 3"]) nL1
      have z2 := sm_upd (o := .tup [.str "at least 1 at 1"]) nT1
      have z3 := sm_upd (o := .dK []) nD
      have z4 := sm_upd (o := .tup (xs89 L1 T1 D)) nTq
      have F : F89 L1 T1 D Tq PT (upd (upd (upd (upd H1 L1 (.lst [.str "rule 1 2 3"])) T1 (.tup [.str "at least 1 at 1"])) D (.dK [])) Tq (.tup (xs89 L1 T1 D))) := ⟨mL1, z4 _ _ (z3 _ _ (z2 _ _ upd_same)), z4 _ _ (z3 _ _ upd_same), z4 _ _ upd_same, upd_same, tabs_same t1 (z1.trans (z2.trans (z3.trans z4)))⟩
      refine for_tup (K := K) (a := Tq) (xs := xs89 L1 T1 D) (fun k σ H' => ∃ (y7 : Option V), σ = [some (.ref sc), some (.ref a), y2, y3, y4, y5, y6, y7] ∧ F89 L1 T1 D Tq PT H') ⟨_, rfl, F⟩ ?_ ?_ ?_
      · rintro k σ H' _ ⟨_, _, F⟩
        exact SqT.of F.eQ
      · rintro k x σ H2 hx ⟨y7, rfl, F⟩
        have hm := List.mem_of_getElem? hx
        refine ⟨F.t, fun H3 e3 t3 => ?_⟩
        have F3 := F.ext e3 t3
        obtain ⟨si, d, dv, ns⟩ := F3.dv hm
        obtain ⟨sh, hw⟩ := not_st ns
        refine ⟨_, rfl, x, d, rfl, dv, sh, fun _ H4 s4 dd nd => ⟨rfl, dd, _, rfl, upd_same, fun Te nTe => ⟨_, rfl, len10 (by simp), fun T2 nT2 => ?_⟩⟩, fun hb => ?_⟩
        · have y1 := sm_upd (o := .xd [("line", x)]) nd
          have y2 := sm_upd (o := .tup [.str "error", x]) nTe
          have y3 := sm_upd (o := .tup [.str "error", x]) nT2
          refine ⟨Te, T2, _, rfl, rfl, SqT.of (y3 _ _ upd_same), SqT.of upd_same, si, _, rfl, iteFs rfl ?_⟩
          have F5 := F3.same (s4.trans (y1.trans (y2.trans y3)))
          refine ⟨F5.t, fun H6 e6 t6 => ?_⟩
          have F6 := F5.ext e6 t6
          obtain ⟨_, d, dv, ns⟩ := F6.dv hm
          obtain ⟨sh, hw⟩ := not_st ns
          refine ⟨_, rfl, x, d, rfl, dv, sh, fun _ H7 s7 dd nd => ⟨rfl, dd, _, rfl, upd_same, fun Te nTe => ⟨_, rfl, len10 (by simp), fun T2 nT2 => ?_⟩⟩, fun hb => ?_⟩
          · have y1 := sm_upd (o := .xd [("line", x)]) nd
            have y2 := sm_upd (o := .tup [.str "error", x]) nTe
            have y3 := sm_upd (o := .tup [.str "error", x]) nT2
            refine ⟨Te, T2, _, rfl, rfl, SqT.of (y3 _ _ upd_same), SqT.of upd_same, si, _, rfl, iteFs rfl ?_⟩
            exact ⟨_, rfl, F6.same (s7.trans (y1.trans (y2.trans y3)))⟩
          · rw [hw] at hb
            cases hb
        · rw [hw] at hb
          exact absurd hb (by decide +kernel)
      · rintro σ H2 ⟨y7, rfl, F⟩
        exact kk _
end
/-! ### what the top has written -/
abbrev sI_ParseError : Stmt := (C8.clsBody (topS 2)).getD 0 (.Pass ⟨0, 0, 0, 0⟩)
theorem iniT_ParseError : IniT "line" (defArgs sI_ParseError) (defBody sI_ParseError) (defScope sI_ParseError) := ⟨⟨_, rfl, rfl⟩, ⟨_, _, _, _, _, _, _, _, _, _, _, _, rfl, _, fun env => rfl⟩, rfl, rfl, rfl, rfl, by decide +kernel, by decide +kernel, rfl, rfl, rfl, by decide +kernel, by decide +kernel, by decide +kernel⟩
theorem all_mk {l : PySem.W.OpenLaw} {w : World} {K : PySem.W.Frag} {h : Heap} {mg : Str → Option Value} {fa : Addr} (X : K.In h) (G : h.Ns mainGlobals mg) (hfa : mg "law" = some (.ref fa))
    {f0 f1 f2 f3 f4 f5 f6 f7 f8 f9 f10 f11 f12 f13 f14 f15 f16 f17 f18 f19 f20 : Addr} {od0 an0 od1 an1 od2 an2 od3 an3 od4 an4 od5 an5 od6 an6 od7 an7 od8 an8 od9 an9 od10 an10 od11 an11 od12 an12 od13 an13 od14 an14 od15 an15 od16 an16 od17 an17 od18 an18 od19 an19 od20 an20 : Option Addr} {sl0 sl1 sl2 sl3 sl4 sl5 sl6 sl7 sl8 sl9 sl10 sl11 sl12 sl13 sl14 sl15 sl16 sl17 sl18 sl19 sl20 : Array (Option Value)} {oc0 kV0 dc0 pm0 cd0 ct0 oc1 kV1 dc1 pm1 cd1 ct1 oc2 kV2 dc2 pm2 cd2 ct2 oc3 kV3 dc3 pm3 cd3 ct3 oc4 kV4 dc4 pm4 cd4 ct4 oc5 kV5 dc5 pm5 cd5 ct5 oc6 kV6 dc6 pm6 cd6 ct6 oc7 kV7 dc7 pm7 cd7 ct7 oc8 kV8 dc8 pm8 cd8 ct8 oc9 kV9 dc9 pm9 cd9 ct9 oc10 kV10 dc10 pm10 cd10 ct10 oc11 kV11 dc11 pm11 cd11 ct11 oc12 kV12 dc12 pm12 cd12 ct12 oc13 kV13 dc13 pm13 cd13 ct13 oc14 kV14 dc14 pm14 cd14 ct14 oc15 kV15 dc15 pm15 cd15 ct15 oc16 kV16 dc16 pm16 cd16 ct16 oc17 kV17 dc17 pm17 cd17 ct17 oc18 kV18 dc18 pm18 cd18 ct18 oc19 kV19 dc19 pm19 cd19 ct19 oc20 kV20 dc20 pm20 cd20 ct20 : Value}
    (a0 : PySem.W.nsIn K mainGlobals "_law_start" = some (some (.ref f0))) (l0 : K.lookup f0 = some ⟨oc0, od0, .func (PySem.W.fnOf "_law_start" "_law_start" (defArgs s_l_start) (defBody s_l_start) (defScope s_l_start) .none kV0 dc0 pm0 an0 cd0 ct0), sl0⟩) (c0 : PySem.W.codeIn K cd0 "_law_start" = true) (k0 : PySem.W.keepIn K (.ref f0) = true)
    (a1 : PySem.W.nsIn K mainGlobals "_law_draw" = some (some (.ref f1))) (l1 : K.lookup f1 = some ⟨oc1, od1, .func (PySem.W.fnOf "_law_draw" "_law_draw" (defArgs s_l_draw) (defBody s_l_draw) (defScope s_l_draw) .none kV1 dc1 pm1 an1 cd1 ct1), sl1⟩) (c1 : PySem.W.codeIn K cd1 "_law_draw" = true) (k1 : PySem.W.keepIn K (.ref f1) = true)
    (a2 : PySem.W.nsIn K mainGlobals "is_integer" = some (some (.ref f2))) (l2 : K.lookup f2 = some ⟨oc2, od2, .func (PySem.W.fnOf "is_integer" "is_integer" (defArgs s_is_integer) (defBody s_is_integer) (defScope s_is_integer) .none kV2 dc2 pm2 an2 cd2 ct2), sl2⟩) (c2 : PySem.W.codeIn K cd2 "is_integer" = true) (k2 : PySem.W.keepIn K (.ref f2) = true)
    (a3 : PySem.W.nsIn K mainGlobals "gcd" = some (some (.ref f3))) (l3 : K.lookup f3 = some ⟨oc3, od3, .func (PySem.W.fnOf "gcd" "gcd" (defArgs s_gcd) (defBody s_gcd) (defScope s_gcd) .none kV3 dc3 pm3 an3 cd3 ct3), sl3⟩) (c3 : PySem.W.codeIn K cd3 "gcd" = true) (k3 : PySem.W.keepIn K (.ref f3) = true)
    (a4 : PySem.W.nsIn K mainGlobals "is_rule" = some (some (.ref f4))) (l4 : K.lookup f4 = some ⟨oc4, od4, .func (PySem.W.fnOf "is_rule" "is_rule" (defArgs s_is_rule) (defBody s_is_rule) (defScope s_is_rule) .none kV4 dc4 pm4 an4 cd4 ct4), sl4⟩) (c4 : PySem.W.codeIn K cd4 "is_rule" = true) (k4 : PySem.W.keepIn K (.ref f4) = true)
    (a5 : PySem.W.nsIn K mainGlobals "is_record" = some (some (.ref f5))) (l5 : K.lookup f5 = some ⟨oc5, od5, .func (PySem.W.fnOf "is_record" "is_record" (defArgs s_is_record) (defBody s_is_record) (defScope s_is_record) .none kV5 dc5 pm5 an5 cd5 ct5), sl5⟩) (c5 : PySem.W.codeIn K cd5 "is_record" = true) (k5 : PySem.W.keepIn K (.ref f5) = true)
    (a6 : PySem.W.nsIn K mainGlobals "_law_divisor" = some (some (.ref f6))) (l6 : K.lookup f6 = some ⟨oc6, od6, .func (PySem.W.fnOf "_law_divisor" "_law_divisor" (defArgs s_l_divisor) (defBody s_l_divisor) (defScope s_l_divisor) .none kV6 dc6 pm6 an6 cd6 ct6), sl6⟩) (c6 : PySem.W.codeIn K cd6 "_law_divisor" = true) (k6 : PySem.W.keepIn K (.ref f6) = true)
    (a7 : PySem.W.nsIn K mainGlobals "_law_rule" = some (some (.ref f7))) (l7 : K.lookup f7 = some ⟨oc7, od7, .func (PySem.W.fnOf "_law_rule" "_law_rule" (defArgs s_l_rule) (defBody s_l_rule) (defScope s_l_rule) .none kV7 dc7 pm7 an7 cd7 ct7), sl7⟩) (c7 : PySem.W.codeIn K cd7 "_law_rule" = true) (k7 : PySem.W.keepIn K (.ref f7) = true)
    (a8 : PySem.W.nsIn K mainGlobals "words_of" = some (some (.ref f8))) (l8 : K.lookup f8 = some ⟨oc8, od8, .func (PySem.W.fnOf "words_of" "words_of" (defArgs s_words_of) (defBody s_words_of) (defScope s_words_of) .none kV8 dc8 pm8 an8 cd8 ct8), sl8⟩) (c8 : PySem.W.codeIn K cd8 "words_of" = true) (k8 : PySem.W.keepIn K (.ref f8) = true)
    (a9 : PySem.W.nsIn K mainGlobals "read_integer" = some (some (.ref f9))) (l9 : K.lookup f9 = some ⟨oc9, od9, .func (PySem.W.fnOf "read_integer" "read_integer" (defArgs s_read_integer) (defBody s_read_integer) (defScope s_read_integer) .none kV9 dc9 pm9 an9 cd9 ct9), sl9⟩) (c9 : PySem.W.codeIn K cd9 "read_integer" = true) (k9 : PySem.W.keepIn K (.ref f9) = true)
    (a10 : PySem.W.nsIn K mainGlobals "read_rule" = some (some (.ref f10))) (l10 : K.lookup f10 = some ⟨oc10, od10, .func (PySem.W.fnOf "read_rule" "read_rule" (defArgs s_read_rule) (defBody s_read_rule) (defScope s_read_rule) .none kV10 dc10 pm10 an10 cd10 ct10), sl10⟩) (c10 : PySem.W.codeIn K cd10 "read_rule" = true) (k10 : PySem.W.keepIn K (.ref f10) = true)
    (a11 : PySem.W.nsIn K mainGlobals "parse_rule" = some (some (.ref f11))) (l11 : K.lookup f11 = some ⟨oc11, od11, .func (PySem.W.fnOf "parse_rule" "parse_rule" (defArgs s_parse_rule) (defBody s_parse_rule) (defScope s_parse_rule) .none kV11 dc11 pm11 an11 cd11 ct11), sl11⟩) (c11 : PySem.W.codeIn K cd11 "parse_rule" = true) (k11 : PySem.W.keepIn K (.ref f11) = true)
    (a12 : PySem.W.nsIn K mainGlobals "read_record" = some (some (.ref f12))) (l12 : K.lookup f12 = some ⟨oc12, od12, .func (PySem.W.fnOf "read_record" "read_record" (defArgs s_read_record) (defBody s_read_record) (defScope s_read_record) .none kV12 dc12 pm12 an12 cd12 ct12), sl12⟩) (c12 : PySem.W.codeIn K cd12 "read_record" = true) (k12 : PySem.W.keepIn K (.ref f12) = true)
    (a13 : PySem.W.nsIn K mainGlobals "parse_record" = some (some (.ref f13))) (l13 : K.lookup f13 = some ⟨oc13, od13, .func (PySem.W.fnOf "parse_record" "parse_record" (defArgs s_parse_record) (defBody s_parse_record) (defScope s_parse_record) .none kV13 dc13 pm13 an13 cd13 ct13), sl13⟩) (c13 : PySem.W.codeIn K cd13 "parse_record" = true) (k13 : PySem.W.keepIn K (.ref f13) = true)
    (a14 : PySem.W.nsIn K mainGlobals "_law_integer" = some (some (.ref f14))) (l14 : K.lookup f14 = some ⟨oc14, od14, .func (PySem.W.fnOf "_law_integer" "_law_integer" (defArgs s_l_integer) (defBody s_l_integer) (defScope s_l_integer) .none kV14 dc14 pm14 an14 cd14 ct14), sl14⟩) (c14 : PySem.W.codeIn K cd14 "_law_integer" = true) (k14 : PySem.W.keepIn K (.ref f14) = true)
    (a15 : PySem.W.nsIn K mainGlobals "_law_rule_in" = some (some (.ref f15))) (l15 : K.lookup f15 = some ⟨oc15, od15, .func (PySem.W.fnOf "_law_rule_in" "_law_rule_in" (defArgs s_l_rule_in) (defBody s_l_rule_in) (defScope s_l_rule_in) .none kV15 dc15 pm15 an15 cd15 ct15), sl15⟩) (c15 : PySem.W.codeIn K cd15 "_law_rule_in" = true) (k15 : PySem.W.keepIn K (.ref f15) = true)
    (a16 : PySem.W.nsIn K mainGlobals "_law_record_in" = some (some (.ref f16))) (l16 : K.lookup f16 = some ⟨oc16, od16, .func (PySem.W.fnOf "_law_record_in" "_law_record_in" (defArgs s_l_record_in) (defBody s_l_record_in) (defScope s_l_record_in) .none kV16 dc16 pm16 an16 cd16 ct16), sl16⟩) (c16 : PySem.W.codeIn K cd16 "_law_record_in" = true) (k16 : PySem.W.keepIn K (.ref f16) = true)
    (a17 : PySem.W.nsIn K mainGlobals "_law_line" = some (some (.ref f17))) (l17 : K.lookup f17 = some ⟨oc17, od17, .func (PySem.W.fnOf "_law_line" "_law_line" (defArgs s_l_line) (defBody s_l_line) (defScope s_l_line) .none kV17 dc17 pm17 an17 cd17 ct17), sl17⟩) (c17 : PySem.W.codeIn K cd17 "_law_line" = true) (k17 : PySem.W.keepIn K (.ref f17) = true)
    (a18 : PySem.W.nsIn K mainGlobals "_law_changed" = some (some (.ref f18))) (l18 : K.lookup f18 = some ⟨oc18, od18, .func (PySem.W.fnOf "_law_changed" "_law_changed" (defArgs s_l_changed) (defBody s_l_changed) (defScope s_l_changed) .none kV18 dc18 pm18 an18 cd18 ct18), sl18⟩) (c18 : PySem.W.codeIn K cd18 "_law_changed" = true) (k18 : PySem.W.keepIn K (.ref f18) = true)
    (a19 : PySem.W.nsIn K mainGlobals "_law_parsed" = some (some (.ref f19))) (l19 : K.lookup f19 = some ⟨oc19, od19, .func (PySem.W.fnOf "_law_parsed" "_law_parsed" (defArgs s_l_parsed) (defBody s_l_parsed) (defScope s_l_parsed) .none kV19 dc19 pm19 an19 cd19 ct19), sl19⟩) (c19 : PySem.W.codeIn K cd19 "_law_parsed" = true) (k19 : PySem.W.keepIn K (.ref f19) = true)
    (a20 : PySem.W.nsIn K mainGlobals "law" = some (some (.ref f20))) (l20 : K.lookup f20 = some ⟨oc20, od20, .func (PySem.W.fnOf "law" "law" (defArgs s_law) (defBody s_law) (defScope s_law) .none kV20 dc20 pm20 an20 cd20 ct20), sl20⟩) (c20 : PySem.W.codeIn K cd20 "law" = true) (k20 : PySem.W.keepIn K (.ref f20) = true)
    (z0 : PySem.W.nsIn K mainGlobals "len" = some none) (z1 : PySem.W.nsIn K mainGlobals "abs" = some none) (z2 : PySem.W.nsIn K mainGlobals "list" = some none) (z3 : PySem.W.nsIn K mainGlobals "range" = some none) (z4 : PySem.W.nsIn K mainGlobals "sum" = some none) (z5 : PySem.W.nsIn K mainGlobals "repr" = some none) (z6 : PySem.W.nsIn K mainGlobals "max" = some none) (z7 : PySem.W.nsIn K mainGlobals "min" = some none) (z8 : PySem.W.nsIn K mainGlobals "reversed" = some none) (z9 : PySem.W.nsIn K mainGlobals "divmod" = some none) (z10 : PySem.W.nsIn K mainGlobals "isinstance" = some none) (z11 : PySem.W.nsIn K mainGlobals "all" = some none) (z12 : PySem.W.nsIn K mainGlobals "int" = some none) (z13 : PySem.W.nsIn K mainGlobals "bool" = some none) (z14 : PySem.W.nsIn K mainGlobals "tuple" = some none) (z15 : PySem.W.nsIn K mainGlobals "sorted" = some none) (z16 : PySem.W.nsIn K mainGlobals "zip" = some none) (z17 : PySem.W.nsIn K mainGlobals "enumerate" = some none) (z18 : PySem.W.nsIn K mainGlobals "set" = some none) (z19 : PySem.W.nsIn K mainGlobals "str" = some none)
    {vC0 vI0 vD0 vX0 vN0 : Addr} {vnm0 vqn0 : Str} {vbs0 vbm0 vsb0 : List Value} {vsn0 : List Str} {vab0 : Bool} {vcl0 : Option Bool} {vdd0 von0 vcd0 vce0 van0 : Option Addr} {vk00 vk10 vk20 vk30 vk50 : Option Value} {voc0 vkV0 vdc0 vpm0 vct0 vcc0 vce20 : Value} {vsl0 vcs0 vcs20 : Array (Option Value)} {vvs0 : Array Value} {vfl0 : Str} {vtf0 : Tok} (v0_0 : PySem.W.nsIn K mainGlobals "ParseError" = some (some (.ref vC0))) (v0_1 : K.lookup vC0 = some (excClassObj vnm0 vqn0 vC0 vN0 vbs0 vbm0 true vsn0 vsb0 vab0 vcl0 vdd0 vk00 vk10 vk20 vk30 vk50 "ValueError.__new__")) (v0_2 : PySem.HandSPX.refsVE vbm0 = true) (v0_3 : PySem.W.findIn K (.ref vC0) "__setattr__" = some (some (.builtin "object.__setattr__"))) (v0_4 : PySem.W.subIn K (.ref vC0) (.type "BaseException") = some true) (v0_5 : PySem.W.typeIn K (.ref vC0) = some (.type "type")) (v0_6 : PySem.W.keepIn K (.ref vC0) = true) (v0_7 : PySem.W.findIn K (.ref vC0) "__init__" = some (some (.ref vI0))) (v0_8 : K.lookup vI0 = some ⟨voc0, von0, .func (PySem.W.ksFn "__init__" "ParseError.__init__" (defArgs sI_ParseError) (defBody sI_ParseError) (defScope sI_ParseError) .none vkV0 vdc0 vpm0 van0 (.ref vD0) vct0 vX0), vsl0⟩) (v0_9 : PySem.W.codeIn K (.ref vD0) "ParseError.__init__" = true) (v0_10 : K.lookup vD0 = some ⟨vcc0, vcd0, .fields vvs0, vcs0⟩) (v0_11 : vvs0[2]? = some (.str vfl0 vtf0)) (v0_12 : ((l.prog.main.file : Str) == vfl0) = true) (v0_13 : K.lookup vX0 = some ⟨vce20, vce0, .cell (some (.ref vC0)), vcs20⟩) (v0_14 : PySem.W.mroIn K vC0 (.ref vC0) = some true) (v0_15 : PySem.W.ks_superIn K vC0 vC0 "__init__" = some (some (.builtin "ValueError.__init__"))) (v0_16 : PySem.W.subIn K (.ref vC0) (.type "ValueError") = some true) (v0_17 : PySem.W.findIn K (.ref vC0) "line" = some none) (v0_18 : PySem.W.typeIn K (.ref vI0) = some (.type "function")) (v0_19 : PySem.W.findIn K (.ref vC0) "__getattribute__" = some (some (.builtin "BaseException.__getattribute__"))) (v0_20 : PySem.W.findIn K (.ref vC0) "__getattr__" = some none) (v0_21 : PySem.W.hasDictIn K vC0 = true) (v0_22 : PySem.W.findIn K (.ref vC0) "__class__" = some (some (.builtin "object.__class__"))) (v0_23 : PySem.W.mroIn K vC0 (.type "object") = some true) (v0_24 : PySem.W.subIn K (.ref vC0) (.ref vC0) = some true) (vu0 : PySem.W.nsIn K cStatics "thirdparty.any" = some none) (vu1 : PySem.W.specialIn K (.builtin "object.__class__") "__get__" = some (some (.builtin "getset_descriptor.__get__"))) (vu2 : PySem.W.takesIn K (.builtin "object.__class__") = some true) (vu3 : (l.prog.main.scope.names.lookup ("super" : Str)).isSome = false) (vu4 : PySem.W.nsIn K mainGlobals "super" = some none)
    {cL PT : Addr} {eL : Value} {dL : Option Addr} {vL : Array Value} {sL : Array (Option Value)}
    {tD : Tok} (xD : PySem.W.nsIn K mainGlobals "DIGITS" = some (some (.str "0123456789" tD)))
    {tM : Tok} (xM : PySem.W.nsIn K mainGlobals "MOST_DIGITS" = some (some (.int 200 tM)))
    (v0 : cd20 = .ref cL) (v1 : K.lookup cL = some ⟨eL, dL, .fields vL, sL⟩) (v2 : vL[11]? = some (.ref PT)) (v3 : K.lookup PT = none) (v4 : PySem.W.codeHdIn K cL PT = true) (v5 : h.get? PT = some { cls := .none, data := .fields #[] }) :
    LawGT l w K 7 "_law_script" mg fa h := by
  have e := hfa.symm.trans (PySem.W.mg_of X G a20)
  cases e
  subst v0
  have B : Bi mg := ⟨PySem.W.mg_none_of X G z0, PySem.W.mg_none_of X G z1, PySem.W.mg_none_of X G z2, PySem.W.mg_none_of X G z3, PySem.W.mg_none_of X G z4, PySem.W.mg_none_of X G z5, PySem.W.mg_none_of X G z6, PySem.W.mg_none_of X G z7, PySem.W.mg_none_of X G z8, PySem.W.mg_none_of X G z9, PySem.W.mg_none_of X G z10, PySem.W.mg_none_of X G z11, PySem.W.mg_none_of X G z12, PySem.W.mg_none_of X G z13, PySem.W.mg_none_of X G z14, PySem.W.mg_none_of X G z15, PySem.W.mg_none_of X G z16, PySem.W.mg_none_of X G z17, PySem.W.mg_none_of X G z18, PySem.W.mg_none_of X G z19⟩
  have UD : Bm mg := ⟨⟨tD, PySem.W.mg_of X G xD⟩, ⟨tM, PySem.W.mg_of X G xM⟩⟩
  have V_ParseError : ValC l.prog K mg vC0 "ParseError" "line" := ⟨PySem.W.mg_of X G v0_0, ⟨vI0, vD0, vX0, "ParseError.__init__", defArgs sI_ParseError, defBody sI_ParseError, defScope sI_ParseError, vkV0, vdc0, vpm0, vct0, voc0, van0, von0, vsl0, v0_8, v0_9, iniT_ParseError, ⟨⟨⟨vnm0, vqn0, vN0, vbs0, vbm0, vsn0, vsb0, vab0, vcl0, vdd0, vk00, vk10, vk20, vk30, vk50, v0_1, v0_2⟩, v0_3, v0_4, v0_5, v0_6⟩, ⟨_, _, _, _, _, _, v0_10, v0_11, v0_12⟩, ⟨_, _, _, v0_13⟩, v0_14, vu0, v0_15, v0_16, v0_17, vu3⟩, v0_7, v0_18, .all fun us hl => match us, hl with | [_, _], _ => rfl⟩, PySem.W.mg_none_of X G vu4, ⟨v0_19, v0_20, v0_4, v0_21, v0_22, vu1, vu2, v0_23⟩, v0_24⟩
  have F0 := fun_mk (st := s_l_start) l0 c0 k0
  have D_l_start : Df K mg "_law_start" s_l_start P_l_start := ⟨f0, _, F0, PySem.W.mg_of X G a0, F0.binds fun _ _ _ _ _ _ us hl => match us, hl with | [_], _ => rfl⟩
  have F1 := fun_mk (st := s_l_draw) l1 c1 k1
  have D_l_draw : Df K mg "_law_draw" s_l_draw P_l_draw := ⟨f1, _, F1, PySem.W.mg_of X G a1, F1.binds fun _ _ _ _ _ _ us hl => match us, hl with | [_, _], _ => rfl⟩
  have F2 := fun_mk (st := s_is_integer) l2 c2 k2
  have D_is_integer : Df K mg "is_integer" s_is_integer P_is_integer := ⟨f2, _, F2, PySem.W.mg_of X G a2, F2.binds fun _ _ _ _ _ _ us hl => match us, hl with | [_], _ => rfl⟩
  have F3 := fun_mk (st := s_gcd) l3 c3 k3
  have D_gcd : Df K mg "gcd" s_gcd P_gcd := ⟨f3, _, F3, PySem.W.mg_of X G a3, F3.binds fun _ _ _ _ _ _ us hl => match us, hl with | [_, _], _ => rfl⟩
  have F4 := fun_mk (st := s_is_rule) l4 c4 k4
  have D_is_rule : Df K mg "is_rule" s_is_rule P_is_rule := ⟨f4, _, F4, PySem.W.mg_of X G a4, F4.binds fun _ _ _ _ _ _ us hl => match us, hl with | [_], _ => rfl⟩
  have F5 := fun_mk (st := s_is_record) l5 c5 k5
  have D_is_record : Df K mg "is_record" s_is_record P_is_record := ⟨f5, _, F5, PySem.W.mg_of X G a5, F5.binds fun _ _ _ _ _ _ us hl => match us, hl with | [_], _ => rfl⟩
  have F6 := fun_mk (st := s_l_divisor) l6 c6 k6
  have D_l_divisor : Df K mg "_law_divisor" s_l_divisor P_l_divisor := ⟨f6, _, F6, PySem.W.mg_of X G a6, F6.binds fun _ _ _ _ _ _ us hl => match us, hl with | [_, _], _ => rfl⟩
  have F7 := fun_mk (st := s_l_rule) l7 c7 k7
  have D_l_rule : Df K mg "_law_rule" s_l_rule P_l_rule := ⟨f7, _, F7, PySem.W.mg_of X G a7, F7.binds fun _ _ _ _ _ _ us hl => match us, hl with | [_], _ => rfl⟩
  have F8 := fun_mk (st := s_words_of) l8 c8 k8
  have D_words_of : Df K mg "words_of" s_words_of P_words_of := ⟨f8, _, F8, PySem.W.mg_of X G a8, F8.binds fun _ _ _ _ _ _ us hl => match us, hl with | [_], _ => rfl⟩
  have F9 := fun_mk (st := s_read_integer) l9 c9 k9
  have D_read_integer : Df K mg "read_integer" s_read_integer P_read_integer := ⟨f9, _, F9, PySem.W.mg_of X G a9, F9.binds fun _ _ _ _ _ _ us hl => match us, hl with | [_], _ => rfl⟩
  have F10 := fun_mk (st := s_read_rule) l10 c10 k10
  have D_read_rule : Df K mg "read_rule" s_read_rule P_read_rule := ⟨f10, _, F10, PySem.W.mg_of X G a10, F10.binds fun _ _ _ _ _ _ us hl => match us, hl with | [_], _ => rfl⟩
  have F11 := fun_mk (st := s_parse_rule) l11 c11 k11
  have D_parse_rule : Df K mg "parse_rule" s_parse_rule P_parse_rule := ⟨f11, _, F11, PySem.W.mg_of X G a11, F11.binds fun _ _ _ _ _ _ us hl => match us, hl with | [_], _ => rfl⟩
  have F12 := fun_mk (st := s_read_record) l12 c12 k12
  have D_read_record : Df K mg "read_record" s_read_record P_read_record := ⟨f12, _, F12, PySem.W.mg_of X G a12, F12.binds fun _ _ _ _ _ _ us hl => match us, hl with | [_], _ => rfl⟩
  have F13 := fun_mk (st := s_parse_record) l13 c13 k13
  have D_parse_record : Df K mg "parse_record" s_parse_record P_parse_record := ⟨f13, _, F13, PySem.W.mg_of X G a13, F13.binds fun _ _ _ _ _ _ us hl => match us, hl with | [_], _ => rfl⟩
  have F14 := fun_mk (st := s_l_integer) l14 c14 k14
  have D_l_integer : Df K mg "_law_integer" s_l_integer P_l_integer := ⟨f14, _, F14, PySem.W.mg_of X G a14, F14.binds fun _ _ _ _ _ _ us hl => match us, hl with | [_], _ => rfl⟩
  have F15 := fun_mk (st := s_l_rule_in) l15 c15 k15
  have D_l_rule_in : Df K mg "_law_rule_in" s_l_rule_in P_l_rule_in := ⟨f15, _, F15, PySem.W.mg_of X G a15, F15.binds fun _ _ _ _ _ _ us hl => match us, hl with | [_], _ => rfl⟩
  have F16 := fun_mk (st := s_l_record_in) l16 c16 k16
  have D_l_record_in : Df K mg "_law_record_in" s_l_record_in P_l_record_in := ⟨f16, _, F16, PySem.W.mg_of X G a16, F16.binds fun _ _ _ _ _ _ us hl => match us, hl with | [_], _ => rfl⟩
  have F17 := fun_mk (st := s_l_line) l17 c17 k17
  have D_l_line : Df K mg "_law_line" s_l_line P_l_line := ⟨f17, _, F17, PySem.W.mg_of X G a17, F17.binds fun _ _ _ _ _ _ us hl => match us, hl with | [_], _ => rfl⟩
  have F18 := fun_mk (st := s_l_changed) l18 c18 k18
  have D_l_changed : Df K mg "_law_changed" s_l_changed P_l_changed := ⟨f18, _, F18, PySem.W.mg_of X G a18, F18.binds fun _ _ _ _ _ _ us hl => match us, hl with | [_, _], _ => rfl⟩
  have F19 := fun_mk (st := s_l_parsed) l19 c19 k19
  have D_l_parsed : Df K mg "_law_parsed" s_l_parsed P_l_parsed := ⟨f19, _, F19, PySem.W.mg_of X G a19, F19.binds fun _ _ _ _ _ _ us hl => match us, hl with | [_], _ => rfl⟩
  have F20 := fun_mk (st := s_law) l20 c20 k20
  refine ⟨PySem.W.fnOf "law" "law" (defArgs s_law) (defBody s_law) (defScope s_law) .none kV20 dc20 pm20 an20 (.ref cL) ct20, cL, PT, spLawT K PT, v5, v3, PySem.W.codeHd_of_K X v4, fun s v => .of_eq rfl, fun H a ns hl ht hS => ⟨a, ns, rfl, hS, hl, ht, fun _ => rfl⟩, fun base _ _ TB => ?_⟩
  have c_l_start := ok_l_start (P := l.prog) (w := w) (base := base) D_l_start B
  have c_l_draw := ok_l_draw (P := l.prog) (w := w) (base := base) D_l_draw B
  have cA_is_integer := okA_is_integer (P := l.prog) (w := w) (base := base) D_is_integer B
  have c_is_integer := ok_is_integer (P := l.prog) (w := w) (base := base) D_is_integer B
  have c_gcd := ok_gcd (P := l.prog) (w := w) (base := base) D_gcd
  have cA_is_rule := okA_is_rule (P := l.prog) (w := w) (base := base) D_is_rule B cA_is_integer c_gcd
  have c_is_rule := ok_is_rule (P := l.prog) (w := w) (base := base) D_is_rule B c_is_integer c_gcd
  have cA_is_record := okA_is_record (P := l.prog) (w := w) (base := base) D_is_record B cA_is_integer
  have c_is_record := ok_is_record (P := l.prog) (w := w) (base := base) D_is_record B c_is_integer
  have c_l_divisor := ok_l_divisor (P := l.prog) (w := w) (base := base) D_l_divisor
  have c_l_rule := ok_l_rule (P := l.prog) (w := w) (base := base) D_l_rule B c_l_draw c_l_divisor
  have c_words_of := ok_words_of (P := l.prog) (w := w) (base := base) D_words_of B
  have c_read_integer := ok_read_integer (P := l.prog) (w := w) (base := base) D_read_integer UD B
  have c_read_rule := ok_read_rule (P := l.prog) (w := w) (base := base) D_read_rule B c_read_integer cA_is_rule
  have cx_parse_rule := okx_parse_rule (P := l.prog) (w := w) (base := base) D_parse_rule V_ParseError c_words_of c_read_rule
  have c_read_record := ok_read_record (P := l.prog) (w := w) (base := base) D_read_record B c_read_integer cA_is_record
  have cx_parse_record := okx_parse_record (P := l.prog) (w := w) (base := base) D_parse_record V_ParseError c_words_of c_read_record
  have c_l_integer := ok_l_integer (P := l.prog) (w := w) (base := base) D_l_integer B
  have c_l_rule_in := ok_l_rule_in (P := l.prog) (w := w) (base := base) D_l_rule_in B c_l_integer
  have c_l_record_in := ok_l_record_in (P := l.prog) (w := w) (base := base) D_l_record_in B c_l_integer
  have c_l_line := ok_l_line (P := l.prog) (w := w) (base := base) D_l_line B c_l_draw c_l_rule
  have c_l_changed := ok_l_changed (P := l.prog) (w := w) (base := base) D_l_changed B c_l_draw
  exact ok_law (P := l.prog) (w := w) (base := base) l20 c20 TB B V_ParseError D_l_parsed c_l_start c_l_draw c_l_line c_l_changed c_l_rule_in c_l_record_in cx_parse_rule cx_parse_record
end Lf
open PySem PySem.W PyProof.Rows
set_option maxRecDepth 100000 in
set_option maxHeartbeats 0 in
theorem PySem.Challenge.cw_leapfit_k89_texts_that_are_no_rules_or_r_holds : PySem.Challenge.rw_leapfit_k89_texts_that_are_no_rules_or_r.Holds := by
  w_on; o_law; k_head; (case hw => w_witness2)
  k_fill
  refine Lf.walkGT (l := PySem.Challenge.rw_leapfit_k89_texts_that_are_no_rules_or_r) (k := 7) (x := "_law_script") rfl rfl ⟨rfl, by decide, by decide⟩ (fun w h Y => PySem.W.km_in_of Y) ?F
  case F =>
    intro w mg fa h Y KX G hmg
    refine' Lf.all_mk KX G hmg ?a0 ?l0 ?c0 ?k0 ?a1 ?l1 ?c1 ?k1 ?a2 ?l2 ?c2 ?k2 ?a3 ?l3 ?c3 ?k3 ?a4 ?l4 ?c4 ?k4 ?a5 ?l5 ?c5 ?k5 ?a6 ?l6 ?c6 ?k6 ?a7 ?l7 ?c7 ?k7 ?a8 ?l8 ?c8 ?k8 ?a9 ?l9 ?c9 ?k9 ?a10 ?l10 ?c10 ?k10 ?a11 ?l11 ?c11 ?k11 ?a12 ?l12 ?c12 ?k12 ?a13 ?l13 ?c13 ?k13 ?a14 ?l14 ?c14 ?k14 ?a15 ?l15 ?c15 ?k15 ?a16 ?l16 ?c16 ?k16 ?a17 ?l17 ?c17 ?k17 ?a18 ?l18 ?c18 ?k18 ?a19 ?l19 ?c19 ?k19 ?a20 ?l20 ?c20 ?k20 ?z0 ?z1 ?z2 ?z3 ?z4 ?z5 ?z6 ?z7 ?z8 ?z9 ?z10 ?z11 ?z12 ?z13 ?z14 ?z15 ?z16 ?z17 ?z18 ?z19 ?v0_0 ?v0_1 ?v0_2 ?v0_3 ?v0_4 ?v0_5 ?v0_6 ?v0_7 ?v0_8 ?v0_9 ?v0_10 ?v0_11 ?v0_12 ?v0_13 ?v0_14 ?v0_15 ?v0_16 ?v0_17 ?v0_18 ?v0_19 ?v0_20 ?v0_21 ?v0_22 ?v0_23 ?v0_24 ?vu0 ?vu1 ?vu2 ?vu3 ?vu4 ?xD ?xM ?v0 ?v1 ?v2 ?v3 ?v4 ?v5
    (case a0 => k_is); (case l0 => k_is); (case c0 => k_is); (case k0 => k_is)
    (case a1 => k_is); (case l1 => k_is); (case c1 => k_is); (case k1 => k_is)
    (case a2 => k_is); (case l2 => k_is); (case c2 => k_is); (case k2 => k_is)
    (case a3 => k_is); (case l3 => k_is); (case c3 => k_is); (case k3 => k_is)
    (case a4 => k_is); (case l4 => k_is); (case c4 => k_is); (case k4 => k_is)
    (case a5 => k_is); (case l5 => k_is); (case c5 => k_is); (case k5 => k_is)
    (case a6 => k_is); (case l6 => k_is); (case c6 => k_is); (case k6 => k_is)
    (case a7 => k_is); (case l7 => k_is); (case c7 => k_is); (case k7 => k_is)
    (case a8 => k_is); (case l8 => k_is); (case c8 => k_is); (case k8 => k_is)
    (case a9 => k_is); (case l9 => k_is); (case c9 => k_is); (case k9 => k_is)
    (case a10 => k_is); (case l10 => k_is); (case c10 => k_is); (case k10 => k_is)
    (case a11 => k_is); (case l11 => k_is); (case c11 => k_is); (case k11 => k_is)
    (case a12 => k_is); (case l12 => k_is); (case c12 => k_is); (case k12 => k_is)
    (case a13 => k_is); (case l13 => k_is); (case c13 => k_is); (case k13 => k_is)
    (case a14 => k_is); (case l14 => k_is); (case c14 => k_is); (case k14 => k_is)
    (case a15 => k_is); (case l15 => k_is); (case c15 => k_is); (case k15 => k_is)
    (case a16 => k_is); (case l16 => k_is); (case c16 => k_is); (case k16 => k_is)
    (case a17 => k_is); (case l17 => k_is); (case c17 => k_is); (case k17 => k_is)
    (case a18 => k_is); (case l18 => k_is); (case c18 => k_is); (case k18 => k_is)
    (case a19 => k_is); (case l19 => k_is); (case c19 => k_is); (case k19 => k_is)
    (case a20 => k_is); (case l20 => k_is); (case c20 => k_is); (case k20 => k_is)
    (case z0 => k_is); (case z1 => k_is); (case z2 => k_is); (case z3 => k_is); (case z4 => k_is); (case z5 => k_is); (case z6 => k_is); (case z7 => k_is); (case z8 => k_is); (case z9 => k_is); (case z10 => k_is); (case z11 => k_is); (case z12 => k_is); (case z13 => k_is); (case z14 => k_is); (case z15 => k_is); (case z16 => k_is); (case z17 => k_is); (case z18 => k_is); (case z19 => k_is)
    (case v0_0 => k_is)
    (case v0_1 => k_is)
    (case v0_2 => first | rfl | decide +kernel)
    (case v0_3 => k_is)
    (case v0_4 => k_is)
    (case v0_5 => k_is)
    (case v0_6 => k_is)
    (case v0_7 => k_is)
    (case v0_8 => k_is)
    (case v0_9 => k_is)
    (case v0_10 => k_is)
    (case v0_11 => first | rfl | k_is)
    (case v0_12 => first | rfl | decide +kernel)
    (case v0_13 => k_is)
    (case v0_14 => first | k_is | kernel_rfl)
    (case v0_15 => kernel_rfl)
    (case v0_16 => k_is)
    (case v0_17 => k_is)
    (case v0_18 => k_is)
    (case v0_19 => k_is)
    (case v0_20 => k_is)
    (case v0_21 => k_is)
    (case v0_22 => k_is)
    (case v0_23 => k_is)
    (case v0_24 => first | rfl | k_is)
    (case vu0 => k_is)
    (case vu1 => k_is)
    (case vu2 => k_is)
    (case vu3 => first | rfl | decide +kernel)
    (case vu4 => k_is)
    (case xD => k_is); (case xM => k_is)
    (case v0 => first | rfl | k_is); (case v1 => k_is); (case v2 => first | rfl | k_is); (case v3 => kernel_rfl); (case v4 => kernel_rfl); (case v5 => exact PySem.W.km_tabs_of Y _ (by decide))
