import PyProof.Rows.All
import Wide.All
import OpenK.AllK
import Wide.FinOn
import HandS.ForMost
import HandS.Codes
import HandS.Wide
import HandS.WideBits
import HandS.IsInst
import HandS.RaiseMore
import HandS.Style
import HandS.NoneIn
import HandS.TupMul
import HandS.TupAny
import HandS.Walk
import HandS.SetFor
import HandS.Strs
import KE.LtSeq
import HandS.Conv
import HandS.Exc
import HandS.TryOnly
import HandS.ExcOwn
import HandS.ExcIs
import HandS.WordsExc
import HandS.Lambda
import HandS.EndTab
import HandS.EndOwn
import KE.KNestM
import HandS.ExcInit
import HandS.ExcField
import KE.KExcSuper
import KE.KExcIs
import HandS.Defaults
import KE.DatumOrd
import KE.SortData
import KE.SortKeyHeap
import HandS.CallSlots
import HandS.DeepEq
import KE.KSortKey
import KE.GoesMore
import KE.GoesEnumKw
import HandS.SortInts
import HandS.Deep
import HandS.DictComp
import HandS.Evl
import HandS.SortKw
import HandS.RevRange
import HandS.RevTup
import HandS.FStr
import HandS.StrMore
import HandS.MapObj
import HandS.StrSplit
import HandS.TupLe
import HandS.SetTxt0
import HandS.WordsDict
import KE.KDictZip
import KE.SortKeyHeap
import PyProof.ListNew
import PySem.Challenge.RW_leapfit_k91_whole_changed_log_texts
set_option Elab.async false
set_option linter.all false
set_option maxRecDepth 100000
set_option maxHeartbeats 4000000
set_option linter.all false
namespace Lf
/-! ### sums of rounded quotients -/
def fs : Nat → Int → Int → Int → Int
  | 0, _, _, _ => 0
  | n + 1, a, b, m => fs n a b m + (a * n + b) / m
def tri (n : Int) : Int := n * (n - 1) / 2
theorem tri_succ (n : Int) : tri (n + 1) = tri n + n := by
  unfold tri
  rw [show (n + 1) * (n + 1 - 1) = n * (n - 1) + n * 2 by
    rw [Int.add_sub_cancel, Int.mul_sub, Int.add_mul]; omega]
  rw [Int.add_mul_ediv_right _ _ (by decide)]
theorem tri_zero : tri 0 = 0 := rfl
theorem div_shift (x k m : Int) (h : 0 < m) : (x + m * k) / m = x / m + k := by
  rw [Int.add_mul_ediv_left _ _ (by omega)]
theorem fs_red (n : Nat) (a b m : Int) (h : 0 < m) : fs n a b m = fs n (a % m) b m + a / m * tri n := by
  induction n with
  | zero => simp [fs, tri_zero]
  | succ n ih =>
    show fs n a b m + (a * n + b) / m = fs n (a % m) b m + (a % m * n + b) / m + a / m * tri ((n + 1 : Nat) : Int)
    have e : a * n + b = (a % m * n + b) + m * (a / m * n) := by
      have q := Int.emod_add_mul_ediv a m
      have q2 : a * n = (a % m + m * (a / m)) * n := by rw [q]
      rw [q2, Int.add_mul, Int.mul_assoc]; omega
    rw [e, div_shift _ _ _ h, ih, Int.natCast_add, Int.natCast_one, tri_succ, Int.mul_add]
    omega
theorem fs_redb (n : Nat) (a b m : Int) (h : 0 < m) : fs n a b m = fs n a (b % m) m + b / m * n := by
  induction n with
  | zero => simp [fs]
  | succ n ih =>
    show fs n a b m + (a * n + b) / m = fs n a (b % m) m + (a * n + b % m) / m + b / m * ((n + 1 : Nat) : Int)
    have e : a * n + b = (a * n + b % m) + m * (b / m) := by
      have q := Int.emod_add_mul_ediv b m
      omega
    rw [e, div_shift _ _ _ h, ih, Int.natCast_add, Int.natCast_one, Int.mul_add, Int.mul_one]
    omega
/-- each term of the second sum grows by one when its offset grows by its divisor -/
theorem fs_up (n : Nat) (a b m : Int) (h : 0 < m) : fs n a (b + m) m = fs n a b m + n := by
  induction n with
  | zero => simp [fs]
  | succ n ih =>
    show fs n a (b + m) m + (a * n + (b + m)) / m = fs n a b m + (a * n + b) / m + ((n + 1 : Nat) : Int)
    rw [show a * n + (b + m) = (a * n + b) + m * 1 by omega, div_shift _ _ _ h, ih]
    omega
/-- the first term apart -/
theorem fs_first (n : Nat) (a b m : Int) : fs (n + 1) a b m = b / m + fs n a (b + a) m := by
  induction n with
  | zero => show 0 + (a * ((0 : Nat) : Int) + b) / m = b / m + 0; simp
  | succ n ih =>
    show fs (n + 1) a b m + (a * ((n + 1 : Nat) : Int) + b) / m = b / m + (fs n a (b + a) m + (a * n + (b + a)) / m)
    rw [ih, show a * ((n + 1 : Nat) : Int) + b = a * n + (b + a) by
      rw [Int.natCast_add, Int.natCast_one, Int.mul_add]; omega]
    omega
theorem fs_swap (n : Nat) (a b m : Int) (ha : 0 < a) (ham : a < m) (hb : 0 ≤ b) (hbm : b < m) :
    fs n a b m = fs ((a * n + b) / m).toNat m ((a * n + b) % m) a := by
  induction n with
  | zero =>
    have e : (a * ((0 : Nat) : Int) + b) / m = 0 := by
      rw [show a * ((0 : Nat) : Int) + b = b by simp]
      exact Int.ediv_eq_zero_of_lt hb hbm
    rw [e]; rfl
  | succ n ih =>
    show fs n a b m + (a * n + b) / m = fs ((a * ((n + 1 : Nat) : Int) + b) / m).toNat m ((a * ((n + 1 : Nat) : Int) + b) % m) a
    rw [ih]
    have hm : 0 < m := by omega
    have hy : 0 ≤ a * n + b := by
      have := Int.mul_nonneg (Int.le_of_lt ha) (Int.natCast_nonneg n); omega
    generalize hyd : a * (n : Int) + b = y at hy
    have e : a * ((n + 1 : Nat) : Int) + b = y + a := by
      rw [Int.natCast_add, Int.natCast_one, Int.mul_add]; omega
    rw [e]
    have hq : 0 ≤ y / m := Int.ediv_nonneg hy (by omega)
    have hr0 : 0 ≤ y % m := Int.emod_nonneg _ (by omega)
    have hr1 : y % m < m := Int.emod_lt_of_pos _ hm
    have hd := Int.emod_add_mul_ediv y m
    generalize y / m = q at *
    generalize y % m = r at *
    by_cases hc : r + a < m
    · have e1 : (y + a) / m = q := by
        rw [show y + a = (r + a) + m * q by omega, div_shift _ _ _ hm, Int.ediv_eq_zero_of_lt (by omega) hc]
        omega
      have e2 : (y + a) % m = r + a := by
        have := Int.emod_add_mul_ediv (y + a) m
        rw [e1] at this
        omega
      rw [e1, e2, fs_up _ _ _ _ ha]
      omega
    · have e1 : (y + a) / m = q + 1 := by
        rw [show y + a = (r + a - m) + m * (q + 1) by rw [Int.mul_add]; omega, div_shift _ _ _ hm, Int.ediv_eq_zero_of_lt (by omega) (by omega)]
        omega
      have e2 : (y + a) % m = r + a - m := by
        have := Int.emod_add_mul_ediv (y + a) m
        rw [e1, Int.mul_add] at this
        omega
      rw [e1, e2, show (q + 1).toNat = q.toNat + 1 by omega, fs_first, Int.ediv_eq_zero_of_lt (by omega) (by omega), show r + a - m + m = r + a by omega, fs_up _ _ _ _ ha]
      omega
/-- a whole turn of the loop -/
theorem fs_turn (n a b m : Int) (hn : 0 ≤ n) (hm : 0 < m) :
    fs n.toNat a b m = a / m * tri n + b / m * n + fs ((a % m * n + b % m) / m).toNat m ((a % m * n + b % m) % m) (a % m) := by
  have h1 := fs_red n.toNat a b m hm
  have h2 := fs_redb n.toNat (a % m) b m hm
  have en : ((n.toNat : Nat) : Int) = n := by omega
  rw [en] at h1 h2
  have ha0 : 0 ≤ a % m := Int.emod_nonneg _ (by omega)
  have ha1 : a % m < m := Int.emod_lt_of_pos _ hm
  have hb0 : 0 ≤ b % m := Int.emod_nonneg _ (by omega)
  have hb1 : b % m < m := Int.emod_lt_of_pos _ hm
  by_cases hz : a % m = 0
  · have e0 : (a % m * n + b % m) / m = 0 := by
      rw [hz, Int.zero_mul, Int.zero_add]
      exact Int.ediv_eq_zero_of_lt hb0 hb1
    have z : fs n.toNat (a % m) (b % m) m = 0 := by
      rw [hz]
      have : ∀ k : Nat, fs k 0 (b % m) m = 0 := fun k => by
        induction k with
        | zero => rfl
        | succ k ih =>
          show fs k 0 (b % m) m + (0 * (k : Int) + b % m) / m = 0
          rw [ih, Int.zero_mul, Int.zero_add, Int.zero_add]
          exact Int.ediv_eq_zero_of_lt hb0 hb1
      exact this _
    rw [e0]
    show _ = _ + fs 0 m _ _
    have e3 : fs 0 m ((a % m * n + b % m) % m) (a % m) = 0 := rfl
    have e4 : (0 : Int).toNat = 0 := rfl
    rw [e3, h1, h2, z]
    omega
  · have h3 := fs_swap n.toNat (a % m) (b % m) m (by omega) ha1 hb0 hb1
    rw [en] at h3
    rw [h1, h2, h3]
    omega
theorem turn_le (n a b m : Int) (hn : 0 < n) (hm : 0 < m) : (a % m * n + b % m) / m ≤ n ∧ 0 ≤ (a % m * n + b % m) / m := by
  have ha0 : 0 ≤ a % m := Int.emod_nonneg _ (by omega)
  have ha1 : a % m < m := Int.emod_lt_of_pos _ hm
  have hb0 : 0 ≤ b % m := Int.emod_nonneg _ (by omega)
  have hb1 : b % m < m := Int.emod_lt_of_pos _ hm
  have h0 : 0 ≤ a % m * n := Int.mul_nonneg ha0 (by omega)
  refine ⟨?_, Int.ediv_nonneg (by omega) (by omega)⟩
  have h1 : a % m * n ≤ (m - 1) * n := Int.mul_le_mul_of_nonneg_right (by omega) (by omega)
  rw [Int.sub_mul, Int.one_mul] at h1
  have h2 : (a % m * n + b % m) / m < n + 1 := by
    apply Int.ediv_lt_of_lt_mul hm
    rw [Int.add_mul, Int.one_mul, Int.mul_comm n m]
    omega
  omega
theorem turn_zero (n a b m : Int) (hm : 0 < m) (hz : a % m = 0) : (a % m * n + b % m) / m = 0 := by
  rw [hz, Int.zero_mul, Int.zero_add]
  exact Int.ediv_eq_zero_of_lt (Int.emod_nonneg _ (by omega)) (Int.emod_lt_of_pos _ hm)
/-! ### sizes -/
def Bd (k : Nat) (i : Int) : Prop := i.natAbs < 2 ^ k
theorem Bd.mono {k j : Nat} {i : Int} (h : Bd k i) (e : k ≤ j) : Bd j i := Nat.lt_of_lt_of_le h (Nat.pow_le_pow_right (by decide) e)
theorem Bd.le {k : Nat} {i j : Int} (h : Bd k j) (e : i.natAbs ≤ j.natAbs) : Bd k i := Nat.lt_of_le_of_lt e h
theorem Bd.mul {k j : Nat} {x y : Int} (h : Bd k x) (h2 : Bd j y) : Bd (k + j) (x * y) := by
  unfold Bd
  rw [Int.natAbs_mul, Nat.pow_add]
  exact Nat.mul_lt_mul'' h h2
theorem Bd.add {k : Nat} {x y : Int} (h : Bd k x) (h2 : Bd k y) : Bd (k + 1) (x + y) := by
  unfold Bd at *
  rw [Nat.pow_succ]
  omega
theorem Bd.sub {k : Nat} {x y : Int} (h : Bd k x) (h2 : Bd k y) : Bd (k + 1) (x - y) := by
  unfold Bd at *
  rw [Nat.pow_succ]
  omega
theorem Bd.neg {k : Nat} {x : Int} (h : Bd k x) : Bd k (-x) := by
  unfold Bd at *
  omega
theorem Bd.ediv {k : Nat} {x m : Int} (h : Bd k x) (hm : 0 < m) : Bd k (x / m) := by
  refine h.le ?_
  rcases Int.lt_or_le x 0 with hx | hx
  · have h1 : x / m < 0 := Int.ediv_neg_of_neg_of_pos hx hm
    have h2 : x ≤ x / m := by
      apply Int.le_ediv_of_mul_le hm
      have : (-x) * 1 ≤ (-x) * m := Int.mul_le_mul_of_nonneg_left (by omega) (by omega)
      rw [Int.neg_mul, Int.neg_mul, Int.mul_one] at this
      omega
    omega
  · have h1 : 0 ≤ x / m := Int.ediv_nonneg hx (by omega)
    have h2 : x / m ≤ x := Int.ediv_le_self _ hx
    omega
theorem Bd.emod {k : Nat} {x m : Int} (h : Bd k m) (hm : 0 < m) : Bd k (x % m) := by
  refine h.le ?_
  have := Int.emod_nonneg x (show m ≠ 0 by omega)
  have := Int.emod_lt_of_pos x hm
  omega
theorem Bd.log {k : Nat} {i : Int} (h : Bd k i) (hk : 0 < k) : i.natAbs.log2 < k := by
  by_cases e : i.natAbs = 0
  · rw [e]; exact hk
  · exact (Nat.log2_lt e).mpr h
theorem Bd.small {k : Nat} {i : Int} (c : Nat) (h : i.natAbs < 2 ^ c) (e : c ≤ k) : Bd k i := Bd.mono (k := c) h e
theorem Bd.between {k : Nat} {x y : Int} (h : Bd k y) (h0 : 0 ≤ x) (h1 : x ≤ y) : Bd k x := h.le (by omega)
/-! ### the greatest common divisor -/
theorem gcd_turn (x y : Int) (hx : 0 ≤ x) (hy : 0 < y) : Int.gcd y (x % y) = Int.gcd x y := by
  unfold Int.gcd
  rw [show (x % y).natAbs = x.natAbs % y.natAbs by
    obtain ⟨a, rfl⟩ := Int.eq_ofNat_of_zero_le hx
    obtain ⟨b, rfl⟩ := Int.eq_ofNat_of_zero_le (Int.le_of_lt hy)
    rfl]
  rw [Nat.gcd_comm, ← Nat.gcd_rec, Nat.gcd_comm]
end Lf
namespace Lf
theorem nab_ediv {x m : Int} (hm : 0 < m) : (x / m).natAbs ≤ x.natAbs := by
  rcases Int.lt_or_le x 0 with hx | hx
  · have h1 : x / m < 0 := Int.ediv_neg_of_neg_of_pos hx hm
    have h2 : x ≤ x / m := by
      apply Int.le_ediv_of_mul_le hm
      have : (-x) * 1 ≤ (-x) * m := Int.mul_le_mul_of_nonneg_left (by omega) (by omega)
      rw [Int.neg_mul, Int.neg_mul, Int.mul_one] at this
      omega
    omega
  · have h1 : 0 ≤ x / m := Int.ediv_nonneg hx (by omega)
    have h2 : x / m ≤ x := Int.ediv_le_self _ hx
    omega
theorem fs_nab (n : Nat) (a b m : Int) (hm : 0 < m) : (fs n a b m).natAbs ≤ n * (a.natAbs * n + b.natAbs) := by
  induction n with
  | zero => show (0 : Int).natAbs ≤ _; simp
  | succ n ih =>
    show (fs n a b m + (a * n + b) / m).natAbs ≤ (n + 1) * (a.natAbs * (n + 1) + b.natAbs)
    have h1 := nab_ediv (x := a * n + b) hm
    have h2 := Int.natAbs_add_le (a * n) b
    have h3 := Int.natAbs_add_le (fs n a b m) ((a * n + b) / m)
    have h4 : (a * (n : Int)).natAbs = a.natAbs * n := by rw [Int.natAbs_mul]; rfl
    rw [h4] at h2
    have h5 : n * (a.natAbs * n + b.natAbs) ≤ n * (a.natAbs * (n + 1) + b.natAbs) := Nat.mul_le_mul_left _ (Nat.add_le_add_right (Nat.mul_le_mul_left _ (by omega)) _)
    have h6 : a.natAbs * n ≤ a.natAbs * (n + 1) := Nat.mul_le_mul_left _ (by omega)
    rw [Nat.add_mul, Nat.one_mul]
    omega
theorem fs_bd {n k j : Nat} {a b m : Int} (hm : 0 < m) (hn : n < 2 ^ j) (ha : Bd k a) (hb : Bd k b) : Bd (j + (k + j + 1)) (fs n a b m) := by
  unfold Bd at *
  have h := fs_nab n a b m hm
  refine Nat.lt_of_le_of_lt h ?_
  rw [Nat.pow_add 2 j]
  have h1 : a.natAbs * n + b.natAbs < 2 ^ (k + j + 1) := by
    have e : a.natAbs * n ≤ 2 ^ k * 2 ^ j := Nat.mul_le_mul (Nat.le_of_lt ha) (Nat.le_of_lt hn)
    have e2 : 2 ^ k ≤ 2 ^ k * 2 ^ j := Nat.le_mul_of_pos_right _ (Nat.pow_pos (by decide))
    rw [Nat.pow_succ, Nat.pow_add]
    omega
  exact Nat.mul_lt_mul'' hn h1
def trm (p q c s : Int) (i : Nat) : Int := (p * (s + i) + c) / q
theorem trm_sum (p q c s : Int) (n : Nat) : ((List.range n).map (trm p q c s)).sum = fs n p (p * s + c) q := by
  induction n with
  | zero => rfl
  | succ n ih =>
    rw [List.range_succ, List.map_append, List.sum_append, ih]
    show _ + (trm p q c s n + 0) = fs n p (p * s + c) q + (p * n + (p * s + c)) / q
    unfold trm
    rw [show p * (s + (n : Int)) + c = p * n + (p * s + c) by rw [Int.mul_add]; omega]
    omega
end Lf
namespace Lf
/-! ### triples in lowest terms -/
def gg (p q : Int) : Int := (Int.gcd p q : Int)
theorem gg_pos {p q : Int} (h : 1 ≤ q) : 0 < gg p q := by
  have : 0 < Int.gcd p q := Int.gcd_pos_of_ne_zero_right _ (by omega)
  unfold gg
  omega
theorem gg_p (p q : Int) : p = gg p q * (p / gg p q) := (Int.mul_ediv_cancel' (Int.gcd_dvd_left ..)).symm
theorem gg_q (p q : Int) : q = gg p q * (q / gg p q) := (Int.mul_ediv_cancel' (Int.gcd_dvd_right ..)).symm
theorem gg_mul (g x y : Int) (h : 0 ≤ g) : gg (g * x) (g * y) = g * gg x y := by
  unfold gg
  rw [Int.gcd_mul_left, Int.natCast_mul, Int.natAbs_of_nonneg h]
/-- reduced, multiplied, reduced again -/
theorem gg_twice (p q u v : Int) (h : 1 ≤ q) : gg (u * p) (v * q) = gg p q * gg (u * (p / gg p q)) (v * (q / gg p q)) := by
  have hg := gg_pos (p := p) h
  rw [← gg_mul _ _ _ (Int.le_of_lt hg)]
  congr 1
  · rw [Int.mul_left_comm, ← gg_p]
  · rw [Int.mul_left_comm, ← gg_q]
theorem red_p (p q u v : Int) (h : 1 ≤ q) (hv : 1 ≤ v) : u * (p / gg p q) / gg (u * (p / gg p q)) (v * (q / gg p q)) = u * p / gg (u * p) (v * q) := by
  have hg := gg_pos (p := p) h
  have e := gg_twice p q u v h
  rw [e]
  have e2 : u * p = gg p q * (u * (p / gg p q)) := by rw [Int.mul_left_comm, ← gg_p]
  rw [e2, Int.mul_ediv_mul_of_pos _ _ hg]
theorem red_q (p q u v : Int) (h : 1 ≤ q) (hv : 1 ≤ v) : v * (q / gg p q) / gg (u * (p / gg p q)) (v * (q / gg p q)) = v * q / gg (u * p) (v * q) := by
  have hg := gg_pos (p := p) h
  have e := gg_twice p q u v h
  rw [e]
  have e2 : v * q = gg p q * (v * (q / gg p q)) := by rw [Int.mul_left_comm, ← gg_q]
  rw [e2, Int.mul_ediv_mul_of_pos _ _ hg]
theorem red_c (p q u v c : Int) (h : 1 ≤ q) (hv : 1 ≤ v) : c / gg p q / gg (u * (p / gg p q)) (v * (q / gg p q)) = c / gg (u * p) (v * q) := by
  have hg := gg_pos (p := p) h
  rw [gg_twice p q u v h, Int.ediv_ediv_of_nonneg (Int.le_of_lt hg)]
theorem red_shift (p q a b c : Int) (h : 1 ≤ q) : (p * a + q * b + c) / gg p q = p / gg p q * a + q / gg p q * b + c / gg p q := by
  have hg := gg_pos (p := p) h
  have e : p * a + q * b + c = c + gg p q * (p / gg p q * a + q / gg p q * b) := by
    rw [Int.mul_add, ← Int.mul_assoc, ← Int.mul_assoc, ← gg_p, ← gg_q]
    omega
  rw [e, div_shift _ _ _ hg]
  omega
theorem div_neg1 (c g : Int) (hg : 0 < g) : (-1 - c) / g = -1 - c / g := by
  have e := Int.emod_add_mul_ediv c g
  have h0 := Int.emod_nonneg c (show g ≠ 0 by omega)
  have h1 := Int.emod_lt_of_pos c hg
  have e2 : -1 - c = (g - 1 - c % g) + g * (-1 - c / g) := by
    rw [Int.mul_sub]
    omega
  rw [e2, div_shift _ _ _ hg, Int.ediv_eq_zero_of_lt (by omega) (by omega)]
  omega
theorem red_mirror (p q c : Int) (h : 1 ≤ q) : (q - 1 - c) / gg p q = q / gg p q - 1 - c / gg p q := by
  have hg := gg_pos (p := p) h
  have e : q - 1 - c = (-1 - c) + gg p q * (q / gg p q) := by
    rw [← gg_q]
    omega
  rw [e, div_shift _ _ _ hg, div_neg1 _ _ hg]
  omega
end Lf
namespace Lf
theorem gg1 {p q : Int} (h : Int.gcd p q = 1) : gg p q = 1 := by
  unfold gg
  rw [h]
  rfl
theorem thin2 (p q c j k : Int) (h : 1 ≤ q * j) (hk : 1 ≤ k) :
    p / gg p (q * j) / gg (p / gg p (q * j)) (q * j / gg p (q * j) * k) = p / gg p (q * (j * k)) ∧
    q * j / gg p (q * j) * k / gg (p / gg p (q * j)) (q * j / gg p (q * j) * k) = q * (j * k) / gg p (q * (j * k)) ∧
    c / gg p (q * j) / gg (p / gg p (q * j)) (q * j / gg p (q * j) * k) = c / gg p (q * (j * k)) := by
  have e : q * (j * k) = k * (q * j) := by rw [← Int.mul_assoc, Int.mul_comm]
  have h1 := red_p p (q * j) 1 k h hk
  have h2 := red_q p (q * j) 1 k h hk
  have h3 := red_c p (q * j) 1 k c h hk
  simp only [Int.one_mul] at h1 h2 h3
  rw [Int.mul_comm (q * j / gg p (q * j)) k, e]
  exact ⟨h1, h2, h3⟩
theorem sample2 (p q c j k : Int) (h : 1 ≤ q) :
    p * j / gg (p * j) q * k / gg (p * j / gg (p * j) q * k) (q / gg (p * j) q) = p * (j * k) / gg (p * (j * k)) q ∧
    q / gg (p * j) q / gg (p * j / gg (p * j) q * k) (q / gg (p * j) q) = q / gg (p * (j * k)) q ∧
    c / gg (p * j) q / gg (p * j / gg (p * j) q * k) (q / gg (p * j) q) = c / gg (p * (j * k)) q := by
  have e : p * (j * k) = k * (p * j) := by rw [← Int.mul_assoc, Int.mul_comm]
  have h1 := red_p (p * j) q k 1 h (by decide)
  have h2 := red_q (p * j) q k 1 h (by decide)
  have h3 := red_c (p * j) q k 1 c h (by decide)
  simp only [Int.one_mul] at h1 h2 h3
  rw [Int.mul_comm (p * j / gg (p * j) q) k, e]
  exact ⟨h1, h2, h3⟩
theorem both2 (p q c k : Int) (h : 1 ≤ q) (hk : 1 ≤ k) :
    p * k / gg (p * k) q / gg (p * k / gg (p * k) q) (q / gg (p * k) q * k) = k * p / gg (k * p) (k * q) ∧
    q / gg (p * k) q * k / gg (p * k / gg (p * k) q) (q / gg (p * k) q * k) = k * q / gg (k * p) (k * q) ∧
    c / gg (p * k) q / gg (p * k / gg (p * k) q) (q / gg (p * k) q * k) = c / gg (k * p) (k * q) := by
  have h1 := red_p (p * k) q 1 k h hk
  have h2 := red_q (p * k) q 1 k h hk
  have h3 := red_c (p * k) q 1 k c h hk
  simp only [Int.one_mul] at h1 h2 h3
  rw [Int.mul_comm (q / gg (p * k) q) k, Int.mul_comm k p]
  exact ⟨h1, h2, h3⟩
theorem one_le_mul {x y : Int} (h : 1 ≤ x) (h2 : 1 ≤ y) : 1 ≤ x * y := by
  have := Int.mul_le_mul h h2 (by decide) (by omega)
  omega
end Lf
namespace Lf
/-! ### sums over ranges -/
theorem fs_add (n m : Nat) (a b q : Int) : fs (n + m) a b q = fs n a b q + fs m a (a * n + b) q := by
  induction m with
  | zero => show fs n a b q = fs n a b q + 0; omega
  | succ m ih =>
    show fs (n + m) a b q + (a * ((n + m : Nat) : Int) + b) / q = fs n a b q + (fs m a (a * n + b) q + (a * m + (a * n + b)) / q)
    rw [ih, show a * ((n + m : Nat) : Int) + b = a * m + (a * n + b) by rw [Int.natCast_add, Int.mul_add]; omega]
    omega
/-- two neighbouring ranges -/
theorem fs_split (p q c s m e : Int) (h1 : s ≤ m) (h2 : m ≤ e) : fs (m - s).toNat p (p * s + c) q + fs (e - m).toNat p (p * m + c) q = fs (e - s).toNat p (p * s + c) q := by
  have e1 : (e - s).toNat = (m - s).toNat + (e - m).toNat := by omega
  rw [e1, fs_add, show ((m - s).toNat : Int) = m - s by omega, show p * (m - s) + (p * s + c) = p * m + c by rw [Int.mul_sub]; omega]
theorem fs_one (p b q : Int) : fs 1 p b q = b / q := by
  show 0 + (p * ((0 : Nat) : Int) + b) / q = b / q
  simp
/-- one step of the offset: a term grows by one exactly where the divisor divides -/
theorem step_div (x q : Int) (h : 0 < q) : (x + 1) / q = x / q + (if (x + 1) % q = 0 then 1 else 0) := by
  have e := Int.emod_add_mul_ediv x q
  have h0 := Int.emod_nonneg x (show q ≠ 0 by omega)
  have h1 := Int.emod_lt_of_pos x h
  by_cases hc : x % q + 1 = q
  · have e2 : x + 1 = 0 + q * (x / q + 1) := by rw [Int.mul_add]; omega
    have e3 : (x + 1) % q = 0 := by rw [e2, Int.zero_add, Int.mul_emod_right]
    rw [if_pos e3, e2, div_shift _ _ _ h, Int.zero_ediv]
    omega
  · have e2 : x + 1 = (x % q + 1) + q * (x / q) := by omega
    have e3 : (x + 1) % q = x % q + 1 := by
      rw [e2, Int.add_mul_emod_self_left]
      exact Int.emod_eq_of_lt (by omega) (by omega)
    rw [if_neg (by omega)]
    rw [e2, div_shift _ _ _ h, Int.ediv_eq_zero_of_lt (by omega) (by omega)]
    omega
theorem hit_once (p q b : Int) (hg : Int.gcd p q = 1) (i j : Int) (hi : 0 ≤ i) (hij : i < j) (hj : j < q) (h1 : (p * i + b) % q = 0) (h2 : (p * j + b) % q = 0) : False := by
  have d1 := Int.dvd_of_emod_eq_zero h1
  have d2 := Int.dvd_of_emod_eq_zero h2
  have d3 : q ∣ p * (j - i) := by
    have := Int.dvd_sub d2 d1
    rw [show p * j + b - (p * i + b) = p * (j - i) by rw [Int.mul_sub]; omega] at this
    exact this
  have d4 : q ∣ j - i := by
    have n1 : q.natAbs ∣ p.natAbs * (j - i).natAbs := by
      rw [← Int.natAbs_mul]
      exact Int.natAbs_dvd_natAbs.mpr d3
    have n2 : Nat.Coprime q.natAbs p.natAbs := by
      unfold Nat.Coprime
      rw [Nat.gcd_comm]
      exact hg
    exact Int.natAbs_dvd_natAbs.mp (Nat.Coprime.dvd_of_dvd_mul_left n2 n1)
  have := Int.le_of_dvd (by omega) d4
  omega
theorem fs_step_le (p q b : Int) (hq : 0 < q) (hg : Int.gcd p q = 1) (n : Nat) (hn : (n : Int) ≤ q) :
    fs n p (b + 1) q - fs n p b q = 0 ∧ (∀ i : Nat, i < n → (p * i + (b + 1)) % q ≠ 0) ∨ fs n p (b + 1) q - fs n p b q = 1 ∧ (∃ i : Nat, i < n ∧ (p * i + (b + 1)) % q = 0) := by
  induction n with
  | zero => exact .inl ⟨rfl, fun i h => absurd h (by omega)⟩
  | succ n ih =>
    have e : fs (n + 1) p (b + 1) q - fs (n + 1) p b q = (fs n p (b + 1) q - fs n p b q) + ((p * n + (b + 1)) / q - (p * n + b) / q) := by
      show fs n p (b + 1) q + (p * n + (b + 1)) / q - (fs n p b q + (p * n + b) / q) = _
      omega
    have s := step_div (p * n + b) q hq
    rw [show p * (n : Int) + b + 1 = p * n + (b + 1) by omega] at s
    rw [e]
    rcases ih (by omega) with ⟨h1, h2⟩ | ⟨h1, i, hi, h2⟩
    · by_cases hc : (p * (n : Int) + (b + 1)) % q = 0
      · rw [if_pos hc] at s
        exact .inr ⟨by omega, n, by omega, hc⟩
      · rw [if_neg hc] at s
        refine .inl ⟨by omega, fun i hi => ?_⟩
        by_cases hin : i = n
        · subst hin; exact hc
        · exact h2 i (by omega)
    · have hc : ¬ (p * (n : Int) + (b + 1)) % q = 0 := fun z => hit_once p q (b + 1) hg i n (by omega) (by omega) (by omega) h2 z
      rw [if_neg hc] at s
      exact .inr ⟨by omega, i, by omega, h2⟩
theorem fs_step (p q b : Int) (hq : 0 < q) (hg : Int.gcd p q = 1) : fs q.toNat p (b + 1) q = fs q.toNat p b q + 1 := by
  have hle : ∀ b, fs q.toNat p (b + 1) q - fs q.toNat p b q ≤ 1 := fun b => by
    rcases fs_step_le p q b hq hg q.toNat (by omega) with ⟨h, _⟩ | ⟨h, _⟩ <;> omega
  have many : ∀ (k : Nat) (b : Int), fs q.toNat p (b + k) q - fs q.toNat p b q ≤ k := fun k => by
    induction k with
    | zero => intro b; simp
    | succ k ih =>
      intro b
      have h1 := ih b
      have h2 := hle (b + k)
      rw [show b + ((k + 1 : Nat) : Int) = b + k + 1 by omega]
      omega
  have up := fs_up q.toNat p b q hq
  have h1 := many (q.toNat - 1) (b + 1)
  rw [show b + 1 + ((q.toNat - 1 : Nat) : Int) = b + q by omega] at h1
  have h2 := hle b
  omega
theorem fs_from (p q : Int) (hq : 0 < q) (hg : Int.gcd p q = 1) (k : Nat) (b : Int) : fs q.toNat p (b + k) q = fs q.toNat p b q + k := by
  induction k with
  | zero => simp
  | succ k ih =>
    rw [show b + ((k + 1 : Nat) : Int) = b + k + 1 by omega, fs_step p q _ hq hg, ih]
    omega
theorem fs_any (p q b : Int) (hq : 0 < q) (hg : Int.gcd p q = 1) : fs q.toNat p b q = fs q.toNat p 0 q + b := by
  rcases Int.lt_or_le b 0 with h | h
  · have := fs_from p q hq hg (-b).toNat b
    rw [show b + ((-b).toNat : Int) = 0 by omega] at this
    omega
  · have := fs_from p q hq hg b.toNat 0
    rw [show 0 + (b.toNat : Int) = b by omega] at this
    omega
/-- terms in reverse order -/
theorem fs_rev (n : Nat) (a b q : Int) : fs n a b q = fs n (-a) (a * (n - 1) + b) q := by
  induction n with
  | zero => rfl
  | succ n ih =>
    rw [fs_first n (-a)]
    show fs n a b q + (a * n + b) / q = _
    rw [ih, show a * (((n + 1 : Nat) : Int) - 1) + b = a * n + b by rw [show ((n + 1 : Nat) : Int) - 1 = n by omega],
      show a * (n : Int) + b + -a = a * (n - 1) + b by rw [Int.mul_sub]; omega]
    omega
/-- negated terms -/
theorem fs_neg (n : Nat) (a b q : Int) (hq : 0 < q) : fs n (-a) (-b) q = - fs n a (b + q - 1) q := by
  induction n with
  | zero => rfl
  | succ n ih =>
    show fs n (-a) (-b) q + (-a * n + -b) / q = - (fs n a (b + q - 1) q + (a * n + (b + q - 1)) / q)
    rw [ih]
    have h1 := div_neg1 (a * n + (b - 1)) q hq
    have h2 := div_shift (a * n + (b - 1)) 1 q hq
    rw [show -1 - (a * (n : Int) + (b - 1)) = -a * n + -b by rw [Int.neg_mul]; omega] at h1
    rw [show a * (n : Int) + (b - 1) + q * 1 = a * n + (b + q - 1) by omega] at h2
    omega
theorem fs_cycle (p q b : Int) (hq : 0 < q) (hg : Int.gcd p q = 1) : fs q.toNat p b q = b + (p - 1) * (q - 1) / 2 := by
  have h0 := fs_any p q b hq hg
  have r := fs_rev q.toNat p 0 q
  have ng := fs_neg q.toNat p (-(p * (q - 1))) q hq
  rw [show ((q.toNat : Nat) : Int) = q by omega, Int.add_zero] at r
  rw [Int.neg_neg] at ng
  have h2 := fs_any p q (-(p * (q - 1)) + q - 1) hq hg
  have key : 2 * fs q.toNat p 0 q = (p - 1) * (q - 1) := by
    have e : (p - 1) * (q - 1) = p * (q - 1) - (q - 1) := by rw [Int.sub_mul, Int.one_mul]
    omega
  have : (p - 1) * (q - 1) / 2 = fs q.toNat p 0 q := by
    rw [← key, Int.mul_ediv_cancel_left _ (by decide)]
  omega
/-- Hermite's identity -/
theorem fs_hermite (k y : Int) (hk : 0 < k) : fs k.toNat 1 y k = y := by
  have := fs_cycle 1 k y hk (by simp [Int.gcd])
  rw [this]
  simp
/-- mirrored -/
theorem fs_mirror (n : Nat) (p q c s : Int) (hq : 0 < q) : fs n p (p * (1 - (s + n)) + (q - 1 - c)) q = - fs n p (p * s + c) q := by
  induction n with
  | zero => rfl
  | succ n ih =>
    rw [fs_first]
    show _ = -(fs n p (p * s + c) q + (p * n + (p * s + c)) / q)
    have e1 : p * (1 - (s + ((n + 1 : Nat) : Int))) + (q - 1 - c) + p = p * (1 - (s + n)) + (q - 1 - c) := by
      rw [show (1 - (s + ((n + 1 : Nat) : Int))) = (1 - (s + n)) - 1 by omega, Int.mul_sub p _ 1]
      omega
    rw [e1, ih]
    have h1 := div_neg1 (p * n + (p * s + c)) q hq
    have h2 := div_shift (-1 - (p * n + (p * s + c))) 1 q hq
    rw [show -1 - (p * (n : Int) + (p * s + c)) + q * 1 = p * (1 - (s + ((n + 1 : Nat) : Int))) + (q - 1 - c) by
      rw [show (1 - (s + ((n + 1 : Nat) : Int))) = -(n : Int) - s by omega, Int.mul_sub, Int.mul_neg]; omega] at h2
    omega
theorem fs_lowest (n : Nat) (p q c s : Int) (hq : 1 ≤ q) : fs n (p / gg p q) (p / gg p q * s + c / gg p q) (q / gg p q) = fs n p (p * s + c) q := by
  have hg := gg_pos (p := p) hq
  induction n with
  | zero => rfl
  | succ n ih =>
    show fs n (p / gg p q) (p / gg p q * s + c / gg p q) (q / gg p q) + (p / gg p q * n + (p / gg p q * s + c / gg p q)) / (q / gg p q) = fs n p (p * s + c) q + (p * n + (p * s + c)) / q
    rw [ih]
    have e1 : p / gg p q * n + (p / gg p q * s + c / gg p q) = (p * n + (p * s + c)) / gg p q := by
      have : p * n + (p * s + c) = c + gg p q * (p / gg p q * n + p / gg p q * s) := by
        rw [Int.mul_add, ← Int.mul_assoc, ← Int.mul_assoc, ← gg_p]
        omega
      rw [this, div_shift _ _ _ hg]
      omega
    have e2 : (p * n + (p * s + c)) / gg p q / (q / gg p q) = (p * n + (p * s + c)) / q := by
      rw [Int.ediv_ediv_of_nonneg (Int.le_of_lt hg), ← gg_q]
    rw [e1, e2]
theorem sum_map_add {α : Type} (l : List α) (f g : α → Int) : (l.map fun x => f x + g x).sum = (l.map f).sum + (l.map g).sum := by
  induction l with
  | nil => rfl
  | cons x r ih => simp only [List.map_cons, List.sum_cons, ih]; omega
theorem range_fs (k : Nat) (a b q : Int) : ((List.range k).map fun (j : Nat) => (a * j + b) / q).sum = fs k a b q := by
  induction k with
  | zero => rfl
  | succ k ih =>
    rw [List.range_succ, List.map_append, List.sum_append, ih]
    show _ + ((a * k + b) / q + 0) = fs k a b q + (a * k + b) / q
    omega
theorem fs_thin (n : Nat) (p q b k : Int) (hq : 0 < q) (hk : 0 < k) : ((List.range k.toNat).map fun (j : Nat) => fs n p (b + q * j) (q * k)).sum = fs n p b q := by
  induction n with
  | zero =>
    show ((List.range k.toNat).map fun _ => (0 : Int)).sum = 0
    induction k.toNat with
    | zero => rfl
    | succ m ih => rw [List.range_succ, List.map_append, List.sum_append, ih]; rfl
  | succ n ih =>
    have e : (List.range k.toNat).map (fun (j : Nat) => fs (n + 1) p (b + q * j) (q * k)) = (List.range k.toNat).map (fun (j : Nat) => fs n p (b + q * j) (q * k) + (1 * (j : Int) + (p * n + b) / q) / k) := by
      apply List.map_congr_left
      intro j _
      show fs n p (b + q * j) (q * k) + (p * n + (b + q * j)) / (q * k) = _
      rw [← Int.ediv_ediv_of_nonneg (Int.le_of_lt hq), show p * (n : Int) + (b + q * j) = (p * n + b) + q * j by omega, div_shift _ _ _ hq, Int.one_mul, Int.add_comm]
      rw [Int.add_comm (j : Int)]
      omega
    rw [e, sum_map_add, ih, range_fs, fs_hermite _ _ hk]
    rfl
theorem fs_sample (n : Nat) (p q b k : Int) (hk : 0 ≤ k) : ((List.range k.toNat).map fun (j : Nat) => fs n (p * k) (b + p * j) q).sum = fs (k.toNat * n) p b q := by
  induction n with
  | zero =>
    show ((List.range k.toNat).map fun _ => (0 : Int)).sum = 0
    induction k.toNat with
    | zero => rfl
    | succ m ih => rw [List.range_succ, List.map_append, List.sum_append, ih]; rfl
  | succ n ih =>
    have e : (List.range k.toNat).map (fun (j : Nat) => fs (n + 1) (p * k) (b + p * j) q) = (List.range k.toNat).map (fun (j : Nat) => fs n (p * k) (b + p * j) q + (p * (j : Int) + (p * ((k.toNat * n : Nat) : Int) + b)) / q) := by
      apply List.map_congr_left
      intro j _
      show fs n (p * k) (b + p * j) q + (p * k * n + (b + p * j)) / q = _
      rw [Int.natCast_mul, show ((k.toNat : Nat) : Int) = k by omega, ← Int.mul_assoc]
      rw [show p * k * (n : Int) + (b + p * j) = p * j + (p * k * n + b) by omega]
    rw [e, sum_map_add, ih, range_fs, Nat.mul_succ, fs_add]
end Lf
namespace Lf
theorem fs_lin (n : Nat) (a b m i j : Int) (hm : 0 < m) : fs n (a + i * m) (b + j * m) m = fs n a b m + i * tri n + j * n := by
  induction n with
  | zero => simp [fs, tri_zero]
  | succ n ih =>
    show fs n (a + i * m) (b + j * m) m + ((a + i * m) * n + (b + j * m)) / m = fs n a b m + (a * n + b) / m + i * tri ((n + 1 : Nat) : Int) + j * ((n + 1 : Nat) : Int)
    rw [ih, show (a + i * m) * (n : Int) + (b + j * m) = (a * n + b) + m * (i * n + j) by
      rw [Int.add_mul, Int.mul_add, Int.mul_comm i m, Int.mul_assoc, Int.mul_comm j m]; omega, div_shift _ _ _ hm, Int.natCast_add, Int.natCast_one, tri_succ, Int.mul_add, Int.mul_add]
    omega
theorem fs_scale (n : Nat) (a b m k : Int) (hk : 0 < k) : fs n (a * k) (b * k) (m * k) = fs n a b m := by
  induction n with
  | zero => rfl
  | succ n ih =>
    show fs n (a * k) (b * k) (m * k) + (a * k * n + b * k) / (m * k) = fs n a b m + (a * n + b) / m
    rw [ih, show a * k * (n : Int) + b * k = (a * n + b) * k by rw [Int.add_mul, Int.mul_right_comm], Int.mul_ediv_mul_of_pos_left _ _ hk]
theorem fs_last (n a b m : Int) (hn : 0 < n) : fs n.toNat a b m - fs (n - 1).toNat a b m = (a * (n - 1) + b) / m := by
  have e : n.toNat = (n - 1).toNat + 1 := by omega
  rw [e]
  show fs (n - 1).toNat a b m + (a * ((n - 1).toNat : Int) + b) / m - fs (n - 1).toNat a b m = _
  rw [show ((n - 1).toNat : Int) = n - 1 by omega]
  omega
theorem fs_part (n k a b m : Int) (h0 : 0 ≤ k) (h1 : k ≤ n) : fs k.toNat a b m + fs (n - k).toNat a (a * k + b) m = fs n.toNat a b m := by
  rw [show n.toNat = k.toNat + (n - k).toNat by omega, fs_add, show ((k.toNat : Nat) : Int) = k by omega]
theorem Bd.grow3 {k : Nat} {r d : Int} (h0 : 0 ≤ r) (h : Bd k r) (d0 : 0 ≤ d) (d1 : d < 1000) : Bd (k + 10) (1000 * r + d) := by
  unfold Bd at *
  have e : (2 : Nat) ^ (k + 10) = 2 ^ k * 1024 := by rw [Nat.pow_add]
  rw [e]
  generalize (2 : Nat) ^ k = m at h
  omega
theorem Bd.grow1 {k : Nat} {r d : Int} (h0 : 0 ≤ r) (h : Bd k r) (d0 : 0 ≤ d) (d1 : d < 10) : Bd (k + 4) (10 * r + d) := by
  unfold Bd at *
  have e : (2 : Nat) ^ (k + 4) = 2 ^ k * 16 := by rw [Nat.pow_add]
  rw [e]
  generalize (2 : Nat) ^ k = m at h
  omega
end Lf
namespace Lf
/-! ### events -/
theorem gal {p q : Int} (c m t : Int) (hp : 1 ≤ p) (hq : 1 ≤ q) : m ≤ (p * t + c) / q ↔ (q * m + (p - 1 - c)) / p ≤ t := by
  rw [Int.le_ediv_iff_mul_le (by omega), ← Int.lt_add_one_iff (a := (q * m + (p - 1 - c)) / p), Int.ediv_lt_iff_lt_mul (by omega), Int.mul_comm m q, Int.add_mul, Int.one_mul, Int.mul_comm t p]
  omega
theorem ct_mono {p q c s t : Int} (hp : 0 ≤ p) (hq : 1 ≤ q) (h : s ≤ t) : (p * s + c) / q ≤ (p * t + c) / q := by
  apply Int.ediv_le_ediv (by omega)
  have := Int.mul_le_mul_of_nonneg_left h hp
  omega
theorem ev_at {p q c m t : Int} (hp : 1 ≤ p) (hq : 1 ≤ q) (h1 : (p * (t - 1) + c) / q < m) (h2 : m ≤ (p * t + c) / q) : (q * m + (p - 1 - c)) / p = t := by
  have a := (gal c m t hp hq).mp h2
  have b : ¬ (q * m + (p - 1 - c)) / p ≤ t - 1 := fun h => by
    have := (gal c m (t - 1) hp hq).mpr h
    omega
  omega
theorem fs_const (k : Nat) (a b m v : Int) (h : ∀ i : Nat, i < k → (a * i + b) / m = v) : fs k a b m = k * v := by
  induction k with
  | zero => simp [fs]
  | succ k ih =>
    show fs k a b m + (a * k + b) / m = ((k + 1 : Nat) : Int) * v
    rw [ih (fun i hi => h i (by omega)), h k (by omega), Int.natCast_add, Int.natCast_one, Int.add_mul]
    omega
/-- the sum of the counts of a range by the times of its events -/
theorem fs_dual (p q c s : Int) (hp : 1 ≤ p) (hq : 1 ≤ q) (n : Nat) :
    fs n p (p * s + c) q = n * ((p * (s - 1) + c) / q) + ((p * (s + n - 1) + c) / q - (p * (s - 1) + c) / q) * (s + n) - fs ((p * (s + n - 1) + c) / q - (p * (s - 1) + c) / q).toNat q (q * ((p * (s - 1) + c) / q + 1) + (p - 1 - c)) p := by
  induction n with
  | zero =>
    rw [show s + ((0 : Nat) : Int) - 1 = s - 1 by omega, Int.sub_self]
    simp [fs]
  | succ n ih =>
    show fs n p (p * s + c) q + (p * n + (p * s + c)) / q = _
    rw [ih]
    have e0 : p * (n : Int) + (p * s + c) = p * (s + ((n + 1 : Nat) : Int) - 1) + c := by
      rw [show s + ((n + 1 : Nat) : Int) - 1 = s + n by omega, Int.mul_add]
      omega
    rw [e0]
    have m1 : (p * (s - 1) + c) / q ≤ (p * (s + n - 1) + c) / q := ct_mono (by omega) hq (by omega)
    have m2 : (p * (s + n - 1) + c) / q ≤ (p * (s + ((n + 1 : Nat) : Int) - 1) + c) / q := ct_mono (by omega) hq (by omega)
    have key : ∀ i : Nat, (i : Int) < (p * (s + ((n + 1 : Nat) : Int) - 1) + c) / q - (p * (s + n - 1) + c) / q → (q * ((p * (s + n - 1) + c) / q + 1 + i) + (p - 1 - c)) / p = s + n := fun i hi => by
      apply ev_at hp hq
      · show (p * (s + n - 1) + c) / q < _
        omega
      · rw [show s + (n : Int) = s + ((n + 1 : Nat) : Int) - 1 by omega] at *
        omega
    generalize hl : (p * (s - 1) + c) / q = low at *
    generalize hh : (p * (s + n - 1) + c) / q = hi at *
    generalize hh2 : (p * (s + ((n + 1 : Nat) : Int) - 1) + c) / q = hi2 at *
    rw [show (hi2 - low).toNat = (hi - low).toNat + (hi2 - hi).toNat by omega, fs_add, show ((hi - low).toNat : Int) = hi - low by omega]
    have fc := fs_const (hi2 - hi).toNat q (q * (hi - low) + (q * (low + 1) + (p - 1 - c))) p (s + n) (fun i h => by
      have := key i (by omega)
      rw [show q * (i : Int) + (q * (hi - low) + (q * (low + 1) + (p - 1 - c))) = q * (hi + 1 + i) + (p - 1 - c) by
        have : q * (hi + 1 + i) = q * i + q * (hi - low) + q * (low + 1) := by rw [← Int.mul_add, ← Int.mul_add]; congr 1; omega
        omega]
      exact this)
    rw [fc, show ((hi2 - hi).toNat : Int) = hi2 - hi by omega]
    rw [show s + ((n + 1 : Nat) : Int) = s + n + 1 by omega, show ((n + 1 : Nat) : Int) = n + 1 by omega]
    generalize s + (n : Int) = x
    have e3 : (hi2 - low) * (x + 1) = hi2 * x - low * x + hi2 - low := by rw [Int.mul_add, Int.sub_mul]; omega
    have e4 : (hi - low) * x = hi * x - low * x := by rw [Int.sub_mul]
    have e5 : (hi2 - hi) * x = hi2 * x - hi * x := by rw [Int.sub_mul]
    have e6 : ((n : Int) + 1) * low = n * low + low := by rw [Int.add_mul, Int.one_mul]
    rw [e3, e4, e5, e6]
    omega
theorem ct_fast {p q c s : Int} (hq : 1 ≤ q) (h : q ≤ p) (n : Nat) : (n : Int) ≤ (p * (s + n) + c) / q - (p * s + c) / q := by
  induction n with
  | zero => simp
  | succ n ih =>
    have : (p * (s + n) + c) / q + 1 ≤ (p * (s + ((n + 1 : Nat) : Int)) + c) / q := by
      have e := div_shift (p * (s + n) + c) 1 q (by omega)
      rw [← e]
      apply Int.ediv_le_ediv (by omega)
      rw [show s + ((n + 1 : Nat) : Int) = s + n + 1 by omega, Int.mul_add p (s + n) 1]
      omega
    omega
theorem ct_slow {p q c s : Int} (hq : 1 ≤ q) (h : p ≤ q) (n : Nat) : (p * (s + n) + c) / q - (p * s + c) / q ≤ n := by
  induction n with
  | zero => simp
  | succ n ih =>
    have : (p * (s + ((n + 1 : Nat) : Int)) + c) / q ≤ (p * (s + n) + c) / q + 1 := by
      have e := div_shift (p * (s + n) + c) 1 q (by omega)
      rw [← e]
      apply Int.ediv_le_ediv (by omega)
      rw [show s + ((n + 1 : Nat) : Int) = s + n + 1 by omega, Int.mul_add p (s + n) 1]
      omega
    omega
end Lf

namespace Lf
open PySem PySem.Spec PyProof.Rows L2
def topS (i : Nat) : Stmt := PySem.Challenge.pw_leapfit_k91_whole_changed_log_texts.main.body.getD i (.Pass ⟨0, 0, 0, 0⟩)
/-! ### heaps -/
theorem len10 {n : Nat} (h : n ≤ 1000) : n ≤ sizeLine := Nat.le_of_lt (small1000 h)
def penD (l : Addr) (t r : Int) : List (Key × V) := [(Sum.inr "cells", .ref l), (Sum.inr "at", .int t), (Sum.inr "left", .int r)]
/-- all but the source's own dict stays -/
structure Fr (H H' : Hp) : Prop where
  k : ∀ b o, H b = some o → (∀ x : Addr × Int × Int, o ≠ .dK (penD x.1 x.2.1 x.2.2)) → H' b = some o
theorem Fr.t {H H' : Hp} (f : Fr H H') (b : Addr) (xs : List V) (h : H b = some (.tup xs)) : H' b = some (.tup xs) := f.k b _ h fun _ z => by cases z
theorem Fr.l {H H' : Hp} (f : Fr H H') (b : Addr) (xs : List V) (h : H b = some (.lst xs)) : H' b = some (.lst xs) := f.k b _ h fun _ z => by cases z
theorem Fr.refl (H : Hp) : Fr H H := ⟨fun _ _ h _ => h⟩
theorem Fr.trans {H H1 H2 : Hp} (a : Fr H H1) (b : Fr H1 H2) : Fr H H2 := ⟨fun c o h n => b.k c o (a.k c o h n) n⟩
theorem Fr.same {H H1 : Hp} (a : Same H H1) : Fr H H1 := ⟨fun c o h _ => a c _ h⟩
theorem sm_upd {H : Hp} {p : Addr} {o : HO} (h : H p = none) : Same H (upd H p o) := fun b x e => by
  rw [upd_ne (ne_of_none e h)]
  exact e
theorem Fr.new {H : Hp} {p : Addr} {o : HO} (h : H p = none) : Fr H (upd H p o) := Fr.same (sm_upd h)
theorem Fr.dict {H : Hp} {p l : Addr} {t r : Int} {o : HO} (h : H p = some (.dK (penD l t r))) : Fr H (upd H p o) :=
  ⟨fun b o e n => by rw [upd_ne (ne_of e h (n (l, t, r)))]; exact e⟩
theorem Fr.d0 {H H' : Hp} (f : Fr H H') (b : Addr) (h : H b = some (.dK [])) : H' b = some (.dK []) := f.k b _ h fun _ z => by cases z
/-! ### the source of numbers -/
theorem sct : ¬ ("cells" : Str) = "at" := by decide +kernel
theorem scr : ¬ ("cells" : Str) = "left" := by decide +kernel
theorem str_ : ¬ ("at" : Str) = "left" := by decide +kernel
theorem srt : ¬ ("left" : Str) = "at" := by decide +kernel
theorem kct : ¬ (Sum.inr ("cells" : Str) : Key) = Sum.inr ("at" : Str) := fun h => sct (Sum.inr.inj h)
theorem kcr : ¬ (Sum.inr ("cells" : Str) : Key) = Sum.inr ("left" : Str) := fun h => scr (Sum.inr.inj h)
theorem ktr : ¬ (Sum.inr ("at" : Str) : Key) = Sum.inr ("left" : Str) := fun h => str_ (Sum.inr.inj h)
theorem krt : ¬ (Sum.inr ("left" : Str) : Key) = Sum.inr ("at" : Str) := fun h => srt (Sum.inr.inj h)
theorem dg_rest {H : Hp} {a l : Addr} {t r : Int} (h : H a = some (.dK (penD l t r))) : DGet H a (.str "left") (some (.int r)) := by
  have e : valV (penD l t r) (Sum.inr "left" : Key) = some (.int r) := by
    unfold penD
    rw [valV_neg kcr, valV_neg ktr, valV_pos rfl]
  rw [← e]
  exact DGet.k (k := Sum.inr "left") h
theorem dg_turn {H : Hp} {a l : Addr} {t r : Int} (h : H a = some (.dK (penD l t r))) : DGet H a (.str "at") (some (.int t)) := by
  have e : valV (penD l t r) (Sum.inr "at" : Key) = some (.int t) := by
    unfold penD
    rw [valV_neg kct, valV_pos rfl]
  rw [← e]
  exact DGet.k (k := Sum.inr "at") h
theorem dg_cells {H : Hp} {a l : Addr} {t r : Int} (h : H a = some (.dK (penD l t r))) : DGet H a (.str "cells") (some (.ref l)) := by
  have e : valV (penD l t r) (Sum.inr "cells" : Key) = some (.ref l) := by
    unfold penD
    rw [valV_pos rfl]
  rw [← e]
  exact DGet.k (k := Sum.inr "cells") h
theorem dp_rest {H : Hp} {a l : Addr} {t r y : Int} (h : H a = some (.dK (penD l t r))) : DPut H a (.str "left") (.int y) (upd H a (.dK (penD l t y))) := by
  have e : putK (penD l t r) (Sum.inr "left" : Key) (.int y) = penD l t y := by
    simp [putK, penD, scr, str_]
  rw [← e]
  exact DPut.k (k := Sum.inr "left") h (by show 3 < sizeLine; exact small1000 (by decide))
theorem dp_turn {H : Hp} {a l : Addr} {t r y : Int} (h : H a = some (.dK (penD l t r))) : DPut H a (.str "at") (.int y) (upd H a (.dK (penD l y r))) := by
  have e : putK (penD l t r) (Sum.inr "at" : Key) (.int y) = penD l y r := by
    simp [putK, penD, sct, srt]
  rw [← e]
  exact DPut.k (k := Sum.inr "at") h (by show 3 < sizeLine; exact small1000 (by decide))
/-- where the source stands: its dict, its list of cells -/
structure PA where
  d : Addr
  l : Addr
instance : Coe PA Addr := ⟨PA.d⟩
structure Pen (H : Hp) (a : PA) (n : Nat) : Prop where
  ex : ∃ (cs : List Int) (t r : Int), H a.d = some (.dK (penD a.l t r)) ∧ H a.l = some (.lst (cs.map V.int)) ∧ cs.length ≤ 63 ∧ 0 ≤ t ∧ t ≤ n ∧ 0 ≤ r
theorem Pen.same {H H' : Hp} {a : PA} {n : Nat} (p : Pen H a n) (s : Same H H') : Pen H' a n := by
  obtain ⟨cs, t, r, h1, h2, h3⟩ := p.ex
  exact ⟨cs, t, r, s _ _ h1, s _ _ h2, h3⟩
theorem Pen.new {H : Hp} {a : PA} {p : Addr} {n : Nat} {o : HO} (q : Pen H a n) (h : H p = none) : Pen (upd H p o) a n := q.same (sm_upd h)
theorem Pen.mono {H : Hp} {a : PA} {n m : Nat} (p : Pen H a n) (h : n ≤ m) : Pen H a m := by
  obtain ⟨cs, t, r, h1, h2, h3, h4, h5, h6⟩ := p.ex
  exact ⟨cs, t, r, h1, h2, h3, h4, by omega, h6⟩
theorem Pen.put {H : Hp} {a l : Addr} {cs : List Int} {t r : Int} {n : Nat} {kvs : List (Key × V)} (ha : H a = some (.dK kvs)) (hl : H l = some (.lst (cs.map V.int))) (h1 : cs.length ≤ 63) (h2 : 0 ≤ t) (h3 : t ≤ n) (h4 : 0 ≤ r) :
    Pen (upd H a (.dK (penD l t r))) ⟨a, l⟩ n :=
  ⟨cs, t, r, upd_same, by show upd H a _ l = _; rw [upd_ne (ne_of hl ha (by intro z; cases z))]; exact hl, h1, h2, h3, h4⟩
/-- an address that was free when the source stood already -/
theorem Pen.over {H H' : Hp} {a : PA} {L : Addr} {n m : Nat} {o : HO} (p0 : Pen H a m) (hL : H L = none) (p : Pen H' a n) : Pen (upd H' L o) a n := by
  obtain ⟨_, _, _, g1, g2, _⟩ := p0.ex
  obtain ⟨cs, t, r, h1, h2, h3⟩ := p.ex
  exact ⟨cs, t, r, by rw [upd_ne (ne_of_none g1 hL)]; exact h1, by rw [upd_ne (ne_of_none g2 hL)]; exact h2, h3⟩
theorem Fr.over {H H' : Hp} {L : Addr} {o : HO} (f : Fr H H') (hL : H L = none) : Fr H (upd H' L o) :=
  ⟨fun b o e n => by rw [upd_ne (ne_of_none e hL)]; exact f.k _ _ e n⟩
/-! ### defs by their names -/
def Df (K : PySem.W.Frag) (mg : Str → Option Value) (x : Str) (st : Stmt) (ps : List Str) : Prop := ∃ f fd, Fun K x x st f fd ∧ mg x = some (.ref f) ∧ Binds K fd ps []
structure Bi (mg : Str → Option Value) : Prop where
  len_ : mg "len" = none
  abs_ : mg "abs" = none
  list_ : mg "list" = none
  range_ : mg "range" = none
  sum_ : mg "sum" = none
  repr_ : mg "repr" = none
  max_ : mg "max" = none
  min_ : mg "min" = none
  reversed_ : mg "reversed" = none
  divmod_ : mg "divmod" = none
  isinstance_ : mg "isinstance" = none
  all_ : mg "all" = none
  int_ : mg "int" = none
  bool_ : mg "bool" = none
  tuple_ : mg "tuple" = none
  sorted_ : mg "sorted" = none
  zip_ : mg "zip" = none
  enumerate_ : mg "enumerate" = none
  set_ : mg "set" = none
  str_ : mg "str" = none
theorem bt_len : bootBuiltins ("len" : Str) = Option.some (Value.builtin "len") := by decide +kernel
theorem bt_abs : bootBuiltins ("abs" : Str) = Option.some (Value.builtin "abs") := by decide +kernel
theorem bt_sum : bootBuiltins ("sum" : Str) = Option.some (Value.builtin "sum") := by decide +kernel
theorem bt_repr : bootBuiltins ("repr" : Str) = Option.some (Value.builtin "repr") := by decide +kernel
theorem bt_max : bootBuiltins ("max" : Str) = Option.some (Value.builtin "max") := by decide +kernel
theorem bt_min : bootBuiltins ("min" : Str) = Option.some (Value.builtin "min") := by decide +kernel
theorem bt_divmod : bootBuiltins ("divmod" : Str) = Option.some (Value.builtin "divmod") := by decide +kernel
theorem bt_isinstance : bootBuiltins ("isinstance" : Str) = Option.some (Value.builtin "isinstance") := by decide +kernel
theorem bt_all : bootBuiltins ("all" : Str) = Option.some (Value.builtin "all") := by decide +kernel
theorem bt_set : bootBuiltins ("set" : Str) = Option.some (Value.type "set") := by decide +kernel
theorem bt_str : bootBuiltins ("str" : Str) = Option.some (Value.type "str") := by decide +kernel
theorem bt_sorted : bootBuiltins ("sorted" : Str) = Option.some (Value.builtin "sorted") := by decide +kernel
theorem bt_list : bootBuiltins ("list" : Str) = Option.some (Value.type "list") := by decide +kernel
theorem bt_int : bootBuiltins ("int" : Str) = Option.some (Value.type "int") := by decide +kernel
theorem bt_bool : bootBuiltins ("bool" : Str) = Option.some (Value.type "bool") := by decide +kernel
theorem bt_tuple : bootBuiltins ("tuple" : Str) = Option.some (Value.type "tuple") := by decide +kernel
section
variable {P : Program} {w : World} {K : PySem.W.Frag} {mg : Str → Option Value} {base : Heap}
theorem cal_of {x : Str} {st : Stmt} {N ps : List Str} {k : Nat} {sp : Sp} (D : Df K mg x st ps) (S : FnScope N ps (defScope st)) (len : ∀ vs H Q E, sp vs H Q E → vs.length = ps.length)
    (hb : ∀ (f : Addr) (cdv : Value) (A : Around) (outer : List Env) (s : Shared) (H : Hp) (vs : List V) (Q : VK) (E : XK), Room k (A.deeper (envOfC x (defScope st) s.heap.objs.size f cdv)) → sp vs H Q E →
      ∃ t, PSs (cxOf CX0 P w K mg base N x (defScope st) f cdv A outer s H E).nox (defBody st) t ∧ t { nx := fun _ H' => Q .non H', rt := Q } (start N vs) H) : C8.Cal P w K mg base (k + 1) x sp [] := by
  obtain ⟨f, fd, F, hm, b⟩ := D
  exact ⟨⟨f, fd, ps, [], F.ok S len (fun cdv A outer s H vs Q E hr h => hb f cdv A outer s H vs Q E hr h), hm, F.kp, b, .nil⟩⟩
/-- the same, its own row known (for calls with keywords) -/
def CalF (P : Program) (w : World) (K : PySem.W.Frag) (mg : Str → Option Value) (base : Heap) (k : Nat) (x : Str) (st : Stmt) (ps : List Str) (sp : Sp) : Prop :=
  ∃ f fd, Fun K x x st f fd ∧ mg x = some (.ref f) ∧ FnOk P w K mg base CX0 k f fd ps sp ∧ Binds K fd ps []
theorem calF_of {x : Str} {st : Stmt} {N ps : List Str} {k : Nat} {sp : Sp} (D : Df K mg x st ps) (S : FnScope N ps (defScope st)) (len : ∀ vs H Q E, sp vs H Q E → vs.length = ps.length)
    (hb : ∀ (f : Addr) (cdv : Value) (A : Around) (outer : List Env) (s : Shared) (H : Hp) (vs : List V) (Q : VK) (E : XK), Room k (A.deeper (envOfC x (defScope st) s.heap.objs.size f cdv)) → sp vs H Q E →
      ∃ t, PSs (cxOf CX0 P w K mg base N x (defScope st) f cdv A outer s H E).nox (defBody st) t ∧ t { nx := fun _ H' => Q .non H', rt := Q } (start N vs) H) : CalF P w K mg base (k + 1) x st ps sp := by
  obtain ⟨f, fd, F, hm, b⟩ := D
  exact ⟨f, fd, F, hm, F.ok S len (fun cdv A outer s H vs Q E hr h => hb f cdv A outer s H vs Q E hr h), b⟩
theorem CalF.cal {x : Str} {st : Stmt} {ps : List Str} {k : Nat} {sp : Sp} (c : CalF P w K mg base k x st ps sp) : C8.Cal P w K mg base k x sp [] := by
  obtain ⟨f, fd, F, hm, G, b⟩ := c
  exact ⟨⟨f, fd, ps, [], G, hm, F.kp, b, .nil⟩⟩
/-! ### _law_pen -/
theorem cut_ints (ns : List Int) : ∃ cs : List Int, cutV (ns.map V.int) none (some 63) = cs.map V.int ∧ cs.length ≤ 63 := by
  refine ⟨ns.take 63, ?_, by rw [List.length_take]; omega⟩
  unfold cutV
  rw [HT.sIx_none, show HT.sIx (ns.map V.int).length (ns.map V.int).length (some 63) = min 63 (ns.map V.int).length from HT.sIx_nat _ _ 63]
  rw [List.drop_zero, Nat.sub_zero, List.map_take, List.length_map]
  by_cases h : 63 ≤ ns.length
  · rw [Nat.min_eq_left h]
  · rw [Nat.min_eq_right (by omega), List.take_of_length_le (by rw [List.length_map]; omega), List.take_of_length_le (by rw [List.length_map]; omega)]
def spPen (K : PySem.W.Frag) : Sp := fun vs H Q _ => ∃ (s : Addr) (ns : List Int), vs = [.ref s] ∧ SqL K H s (ns.map V.int) ∧ ∀ (a : PA) H', Pen H' a 0 → Same H H' → Q (.ref a) H'
end
end Lf
namespace Lf
open PySem PySem.Spec PyProof.Rows L2
/-! ### a try that catches, and keeps the exception in a name -/
abbrev dead : Ends := { nx := fun _ _ => False, rt := fun _ _ => False }
/-- the wish: the clause's class; then the suite; then, with the exception known, what follows -/
def wKeep (K : PySem.W.Frag) (c : Value) (i : Nat) (ts : Addr → TS) (go : Addr → Value → Option Addr → L2.St → Hp → Prop) : WX := fun cls d σ H =>
  PySem.W.exmOne K cls c = some true ∧ ∀ a, H a = none → ts a { nx := fun σ' H' => go a cls d (σ'.set i none) H', rt := fun _ _ => False } (σ.set i (some (.ref a))) H
/-- slots are as many as names -/
theorem takes_len {X : Cx} {W : WX} (t : Takes X W) : Takes X (fun cls d σ H => σ.length = X.N.length → W cls d σ H) := fun u s' ⟨a, B, sI, pins, σ, H, cls, d, e, I, nb, up, sky, na, os, ag, ww⟩ =>
  t u s' ⟨a, B, sI, pins, σ, H, cls, d, e, I, nb, up, sky, na, os, ag, ww I.len⟩
section
variable {X : Cx} {pins : List (Addr × Obj)} {σ : L2.St} {H : Hp} {s : Shared}
/-- an exception's object, known from now on -/
theorem pin_in (J : Inv X pins σ H s) {a : Addr} {oe : Obj} {vs : Array Value} (ge : s.heap.get? a = some oe) (dt : oe.data = .fields vs) (na : H a = none) (n1 : a ≠ X.env.locals) (n2 : a ∉ X.fs) : Inv (X.tr ((a, oe) :: (X.pn ++ pins)) X.xe) [] σ H s := by
  refine ⟨J.ok.toTry _ _, J.os, J.bare, J.base, J.loc, J.cell, J.free, J.freeC, fun p hp => ?_, J.hok, J.len⟩
  rw [List.append_nil] at hp
  rcases List.mem_cons.mp hp with rfl | hp
  · refine ⟨ge, na, n1, n2, fun v z => ?_⟩
    have z : oe.data = .cell v := z
    rw [dt] at z
    cases z
  · exact J.pin p hp
theorem pin_out {a : Addr} {oe : Obj} {pn : List (Addr × Obj)} (ok : X.Ok) (J : Inv (X.tr ((a, oe) :: (X.pn ++ pins)) X.xe) pn σ H s) : Inv X pins σ H s :=
  ⟨ok, J.os, J.bare, J.base, J.loc, J.cell, J.free, J.freeC, fun p hp => J.pin p (List.mem_append.mpr (.inl (List.mem_cons_of_mem _ hp))), J.hok, J.len⟩
theorem out_suite {a : Addr} {oe : Obj} {pn : List (Addr × Obj)} (ok : X.Ok) (J : Inv (X.suite a ((a, oe) :: (X.pn ++ pins))) pn σ H s) : Inv (X.tr ((a, oe) :: (X.pn ++ pins)) X.xe) [] σ H s :=
  ⟨ok.toTry _ _, J.os, J.bare, J.base, J.loc, J.cell, J.free, J.freeC, fun p hp => J.pin p (List.mem_append.mpr (.inl (by rw [List.append_nil] at hp; exact hp))), J.hok, J.len⟩
end
section
variable {X : Cx} {x n : Str} {c : Value} {i : Nat} {body suite rest : List Stmt} {b0 : Stmt} {np po pq : Pos} {tb : WX → TS} {ts : Addr → TS} {tr : Addr → Value → Option Addr → TS}
theorem pss_keep (stk : X.stack = X.env :: X.outer) (fr : X.env.frame = some X.env.locals) (nd : X.N.Nodup) (ni : X.N[i]? = some n) (kn : X.env.kindOf n = some .local) (hc : Names X x c)
    (hb : ∀ (W : WX) (pn : List (Addr × Obj)) (xe : Value → Shared → Prop), Takes (X.tr pn xe) W → PSs (X.tr pn xe) body (tb W))
    (hsu : ∀ (a : Addr) (oe : Obj) (pn : List (Addr × Obj)), PSs (X.suite a ((a, oe) :: pn)) (b0 :: suite) (ts a))
    (hre : ∀ (a : Addr) (oe : Obj) (cls : Value) (d : Option Addr) (pn : List (Addr × Obj)), Zc cls d oe → (∃ vs, oe.data = .fields vs) → PSs (X.tr ((a, oe) :: pn) X.xe) rest (tr a cls d)) :
    PSs X (.Try body [.ExceptHandler (some (.Name x np)) (some n) (b0 :: suite) pq] [] [] po :: rest) (fun D σ H => tb (wKeep X.K c i ts (fun a cls d σ' H' => tr a cls d D σ' H')) dead σ H) := by
  refine ⟨fun pins s σ H D I h => wpAny_execs_cons (wpAny_Try_except ?_)⟩
  have ok := I.ok
  have frm : X.A.frames = some (X.env :: X.outer) := by rw [ok.frames, stk]
  refine wpAny_mono ((hb (wKeep X.K c i ts (fun a cls d σ' H' => tr a cls d D σ' H')) (X.pn ++ pins) _ (fun u s' air => ?_)).run [] s σ H dead (I.toTry _) h) (fun f s1 z => ?_) (fun e s1 he => he)
  · obtain ⟨a, B, sI, pins', σ1, H1, cls, d, rfl, J0, nb, up, sky, na, os, ag, em, go⟩ := air
    have J : Inv X pins σ1 H1 sI := J0.ofTry ok
    rw [stk] at sky
    refine Sky.land Zc.steady frm fr sky fun h3 f3 u3 => ?_
    have J3 : Inv X pins σ1 H1 { s' with heap := h3 } := J.landed nb f3.1 (up.trans u3) os ag
    obtain ⟨o3, v3, g3, z3, d3⟩ := f3.there
    have nf : a ∉ frs (X.env :: X.outer) := fun hm => by
      obtain ⟨_, o', e', hn⟩ := f3.2.2.1.mem hm
      rw [g3] at e'
      cases e'
      exact hn _ d3
    have n1 : a ≠ X.env.locals := fun z => nf (List.mem_filterMap.mpr ⟨X.env, List.mem_cons_self, by rw [fr, z]⟩)
    have n2 : a ∉ X.fs := fun hm => by
      obtain ⟨e, he, q⟩ := List.mem_filterMap.mp hm
      exact nf (List.mem_filterMap.mpr ⟨e, List.mem_cons_of_mem _ he, q⟩)
    have S3 := J3.suite g3 d3 na n1 n2
    refine wpAny_handleBy_cons (codeAny_handlers_test ?_) (by intro q; cases q)
    have lt : PySem.W.Looks (model X.prog X.w) h3 (typeOf (.ref a)) cls := fun A Q E s k q => wpAny_typeOf_ref (k _ _ g3) (by rw [z3.1]; exact q)
    have lm := PySem.W.exm_one (M := model X.prog X.w) J3.kIn lt em
    have seen : ∀ {Q : Value → Shared → Prop} {E : Value → Shared → Prop}, Q c { s' with heap := h3 } → wpAny (model X.prog X.w) (X.A.mark (some (.ref a))) (eval (.Name x np) X.env) Q E { s' with heap := h3 } := fun {Q E} q => by
      obtain ⟨hg, hd, hm | ⟨hm, hv, hw⟩⟩ := hc
      · exact ld_glob S3 hg hm q hd
      · exact ld_blt S3 hg hm hv q hw hd
    refine seen (lm.here (codeAny_handlers_suite_as (HandSPX.lands_againZ f3 fun h4 f4 u4 => ?_)))
    have J4 : Inv X pins σ1 H1 { s' with heap := h4 } := J.landed nb f4.1 ((up.trans u3).trans u4) os ag
    obtain ⟨o4, v4, g4, z4, d4⟩ := f4.there
    have S4 := J4.suite g4 d4 na n1 n2
    refine store_ok (X := X.suite a ((a, o4) :: (X.pn ++ pins))) (v := .ref a) S4 nd ni (.inl kn) rfl (fun s5 S5 => ?_) (.inr kn)
    refine wpAny_mono ((hsu a o4 (X.pn ++ pins)).run [] s5 _ H1 _ S5 (go a na)) (fun f s6 q => ?_) (fun _ _ z => False.elim z)
    cases f with
    | next =>
      obtain ⟨σ6, H6, S6, q6⟩ := q
      refine gone_ok (X := X.tr ((a, o4) :: (X.pn ++ pins)) X.xe) (out_suite ok S6) nd ni kn fun s7 J7 => ?_
      refine wpAny_mono ((hre a o4 cls d (X.pn ++ pins) z4 ⟨_, d4⟩).run [] s7 _ H6 D J7 q6) (fun f s8 r => ?_) (fun _ _ z => z)
      cases f with
      | next =>
        obtain ⟨σ8, H8, J8, q8⟩ := r
        exact ⟨σ8, H8, pin_out ok J8, q8⟩
      | brk =>
        obtain ⟨σ8, H8, J8, q8⟩ := r
        exact ⟨σ8, H8, pin_out ok J8, q8⟩
      | cont =>
        obtain ⟨σ8, H8, J8, q8⟩ := r
        exact ⟨σ8, H8, pin_out ok J8, q8⟩
      | ret u =>
        obtain ⟨v8, σ8, H8, J8, r8, q8⟩ := r
        exact ⟨v8, σ8, H8, pin_out ok J8, r8, q8⟩
    | brk =>
      obtain ⟨_, _, _, q6⟩ := q
      exact False.elim q6
    | cont =>
      obtain ⟨_, _, _, q6⟩ := q
      exact False.elim q6
    | ret u =>
      obtain ⟨_, _, _, _, _, q6⟩ := q
      exact False.elim q6
  · cases f with
    | next =>
      obtain ⟨_, _, _, q6⟩ := z
      exact False.elim q6
    | brk =>
      obtain ⟨_, _, _, q6⟩ := z
      exact False.elim q6
    | cont =>
      obtain ⟨_, _, _, q6⟩ := z
      exact False.elim q6
    | ret u =>
      obtain ⟨_, _, _, _, _, q6⟩ := z
      exact False.elim q6
end
/-! ### isinstance of a known exception -/
/-- by one class, or by a tuple of classes -/
def rIsK (K : PySem.W.Frag) (D a : Addr) : List V → Hp → VK → Prop := fun xs H Q => ∃ (y : V) (b : Bool), xs = [.ref a, y] ∧ Q (.bl b) H ∧
  ((∃ cv, (∀ u, RelV y u → u = cv) ∧ PySem.W.kitOne K (.ref D) cv = some b) ∨ ∃ (tp : Addr) (cs : List Addr), y = .ref tp ∧ SqT K H tp (cs.map V.ref) ∧ PySem.W.kitAny K (.ref D) (cs.map Value.ref) = some b)
theorem vals_refs : ∀ {cs : List Addr} {us : List Value}, Vals (cs.map V.ref) us → us = cs.map Value.ref
  | [], _, r => by cases r; rfl
  | c :: cs, _, r => by
    cases r with
    | cons r1 r2 =>
      rw [vals_refs r2]
      cases r1
      rfl
theorem call_isK {X : Cx} {a D : Addr} {oe : Obj} {pn : List (Addr × Obj)} {xe : Value → Shared → Prop} (C : ExcC X.K D) (hz : Zc (.ref D) none oe) (hf : ∃ vs, oe.data = .fields vs) : CallR (X.tr ((a, oe) :: pn) xe) (.builtin "isinstance") (rIsK X.K D a) := by
  intro pins s σ H xs us Q I r h
  obtain ⟨y, b, rfl, q, h⟩ := h
  cases r with
  | cons rx rr =>
    cases rr with
    | cons rt rr =>
      cases rr
      cases rx
      obtain ⟨ge, _⟩ := I.pin (a, oe) (List.mem_append.mpr (.inl List.mem_cons_self))
      obtain ⟨vs, hv⟩ := hf
      have J : PySem.W.InstAt s.heap a oe D none := by
        obtain ⟨oc, od, oda, osl⟩ := oe
        obtain ⟨h1, h2⟩ := hz
        dsimp only at h1 h2 hv
        subst h1 h2 hv
        exact ⟨ge, rfl, rfl, trivial⟩
      have kx := PySem.W.handS_kitx_exc (x := a) (ox := oe) C.hg C.hk C.hs C.hd C.ha C.hn C.ht C.hm
      rcases h with ⟨cv, hcv, e⟩ | ⟨tp, cs, rfl, hT, e⟩
      · have ec := hcv _ rt
        subst ec
        exact PySem.W.kia_one kx I.kIn J e (fun z => nomatch z) fun tk => ⟨.bl b, H, I.kept (t' := tk) fun _ _ z => z, rfl, q⟩
      · obtain ⟨its, rv, ⟨o, e1, e2, nn, e3⟩, _⟩ := I.tuple hT
        have ei := vals_refs rv
        subst ei
        cases rt
        obtain ⟨oc, od, oda, osl⟩ := o
        dsimp only at e2 e3
        subst e2 e3
        exact PySem.W.kia_tup kx I.kIn J e1 e (fun z => nomatch z) fun tk => ⟨.bl b, H, I.kept (t' := tk) fun _ _ z => z, rfl, q⟩
/-! ### an own exception without arguments, made -/
theorem pmk_none {X : Cx} {C : Addr} {bmB : List Value} {B newId initId : String} {x : Str} {p po : Pos} (F : ExcBaseFacts B newId initId bmB) (q : PySem.W.excIn X.K C bmB newId = true) (gC : X.mg x = some (.ref C)) (kC : PySem.W.keepIn X.K (.ref C) = true) (r : Raises X (.ref C)) (hg : Gl X x)
    (hdb : (x == ("__debug__" : Str)) = false := by decide) : PMk X (.Call (.Name x p) [] [] po) (fun _ H Q => Q (.ref C) none H) := by
  intro pins s σ H Q I h
  refine wpAny_Call_Name_kw (ld_glob I hg gC ?_ hdb)
  refine PySem.W.callWith_K0 I.kIn kC ?_
  show wpAny _ _ (call (.ref C) []) _ _ _
  obtain ⟨bm, N, nm, qn, bs, hdct, sn, sub, ab, col, dd, k0, k1, k2, k3, k5, mN, hC, hN, hni, T⟩ := exc_obj I.kIn q
  refine wpAny_call_exc_subT F T hC hN hni (fun h' e hm => ?_) (by show 0 ≤ sizeLine; omega)
  exact mk_of I hm r h (I.hok.gone hm.new)
/-! ### what the top tells of the class NoEvents, at C, and of the classes beside it -/
structure NoEv (K : PySem.W.Frag) (mg : Str → Option Value) (C : Addr) : Prop where
  gC : mg "NoEvents" = some (.ref C)
  kC : PySem.W.keepIn K (.ref C) = true
  xi : PySem.W.excIn K C [.type "ValueError", .type "Exception", .type "BaseException", .type "object"] "ValueError.__new__" = true
  ex : ExcC K C
  ty : PySem.W.typeIn K (.ref C) = some (.type "type")
  sf : PySem.W.subIn K (.ref C) (.ref C) = some true
structure NoEvB (K : PySem.W.Frag) (mg : Str → Option Value) (C L N R E I : Addr) : Prop where
  gL : mg "LeapfitError" = some (.ref L)
  gN : mg "InvalidNumber" = some (.ref N)
  gR : mg "InvalidRule" = some (.ref R)
  gE : mg "NoRule" = some (.ref E)
  gI : mg "InvalidCounts" = some (.ref I)
  bV : mg "ValueError" = none
  oL : PySem.W.kitOne K (.ref C) (.ref L) = some true
  oV : PySem.W.kitOne K (.ref C) (.type "ValueError") = some true
  oN : PySem.W.kitAny K (.ref C) [.ref N, .ref R, .ref E, .ref I] = some false
theorem NoEv.raises {X : Cx} {C : Addr} (T : NoEv X.K X.mg C) : Raises X (.ref C) := raises_own T.ex.hs T.ty
theorem NoEv.meets {K : PySem.W.Frag} {mg : Str → Option Value} {C : Addr} (T : NoEv K mg C) : PySem.W.exmOne K (.ref C) (.ref C) = some true := PySem.W.exm_ref T.ex.hs T.ex.hd T.ty T.sf
/-- a def that raises, by its name -/
def CalX (P : Program) (w : World) (K : PySem.W.Frag) (mg : Str → Option Value) (base : Heap) (k : Nat) (x : Str) (sp : Sp) : Prop :=
  ∃ f fd ps, FnOk P w K mg base (L2.CX P w) k f fd ps sp ∧ mg x = some (.ref f) ∧ PySem.W.keepIn K (.ref f) = true ∧ Binds K fd ps []
theorem calx_of {P : Program} {w : World} {K : PySem.W.Frag} {mg : Str → Option Value} {base : Heap} {x : Str} {st : Stmt} {N ps : List Str} {k : Nat} {sp : Sp} (D : Df K mg x st ps) (S : FnScope N ps (defScope st)) (len : ∀ vs H Q E, sp vs H Q E → vs.length = ps.length)
    (hb : ∀ (f : Addr) (cdv : Value) (A : Around) (outer : List Env) (s : Shared) (H : Hp) (vs : List V) (Q : VK) (E : XK), Room k (A.deeper (envOfC x (defScope st) s.heap.objs.size f cdv)) → sp vs H Q E →
      ∃ t, PSs (cxOf (L2.CX P w) P w K mg base N x (defScope st) f cdv A outer s H E) (defBody st) t ∧ t { nx := fun _ H' => Q .non H', rt := Q } (start N vs) H) : CalX P w K mg base (k + 1) x sp := by
  obtain ⟨f, fd, F, hm, b⟩ := D
  exact ⟨f, fd, ps, F.okX S len (fun cdv A outer s H vs Q E hr h => hb f cdv A outer s H vs Q E hr h), hm, F.kp, b⟩
section
variable {X : Cx} {x : Str} {sp : Sp} {W : WX} {j k : Nat} {e : Expr} {es : List Expr} {t : TA} {p po : Pos}
/-- it is called where what it raises is taken -/
theorem pe_cx (c : CalX X.prog X.w X.K X.mg X.base k x sp) (hr : Room j X.A) (hk : k ≤ j) (tk : Takes X W) (hg : Gl X x) (ha : L2.PA X (e :: es) t)
    (hdb : (x == ("__debug__" : Str)) = false := by decide) (he : starEach (e :: es) X.env = (false, eval e X.env) :: starEach es X.env := by rfl) (hpl : (backTo po (starEach es X.env)).any (·.1) = false := by rfl) :
    PE X (.Call (.Name x p) (e :: es) [] po) (tCallS sp (WE W) t) := by
  obtain ⟨f, fd, ps, F, hm, kp, b⟩ := c
  exact pe_callS F (hr.mono hk) hg hm kp b (fun σ => passAt tk σ) ha hdb he hpl
end
end Lf
namespace Lf
open PySem PySem.Spec PyProof.Rows L2
/-! ### a def called where no repr is under way -/
structure FnG (P : Program) (w : World) (K : PySem.W.Frag) (mg : Str → Option Value) (base : Heap) (k : Nat) (f : Addr) (fd : FuncData) (ps : List Str) (sp : Sp) : Prop where
  lenG : ∀ vs H Q E, sp vs H Q E → vs.length = ps.length
  runG : ∀ (A : Around) (out : List Env) (sh : Shared) (H : Hp) (ar : Args) (us : List Value) (vs : List V) (Q : VK) (E : XK), Room k A → A.guards = some [] → Env0 P w K mg base A out sh H → BindsTo sh fd ar (ps.zip us) → Vals vs us → sp vs H Q E →
    codeAny (model P w) A (.call (.ref f) ar) (CR CX0 out P w H sh Q E) sh
theorem fnG_of {P : Program} {w : World} {K : PySem.W.Frag} {mg : Str → Option Value} {base : Heap} {x qual : Str} {st : Stmt} {f : Addr} {fd : FuncData} {N ps : List Str} {k : Nat} {sp : Sp} (F : Fun K x qual st f fd) (S : FnScope N ps (defScope st)) (ln : ∀ vs H Q E, sp vs H Q E → vs.length = ps.length)
    (bd : ∀ (cdv : Value) (A : Around) (out : List Env) (sh : Shared) (H : Hp) (vs : List V) (Q : VK) (E : XK), Room k (A.deeper (envOfC qual (defScope st) sh.heap.objs.size f cdv)) → A.guards = some [] → sp vs H Q E →
      ∃ t, PSs (cxOf CX0 P w K mg base N qual (defScope st) f cdv A out sh H E).nox (defBody st) t ∧ t { nx := fun _ H' => Q .non H', rt := Q } (start N vs) H) : FnG P w K mg base (k + 1) f fd ps sp := by
  obtain ⟨oc, od, kV, doc, pm, an, cdv, ct, osl, rfl, lkp, cin⟩ := F.ex
  refine ⟨ln, fun A out sh H ar us vs Q E rm gd en bnd rel pr => ?_⟩
  have lv := ln _ _ _ _ pr
  have inK : K.In sh.heap := en.mod.kin.keeps fun b o e => (en.bs b o e).1
  have nol : sh.heap.NoLimit := en.mod.nolimit.keeps fun b o e => (en.bs b o e).1
  have knd : ∀ y ∈ ps.zip us, (defScope st).names.lookup y.1 = some .local ∨ ((defScope st).names.lookup y.1 = some .cell ∧ ((cellsFrom (sh.heap.objs.size + 1) (defScope st).names []).lookup y.1).isSome = true) := fun ⟨n, v⟩ hy => by
    rcases S.par n (List.of_mem_zip hy).1 with z | z
    · exact .inl z
    · exact .inr ⟨z, PySem.W.cellsFrom_some _ _ _ (.inl z)⟩
  refine codeAny_call_function rm.depth (inK _ _ lkp) rfl S.co S.gen rfl (PySem.W.codeRec_of inK cin) (bnd _ _ _ _ ?_)
  refine wpAny_newFunctionEnv_cells S.kind knd fun env he sh1 x1 => ?_
  subst he
  refine ⟨nol.keeps x1.toInCall.keep, codeAny_func ?_⟩
  obtain ⟨t, ht, hq⟩ := bd cdv A out sh H vs Q E (rm.deeper _) gd pr
  have inv := inv_start (CX := CX0) (P := P) (w := w) (K := K) (mg := mg) (base := base) (E := E) (f := f) (cd := cdv) (qual := qual) S rm.hd en lv rel x1
  refine wpAny_mono (ht.nox.run [] sh1 (start N vs) H _ inv hq) (fun fl sh' hs => ?_) fun e sh' hs => hs
  cases fl with
  | ret u =>
    obtain ⟨v, σ', H', J, rv, z⟩ := hs
    exact ⟨v, H', J.os, J.bare, J.base, J.hok, rv, z⟩
  | next =>
    obtain ⟨σ', H', J, z⟩ := hs
    exact ⟨V.non, H', J.os, J.bare, J.base, J.hok, rfl, z⟩
  | brk =>
    obtain ⟨_, _, _, z⟩ := hs
    exact False.elim z
  | cont =>
    obtain ⟨_, _, _, z⟩ := hs
    exact False.elim z
/-- the law called, at the heap behind the top -/
theorem lawG {P : Program} {w : World} {K : PySem.W.Frag} {mg mb : Str → Option Value} {k : Nat} {fa ad : Addr} {fd : FuncData} {x : Str} {sp : Sp} {sh : Shared} {vs : List Value} {ns : List Int}
    (inK : K.In sh.heap) (nsm : sh.heap.Ns mainGlobals mg) (nsb : sh.heap.Ns builtinsNs mb) (bb : ∀ x : Str, x ≠ "__name__" → mb x = bootBuiltins x) (nol : sh.heap.NoLimit) (gn : sh.gens = #[])
    (ga : sh.heap.get? ad = some { cls := .type "list", data := .seq vs.toArray }) (isI : IntsAre vs ns) (len : ns.length ≤ sizeLine) (rm : Room k callerA)
    (F : ∀ base : Heap, K.In base → base.Ns mainGlobals mg → FnG P w K mg base k fa fd [x] sp) (bnd : ∀ (s : Shared) (u : Value), BindsTo s fd ⟨[u], []⟩ [(x, u)])
    (pr : ∀ H : Hp, SqL K H ad (ns.map V.int) → sp [.ref ad] H (fun v _ => v = .bl true) fun _ _ _ => False) :
    codeAny (model P w) callerA (.call (.ref fa) ⟨[.ref ad], []⟩) (fun r sh' => r = .ok (.ret (.bool true)) ∧ OldK sh.heap sh'.heap ∧ sh'.os = sh.os ∧ AllBare sh'.gens) sh := by
  have rel := vals_ints isI
  have lnv := isI.length
  have main : ∀ H : Hp, Only H → SqL K H ad (ns.map V.int) → HOk P w H sh.heap → (∀ b, H b ≠ none → b = ad) → (H ad ≠ none → K.lookup ad = none) →
      codeAny (model P w) callerA (.call (.ref fa) ⟨[.ref ad], []⟩) (fun r sh' => r = .ok (.ret (.bool true)) ∧ OldK sh.heap sh'.heap ∧ sh'.os = sh.os ∧ AllBare sh'.gens) sh := by
    intro H only seq hok one nk
    have lay : ∀ {b : Addr} {o : Obj}, sh.heap.get? b = some o → H b = none → (hidT sh.heap H).get? b = some o := fun e n => hidT_get e n
    have nod : ∀ {b : Addr} {o : Obj} {es : Array DictEntry} {ep : Nat}, sh.heap.get? b = some o → o.data = .dict es ep → H b = none := fun {b o es ep} e d => by
      cases z : H b with
      | none => rfl
      | some u =>
        have eb : b = ad := one b (by rw [z]; simp)
        subst eb
        rw [ga] at e
        cases e
        exact (nomatch (show Data.seq vs.toArray _ = Data.dict es ep from d))
    have nsL : ∀ {b : Addr} {m : Str → Option Value}, sh.heap.Ns b m → (hidT sh.heap H).Ns b m := fun {b m} ⟨o, es, ep, e, d, r⟩ => ⟨o, es, ep, lay e (nod e d), d, r⟩
    have inB : K.In (hidT sh.heap H) := fun b o e => lay (inK b o e) (by
      cases z : H b with
      | none => rfl
      | some u =>
        have eb : b = ad := one b (by rw [z]; simp)
        subst eb
        rw [nk (by rw [z]; simp)] at e
        cases e)
    have md : Mod K mg (hidT sh.heap H) := ⟨inB, nsL nsm, ⟨mb, nsL nsb, bb⟩, let ⟨mc, h1, h2⟩ := nol; ⟨mc, nsL h1, h2⟩⟩
    have en : Env0 P w K mg (hidT sh.heap H) callerA [] sh H := ⟨rfl, md, fun b o e => of_hidT e, Nat.le_of_eq (hidT_size _ _), trivial, fun b hb => absurd (show b ∈ ([] : List Addr) from hb) (by simp), hok, .of_eq gn⟩
    refine codeAny_mono ((F _ inB (nsL nsm)).runG callerA [] sh H ⟨[.ref ad], []⟩ [.ref ad] [.ref ad] _ _ rm rfl en (bnd sh (.ref ad)) (.cons rfl .nil) (pr H seq)) fun r sh' h => ?_
    match r, h with
    | .error e, h => exact (show False from h).elim
    | .ok .next, h => exact False.elim h
    | .ok .brk, h => exact False.elim h
    | .ok .cont, h => exact False.elim h
    | .ok (.ret u), h =>
      obtain ⟨v, H', os, bare, un, hok', rv, z⟩ := h
      have z' : v = .bl true := z
      subst z'
      have eu : u = Value.bool true := rv
      subst eu
      refine ⟨rfl, OldK.of_keep (fun b o e => ?_), os, bare⟩
      cases zb : H b with
      | none => exact un.keep b o e zb (fun z => absurd (show b ∈ ([] : List Addr) from z) (by simp)) (by simp)
      | some u =>
        rcases only b with z | ⟨ob, xs, z⟩
        · rw [zb] at z
          cases z
        · have e1 := (hok b _ z).1
          have e2 := (hok' b _ (un.frzs b ob _ z)).1
          rw [e] at e1
          cases e1
          exact e2
  cases hk : K.lookup ad with
  | some o =>
    have e := inK ad o hk
    rw [ga] at e
    cases e
    exact main (fun _ => none) (fun _ => .inl rfl) (.inr ⟨_, vs.toArray, _, hk, rfl, rfl, rfl, by rw [List.size_toArray, lnv]; exact len, by simpa using rel⟩) (fun b u z => nomatch (show (none : Option HO) = some u from z)) (fun b z => absurd rfl z) (fun z => absurd rfl z)
  | none =>
    refine main (fun b => if b = ad then some (.frz { cls := .type "list", data := .seq vs.toArray } (.lst (ns.map V.int))) else none) (fun b => ?_) (.inl (.inr ⟨{ cls := .type "list", data := .seq vs.toArray }, if_pos rfl⟩)) (fun b u z => ?_) (fun b z => ?_) (fun _ => hk)
    · by_cases eb : b = ad
      · exact .inr ⟨_, _, if_pos eb⟩
      · exact .inl (if_neg eb)
    · by_cases eb : b = ad
      · subst eb
        have z' := (if_pos rfl).symm.trans z
        cases z'
        exact ⟨ga, by rw [List.length_map]; exact len, vs, _, rel, ga⟩
      · exact (nomatch (if_neg eb).symm.trans z)
    · by_cases eb : b = ad
      · exact eb
      · exact absurd (if_neg eb) z
theorem walkG {l : PySem.W.OpenLaw} {n k : Nat} {q : Program} {loose : List Str} {XP : (Str → Option Value) → Heap → Prop} {YP : World → Heap → Prop} {d : DefRec} {K : Params → PySem.W.Frag} {sp : World → Sp} {x : Str}
    (most : l.most = some n) (nsz : n ≤ sizeLine) (nodf : d.params.defaults = []) (rm : Room k callerA) (inY : ∀ (w : World) (h : Heap), YP w h → (K w.params).In h)
    (F : ∀ (w : World) (mg : Str → Option Value) (fa : Addr) (h : Heap), (K w.params).In h → h.Ns mainGlobals mg → mg d.name = some (.ref fa) → ∃ fd : FuncData, (∀ (s : Shared) (u : Value), BindsTo s fd ⟨[u], []⟩ [(x, u)]) ∧ ∀ base : Heap, (K w.params).In base → base.Ns mainGlobals mg → FnG l.prog w (K w.params) mg base k fa fd [x] (sp w))
    (pr : ∀ (w : World) (H : Hp) (a : Addr) (ns : List Int), ns.length ≤ n → SqL (K w.params) H a (ns.map V.int) → sp w [.ref a] H (fun v _ => v = .bl true) fun _ _ _ => False) : PySem.W.WalkO q loose XP YP l.row.toRowW d [] (fun f vs => PySem.call f vs) := by
  refine Att.attach_call most nodf fun w s₀ sh mg mb fa o pm cd doc a vs ns G Y ho hd hcd hmg hobj hints hlen hg => ?_
  have inK := inY w _ Y
  obtain ⟨fd, hb, hF⟩ := F w mg fa _ inK G.T.g hmg
  exact lawG inK G.T.g G.T.b G.T.builtins G.T.nolimit hg hobj hints (Nat.le_trans hlen nsz) rm hF hb (fun H hS => pr w H a ns hlen hS)
/-! ### repr of data -/
theorem repr_data {X : Cx} (gd : X.A.guards = some []) (hu : X.A.units + 70 < cLine) : CallR X (.builtin "repr") (fun xs H Q => ∃ (a : Addr) (d : PyData), xs = [.ref a] ∧ Dp X.K H (.ref a) d ∧ d.showable = true ∧ d.hasDict = false ∧ d.depth ≤ 60 ∧ d.shown.length ≤ sizeLine ∧ Q (.str d.shown) H) := by
  intro pins s σ H xs us Q I rel h
  obtain ⟨a, d, rfl, dp, sw, nd, dd, sz, hq⟩ := h
  obtain ⟨u, hu1, ru⟩ := vals1 rel
  subst hu1
  obtain ⟨as, rd⟩ := Dp.reads I d (.ref a) u dp ru
  have eu : u = Value.ref a := ru
  subst eu
  refine repr_of_reads' rd sw (fun z => by rw [nd] at z; cases z) gd (by omega) (fun _ _ e => e) (fun h' u tk hk => ?_) sz
  exact ⟨.str d.shown, H, I.kept hk, ⟨u, rfl⟩, hq⟩
theorem show_fits (ds : List Int) (hb : ∀ z ∈ ds, Bd 1900 z) (hl : ds.length ≤ 100) : (PyData.tuple (ds.map PyData.int)).showable = true ∧ (PyData.tuple (ds.map PyData.int)).hasDict = false ∧ (PyData.tuple (ds.map PyData.int)).depth ≤ 60 ∧ (PyData.tuple (ds.map PyData.int)).shown.length ≤ sizeLine := by
  have lg : ∀ z ∈ ds, z.natAbs.log2 < 1920 := fun z hz => ((hb z hz).mono (show 1900 ≤ 1920 by decide)).log (by decide)
  have key : ∀ l : List Int, (∀ z ∈ l, z.natAbs.log2 < 1920) → PyData.showableAll (l.map PyData.int) = true ∧ PyData.hasDictAll (l.map PyData.int) = false ∧ PyData.depthAll (l.map PyData.int) = 0 ∧ ((PyData.shownAll (l.map PyData.int)).map (·.length)).sum ≤ 1921 * l.length ∧ (PyData.shownAll (l.map PyData.int)).length = l.length := by
    intro l
    induction l with
    | nil => intro _; exact ⟨rfl, rfl, rfl, by simp [PyData.shownAll], rfl⟩
    | cons z r ih =>
      intro h
      obtain ⟨i1, i2, i3, i4, i5⟩ := ih fun y hy => h y (List.mem_cons_of_mem _ hy)
      have hz := h z (List.mem_cons_self ..)
      refine ⟨?_, ?_, ?_, ?_, ?_⟩
      · simp [PyData.showableAll, PyData.showable, hz, i1]
      · simp [PyData.hasDictAll, PyData.hasDict, i2]
      · simp [PyData.depthAll, PyData.depth, i3]
      · have := PyProof.Rows.int_text_len_1921 hz
        simp only [List.map_cons, PyData.shownAll, PyData.shown, List.sum_cons, List.length_cons]
        omega
      · simp [PyData.shownAll, i5]
  obtain ⟨k1, k2, k3, k4, k5⟩ := key ds lg
  refine ⟨by simpa [PyData.showable] using k1, by simpa [PyData.hasDict] using k2, by simp [PyData.depth, k3], ?_⟩
  have := tupleText_len_le (PyData.shownAll (ds.map PyData.int))
  rw [k5] at this
  show (tupleText (PyData.shownAll (ds.map PyData.int))).length ≤ sizeLine
  rw [sizeLine_eq]
  omega
theorem dpAll_ints {K : PySem.W.Frag} {H : Hp} : ∀ ds : List Int, DpAll K H (ds.map V.int) (ds.map PyData.int)
  | [] => .nil
  | c :: r => .cons (.int c) (dpAll_ints r)
/-- repr of a tuple of ints -/
theorem rp_ints {K : PySem.W.Frag} {H : Hp} {a : Addr} {Q : VK} (ds : List Int) (e : H a = some (.tup (ds.map V.int))) (hb : ∀ z ∈ ds, Bd 1900 z) (hl : ds.length ≤ 100) (h : Q (.str (PyData.tuple (ds.map PyData.int)).shown) H) :
    ∃ (a' : Addr) (d : PyData), [V.ref a] = [.ref a'] ∧ Dp K H (.ref a') d ∧ d.showable = true ∧ d.hasDict = false ∧ d.depth ≤ 60 ∧ d.shown.length ≤ sizeLine ∧ Q (.str d.shown) H := by
  obtain ⟨f1, f2, f3, f4⟩ := show_fits ds hb hl
  exact ⟨a, _, rfl, Dp.tup (SqT.of e) (dpAll_ints ds), f1, f2, f3, f4, h⟩
end Lf
namespace Lf
open PySem PySem.Spec PyProof.Rows L2
/-! ### guards and a table of code objects together -/
theorem lawGT {P : Program} {w : World} {K : PySem.W.Frag} {mg mb : Str → Option Value} {k : Nat} {fa ad cT PT : Addr} {fd : FuncData} {x : Str} {sp : Sp} {sh : Shared} {vs : List Value} {ns : List Int}
    (inK : K.In sh.heap) (nsm : sh.heap.Ns mainGlobals mg) (nsb : sh.heap.Ns builtinsNs mb) (bb : ∀ x : Str, x ≠ "__name__" → mb x = bootBuiltins x) (nol : sh.heap.NoLimit) (gn : sh.gens = #[])
    (tP : sh.heap.get? PT = some { cls := .none, data := .fields #[] }) (nP : K.lookup PT = none) (hC : PySem.W.CodeHd sh.heap cT PT)
    (bM : ∃ (bm : Addr) (ob : Obj), mg "__builtins__" = some (.ref bm) ∧ bm ≠ builtinsNs ∧ sh.heap.get? bm = some ob ∧ ob.cls = .type "module" ∧ ob.dict = some builtinsNs ∧ ob.data = .plain)
    (ga : sh.heap.get? ad = some { cls := .type "list", data := .seq vs.toArray }) (isI : IntsAre vs ns) (len : ns.length ≤ sizeLine) (rm : Room k callerA)
    (F : ∀ base : Heap, K.In base → base.Ns mainGlobals mg → LamX.TabB base mg cT PT → FnG P w K mg base k fa fd [x] sp) (bnd : ∀ (s : Shared) (u : Value), BindsTo s fd ⟨[u], []⟩ [(x, u)])
    (pr : ∀ H : Hp, H PT = some (.tbl #[]) → SqL K H ad (ns.map V.int) → sp [.ref ad] H (fun v _ => v = .bl true) fun _ _ _ => False) :
    codeAny (model P w) callerA (.call (.ref fa) ⟨[.ref ad], []⟩) (fun r sh' => r = .ok (.ret (.bool true)) ∧ OldK sh.heap sh'.heap ∧ sh'.os = sh.os ∧ AllBare sh'.gens) sh := by
  have rel := vals_ints isI
  have lnv := isI.length
  have nab : ¬ ad = PT := fun z => by
    rw [z, tP] at ga
    cases ga
  have main : ∀ H : Hp, H PT = some (.tbl #[]) → (∀ b, H b = none ∨ b = PT ∨ ∃ o xs, H b = some (.frz o (.lst xs))) → SqL K H ad (ns.map V.int) → HOk P w H sh.heap → (∀ b, H b ≠ none → b = ad ∨ b = PT) → (H ad ≠ none → K.lookup ad = none) →
      codeAny (model P w) callerA (.call (.ref fa) ⟨[.ref ad], []⟩) (fun r sh' => r = .ok (.ret (.bool true)) ∧ OldK sh.heap sh'.heap ∧ sh'.os = sh.os ∧ AllBare sh'.gens) sh := by
    intro H hT only seq hok one nk
    have lay : ∀ {b : Addr} {o : Obj}, sh.heap.get? b = some o → H b = none → (hidT sh.heap H).get? b = some o := fun e n => hidT_get e n
    -- what is no list and no empty record is not tracked
    have off : ∀ {b : Addr} {o : Obj}, sh.heap.get? b = some o → (∀ zs m, o.data ≠ .seq zs m) → o.data ≠ .fields #[] → H b = none := fun {b o} e n1 n2 => by
      cases z : H b with
      | none => rfl
      | some u =>
        rcases one b (by rw [z]; simp) with eb | eb
        · rw [eb, ga] at e
          cases e
          exact absurd rfl (n1 _ _)
        · rw [eb, tP] at e
          cases e
          exact absurd rfl n2
    have nsL : ∀ {b : Addr} {m : Str → Option Value}, sh.heap.Ns b m → (hidT sh.heap H).Ns b m := fun {b m} ⟨o, es, ep, e, d, r⟩ =>
      ⟨o, es, ep, lay e (off e (fun zs m z => by rw [d] at z; cases z) (fun z => by rw [d] at z; cases z)), d, r⟩
    have inB : K.In (hidT sh.heap H) := fun b o e => lay (inK b o e) (by
      cases z : H b with
      | none => rfl
      | some u =>
        rcases one b (by rw [z]; simp) with eb | eb
        · subst eb
          rw [nk (by rw [z]; simp)] at e
          cases e
        · rw [eb, nP] at e
          cases e)
    have md : Mod K mg (hidT sh.heap H) := ⟨inB, nsL nsm, ⟨mb, nsL nsb, bb⟩, let ⟨mc, h1, h2⟩ := nol; ⟨mc, nsL h1, h2⟩⟩
    have gP : ¬ mainGlobals = PT := fun z => by
      obtain ⟨o, es, ep, e, d, _⟩ := nsm
      rw [z, tP] at e
      cases e
      cases d
    have tb : LamX.TabB (hidT sh.heap H) mg cT PT := by
      refine ⟨?_, ?_, gP⟩
      · obtain ⟨o, us, fi, tf, fl, tg, iF, tx, tt, e1, r1, r2, r3, rr⟩ := hC
        refine ⟨o, us, fi, tf, fl, tg, iF, tx, tt, lay e1 (off e1 (fun zs m z => by rw [r2] at z; cases z) (fun z => ?_)), r1, r2, r3, rr⟩
        rw [r2] at z
        cases z
        simp at r3
      · obtain ⟨bm, ob, b1, b2, b3, b4, b5, b6⟩ := bM
        refine ⟨bm, ob, b1, b2, fun z => ?_, fun z => ?_, lay b3 (off b3 (fun zs m z => by rw [b6] at z; cases z) (fun z => by rw [b6] at z; cases z)), b4, b5, b6⟩
        · obtain ⟨o, es, ep, e, d, _⟩ := nsm
          rw [z, e] at b3
          cases b3
          rw [d] at b6
          cases b6
        · rw [z, tP] at b3
          cases b3
          cases b6
    have en : Env0 P w K mg (hidT sh.heap H) callerA [] sh H := ⟨rfl, md, fun b o e => of_hidT e, Nat.le_of_eq (hidT_size _ _), trivial, fun b hb => absurd (show b ∈ ([] : List Addr) from hb) (by simp), hok, .of_eq gn⟩
    refine codeAny_mono ((F _ inB (nsL nsm) tb).runG callerA [] sh H ⟨[.ref ad], []⟩ [.ref ad] [.ref ad] _ _ rm rfl en (bnd sh (.ref ad)) (.cons rfl .nil) (pr H hT seq)) fun r sh' h => ?_
    match r, h with
    | .error e, h => exact (show False from h).elim
    | .ok .next, h => exact False.elim h
    | .ok .brk, h => exact False.elim h
    | .ok .cont, h => exact False.elim h
    | .ok (.ret u), h =>
      obtain ⟨v, H', os, bare, un, hok', rv, z⟩ := h
      have z' : v = .bl true := z
      subst z'
      have eu : u = Value.bool true := rv
      subst eu
      have old : ∀ b o, ¬ b = PT → sh.heap.get? b = some o → sh'.heap.get? b = some o := fun b o nb e => by
        cases zb : H b with
        | none => exact un.keep b o e zb (fun z => absurd (show b ∈ ([] : List Addr) from z) (by simp)) (by simp)
        | some u =>
          rcases only b with z | z | ⟨ob, xs, z⟩
          · rw [zb] at z
            cases z
          · exact absurd z nb
          · have e1 := (hok b _ z).1
            have e2 := (hok' b _ (un.frzs b ob _ z)).1
            rw [e] at e1
            cases e1
            exact e2
      obtain ⟨more, zm⟩ := un.tbls PT #[] hT
      have grown : sh'.heap.get? PT = some { cls := .none, data := .fields (#[] ++ more) } := hok' PT _ zm
      refine ⟨rfl, ⟨fun b o e => ?_, fun b o e => ?_⟩, os, bare⟩
      · by_cases hb : b = PT
        · rw [hb] at e ⊢
          rw [tP] at e
          cases e
          exact .inr (.inl ⟨(hC.tab tP).isCodeTable, rfl, #[], more, rfl, grown⟩)
        · exact .inl (old b o hb e)
      · by_cases hb : b = PT
        · rw [hb]
          exact ⟨_, grown⟩
        · exact ⟨o, old b o hb e⟩
  cases hk : K.lookup ad with
  | some o =>
    have e := inK ad o hk
    rw [ga] at e
    cases e
    refine main (fun b => if b = PT then some (.tbl #[]) else none) (if_pos rfl) (fun b => ?_) (.inr ⟨_, vs.toArray, _, hk, rfl, rfl, rfl, by rw [List.size_toArray, lnv]; exact len, by simpa using rel⟩) (fun b u z => ?_) (fun b z => ?_) (fun z => absurd (if_neg nab) z)
    · by_cases hb : b = PT
      · exact .inr (.inl hb)
      · exact .inl (if_neg hb)
    · by_cases hb : b = PT
      · rw [hb] at z ⊢
        have z' := (if_pos rfl).symm.trans z
        cases z'
        exact tP
      · exact (nomatch (if_neg hb).symm.trans z)
    · by_cases hb : b = PT
      · exact .inr hb
      · exact absurd (if_neg hb) z
  | none =>
    refine main (fun b => if b = ad then some (.frz { cls := .type "list", data := .seq vs.toArray } (.lst (ns.map V.int))) else if b = PT then some (.tbl #[]) else none) ((if_neg (fun z => nab z.symm)).trans (if_pos rfl)) (fun b => ?_) (.inl (.inr ⟨{ cls := .type "list", data := .seq vs.toArray }, if_pos rfl⟩)) (fun b u z => ?_) (fun b z => ?_) (fun _ => hk)
    · by_cases eb : b = ad
      · exact .inr (.inr ⟨_, _, if_pos eb⟩)
      · by_cases hb : b = PT
        · exact .inr (.inl hb)
        · exact .inl ((if_neg eb).trans (if_neg hb))
    · by_cases eb : b = ad
      · subst eb
        have z' := (if_pos rfl).symm.trans z
        cases z'
        exact ⟨ga, by rw [List.length_map]; exact len, vs, _, rel, ga⟩
      · have z1 := (if_neg eb).symm.trans z
        by_cases hb : b = PT
        · rw [hb] at z1 ⊢
          have z' := (if_pos rfl).symm.trans z1
          cases z'
          exact tP
        · exact (nomatch (if_neg hb).symm.trans z1)
    · by_cases eb : b = ad
      · exact .inl eb
      · by_cases hb : b = PT
        · exact .inr hb
        · exact absurd ((if_neg eb).trans (if_neg hb)) z
/-- what the head tells of the law, of the table PT of the code object cT -/
structure LawGT (l : PySem.W.OpenLaw) (w : World) (K : PySem.W.Frag) (k : Nat) (x : Str) (mg : Str → Option Value) (fa : Addr) (h : Heap) : Prop where
  ex : ∃ (fd : FuncData) (cT PT : Addr) (sp : Sp), h.get? PT = some { cls := .none, data := .fields #[] } ∧ K.lookup PT = none ∧ PySem.W.CodeHd h cT PT ∧ (∀ (s : Shared) (u : Value), BindsTo s fd ⟨[u], []⟩ [(x, u)]) ∧
    (∀ (H : Hp) (a : Addr) (ns : List Int), ns.length ≤ 63 → H PT = some (.tbl #[]) → SqL K H a (ns.map V.int) → sp [.ref a] H (fun v _ => v = .bl true) fun _ _ _ => False) ∧
    ∀ base : Heap, K.In base → base.Ns mainGlobals mg → LamX.TabB base mg cT PT → FnG l.prog w K mg base k fa fd [x] sp
theorem walkGT {l : PySem.W.OpenLaw} {k : Nat} {q : Program} {loose : List Str} {XP : (Str → Option Value) → Heap → Prop} {YP : World → Heap → Prop} {d : DefRec} {K : Params → PySem.W.Frag} {x : Str}
    (most : l.most = some 63) (nodf : d.params.defaults = []) (rm : Room k callerA) (inY : ∀ (w : World) (h : Heap), YP w h → (K w.params).In h)
    (F : ∀ (w : World) (mg : Str → Option Value) (fa : Addr) (h : Heap), YP w h → (K w.params).In h → h.Ns mainGlobals mg → mg d.name = some (.ref fa) → LawGT l w (K w.params) k x mg fa h) : PySem.W.WalkO q loose XP YP l.row.toRowW d [] (fun f vs => PySem.call f vs) := by
  refine Att.attach_call most nodf fun w s₀ sh mg mb fa o pm cd doc a vs ns G Y ho hd hcd hmg hobj hints hlen hg => ?_
  have inK := inY w _ Y
  obtain ⟨fd, cT, PT, sp, tP, nP, hC, hb, hp, hF⟩ := (F w mg fa _ Y inK G.T.g hmg).ex
  exact lawGT inK G.T.g G.T.b G.T.builtins G.T.nolimit hg tP nP hC G.T.bmain hobj hints (Nat.le_trans hlen (by decide)) rm hF hb (fun H hH hS => hp H a ns hlen hH hS)
/-! ### a def by its row, called where no repr is under way -/
theorem fnG_lk {P : Program} {w : World} {K : PySem.W.Frag} {mg : Str → Option Value} {base : Heap} {x : Str} {st : Stmt} {f : Addr} {N ps : List Str} {k : Nat} {sp : Sp} {oc kV doc pm cdv ct : Value} {od an : Option Addr} {osl : Array (Option Value)}
    (lkp : K.lookup f = some ⟨oc, od, .func (PySem.W.fnOf x x (defArgs st) (defBody st) (defScope st) .none kV doc pm an cdv ct), osl⟩) (cin : PySem.W.codeIn K cdv x = true) (S : FnScope N ps (defScope st)) (ln : ∀ vs H Q E, sp vs H Q E → vs.length = ps.length)
    (bd : ∀ (A : Around) (out : List Env) (sh : Shared) (H : Hp) (vs : List V) (Q : VK) (E : XK), Room k (A.deeper (envOfC x (defScope st) sh.heap.objs.size f cdv)) → A.guards = some [] → sp vs H Q E →
      ∃ t, PSs (cxOf CX0 P w K mg base N x (defScope st) f cdv A out sh H E).nox (defBody st) t ∧ t { nx := fun _ H' => Q .non H', rt := Q } (start N vs) H) : FnG P w K mg base (k + 1) f (PySem.W.fnOf x x (defArgs st) (defBody st) (defScope st) .none kV doc pm an cdv ct) ps sp := by
  refine ⟨ln, fun A out sh H ar us vs Q E rm gd en bnd rel pr => ?_⟩
  have lv := ln _ _ _ _ pr
  have kIn : K.In sh.heap := en.mod.kin.keeps fun b o e => (en.bs b o e).1
  have nol : sh.heap.NoLimit := en.mod.nolimit.keeps fun b o e => (en.bs b o e).1
  have knd : ∀ y ∈ ps.zip us, (defScope st).names.lookup y.1 = some .local ∨ ((defScope st).names.lookup y.1 = some .cell ∧ ((cellsFrom (sh.heap.objs.size + 1) (defScope st).names []).lookup y.1).isSome = true) := fun ⟨n, v⟩ hy => by
    rcases S.par n (List.of_mem_zip hy).1 with z | z
    · exact .inl z
    · exact .inr ⟨z, PySem.W.cellsFrom_some _ _ _ (.inl z)⟩
  refine codeAny_call_function rm.depth (kIn _ _ lkp) rfl S.co S.gen rfl (PySem.W.codeRec_of kIn cin) (bnd _ _ _ _ ?_)
  refine wpAny_newFunctionEnv_cells S.kind knd fun env he sh1 x1 => ?_
  subst he
  refine ⟨nol.keeps x1.toInCall.keep, codeAny_func ?_⟩
  obtain ⟨t, ht, hq⟩ := bd A out sh H vs Q E (rm.deeper _) gd pr
  have inv := inv_start (CX := CX0) (P := P) (w := w) (K := K) (mg := mg) (base := base) (E := E) (f := f) (cd := cdv) (qual := x) S rm.hd en lv rel x1
  refine wpAny_mono (ht.nox.run [] sh1 (start N vs) H _ inv hq) (fun fl sh' hs => ?_) fun e sh' hs => hs
  cases fl with
  | ret u =>
    obtain ⟨v, σ', H', J, rv, z⟩ := hs
    exact ⟨v, H', J.os, J.bare, J.base, J.hok, rv, z⟩
  | next =>
    obtain ⟨σ', H', J, z⟩ := hs
    exact ⟨V.non, H', J.os, J.bare, J.base, J.hok, rfl, z⟩
  | brk =>
    obtain ⟨_, _, _, z⟩ := hs
    exact False.elim z
  | cont =>
    obtain ⟨_, _, _, z⟩ := hs
    exact False.elim z
section
variable {X : Cx} {x : Str} {sp : Sp} {W : WX} {j k i : Nat} {f : Addr} {fd : FuncData} {ps : List Str} {e : Expr} {es : List Expr} {t : TA} {p po : Pos}
/-- such a def, called by its name -/
theorem pe_g (F : FnG X.prog X.w X.K X.mg X.base k f fd ps sp) (gd : X.A.guards = some []) (hr : Room j X.A) (hk : k ≤ j) (hg : Gl X x) (hm : X.mg x = some (.ref f)) (kp : PySem.W.keepIn X.K (.ref f) = true) (hb : Binds X.K fd ps []) (ha : L2.PA X (e :: es) t)
    (hdb : (x == ("__debug__" : Str)) = false := by decide) (he : starEach (e :: es) X.env = (false, eval e X.env) :: starEach es X.env := by rfl) (hpl : (backTo po (starEach es X.env)).any (·.1) = false := by rfl) :
    PE X (.Call (.Name x p) (e :: es) [] po) (fun σ H Q => t σ H fun vs H1 => sp vs H1 Q (fun _ _ _ => False)) := by
  refine ⟨fun pins s σ H Q I h => wpAny_Call_Name_kw (ld_glob I hg hm ?_ hdb)⟩
  refine PySem.W.callWith_K (h₀ := X.base) I.ok.mod.kin kp (thn (ha.run po pins s σ H _ I h) fun us s1 ⟨vs, H1, I1, rv, q⟩ => ⟨I1.kIn, ?_⟩) he hpl
  have hl : us.length = ps.length := by rw [← rv.length]; exact F.lenG _ _ _ _ q
  have b := hb s1 us I1.kIn (by rw [List.append_nil]; exact hl)
  rw [List.append_nil] at b
  refine wpAny_call (codeAny_mono (F.runG X.A X.stack s1 H1 ⟨us, []⟩ us vs Q _ (hr.mono hk) gd I1.env0 b rv q) fun r s' hq => ?_)
  cases r with
  | error e => exact (show False from hq).elim
  | ok fl =>
    cases fl with
    | ret u => exact I1.after hq
    | next => exact False.elim hq
    | brk => exact False.elim hq
    | cont => exact False.elim hq
/-- a name that holds one of some defs that raise -/
theorem pe_vx (S : Addr → Prop) (hS : ∀ f, S f → ∃ fd ps, FnOk X.prog X.w X.K X.mg X.base (L2.CX X.prog X.w) k f fd ps sp ∧ PySem.W.keepIn X.K (.ref f) = true ∧ Binds X.K fd ps []) (hr : Room j X.A) (hk : k ≤ j) (tk : Takes X W) (hN : X.N[i]? = some x) (hv : Vis X.env.scope x) (ha : L2.PA X (e :: es) t)
    (hd : (x == ("__debug__" : Str)) = false := by decide) (hcd : (x == ("__classdict__" : Str)) = false := by decide) (he : starEach (e :: es) X.env = (false, eval e X.env) :: starEach es X.env := by rfl) (hpl : (backTo po (starEach es X.env)).any (·.1) = false := by rfl) :
    PE X (.Call (.Name x p) (e :: es) [] po) (fun σ H Q => ∃ f, σ[i]? = some (some (.ref f)) ∧ S f ∧ t σ H fun vs H1 => sp vs H1 Q (WE W σ)) := by
  refine ⟨fun pins s σ H Q I h => ?_⟩
  obtain ⟨f, hs, hf, h⟩ := h
  obtain ⟨fd, ps, F, kp, b⟩ := hS f hf
  refine wpAny_Call_Name_kw (thn ((pe_var (pos := p) (i := i) hN hv hd hcd).run pins s σ H (fun v H1 => v = .ref f ∧ H1 = H) I ⟨.ref f, hs, rfl, rfl⟩) fun u s1 ⟨v, H1, I1, r1, q1, q2⟩ => ?_)
  subst q1
  rw [q2] at I1
  cases r1
  refine PySem.W.callWith_K (h₀ := X.base) I1.ok.mod.kin kp (thn (ha.run po pins s1 σ H _ I1 h) fun us s2 ⟨vs, H2, I2, rv, q⟩ => ⟨I2.kIn, ?_⟩) he hpl
  exact run_fnS F (hr.mono hk) b (passAt tk σ) I2 rv q
end
end Lf
namespace Lf
open PySem PySem.Spec PyProof.Rows L2
/-! ### as lawGT, for some tables of code objects, and the base has the table of modules -/
def InT (TS : List (Addr × Addr)) (b : Addr) : Prop := ∃ q ∈ TS, q.2 = b
theorem lawGTn {P : Program} {w : World} {K : PySem.W.Frag} {mg mb : Str → Option Value} {k : Nat} {fa ad : Addr} {TS : List (Addr × Addr)} {fd : FuncData} {x : Str} {sp : Sp} {sh : Shared} {vs : List Value} {ns : List Int}
    (inK : K.In sh.heap) (nsm : sh.heap.Ns mainGlobals mg) (nsb : sh.heap.Ns builtinsNs mb) (bb : ∀ x : Str, x ≠ "__name__" → mb x = bootBuiltins x) (nol : sh.heap.NoLimit) (gn : sh.gens = #[])
    (sM : ∃ mm, sh.heap.Ns sysModules mm) (tPs : ∀ q ∈ TS, sh.heap.get? q.2 = some { cls := .none, data := .fields #[] }) (nPs : ∀ q ∈ TS, K.lookup q.2 = none) (hCs : ∀ q ∈ TS, PySem.W.CodeHd sh.heap q.1 q.2)
    (bM : ∃ (bm : Addr) (ob : Obj), mg "__builtins__" = some (.ref bm) ∧ bm ≠ builtinsNs ∧ sh.heap.get? bm = some ob ∧ ob.cls = .type "module" ∧ ob.dict = some builtinsNs ∧ ob.data = .plain)
    (ga : sh.heap.get? ad = some { cls := .type "list", data := .seq vs.toArray }) (isI : IntsAre vs ns) (len : ns.length ≤ sizeLine) (rm : Room k callerA)
    (F : ∀ base : Heap, K.In base → base.Ns mainGlobals mg → (∃ o, base.get? 1 = some o) → (∀ q ∈ TS, LamX.TabB base mg q.1 q.2) → FnG P w K mg base k fa fd [x] sp) (bnd : ∀ (s : Shared) (u : Value), BindsTo s fd ⟨[u], []⟩ [(x, u)])
    (pr : ∀ H : Hp, (∀ q ∈ TS, H q.2 = some (.tbl #[])) → SqL K H ad (ns.map V.int) → sp [.ref ad] H (fun v _ => v = .bl true) fun _ _ _ => False) :
    codeAny (model P w) callerA (.call (.ref fa) ⟨[.ref ad], []⟩) (fun r sh' => r = .ok (.ret (.bool true)) ∧ OldK sh.heap sh'.heap ∧ sh'.os = sh.os ∧ AllBare sh'.gens) sh := by
  have rel := vals_ints isI
  have lnv := isI.length
  have tP : ∀ {b}, InT TS b → sh.heap.get? b = some { cls := .none, data := .fields #[] } := fun ⟨q, hq, e⟩ => e ▸ tPs q hq
  have nP : ∀ {b}, InT TS b → K.lookup b = none := fun ⟨q, hq, e⟩ => e ▸ nPs q hq
  have nab : ¬ InT TS ad := fun z => by
    rw [tP z] at ga
    cases ga
  have main : ∀ H : Hp, (∀ b, InT TS b → H b = some (.tbl #[])) → (∀ b, H b = none ∨ InT TS b ∨ ∃ o xs, H b = some (.frz o (.lst xs))) → SqL K H ad (ns.map V.int) → HOk P w H sh.heap → (∀ b, H b ≠ none → b = ad ∨ InT TS b) → (H ad ≠ none → K.lookup ad = none) →
      codeAny (model P w) callerA (.call (.ref fa) ⟨[.ref ad], []⟩) (fun r sh' => r = .ok (.ret (.bool true)) ∧ OldK sh.heap sh'.heap ∧ sh'.os = sh.os ∧ AllBare sh'.gens) sh := by
    intro H hT only seq hok one nk
    have lay : ∀ {b : Addr} {o : Obj}, sh.heap.get? b = some o → H b = none → (hidT sh.heap H).get? b = some o := fun e n => hidT_get e n
    -- what is no list and no empty record is not tracked
    have off : ∀ {b : Addr} {o : Obj}, sh.heap.get? b = some o → (∀ zs m, o.data ≠ .seq zs m) → o.data ≠ .fields #[] → H b = none := fun {b o} e n1 n2 => by
      cases z : H b with
      | none => rfl
      | some u =>
        rcases one b (by rw [z]; simp) with eb | eb
        · rw [eb, ga] at e
          cases e
          exact absurd rfl (n1 _ _)
        · rw [tP eb] at e
          cases e
          exact absurd rfl n2
    have nsL : ∀ {b : Addr} {m : Str → Option Value}, sh.heap.Ns b m → (hidT sh.heap H).Ns b m := fun {b m} ⟨o, es, ep, e, d, r⟩ =>
      ⟨o, es, ep, lay e (off e (fun zs m z => by rw [d] at z; cases z) (fun z => by rw [d] at z; cases z)), d, r⟩
    have inB : K.In (hidT sh.heap H) := fun b o e => lay (inK b o e) (by
      cases z : H b with
      | none => rfl
      | some u =>
        rcases one b (by rw [z]; simp) with eb | eb
        · subst eb
          rw [nk (by rw [z]; simp)] at e
          cases e
        · rw [nP eb] at e
          cases e)
    have md : Mod K mg (hidT sh.heap H) := ⟨inB, nsL nsm, ⟨mb, nsL nsb, bb⟩, let ⟨mc, h1, h2⟩ := nol; ⟨mc, nsL h1, h2⟩⟩
    have tb : ∀ q ∈ TS, LamX.TabB (hidT sh.heap H) mg q.1 q.2 := fun q hq => by
      have tq := tPs q hq
      have hC := hCs q hq
      have gP : ¬ mainGlobals = q.2 := fun z => by
        obtain ⟨o, es, ep, e, d, _⟩ := nsm
        rw [z, tq] at e
        cases e
        cases d
      refine ⟨?_, ?_, gP⟩
      · obtain ⟨o, us, fi, tf, fl, tg, iF, tx, tt, e1, r1, r2, r3, rr⟩ := hC
        refine ⟨o, us, fi, tf, fl, tg, iF, tx, tt, lay e1 (off e1 (fun zs m z => by rw [r2] at z; cases z) (fun z => ?_)), r1, r2, r3, rr⟩
        rw [r2] at z
        cases z
        simp at r3
      · obtain ⟨bm, ob, b1, b2, b3, b4, b5, b6⟩ := bM
        refine ⟨bm, ob, b1, b2, fun z => ?_, fun z => ?_, lay b3 (off b3 (fun zs m z => by rw [b6] at z; cases z) (fun z => by rw [b6] at z; cases z)), b4, b5, b6⟩
        · obtain ⟨o, es, ep, e, d, _⟩ := nsm
          rw [z, e] at b3
          cases b3
          rw [d] at b6
          cases b6
        · rw [z, tq] at b3
          cases b3
          cases b6
    have en : Env0 P w K mg (hidT sh.heap H) callerA [] sh H := ⟨rfl, md, fun b o e => of_hidT e, Nat.le_of_eq (hidT_size _ _), trivial, fun b hb => absurd (show b ∈ ([] : List Addr) from hb) (by simp), hok, .of_eq gn⟩
    refine codeAny_mono ((F _ inB (nsL nsm) (let ⟨_, h⟩ := sM; let ⟨o, _, _, e, _⟩ := nsL h; ⟨o, e⟩) tb).runG callerA [] sh H ⟨[.ref ad], []⟩ [.ref ad] [.ref ad] _ _ rm rfl en (bnd sh (.ref ad)) (.cons rfl .nil) (pr H (fun q hq => hT q.2 ⟨q, hq, rfl⟩) seq)) fun r sh' h => ?_
    match r, h with
    | .error e, h => exact (show False from h).elim
    | .ok .next, h => exact False.elim h
    | .ok .brk, h => exact False.elim h
    | .ok .cont, h => exact False.elim h
    | .ok (.ret u), h =>
      obtain ⟨v, H', os, bare, un, hok', rv, z⟩ := h
      have z' : v = .bl true := z
      subst z'
      have eu : u = Value.bool true := rv
      subst eu
      have old : ∀ b o, ¬ InT TS b → sh.heap.get? b = some o → sh'.heap.get? b = some o := fun b o nb e => by
        cases zb : H b with
        | none => exact un.keep b o e zb (fun z => absurd (show b ∈ ([] : List Addr) from z) (by simp)) (by simp)
        | some u =>
          rcases only b with z | z | ⟨ob, xs, z⟩
          · rw [zb] at z
            cases z
          · exact absurd z nb
          · have e1 := (hok b _ z).1
            have e2 := (hok' b _ (un.frzs b ob _ z)).1
            rw [e] at e1
            cases e1
            exact e2
      have hT' : ∀ b, InT TS b → ∃ more, sh'.heap.get? b = some { cls := .none, data := .fields (#[] ++ more) } := fun b hb => by
        obtain ⟨more, zm⟩ := un.tbls b #[] (hT b hb)
        exact ⟨more, hok' b _ zm⟩
      refine ⟨rfl, ⟨fun b o e => ?_, fun b o e => ?_⟩, os, bare⟩
      · by_cases hb : InT TS b
        · obtain ⟨more, grown⟩ := hT' b hb
          have tb := tP hb
          rw [tb] at e
          cases e
          obtain ⟨q, hq, eq⟩ := hb
          exact .inr (.inl ⟨by rw [← eq]; exact ((hCs q hq).tab (tPs q hq)).isCodeTable, rfl, #[], more, rfl, grown⟩)
        · exact .inl (old b o hb e)
      · by_cases hb : InT TS b
        · obtain ⟨more, grown⟩ := hT' b hb
          exact ⟨_, grown⟩
        · exact ⟨o, old b o hb e⟩
  haveI : ∀ b, Decidable (InT TS b) := fun b => Classical.propDecidable _
  cases hk : K.lookup ad with
  | some o =>
    have e := inK ad o hk
    rw [ga] at e
    cases e
    refine main (fun b => if InT TS b then some (.tbl #[]) else none) (fun b hb => if_pos hb) (fun b => ?_) (.inr ⟨_, vs.toArray, _, hk, rfl, rfl, rfl, by rw [List.size_toArray, lnv]; exact len, by simpa using rel⟩) (fun b u z => ?_) (fun b z => ?_) (fun z => absurd (if_neg nab) z)
    · by_cases hb : InT TS b
      · exact .inr (.inl hb)
      · exact .inl (if_neg hb)
    · by_cases hb : InT TS b
      · have z' := (if_pos hb).symm.trans z
        cases z'
        exact tP hb
      · exact (nomatch (if_neg hb).symm.trans z)
    · by_cases hb : InT TS b
      · exact .inr hb
      · exact absurd (if_neg hb) z
  | none =>
    refine main (fun b => if b = ad then some (.frz { cls := .type "list", data := .seq vs.toArray } (.lst (ns.map V.int))) else if InT TS b then some (.tbl #[]) else none) (fun b hb => (if_neg (fun (z : b = ad) => nab (z ▸ hb))).trans (if_pos hb)) (fun b => ?_) (.inl (.inr ⟨{ cls := .type "list", data := .seq vs.toArray }, if_pos rfl⟩)) (fun b u z => ?_) (fun b z => ?_) (fun _ => hk)
    · by_cases eb : b = ad
      · exact .inr (.inr ⟨_, _, if_pos eb⟩)
      · by_cases hb : InT TS b
        · exact .inr (.inl hb)
        · exact .inl ((if_neg eb).trans (if_neg hb))
    · by_cases eb : b = ad
      · subst eb
        have z' := (if_pos rfl).symm.trans z
        cases z'
        exact ⟨ga, by rw [List.length_map]; exact len, vs, _, rel, ga⟩
      · have z1 := (if_neg eb).symm.trans z
        by_cases hb : InT TS b
        · have z' := (if_pos hb).symm.trans z1
          cases z'
          exact tP hb
        · exact (nomatch (if_neg hb).symm.trans z1)
    · by_cases eb : b = ad
      · exact .inl eb
      · by_cases hb : InT TS b
        · exact .inr hb
        · exact absurd ((if_neg eb).trans (if_neg hb)) z
/-- what the head tells of the law, of the tables of some code objects -/
structure LawGTn (l : PySem.W.OpenLaw) (w : World) (K : PySem.W.Frag) (k : Nat) (x : Str) (mg : Str → Option Value) (fa : Addr) (h : Heap) : Prop where
  ex : ∃ (fd : FuncData) (TS : List (Addr × Addr)) (sp : Sp), (∀ q ∈ TS, h.get? q.2 = some { cls := .none, data := .fields #[] }) ∧ (∀ q ∈ TS, K.lookup q.2 = none) ∧ (∀ q ∈ TS, PySem.W.CodeHd h q.1 q.2) ∧ (∀ (s : Shared) (u : Value), BindsTo s fd ⟨[u], []⟩ [(x, u)]) ∧
    (∀ (H : Hp) (a : Addr) (ns : List Int), ns.length ≤ 63 → (∀ q ∈ TS, H q.2 = some (.tbl #[])) → SqL K H a (ns.map V.int) → sp [.ref a] H (fun v _ => v = .bl true) fun _ _ _ => False) ∧
    ∀ base : Heap, K.In base → base.Ns mainGlobals mg → (∃ o, base.get? 1 = some o) → (∀ q ∈ TS, LamX.TabB base mg q.1 q.2) → FnG l.prog w K mg base k fa fd [x] sp
theorem walkGTn {l : PySem.W.OpenLaw} {k : Nat} {q : Program} {loose : List Str} {XP : (Str → Option Value) → Heap → Prop} {YP : World → Heap → Prop} {d : DefRec} {K : Params → PySem.W.Frag} {x : Str}
    (noImp : importsNone q = true) (most : l.most = some 63) (nodf : d.params.defaults = []) (rm : Room k callerA) (inY : ∀ (w : World) (h : Heap), YP w h → (K w.params).In h)
    (F : ∀ (w : World) (mg : Str → Option Value) (fa : Addr) (h : Heap), YP w h → (K w.params).In h → h.Ns mainGlobals mg → mg d.name = some (.ref fa) → LawGTn l w (K w.params) k x mg fa h) : PySem.W.WalkO q loose XP YP l.row.toRowW d [] (fun f vs => PySem.call f vs) := by
  refine Att.attach_call most nodf fun w s₀ sh mg mb fa o pm cd doc a vs ns G Y ho hd hcd hmg hobj hints hlen hg => ?_
  have inK := inY w _ Y
  obtain ⟨fd, TS, sp, tP, nP, hC, hb, hp, hF⟩ := (F w mg fa _ Y inK G.T.g hmg).ex
  exact lawGTn inK G.T.g G.T.b G.T.builtins G.T.nolimit hg (let ⟨mm, h, _⟩ := (G.T.seer noImp).mods; ⟨mm, h⟩) tP nP hC G.T.bmain hobj hints (Nat.le_trans hlen (by decide)) rm hF hb (fun H hH hS => hp H a ns hlen hH hS)
/-! ### a def that makes lambdas: its row, its code object, its table -/
structure DfT (K : PySem.W.Frag) (mg : Str → Option Value) (base : Heap) (x : Str) (st : Stmt) (ps : List Str) (PT : Addr) : Prop where
  ex : ∃ (f cQ : Addr) (oc kV doc pm ct : Value) (od an : Option Addr) (osl : Array (Option Value)), K.lookup f = some ⟨oc, od, .func (PySem.W.fnOf x x (defArgs st) (defBody st) (defScope st) .none kV doc pm an (.ref cQ) ct), osl⟩ ∧ PySem.W.codeIn K (.ref cQ) x = true ∧ PySem.W.keepIn K (.ref f) = true ∧ mg x = some (.ref f) ∧
    Binds K (PySem.W.fnOf x x (defArgs st) (defBody st) (defScope st) .none kV doc pm an (.ref cQ) ct) ps [] ∧ LamX.TabB base mg cQ PT
theorem calT_of {P : Program} {w : World} {K : PySem.W.Frag} {mg : Str → Option Value} {base : Heap} {x : Str} {st : Stmt} {N ps : List Str} {k : Nat} {sp : Sp} {PT : Addr} (D : DfT K mg base x st ps PT) (S : FnScope N ps (defScope st)) (len : ∀ vs H Q E, sp vs H Q E → vs.length = ps.length)
    (hb : ∀ (f cQ : Addr) (A : Around) (outer : List Env) (s : Shared) (H : Hp) (vs : List V) (Q : VK) (E : XK), LamX.TabB base mg cQ PT → Room k (A.deeper (envOfC x (defScope st) s.heap.objs.size f (.ref cQ))) → sp vs H Q E →
      ∃ t, PSs (cxOf CX0 P w K mg base N x (defScope st) f (.ref cQ) A outer s H E).nox (defBody st) t ∧ t { nx := fun _ H' => Q .non H', rt := Q } (start N vs) H) : C8.Cal P w K mg base (k + 1) x sp [] := by
  obtain ⟨f, cQ, oc, kV, doc, pm, ct, od, an, osl, lk, hcd, kp, hm, b, TB⟩ := D.ex
  refine ⟨⟨f, _, ps, [], fn_of lk hcd S len fun A outer s H vs Q E hr hsp => ?_, hm, kp, b, .nil⟩⟩
  obtain ⟨t, h, q⟩ := hb f cQ A outer s H vs Q E TB hr hsp
  exact ⟨t, h.nox, q⟩
end Lf
namespace Lf
open PySem PySem.Spec PyProof.Rows L2
/-! ### an own exception class over ValueError whose __init__ says super().__init__(text), self.x = x -/
/-- the context of such an __init__ at its entry -/
def cxSup (P : Program) (w : World) (K : PySem.W.Frag) (mg : Str → Option Value) (base : Heap) (N : List Str) (env : Env) (A : Around) (outer : List Env) (s : Shared) (H : Hp) : Cx where
  prog := P
  w := w
  K := K
  mg := mg
  base := base
  A := A.deeper env
  N := N
  s_0 := s
  H_0 := H
  env := env
  outer := outer
  stack := env :: outer
  ex := []
  calm := true
  fn := fun _ => false
  pn := []
  xe := fun _ _ => False
/-- what it promises -/
def spIni (C : Addr) (x : Str) : Sp := fun vs H Q _ => ∃ (a : Addr) (v : V), vs = [.ref a, v] ∧ H a = some (exo a C none) ∧
  ∀ dx, H dx = none → dx ≠ a → Q .non (upd (upd H dx (exd dx [(x, v)])) a (exo a C (some dx)))
/-- its text -/
structure IniT (x : Str) (params : Arguments) (body : List Stmt) (scope : Scope) : Prop where
  pa : ∃ ar, (params.posonlyargs ++ params.args).head? = some ar ∧ ar.arg = "self"
  bd : ∃ txt p0 p1 p2 p3 p4 p5 p6 p7 p8 p9 j, body = [.Expr (.Call (.Attribute (.Call (.Name "super" p0) [] [] p1) "__init__" p2) [.Constant (.str txt) j p3] [] p4) p5, .Assign [.Attribute (.Name "self" p6) x p7] (.Name x p8) p9] ∧
    ∃ pl : Env → Sem Bool, ∀ env : Env, eval (.Call (.Attribute (.Call (.Name "super" p0) [] [] p1) "__init__" p2) [.Constant (.str txt) j p3] [] p4) env = (do
      let ov ← attributeBase (.Call (.Name "super" p0) [] [] p1) "__init__" env (eval (.Call (.Name "super" p0) [] [] p1) env)
      standAt p2.atName
      let (f, first) ← holding [ov] (getMethod ov "__init__" (pl env))
      callWith p4 f first (backTo p4 (starEach [.Constant (.str txt) j p3] env)) [])
  ls : scope.names.lookup ("self" : Str) = some .local
  lx : scope.names.lookup x = some .local
  lc : scope.names.lookup ("__class__" : Str) = some .free
  lu : scope.names.lookup ("super" : Str) = some .globalImplicit
  nc : ∀ y ∈ scope.names, y.2 ≠ .cell
  nf : ∀ y ∈ scope.names, y.2 = .free → y.1 = "__class__"
  co : scope.isCoroutine = false
  ge : scope.isGenerator = false
  kd : scope.kind = .function
  ne : x ≠ "self"
  dx : (x == ("__debug__" : Str)) = false
  dc : (x == ("__classdict__" : Str)) = false
/-- what the written part tells of it -/
structure SupC (P : Program) (K : PySem.W.Frag) (C cda cc : Addr) (x : Str) : Prop where
  cls : OexC K C
  code : ∃ ccl cdd vs ccs file tf, K.lookup cda = some ⟨ccl, cdd, .fields vs, ccs⟩ ∧ vs[2]? = some (.str file tf) ∧ ((P.main.file : Str) == file) = true
  cell : ∃ cl cld csl, K.lookup cc = some ⟨cl, cld, .cell (some (.ref C)), csl⟩
  sub : PySem.W.mroIn K C (.ref C) = some true
  st : PySem.W.nsIn K cStatics "thirdparty.any" = some none
  sup : PySem.W.ks_superIn K C C "__init__" = some (some (.builtin "ValueError.__init__"))
  ve : PySem.W.subIn K (.ref C) (.type "ValueError") = some true
  no : PySem.W.findIn K (.ref C) x = some none
  top : (P.main.scope.names.lookup ("super" : Str)).isSome = false
theorem bt_super : bootBuiltins ("super" : Str) = Option.some (Value.type "super") := by decide +kernel
section
variable {P : Program} {w : World} {K : PySem.W.Frag} {mg : Str → Option Value} {base : Heap}
theorem fn_sup {CX : CXT} {C f cda cc : Addr} {name qual x : Str} {params : Arguments} {body : List Stmt} {scope : Scope} {dV kV doc pm ct oc : Value} {an od : Option Addr} {osl : Array (Option Value)}
    (lk : K.lookup f = some ⟨oc, od, .func (PySem.W.ksFn name qual params body scope dV kV doc pm an (.ref cda) ct cc), osl⟩) (hcd : PySem.W.codeIn K (.ref cda) qual = true) (T : IniT x params body scope) (S : SupC P K C cda cc x) (ms : mg "super" = none) :
    FnOk P w K mg base CX 1 f (PySem.W.ksFn name qual params body scope dV kV doc pm an (.ref cda) ct cc) ["self", x] (spIni C x) := by
  refine ⟨fun vs H Q E h => ?_, fun A outer s H args us vs Q E hr e0 hb r hsp => ?_⟩
  · obtain ⟨a, v, rfl, _⟩ := h
    rfl
  obtain ⟨a, v, rfl, ea, q⟩ := hsp
  obtain ⟨u, rfl, ru⟩ : ∃ u, us = [.ref a, u] ∧ RelV v u := by
    cases r with
    | cons ra r =>
      cases r with
      | cons rv r =>
        cases r
        cases ra
        exact ⟨_, rfl, rv⟩
  have KX : K.In s.heap := e0.mod.kin.keeps fun b o e => (e0.bs b o e).1
  have lim : s.heap.NoLimit := e0.mod.nolimit.keeps fun b o e => (e0.bs b o e).1
  refine ks_codeAny_call_defAt (fd := PySem.W.ksFn name qual params body scope dV kV doc pm an (.ref cda) ct cc) (body := body) hr.depth (KX _ _ lk) rfl lim (PySem.W.codeRec_of KX hcd) rfl hb T.nc (fun y hy => ?_) (fun h₀ hns hk => ?_) T.co T.ge T.kd
  · have : y = (("self" : Str), Value.ref a) ∨ y = (x, u) := by simpa using hy
    rcases this with rfl | rfl
    · exact T.ls
    · exact T.lx
  obtain ⟨txt, p0, p1, p2, p3, p4, p5, p6, p7, p8, p9, j, rfl, pl, hpl⟩ := T.bd
  obtain ⟨ar, har, ear⟩ := T.pa
  obtain ⟨cl, cld, csl, hcell⟩ := S.cell
  obtain ⟨ccl, cdd, fvs, ccs, file, tf, hcode, hvs, hfile⟩ := S.code
  show _root_.PySem.wpAt _ (A.deeper (PySem.W.ksEnv qual scope s.heap.objs.size f (.ref cda) cc)) (.func _ (PySem.W.ksEnv qual scope s.heap.objs.size f (.ref cda) cc)) (execs _ (PySem.W.ksEnv qual scope s.heap.objs.size f (.ref cda) cc)) _ _ _
  generalize hX : cxSup P w K mg base ["self", x] (PySem.W.ksEnv qual scope s.heap.objs.size f (.ref cda) cc) A outer s H = X
  have bcell : base.get? cc = some ⟨cl, cld, .cell (some (.ref C)), csl⟩ := e0.mod.kin _ _ hcell
  have luc : ∀ y c, List.lookup y [(("__class__" : Str), cc)] = some c → y = "__class__" ∧ c = cc := fun y c h => by
    rw [List.lookup_cons] at h
    by_cases hy : (y == ("__class__" : Str)) = true
    · rw [hy] at h
      exact ⟨by simpa using hy, (Option.some.inj h).symm⟩
    · rw [Bool.not_eq_true] at hy
      rw [hy] at h
      cases h
  have noA : ∀ b : Addr, b ∉ ([] : List Addr) := fun b z => nomatch z
  have I : Inv X [] [some (.ref a), some v] H { s with heap := h₀, toks := s.toks + [(("self" : Str), Value.ref a), (x, u)].length } := by
    subst hX
    refine ⟨⟨e0.mod, T.kd, rfl, rfl, Nat.le_refl _, fun y z c h1 h2 => ?_, fun y hy => ?_, fun y c z _ => (nomatch z), fun _ => hr.hd, Around.frames_deeper e0.frames, .inr ⟨rfl, rfl⟩, fun b z => absurd z (noA b), e0.bs, e0.bsz, fun b _ _ => noA b, fun b z => absurd z (noA b), e0.funs, e0.frf⟩,
      rfl, e0.bare, Un.kept hk, ⟨_, hns, fun i y v' h1 h2 h3 => ?_⟩, fun y c h => ?_, e0.hok.fresh (Nat.le_refl _), fun y c h => ?_, fun p hp => absurd (show p ∈ ([] : List (Addr × Obj)) from hp) (by simp), e0.hok.kept hk, rfl⟩
    · rw [(luc y c h1).1, (luc z c h2).1]
    · have hy : scope.names.lookup y = some .cell ∨ scope.names.lookup y = some .free := hy
      rcases hy with hy | hy
      · exact absurd rfl (T.nc _ (PySem.mem_of_lookup hy))
      · have := T.nf _ (PySem.mem_of_lookup hy) rfl
        dsimp only at this
        subst this
        exact ⟨cc, rfl⟩
    · match i, h1, h2 with
      | 0, h1, h2 =>
        cases h1
        cases h2
        refine ⟨.ref a, rfl, .inl ⟨T.ls, ?_⟩⟩
        show List.lookup _ [(x, u), ("self", .ref a)] = _
        rw [List.lookup_cons, show (("self" : Str) == x) = false by simpa using fun z => T.ne z.symm]
        rfl
      | 1, h1, h2 =>
        cases h1
        cases h2
        refine ⟨u, ru, .inl ⟨T.lx, ?_⟩⟩
        show List.lookup _ [(x, u), ("self", .ref a)] = _
        rw [List.lookup_cons, beq_self_eq_true]
    · obtain ⟨_, rfl⟩ := luc y c h
      exact ⟨_, _, hk _ _ ((e0.bs _ _ bcell).1), rfl⟩
    · obtain ⟨_, rfl⟩ := luc y c h
      exact (e0.bs _ _ bcell).2
  have eE : X.env = PySem.W.ksEnv qual scope s.heap.objs.size f (.ref cda) cc := by subst hX; rfl
  have eA : X.A = A.deeper (PySem.W.ksEnv qual scope s.heap.objs.size f (.ref cda) cc) := by subst hX; rfl
  have eP : X.prog = P ∧ X.w = w ∧ X.K = K ∧ X.mg = mg ∧ X.base = base ∧ X.N = [("self" : Str), x] ∧ X.stack = PySem.W.ksEnv qual scope s.heap.objs.size f (.ref cda) cc :: outer ∧ X.s_0 = s ∧ X.H_0 = H ∧ X.outer = outer ∧ X.ex = [] := by subst hX; exact ⟨rfl, rfl, rfl, rfl, rfl, rfl, rfl, rfl, rfl, rfl, rfl⟩
  have Z : ∀ s', (∃ σ' H', Inv X [] σ' H' s' ∧ Q .non H') → CR CX outer P w H s Q E (.ok (.ret .none)) s' := fun s' ⟨σ', H', J, q'⟩ => by
    subst hX
    exact ⟨.non, H', J.os, J.bare, J.base, J.hok, rfl, q'⟩
  have hxe : ∀ e s', X.xe e s' → False := by subst hX; exact fun _ _ z => z
  have hprog : X.prog = P := by subst hX; rfl
  have hw : X.w = w := by subst hX; rfl
  have hK : X.K = K := by subst hX; rfl
  have hmg : X.mg = mg := by subst hX; rfl
  have hN : X.N = [("self" : Str), x] := by subst hX; rfl
  subst hprog hw hK hmg
  rw [← eA, ← eE]
  obtain ⟨nm, qn, N, bs, bm, sn, sub, ab, col, dd, k0, k1, k2, k3, k5, hC, hbm⟩ := S.cls.cls
  obtain ⟨t1, ho⟩ := exo_at I.hok ea
  obtain ⟨cdD, hcl⟩ : ∃ cdD, PySem.W.clsIn X.K C = some cdD := ⟨_, by unfold PySem.W.clsIn; rw [hC] <;> rfl⟩
  have hne : ¬ (("__init__" : Str) == ("__class__" : Str)) = true := by decide
  have hbase : ∀ s', Inv X [] [some (.ref a), some v] H s' → (∃ m, s'.heap.Ns X.env.locals m ∧ m "self" = some (.ref a)) := fun s' J => by
    obtain ⟨m, hn, hl⟩ := J.loc
    obtain ⟨u', ru', lk'⟩ := hl 0 "self" (.ref a) (by rw [hN]; rfl) rfl (by rw [eE]; exact .inl T.ls)
    cases ru'
    rcases lk' with ⟨_, e⟩ | ⟨z, _⟩
    · exact ⟨m, hn, e⟩
    · rw [eE] at z
      have z : scope.names.lookup ("self" : Str) = some .cell ∨ scope.names.lookup ("self" : Str) = some .free := z
      rw [T.ls] at z
      rcases z with z | z <;> cases z
  obtain ⟨m, hn, hself⟩ := hbase _ I
  obtain ⟨mb, hb1, hb2⟩ := I.mod.blt
  have hfr : ∀ {s'} , Inv X [] [some (.ref a), some v] H s' → ∃ o, s'.heap.get? a = some o ∧ o.cls = .ref C ∧ ∀ c, o.data ≠ .cls c := fun {s'} J => by
    obtain ⟨t1, h1⟩ := exo_at J.hok ea
    exact ⟨_, h1, rfl, fun c z => by cases z⟩
  obtain ⟨oD, hD1, hD2⟩ : ∃ oD, h₀.get? C = some oD ∧ oD.data = .cls cdD := by
    unfold PySem.W.clsIn at hcl
    split at hcl
    · rename_i c d cd' sl hoo
      cases hcl
      exact ⟨_, I.kIn _ _ hoo, rfl⟩
    · cases hcl
  refine ks_wpAt_execs_cons (ks_wpAt_Expr_any (ks_wpAt_MethodCall (pl := pl X.env) ?_ (hpl X.env)) ?hi ?hs)
  case hi => exact I.quiet
  case hs => rfl
  refine ks_wpAt_super_base (env := X.env) (attr := "__init__") (f := f) (cc := cda) (fd := PySem.W.ksFn name qual params _ scope dV kV doc pm an (.ref cda) ct cc) (ar := ar) (by rw [eE]; exact T.lu) (by rw [eE]; exact T.lc) (by decide) (by rw [eE]) (I.kIn _ _ lk) rfl har (by rw [eE]) (I.kIn _ _ hcode) rfl hvs hfile S.top ?_
  refine PySem.W.ks_loadName_global I.ok.kind (by rw [eE]; exact T.lu) (Calls.loadGlobal_builtin (by rw [I.ok.glob]; exact I.mod.glob.keeps I.bk) ms (by rw [I.ok.blt]; exact hb1.keeps I.bk) ((hb2 _ (by decide)).trans bt_super) ⟨rfl, ?_⟩)
  refine wpAny_loadName_free I.ok.kind (by rw [eE]; exact T.lc) (by rw [eE]; rfl) ⟨_, I.kIn _ _ hcell, rfl⟩ ?_
  rw [ear]
  refine wpAny_loadName_local I.ok.kind (by rw [eE]; exact T.ls) hn hself ?_
  refine ks_wpAny_isType_cls hD1 hD2 ⟨rfl, ?_⟩
  refine ks_wpAny_call_super hD1 hD2 ho rfl (fun c z => by cases z) (PySem.W.looks_mroIn I.kIn S.sub) (fun h1 e1 kk1 => ?_)
  have I1 := I.kept (t' := s.toks + [(("self" : Str), Value.ref a), (x, u)].length) kk1
  have hm : PySem.W.alongIn X.K "__init__" ((cdD.mro.dropWhile (· != .ref C)).drop 1) = some (some (.builtin "ValueError.__init__")) := by
    have z := S.sup
    unfold PySem.W.ks_superIn at z
    rw [hcl, Option.bind_some] at z
    exact z
  obtain ⟨t2, ho1⟩ := exo_at I1.hok ea
  have IA : PySem.W.InstAt h1 a { cls := .ref C, dict := none, data := .fields #[.ref t2, .none, .none, .none, .bool false, .none] } C none := ⟨ho1, rfl, rfl, trivial⟩
  refine PySem.W.kxs_getMethod PySem.W.kxs_ValueError e1 (PySem.W.looks_opaque I1.kIn S.st) (l₀ := cdD.mro) (fun A Q E s k q => wpAny_bind ((PySem.W.looks_clsIn I1.kIn hcl) A _ E s k (wpAny_pure q))) rfl I1.kIn hm (IA.type.andThen (PySem.W.looks_subIn I1.kIn S.ve)) (PySem.W.ks_ne I1.kIn IA hcl) (by decide) ?_
  have I2 := I1.kept (h' := h1.push (PySem.W.kxs_mw "ValueError.__init__" a)) (t' := s.toks + [(("self" : Str), Value.ref a), (x, u)].length + 1) (fun b o e => Heap.get?_push_of_some _ e)
  have hmw : (h1.push (PySem.W.kxs_mw "ValueError.__init__" a)).get? h1.objs.size = some (PySem.W.kxs_mw "ValueError.__init__" a) := Heap.get?_push_at rfl rfl
  have I3 : Inv X [(h1.objs.size, PySem.W.kxs_mw "ValueError.__init__" a)] [some (.ref a), some v] H _ := I2.pins_of (fun p hp => by
    have hp : p = (h1.objs.size, PySem.W.kxs_mw "ValueError.__init__" a) := by simpa using hp
    subst hp
    exact ⟨hmw, I1.hok.fresh (Nat.le_refl _), fun z => absurd I1.lt (by rw [← z]; exact Nat.lt_irrefl _), I1.nofs (Nat.le_refl _), fun v z => by cases z⟩)
  have hst : starEach [Expr.Constant (Const.str txt) j p3] X.env = (false, eval (Expr.Constant (Const.str txt) j p3) X.env) :: starEach [] X.env := rfl
  refine PySem.W.kxs_callWith (i := "ValueError.__init__") (x := a) (by rfl) ?_
  show wpAny _ _ (evalArgs _ true ((false, eval (Expr.Constant (Const.str txt) j p3) X.env) :: _) []) _ _ _
  refine Calls.evalArgs_plain ?_
  have hpa : L2.PA X [Expr.Constant (Const.str txt) j p3] (tCons (tC (.str txt)) tNil) := pa_cons pe_str pa_nil
  refine thn (hpa.run p4 _ _ _ H (fun vs H' => H' = H ∧ vs = [.str txt]) I3 ⟨rfl, rfl⟩) fun us s4 ⟨vs, H4, I4, r4, eH, ev⟩ => ?_
  subst eH ev
  have hu4 := (I4.pin (h1.objs.size, PySem.W.kxs_mw "ValueError.__init__" a) (by simp)).1
  refine ⟨hu4, ?_⟩
  obtain ⟨t3, ho4⟩ := exo_at I4.hok ea
  have hlen : us.length ≤ sizeLine := by
    rw [← r4.length]
    rw [sizeLine_eq]; exact (by show 1 ≤ _; omega)
  obtain ⟨h4, g4, d4, t4, os4⟩ := s4
  refine wpAny_call (codeAny_of_tree ?_)
  show wpAny _ _ (callAny (.ref h1.objs.size) ⟨us, []⟩) _ _ _
  simp only [callAny]
  refine wpAny_bind (wpAny_load hu4 ?_)
  simp only [PySem.W.kxs_mw, show (Value.type "method-wrapper" == Value.type "method" || Value.type "method-wrapper" == Value.type "builtin_function_or_method" || Value.type "method-wrapper" == Value.type "method-wrapper") = true by decide, if_true]
  refine PySem.W.KFB.if_so (by decide) ?_
  refine wpAny_bind (PySem.W.check_bound_init F.excBase_ValueError.toExcCallFacts (I4.kIn _ _ hC) ho4 rfl ?_)
  refine wpAny_bind (wpAny_pure (wpAny_pure ?_))
  refine ⟨plainId_quiet F.excBase_ValueError.init.plain _, codeAny_builtin F.excBase_ValueError.initEntry ?_⟩
  refine PySem.W.exc_init_tree (cls := .ref C) (t0 := t3) (dv := none) (c2 := .none) (c3 := .none) (b4 := .bool false) ho4 hlen (fun h5 k5 e5 _ => ?_)
  have J5 := I4.write (t' := t4) (x := a) (e := a) (o := exo a C none) (by rw [ea]; exact True.intro) (.inl rfl) k5 ⟨_, e5⟩ (exo_ok e5)
  have eu : upd H4 a (exo a C none) = H4 := by
    funext b
    by_cases hb : b = a
    · rw [hb, upd_same, ea]
    · rw [upd_ne hb]
  rw [eu] at J5
  have J6 : Inv X [] [some (.ref a), some v] H4 _ := J5.pins_of (fun p hp => nomatch hp)
  have hps : PSs X [Stmt.Assign [(Expr.Name "self" p6).Attribute x p7] (Expr.Name x p8) p9] (tOst X.K x (tVar 0) (tVar 1)) :=
    pss_one (ps_ost (pe_var (by rw [hN]; rfl) (by rw [eE]; exact .inl T.ls) (by decide) (by decide)) (pe_var (by rw [hN]; rfl) (by rw [eE]; exact .inl T.lx) T.dx T.dc))
  show _root_.PySem.wpAt _ _ _ _ _ _ _
  refine wpAt_of_wpAny (wpAny_mono (hps.run [] _ _ H4 { nx := fun _ H' => Q .non H', rt := fun _ _ => False } J6 ?_) (fun fl s' hs => ?_) fun e s' hs => ?_)
  · exact ⟨_, rfl, _, rfl, a, C, rfl, S.cls, S.no, .inl ⟨ea, fun dx n ne => q dx n ne⟩⟩
  · cases fl with
    | ret u =>
      obtain ⟨v, σ', H', J, rv, q⟩ := hs
      exact False.elim q
    | next =>
      obtain ⟨σ', H', J, q⟩ := hs
      exact Z s' ⟨σ', H', J, q⟩
    | brk =>
      obtain ⟨_, _, _, q⟩ := hs
      exact False.elim q
    | cont =>
      obtain ⟨_, _, _, q⟩ := hs
      exact False.elim q
  · exact (hxe _ _ hs).elim
end

section
variable {P : Program} {w : World} {K : PySem.W.Frag} {mg : Str → Option Value} {base : Heap}
/-- what the top tells of such a class: at C, its __init__ at fI, its name nm, its field x -/
structure ValC (P : Program) (K : PySem.W.Frag) (mg : Str → Option Value) (C : Addr) (nm x : Str) : Prop where
  gC : mg nm = some (.ref C)
  ini : ∃ (fI cda cc : Addr) (qual : Str) (params : Arguments) (body : List Stmt) (scope : Scope) (kV doc pm ct oc : Value) (an od : Option Addr) (osl : Array (Option Value)),
    K.lookup fI = some ⟨oc, od, .func (PySem.W.ksFn "__init__" qual params body scope .none kV doc pm an (.ref cda) ct cc), osl⟩ ∧ PySem.W.codeIn K (.ref cda) qual = true ∧ IniT x params body scope ∧ SupC P K C cda cc x ∧
    PySem.W.findIn K (.ref C) "__init__" = some (some (.ref fI)) ∧ PySem.W.typeIn K (.ref fI) = some (.type "function") ∧ Binds K (PySem.W.ksFn "__init__" qual params body scope .none kV doc pm an (.ref cda) ct cc) ["self", x] []
  ms : mg "super" = none
  ex : ExcC K C
  sf : PySem.W.subIn K (.ref C) (.ref C) = some true
theorem ValC.oex {C : Addr} {nm x : Str} (T : ValC P K mg C nm x) : OexC K C := by
  obtain ⟨fI, cda, cc, qual, params, body, scope, kV, doc, pm, ct, oc, an, od, osl, _, _, _, S, _⟩ := T.ini
  exact S.cls
theorem ValC.raises {X : Cx} {C : Addr} {nm x : Str} (T : ValC P X.K X.mg C nm x) : Raises X (.ref C) := raises_own T.oex.exC T.oex.tyC
theorem ValC.meets {C : Addr} {nm x : Str} (T : ValC P K mg C nm x) : PySem.W.exmOne K (.ref C) (.ref C) = some true := PySem.W.exm_ref T.ex.hs T.ex.hd T.oex.tyC T.sf
theorem ValC.no {C : Addr} {nm x : Str} (T : ValC P K mg C nm x) : PySem.W.findIn K (.ref C) x = some none := by
  obtain ⟨fI, cda, cc, qual, params, body, scope, kV, doc, pm, ct, oc, an, od, osl, _, _, _, S, _⟩ := T.ini
  exact S.no
theorem ValC.xf {C : Addr} {nm x : Str} (T : ValC P K mg C nm x) : XfC K C := ⟨T.ex.hg, T.ex.hk, T.ex.hs, T.ex.hd⟩
theorem back_to {H1 : Hp} {a d C : Addr} {fs : List (Str × V)} (ha : H1 a = none) (hd : d ≠ a) :
    upd (del (upd (upd (upd H1 a (exo a C none)) d (exd d fs)) a (exo a C (some d))) a) d (.xd fs) = upd H1 d (.xd fs) := by
  funext b
  by_cases h1 : b = d
  · subst h1
    rw [upd_same, upd_same]
  · rw [upd_ne h1, upd_ne h1]
    by_cases h2 : b = a
    · subst h2
      rw [del_same, ha]
    · rw [del_ne h2, upd_ne h2, upd_ne h1, upd_ne h2]
/-- nm(e): the exception, its value -/
theorem pmk_val {X : Cx} {C : Addr} {nm x : Str} {e : Expr} {te : TE} {p pos : Pos} {j : Nat} (T : ValC X.prog X.K X.mg C nm x) (hr : Room j X.A) (hj : 2 ≤ j) (hg : Gl X nm) (he : PE X e te)
    (hdb : (nm == ("__debug__" : Str)) = false := by decide) (hs : starEach [e] X.env = (false, eval e X.env) :: starEach [] X.env := by rfl) :
    PMk X (.Call (.Name nm p) [e] [] pos) (tMkO C (spIni C x) [] (tCons te tNil)) := by
  obtain ⟨fI, cda, cc, qual, params, body, scope, kV, doc, pm, ct, oc, an, od, osl, lk, hcd, iT, S, fi, ti, bi⟩ := T.ini
  have F := fn_sup (P := X.prog) (w := X.w) (base := X.base) (CX := CX0) lk hcd iT S T.ms
  exact pmk_oex (X := X) (p := p) (pos := pos) (x := nm) S.cls fi ti F (hr.mono hj) bi .nil (fun _ _ _ _ _ _ _ z => z.elim) hg T.gC (pa_cons he pa_nil hs) hdb hs
theorem mkv {C : Addr} {x : Str} {v : V} {H1 : Hp} {Q : XK} (h : ∀ d, H1 d = none → Q (.ref C) (some d) (upd H1 d (.xd [(x, v)]))) : [v].length ≤ 1000 ∧ ∀ a, H1 a = none → spIni C x (.ref a :: ([v] ++ [])) (upd H1 a (exo a C none))
    (fun v H2 => v = .non ∧ ∃ (d : Addr) (fs : List (Str × V)), H2 a = some (exo a C (some d)) ∧ H2 d = some (exd d fs) ∧ H1 d = none ∧ Q (.ref C) (some d) (upd (del H2 a) d (.xd fs))) (fun _ _ _ => False) := by
  refine ⟨by show 1 ≤ 1000; decide, fun a ha => ⟨a, v, rfl, upd_same, fun dx hx hne => ⟨rfl, dx, [(x, v)], upd_same, ?_, ?_, ?_⟩⟩⟩
  · rw [upd_ne hne, upd_same]
  · rw [upd_ne hne] at hx
    exact hx
  · rw [back_to ha hne]
    rw [upd_ne hne] at hx
    exact h dx hx
/-! ### isinstance of a caught exception that has its dict -/
/-- in the suite -/
def rIsV (K : PySem.W.Frag) (D a dd : Addr) : List V → Hp → VK → Prop := fun xs H Q => ∃ (c : V) (cv : Value) (b : Bool) (fs : List (Str × V)), xs = [.ref a, c] ∧ (∀ u, RelV c u → u = cv) ∧ PySem.W.kitOne K (.ref D) cv = some b ∧ H dd = some (.xd fs) ∧ Q (.bl b) H
theorem call_isV {X : Cx} {a D dd : Addr} {oe : Obj} {pn : List (Addr × Obj)} (C : ExcC X.K D) (hz : Zc (.ref D) (some dd) oe) (hf : ∃ vs, oe.data = .fields vs) : CallR (X.suite a ((a, oe) :: pn)) (.builtin "isinstance") (rIsV X.K D a dd) := by
  intro pins s σ H xs us Q I r h
  obtain ⟨c, cv, b, fs, rfl, hcv, e, ed, q⟩ := h
  cases r with
  | cons rx rr =>
    cases rr with
    | cons rt rr =>
      cases rr
      cases rx
      obtain ⟨ge, _⟩ := I.pin (a, oe) (List.mem_append.mpr (.inl List.mem_cons_self))
      obtain ⟨vs, hv⟩ := hf
      obtain ⟨mA, hns, _⟩ := (show ObjOk X.prog X.w H s.heap dd (.xd fs) from I.hok dd _ ed)
      obtain ⟨od, _, _, ho, _⟩ := hns
      have J : PySem.W.InstAt s.heap a oe D (some od) := by
        obtain ⟨oc, od', oda, osl⟩ := oe
        obtain ⟨h1, h2⟩ := hz
        dsimp only at h1 h2 hv
        subst h1 h2 hv
        exact ⟨ge, rfl, rfl, ho⟩
      have hcl : (PySem.W.clsIn X.K D).isSome = true := by
        obtain ⟨cd, hc, _⟩ := PySem.W.any_some C.hd
        rw [hc]
        rfl
      have kx := PySem.W.kitx_exc (x := a) (ox := oe) (od := some od) hcl C.hg C.hk C.hs C.ha C.hn C.ht C.hm
      have ec := hcv _ rt
      subst ec
      exact PySem.W.kia_one kx I.kIn J e (fun z => nomatch z) fun tk => ⟨.bl b, H, I.kept (t' := tk) fun _ _ z => z, rfl, q⟩
end
end Lf
namespace Lf
open PySem PySem.Spec PyProof.Rows L2
/-! ### data of any kind -/
mutual
inductive Dv (H : Hp) : V → PyData → Prop
  | non : Dv H .non .none
  | bl (b : Bool) : Dv H (.bl b) (.bool b)
  | int (i : Int) : Dv H (.int i) (.int i)
  | str (x : Str) : Dv H (.str x) (.str x)
  | lst {a : Addr} {xs : List V} {ds : List PyData} : a ≠ 1 → H a = some (.lst xs) → DvAll H xs ds → Dv H (.ref a) (.list ds)
  | tup {a : Addr} {xs : List V} {ds : List PyData} : H a = some (.tup xs) → DvAll H xs ds → Dv H (.ref a) (.tuple ds)
  | dk0 {a : Addr} : H a = some (.dK []) → Dv H (.ref a) (.dict [])
  | dk1 {a : Addr} {x : Str} {v : V} {d : PyData} : H a = some (.dK [(Sum.inr x, v)]) → Dv H v d → Dv H (.ref a) (.dict [(.str x, d)])
inductive DvAll (H : Hp) : List V → List PyData → Prop
  | nil : DvAll H [] []
  | cons {v : V} {vs : List V} {d : PyData} {ds : List PyData} : Dv H v d → DvAll H vs ds → DvAll H (v :: vs) (d :: ds)
end
/-- what such data leans on stays -/
structure Kp (H H' : Hp) : Prop where
  l : ∀ b xs, H b = some (.lst xs) → H' b = some (.lst xs)
  t : ∀ b xs, H b = some (.tup xs) → H' b = some (.tup xs)
  d0 : ∀ b, H b = some (.dK []) → H' b = some (.dK [])
  d1 : ∀ b x v, H b = some (.dK [(Sum.inr x, v)]) → H' b = some (.dK [(Sum.inr x, v)])
theorem Fr.kp {H H' : Hp} (f : Fr H H') : Kp H H' := ⟨f.l, f.t, f.d0, fun b x v h => f.k _ _ h fun _ z => by cases z⟩
theorem ext_kp {H H' : Hp} (e : LamX.ExtN H H') : Kp H H' := ⟨fun _ _ h => e _ _ h (fun _ z => by cases z), fun _ _ h => e _ _ h (fun _ z => by cases z), fun _ h => e _ _ h (fun _ z => by cases z), fun _ _ _ h => e _ _ h (fun _ z => by cases z)⟩
mutual
theorem Dv.kp {H H' : Hp} (f : Kp H H') : ∀ (d : PyData) (v : V), Dv H v d → Dv H' v d
  | .none, _, .non => .non
  | .bool _, _, .bl b => .bl b
  | .int _, _, .int i => .int i
  | .str _, _, .str x => .str x
  | .list ds, _, .lst n h hs => .lst n (f.l _ _ h) (Dv.kpAll f ds _ hs)
  | .tuple ds, _, .tup h hs => .tup (f.t _ _ h) (Dv.kpAll f ds _ hs)
  | .dict [], _, .dk0 h => .dk0 (f.d0 _ h)
  | .dict [(.str _, d)], _, .dk1 h h2 => .dk1 (f.d1 _ _ _ h) (Dv.kp f d _ h2)
theorem Dv.kpAll {H H' : Hp} (f : Kp H H') : ∀ (ds : List PyData) (vs : List V), DvAll H vs ds → DvAll H' vs ds
  | [], _, .nil => .nil
  | d :: ds, _, .cons h hs => .cons (Dv.kp f d _ h) (Dv.kpAll f ds _ hs)
end
theorem Dv.fr {H H' : Hp} (f : Fr H H') (d : PyData) (v : V) (h : Dv H v d) : Dv H' v d := Dv.kp f.kp d v h
section
variable {X : Cx} {pins : List (Addr × Obj)} {σ : L2.St} {H : Hp} {s : Shared}
mutual
theorem Dv.reads (I : Inv X pins σ H s) : ∀ (d : PyData) (v : V) (u : Value), Dv H v d → RelV v u → ∃ as, Reads s.heap u d as ∧ sysModules ∉ as
  | .none, _, _, .non, r => by
    cases r
    exact ⟨_, Reads.none, by simp⟩
  | .bool b, _, _, .bl _, r => by
    cases r
    exact ⟨_, Reads.bool b, by simp⟩
  | .int i, _, _, .int _, r => by
    obtain ⟨t, rfl⟩ := r
    exact ⟨_, Reads.int i t, by simp⟩
  | .str x, _, _, .str _, r => by
    obtain ⟨t, rfl⟩ := r
    exact ⟨_, Reads.str x t, by simp⟩
  | .list ds, _, _, .lst n1 h hs, r => by
    cases r
    obtain ⟨its, rv, ⟨o, n, ho, hc, _, hd⟩, _⟩ := I.list (SqL.of h)
    obtain ⟨as, hr, ns⟩ := Dv.readsAll I ds _ its hs rv
    exact ⟨_, Reads.list ho hc hd hr, fun z => (List.mem_cons.mp z).elim (fun e => n1 e.symm) ns⟩
  | .tuple ds, _, _, .tup h hs, r => by
    cases r
    obtain ⟨its, rv, ⟨o, ho, hc, n, hd⟩, _⟩ := I.tuple (SqT.of h)
    obtain ⟨as, hr, ns⟩ := Dv.readsAll I ds _ its hs rv
    exact ⟨_, Reads.tuple ho hc hd hr, ns⟩
  | .dict [], _, _, .dk0 (a := a) h, r => by
    cases r
    obtain ⟨_, hne, vs, kv, o, es, ep, ho, hx, hd, hk, hp, hn⟩ := (show ObjOk X.prog X.w H s.heap a (.dK []) from I.hok a _ h)
    cases kv
    have he : es.toList = [] := by
      cases hE : es.toList with
      | nil => rfl
      | cons x y => rw [hE] at hp; cases hp
    refine ⟨_, Reads.dict (kvs := []) ho hx.1 hd (by rw [he]; exact .nil) (by rw [he]; exact .nil), ?_⟩
    intro z
    have z' : sysModules = a := by simpa using z
    rw [z'] at hne
    simp at hne
  | .dict [(.str x, d)], _, _, .dk1 (a := a) (v := v) h h2, r => by
    cases r
    obtain ⟨_, hne, vs, kv, o, es, ep, ho, hx, hd, hk, hp, hn⟩ := (show ObjOk X.prog X.w H s.heap a (.dK [(Sum.inr x, v)]) from I.hok a _ h)
    cases kv with
    | @cons _ q _ _ k1 k2 =>
      cases k2
      obtain ⟨qk, qv⟩ := q
      obtain ⟨ek, rv⟩ := k1
      dsimp only at ek rv
      subst ek
      obtain ⟨as, hr, ns⟩ := Dv.reads I d v qv h2 rv
      have hE : ∃ e t, es.toList = [e] ∧ e.key = .str x t ∧ e.val = qv := by
        generalize es.toList = l at hp
        cases hp with
        | @cons e _ es' _ hi hv hr =>
          cases hr
          rcases keyIs_shape (show keyIs (Sum.inr x) e.key = true from hi) with ⟨i, t, z, _⟩ | ⟨y, t, z, ev⟩
          · cases z
          · cases z
            exact ⟨e, t, rfl, ev, hv⟩
      obtain ⟨e, t, hE1, hE2, hE3⟩ := hE
      have q1 : ReadsAll s.heap (es.toList.map (·.key)) [PyData.str x] ([] ++ []) := by
        rw [hE1]
        simp only [List.map_cons, List.map_nil]
        rw [hE2]
        exact .cons (Reads.str x t) .nil
      have q2 : ReadsAll s.heap (es.toList.map (·.val)) [d] (as ++ []) := by
        rw [hE1]
        simp only [List.map_cons, List.map_nil]
        rw [hE3]
        exact .cons hr .nil
      refine ⟨_, Reads.dict (kvs := [(.str x, d)]) ho hx.1 hd q1 q2, fun z => ?_⟩
      have z' : sysModules = a ∨ sysModules ∈ as := by simpa using z
      rcases z' with z' | z'
      · rw [z'] at hne
        simp at hne
      · exact ns z'
theorem Dv.readsAll (I : Inv X pins σ H s) : ∀ (ds : List PyData) (vs : List V) (us : List Value), DvAll H vs ds → Vals vs us → ∃ as, ReadsAll s.heap us ds as ∧ sysModules ∉ as
  | [], _, _, .nil, r => by
    cases r
    exact ⟨_, ReadsAll.nil, by simp⟩
  | d :: ds, _, _, .cons h1 h2, r => by
    cases r with
    | cons r1 r2 =>
      obtain ⟨as, q1, n1⟩ := Dv.reads I d _ _ h1 r1
      obtain ⟨bs, q2, n2⟩ := Dv.readsAll I ds _ _ h2 r2
      exact ⟨_, ReadsAll.cons q1 q2, fun z => (List.mem_append.mp z).elim n1 n2⟩
end
end
/-- repr of such data -/
theorem repr_any {X : Cx} (gd : X.A.guards = some []) (hu : X.A.units + 70 < cLine) : CallR X (.builtin "repr") (fun xs H Q => ∃ (v : V) (d : PyData), xs = [v] ∧ Dv H v d ∧ d.showable = true ∧ d.depth ≤ 60 ∧ d.shown.length ≤ sizeLine ∧ Q (.str d.shown) H) := by
  intro pins s σ H xs us Q I rel h
  obtain ⟨v, d, rfl, dp, sw, dd, sz, hq⟩ := h
  obtain ⟨u, hu1, ru⟩ := vals1 rel
  subst hu1
  obtain ⟨as, rd, hsm⟩ := Dv.reads I d v u dp ru
  have big : ∀ a, u = Value.ref a → wpAny (model X.prog X.w) X.A (call (.builtin "repr") [u]) (EP X pins σ Q) X.xe s := fun a ea => by
    subst ea
    refine repr_of_reads' rd sw (fun _ => hsm) gd (by omega) (fun _ _ e => e) (fun h' u tk hk => ?_) sz
    exact ⟨.str d.shown, H, I.kept hk, ⟨u, rfl⟩, hq⟩
  cases dp with
  | non =>
    have eu : u = Value.none := ru
    subst eu
    exact PySem.P.repr_of_none ⟨.str "None", H, I.tok _, ⟨_, rfl⟩, hq⟩
  | bl b =>
    have eu : u = Value.bool b := ru
    subst eu
    refine PySem.P.repr_of_bool ⟨.str (if b then "True" else "False"), H, I.tok _, ⟨_, rfl⟩, ?_⟩
    cases b <;> exact hq
  | int i =>
    obtain ⟨t, rfl⟩ := ru
    refine PySem.P.repr_of_int (by simpa [PyData.showable] using sw) ⟨.str (toString i), H, I.tok _, ⟨_, rfl⟩, hq⟩
  | str x =>
    obtain ⟨t, rfl⟩ := ru
    exact PySem.P.repr_of_str ⟨.str (reprText x), H, I.tok _, ⟨_, rfl⟩, hq⟩ sz
  | lst _ h hs => exact big _ ru
  | tup h hs => exact big _ ru
  | dk0 h => exact big _ ru
  | dk1 h h2 => exact big _ ru
/-- the name of its type -/
def tyN : PyData → String
  | .none => "NoneType"
  | .bool _ => "bool"
  | .int _ => "int"
  | .str _ => "str"
  | .list _ => "list"
  | .tuple _ => "tuple"
  | .dict _ => "dict"
def isB : PyData → Bool
  | .bool _ => true
  | _ => false
def isIB : PyData → Bool
  | .bool _ => true
  | .int _ => true
  | _ => false
/-- an integer, not a bool -/
def isI : PyData → Bool
  | .int _ => true
  | _ => false
theorem Dv.ty {K : PySem.W.Frag} {H : Hp} {v : V} {d : PyData} (h : Dv H v d) : TyX K H v (.type (tyN d)) := by
  cases h with
  | non => exact .base .non
  | bl b => exact .base (.bl b)
  | int i => exact .base (.int i)
  | str x => exact .base (.str x)
  | lst _ h _ => exact .base (.lst h)
  | tup h _ => exact .base (.tup h)
  | dk0 h => exact .base (.dK h)
  | dk1 h _ => exact .base (.dK h)
theorem kit_int (d : PyData) : kitB (tyN d) "int" = some (isIB d) := by
  cases d
  · show kitB "NoneType" "int" = some false; decide +kernel
  · show kitB "bool" "int" = some true; decide +kernel
  · show kitB "int" "int" = some true; decide +kernel
  · show kitB "str" "int" = some false; decide +kernel
  · show kitB "list" "int" = some false; decide +kernel
  · show kitB "tuple" "int" = some false; decide +kernel
  · show kitB "dict" "int" = some false; decide +kernel
theorem kit_bool (d : PyData) : kitB (tyN d) "bool" = some (isB d) := by
  cases d
  · show kitB "NoneType" "bool" = some false; decide +kernel
  · show kitB "bool" "bool" = some true; decide +kernel
  · show kitB "int" "bool" = some false; decide +kernel
  · show kitB "str" "bool" = some false; decide +kernel
  · show kitB "list" "bool" = some false; decide +kernel
  · show kitB "tuple" "bool" = some false; decide +kernel
  · show kitB "dict" "bool" = some false; decide +kernel
/-- a new list is not where the modules are -/
def tLst1 (t : TA) : TE := fun σ H Q => t σ H fun xs H1 => xs.length ≤ sizeLine ∧ ∀ l, H1 l = none → l ≠ 1 → Q (.ref l) (upd H1 l (.lst xs))
theorem pe_lst1 {X : Cx} {es : List Expr} {t : TA} {pos : Pos} (h : L2.PA X es t) : PE X (.List es pos) (tLst1 t) := by
  constructor
  intro pins s σ H Q I hq
  refine wpAny_List_spliced (thn (h.run pos pins s σ H _ I hq) fun us s1 ⟨xs, H1, J, r, z, q⟩ => ?_)
  refine ⟨r.length ▸ z, ?_⟩
  have fresh := J.hok.fresh (Nat.le_refl s1.heap.objs.size)
  have n1 : s1.heap.objs.size ≠ 1 := by
    obtain ⟨o, _, _, e, _⟩ := J.mod.glob
    have lt := Heap.lt_size (J.bk _ _ e)
    intro c
    rw [c] at lt
    exact absurd lt (by decide)
  refine ⟨.ref s1.heap.objs.size, upd H1 s1.heap.objs.size (.lst xs), ?_, rfl, q _ fresh n1⟩
  exact J.laid (t' := s1.toks) (fun b u e => Heap.get?_push_of_some _ e) (Nat.le_refl _) ⟨z, us, 0, r, Heap.get?_push_size _ rfl⟩
end Lf
namespace Lf
open PySem PySem.Spec PyProof.Rows L2
/-! ### data of any kind at any address: where the modules are known to stand, nothing tracked is there -/
mutual
inductive DvF (H : Hp) : V → PyData → Prop
  | non : DvF H .non .none
  | bl (b : Bool) : DvF H (.bl b) (.bool b)
  | int (i : Int) : DvF H (.int i) (.int i)
  | str (x : Str) : DvF H (.str x) (.str x)
  | lst {a : Addr} {xs : List V} {ds : List PyData} : H a = some (.lst xs) → DvFAll H xs ds → DvF H (.ref a) (.list ds)
  | tup {a : Addr} {xs : List V} {ds : List PyData} : H a = some (.tup xs) → DvFAll H xs ds → DvF H (.ref a) (.tuple ds)
  | dk0 {a : Addr} : H a = some (.dK []) → DvF H (.ref a) (.dict [])
  | dk1 {a : Addr} {x : Str} {v : V} {d : PyData} : H a = some (.dK [(Sum.inr x, v)]) → DvF H v d → DvF H (.ref a) (.dict [(.str x, d)])
inductive DvFAll (H : Hp) : List V → List PyData → Prop
  | nil : DvFAll H [] []
  | cons {v : V} {vs : List V} {d : PyData} {ds : List PyData} : DvF H v d → DvFAll H vs ds → DvFAll H (v :: vs) (d :: ds)
end
mutual
theorem DvF.dv {H : Hp} (n : H 1 = none) : ∀ (d : PyData) (v : V), DvF H v d → Dv H v d
  | .none, _, .non => .non
  | .bool _, _, .bl b => .bl b
  | .int _, _, .int i => .int i
  | .str _, _, .str x => .str x
  | .list ds, _, .lst (a := a) h hs => .lst (fun e => by subst e; rw [n] at h; cases h) h (DvFAll.dv n ds _ hs)
  | .tuple ds, _, .tup h hs => .tup h (DvFAll.dv n ds _ hs)
  | .dict [], _, .dk0 h => .dk0 h
  | .dict [(.str _, d)], _, .dk1 h g => .dk1 h (DvF.dv n d _ g)
theorem DvFAll.dv {H : Hp} (n : H 1 = none) : ∀ (ds : List PyData) (vs : List V), DvFAll H vs ds → DvAll H vs ds
  | [], _, .nil => .nil
  | d :: ds, _, .cons h hs => .cons (DvF.dv n d _ h) (DvFAll.dv n ds _ hs)
end
theorem dvf_ints {H : Hp} : ∀ ns : List Int, DvFAll H (ns.map V.int) (ns.map PyData.int)
  | [] => .nil
  | _ :: r => .cons (.int _) (dvf_ints r)
/-- repr of such data, where the base has the table of modules -/
theorem repr_any1 {X : Cx} (h1 : ∃ o, X.base.get? 1 = some o) (gd : X.A.guards = some []) (hu : X.A.units + 70 < cLine) : CallR X (.builtin "repr") (fun xs H Q => ∃ (v : V) (d : PyData), xs = [v] ∧ DvF H v d ∧ d.showable = true ∧ d.depth ≤ 60 ∧ d.shown.length ≤ sizeLine ∧ Q (.str d.shown) H) := by
  intro pins s σ H xs us Q I rel h
  obtain ⟨v, d, e, dp, sw, dd, sz, hq⟩ := h
  obtain ⟨o, ho⟩ := h1
  exact repr_any gd hu pins s σ H xs us Q I rel ⟨v, d, e, DvF.dv (I.bs 1 o ho).2 d v dp, sw, dd, sz, hq⟩
end Lf
namespace Lf
open PySem PySem.Spec PyProof.Rows L2
/-! ### enumerate of a tuple; of a list or a tuple -/
set_option maxHeartbeats 4000000 in
theorem meets_enum1 {v : Value} {o : Obj} {G : Heap → Prop} (B : Begins v o G) :
    Meets (Builtin.«enumerate.__new__» ⟨[.type "enumerate", v], []⟩) (fun _ R s => G s.heap ∧
      R (.ok (.ret (.ref (s.heap.push o).objs.size))) { s with heap := (s.heap.push o).push { cls := .type "enumerate", data := .fields #[.none, .bool false, .ref s.heap.objs.size, rawInt 0, .none, .none] } }) :=
  .of_wp fun prog w A R s h => by
    obtain ⟨hp, g, d, tk, os⟩ := s
    obtain ⟨h1, h⟩ := h
    have hsub := sub_enumerate
    have q1 : ∀ {A' : Around} {E : Value → Shared → Prop} {Q : Value → Shared → Prop}, Q (.ref hp.objs.size) ⟨hp.push o, g, d, tk, os⟩ → wpAny (model prog w) A' (pyIter v) Q E ⟨hp, g, d, tk, os⟩ :=
      fun q => B.iter prog w _ _ ⟨hp, g, d, tk, os⟩ _ h1 q
    wp_walk using q1
    refine wpAny_stack_any fun st => wpAny_pure ?_
    split
    · rename_i c _ _ _ _ _
      cases (c == Value.type "enumerate")
      · wp_walk using q1
        exact ⟨_, rfl, h⟩
      · wp_walk using q1
        exact ⟨_, rfl, h⟩
    · wp_walk using q1
      exact ⟨_, rfl, h⟩
theorem enum_begins1 {prog : Program} {w : World} {A : Around} {E : Value → Shared → Prop} {s : Shared} {v : Value} {o : Obj} {G : Heap → Prop} {Q : Value → Shared → Prop} (B : Begins v o G) (h1 : G s.heap)
    (h : ∀ h', IsEnum h' (s.heap.objs.size + 1) s.heap.objs.size 0 .none → h'.get? s.heap.objs.size = some o → h'.objs.size = s.heap.objs.size + 2 →
      (∀ b o, s.heap.get? b = some o → h'.get? b = some o) → Q (.ref (s.heap.objs.size + 1)) { s with heap := h' }) :
    wpAny (model prog w) A (call (.type "enumerate") [v]) Q E s := by
  refine callType_new F.called_enumerate (by decide) (F.typeCall_enumerate_1 _) (F.newCall_enumerate_1 _) (fun obj => F.args_object_init_2 obj _) F.entry_enumerate_new
    (meets_enum1 B) ⟨h1, ?_⟩
  have hz : (s.heap.push o).objs.size = s.heap.objs.size + 1 := Heap.size_push ..
  show _ ∧ _
  rw [hz]
  have he : IsEnum ((s.heap.push o).push { cls := .type "enumerate", data := .fields #[.none, .bool false, .ref s.heap.objs.size, rawInt 0, .none, .none] }) (s.heap.objs.size + 1) s.heap.objs.size 0 .none := by
    have := Heap.get?_push_size (s.heap.push o) (o := { cls := .type "enumerate", data := .fields #[.none, .bool false, .ref s.heap.objs.size, rawInt 0, .none, .none] }) rfl
    rw [hz] at this
    exact this
  exact ⟨⟨_, he, rfl⟩, h _ he (Heap.get?_push_of_some _ (Heap.get?_push_size _ B.free)) (by rw [Heap.size_push, hz]) fun b o x => Heap.get?_push_of_some _ (Heap.get?_push_of_some _ x)⟩
def IteT (K : PySem.W.Frag) (a : Addr) : It :=
  ⟨fun i H => ∃ (xs : List V) (x : V), SqT K H a xs ∧ xs[i]? = some x, fun i H v H' => ∃ T x, v = .ref T ∧ H T = none ∧ H' = upd H T (.tup [.int (i : Nat), x]) ∧ ∀ xs, SqT K H a xs → xs[i]? = some x, fun i H => ∃ xs : List V, SqT K H a xs ∧ xs.length = i⟩
theorem turn_enumT {P : Program} {w : World} {K : PySem.W.Frag} {elts : List Expr} {kk : Nat} {tpos : Pos} (a e it : Addr) (ne1 : e ≠ it) (ne2 : a ≠ it) (ne3 : e ≠ a) :
    Turn P w K (.Tuple elts kk tpos) (IteT K a) [e, it] e (fun i h => (∃ old, IsEnum h e it ((i : Nat) : Int) old) ∧ h.IsTupleIter it a i) where
  mem := by simp
  obj := fun i h st b hb => by
    obtain ⟨⟨old, he⟩, ⟨o, ho, hc, hd⟩⟩ := st
    have e' : b = e ∨ b = it := by simpa using hb
    rcases e' with z | z
    · rw [z]; exact ⟨_, he, fun v q => nomatch q⟩
    · rw [z]; exact ⟨o, ho, fun v q => by rw [hd] at q; cases q⟩
  keep := fun i h h' st k => let ⟨⟨old, he⟩, hi⟩ := st; ⟨⟨old, k e (by simp) _ he⟩, hi.at fun o q => k it (by simp) o q⟩
  item := by
    intro X hP hw hK hc i pins s σ H E I hf st hg
    subst hP hw hK
    obtain ⟨⟨old, he⟩, hit⟩ := st
    obtain ⟨xs, x, hq, hx⟩ := hg
    obtain ⟨its, rv, p, hz⟩ := I.tuple hq
    obtain ⟨u, hu, ru⟩ := rv.get hx
    have hel : e < s.heap.objs.size := Heap.lt_size he
    have hil : it < s.heap.objs.size := by obtain ⟨_, q, _⟩ := hit; exact Heap.lt_size q
    have hlt : i < its.toArray.size := by
      have := (List.getElem?_eq_some_iff.mp hu).1
      simpa using this
    have D := Draws.tuple (prog := X.prog) (w := X.w) (A := X.A.in1) (I.ok.hd hc) it a ne2 its.toArray
    refine wpAny_pyNext_enum_itemD D he ⟨hit, p⟩ hlt ne1 (by simp [ne1, ne3]) fun x' h' tk hP ho hit' hT hsz hk => ?_
    have eu : x' = u := by
      have hP : its.toArray[i]? = some x' := hP
      rw [show its.toArray[i]? = some u by simpa using hu] at hP
      exact (Option.some.inj hP).symm
    subst eu
    refine ⟨_, rfl, wpAny_letOwnedTupleGo_enum (s := { s with heap := h', toks := tk + 1 }) ho fun h'' he' sb => ?_⟩
    have hT2 : h''.get? s.heap.objs.size = some { cls := .type "tuple", data := .seq #[.int i tk, x'] } := (sb.2 _ (Nat.ne_of_gt hel)).trans hT
    have new : ObjOk X.prog X.w (upd H s.heap.objs.size (.tup [.int (i : Nat), x])) h'' s.heap.objs.size (.tup [.int (i : Nat), x]) :=
      ⟨by show 2 ≤ sizeLine; decide, [.int i tk, x'], .cons ⟨_, rfl⟩ (.cons ru .nil), ⟨_, hT2, rfl, _, rfl⟩⟩
    have I1 : Inv X pins σ (upd H s.heap.objs.size (.tup [.int (i : Nat), x])) { s with heap := h'', toks := tk + 1 } :=
      I.turnedNew (ch := [e, it]) (fun b ob hb q => (sb.2 b (fun z => hb (by simp [z]))).trans (hk b ob (fun z => hb (by simp [z])) (fun z => hb (by simp [z])) q)) hf (Nat.le_refl _) new
    refine ⟨.ref s.heap.objs.size, _, I1, rfl, ⟨_, x, rfl, I.hok.fresh (Nat.le_refl _), rfl, fun ys hy => by rw [I.tuple_inj hy hq]; exact hx⟩, ⟨⟨x', ?_⟩, hit'.1.at fun o q => (sb.2 it (Ne.symm ne1)).trans q⟩, fun b hb => ?_⟩
    · have e1 : ((i + 1 : Nat) : Int) = (i : Int) + 1 := by omega
      rw [e1]; exact he'
    · have hb' : b < s.heap.objs.size := by
        have e' : b = e ∨ b = it := by simpa using hb
        rcases e' with z | z
        · rw [z]; exact hel
        · rw [z]; exact hil
      rw [upd_ne (Nat.ne_of_lt hb')]
      exact (hf b hb).1
  done := by
    intro X hP hw hK hc i pins s σ H E I hf st hg
    subst hP hw hK
    obtain ⟨⟨old, he⟩, hit⟩ := st
    obtain ⟨xs, hq, hx⟩ := hg
    obtain ⟨its, rv, p, hz⟩ := I.tuple hq
    obtain ⟨f0, f1, f2, f3, f4, f5⟩ := hf it (by simp)
    have hl := rv.length
    have ei : i = its.toArray.size := by
      simp
      omega
    have D := Draws.tuple (prog := X.prog) (w := X.w) (A := X.A.in1) (I.ok.hd hc) it a ne2 its.toArray
    refine wpAny_pyNext_enum_endD D he ⟨ei ▸ hit, p⟩ fun h' eb => ⟨rfl, I.turned (t' := s.toks) (fun b o hb q => eb b o hb q) f0 f1 f3 f4 f5⟩
  self := fun A i s Q E st h => let ⟨⟨_, he⟩, _⟩ := st; wpAny_pyIter_enum he h
/-! ### a list or a tuple -/
def SqB (K : PySem.W.Frag) : Bool → Hp → Addr → List V → Prop
  | true => SqL K
  | false => SqT K
def sqO : Bool → List V → HO
  | true, xs => .lst xs
  | false, xs => .tup xs
theorem SqB.of {K : PySem.W.Frag} {b : Bool} {H : Hp} {a : Addr} {xs : List V} (h : H a = some (sqO b xs)) : SqB K b H a xs := by
  cases b
  · exact SqT.of h
  · exact SqL.of h
def Itb (K : PySem.W.Frag) : Bool → Addr → It
  | true => Itl K
  | false => Itt K
def IteB (K : PySem.W.Frag) : Bool → Addr → It
  | true => Ite K
  | false => IteT K
theorem walk_seq {K : PySem.W.Frag} {b : Bool} {a : Addr} {xs : List V} : Walk (Itb K b a) xs.length (fun H => SqB K b H a xs) (YAt xs) := by
  cases b
  · exact walk_tup
  · exact walk_list
theorem walk_enumT {K : PySem.W.Frag} {a : Addr} {xs : List V} : Walk (IteT K a) xs.length (fun H => SqT K H a xs) (YPair (fun i => some (.int (i : Nat))) (fun i => xs[i]?)) := by
  refine ⟨fun i _ hi q => ⟨xs, xs[i], q, by simp [hi]⟩, fun _ q => ⟨xs, q, rfl⟩, fun i H v H' _ q y => ?_⟩
  obtain ⟨T, x, h1, h2, h3, h4⟩ := y
  exact ⟨T, .int (i : Nat), x, h1, h2, h3, rfl, h4 xs q⟩
theorem walk_enumB {K : PySem.W.Frag} {b : Bool} {a : Addr} {xs : List V} : Walk (IteB K b a) xs.length (fun H => SqB K b H a xs) (YPair (fun i => some (.int (i : Nat))) (fun i => xs[i]?)) := by
  cases b
  · exact walk_enumT
  · exact walk_enum
def iSeq (K : PySem.W.Frag) (tl : TE) : TI := fun σ H R => tl σ H fun x H1 => ∃ a b xs, x = .ref a ∧ SqB K b H1 a xs ∧ R (Itb K b a) H1
theorem pi_seq {X : Cx} {tg l : Expr} {tl : TE} (hl : PE X l tl) : PI X tg l (iSeq X.K tl) := by
  refine ⟨fun pins s σ H R I h => ?_⟩
  refine thn (hl.run pins s σ H _ I h) fun v s1 ⟨x, H1, I1, r1, q1⟩ => ?_
  obtain ⟨a, b, xs, e, hq, q⟩ := q1
  subst e
  cases r1
  cases b with
  | true =>
    obtain ⟨its, rv, p, hz⟩ := I1.list hq
    refine wpAny_pyIter_list p.isList ?_
    refine ⟨s1.heap.objs.size, [s1.heap.objs.size], _, _, H1, rfl, I1.kept (t' := s1.toks) fun b o e => Heap.get?_push_of_some _ e, turn_list a _, ⟨_, Heap.get?_push_size _ rfl, rfl, rfl⟩, fun b hb => ?_, q⟩
    have e : b = s1.heap.objs.size := by simpa using hb
    subst e
    exact I1.fpOk (Nat.le_refl _) (I1.hok.fresh (Nat.le_refl _))
  | false =>
    obtain ⟨its, rv, p, hz⟩ := I1.tuple hq
    refine wpAny_pyIter_tuple (show s1.heap.IsTuple a its.toArray from p) ?_
    refine ⟨s1.heap.objs.size, [s1.heap.objs.size], _, _, H1, rfl, I1.kept (t' := s1.toks) fun b o e => Heap.get?_push_of_some _ e, turn_tuple a _, ⟨_, Heap.get?_push_size _ rfl, rfl, rfl⟩, fun b hb => ?_, q⟩
    have e : b = s1.heap.objs.size := by simpa using hb
    subst e
    exact I1.fpOk (Nat.le_refl _) (I1.hok.fresh (Nat.le_refl _))
def iEnumB (K : PySem.W.Frag) (ta : TA) : TI := fun σ H R => ta σ H fun vs H1 => ∃ a b xs, vs = [.ref a] ∧ SqB K b H1 a xs ∧ R (IteB K b a) H1
theorem pi_enumB {X : Cx} {e : Expr} {ta : TA} {p pos tpos : Pos} {elts : List Expr} {kk : Nat} (hg : Gl X "enumerate") (hm : X.mg "enumerate" = none) (ha : L2.PA X [e] ta) (hs : starEach [e] X.env = [(false, eval e X.env)] := by rfl) :
    PI X (.Tuple elts kk tpos) (.Call (.Name "enumerate" p) [e] [] pos) (iEnumB X.K ta) := by
  refine ⟨fun pins s σ H R I h => ?_⟩
  refine Call_ (ld_blt I hg hm boot_enumerate (PyProof.Rows.callWith_type1 (thn (ha.run pos pins s σ H _ I h) fun us s1 ⟨vs, H1, I1, r1, q1⟩ => ?_) hs rfl))
  obtain ⟨a, b, xs, ex, hq, q⟩ := q1
  subst ex
  cases r1 with
  | cons r rr =>
    cases rr
    cases r
    cases b with
    | true =>
      obtain ⟨its, rv, p', hz⟩ := I1.list hq
      refine call_enumerate_list p'.isList fun h' he hit hsz hk => wpAny_pyIter_enum he ?_
      have I2 : Inv X pins σ H1 { s1 with heap := h' } := I1.kept (t' := s1.toks) hk
      refine ⟨s1.heap.objs.size + 1, [s1.heap.objs.size + 1, s1.heap.objs.size], _, _, H1, rfl, I2, turn_enum a (s1.heap.objs.size + 1) s1.heap.objs.size, ⟨⟨.none, he⟩, hit, Nat.succ_ne_self _⟩, fun b hb => ?_, q⟩
      have e' : b = s1.heap.objs.size + 1 ∨ b = s1.heap.objs.size := by simpa using hb
      have hle : s1.heap.objs.size ≤ b := by
        rcases e' with z | z
        · rw [z]; exact Nat.le_add_right _ _
        · rw [z]; exact Nat.le_refl _
      exact I1.fpOk hle (I1.hok.fresh hle)
    | false =>
      obtain ⟨its, rv, p', hz⟩ := I1.tuple hq
      have hal : a < s1.heap.objs.size := by
        obtain ⟨_, q, _⟩ := p'
        exact Heap.lt_size q
      refine enum_begins1 (begins_tuple a its.toArray) p' fun h' he hit hsz hk => wpAny_pyIter_enum he ?_
      have I2 : Inv X pins σ H1 { s1 with heap := h' } := I1.kept (t' := s1.toks) hk
      refine ⟨s1.heap.objs.size + 1, [s1.heap.objs.size + 1, s1.heap.objs.size], _, _, H1, rfl, I2, turn_enumT a (s1.heap.objs.size + 1) s1.heap.objs.size (Nat.succ_ne_self _) (Nat.ne_of_lt hal) (Nat.ne_of_gt (Nat.lt_succ_of_lt hal)), ⟨⟨.none, he⟩, ⟨_, hit, rfl, rfl⟩⟩, fun b hb => ?_, q⟩
      have e' : b = s1.heap.objs.size + 1 ∨ b = s1.heap.objs.size := by simpa using hb
      have hle : s1.heap.objs.size ≤ b := by
        rcases e' with z | z
        · rw [z]; exact Nat.le_add_right _ _
        · rw [z]; exact Nat.le_refl _
      exact I1.fpOk hle (I1.hok.fresh hle)
end Lf
namespace Lf
open PySem PySem.Spec PyProof.Rows L2
section
variable {P : Program} {w : World} {K : PySem.W.Frag} {mg : Str → Option Value} {base : Heap}
/-! ### _law_draw -/
theorem at_mod (cs : List Int) (t : Int) (h : cs ≠ []) : ∃ c, atI (cs.map V.int) (t % ((cs.map V.int).length : Int)) = some (.int c) := by
  have hl : 0 < cs.length := List.length_pos_iff.mpr h
  rw [List.length_map]
  have h0 := Int.emod_nonneg t (show (cs.length : Int) ≠ 0 by omega)
  have h1 := Int.emod_lt_of_pos t (show (0 : Int) < cs.length by omega)
  generalize t % (cs.length : Int) = i at h0 h1
  obtain ⟨j, rfl⟩ := Int.eq_ofNat_of_zero_le h0
  have hj : j < cs.length := by omega
  refine ⟨cs[j], atI_nat ?_⟩
  rw [List.getElem?_map, List.getElem?_eq_getElem hj]
  rfl
theorem dp_ints {K : PySem.W.Frag} {H : Hp} : ∀ cs : List Int, DpAll K H (cs.map V.int) (cs.map PyData.int)
  | [] => .nil
  | c :: r => .cons (.int c) (dp_ints r)
theorem sh_ints (cs : List Int) : SeqAt.shaped (.list (cs.map PyData.int)) = true := by
  have h : ∀ cs : List Int, PyData.canLayAll0 (cs.map PyData.int) = true ∧ PyData.depthAll (cs.map PyData.int) = 0 := by
    intro cs
    induction cs with
    | nil => exact ⟨rfl, rfl⟩
    | cons c r ih => exact ⟨by simpa [PyData.canLayAll0, PyData.canLay0] using ih.1, by simpa [PyData.depthAll, PyData.depth] using ih.2⟩
  simp [SeqAt.shaped, PyData.canLay0, PyData.depth, (h cs).1, (h cs).2]
def spDraw : Sp := fun vs H Q _ => ∃ (a : PA) (n : Nat) (many : Int), vs = [.ref a, .int many] ∧ Pen H a n ∧ n < 2 ^ 40 ∧ 0 < many ∧ Bd 9000 many ∧
  ∀ d H', 0 ≤ d → d < many → Pen H' a (n + 1) → Fr H H' → Q (.int d) H'
end
end Lf
namespace Lf
open PySem PySem.Spec PyProof.Rows L2
/-! ### powers of any size that fits -/
def CPowW (i j : Int) : Prop := 0 ≤ j ∧ (Builtin.Int.intBits i : Int) * j ≤ 2 ^ 27
theorem op_powW {X : Cx} : OpR X (binaryOp .Pow) (rI CPowW fun i j => .int (i ^ j.toNat)) := opI fun _ _ _ _ _ _ _ hc q => pow_int hc.1 hc.2 q
section
variable {P : Program} {w : World} {K : PySem.W.Frag} {mg : Str → Option Value} {base : Heap}
/-! ### _law_start -/
def spStart (K : PySem.W.Frag) : Sp := fun vs H Q _ => ∃ (s : Addr) (ns : List Int), vs = [.ref s] ∧ SqL K H s (ns.map V.int) ∧ ∀ (a : PA) H', Pen H' a 0 → Same H H' → Q (.ref a) H'
abbrev s_l_start : Stmt := topS 33
abbrev N_l_start : List Str := ["_law_script", "_law_limit", "_law_cell"]
abbrev P_l_start : List Str := ["_law_script"]
theorem sc_l_start : FnScope N_l_start P_l_start (defScope s_l_start) := ⟨rfl, rfl, rfl, by decide +kernel, rfl, by decide +kernel, by decide +kernel⟩
theorem ok_l_start (D : Df K mg "_law_start" s_l_start P_l_start) (B : Bi mg) : C8.Cal P w K mg base 1 "_law_start" (spStart K) [] := by
  refine cal_of D sc_l_start (fun vs H Q E h => ?_) (fun f cdv A outer s H vs Q E hr h => ?_)
  · obtain ⟨a, ns, rfl, _⟩ := h
    rfl
  · obtain ⟨a, ns, rfl, hS, q⟩ := h
    refine ⟨_, (C8.pss_cut (ps_set (i := 1) sc_l_start.nd rfl (Or.inr rfl) (pe_op op_powW (pe_op op_pow pe_int pe_int) pe_int))
    (pss_one (ps_ret (pe_disp (pps_cons pe_str (pe_lc (own := [("_law_cell", 2)]) (g := (gName 2)) (by rfl) sc_l_start.nd (pi_list (pe_slice sl_list (pv 0) po_none (po_some pe_int))) (blkOk_by (own := [("_law_cell", 2)]) (N := N_l_start) (sc := defScope s_l_start) (by decide +kernel)) (fun _ _ _ _ _ => (pg_name (i := 2) sc_l_start.nd rfl (Or.inl rfl))) (fun _ _ _ _ _ => pts_nil) (fun _ _ _ _ _ => (pe_ifExp (pt_cmpR op_ge (pe_callB (call_abs) (by rfl) B.abs_ bt_abs (pa_cons (pv 2) pa_nil)) (pe_op op_pow pe_int pe_int) (nomark _)) (pe_op op_mod (pe_callB (call_abs) (by rfl) B.abs_ bt_abs (pa_cons (pv 2) pa_nil)) (pv 1)) (pv 2)))) (pps_cons pe_str pe_int (pps_cons pe_str pe_int pps_nil))) (by rfl) (by rfl) (fun z => by cases z) (by decide))))), ?_⟩
    refine ⟨fun σ' H' => ∃ lim : Int, 0 < lim ∧ σ' = [some (.ref a), some (.int lim), none] ∧ H' = H, ?_, ?_⟩
    · refine ⟨_, _, rfl, rfl, ⟨by decide, by decide, by decide⟩, _, _, rfl, rfl, ⟨by decide, by decide +kernel⟩, ?_⟩
      exact ⟨_, Int.pow_pos (Int.pow_pos (by decide)), rfl, rfl⟩
    rintro σ' H1 ⟨lim, l0, rfl, rfl⟩
    refine fun p np => ?_
    have s1 : Same H1 (upd H1 p (.dK [])) := sm_upd np
    have ep := upd_same (H := H1) (a := p) (o := .dK [])
    refine ⟨_, rfl, 63, rfl, a, _, rfl, s1.seq hS, fun c nc => ?_⟩
    obtain ⟨cs, ec, hc⟩ := cut_ints ns
    rw [ec]
    have s2 := sm_upd (o := .lst (cs.map V.int)) nc
    have ec2 := upd_same (H := upd H1 p (.dK [])) (a := c) (o := .lst (cs.map V.int))
    have ep := s2 _ _ ep
    have s12 := s1.trans s2
    generalize upd (upd H1 p (.dK [])) c (.lst (cs.map V.int)) = H2 at ep ec2 s12 ⊢
    refine ⟨c, rfl, ⟨_, SqL.of ec2⟩, fun Y nY => ?_⟩
    have npY : p ≠ Y := ne_of_none ep nY
    refine lc_it (walk_list (K := K) (a := c) (xs := cs.map V.int)) (fun i H' => ∃ zs : List Int, H' Y = some (.lst (zs.map V.int)) ∧ zs.length ≤ i ∧ Same H2 H') ⟨[], upd_same, Nat.le_refl _, sm_upd nY⟩ ?_ ?_ ?_
    · rintro i H7 _ ⟨_, _, _, s7⟩
      exact SqL.of (s7 _ _ ec2)
    · rintro i x _ H7 hi ⟨zs, eY, lz, s7⟩ ⟨rfl, hx⟩
      have hi6 : i < cs.length := by
        have := (List.getElem?_eq_some_iff.mp hx).1
        rwa [List.length_map] at this
      obtain ⟨z, rfl⟩ : ∃ z, x = V.int z := by
        obtain ⟨z, _, e⟩ := List.mem_map.mp (List.mem_of_getElem? hx)
        exact ⟨z, e.symm⟩
      have fin : ∀ y : Int, ∃ acc, H7 Y = some (.lst acc) ∧ acc.length < sizeLine ∧ (fun i H' => ∃ zs : List Int, H' Y = some (.lst (zs.map V.int)) ∧ zs.length ≤ i ∧ Same H2 H') (i + 1) (upd H7 Y (.lst (acc ++ [.int y]))) := fun y => by
        refine ⟨zs.map V.int, eY, small1000 (by rw [List.length_map]; omega), zs ++ [y], ?_, by rw [List.length_append]; show zs.length + 1 ≤ _; omega, fun b o eb => ?_⟩
        · rw [upd_same, List.map_append]
          rfl
        · rw [upd_ne (ne_of_none eb nY)]
          exact s7 _ _ eb
      refine ⟨rfl, _, rfl, z, rfl, _, _, rfl, rfl, ⟨by decide, by decide, by decide⟩, _, _, rfl, rfl, _, rfl, ite2 (fun _ => ?_) (fun _ => ?_)⟩
      · refine ⟨_, rfl, z, rfl, _, rfl, _, _, rfl, rfl, l0, ?_⟩
        exact fin _
      · exact ⟨_, rfl, fin _⟩
    rintro H7 ⟨zs, eY, lz, s7⟩
    have lz : zs.length ≤ 63 := by rw [List.length_map] at lz; omega
    refine ⟨s7 _ _ ep, penD Y 0 0, rfl, by show 3 ≤ 15; decide, ?_⟩
    have e : mergeK [] (penD Y 0 0) = penD Y 0 0 := by
      simp [mergeK, penD, putK, sct, scr, str_]
    rw [e]
    refine q ⟨p, Y⟩ _ ⟨zs, 0, 0, upd_same, ?_, lz, by omega, by omega, by omega⟩ ?_
    · show upd _ p _ Y = _
      rw [upd_ne npY.symm]
      exact eY
    · intro b o eb
      rw [upd_ne (ne_of_none eb np)]
      exact s7 _ _ (s12 _ _ eb)
/-! ### _law_draw -/
abbrev s_l_draw : Stmt := topS 34
abbrev N_l_draw : List Str := ["_law_state", "_law_size", "_law_digit", "_law_at", "_law_cell", "_law_mixed_here", "_law_step"]
abbrev P_l_draw : List Str := ["_law_state", "_law_size"]
theorem sc_l_draw : FnScope N_l_draw P_l_draw (defScope s_l_draw) := ⟨rfl, rfl, rfl, by decide +kernel, rfl, by decide +kernel, by decide +kernel⟩
theorem ok_l_draw (D : Df K mg "_law_draw" s_l_draw P_l_draw) (B : Bi mg) : C8.Cal P w K mg base 1 "_law_draw" spDraw [] := by
  refine cal_of D sc_l_draw (fun vs H Q E h => ?_) (fun f cdv A outer s H vs Q E hr h => ?_)
  · obtain ⟨a, n, many, rfl, _⟩ := h
    rfl
  · obtain ⟨⟨a, l⟩, n, many, rfl, hP, hn, h0, hb, q⟩ := h
    have hu := hu_of hr
    have hd : CDivW 0 many := ⟨h0, hb.log (by decide)⟩
    obtain ⟨cs, t, r, ea, el, hl, ht0, htn, hr0⟩ := hP.ex
    have ea : H a = some (.dK (penD l t r)) := ea
    have el : H l = some (.lst (cs.map V.int)) := el
    refine ⟨_, (pss_cons (ps_if (pt_cmpR op_gt (pe_dget hu (pv 0) pe_str (fun _ _ => rfl)) pe_int (nomark _))
      (pss_cons (ps_set (i := 2) sc_l_draw.nd rfl (Or.inl rfl) (pe_op op_mod (pe_dget hu (pv 0) pe_str (fun _ _ => rfl)) (pv 1)))
    (pss_cons (ps_dput hu (pv 0) pe_str (pe_op op_fdivW (pe_dget hu (pv 0) pe_str (fun _ _ => rfl)) (pv 1)) rfl)
    (pss_one (ps_ret (pv 2)))))
      pss_nil)
    (pss_cons (ps_set (i := 3) sc_l_draw.nd rfl (Or.inl rfl) (pe_dget hu (pv 0) pe_str (fun _ _ => rfl)))
    (pss_cons (ps_dput hu (pv 0) pe_str (pe_op op_add (pv 3) pe_int) rfl)
    (C8.pss_cut (ps_set (i := 4) sc_l_draw.nd rfl (Or.inl rfl) (pe_op op_add (pe_op op_mul (pv 3) (pv 3)) pe_int))
    (C8.pss_cut (ps_if (pt_cmpR (op_neD hr.units) (pe_dget hu (pv 0) pe_str (fun _ _ => rfl)) (pe_lst pa_nil) (nomark _))
      (pss_one (ps_set (i := 4) sc_l_draw.nd rfl (Or.inl rfl) (pe_ix (r := rIxL K) ix_list (pe_dget hu (pv 0) pe_str (fun _ _ => rfl)) (pe_op op_mod (pv 3) (pe_callB (call_len_seq) (by rfl) B.len_ bt_len (pa_cons (pe_dget hu (pv 0) pe_str (fun _ _ => rfl)) pa_nil))) (fun _ _ => rfl))))
      pss_nil)
    (C8.pss_cut (ps_if (PW.pt (pw_and (pt_cmpR op_lt (pv 3) (pe_callB (call_len_seq) (by rfl) B.len_ bt_len (pa_cons (pe_dget hu (pv 0) pe_str (fun _ _ => rfl)) pa_nil)) (nomark _)) (pw_and1 (pt_cmpR op_ge (pv 4) (pe_op op_pow pe_int pe_int) (nomark _)))))
      (pss_cons (ps_dput hu (pv 0) pe_str (pe_op op_fdivW (pv 4) (pv 1)) rfl)
    (pss_one (ps_ret (pe_op op_mod (pv 4) (pv 1)))))
      pss_nil)
    (C8.pss_cut (ps_set (i := 5) sc_l_draw.nd rfl (Or.inl rfl) (pe_op op_mod (pe_op op_mul (pe_op op_add (pe_op op_add (pe_op op_mod (pv 4) pe_int) (pe_op op_mul pe_int (pv 3))) pe_int) pe_int) pe_int))
    (C8.pss_cut (ps_for PassesOwn.never rfl (pi_range1 rfl B.range_ (pa_cons pe_int pa_nil)) (pg_name (i := 6) sc_l_draw.nd rfl (Or.inl rfl))
      (pss_cons (ps_set (i := 5) sc_l_draw.nd rfl (Or.inl rfl) (pe_op op_add (pe_op op_add (pe_op op_add (pe_op op_mul (pv 5) (pv 5)) (pe_op op_mul pe_int (pv 5))) (pv 3)) (pv 6)))
    (pss_one (ps_set (i := 5) sc_l_draw.nd rfl (Or.inl rfl) (pe_op op_mod (pv 5) pe_int)))))
    (pss_one (ps_ret (pe_op op_mod (pe_op op_fdiv (pv 5) pe_int) (pv 1)))))))))))), ?_⟩
    refine ⟨_, rfl, a, _, rfl, dg_rest ea, _, _, rfl, rfl, _, rfl, ite2 (fun e => ?_) (fun e => ?_)⟩
    · refine ⟨_, rfl, a, _, rfl, dg_rest ea, _, rfl, _, _, rfl, rfl, h0, ?_⟩
      refine ⟨_, rfl, a, _, rfl, dg_rest ea, _, rfl, _, _, rfl, rfl, hd, _, rfl, a, _, rfl, dp_rest ea, ?_⟩
      refine ⟨_, rfl, ?_⟩
      exact q _ _ (Int.emod_nonneg _ (by omega)) (Int.emod_lt_of_pos _ h0) (Pen.put ea el hl ht0 (by omega) (Int.ediv_nonneg hr0 (by omega))) (Fr.dict ea)
    · refine ⟨_, rfl, a, _, rfl, dg_turn ea, ?_⟩
      refine ⟨_, rfl, _, _, rfl, rfl, _, rfl, a, _, rfl, dp_turn ea, ?_⟩
      have ea1 : upd H a (.dK (penD l (t + 1) r)) a = some (.dK (penD l (t + 1) r)) := upd_same
      have nla : l ≠ a := ne_of el ea (by intro z; cases z)
      have el1 : upd H a (.dK (penD l (t + 1) r)) l = some (.lst (cs.map V.int)) := by rw [upd_ne nla]; exact el
      have f1 : Fr H (upd H a (.dK (penD l (t + 1) r))) := Fr.dict ea
      generalize upd H a (.dK (penD l (t + 1) r)) = H1 at ea1 el1 f1
      refine ⟨fun σ' H' => ∃ c : Int, σ' = [some (.ref a), some (.int many), none, some (.int t), some (.int c), none, none] ∧ H1 = H', ?_, ?_⟩
      · exact ⟨_, rfl, _, rfl, _, _, rfl, rfl, .inl ⟨by omega, by omega⟩, _, _, rfl, rfl, _, rfl, rfl⟩
      rintro σ' H' ⟨c0, rfl, rfl⟩
      refine ⟨fun σ' H' => ∃ c : Int, σ' = [some (.ref a), some (.int many), none, some (.int t), some (.int c), none, none] ∧ Same H1 H', ?_, ?_⟩
      · refine ⟨_, rfl, a, _, rfl, dg_cells ea1, Nat.zero_le _, fun p np => ?_⟩
        have s1 : Same H1 (upd H1 p (.lst [])) := sm_upd np
        refine ⟨.list (cs.map PyData.int), .list [], Dp.lst (SqL.of (s1 _ _ el1)) (dp_ints cs), Dp.lst (SqL.of upd_same) .nil, sh_ints cs, rfl, _, rfl, ?_⟩
        by_cases hc : cs = []
        · subst hc
          exact iteF ⟨_, rfl, s1⟩
        · obtain ⟨c, r', rfl⟩ : ∃ c r', cs = c :: r' := by
            cases cs with
            | nil => exact absurd rfl hc
            | cons c r' => exact ⟨c, r', rfl⟩
          refine iteT ?_
          obtain ⟨v, hv⟩ := at_mod (c :: r') t hc
          refine ⟨_, rfl, a, _, rfl, dg_cells (s1 _ _ ea1), _, rfl, _, rfl, a, _, rfl, dg_cells (s1 _ _ ea1), l, _, rfl, .inl (SqL.of (s1 _ _ el1)), _, _, rfl, rfl, ?_, l, _, _, _, rfl, rfl, SqL.of (s1 _ _ el1), hv, ?_⟩
          · show (0 : Int) < (((c :: r').map V.int).length : Int)
            rw [List.length_map, List.length_cons]
            omega
          · exact ⟨v, rfl, s1⟩
      rintro σ' H2 ⟨c, rfl, s2⟩
      have ea2 := s2 _ _ ea1
      have el2 := s2 _ _ el1
      have f2 : Fr H H2 := f1.trans (Fr.same s2)
      refine ⟨fun σ' H' => σ' = [some (.ref a), some (.int many), none, some (.int t), some (.int c), none, none] ∧ H2 = H', ?_, ?_⟩
      · refine ⟨_, rfl, _, rfl, a, _, rfl, dg_cells ea2, l, _, rfl, .inl (SqL.of el2), _, _, rfl, rfl, _, rfl, ite2 (fun e1 => ?_) (fun e1 => ?_)⟩
        · refine ⟨_, rfl, _, _, rfl, rfl, ⟨by decide, by decide, by decide⟩, _, _, rfl, rfl, _, rfl, ite2 (fun e2 => ?_) (fun e2 => ?_)⟩
          · have e3 := of_decide_eq_true e2
            have p18 : (0 : Int) ≤ 10 ^ (18 : Int).toNat := by decide
            have c0' : 0 ≤ c := Int.le_trans p18 e3
            refine ⟨_, rfl, _, rfl, _, _, rfl, rfl, hd, _, rfl, a, _, rfl, dp_rest ea2, ?_⟩
            refine ⟨_, rfl, _, rfl, _, _, rfl, rfl, h0, ?_⟩
            exact q _ _ (Int.emod_nonneg _ (by omega)) (Int.emod_lt_of_pos _ h0) (Pen.put ea2 el2 hl (by omega) (by omega) (Int.ediv_nonneg (by omega) (by omega))) (f2.trans (Fr.dict ea2))
          · exact ⟨rfl, rfl⟩
        · exact iteF ⟨rfl, rfl⟩
      rintro σ' H' ⟨rfl, rfl⟩
      have mlt : (0 : Int) < 4294967311 := by decide
      have md : ∀ x : Int, 0 ≤ x % 4294967311 ∧ x % 4294967311 < 4294967311 := fun x => ⟨Int.emod_nonneg _ (by decide), Int.emod_lt_of_pos _ mlt⟩
      refine ⟨fun σ' H' => ∃ m : Int, 0 ≤ m ∧ m < 4294967311 ∧ σ' = [some (.ref a), some (.int many), none, some (.int t), some (.int c), some (.int m), none] ∧ H2 = H', ?_, ?_⟩
      · refine ⟨_, rfl, _, _, rfl, rfl, mlt, _, rfl, _, _, rfl, rfl, .inl ⟨by decide, by decide⟩, _, _, rfl, rfl, _, _, rfl, rfl, _, _, rfl, rfl, .inr ⟨by decide, by decide⟩, _, _, rfl, rfl, mlt, ?_⟩
        exact ⟨_, (md _).1, (md _).2, rfl, rfl⟩
      rintro σ' H' ⟨m, m0, m1, rfl, rfl⟩
      refine ⟨fun σ' H' => ∃ (m : Int) (y : Option V), 0 ≤ m ∧ m < 4294967311 ∧ σ' = [some (.ref a), some (.int many), none, some (.int t), some (.int c), some (.int m), y] ∧ H2 = H', ?_, ?_⟩
      · refine ⟨3, rfl, by decide, by decide, ?_⟩
        refine for_range (lo := 0) (n := 3) (fun i σ H' => ∃ (m : Int) (y : Option V), 0 ≤ m ∧ m < 4294967311 ∧ σ = [some (.ref a), some (.int many), none, some (.int t), some (.int c), some (.int m), y] ∧ H2 = H') ⟨m, _, m0, m1, rfl, rfl⟩ ?_ ?_
        · rintro i σ H' hi ⟨m, y, m0, m1, rfl, rfl⟩
          refine ⟨_, rfl, _, rfl, _, _, rfl, rfl, .inl ⟨by omega, by omega⟩, _, rfl, _, _, rfl, rfl, .inl ⟨by decide, by decide⟩, _, _, rfl, rfl, _, rfl, _, _, rfl, rfl, _, rfl, _, _, rfl, rfl, ?_⟩
          refine ⟨_, rfl, _, _, rfl, rfl, mlt, ?_⟩
          exact ⟨_, _, (md _).1, (md _).2, rfl, rfl⟩
        · rintro σ H' ⟨m, y, m0, m1, rfl, rfl⟩
          exact ⟨m, y, m0, m1, rfl, rfl⟩
      rintro σ' H' ⟨m, y, m0, m1, rfl, rfl⟩
      refine ⟨_, rfl, _, _, rfl, rfl, ⟨by decide, by decide⟩, _, rfl, _, _, rfl, rfl, h0, ?_⟩
      exact q _ _ (Int.emod_nonneg _ (by omega)) (Int.emod_lt_of_pos _ h0) ⟨cs, t + 1, r, ea2, el2, hl, by omega, by omega, hr0⟩ f2
end
end Lf
namespace Lf
open PySem PySem.Spec PyProof.Rows L2
theorem Bd.grow {k : Nat} {r d : Int} (h0 : 0 ≤ r) (h : Bd k r) (d0 : 0 ≤ d) (d1 : d < 10 ^ 6) : Bd (k + 20) (r * 10 ^ 6 + d) := by
  unfold Bd at *
  have e : (2 : Nat) ^ (k + 20) = 2 ^ k * 1048576 := by rw [Nat.pow_add]
  rw [e]
  generalize (2 : Nat) ^ k = m at h
  omega
/-- a rule, its numbers within k bits -/
structure RuleB (k : Nat) (p q c : Int) : Prop where
  p0 : 0 ≤ p
  q1 : 1 ≤ q
  g : Int.gcd p q = 1
  bp : Bd k p
  bq : Bd k q
  bc : Bd k c
theorem RuleB.mono {k j : Nat} {p q c : Int} (h : RuleB k p q c) (e : k ≤ j) : RuleB j p q c := ⟨h.p0, h.q1, h.g, h.bp.mono e, h.bq.mono e, h.bc.mono e⟩
theorem gcd_pos {p q : Int} (h : 1 ≤ q) : 0 < (Int.gcd p q : Int) := by
  have : 0 < Int.gcd p q := Int.gcd_pos_of_ne_zero_right _ (by omega)
  omega
theorem gcd_le {p q : Int} (h : 1 ≤ q) : (Int.gcd p q : Int) ≤ q := Int.le_of_dvd (by omega) (Int.gcd_dvd_right ..)
theorem low_rule {k : Nat} {p q c : Int} (h0 : 0 ≤ p) (h1 : 1 ≤ q) (bp : Bd k p) (bq : Bd k q) (bc : Bd k c) : RuleB k (p / (Int.gcd p q : Int)) (q / (Int.gcd p q : Int)) (c / (Int.gcd p q : Int)) := by
  have hg := gcd_pos (p := p) h1
  refine ⟨Int.ediv_nonneg h0 (by omega), ?_, ?_, bp.ediv hg, bq.ediv hg, bc.ediv hg⟩
  · exact Int.le_ediv_of_mul_le hg (by rw [Int.one_mul]; exact gcd_le h1)
  · have : 0 < Int.gcd p q := by omega
    exact Int.gcd_ediv_gcd_ediv_gcd this
/-- a new rule stands at r -/
abbrev tup3 (p q c : Int) : HO := .tup [.int p, .int q, .int c]
theorem low_rule' {k : Nat} {p q c : Int} (h0 : 0 ≤ p) (h1 : 1 ≤ q) (bp : Bd k p) (bq : Bd k q) (bc : Bd k c) : RuleB k (p / gg p q) (q / gg p q) (c / gg p q) := low_rule h0 h1 bp bq bc
theorem low_le {p q : Int} (h1 : 1 ≤ q) : q / (Int.gcd p q : Int) ≤ q := Int.ediv_le_self _ (by omega)
section
variable {P : Program} {w : World} {K : PySem.W.Frag} {mg : Str → Option Value} {base : Heap}
/-! ### _law_gcd, _law_lowest -/
def spGcd : Sp := fun vs H Q _ => ∃ (x y : Int), vs = [.int x, .int y] ∧ 0 ≤ x ∧ 0 ≤ y ∧ Q (.int (Int.gcd x y : Int)) H
def mu1 : L2.St → Hp → Nat := fun σ _ => match σ with
  | _ :: some (.int v) :: _ => v.toNat
  | _ => 0
end
end Lf
namespace Lf
open PySem PySem.Spec PyProof.Rows L2
/-! ### objects in a row -/
inductive Obs {α : Type} (O : α → HO) (H : Hp) : List V → List α → Prop
  | nil : Obs O H [] []
  | cons {r : Addr} {vs : List V} {d : α} {ds : List α} : H r = some (O d) → Obs O H vs ds → Obs O H (.ref r :: vs) (d :: ds)
section
variable {α : Type} {O : α → HO} {H H' : Hp}
theorem Obs.len {vs : List V} {ds : List α} (h : Obs O H vs ds) : vs.length = ds.length := by
  induction h with
  | nil => rfl
  | cons _ _ ih => rw [List.length_cons, List.length_cons, ih]
theorem Obs.at {vs : List V} {ds : List α} (h : Obs O H vs ds) : ∀ {i : Nat} {x : V}, vs[i]? = some x → ∃ r d, x = .ref r ∧ H r = some (O d) ∧ ds[i]? = some d := by
  induction h with
  | nil =>
    intro i x e
    cases e
  | cons e0 _ ih =>
    intro i x e
    cases i with
    | zero =>
      cases e
      exact ⟨_, _, rfl, e0, rfl⟩
    | succ i => exact ih e
theorem Obs.on {vs : List V} {ds : List α} (h : Obs O H vs ds) : ∀ {i : Nat} {d : α}, ds[i]? = some d → ∃ r, vs[i]? = some (.ref r) ∧ H r = some (O d) := by
  induction h with
  | nil =>
    intro i x e
    cases e
  | cons e0 _ ih =>
    intro i x e
    cases i with
    | zero =>
      cases e
      exact ⟨_, rfl, e0⟩
    | succ i => exact ih e
theorem Obs.keep {vs : List V} {ds : List α} (h : Obs O H vs ds) (f : ∀ b d, H b = some (O d) → H' b = some (O d)) : Obs O H' vs ds := by
  induction h with
  | nil => exact .nil
  | cons e0 _ ih => exact .cons (f _ _ e0) ih
theorem Obs.same {vs : List V} {ds : List α} (h : Obs O H vs ds) (s : Same H H') : Obs O H' vs ds := h.keep fun b d e => s _ _ e
theorem Obs.snoc {vs : List V} {ds : List α} {r : Addr} {d : α} (h : Obs O H vs ds) (e : H r = some (O d)) : Obs O H (vs ++ [.ref r]) (ds ++ [d]) := by
  induction h with
  | nil => exact .cons e .nil
  | cons e0 _ ih => exact .cons e0 ih
theorem Obs.app {vs us : List V} {ds es : List α} (h : Obs O H vs ds) (h2 : Obs O H us es) : Obs O H (vs ++ us) (ds ++ es) := by
  induction h with
  | nil => exact h2
  | cons e0 _ ih => exact .cons e0 ih
theorem Obs.drop {vs : List V} {ds : List α} (h : Obs O H vs ds) : ∀ n, Obs O H (vs.drop n) (ds.drop n) := by
  induction h with
  | nil =>
    intro n
    rw [List.drop_nil, List.drop_nil]
    exact .nil
  | cons e0 h ih =>
    intro n
    cases n with
    | zero => exact .cons e0 h
    | succ n => exact ih n
theorem Obs.take {vs : List V} {ds : List α} (h : Obs O H vs ds) : ∀ n, Obs O H (vs.take n) (ds.take n) := by
  induction h with
  | nil =>
    intro n
    rw [List.take_nil, List.take_nil]
    exact .nil
  | cons e0 h ih =>
    intro n
    cases n with
    | zero => exact .nil
    | succ n => exact .cons e0 (ih n)
end
/-! ### records -/
structure Rec where
  lo : Bool
  t : Int
  n : Int
def wd : Bool → Str
  | true => "at least"
  | false => "at most"
abbrev rcO (d : Rec) : HO := .tup [.str (wd d.lo), .int d.t, .int d.n]
theorem w_lo (b : Bool) : decide (V.str (wd b) = V.str ("at least" : Str)) = b := by
  cases b
  · exact decide_eq_false (by intro z; exact absurd (V.str.inj z) (by decide +kernel))
  · exact decide_eq_true rfl
theorem w_hi (b : Bool) : decide (V.str (wd b) = V.str ("at most" : Str)) = !b := by
  cases b
  · exact decide_eq_true rfl
  · exact decide_eq_false (by intro z; exact absurd (V.str.inj z) (by decide +kernel))
def RcB (k : Nat) (ds : List Rec) : Prop := ∀ d ∈ ds, Bd k d.t ∧ Bd k d.n
theorem RcB.mono {k j : Nat} {ds : List Rec} (h : RcB k ds) (e : k ≤ j) : RcB j ds := fun d hd => ⟨(h d hd).1.mono e, (h d hd).2.mono e⟩
theorem Obs.fr {H H' : Hp} {vs : List V} {ds : List Rec} (h : Obs rcO H vs ds) (f : Fr H H') : Obs rcO H' vs ds := h.keep fun b d e => f.t _ _ e
/-- what split_records gives: index, time, count -/
abbrev T3 := Int × Int × Int
abbrev trO (x : T3) : HO := .tup [.int x.1, .int x.2.1, .int x.2.2]
def sel (b : Bool) : Nat → List Rec → List T3
  | _, [] => []
  | k, d :: ds => if d.lo = b then ((k : Int), d.t, d.n) :: sel b (k + 1) ds else sel b (k + 1) ds
theorem sel_snoc (b : Bool) (k : Nat) (ds : List Rec) (d : Rec) : sel b k (ds ++ [d]) = sel b k ds ++ (if d.lo = b then [(((k + ds.length : Nat) : Int), d.t, d.n)] else []) := by
  induction ds generalizing k with
  | nil =>
    show (if d.lo = b then _ else _) = _
    by_cases h : d.lo = b
    · rw [if_pos h, if_pos h]
      rfl
    · rw [if_neg h, if_neg h]
      rfl
  | cons e r ih =>
    show (if e.lo = b then ((k : Int), e.t, e.n) :: sel b (k + 1) (r ++ [d]) else sel b (k + 1) (r ++ [d])) = (if e.lo = b then _ else _) ++ _
    rw [ih (k + 1), List.length_cons, show k + 1 + r.length = k + (r.length + 1) by omega]
    by_cases h : e.lo = b
    · rw [if_pos h, if_pos h]
      rfl
    · rw [if_neg h, if_neg h]
theorem sel_len (b : Bool) (k : Nat) (ds : List Rec) : (sel b k ds).length ≤ ds.length := by
  induction ds generalizing k with
  | nil => exact Nat.le_refl _
  | cons e r ih =>
    show (if e.lo = b then _ else _ : List T3).length ≤ _
    have := ih (k + 1)
    by_cases h : e.lo = b
    · rw [if_pos h, List.length_cons, List.length_cons]
      omega
    · rw [if_neg h, List.length_cons]
      omega
theorem sel_take {b : Bool} {ds : List Rec} {i : Nat} {d : Rec} (e : ds[i]? = some d) : sel b 0 (ds.take (i + 1)) = sel b 0 (ds.take i) ++ (if d.lo = b then [((i : Int), d.t, d.n)] else []) := by
  have hi : i < ds.length := (List.getElem?_eq_some_iff.mp e).1
  rw [List.take_add_one, e]
  show sel b 0 (ds.take i ++ [d]) = _
  rw [sel_snoc, List.length_take, Nat.min_eq_left (by omega), Nat.zero_add]
/-- each of them speaks of a record at its index -/
theorem sel_mem {b : Bool} {k : Nat} {ds : List Rec} {x : T3} (h : x ∈ sel b k ds) : ∃ (i : Nat) (d : Rec), ds[i]? = some d ∧ d.lo = b ∧ x = (((k + i : Nat) : Int), d.t, d.n) := by
  induction ds generalizing k with
  | nil => cases h
  | cons e r ih =>
    have h : x ∈ (if e.lo = b then ((k : Int), e.t, e.n) :: sel b (k + 1) r else sel b (k + 1) r) := h
    have up : x ∈ sel b (k + 1) r → ∃ (i : Nat) (d : Rec), (e :: r)[i]? = some d ∧ d.lo = b ∧ x = (((k + i : Nat) : Int), d.t, d.n) := fun z => by
      obtain ⟨i, d, h1, h2, h3⟩ := ih z
      exact ⟨i + 1, d, h1, h2, by rw [h3, show k + 1 + i = k + (i + 1) by omega]⟩
    by_cases hb : e.lo = b
    · rw [if_pos hb] at h
      rcases List.mem_cons.mp h with rfl | h
      · exact ⟨0, e, rfl, hb, rfl⟩
      · exact up h
    · rw [if_neg hb] at h
      exact up h
theorem mem_sel {b : Bool} {ds : List Rec} {i : Nat} {d : Rec} (e : ds[i]? = some d) (hb : d.lo = b) : ∀ k, (((k + i : Nat) : Int), d.t, d.n) ∈ sel b k ds := by
  induction ds generalizing i with
  | nil => cases e
  | cons f r ih =>
    intro k
    show _ ∈ (if f.lo = b then _ else _)
    cases i with
    | zero =>
      cases e
      rw [if_pos hb]
      exact List.mem_cons_self
    | succ i =>
      have := ih e (k + 1)
      rw [show k + 1 + i = k + (i + 1) by omega] at this
      by_cases h : f.lo = b
      · rw [if_pos h]
        exact List.mem_cons_of_mem _ this
      · rw [if_neg h]
        exact this
theorem sel_bd {k : Nat} {b : Bool} {ds : List Rec} (h : RcB k ds) {x : T3} (hx : x ∈ sel b 0 ds) : Bd k x.2.1 ∧ Bd k x.2.2 := by
  obtain ⟨i, d, e, _, rfl⟩ := sel_mem hx
  exact h d (List.mem_of_getElem? e)
/-- what a list has as its greatest -/
def IsMx (l : List Int) : Option Int → Prop
  | none => l = []
  | some m => m ∈ l ∧ ∀ y ∈ l, y ≤ m
def IsMn (l : List Int) : Option Int → Prop
  | none => l = []
  | some m => m ∈ l ∧ ∀ y ∈ l, m ≤ y
def oV : Option Int → V
  | none => .non
  | some i => .int i
theorem maxOf_mx (x : Int) (xs : List Int) : PySem.W.maxOf x xs ∈ x :: xs ∧ ∀ y ∈ x :: xs, y ≤ PySem.W.maxOf x xs := by
  induction xs generalizing x with
  | nil => exact ⟨List.mem_cons_self, fun y hy => by rw [List.mem_singleton.mp hy]; exact Int.le_refl _⟩
  | cons z r ih =>
    have e : PySem.W.maxOf x (z :: r) = PySem.W.maxOf (if decide (x < z) = true then z else x) r := rfl
    rw [e]
    obtain ⟨h1, h2⟩ := ih (if decide (x < z) = true then z else x)
    refine ⟨?_, fun y hy => ?_⟩
    · rcases List.mem_cons.mp h1 with h | h
      · rw [h]
        by_cases c : x < z
        · rw [if_pos (decide_eq_true c)]
          exact List.mem_cons_of_mem _ List.mem_cons_self
        · rw [if_neg (fun h => c (of_decide_eq_true h))]
          exact List.mem_cons_self
      · exact List.mem_cons_of_mem _ (List.mem_cons_of_mem _ h)
    · have g := h2 _ List.mem_cons_self
      have gx : x ≤ PySem.W.maxOf (if decide (x < z) = true then z else x) r ∧ z ≤ PySem.W.maxOf (if decide (x < z) = true then z else x) r := by
        by_cases c : x < z
        · rw [if_pos (decide_eq_true c)] at g ⊢
          exact ⟨by omega, g⟩
        · rw [if_neg (fun h => c (of_decide_eq_true h))] at g ⊢
          exact ⟨g, by omega⟩
      rcases List.mem_cons.mp hy with rfl | hy
      · exact gx.1
      · rcases List.mem_cons.mp hy with rfl | hy
        · exact gx.2
        · exact h2 _ (List.mem_cons_of_mem _ hy)
theorem minOf_mn (x : Int) (xs : List Int) : PySem.W.minOf x xs ∈ x :: xs ∧ ∀ y ∈ x :: xs, PySem.W.minOf x xs ≤ y := by
  induction xs generalizing x with
  | nil => exact ⟨List.mem_cons_self, fun y hy => by rw [List.mem_singleton.mp hy]; exact Int.le_refl _⟩
  | cons z r ih =>
    have e : PySem.W.minOf x (z :: r) = PySem.W.minOf (if decide (z < x) = true then z else x) r := rfl
    rw [e]
    obtain ⟨h1, h2⟩ := ih (if decide (z < x) = true then z else x)
    refine ⟨?_, fun y hy => ?_⟩
    · rcases List.mem_cons.mp h1 with h | h
      · rw [h]
        by_cases c : z < x
        · rw [if_pos (decide_eq_true c)]
          exact List.mem_cons_of_mem _ List.mem_cons_self
        · rw [if_neg (fun h => c (of_decide_eq_true h))]
          exact List.mem_cons_self
      · exact List.mem_cons_of_mem _ (List.mem_cons_of_mem _ h)
    · have g := h2 _ List.mem_cons_self
      have gx : PySem.W.minOf (if decide (z < x) = true then z else x) r ≤ x ∧ PySem.W.minOf (if decide (z < x) = true then z else x) r ≤ z := by
        by_cases c : z < x
        · rw [if_pos (decide_eq_true c)] at g ⊢
          exact ⟨by omega, g⟩
        · rw [if_neg (fun h => c (of_decide_eq_true h))] at g ⊢
          exact ⟨g, by omega⟩
      rcases List.mem_cons.mp hy with rfl | hy
      · exact gx.1
      · rcases List.mem_cons.mp hy with rfl | hy
        · exact gx.2
        · exact h2 _ (List.mem_cons_of_mem _ hy)
/-- max(list, default=d), min(list, default=d) -/
def rMxD (K : PySem.W.Frag) : List V → List V → Hp → VK → Prop := fun vs zs H Q => ∃ (a : Addr) (ns : List Int), vs = [V.ref a] ∧ zs = [.non] ∧ SqL K H a (ns.map V.int) ∧ ∀ m, IsMx ns m → Q (oV m) H
def rMnD (K : PySem.W.Frag) : List V → List V → Hp → VK → Prop := fun vs zs H Q => ∃ (a : Addr) (ns : List Int), vs = [V.ref a] ∧ zs = [.non] ∧ SqL K H a (ns.map V.int) ∧ ∀ m, IsMn ns m → Q (oV m) H
theorem cr_maxD {X : Cx} (hc : X.calm = true) (hu : X.A.units + 64 < cLine) : CallRK X (.builtin "max") [Str.ofString "default"] (rMxD X.K) := by
  intro pins s σ H xs zs us ws Q I r rz h
  obtain ⟨a, ns, rfl, rfl, hs, q⟩ := h
  obtain ⟨its, rv, hl, _⟩ := I.list hs
  rw [Vals.ref1 r]
  obtain ⟨d, rfl, rd⟩ := vals1 rz
  have ed : d = Value.none := rd
  subst ed
  refine PySem.W.max_list_datum_default (α := Int) (xs := ns) (I.ok.hd hc) hl.isList (by simpa using PySem.W.HoldAll.of_ints rv.ints) (by show _ + 1 + 0 < _; omega) (fun e h' tk hk => ⟨.non, H, I.kept hk, rfl, q none e⟩) fun y ys i v h' tk e hv hh hk => ?_
  obtain ⟨as, hr⟩ := hh
  obtain ⟨t, rfl⟩ : ∃ t, v = Value.int (PySem.W.maxOf y ys) t := by
    cases hr
    exact ⟨_, rfl⟩
  exact ⟨.int _, H, I.kept hk, ⟨_, rfl⟩, q (some _) (by rw [e]; exact maxOf_mx y ys)⟩
theorem cr_minD {X : Cx} (hc : X.calm = true) (hu : X.A.units + 64 < cLine) : CallRK X (.builtin "min") [Str.ofString "default"] (rMnD X.K) := by
  intro pins s σ H xs zs us ws Q I r rz h
  obtain ⟨a, ns, rfl, rfl, hs, q⟩ := h
  obtain ⟨its, rv, hl, _⟩ := I.list hs
  rw [Vals.ref1 r]
  obtain ⟨d, rfl, rd⟩ := vals1 rz
  have ed : d = Value.none := rd
  subst ed
  refine PySem.W.min_list_datum_default (α := Int) (xs := ns) (I.ok.hd hc) hl.isList (by simpa using PySem.W.HoldAll.of_ints rv.ints) (by show _ + 1 + 0 < _; omega) (fun e h' tk hk => ⟨.non, H, I.kept hk, rfl, q none e⟩) fun y ys i v h' tk e hv hh hk => ?_
  obtain ⟨as, hr⟩ := hh
  obtain ⟨t, rfl⟩ : ∃ t, v = Value.int (PySem.W.minOf y ys) t := by
    cases hr
    exact ⟨_, rfl⟩
  exact ⟨.int _, H, I.kept hk, ⟨_, rfl⟩, q (some _) (by rw [e]; exact minOf_mn y ys)⟩
end Lf
namespace Lf
open PySem PySem.Spec PyProof.Rows L2
theorem iteD {c A B : Prop} [Decidable c] (hc : c) (h : A) : if decide c = true then A else B := by
  rw [if_pos (decide_eq_true hc)]
  exact h
theorem iteDn {c A B : Prop} [Decidable c] (hc : ¬ c) (h : B) : if decide c = true then A else B := by
  rw [if_neg (fun z => hc (of_decide_eq_true z))]
  exact h
theorem iteTs {b : Bool} {A B : Prop} (h : b = true) (hA : A) : if b = true then A else B := by
  rw [h, if_pos rfl]
  exact hA
theorem iteFz {b : Bool} {A B : Prop} (h : b = false) (hB : B) : if b = true then A else B := by
  rw [h, if_neg Bool.false_ne_true]
  exact hB
theorem bool_f {b : Bool} (h : ¬ b = true) : b = false := by
  cases b
  · rfl
  · exact absurd rfl h
theorem lenS {n : Nat} (h : n ≤ 100000) : n ≤ sizeLine := by
  rw [sizeLine_eq]
  omega
theorem ltS {n : Nat} (h : n ≤ 100000) : n < sizeLine := by
  rw [sizeLine_eq]
  omega
theorem flat_is (ns : List Int) : (ns.map V.int).all flatV = true := by
  induction ns with
  | nil => rfl
  | cons n r ih => simpa [flatV] using ih
theorem mulW {a b : Nat} {x y : Int} (h : Bd a x) (h2 : Bd b y) (ha : 0 < a) (hb : 0 < b) (hab : a + b ≤ 1000000) : CMulW x y := wide_mul h h2 ha hb hab
theorem divW {b : Nat} {x y : Int} (h0 : 0 < y) (h : Bd b y) (hb : b ≤ 9000) : CDivW x y := ⟨h0, (h.mono hb).log (by decide)⟩
theorem divP {b : Nat} {x y : Int} (h0 : 0 < y) (h : Bd b y) (hb : b ≤ 9000) : CDivP x y := ⟨h0, PyProof.noPylong_of_log2 ((h.mono hb).log (by decide))⟩
theorem kii : kitB "int" "int" = some true := by decide +kernel
theorem kib : kitB "int" "bool" = some false := by decide +kernel
theorem ktt : kitB "tuple" "tuple" = some true := by decide +kernel
section
variable {P : Program} {w : World} {K : PySem.W.Frag} {mg : Str → Option Value} {base : Heap}
/-! ### integers -/
def spIsInt : Sp := fun vs H Q _ => ∃ i : Int, vs = [.int i] ∧ Q (.bl true) H
abbrev s_is_integer : Stmt := topS 6
abbrev N_is_integer : List Str := ["value"]
abbrev P_is_integer : List Str := ["value"]
theorem sc_is_integer : FnScope N_is_integer P_is_integer (defScope s_is_integer) := ⟨rfl, rfl, rfl, by decide +kernel, rfl, by decide +kernel, by decide +kernel⟩
theorem ok_is_integer (D : Df K mg "is_integer" s_is_integer P_is_integer) (B : Bi mg) : C8.Cal P w K mg base 1 "is_integer" spIsInt [] := by
  refine cal_of D sc_is_integer (fun vs H Q E h => ?_) (fun f cdv A outer s H vs Q E hr h => ?_)
  · obtain ⟨i, rfl, _⟩ := h
    rfl
  · obtain ⟨i, rfl, q⟩ := h
    refine ⟨_, (pss_one (ps_ret (pe_and (pe_callB (call_isi) (by rfl) B.isinstance_ bt_isinstance (pa_cons (pv 0) (pa_cons (pe_bltn (v := .ty "int") (by rfl) B.int_ bt_int rfl) pa_nil))) (pe_one (pe_not (pe_callB (call_isi) (by rfl) B.isinstance_ bt_isinstance (pa_cons (pv 0) (pa_cons (pe_bltn (v := .ty "bool") (by rfl) B.bool_ bt_bool rfl) pa_nil)))))))), ?_⟩
    refine ⟨_, rfl, _, _, _, _, true, rfl, .ty "int", .base (.int i), kit_ty kii, true, rfl, iteT ?_⟩
    exact ⟨_, rfl, _, _, _, _, false, rfl, .ty "bool", .base (.int i), kit_ty kib, false, rfl, q⟩
def spCheckInt : Sp := fun vs H Q _ => ∃ i : Int, vs = [.int i] ∧ Q .non H
end
end Lf
namespace Lf
open PySem PySem.Spec PyProof.Rows L2
section
variable {P : Program} {w : World} {K : PySem.W.Frag} {mg : Str → Option Value} {base : Heap}
abbrev s_gcd : Stmt := topS 7
abbrev N_gcd : List Str := ["first", "second"]
abbrev P_gcd : List Str := ["first", "second"]
theorem sc_gcd : FnScope N_gcd P_gcd (defScope s_gcd) := ⟨rfl, rfl, rfl, by decide +kernel, rfl, by decide +kernel, by decide +kernel⟩
theorem ok_gcd (D : Df K mg "gcd" s_gcd P_gcd) : C8.Cal P w K mg base 1 "gcd" spGcd [] := by
  refine cal_of D sc_gcd (fun vs H Q E h => ?_) (fun f cdv A outer s H vs Q E hr h => ?_)
  · obtain ⟨x, y, rfl, _⟩ := h
    rfl
  · obtain ⟨x, y, rfl, hx, hy, q⟩ := h
    refine ⟨_, (pss_cons (ps_while PassesOwn.never (pt_truth (pv 1) (fun _ => rfl))
      (pss_one (ps_par (i := 0) (j := 1) rfl sc_gcd.nd rfl rfl (by decide) rfl rfl (pa_cons (pv 1) (pa_cons (pe_op op_mod (pv 0) (pv 1)) pa_nil)) rfl)))
    (pss_one (ps_ret (pv 0)))), ?_⟩
    refine while_by (fun σ H' => ∃ u v : Int, σ = [some (.int u), some (.int v)] ∧ 0 ≤ u ∧ 0 ≤ v ∧ Int.gcd u v = Int.gcd x y ∧ H' = H) mu1 ⟨x, y, rfl, hx, hy, rfl, rfl⟩ ?_ ?_
    · rintro σ H' ⟨u, v, rfl, hu, hv, e, rfl⟩
      refine ⟨_, rfl, _, rfl, ite2 (fun c => ?_) (fun c => ?_)⟩
      · have hv0 : 0 < v := by
          have : v ≠ 0 := by simpa using c
          omega
        refine ⟨_, rfl, _, rfl, _, rfl, _, _, rfl, rfl, hv0, _, _, rfl, ⟨v, u % v, rfl, hv, Int.emod_nonneg _ (by omega), ?_, rfl⟩, ?_⟩
        · rw [gcd_turn u v hu hv0]; exact e
        · show (u % v).toNat < v.toNat
          have := Int.emod_lt_of_pos u hv0
          omega
      · have hv0 : v = 0 := by simpa using c
        subst hv0
        refine ⟨_, rfl, ?_⟩
        have e2 : (Int.gcd x y : Int) = u := by
          rw [← e, Int.gcd_zero_right]
          omega
        rw [← e2]
        exact q
    · rintro σ H' Q1 Q2 hQ ⟨v, h1, b, h4, h5⟩
      exact ⟨v, h1, b, h4, hQ _ _ h5⟩
/-! ### rules -/
def spIsRule : Sp := fun vs H Q _ => ∃ (r : Addr) (p q c : Int) (k : Nat), vs = [.ref r] ∧ H r = some (.tup [.int p, .int q, .int c]) ∧ RuleB k p q c ∧ ∀ H', Same H H' → Q (.bl true) H'
def spCheckRule : Sp := fun vs H Q _ => ∃ (r : Addr) (p q c : Int) (k : Nat), vs = [.ref r] ∧ H r = some (.tup [.int p, .int q, .int c]) ∧ RuleB k p q c ∧ ∀ H', Same H H' → Q .non H'
end
end Lf
namespace Lf
open PySem PySem.Spec PyProof.Rows L2
section
variable {P : Program} {w : World} {K : PySem.W.Frag} {mg : Str → Option Value} {base : Heap}
def spCheckAL : Sp := fun vs H Q _ => ∃ v l : Int, vs = [.int v, .int l] ∧ l ≤ v ∧ Q .non H
end
end Lf
namespace Lf
open PySem PySem.Spec PyProof.Rows L2
/-- repr of an int or of None -/
theorem repr_some {X : Cx} : CallR X (.builtin "repr") (fun xs H Q => (∃ i : Int, xs = [.int i] ∧ i.natAbs.log2 < 1920 ∧ Q (.str (toString i)) H) ∨ (xs = [.non] ∧ Q (.str "None") H)) := by
  intro pins s σ H xs us Q I rel h
  rcases h with h | ⟨rfl, hq⟩
  · exact SkE.call_repr_int pins s σ H xs us Q I rel h
  · obtain ⟨u, hu, ru⟩ := vals1 rel
    subst hu
    have eu : u = Value.none := ru
    subst eu
    exact PySem.P.repr_of_none ⟨.str "None", H, I.tok _, ⟨_, rfl⟩, hq⟩
theorem cut_take (xs : List V) (m : Int) (h : 0 ≤ m) : cutV xs none (some m) = xs.take m.toNat := by
  obtain ⟨n, rfl⟩ := Int.eq_ofNat_of_zero_le h
  unfold cutV
  rw [HT.sIx_none, show HT.sIx xs.length xs.length (some ((n : Nat) : Int)) = min n xs.length from HT.sIx_nat _ _ n, List.drop_zero, Nat.sub_zero]
  show xs.take (min n xs.length) = xs.take n
  by_cases hn : n ≤ xs.length
  · rw [Nat.min_eq_left hn]
  · rw [Nat.min_eq_right (by omega), List.take_of_length_le (Nat.le_refl _), List.take_of_length_le (by omega)]
theorem flat_ints (ns : List Int) : (ns.map V.int).all flatV = true := by
  induction ns with
  | nil => rfl
  | cons n r ih => simpa [flatV] using ih
theorem inV_ints (ns : List Int) (k : Int) : inV (V.int k) (ns.map V.int) = decide (k ∈ ns) := by
  induction ns with
  | nil => rfl
  | cons n r ih =>
    have ih' : ((r.map V.int).any fun y => eqV y (V.int k)) = decide (k ∈ r) := ih
    show (eqV (V.int n) (V.int k) || (r.map V.int).any fun y => eqV y (V.int k)) = decide (k ∈ n :: r)
    rw [ih']
    by_cases h : n = k
    · subst h
      simp [eqV]
    · have h' : ¬ k = n := fun z => h z.symm
      simp [eqV, h, h']
end Lf
namespace Lf
open PySem PySem.Spec PyProof.Rows L2
theorem obs_cut {α : Type} {O : α → HO} {H : Hp} {vs : List V} {ds : List α} (h : Obs O H vs ds) (lo hi : Option Int) : ∃ es, Obs O H (cutV vs lo hi) es ∧ (∀ d ∈ es, d ∈ ds) ∧ es.length ≤ ds.length := by
  unfold cutV
  generalize HT.sIx vs.length 0 lo = i
  generalize HT.sIx vs.length vs.length hi - i = j
  refine ⟨(ds.drop i).take j, (h.drop i).take j, fun d hd => List.mem_of_mem_drop (List.mem_of_mem_take hd), ?_⟩
  rw [List.length_take, List.length_drop]
  omega
theorem at_map {cs : List Int} {i : Nat} {x : V} (h : (cs.map V.int)[i]? = some x) : ∃ c, c ∈ cs ∧ x = .int c := by
  rw [List.getElem?_map] at h
  cases e : cs[i]? with
  | none =>
    rw [e] at h
    cases h
  | some c =>
    rw [e] at h
    cases h
    exact ⟨c, List.mem_of_getElem? e, rfl⟩
theorem in_words (b : Bool) : inV (.str (wd b)) [.str "at least", .str "at most"] = true := by
  cases b <;> decide +kernel
theorem kit_lt {K : PySem.W.Frag} : PySem.W.kitAny K (.type "list") [.type "list", .type "tuple"] = some true :=
  kitAny_cons (b := true) (kit_ty (by decide +kernel)) (fun z => by cases z) (fun _ => rfl)
def lph (p q : Int) (ds : List Rec) : List Int := (sel true 0 ds).map fun x => x.2.2 * q - p * x.2.1
def hph (p q : Int) (ds : List Rec) : List Int := (sel false 0 ds).map fun x => (x.2.2 + 1) * q - p * x.2.1 - 1
def okPh : Option Int → Option Int → Bool
  | some x, some y => decide (x ≤ y)
  | _, _ => true
theorem mx_uniq {l : List Int} {a b : Option Int} (h : IsMx l a) (h2 : IsMx l b) : a = b := by
  cases a with
  | none =>
    cases b with
    | none => rfl
    | some y =>
      have e : l = [] := h
      subst e
      cases h2.1
  | some x =>
    cases b with
    | none =>
      have e : l = [] := h2
      subst e
      cases h.1
    | some y =>
      have h1 := h.2 y h2.1
      have h3 := h2.2 x h.1
      rw [show x = y by omega]
theorem mn_uniq {l : List Int} {a b : Option Int} (h : IsMn l a) (h2 : IsMn l b) : a = b := by
  cases a with
  | none =>
    cases b with
    | none => rfl
    | some y =>
      have e : l = [] := h
      subst e
      cases h2.1
  | some x =>
    cases b with
    | none =>
      have e : l = [] := h2
      subst e
      cases h.1
    | some y =>
      have h1 := h.2 y h2.1
      have h3 := h2.2 x h.1
      rw [show x = y by omega]
def fitB (p q c : Int) (d : Rec) : Bool := if d.lo = true then decide (d.n ≤ (p * d.t + c) / q) else decide ((p * d.t + c) / q ≤ d.n)
structure Bc (mg : Str → Option Value) : Prop where
  most_ : ∃ t, mg "MOST_RECORDS" = some (.int 200 t)
section
variable {P : Program} {w : World} {K : PySem.W.Frag} {mg : Str → Option Value} {base : Heap}
/-! ### is_record, check_records -/
def spIsRec : Sp := fun vs H Q _ => ∃ (r : Addr) (d : Rec), vs = [.ref r] ∧ H r = some (rcO d) ∧ ∀ H', Same H H' → Q (.bl true) H'
abbrev s_is_record : Stmt := topS 11
abbrev N_is_record : List Str := ["value"]
abbrev P_is_record : List Str := ["value"]
theorem sc_is_record : FnScope N_is_record P_is_record (defScope s_is_record) := ⟨rfl, rfl, rfl, by decide +kernel, rfl, by decide +kernel, by decide +kernel⟩
theorem ok_is_record (D : Df K mg "is_record" s_is_record P_is_record) (B : Bi mg) (c_is_integer : C8.Cal P w K mg base 1 "is_integer" spIsInt []) : C8.Cal P w K mg base 2 "is_record" spIsRec [] := by
  refine cal_of D sc_is_record (fun vs H Q E h => ?_) (fun f cdv A outer s H vs Q E hr h => ?_)
  · obtain ⟨r, d, rfl, _⟩ := h
    rfl
  · obtain ⟨r, d, rfl, er, kk⟩ := h
    refine ⟨_, (pss_cons (ps_if (PW.pt (pw_or (pt_not (pt_val (pe_callB (call_isi) (by rfl) B.isinstance_ bt_isinstance (pa_cons (pv 0) (pa_cons (pe_bltn (v := .ty "tuple") (by rfl) B.tuple_ bt_tuple rfl) pa_nil))))) (pw_or1 (pt_cmpR op_ne (pe_callB (call_len_seq) (by rfl) B.len_ bt_len (pa_cons (pv 0) pa_nil)) pe_int (nomark _)))))
      (pss_one (ps_ret pe_bl))
      pss_nil)
    (pss_one (ps_ret (pe_and (pe_cmpR op_in_seq (pe_ix (r := rIxT K) ix_tup (pv 0) pe_int (fun _ _ => rfl)) (pe_tup (pa_cons pe_str (pa_cons pe_str pa_nil))) rfl) (pe_and (C8.pe_c c_is_integer hr (by decide) (by rfl) (pa_cons (pe_ix (r := rIxT K) ix_tup (pv 0) pe_int (fun _ _ => rfl)) pa_nil)) (pe_one (C8.pe_c c_is_integer hr (by decide) (by rfl) (pa_cons (pe_ix (r := rIxT K) ix_tup (pv 0) pe_int (fun _ _ => rfl)) pa_nil)))))))), ?_⟩
    refine ⟨_, rfl, _, _, _, _, true, rfl, .ty "tuple", .base (.tup er), kit_ty ktt, true, rfl, iteF ?_⟩
    refine ⟨_, rfl, r, _, rfl, .inr (SqT.of er), rfl, _, rfl, iteNS rfl ?_⟩
    refine ⟨_, rfl, r, _, _, _, rfl, rfl, SqT.of er, atI_nat (j := 0) rfl, len10 (by simp), fun p np => ?_⟩
    have er1 := sm_upd (o := .tup [.str "at least", .str "at most"]) np _ _ er
    refine ⟨p, _, rfl, .inr (SqT.of upd_same), rfl, rfl, _, rfl, iteTs (in_words d.lo) ?_⟩
    refine ⟨_, rfl, r, _, _, _, rfl, rfl, SqT.of er1, atI_nat (j := 1) rfl, d.t, rfl, true, rfl, iteT ?_⟩
    refine ⟨_, rfl, r, _, _, _, rfl, rfl, SqT.of er1, atI_nat (j := 2) rfl, d.n, rfl, ?_⟩
    exact kk _ (sm_upd np)
def spCkRec : Sp := fun vs H Q _ => ∃ (L : Addr) (xs : List V) (ds : List Rec), vs = [.ref L] ∧ H L = some (.lst xs) ∧ Obs rcO H xs ds ∧ ds.length ≤ 200 ∧ ∀ H', Same H H' → Q .non H'
/-! ### split_records -/
def spSplit : Sp := fun vs H Q _ => ∃ (L : Addr) (xs : List V) (ds : List Rec), vs = [.ref L] ∧ H L = some (.lst xs) ∧ Obs rcO H xs ds ∧ ds.length ≤ 1000 ∧
  ∀ T H' A B as bs, Same H H' → H' T = some (.tup [.ref A, .ref B]) → H' A = some (.lst as) → Obs trO H' as (sel true 0 ds) → H' B = some (.lst bs) → Obs trO H' bs (sel false 0 ds) → Q (.ref T) H'
abbrev s_split_records : Stmt := topS 13
abbrev N_split_records : List Str := ["records", "lows", "highs", "i", "word", "t", "n", "j", "u", "m"]
abbrev P_split_records : List Str := ["records"]
theorem sc_split_records : FnScope N_split_records P_split_records (defScope s_split_records) := ⟨rfl, rfl, rfl, by decide +kernel, rfl, by decide +kernel, by decide +kernel⟩
theorem ok_split_records (D : Df K mg "split_records" s_split_records P_split_records) (B : Bi mg) : C8.Cal P w K mg base 1 "split_records" spSplit [] := by
  refine cal_of D sc_split_records (fun vs H Q E h => ?_) (fun f cdv A outer s H vs Q E hr h => ?_)
  · obtain ⟨L, xs, ds, rfl, _⟩ := h
    rfl
  · obtain ⟨L, xs, ds, rfl, eL, hO, hl, kk⟩ := h
    refine ⟨_, (pss_cons (ps_setLc (i := 1) (own := [("i", 3), ("word", 4), ("t", 5), ("n", 6)]) (g := (gTup K 2 (gCons (gName 3) (gCons (gTup K 3 (gCons (gName 4) (gCons (gName 5) (gCons (gName 6) gNil)))) gNil)))) (by rfl) sc_split_records.nd rfl rfl (sw_true rfl rfl rfl (by decide +kernel)) (pi_enum (by rfl) B.enumerate_ (pa_cons (pv 0) pa_nil)) (blkOk_by (own := [("i", 3), ("word", 4), ("t", 5), ("n", 6)]) (N := N_split_records) (sc := defScope s_split_records) (by decide +kernel)) (fun _ _ _ _ _ => (pg_tup rfl (pgs_cons (pg_name (i := 3) sc_split_records.nd rfl (Or.inl rfl)) (pgs_cons (pg_tup rfl (pgs_cons (pg_name (i := 4) sc_split_records.nd rfl (Or.inl rfl)) (pgs_cons (pg_name (i := 5) sc_split_records.nd rfl (Or.inl rfl)) (pgs_cons (pg_name (i := 6) sc_split_records.nd rfl (Or.inl rfl)) pgs_nil)))) pgs_nil)))) (fun _ _ _ _ _ => (pts_one (pt_cmpR op_eq (pv 4) pe_str (nomark _)))) (fun _ _ _ _ _ => (pe_tup (pa_cons (pv 3) (pa_cons (pv 5) (pa_cons (pv 6) pa_nil))))))
    (pss_cons (ps_setLc (i := 2) (own := [("j", 7), ("word", 4), ("u", 8), ("m", 9)]) (g := (gTup K 2 (gCons (gName 7) (gCons (gTup K 3 (gCons (gName 4) (gCons (gName 8) (gCons (gName 9) gNil)))) gNil)))) (by rfl) sc_split_records.nd rfl rfl (sw_true rfl rfl rfl (by decide +kernel)) (pi_enum (by rfl) B.enumerate_ (pa_cons (pv 0) pa_nil)) (blkOk_by (own := [("j", 7), ("word", 4), ("u", 8), ("m", 9)]) (N := N_split_records) (sc := defScope s_split_records) (by decide +kernel)) (fun _ _ _ _ _ => (pg_tup rfl (pgs_cons (pg_name (i := 7) sc_split_records.nd rfl (Or.inl rfl)) (pgs_cons (pg_tup rfl (pgs_cons (pg_name (i := 4) sc_split_records.nd rfl (Or.inl rfl)) (pgs_cons (pg_name (i := 8) sc_split_records.nd rfl (Or.inl rfl)) (pgs_cons (pg_name (i := 9) sc_split_records.nd rfl (Or.inl rfl)) pgs_nil)))) pgs_nil)))) (fun _ _ _ _ _ => (pts_one (pt_cmpR op_eq (pv 4) pe_str (nomark _)))) (fun _ _ _ _ _ => (pe_tup (pa_cons (pv 7) (pa_cons (pv 8) (pa_cons (pv 9) pa_nil))))))
    (pss_one (ps_ret (pe_tup (pa_cons (pv 1) (pa_cons (pv 2) pa_nil))))))), ?_⟩
    refine ⟨_, rfl, L, _, rfl, SqL.of eL, fun A nA => ?_⟩
    refine lc_it (walk_enum (K := K) (a := L) (xs := xs)) (fun i H' => ∃ as, H' A = some (.lst as) ∧ Obs trO H' as (sel true 0 (ds.take i)) ∧ Same H H') ⟨_, upd_same, .nil, sm_upd nA⟩ ?_ ?_ ?_
    · rintro i H1 _ ⟨_, _, _, s1⟩
      exact SqL.of (s1 _ _ eL)
    · rintro i v H1 H2 hi ⟨as, eA, oA, s1⟩ ⟨T, x, y, rfl, nT, rfl, hx, hy⟩
      cases hx
      obtain ⟨r, d, rfl, er, hd⟩ := hO.at hy
      have z := sm_upd (o := .tup [.int (i : Nat), .ref r]) nT
      have s2 := s1.trans z
      have al : as.length < sizeLine := by
        have h1 := oA.len
        have h2 := sel_len true 0 (ds.take i)
        rw [List.length_take] at h2
        exact small1000 (by omega)
      refine ⟨T, _, rfl, SqT.of upd_same, rfl, _, _, rfl, _, _, rfl, r, _, rfl, SqT.of (s2 _ _ er), rfl, _, _, rfl, _, _, rfl, _, _, rfl, rfl, rfl, ?_⟩
      refine ⟨rfl, _, rfl, rfl, _, rfl, ?_⟩
      rw [w_lo]
      cases hb : d.lo with
      | true =>
        refine iteT ⟨_, rfl, _, rfl, _, rfl, len10 (by simp), fun t nt => ?_⟩
        have z2 := sm_upd (o := .tup [.int (i : Nat), .int d.t, .int d.n]) nt
        have nA2 : t ≠ A := (ne_of_none (z _ _ eA) nt).symm
        refine ⟨as, z2 _ _ (z _ _ eA), al, _, upd_same, ?_, ?_⟩
        · rw [sel_take hd, if_pos hb]
          refine Obs.snoc (Obs.keep ((oA.same z).same z2) fun b d' e => ?_) ?_
          · rw [upd_ne (ne_of e (z2 _ _ (z _ _ eA)) (by intro q; cases q))]
            exact e
          · rw [upd_ne nA2]
            exact upd_same
        · intro b o e
          rw [upd_ne (ne_of_none e nA)]
          exact z2 _ _ (s2 _ _ e)
      | false =>
        refine iteF ⟨as, z _ _ eA, ?_, s2⟩
        rw [sel_take hd, if_neg (by rw [hb]; exact Bool.false_ne_true), List.append_nil]
        exact oA.same z
    rintro H1 ⟨as, eA, oA, s1⟩
    rw [List.take_of_length_le (by rw [hO.len]; exact Nat.le_refl _)] at oA
    refine ⟨_, rfl, L, _, rfl, SqL.of (s1 _ _ eL), fun B2 nB => ?_⟩
    refine lc_it (walk_enum (K := K) (a := L) (xs := xs)) (fun i H' => ∃ bs, H' B2 = some (.lst bs) ∧ Obs trO H' bs (sel false 0 (ds.take i)) ∧ Same H1 H') ⟨_, upd_same, .nil, sm_upd nB⟩ ?_ ?_ ?_
    · rintro i H2 _ ⟨_, _, _, s2⟩
      exact SqL.of (s2 _ _ (s1 _ _ eL))
    · rintro i v H2 H3 hi ⟨bs, eB, oB, s2⟩ ⟨T, x, y, rfl, nT, rfl, hx, hy⟩
      cases hx
      obtain ⟨r, d, rfl, er, hd⟩ := hO.at hy
      have z := sm_upd (o := .tup [.int (i : Nat), .ref r]) nT
      have s3 := s2.trans z
      have al : bs.length < sizeLine := by
        have h1 := oB.len
        have h2 := sel_len false 0 (ds.take i)
        rw [List.length_take] at h2
        exact small1000 (by omega)
      refine ⟨T, _, rfl, SqT.of upd_same, rfl, _, _, rfl, _, _, rfl, r, _, rfl, SqT.of (s3 _ _ (s1 _ _ er)), rfl, _, _, rfl, _, _, rfl, _, _, rfl, rfl, rfl, ?_⟩
      refine ⟨rfl, _, rfl, rfl, _, rfl, ?_⟩
      rw [w_hi]
      cases hb : d.lo with
      | false =>
        refine iteT ⟨_, rfl, _, rfl, _, rfl, len10 (by simp), fun t nt => ?_⟩
        have z2 := sm_upd (o := .tup [.int (i : Nat), .int d.t, .int d.n]) nt
        have nB2 : t ≠ B2 := (ne_of_none (z _ _ eB) nt).symm
        refine ⟨bs, z2 _ _ (z _ _ eB), al, _, upd_same, ?_, ?_⟩
        · rw [sel_take hd, if_pos hb]
          refine Obs.snoc (Obs.keep ((oB.same z).same z2) fun b d' e => ?_) ?_
          · rw [upd_ne (ne_of e (z2 _ _ (z _ _ eB)) (by intro q; cases q))]
            exact e
          · rw [upd_ne nB2]
            exact upd_same
        · intro b o e
          rw [upd_ne (ne_of_none e nB)]
          exact z2 _ _ (s3 _ _ e)
      | true =>
        refine iteF ⟨bs, z _ _ eB, ?_, s3⟩
        rw [sel_take hd, if_neg (by rw [hb]; exact fun q => Bool.false_ne_true q.symm), List.append_nil]
        exact oB.same z
    rintro H2 ⟨bs, eB, oB, s2⟩
    rw [List.take_of_length_le (by rw [hO.len]; exact Nat.le_refl _)] at oB
    refine ⟨_, rfl, _, rfl, len10 (by simp), fun T nT => ?_⟩
    have z := sm_upd (o := .tup [.ref A, .ref B2]) nT
    exact kk T _ A B2 as bs ((s1.trans s2).trans z) upd_same (z _ _ (s2 _ _ eA)) ((oA.same s2).same z) (z _ _ eB) (oB.same z)
end
end Lf
namespace Lf
open PySem PySem.Spec PyProof.Rows L2
/-! ### checks of integers: any value -/
def atLeast (l : Int) : PyData → Bool
  | .int i => decide (l ≤ i)
  | _ => false
theorem isI_b {d : PyData} (h : isI d = true) : isIB d = true ∧ isB d = false := by
  cases d <;> first | exact ⟨rfl, rfl⟩ | cases h
section
variable {P : Program} {w : World} {K : PySem.W.Frag} {mg : Str → Option Value} {base : Heap} {C : Addr}
def spIsAny : Sp := fun vs H Q _ => ∃ (v : V) (d : PyData), vs = [v] ∧ Dv H v d ∧ Q (.bl (isI d)) H
theorem okA_is_integer (D : Df K mg "is_integer" s_is_integer P_is_integer) (B : Bi mg) : C8.Cal P w K mg base 1 "is_integer" spIsAny [] := by
  refine cal_of D sc_is_integer (fun vs H Q E h => ?_) (fun f cdv A outer s H vs Q E hr h => ?_)
  · obtain ⟨v, d, rfl, _⟩ := h
    rfl
  · obtain ⟨v, d, rfl, dv, q⟩ := h
    refine ⟨_, (pss_one (ps_ret (pe_and (pe_callB (call_isi) (by rfl) B.isinstance_ bt_isinstance (pa_cons (pv 0) (pa_cons (pe_bltn (v := .ty "int") (by rfl) B.int_ bt_int rfl) pa_nil))) (pe_one (pe_not (pe_callB (call_isi) (by rfl) B.isinstance_ bt_isinstance (pa_cons (pv 0) (pa_cons (pe_bltn (v := .ty "bool") (by rfl) B.bool_ bt_bool rfl) pa_nil)))))))), ?_⟩
    refine ⟨_, rfl, _, _, _, _, isIB d, rfl, .ty "int", dv.ty, kit_ty (kit_int d), isIB d, rfl, ?_⟩
    by_cases hb : isIB d = true
    · rw [if_pos hb]
      refine ⟨_, rfl, _, _, _, _, isB d, rfl, .ty "bool", dv.ty, kit_ty (kit_bool d), isB d, rfl, ?_⟩
      have e : (!isB d) = isI d := by
        cases d <;> first | rfl | cases hb
      rw [e]
      exact q
    · rw [if_neg hb]
      have e : isI d = false := by
        cases d <;> first | rfl | exact absurd rfl hb
      rw [e] at q
      exact q
/-- InvalidNumber, with the value -/
def Out (C : Addr) (v : V) (H : Hp) (E : XK) : Prop := ∀ dd, H dd = none → E (.ref C) (some dd) (upd H dd (.xd [("value", v)]))
def spCkI (C : Addr) : Sp := fun vs H Q E => ∃ (v : V) (d : PyData), vs = [v] ∧ Dv H v d ∧ (isI d = true → Q .non H) ∧ (isI d = false → Out C v H E)
def spCkL (C : Addr) : Sp := fun vs H Q E => ∃ (v : V) (d : PyData) (l : Int), vs = [v, .int l] ∧ Dv H v d ∧ (atLeast l d = true → Q .non H) ∧ (atLeast l d = false → Out C v H E)
end
end Lf
namespace Lf
open PySem PySem.Spec PyProof.Rows L2
/-! ### records: any value -/
/-- x in a tuple whose items are data of any depth -/
def rInDT (K : PySem.W.Frag) : R2 := fun x y H Q => ∃ d ds, Dp K H x d ∧ Dp K H y (.tuple ds) ∧ SeqAt.shaped d = true ∧ SeqAt.shaped (.tuple ds) = true ∧ Q (.bl (ds.any fun z => PyData.eqv z d)) H
theorem op_inDT {X : Cx} (hu : X.A.units + 65 < cLine) : OpR X (compareOp .In) (rInDT X.K) := by
  intro pins s σ H x y v u Q I rx ry h
  obtain ⟨d, ds, hd, he, sd, se, q⟩ := h
  obtain ⟨as, r1⟩ := Dp.reads I d x v hd rx
  obtain ⟨bs, r2⟩ := Dp.reads I (.tuple ds) y u he ry
  exact SeqAt.in_tuple_reads r2 r1 (SeqAt.canLay_of_shaped se) (SeqAt.canLay_of_shaped sd) (room_in_shaped sd hu) ⟨.bl _, H, I, rfl, q⟩
mutual
theorem Dv.dp {K : PySem.W.Frag} {H : Hp} : ∀ (d : PyData) (v : V), Dv H v d → d.hasDict = false → Dp K H v d
  | .none, _, .non, _ => .non
  | .bool _, _, .bl b, _ => .bl b
  | .int _, _, .int i, _ => .int i
  | .str _, _, .str x, _ => .str x
  | .list ds, _, .lst _ h hs, n => .lst (SqL.of h) (Dv.dpAll ds _ hs (by simpa [PyData.hasDict] using n))
  | .tuple ds, _, .tup h hs, n => .tup (SqT.of h) (Dv.dpAll ds _ hs (by simpa [PyData.hasDict] using n))
  | .dict [], _, .dk0 h, n => by simp [PyData.hasDict] at n
  | .dict [(.str _, d)], _, .dk1 h h2, n => by simp [PyData.hasDict] at n
theorem Dv.dpAll {K : PySem.W.Frag} {H : Hp} : ∀ (ds : List PyData) (vs : List V), DvAll H vs ds → PyData.hasDictAll ds = false → DpAll K H vs ds
  | [], _, .nil, _ => .nil
  | d :: ds, _, .cons h hs, n => by
    have n : d.hasDict = false ∧ PyData.hasDictAll ds = false := by simpa [PyData.hasDictAll] using n
    exact .cons (Dv.dp d _ h n.1) (Dv.dpAll ds _ hs n.2)
end
def words : List PyData := [.str "at least", .str "at most"]
def recB : PyData → Bool
  | .tuple [d0, d1, d2] => words.any (fun z => PyData.eqv z d0) && (isI d1 && isI d2)
  | _ => false
/-- its first part may be looked for -/
def rgB : PyData → Bool
  | .tuple [d0, _, _] => !d0.hasDict && SeqAt.shaped d0
  | _ => true
theorem rec_three {ds : List PyData} (h : ds.length ≠ 3) : recB (.tuple ds) = false := by
  match ds, h with
  | [], _ => rfl
  | [_], _ => rfl
  | [_, _], _ => rfl
  | [_, _, _], h => exact absurd rfl h
  | _ :: _ :: _ :: _ :: _, _ => rfl
theorem len_ne3 {n : Nat} (h : n ≠ 3) : (!decide (V.int (n : Int) = V.int 3)) = true := by
  have : ¬ V.int (n : Int) = V.int 3 := fun z => h (by
    have := V.int.inj z
    omega)
  rw [decide_eq_false this]
  rfl
def isT' : PyData → Bool
  | .tuple _ => true
  | _ => false
theorem kit_tup' (d : PyData) : kitB (tyN d) "tuple" = some (isT' d) := by
  cases d
  · show kitB "NoneType" "tuple" = some false; decide +kernel
  · show kitB "bool" "tuple" = some false; decide +kernel
  · show kitB "int" "tuple" = some false; decide +kernel
  · show kitB "str" "tuple" = some false; decide +kernel
  · show kitB "list" "tuple" = some false; decide +kernel
  · show kitB "tuple" "tuple" = some true; decide +kernel
  · show kitB "dict" "tuple" = some false; decide +kernel
theorem dva_length {H : Hp} {vs : List V} {ds : List PyData} (h : DvAll H vs ds) : vs.length = ds.length := by
  induction ds generalizing vs with
  | nil =>
    cases h
    rfl
  | cons d ds ih =>
    cases h with
    | cons _ h2 => rw [List.length_cons, List.length_cons, ih h2]
/-- the exception, with what it keeps -/
def OutY (C : Addr) (x : Str) (v : V) (H : Hp) (E : XK) : Prop := ∀ dd, H dd = none → E (.ref C) (some dd) (upd H dd (.xd [(x, v)]))
def opp (d : Rec) : Rec := ⟨!d.lo, d.t, if d.lo = true then d.n - 1 else d.n + 1⟩
section
variable {P : Program} {w : World} {K : PySem.W.Frag} {mg : Str → Option Value} {base : Heap} {C : Addr}
def spIsRecD : Sp := fun vs H Q _ => ∃ (v : V) (d : PyData), vs = [v] ∧ Dv H v d ∧ rgB d = true ∧ ∀ H', Same H H' → Q (.bl (recB d)) H'
theorem okA_is_record (D : Df K mg "is_record" s_is_record P_is_record) (B : Bi mg) (cA_is_integer : C8.Cal P w K mg base 1 "is_integer" spIsAny []) : C8.Cal P w K mg base 2 "is_record" spIsRecD [] := by
  refine cal_of D sc_is_record (fun vs H Q E h => ?_) (fun f cdv A outer s H vs Q E hr h => ?_)
  · obtain ⟨v, d, rfl, _⟩ := h
    rfl
  · obtain ⟨v, d, rfl, dv, rg, kk⟩ := h
    have c_is_integer := cA_is_integer
    have hu : (A.deeper (envOfC "is_record" (defScope s_is_record) s.heap.objs.size f cdv)).units + 65 < cLine := by
      have := hr.un
      omega
    refine ⟨_, (pss_cons (ps_if (PW.pt (pw_or (pt_not (pt_val (pe_callB (call_isi) (by rfl) B.isinstance_ bt_isinstance (pa_cons (pv 0) (pa_cons (pe_bltn (v := .ty "tuple") (by rfl) B.tuple_ bt_tuple rfl) pa_nil))))) (pw_or1 (pt_cmpR op_ne (pe_callB (call_len_seq) (by rfl) B.len_ bt_len (pa_cons (pv 0) pa_nil)) pe_int (nomark _)))))
      (pss_one (ps_ret pe_bl))
      pss_nil)
    (pss_one (ps_ret (pe_and (pe_cmpR (op_inDT hu) (pe_ix (r := rIxT K) ix_tup (pv 0) pe_int (fun _ _ => rfl)) (pe_tup (pa_cons pe_str (pa_cons pe_str pa_nil))) rfl) (pe_and (C8.pe_c c_is_integer hr (by decide) (by rfl) (pa_cons (pe_ix (r := rIxT K) ix_tup (pv 0) pe_int (fun _ _ => rfl)) pa_nil)) (pe_one (C8.pe_c c_is_integer hr (by decide) (by rfl) (pa_cons (pe_ix (r := rIxT K) ix_tup (pv 0) pe_int (fun _ _ => rfl)) pa_nil)))))))), ?_⟩
    refine ⟨_, rfl, _, _, _, _, isT' d, rfl, .ty "tuple", dv.ty, kit_ty (kit_tup' d), isT' d, rfl, ?_⟩
    cases ht : isT' d with
    | false =>
      have e : recB d = false := by
        cases d <;> first | rfl | cases ht
      rw [e] at kk
      exact iteT (iteT (kk _ (Same.refl _)))
    | true =>
      cases dv with
      | tup er hs =>
        rename_i r xs ds
        refine iteF ⟨_, rfl, r, _, rfl, .inr (SqT.of er), rfl, _, rfl, ?_⟩
        have hl := dva_length hs
        by_cases h3 : xs.length = 3
        · match xs, ds, hs, h3, hl with
          | [v0, v1, v2], [d0, d1, d2], hs, _, _ =>
            cases hs with
            | cons g0 hs =>
              cases hs with
              | cons g1 hs =>
                cases hs with
                | cons g2 hs =>
                  have rg : (!d0.hasDict && SeqAt.shaped d0) = true := rg
                  rw [Bool.and_eq_true] at rg
                  have nd : d0.hasDict = false := by
                    have := rg.1
                    cases h : d0.hasDict with
                    | false => rfl
                    | true =>
                      rw [h] at this
                      cases this
                  refine iteNS rfl ?_
                  refine ⟨_, rfl, r, _, _, _, rfl, rfl, SqT.of er, atI_nat (j := 0) rfl, len10 (by simp), fun p np => ?_⟩
                  have z := sm_upd (o := .tup [.str "at least", .str "at most"]) np
                  have er1 := z _ _ er
                  have kz := (Fr.same z).kp
                  refine ⟨d0, words, Dv.dp d0 _ (Dv.kp kz _ _ g0) nd, Dp.tup (SqT.of upd_same) (.cons (.str _) (.cons (.str _) .nil)), rg.2, by decide +kernel, _, rfl, ?_⟩
                  have kk : ∀ H', Same H H' → Q (.bl (words.any (fun z => PyData.eqv z d0) && (isI d1 && isI d2))) H' := kk
                  cases c0 : words.any (fun z => PyData.eqv z d0) with
                  | false =>
                    rw [c0] at kk
                    exact iteF (kk _ z)
                  | true =>
                    rw [c0] at kk
                    refine iteT ⟨_, rfl, r, _, _, _, rfl, rfl, SqT.of er1, atI_nat (j := 1) rfl, v1, d1, rfl, Dv.kp kz _ _ g1, isI d1, rfl, ?_⟩
                    cases c1 : isI d1 with
                    | false =>
                      rw [c1] at kk
                      exact iteF (kk _ z)
                    | true =>
                      rw [c1] at kk
                      refine iteT ⟨_, rfl, r, _, _, _, rfl, rfl, SqT.of er1, atI_nat (j := 2) rfl, v2, d2, rfl, Dv.kp kz _ _ g2, ?_⟩
                      exact kk _ z
        · rw [rec_three (by omega)] at kk
          exact iteTs (len_ne3 h3) (kk _ (Same.refl _))
      | _ => cases ht
/-! ### opposite -/
def spOpp : Sp := fun vs H Q _ => ∃ (r : Addr) (d : Rec), vs = [.ref r] ∧ H r = some (rcO d) ∧ ∀ e H', Same H H' → H' e = some (rcO (opp d)) → Q (.ref e) H'
def spOppX (C : Addr) : Sp := fun vs H _ E => ∃ (v : V) (d : PyData), vs = [v] ∧ Dv H v d ∧ rgB d = true ∧ recB d = false ∧ ∀ H', Same H H' → OutY C "index" (.int 0) H' E
end
/-- n.x of an exception that a name keeps -/
theorem pe_xk {Y : Cx} {a C : Addr} {oe : Obj} {cls : Value} {d : Option Addr} {e : Expr} {te : TE} {pos : Pos} {n : Str} (T : XfC Y.K C) (hno : PySem.W.findIn Y.K (.ref C) n = some none)
    (hz : Zc cls d oe) (hf : ∃ vs, oe.data = .fields vs) (hin : (a, oe) ∈ Y.pn) (he : PE Y e te) (hb : attributeBase e n Y.env (eval e Y.env) = eval e Y.env := by rfl) : PE Y (.Attribute e n pos) (tXf a cls d C n te) := by
  constructor
  intro pins s σ H Q I h
  refine attr_of hb (thn (he.run pins s σ H _ I h) fun u s1 hh => ?_)
  obtain ⟨x, H1, J1, rx, ex, ec, dd, fs, v, ed, ea, l, q⟩ := hh
  subst ex ec ed
  obtain rfl : u = Value.ref a := rx
  obtain ⟨there, _⟩ := J1.pin (a, oe) (List.mem_append_left _ hin)
  obtain ⟨vs, hd⟩ := hf
  obtain ⟨mA, hns, hr⟩ := (show ObjOk Y.prog Y.w H1 s1.heap dd (.xd fs) from J1.hok dd _ ea)
  obtain ⟨od, ho, hl⟩ := lookIn_ns hns
  obtain ⟨u, hu, ru⟩ := RelO.some_of (v := v) (o := mA n) (by rw [← l]; exact hr n)
  have inst : PySem.W.InstAt s1.heap a oe C (some od) := ⟨there, hz.1, by unfold PySem.W.notCls; rw [hd] <;> rfl, by rw [hz.2]; exact ho⟩
  have found := PySem.W.findObj_own T.hdC hno rfl (by rw [hl, hu])
  exact HandSPX.exc_get J1.kIn inst T.ga T.gg T.exC found (handed_of ru) ⟨v, H1, J1.tok _, ru, q⟩
end Lf
namespace Lf
open PySem PySem.Spec PyProof.Rows L2
/-! ### rules: any value -/
def ruleD : PyData → Bool
  | .tuple [.int p, .int q, .int _] => decide (0 ≤ p) && (decide (1 ≤ q) && decide (V.int (Int.gcd p q : Int) = V.int 1))
  | _ => false
theorem rule_three {ds : List PyData} (h : ds.length ≠ 3) : ruleD (.tuple ds) = false := by
  unfold ruleD
  split
  · rename_i p q c e
    cases e
    exact absurd rfl h
  · rfl
theorem rule_i {d0 d1 d2 : PyData} (h : ([isI d0, isI d1, isI d2].all fun b => b) = false) : ruleD (.tuple [d0, d1, d2]) = false := by
  unfold ruleD
  split
  · rename_i p q c e
    cases e
    cases h
  · rfl
theorem isI_inv3 {H : Hp} {v : V} {d : PyData} (h : Dv H v d) (hi : isI d = true) : ∃ z, v = .int z ∧ d = .int z := by
  cases h with
  | int z => exact ⟨z, rfl, rfl⟩
  | _ => cases hi
section
variable {P : Program} {w : World} {K : PySem.W.Frag} {mg : Str → Option Value} {base : Heap} {C CV : Addr}
def spIsRuleD : Sp := fun vs H Q _ => ∃ (v : V) (d : PyData), vs = [v] ∧ Dv H v d ∧ ∀ H', Same H H' → Q (.bl (ruleD d)) H'
/-- the exception, with the value -/
def OutX3 (C : Addr) (x : Str) (v : V) (H : Hp) (E : XK) : Prop := ∀ dd, H dd = none → E (.ref C) (some dd) (upd H dd (.xd [(x, v)]))
def spCkRuleX (C : Addr) : Sp := fun vs H Q E => ∃ (v : V) (d : PyData), vs = [v] ∧ Dv H v d ∧ (∀ H', Same H H' → ruleD d = true → Q .non H') ∧ ∀ H', Same H H' → ruleD d = false → OutX3 C "value" v H' E
end
end Lf
namespace Lf
open PySem PySem.Spec PyProof.Rows L2
def Odp (Pd : PyData → Prop) (H : Hp) (x : V) : Prop := ∃ d, Dv H x d ∧ Pd d
def OdpL (Pd : PyData → Prop) (H : Hp) (xs : List V) : Prop := ∀ x ∈ xs, Odp Pd H x
section
variable {Pd : PyData → Prop} {H H' : Hp} {xs ys : List V}
theorem OdpL.kp (h : OdpL Pd H xs) (f : Kp H H') : OdpL Pd H' xs := fun x hx => by
  obtain ⟨d, h1, h2⟩ := h x hx
  exact ⟨d, Dv.kp f _ _ h1, h2⟩
theorem OdpL.same (h : OdpL Pd H xs) (s : Same H H') : OdpL Pd H' xs := h.kp (Fr.same s).kp
theorem OdpL.snoc {x : V} (h : OdpL Pd H xs) (o : Odp Pd H x) : OdpL Pd H (xs ++ [x]) := fun y hy => by
  rcases List.mem_append.mp hy with hy | hy
  · exact h y hy
  · rw [List.mem_singleton.mp hy]
    exact o
theorem OdpL.app (h : OdpL Pd H xs) (h2 : OdpL Pd H ys) : OdpL Pd H (xs ++ ys) := fun y hy => (List.mem_append.mp hy).elim (h y) (h2 y)
theorem OdpL.nil : OdpL Pd H [] := fun _ z => (nomatch z)
end
def Pd37 (d : PyData) : Prop := rgB d = true ∧ recB d = false
theorem odd_by {d : PyData} (h : (rgB d && !recB d) = true) : Pd37 d := by
  rw [Bool.and_eq_true] at h
  refine ⟨h.1, ?_⟩
  cases e : recB d with
  | false => rfl
  | true =>
    rw [e] at h
    cases h.2
theorem rec_i {d0 d1 d2 : PyData} (h : isI d1 = false ∨ isI d2 = false) : recB (.tuple [d0, d1, d2]) = false := by
  show (words.any (fun z => PyData.eqv z d0) && (isI d1 && isI d2)) = false
  rcases h with h | h <;> rw [h] <;> simp
theorem rec_s {x : Str} {t n : Int} (h : (words.any fun z => PyData.eqv z (.str x)) = false) : recB (.tuple [.str x, .int t, .int n]) = false := by
  show (words.any (fun z => PyData.eqv z (.str x)) && (isI (.int t) && isI (.int n))) = false
  rw [h]
  rfl
theorem rg_w (b : Bool) {d1 d2 : PyData} : rgB (.tuple [.str (wd b), d1, d2]) = true := by
  show (!PyData.hasDict (.str (wd b)) && SeqAt.shaped (.str (wd b))) = true
  cases b <;> decide +kernel
theorem rg_lw (b : Bool) {d1 d2 : PyData} : rgB (.tuple [.list [.str (wd b)], d1, d2]) = true := by
  show (!PyData.hasDict (.list [.str (wd b)]) && SeqAt.shaped (.list [.str (wd b)])) = true
  cases b <;> decide +kernel
theorem mergeK1 {x : Str} {v : V} : mergeK [] [(Sum.inr x, v)] = [(Sum.inr x, v)] := by
  simp [mergeK, putK]
end Lf
namespace Lf
open PySem PySem.Spec PyProof.Rows L2
def rcD (d : Rec) : PyData := .tuple [.str (wd d.lo), .int d.t, .int d.n]
theorem dp_rec {K : PySem.W.Frag} {H : Hp} {r : Addr} {d : Rec} (e : H r = some (rcO d)) : Dp K H (.ref r) (rcD d) := Dp.tup (SqT.of e) (.cons (.str _) (.cons (.int _) (.cons (.int _) .nil)))
theorem dp_recs {K : PySem.W.Frag} {H : Hp} {xs : List V} {ds : List Rec} (h : Obs rcO H xs ds) : DpAll K H xs (ds.map rcD) := by
  induction h with
  | nil => exact .nil
  | cons e _ ih => exact .cons (dp_rec e) ih
theorem sh_recs (ds : List Rec) : SeqAt.shaped (.list (ds.map rcD)) = true := by
  have h : ∀ ds : List Rec, PyData.canLayAll0 (ds.map rcD) = true ∧ PyData.depthAll (ds.map rcD) ≤ 1 := by
    intro cs
    induction cs with
    | nil => exact ⟨rfl, by decide⟩
    | cons c r ih =>
      refine ⟨?_, ?_⟩
      · have hw : PyData.strOk (wd c.lo) = true := by
          cases c.lo <;> decide +kernel
        simpa [PyData.canLayAll0, PyData.canLay0, rcD, hw] using ih.1
      · have := ih.2
        simp only [List.map_cons, PyData.depthAll, rcD, PyData.depth]
        omega
  have h2 : (PyData.list (ds.map rcD)).depth ≤ 64 := by
    have := (h ds).2
    simp only [PyData.depth]
    omega
  show (PyData.canLay0 _ && decide _) = true
  rw [Bool.and_eq_true]
  exact ⟨by simpa [PyData.canLay0] using (h ds).1, decide_eq_true h2⟩
end Lf
namespace Lf
open PySem PySem.Spec PyProof.Rows L2
/-! ### tables of code objects, kept -/
theorem tabs_fr {T : List (Addr × Str)} {H H' : Hp} (t : LamX.Tabs T H) (f : Fr H H') : LamX.Tabs T H' := fun p hp => by
  obtain ⟨ps, h1, h2, h3⟩ := t p hp
  refine ⟨ps, f.k _ _ h1 (fun _ z => by cases z), h2, fun pos cv hc => ?_⟩
  obtain ⟨c, e1, e2⟩ := h3 pos cv hc
  exact ⟨c, e1, f.k _ _ e2 fun _ z => by unfold LamX.CodeO at z; cases z⟩
theorem tabs_same {T : List (Addr × Str)} {H H' : Hp} (t : LamX.Tabs T H) (s : Same H H') : LamX.Tabs T H' := tabs_fr t (Fr.same s)
theorem Pen.extN {H H' : Hp} {a : PA} {n : Nat} (p : Pen H a n) (e : LamX.ExtN H H') : Pen H' a n := by
  obtain ⟨cs, t, r, h1, h2, h3⟩ := p.ex
  exact ⟨cs, t, r, e _ _ h1 (fun _ z => by cases z), e _ _ h2 (fun _ z => by cases z), h3⟩
theorem tup_extN {H H' : Hp} {b : Addr} {xs : List V} (e : LamX.ExtN H H') (h : H b = some (.tup xs)) : H' b = some (.tup xs) := e _ _ h fun _ z => by cases z
def spLawT (K : PySem.W.Frag) (PT : Addr) : Sp := fun vs H Q _ => ∃ (a : Addr) (ns : List Int), vs = [.ref a] ∧ SqL K H a (ns.map V.int) ∧ ns.length ≤ 63 ∧ H PT = some (.tbl #[]) ∧ ∀ H', Q (.bl true) H'
theorem iteFs {b : Bool} {A B : Prop} (h : b = false) (hB : B) : if b = true then A else B := by
  rw [h, if_neg Bool.false_ne_true]
  exact hB
theorem notin_of {ns : List Int} {k : Int} (h : k ∈ ns) : (if true = true then !inV (V.int k) (ns.map V.int) else inV (V.int k) (ns.map V.int)) = false := by
  rw [if_pos rfl, inV_ints, decide_eq_true h]
  rfl
/-- two pairs that are the same are not different -/
theorem ne2 {K : PySem.W.Frag} {H : Hp} {r1 r2 : Addr} {p q p' q' : Int} {Q : V → Hp → Prop} (e1 : H r1 = some (.tup [.int p, .int q])) (e2 : H r2 = some (.tup [.int p', .int q'])) (hp : p = p') (hq : q = q') (h : Q (.bl false) H) : rNeD K (.ref r1) (.ref r2) H Q := by
  subst hp hq
  refine ⟨.tuple [.int p, .int q], .tuple [.int p, .int q], Dp.tup (SqT.of e1) (.cons (.int p) (.cons (.int q) .nil)), Dp.tup (SqT.of e2) (.cons (.int p) (.cons (.int q) .nil)), rfl, rfl, ?_⟩
  rw [SeqAt.eqv_refl _ rfl]
  exact h
abbrev qLam : Str := (("law" : Str) ++ (".<locals>." : Str)) ++ ("<lambda>" : Str)
end Lf
namespace Lf
open PySem PySem.Spec PyProof.Rows L2
/-- two rules that are the same are not different -/
theorem ne3 {K : PySem.W.Frag} {H : Hp} {r1 r2 : Addr} {p q c p' q' c' : Int} {Q : V → Hp → Prop} (e1 : H r1 = some (.tup [.int p, .int q, .int c])) (e2 : H r2 = some (.tup [.int p', .int q', .int c'])) (hp : p = p') (hq : q = q') (hc : c = c') (h : Q (.bl false) H) : rNeD K (.ref r1) (.ref r2) H Q := by
  subst hp hq hc
  refine ⟨.tuple [.int p, .int q, .int c], .tuple [.int p, .int q, .int c], Dp.tup (SqT.of e1) (.cons (.int p) (.cons (.int q) (.cons (.int c) .nil))), Dp.tup (SqT.of e2) (.cons (.int p) (.cons (.int q) (.cons (.int c) .nil))), rfl, rfl, ?_⟩
  rw [SeqAt.eqv_refl _ rfl]
  exact h
theorem logR {k : Nat} {i : Int} (h : Bd k i) (hk : k ≤ 1920) : i.natAbs.log2 < 1920 := (h.mono hk).log (by decide)
def spLaw (K : PySem.W.Frag) : Sp := fun vs H Q _ => ∃ (a : Addr) (ns : List Int), vs = [.ref a] ∧ SqL K H a (ns.map V.int) ∧ ns.length ≤ 63 ∧ ∀ H', Q (.bl true) H'
end Lf
namespace Lf
open PySem PySem.Spec PyProof.Rows L2
/-! ### lists of the very same items, or of other lengths -/
def SmI (xs : List V) : Prop := ∀ z ∈ xs, flatB z = true ∨ ∃ c, z = .ref c
def rNeS (K : PySem.W.Frag) : R2 := fun x y H Q => ∃ a b xs ys, x = .ref a ∧ y = .ref b ∧ SqL K H a xs ∧ SqL K H b ys ∧ ((xs.length ≠ ys.length ∧ Q (.bl true) H) ∨ (xs = ys ∧ SmI xs ∧ Q (.bl false) H))
def rEqS (K : PySem.W.Frag) : R2 := fun x y H Q => ∃ a b xs ys, x = .ref a ∧ y = .ref b ∧ SqL K H a xs ∧ SqL K H b ys ∧ ((xs.length ≠ ys.length ∧ Q (.bl false) H) ∨ (xs = ys ∧ SmI xs ∧ Q (.bl true) H))
theorem smI_at {A : Around} {s : Shared} {xs : List V} : ∀ {us ws : List Value}, SmI xs → Vals xs us → Vals xs ws → ∀ j (h1 : j < us.length) (h2 : j < ws.length), SeqAt.EqAt A s us[j] ws[j] true := by
  induction xs with
  | nil =>
    intro us ws _ r1 r2 j h1 _
    cases r1
    exact absurd h1 (Nat.not_lt_zero j)
  | cons x xs ih =>
    intro us ws hs r1 r2 j h1 h2
    cases r1 with
    | cons a1 b1 =>
      cases r2 with
      | cons a2 b2 =>
        cases j with
        | zero =>
          rcases hs x List.mem_cons_self with f | ⟨c, rfl⟩
          · exact eqAt_same a1 a2 f
          · cases a1
            cases a2
            exact SeqAt.EqAt.same _
        | succ j => exact ih (fun z hz => hs z (List.mem_cons_of_mem _ hz)) b1 b2 j (Nat.lt_of_succ_lt_succ h1) (Nat.lt_of_succ_lt_succ h2)
section
variable {X : Cx}
theorem op_neS (hu : X.A.units + 64 < cLine) : OpR X (compareOp .NotEq) (rNeS X.K) := by
  intro pins s σ H x y v u Q I rx ry h
  obtain ⟨a, b, xs, ys, rfl, rfl, ha, hb, h⟩ := h
  cases rx
  cases ry
  obtain ⟨us, r1, p1, _⟩ := I.list ha
  obtain ⟨ws, r2, p2, _⟩ := I.list hb
  have l1 := r1.length
  have l2 := r2.length
  rcases h with ⟨hne, q⟩ | ⟨rfl, hs, q⟩
  · exact SeqAt.RcNeAt.lists_lengths p1.isList p2.isList (by rw [bne_iff_ne, List.size_toArray, List.size_toArray]; omega) (by omega) _ _ _ _ ⟨.bl true, H, I, rfl, q⟩
  · have hsz : us.toArray.size = ws.toArray.size := by rw [List.size_toArray, List.size_toArray]; omega
    have R := SeqAt.RcNeAt.lists (e := fun _ => true) p1.isList p2.isList hsz (show X.A.units < cLine by omega) (fun j h1 h2 => by
      have := smI_at (A := X.A.in1) (s := s) hs r1 r2 j (by simpa using h1) (by simpa using h2)
      simpa using this)
    rw [show ((List.range us.toArray.size).all fun _ => true) = true from List.all_eq_true.mpr fun _ _ => rfl] at R
    exact R _ _ _ _ ⟨.bl false, H, I, rfl, q⟩
theorem op_eqS (hu : X.A.units + 64 < cLine) : OpR X (compareOp .Eq) (rEqS X.K) := by
  intro pins s σ H x y v u Q I rx ry h
  obtain ⟨a, b, xs, ys, rfl, rfl, ha, hb, h⟩ := h
  cases rx
  cases ry
  obtain ⟨us, r1, p1, _⟩ := I.list ha
  obtain ⟨ws, r2, p2, _⟩ := I.list hb
  have l1 := r1.length
  have l2 := r2.length
  rcases h with ⟨hne, q⟩ | ⟨rfl, hs, q⟩
  · exact SeqAt.RcAt.lists_lengths p1.isList p2.isList (by rw [bne_iff_ne, List.size_toArray, List.size_toArray]; omega) (by omega) _ _ _ _ ⟨.bl false, H, I, rfl, q⟩
  · have hsz : us.toArray.size = ws.toArray.size := by rw [List.size_toArray, List.size_toArray]; omega
    have R := SeqAt.RcAt.lists (e := fun _ => true) p1.isList p2.isList hsz (show X.A.units < cLine by omega) (fun j h1 h2 => by
      have := smI_at (A := X.A.in1) (s := s) hs r1 r2 j (by simpa using h1) (by simpa using h2)
      simpa using this)
    rw [show ((List.range us.toArray.size).all fun _ => true) = true from List.all_eq_true.mpr fun _ _ => rfl] at R
    exact R _ _ _ _ ⟨.bl true, H, I, rfl, q⟩
end
end Lf
namespace Lf
open PySem PySem.Spec PyProof.Rows L2
/-! ### own classes: their methods, how they are made, fields as targets -/
def Dm (K : PySem.W.Frag) (C : Addr) (m qual : Str) (st : Stmt) (ps : List Str) : Prop := ∃ f fd, Fun K m qual st f fd ∧ Meth K C m f ∧ Binds K fd ps []
structure ClsT (K : PySem.W.Frag) (mg : Str → Option Value) (x : Str) (C : Addr) : Prop where
  cl : Cls K C
  mks : PySem.W.makesIn K C = true
  kp : PySem.W.keepIn K (.ref C) = true
  g : mg x = some (.ref C)
section
variable {P : Program} {w : World} {K : PySem.W.Frag} {mg : Str → Option Value} {base : Heap} {C : Addr}
theorem met_of {m qual : Str} {st : Stmt} {N ps : List Str} {k : Nat} {sp : Sp} (c : Cls K C) (D : Dm K C m qual st ps) (S : FnScope N ps (defScope st)) (len : ∀ vs H Q E, sp vs H Q E → vs.length = ps.length)
    (hb : ∀ (f : Addr) (cdv : Value) (A : Around) (outer : List Env) (s : Shared) (H : Hp) (vs : List V) (Q : VK) (E : XK), Room k (A.deeper (envOfC qual (defScope st) s.heap.objs.size f cdv)) → sp vs H Q E →
      ∃ t, PSs (cxOf CX0 P w K mg base N qual (defScope st) f cdv A outer s H E).nox (defBody st) t ∧ t { nx := fun _ H' => Q .non H', rt := Q } (start N vs) H) : C8.Met P w K mg base (k + 1) C m sp [] := by
  obtain ⟨f, fd, F, hm, b⟩ := D
  exact ⟨⟨f, fd, ps, [], c, hm, F.ok S len (fun cdv A outer s H vs Q E hr h => hb f cdv A outer s H vs Q E hr h), b, .nil⟩⟩
theorem mak_of {x qual : Str} {st : Stmt} {N ps : List Str} {k : Nat} {sp : Sp} (c : ClsT K mg x C) (D : Dm K C "__init__" qual st ps) (S : FnScope N ps (defScope st)) (len : ∀ vs H Q E, sp vs H Q E → vs.length = ps.length)
    (hb : ∀ (f : Addr) (cdv : Value) (A : Around) (outer : List Env) (s : Shared) (H : Hp) (vs : List V) (Q : VK) (E : XK), Room k (A.deeper (envOfC qual (defScope st) s.heap.objs.size f cdv)) → sp vs H Q E →
      ∃ t, PSs (cxOf CX0 P w K mg base N qual (defScope st) f cdv A outer s H E).nox (defBody st) t ∧ t { nx := fun _ H' => Q .non H', rt := Q } (start N vs) H) : C8.Mak P w K mg base (k + 1) x C sp [] := by
  obtain ⟨f, fd, F, hm, b⟩ := D
  exact ⟨⟨f, fd, ps, [], ⟨c.mks, hm.at_, hm.fn, c.kp⟩, F.ok S len (fun cdv A outer s H vs Q E hr h => hb f cdv A outer s H vs Q E hr h), c.g, b, .nil⟩⟩
end
section
variable {X : Cx}
/-- o.f = .., as one of several targets -/
def gFld (K : PySem.W.Frag) (ta : TE) (f : Str) : TG := fun v σ H Q => ta σ H fun x H1 => ∃ a C dx fs, x = .ref a ∧ H1 a = some (.ins C dx fs) ∧ Cls K C ∧ NoAttr K C f ∧ fs.length < 1000 ∧ Q σ (upd H1 a (.ins C dx (putF f v fs)))
theorem pg_fld {o : Expr} {f : Str} {pos : Pos} {ta : TE} (ho : PE X o ta) : PG X (.Attribute o f pos) (gFld X.K ta f) := by
  refine ⟨fun pins s σ H v u Q I r h => ?_⟩
  rw [assign_Attribute]
  refine wpAny_bind (wpAny_holding (thn (ho.run pins s σ H _ I h) fun ov s1 ⟨x, H1, I1, r1, a, C, dx, fs, ex, ea, c, n, l, q1⟩ => ?_))
  subst ex
  obtain rfl : ov = Value.ref a := r1
  refine wpAny_bind (wpAny_standAt (wpAny_bind (wpAny_holding ?_)))
  exact setattr_ok I1 ea c n l r fun s3 I3 => wpAny_release ⟨σ, _, I3, q1⟩
def rMulA : V → V → Hp → VK → Prop := fun x y H Q => ∃ i j, x = .int i ∧ y = .int j ∧ CMulW i j ∧ Q (.int (i * j)) H
theorem in_mulW : InOp X .Mult rMulA := by
  rintro pins s σ H x y u v Q I rx ry ⟨i, j, rfl, rfl, hc, q⟩
  obtain ⟨t, rfl⟩ := (show ∃ t, u = Value.int i t from rx)
  obtain ⟨t', rfl⟩ := (show ∃ t', v = Value.int j t' from ry)
  exact PyProof.Rows.imul_int ⟨.int (i * j), H, I.tok _, ⟨_, rfl⟩, q⟩ hc.ok
end
end Lf
namespace Lf
open PySem PySem.Spec PyProof.Rows L2
/-! ### a def with one keyword-only parameter, None by default -/
def DfO (K : PySem.W.Frag) (mg : Str → Option Value) (x : Str) (st : Stmt) (ps : List Str) (n : Nat) (kn : Str) : Prop :=
  ∃ f fd ds, Fun K x x st f fd ∧ mg x = some (.ref f) ∧ Vals [V.non] ds ∧ Binds K fd ps ds ∧ KBn K fd ps n [kn] (fun us ws => us ++ ws) (fun vs zs => vs ++ zs)
def CalO (P : Program) (w : World) (K : PySem.W.Frag) (mg : Str → Option Value) (base : Heap) (k : Nat) (x : Str) (sp : Sp) (n : Nat) (kn : Str) : Prop :=
  ∃ f fd ps, FnOk P w K mg base CX0 k f fd ps sp ∧ mg x = some (.ref f) ∧ PySem.W.keepIn K (.ref f) = true ∧ KBn K fd ps n [kn] (fun us ws => us ++ ws) (fun vs zs => vs ++ zs)
section
variable {P : Program} {w : World} {K : PySem.W.Frag} {mg : Str → Option Value} {base : Heap}
theorem calo_of {x kn : Str} {st : Stmt} {N ps : List Str} {k n : Nat} {sp : Sp} (D : DfO K mg x st ps n kn) (S : FnScope N ps (defScope st)) (len : ∀ vs H Q E, sp vs H Q E → vs.length = ps.length)
    (hb : ∀ (f : Addr) (cdv : Value) (A : Around) (outer : List Env) (s : Shared) (H : Hp) (vs : List V) (Q : VK) (E : XK), Room k (A.deeper (envOfC x (defScope st) s.heap.objs.size f cdv)) → sp vs H Q E →
      ∃ t, PSs (cxOf CX0 P w K mg base N x (defScope st) f cdv A outer s H E).nox (defBody st) t ∧ t { nx := fun _ H' => Q .non H', rt := Q } (start N vs) H) :
    C8.Cal P w K mg base (k + 1) x sp [.non] ∧ CalO P w K mg base (k + 1) x sp n kn := by
  obtain ⟨f, fd, ds, F, hm, hv, b, kb⟩ := D
  have G : FnOk P w K mg base CX0 (k + 1) f fd ps sp := F.ok S len (fun cdv A outer s H vs Q E hr h => hb f cdv A outer s H vs Q E hr h)
  exact ⟨⟨⟨f, fd, ps, ds, G, hm, F.kp, b, hv⟩⟩, f, fd, ps, G, hm, F.kp, kb⟩
theorem dfo_mk {x kn : Str} {st : Stmt} {f D : Addr} {ps : List Str} {n : Nat} {oc : Value} {od : Option Addr} {doc pm : Value} {an : Option Addr} {cdv ct : Value} {osl : Array (Option Value)}
    (l : K.lookup f = some ⟨oc, od, .func (PySem.W.fnOf x x (defArgs st) (defBody st) (defScope st) .none (.ref D) doc pm an cdv ct), osl⟩)
    (F : Fun K x x st f (PySem.W.fnOf x x (defArgs st) (defBody st) (defScope st) .none (.ref D) doc pm an cdv ct)) (hm : mg x = some (.ref f)) (hc : PySem.W.codeIn K cdv x = true) (hp : PySem.W.keepIn K (.ref f) = true) (hn : PySem.W.nsIn K D kn = some (some .none)) (lp : n + 1 = ps.length)
    (h0 : ∀ (D : Addr) (doc pm : Value) (an : Option Addr) (cdv ct : Value) (us ks : List Value), us.length = n → ks.length = 1 → KwChain D ([kn].zip ks) (bindArgs (PySem.W.fnOf x x (defArgs st) (defBody st) (defScope st) .none (.ref D) doc pm an cdv ct) ⟨us, []⟩) (ps.zip (us ++ ks)))
    (h1 : ∀ (us ws : List Value), us.length = n → ws.length = 1 → bindArgs (PySem.W.fnOf x x (defArgs st) (defBody st) (defScope st) .none (.ref D) doc pm an cdv ct) ⟨us, [kn].zip ws⟩ = pure (ps.zip (us ++ ws))) : DfO K mg x st ps n kn := by
  have G : FunD K x x (defArgs st) (defBody st) (defScope st) [] [(kn, .non)] f (PySem.W.fnOf x x (defArgs st) (defBody st) (defScope st) .none (.ref D) doc pm an cdv ct) :=
    ⟨⟨oc, od, .none, .ref D, doc, pm, an, cdv, ct, osl, rfl, l, hc, .inl ⟨rfl, rfl⟩, .inr ⟨D, rfl, fun q hq => by
      cases List.mem_singleton.mp hq
      exact ⟨.none, hn, rfl⟩⟩⟩, hp⟩
  obtain ⟨ds, hv, b⟩ := G.binds0 (ps := ps) n (by simp) lp fun D' doc' pm' an' cdv' ct' us ks l1 l2 => h0 D' doc' pm' an' cdv' ct' us ks l1 l2
  exact ⟨f, _, ds, F, hm, hv, b, ⟨fun s us ws _ l1 l2 => .of_eq (h1 us ws l1 l2), fun r1 r2 => r1.append r2⟩⟩
end
section
variable {X : Cx} {k j n : Nat} {kn x : Str} {sp : Sp} {p pos : Pos} {e : Expr} {es : List Expr} {kws : List Keyword} {t tk : TA}
theorem pe_kwo (c : CalO X.prog X.w X.K X.mg X.base k x sp n kn) (hr : Room j X.A) (hk : k ≤ j) (hg : Gl X x) (ha : L2.PA X (e :: es) t) (hkw : L2.PK X kws tk)
    (hall : (backToKw pos (keywordEach kws X.env)).all (·.1.isSome) = true := by rfl) (hks : (backToKw pos (keywordEach kws X.env)).filterMap (·.1) = [kn] := by rfl)
    (hdb : (x == ("__debug__" : Str)) = false := by decide) (he : starEach (e :: es) X.env = (false, eval e X.env) :: starEach es X.env := by rfl)
    (hpl : ((backTo pos (starEach (e :: es) X.env)).any (·.1) || (backToKw pos (keywordEach kws X.env)).any (·.1.isNone)) = false := by rfl) :
    PE X (.Call (.Name x p) (e :: es) kws pos) (tCallN n 1 sp (fun vs zs => vs ++ zs) C8.E0 t tk) := by
  obtain ⟨f, fd, ps, F, hm, kp, kb⟩ := c
  exact pe_callN F (hr.mono hk) hg hm kp kb C8.pass0 ha hkw hall hks hdb he hpl
end
end Lf
namespace Lf
open PySem PySem.Spec PyProof.Rows L2
/-! ### xs[i] op= e; sorted of a list of triples -/
def rGetL (K : PySem.W.Frag) : V → V → Hp → VK → Prop := fun x y H Q => ∃ p xs i v, x = .ref p ∧ y = .int i ∧ SqL K H p xs ∧ 0 ≤ i ∧ atI xs i = some v ∧ Q v H
theorem get_list {X : Cx} : PGet X (rGetL X.K) := by
  intro pins s σ H x y v u Q I rx ry h
  obtain ⟨p, xs, i, z, rfl, rfl, hq, h0, he, q⟩ := h
  cases rx
  obtain ⟨t, rfl⟩ := ry
  obtain ⟨its, r, pl, hz⟩ := I.list hq
  obtain ⟨j, h1, h2, h3, h4, h5⟩ := atI_get he
  obtain ⟨w, ew, rw'⟩ := r.get h2
  have hl := r.length
  have hn := line63
  have fin : EP X pins σ Q w s := ⟨z, H, I, rw', q⟩
  have hj : i.toNat = j := by
    rw [seqIndex_of h0 h5] at h1
    exact Option.some.inj h1
  exact wpAny_getItem_list pl.isList h0 (by omega) (by rw [hj]; simpa using ew) fin
abbrev tpO (x : T3) : HO := .tup [.int x.1, .int x.2.1, .int x.2.2]
abbrev A3 := Addr × T3
def refT (ts : List A3) : List V := ts.map fun e => V.ref e.1
def r3 (x : T3) : List Int := [x.1, x.2.1, x.2.2]
def rSortT (K : PySem.W.Frag) : List V → Hp → VK → Prop := fun vs H Q => ∃ (a : Addr) (xs : List V) (cs : List T3), vs = [V.ref a] ∧ SqL K H a xs ∧ Obs tpO H xs cs ∧
  ∀ us es p, Obs tpO H us es → es.Perm cs → es.Pairwise (fun a b => r3 a ≤ r3 b) → H p = none → Q (.ref p) (upd H p (.lst us))
theorem obs_refT {H : Hp} : ∀ {xs : List V} {ds : List T3}, Obs tpO H xs ds → ∃ ts : List A3, xs = refT ts ∧ ds = ts.map (·.2) ∧ ∀ e ∈ ts, H e.1 = some (tpO e.2)
  | _, _, .nil => ⟨[], rfl, rfl, fun _ h => (nomatch h)⟩
  | _, _, .cons (r := r) (d := d) e o => by
    obtain ⟨ts, h1, h2, h3⟩ := obs_refT o
    refine ⟨(r, d) :: ts, by rw [h1]; rfl, by rw [h2]; rfl, fun x hx => ?_⟩
    rcases List.mem_cons.mp hx with rfl | hx
    · exact e
    · exact h3 x hx
theorem refT_obs {H : Hp} : ∀ (ts : List A3), (∀ e ∈ ts, H e.1 = some (tpO e.2)) → Obs tpO H (refT ts) (ts.map (·.2))
  | [], _ => .nil
  | e :: ts, h => .cons (h e List.mem_cons_self) (refT_obs ts fun x hx => h x (List.mem_cons_of_mem _ hx))
theorem each_refT : ∀ {us : List Value} {ts : List A3}, Vals (refT ts) us → PySem.W.EachIs (fun v (e : A3) => v = Value.ref e.1) us ts
  | _, [], .nil => .nil
  | _, _ :: _, .cons r t => .cons r (each_refT t)
theorem vals_refT : ∀ {us : List Value} {ts : List A3}, PySem.W.EachIs (fun v (e : A3) => v = Value.ref e.1) us ts → Vals (refT ts) us
  | _, _, .nil => .nil
  | _, _, .cons r t => .cons r (vals_refT t)
theorem dataLe_t3 : PySem.W.dataLe false (fun e : A3 => PyData.tuple ((r3 e.2).map PyData.int)) = fun p q : A3 => decide (r3 p.2 ≤ r3 q.2) := by
  funext p q
  show (!PySem.W.dataLt (.tuple ((r3 q.2).map .int)) (.tuple ((r3 p.2).map .int))) = _
  rw [PySem.W.dataLt_tuple]
  show (!PySem.W.rowLt ((r3 q.2).map .int) ((r3 p.2).map .int)) = _
  rw [PySem.W.dataLt_ints]
  by_cases h : r3 q.2 < r3 p.2
  · have h' : ¬ r3 p.2 ≤ r3 q.2 := fun r => List.not_lt.mpr r h
    simp [h, h']
  · have h' : r3 p.2 ≤ r3 q.2 := List.not_lt.mp h
    simp [h, h']
theorem r3_le {a b : T3} (h : r3 a ≤ r3 b) : a.1 < b.1 ∨ (a.1 = b.1 ∧ a.2.1 ≤ b.2.1) := by
  unfold r3 at h
  rw [List.cons_le_cons_iff] at h
  rcases h with h | ⟨e, h⟩
  · exact .inl h
  · rw [List.cons_le_cons_iff] at h
    rcases h with h | ⟨e2, _⟩
    · exact .inr ⟨e, Int.le_of_lt h⟩
    · exact .inr ⟨e, by omega⟩
theorem cr_sortT {X : Cx} (hu : X.A.units + 64 < cLine) : CallR X (.builtin "sorted") (rSortT X.K) := by
  intro pins s σ H vs us Q I r h
  obtain ⟨a, xs, cs, rfl, hs, ho, q⟩ := h
  obtain ⟨ts, rfl, rfl, hx⟩ := obs_refT ho
  obtain ⟨its, rv, hl, hz⟩ := I.list hs
  rw [Vals.ref1 r]
  have e := each_refT rv
  have er : PySem.W.EachIs (fun v (e : A3) => ∃ as, Reads s.heap v (PyData.tuple ((r3 e.2).map PyData.int)) as) its ts := (PySem.W.each_mem e).mono fun v b ⟨hv, hb⟩ => by
    obtain ⟨as, rd⟩ := Dp.reads I (PyData.tuple ((r3 b.2).map PyData.int)) (.ref b.1) v (Dp.tup (SqT.of (hx b hb)) (.cons (.int _) (.cons (.int _) (.cons (.int _) .nil)))) (by rw [hv]; rfl)
    exact ⟨as, rd⟩
  have hlen : ts.length ≤ sizeLine := by
    unfold refT at hz
    rw [List.length_map] at hz
    exact hz
  refine PySem.W.sorted_data (bs := ts) (enc := fun e : A3 => PyData.tuple ((r3 e.2).map PyData.int)) hl.isList e er (PySem.W.AllAlike.of fun b b' => by rfl) (PySem.W.Sortable.tuples fun b => ⟨_, _, rfl⟩) hlen (fun b _ => ?_) fun out h1 h2 => ?_
  · show _ + 2 + PyData.depth (.tuple [.int b.2.1, .int b.2.2.1, .int b.2.2.2]) < _
    have : PyData.depth (.tuple [.int b.2.1, .int b.2.2.1, .int b.2.2.2]) = 1 := rfl
    omega
  · rw [dataLe_t3] at h2
    have hp := List.mergeSort_perm ts fun (p q : A3) => decide (r3 p.2 ≤ r3 q.2)
    have hs := List.pairwise_mergeSort (le := fun (p q : A3) => decide (r3 p.2 ≤ r3 q.2)) (fun a b c g1 g2 => decide_eq_true (List.le_trans (of_decide_eq_true g1) (of_decide_eq_true g2))) (fun a b => by
      rcases List.le_total (r3 a.2) (r3 b.2) with g | g <;> simp [g]) ts
    generalize ts.mergeSort (fun (p q : A3) => decide (r3 p.2 ≤ r3 q.2)) = us at h2 hp hs
    obtain ⟨ep, he'⟩ := PyProof.Rows.sortedAll_at s.heap its out.toArray
    have hlen' : (refT us).length ≤ sizeLine := by
      unfold refT
      rw [List.length_map, hp.length_eq]
      exact hlen
    have Ob : Obs tpO H (refT us) (us.map (·.2)) := refT_obs us fun e he => hx e (hp.mem_iff.mp he)
    exact ⟨.ref _, upd H (s.heap.objs.size + 1) (.lst (refT us)), I.laid (t' := s.toks) (fun _ _ => PyProof.Rows.sortedAll_old) (Nat.le_succ _) ⟨hlen', out, ep, vals_refT h2, he'⟩, rfl, q (refT us) (us.map (·.2)) _ Ob (hp.map _) (List.pairwise_map.mpr (hs.imp fun g => of_decide_eq_true g)) (I.hok.fresh (Nat.le_succ _))⟩
end Lf
namespace Lf
open PySem PySem.Spec PyProof.Rows L2
/-! ### sorted(d), ints as keys, any number of them; max(.., default=int); the square of a wide int; a dict comprehension over any walk -/
def rSortDI : List V → Hp → VK → Prop := fun xs H Q => ∃ (a : Addr) (kvs : List (Key × V)) (ks : List Int), xs = [.ref a] ∧ Rd H a (.dK kvs) ∧ kvs.map (·.1) = ks.map Sum.inl ∧
  ∀ (ys : List Int) (p : Addr), ys.Perm ks → ys.Pairwise (· ≤ ·) → H p = none → Q (.ref p) (upd H p (.lst (ys.map V.int)))
theorem cr_sortDI {X : Cx} (hc : X.calm = true) : CallR X (.builtin "sorted") rSortDI := by
  intro pins s σ H vs us Q I r hq
  obtain ⟨d, kvs, ks, rfl, hd, hks, kk⟩ := hq
  obtain ⟨z, big, ws, rel, dd⟩ := dk_rd I.hok hd
  obtain ⟨ep, at_⟩ := dd.dictAt
  have ek : ws.map (·.1) = ks.map Sum.inl := by rw [← hks, rel.keys]
  have el : ws.length = ks.length := by
    have := congrArg List.length ek
    simpa using this
  have ez : ws.length ≤ sizeLine := by
    have := rel.length
    omega
  rw [Vals.ref1 r]
  refine Calls.call_function_entry PyProof.Rows.kind_sorted PyProof.Rows.plain_sorted PyProof.Rows.entry_sorted (PyProof.Rows.args_sorted1 _) ?_
  unfold Builtin.«sorted»
  refine wpAny_bind (m := checkCount "sorted" 1 1 _) (wpAny_pure (wpAny_bind ?_))
  refine PySem.W.kdu_collect (A := X.A.in1) (PySem.W.kdl_dict (knd := mixKind X.prog X.w) (kvs := ws) (ep := ep) big) (I.ok.hd hc) at_ ez fun g tk acc kept ⟨al, each⟩ => ?_
  have hA : acc.toList.length = ks.length := by rw [Array.length_toList, al, el]
  have isI : IntsAre acc.toList ks := ints_each hA fun j v e => by
    rw [Array.getElem?_toList] at e
    obtain ⟨key, x, e1, e2⟩ := each j v e
    have e3 := congrArg (·[j]?) ek
    simp only [List.getElem?_map, e1, Option.map_some] at e3
    cases e4 : ks[j]? with
    | none =>
      rw [e4] at e3
      cases e3
    | some n =>
      rw [e4] at e3
      cases Option.some.inj e3
      rcases keyIs_shape (show keyIs (Sum.inl n) v = true from e2) with ⟨i, t, ei, ev⟩ | ⟨i, t, ei, ev⟩
      · cases ei
        exact ⟨n, t, rfl, ev⟩
      · cases ei
  have I1 : Inv X pins σ H { s with heap := g, toks := tk } := I.kept kept
  have zl : acc.toList.length ≤ sizeLine := by omega
  refine wpAny_bind (wpAny_newList ?_ zl)
  have own : (g.push (seqObj "list" acc.toList.toArray 0)).get? g.objs.size = some (seqObj "list" acc.toList.toArray 0) := Heap.get?_push_size _ rfl
  refine wpAny_bind (wpAny_holding (wpAny_call_entry PyProof.Rows.slot_list_sort ⟨_, own, rfl⟩ PyProof.Rows.entry_list_sort
    (SrtO.list_sort_ord (s := { s with heap := g.push (seqObj "list" acc.toList.toArray 0), toks := tk }) SrtO.swo_int own zl (fun two => SrtO.ints_sortable isI two) fun out so st => ⟨_, rfl, ?_⟩) (PyProof.Rows.args_list_sort _)))
  obtain ⟨i1, i2, i3⟩ := SrtO.ints_out isI so st
  obtain ⟨en, there⟩ := PyProof.Rows.sortedHeap_at (vs := acc.toList) (out := out.toArray) own
  have ol : ((out.map SrtO.iv).map V.int).length ≤ sizeLine := by
    rw [List.length_map, i2.length_eq]
    omega
  have new : ObjOk X.prog X.w (upd H g.objs.size (.lst ((out.map SrtO.iv).map V.int))) _ g.objs.size (.lst ((out.map SrtO.iv).map V.int)) := ⟨ol, out, en, vals_of_ints i1, there⟩
  refine wpAny_pure ⟨_, rfl, .ref g.objs.size, _, I1.laid (t' := tk) (fun b o e => ?_) (Nat.le_refl _) new, rfl, kk _ _ i2 i3 (I1.hok.fresh (Nat.le_refl _))⟩
  have lt : b < g.objs.size := Heap.lt_size e
  rw [PyProof.Rows.sortedHeap_old (Nat.ne_of_lt lt) (Nat.lt_of_lt_of_eq (Nat.lt_succ_of_lt lt) (size_push' ..).symm)]
  exact Heap.get?_push_of_some _ e
def rMxI (K : PySem.W.Frag) : List V → List V → Hp → VK → Prop := fun vs zs H Q => ∃ (a : Addr) (ns : List Int) (d : Int), vs = [V.ref a] ∧ zs = [.int d] ∧ SqL K H a (ns.map V.int) ∧ ∀ m, ((ns = [] ∧ m = d) ∨ IsMx ns (some m)) → Q (.int m) H
theorem cr_maxI {X : Cx} (hc : X.calm = true) (hu : X.A.units + 64 < cLine) : CallRK X (.builtin "max") [Str.ofString "default"] (rMxI X.K) := by
  intro pins s σ H xs zs us ws Q I r rz h
  obtain ⟨a, ns, d0, rfl, rfl, hs, q⟩ := h
  obtain ⟨its, rv, hl, _⟩ := I.list hs
  rw [Vals.ref1 r]
  obtain ⟨d, rfl, rd⟩ := vals1 rz
  obtain ⟨t0, rfl⟩ := rd
  refine PySem.W.max_list_datum_default (α := Int) (xs := ns) (I.ok.hd hc) hl.isList (by simpa using PySem.W.HoldAll.of_ints rv.ints) (by show _ + 1 + 0 < _; omega) (fun e h' tk hk => ⟨.int d0, H, I.kept hk, ⟨_, rfl⟩, q _ (.inl ⟨e, rfl⟩)⟩) fun y ys i v h' tk e hv hh hk => ?_
  obtain ⟨as, hr⟩ := hh
  obtain ⟨t, rfl⟩ : ∃ t, v = Value.int (PySem.W.maxOf y ys) t := by
    cases hr
    exact ⟨_, rfl⟩
  exact ⟨.int _, H, I.kept hk, ⟨_, rfl⟩, q _ (.inr (by rw [e]; exact maxOf_mx y ys))⟩
def CSq (i j : Int) : Prop := j = 2 ∧ Bd 100000 i
theorem op_sqW {X : Cx} : OpR X (binaryOp .Pow) (rI CSq fun i _ => .int (i * i)) := opI fun i j _ _ _ _ _ hc q => by
  obtain ⟨rfl, hb⟩ := hc
  refine pow_int (by decide) ?_ ?_
  · have h1 : Builtin.Int.intBits i ≤ 100000 := intBits_le_iff.mpr hb
    have h3 : (Builtin.Int.intBits i : Int) * 2 ≤ 100000 * 2 := Int.mul_le_mul_of_nonneg_right (by omega) (by decide)
    exact Int.le_trans h3 (by decide)
  · have e : i ^ (2 : Int).toNat = i * i := by
      show i ^ 2 = i * i
      rw [Int.pow_succ, Int.pow_succ, Int.pow_zero, Int.one_mul]
    rw [e]
    exact q
theorem dc_it {J : It} {n : Nat} {G : Hp → Prop} {Y : Nat → Hp → V → Hp → Prop} (wk : Walk J n G Y) {g : TG} {tt : TT} {tk tv : TE} {vs : List Nat} {σ : L2.St} {H1 : Hp} {D : Addr} {Qd : Hp → Prop} (Pv : Nat → Hp → Prop) (h0 : Pv 0 (upd H1 D (.dK []))) (hG : ∀ i H, i ≤ n → Pv i H → G H)
    (hs : ∀ i x H H', i < n → Pv i H → Y i H x H' → g x (wipe σ vs) H' fun σ2 H2 => wipe σ2 vs = wipe σ vs ∧ tt σ2 H2 fun b H3 =>
      if b = true then tk σ2 H3 fun y H4 => tv σ2 H4 fun z H5 => ∃ kvs k, y = kV k ∧ H5 D = some (.dK kvs) ∧ kvs.length < sizeLine ∧ Pv (i + 1) (upd H5 D (.dK (putK kvs k z))) else Pv (i + 1) H3) (hd : ∀ H, Pv n H → Qd H) :
    ∃ W : Nat → Nat → Hp → Prop, (∃ m, W 0 m (upd H1 D (.dK []))) ∧ ∀ i m H, W i m H →
      (J.stop i H ∧ Qd H) ∨ (J.go i H ∧ ∃ Nx : Hp → Prop, (∀ H', Nx H' → ∃ m', m' < m ∧ W (i + 1) m' H') ∧ ∀ x H', J.yld i H x H' → g x (wipe σ vs) H' fun σ2 H2 => wipe σ2 vs = wipe σ vs ∧ tt σ2 H2 fun b H3 =>
        if b = true then tk σ2 H3 fun y H4 => tv σ2 H4 fun z H5 => ∃ kvs k, y = kV k ∧ H5 D = some (.dK kvs) ∧ kvs.length < sizeLine ∧ Nx (upd H5 D (.dK (putK kvs k z))) else Nx H3) := by
  refine ⟨fun i m H => m + i = n ∧ Pv i H, ⟨n, rfl, h0⟩, fun i m H ⟨hm, p⟩ => ?_⟩
  have st := hG i H (by omega) p
  match m, hm with
  | 0, hm =>
    obtain rfl : i = n := by omega
    exact .inl ⟨wk.stops H st, hd H p⟩
  | m + 1, hm => exact .inr ⟨wk.goes i H (by omega) st, Pv (i + 1), fun H' p' => ⟨m, by omega, by omega, p'⟩, fun x H' y => hs i x H H' (by omega) p (wk.yields i H x H' (by omega) st y)⟩
end Lf
namespace Lf
open PySem PySem.Spec PyProof.Rows L2
/-! ### _law_shuffled -/
def muL (C : Addr) : L2.St → Hp → Nat := fun _ H => match H C with
  | some (.lst ys) => ys.length
  | _ => 0
theorem muL_eq {C : Addr} {σ : L2.St} {H : Hp} {ys : List V} (h : H C = some (.lst ys)) : muL C σ H = ys.length := by
  unfold muL
  rw [h]
theorem seqIndex_at {d : Int} {n : Nat} (h0 : 0 ≤ d) (h1 : d < n) : seqIndex? d n = some d.toNat := by
  unfold seqIndex?
  simp
  omega
theorem erase_perm {y : V} : ∀ {us : List V} {k : Nat}, us[k]? = some y → (y :: us.eraseIdx k).Perm us
  | [], k, h => by simp at h
  | u :: us, 0, h => by
    have h : some u = some y := h
    cases h
    exact List.Perm.refl _
  | u :: us, k + 1, h => (List.Perm.swap u y (us.eraseIdx k)).trans ((erase_perm (us := us) (k := k) h).cons u)
theorem erase_len {y : V} {us : List V} {k : Nat} (h : us[k]? = some y) : (us.eraseIdx k).length + 1 = us.length := (erase_perm h).length_eq
section
variable {P : Program} {w : World} {K : PySem.W.Frag} {mg : Str → Option Value} {base : Heap}
def spShuf : Sp := fun vs H Q _ => ∃ (a : PA) (n : Nat) (L : Addr) (xs : List V), vs = [.ref a, .ref L] ∧ Pen H a n ∧ n < 2 ^ 36 ∧ H L = some (.lst xs) ∧ xs.length ≤ 500 ∧
  ∀ R H' ys, H R = none → H' R = some (.lst ys) → ys.Perm xs → Pen H' a (n + xs.length) → Fr H H' → Q (.ref R) H'
end
end Lf
namespace Lf
open PySem PySem.Spec PyProof.Rows L2
/-! ### a method with one keyword-only parameter, None by default: o.m(), o.m(kw = v) -/
def DmO (K : PySem.W.Frag) (C : Addr) (m qual : Str) (st : Stmt) (ps : List Str) (n : Nat) (kn : Str) : Prop :=
  ∃ f fd ds, Fun K m qual st f fd ∧ Meth K C m f ∧ Vals [V.non] ds ∧ Binds K fd ps ds ∧ KBn K fd ps n [kn] (fun us ws => us ++ ws) (fun vs zs => vs ++ zs)
def MetO (P : Program) (w : World) (K : PySem.W.Frag) (mg : Str → Option Value) (base : Heap) (k : Nat) (C : Addr) (m : Str) (sp : Sp) (n : Nat) (kn : Str) : Prop :=
  ∃ f fd ps, Cls K C ∧ Meth K C m f ∧ FnOk P w K mg base CX0 k f fd ps sp ∧ KBn K fd ps n [kn] (fun us ws => us ++ ws) (fun vs zs => vs ++ zs)
section
variable {P : Program} {w : World} {K : PySem.W.Frag} {mg : Str → Option Value} {base : Heap} {C : Addr}
theorem meto_of {m qual kn : Str} {st : Stmt} {N ps : List Str} {k n : Nat} {sp : Sp} (c : Cls K C) (D : DmO K C m qual st ps n kn) (S : FnScope N ps (defScope st)) (len : ∀ vs H Q E, sp vs H Q E → vs.length = ps.length)
    (hb : ∀ (f : Addr) (cdv : Value) (A : Around) (outer : List Env) (s : Shared) (H : Hp) (vs : List V) (Q : VK) (E : XK), Room k (A.deeper (envOfC qual (defScope st) s.heap.objs.size f cdv)) → sp vs H Q E →
      ∃ t, PSs (cxOf CX0 P w K mg base N qual (defScope st) f cdv A outer s H E).nox (defBody st) t ∧ t { nx := fun _ H' => Q .non H', rt := Q } (start N vs) H) :
    C8.Met P w K mg base (k + 1) C m sp [.non] ∧ MetO P w K mg base (k + 1) C m sp n kn := by
  obtain ⟨f, fd, ds, F, hm, hv, b, kb⟩ := D
  have G : FnOk P w K mg base CX0 (k + 1) f fd ps sp := F.ok S len (fun cdv A outer s H vs Q E hr h => hb f cdv A outer s H vs Q E hr h)
  exact ⟨⟨⟨f, fd, ps, ds, c, hm, G, b, hv⟩⟩, f, fd, ps, c, hm, G, kb⟩
theorem dmo_mk {x qual kn : Str} {st : Stmt} {f D : Addr} {ps : List Str} {n : Nat} {oc : Value} {od : Option Addr} {doc pm : Value} {an : Option Addr} {cdv ct : Value} {osl : Array (Option Value)}
    (l : K.lookup f = some ⟨oc, od, .func (PySem.W.fnOf x qual (defArgs st) (defBody st) (defScope st) .none (.ref D) doc pm an cdv ct), osl⟩)
    (F : Fun K x qual st f (PySem.W.fnOf x qual (defArgs st) (defBody st) (defScope st) .none (.ref D) doc pm an cdv ct)) (hm : Meth K C x f) (hc : PySem.W.codeIn K cdv qual = true) (hn : PySem.W.nsIn K D kn = some (some .none)) (lp : n + 1 = ps.length)
    (h0 : ∀ (D : Addr) (doc pm : Value) (an : Option Addr) (cdv ct : Value) (us ks : List Value), us.length = n → ks.length = 1 → KwChain D ([kn].zip ks) (bindArgs (PySem.W.fnOf x qual (defArgs st) (defBody st) (defScope st) .none (.ref D) doc pm an cdv ct) ⟨us, []⟩) (ps.zip (us ++ ks)))
    (h1 : ∀ (us ws : List Value), us.length = n → ws.length = 1 → bindArgs (PySem.W.fnOf x qual (defArgs st) (defBody st) (defScope st) .none (.ref D) doc pm an cdv ct) ⟨us, [kn].zip ws⟩ = pure (ps.zip (us ++ ws))) : DmO K C x qual st ps n kn := by
  have G : FunD K x qual (defArgs st) (defBody st) (defScope st) [] [(kn, .non)] f (PySem.W.fnOf x qual (defArgs st) (defBody st) (defScope st) .none (.ref D) doc pm an cdv ct) :=
    ⟨⟨oc, od, .none, .ref D, doc, pm, an, cdv, ct, osl, rfl, l, hc, .inl ⟨rfl, rfl⟩, .inr ⟨D, rfl, fun q hq => by
      cases List.mem_singleton.mp hq
      exact ⟨.none, hn, rfl⟩⟩⟩, hm.kp⟩
  obtain ⟨ds, hv, b⟩ := G.binds0 (ps := ps) n (by simp) lp fun D' doc' pm' an' cdv' ct' us ks l1 l2 => h0 D' doc' pm' an' cdv' ct' us ks l1 l2
  exact ⟨f, _, ds, F, hm, hv, b, ⟨fun s us ws _ l1 l2 => .of_eq (h1 us ws l1 l2), fun r1 r2 => r1.append r2⟩⟩
end
def tMethK (C : Addr) (m : Str) (sp : Sp) (E : XK) (ta : TE) (tk : TA) : TE := fun σ H Q => ta σ H fun x H1 => ∃ a dx fs, x = .ref a ∧ H1 a = some (.ins C dx fs) ∧ fs.lookup m = none ∧ tk σ H1 fun zs H2 => zs.length = 1 ∧ sp (x :: zs) H2 Q E
section
variable {X : Cx} {k j : Nat} {kn m : Str} {sp : Sp} {apos pos : Pos} {o : Expr} {kws : List Keyword} {ta : TE} {tk : TA} {C : Addr}
theorem pe_mkw {pl : Sem Bool} (he : PE X o ta) (c : MetO X.prog X.w X.K X.mg X.base k C m sp 1 kn) (hr : Room j X.A) (hk : k ≤ j) (hkw : L2.PK X kws tk)
    (hall : (backToKw pos (keywordEach kws X.env)).all (·.1.isSome) = true := by rfl) (hks : (backToKw pos (keywordEach kws X.env)).filterMap (·.1) = [kn] := by rfl)
    (hpl : ((backTo pos (starEach [] X.env)).any (·.1) || (backToKw pos (keywordEach kws X.env)).any (·.1.isNone)) = false := by rfl)
    (ht : eval (.Call (.Attribute o m apos) [] kws pos) X.env = (do
      let ov ← eval o X.env
      standAt apos.atName
      let (f, first) ← holding [ov] (getMethod ov m pl)
      callWith pos f first (backTo pos (starEach [] X.env)) (backToKw pos (keywordEach kws X.env))) := by rfl) :
    PE X (.Call (.Attribute o m apos) [] kws pos) (tMethK C m sp C8.E0 ta tk) := by
  obtain ⟨f, fd, ps, cc, hm, F, kb⟩ := c
  refine ⟨fun pins s σ H Q I h => ?_⟩
  refine PySem.W.methodCall_KW (pl := pl) (thn (he.run pins s σ H _ I h) fun u s1 ⟨x, H1, I1, rx, a, dx, fs, ex, ea, l, q⟩ => ?_) ht
  subst ex
  obtain rfl : u = Value.ref a := rx
  refine getmeth_ok I1 ea cc hm l ?_
  refine PySem.W.callWith_KW0 (first := [.ref a]) I1.kIn hm.kp hall (thn (hkw.run pos pins s1 σ H1 _ I1 q) fun ws s2 ⟨zs, H2, I2, rz, l1, q2⟩ => ⟨I2.kIn, ?_⟩) hpl
  rw [hks]
  exact run_fnN (us := [.ref a]) (vs := [.ref a]) F (hr.mono hk) kb C8.pass0 I2 (.cons rfl .nil) rz rfl l1 q2
end
end Lf
namespace Lf
open PySem PySem.Spec PyProof.Rows L2
def tNoSb : TS := fun _ _ _ => False
theorem pss_nob {X : Cx} {b : List Stmt} : PSs X b tNoSb := ⟨fun _ _ _ _ _ _ h => h.elim⟩
theorem nf_of {H H' : Hp} (s : Same H H') {F : Addr} (n : H' F = none) : H F = none := by
  cases e : H F with
  | none => rfl
  | some o =>
    rw [s _ _ e] at n
    cases n
theorem at_in {xs : List V} {d : Int} (h0 : 0 ≤ d) (h1 : d < (xs.length : Int)) : ∃ x, atI xs d = some x ∧ x ∈ xs := by
  obtain ⟨j, rfl⟩ := Int.eq_ofNat_of_zero_le h0
  have hj : j < xs.length := by omega
  exact ⟨_, atI_nat (List.getElem?_eq_getElem hj), List.getElem_mem hj⟩
section
variable {P : Program} {w : World} {K : PySem.W.Frag} {mg : Str → Option Value} {base : Heap} {C : Addr}
/-! ### _law_divisor -/
abbrev s_l_divisor : Stmt := topS 35
abbrev N_l_divisor : List Str := ["_law_one", "_law_two"]
abbrev P_l_divisor : List Str := ["_law_one", "_law_two"]
theorem sc_l_divisor : FnScope N_l_divisor P_l_divisor (defScope s_l_divisor) := ⟨rfl, rfl, rfl, by decide +kernel, rfl, by decide +kernel, by decide +kernel⟩
theorem ok_l_divisor (D : Df K mg "_law_divisor" s_l_divisor P_l_divisor) : C8.Cal P w K mg base 1 "_law_divisor" spGcd [] := by
  refine cal_of D sc_l_divisor (fun vs H Q E h => ?_) (fun f cdv A outer s H vs Q E hr h => ?_)
  · obtain ⟨x, y, rfl, _⟩ := h
    rfl
  · obtain ⟨x, y, rfl, hx, hy, q⟩ := h
    refine ⟨_, (pss_cons (ps_while PassesOwn.never (pt_cmpR op_gt (pv 1) pe_int (nomark _))
      (pss_one (ps_par (i := 0) (j := 1) rfl sc_l_divisor.nd rfl rfl (by decide) rfl rfl (pa_cons (pv 1) (pa_cons (pe_op op_mod (pv 0) (pv 1)) pa_nil)) rfl)))
    (pss_one (ps_ret (pv 0)))), ?_⟩
    refine while_by (fun σ H' => ∃ u v : Int, σ = [some (.int u), some (.int v)] ∧ 0 ≤ u ∧ 0 ≤ v ∧ Int.gcd u v = Int.gcd x y ∧ H' = H) mu1 ⟨x, y, rfl, hx, hy, rfl, rfl⟩ ?_ ?_
    · rintro σ H' ⟨u, v, rfl, hu, hv, e, rfl⟩
      refine ⟨_, rfl, _, _, rfl, rfl, _, rfl, ite2 (fun c => ?_) (fun c => ?_)⟩
      · have hv0 : 0 < v := of_decide_eq_true c
        refine ⟨_, rfl, _, rfl, _, rfl, _, _, rfl, rfl, hv0, _, _, rfl, ⟨v, u % v, rfl, hv, Int.emod_nonneg _ (by omega), ?_, rfl⟩, ?_⟩
        · rw [gcd_turn u v hu hv0]; exact e
        · show (u % v).toNat < v.toNat
          have := Int.emod_lt_of_pos u hv0
          omega
      · have hv0 : v = 0 := by
          have : ¬ 0 < v := fun z => c (decide_eq_true z)
          omega
        subst hv0
        refine ⟨_, rfl, ?_⟩
        have e2 : (Int.gcd x y : Int) = u := by
          rw [← e, Int.gcd_zero_right]
          omega
        rw [← e2]
        exact q
    · rintro σ H' Q1 Q2 hQ ⟨v, h1, i, j, h2, h3, b, h4, h5⟩
      exact ⟨v, h1, i, j, h2, h3, b, h4, hQ _ _ h5⟩
/-! ### _law_rule -/
def spRule01 : Sp := fun vs H Q _ => ∃ (a : PA) (n : Nat), vs = [.ref a] ∧ Pen H a n ∧ n < 2 ^ 39 ∧ ∀ r H' p q c, RuleB 100 p q c → H' r = some (.tup [.int p, .int q, .int c]) → Pen H' a (n + 4) → Fr H H' → Q (.ref r) H'
abbrev s_l_rule : Stmt := topS 36
abbrev N_l_rule : List Str := ["_law_state", "_law_scale", "_law_p", "_law_q", "_law_c", "_law_g"]
abbrev P_l_rule : List Str := ["_law_state"]
theorem sc_l_rule : FnScope N_l_rule P_l_rule (defScope s_l_rule) := ⟨rfl, rfl, rfl, by decide +kernel, rfl, by decide +kernel, by decide +kernel⟩
theorem ok_l_rule (D : Df K mg "_law_rule" s_l_rule P_l_rule) (B : Bi mg) (c_l_draw : C8.Cal P w K mg base 1 "_law_draw" spDraw []) (c_l_divisor : C8.Cal P w K mg base 1 "_law_divisor" spGcd []) : C8.Cal P w K mg base 2 "_law_rule" spRule01 [] := by
  refine cal_of D sc_l_rule (fun vs H Q E h => ?_) (fun f cdv A outer s H vs Q E hr h => ?_)
  · obtain ⟨a, n, rfl, _⟩ := h
    rfl
  · obtain ⟨a, n, rfl, hP, hn, kk⟩ := h
    refine ⟨_, (pss_cons (ps_set (i := 1) sc_l_rule.nd rfl (Or.inl rfl) (pe_ix (r := rIxL K) ix_list (pe_lst (pa_cons pe_int (pa_cons pe_int (pa_cons (pe_op op_pow pe_int pe_int) pa_nil)))) (C8.pe_c c_l_draw hr (by decide) (by rfl) (pa_cons (pv 0) (pa_cons pe_int pa_nil))) (fun _ _ => rfl)))
    (pss_cons (ps_par (i := 2) (j := 3) rfl sc_l_rule.nd rfl rfl (by decide) rfl rfl (pa_cons (C8.pe_c c_l_draw hr (by decide) (by rfl) (pa_cons (pv 0) (pa_cons (pv 1) pa_nil))) (pa_cons (pe_op op_add pe_int (C8.pe_c c_l_draw hr (by decide) (by rfl) (pa_cons (pv 0) (pa_cons (pv 1) pa_nil)))) pa_nil)) rfl)
    (pss_cons (ps_par (i := 4) (j := 5) rfl sc_l_rule.nd rfl rfl (by decide) rfl rfl (pa_cons (pe_op op_sub (C8.pe_c c_l_draw hr (by decide) (by rfl) (pa_cons (pv 0) (pa_cons (pe_op op_mul pe_int (pv 1)) pa_nil))) (pv 1)) (pa_cons (C8.pe_c c_l_divisor hr (by decide) (by rfl) (pa_cons (pv 2) (pa_cons (pv 3) pa_nil))) pa_nil)) rfl)
    (pss_one (ps_ret (pe_tup (pa_cons (pe_op op_fdivW (pv 2) (pv 5)) (pa_cons (pe_op op_fdivW (pv 3) (pv 5)) (pa_cons (pe_op op_fdivW (pv 4) (pv 5)) pa_nil))))))))), ?_⟩
    refine ⟨_, _, rfl, rfl, ⟨by decide, by decide, by decide⟩, len10 (by simp), fun O nO => ?_⟩
    refine ⟨_, rfl, a, _, _, rfl, hP.new nO, by omega, by decide, Bd.small 20 (by decide) (by decide), fun i H1 i0 i1 hP1 f1 => ?_⟩
    have eO := f1.l _ _ (upd_same (H := H) (a := O) (o := .lst [.int 5, .int 30, .int (10 ^ (9 : Int).toNat)]))
    obtain ⟨x, hx, mx⟩ := at_in (xs := [.int 5, .int 30, .int (10 ^ (9 : Int).toNat)]) i0 (by show i < 3; omega)
    refine ⟨O, _, _, _, rfl, rfl, SqL.of eO, hx, ?_⟩
    have f1 := (Fr.new nO).trans f1
    obtain ⟨sc, rfl, s1, s2⟩ : ∃ sc : Int, x = .int sc ∧ 1 ≤ sc ∧ sc ≤ 1000000000 := by
      simp only [List.mem_cons, List.not_mem_nil, or_false] at mx
      rcases mx with rfl | rfl | rfl <;> exact ⟨_, rfl, by decide, by decide⟩
    clear mx hx eO
    have bs : ∀ x : Int, x.natAbs < 2 ^ 40 → Bd 100 x := fun x h => Bd.small 40 h (by decide)
    refine ⟨_, rfl, _, rfl, a, _, _, rfl, hP1, by omega, by omega, (bs _ (by omega)).mono (by decide), fun p H2 p0 p1 hP2 f2 => ?_⟩
    refine ⟨_, rfl, _, rfl, a, _, _, rfl, hP2, by omega, by omega, (bs _ (by omega)).mono (by decide), fun q' H3 q0 q1 hP3 f3 => ?_⟩
    refine ⟨_, _, rfl, rfl, _, _, rfl, ?_⟩
    refine ⟨_, rfl, _, rfl, _, _, rfl, rfl, .inl ⟨by decide, by decide⟩, a, _, _, rfl, hP3, by omega, by omega, (bs _ (by omega)).mono (by decide), fun c H4 c0 c1 hP4 f4 => ?_⟩
    refine ⟨_, rfl, _, _, rfl, rfl, ?_⟩
    refine ⟨_, rfl, _, rfl, p, 1 + q', rfl, p0, by omega, ?_⟩
    refine ⟨_, _, rfl, ?_⟩
    have q1' : 1 ≤ 1 + q' := by omega
    have gp : (0 : Int) < (Int.gcd p (1 + q') : Int) := gcd_pos q1'
    have gb : (Int.gcd p (1 + q') : Int) ≤ 1 + q' := by
      have := Int.gcd_le_natAbs_right p (show (1 + q') ≠ 0 by omega)
      omega
    have hd : CDivW 0 (Int.gcd p (1 + q') : Int) := ⟨gp, ((bs _ (by omega)).mono (by decide : 100 ≤ 9000)).log (by decide)⟩
    have R : RuleB 100 (p / (Int.gcd p (1 + q') : Int)) ((1 + q') / (Int.gcd p (1 + q') : Int)) ((c - sc) / (Int.gcd p (1 + q') : Int)) := low_rule p0 q1' (bs _ (by omega)) (bs _ (by omega)) (bs _ (by omega))
    refine ⟨_, rfl, _, rfl, _, _, rfl, rfl, hd, _, rfl, _, rfl, _, _, rfl, rfl, hd, _, rfl, _, rfl, _, _, rfl, rfl, hd, len10 (by simp), fun r nr => ?_⟩
    exact kk r _ _ _ _ R upd_same ((hP4.new nr).mono (by omega)) (f1.trans (f2.trans (f3.trans (f4.trans (Fr.new nr)))))
/-! ### _law_count -/
def spCount30 : Sp := fun vs H Q _ => ∃ (r : Addr) (p q c t : Int) (k : Nat), vs = [.ref r, .int t] ∧ H r = some (.tup [.int p, .int q, .int c]) ∧ RuleB k p q c ∧ Bd k t ∧ 0 < k ∧ k ≤ 3000 ∧ Q (.int ((p * t + c) / q)) H
abbrev s_l_count : Stmt := topS 37
abbrev N_l_count : List Str := ["_law_rule_here", "_law_t"]
abbrev P_l_count : List Str := ["_law_rule_here", "_law_t"]
theorem sc_l_count : FnScope N_l_count P_l_count (defScope s_l_count) := ⟨rfl, rfl, rfl, by decide +kernel, rfl, by decide +kernel, by decide +kernel⟩
theorem ok_l_count (D : Df K mg "_law_count" s_l_count P_l_count) : C8.Cal P w K mg base 1 "_law_count" spCount30 [] := by
  refine cal_of D sc_l_count (fun vs H Q E h => ?_) (fun f cdv A outer s H vs Q E hr h => ?_)
  · obtain ⟨r, p, q, c, t, k, rfl, _⟩ := h
    rfl
  · obtain ⟨r, p, q, c, t, k, rfl, er, R, bt, k0, k3, kk⟩ := h
    refine ⟨_, (pss_one (ps_ret (pe_op op_fdivW (pe_op op_add (pe_op op_mulW (pe_ix (r := rIxT K) ix_tup (pv 0) pe_int (fun _ _ => rfl)) (pv 1)) (pe_ix (r := rIxT K) ix_tup (pv 0) pe_int (fun _ _ => rfl))) (pe_ix (r := rIxT K) ix_tup (pv 0) pe_int (fun _ _ => rfl))))), ?_⟩
    refine ⟨_, rfl, r, _, _, _, rfl, rfl, SqT.of er, atI_nat (j := 0) rfl, _, rfl, _, _, rfl, rfl, mulW R.bp bt k0 k0 (by omega), ?_⟩
    refine ⟨_, rfl, r, _, _, _, rfl, rfl, SqT.of er, atI_nat (j := 2) rfl, _, _, rfl, rfl, ?_⟩
    refine ⟨_, rfl, r, _, _, _, rfl, rfl, SqT.of er, atI_nat (j := 1) rfl, _, _, rfl, rfl, divW (by have := R.q1; omega) R.bq (by omega), kk⟩
end
end Lf
namespace Lf
open PySem PySem.Spec PyProof.Rows L2
/-! ### a log: its entries -/
inductive Wt
  | rd (d : Rec)
  | tr (b : Bool)
structure En where
  m : Int
  w : Str
  x : Wt
def WtAt (H : Hp) : Wt → V → Prop
  | .rd d, v => ∃ a, v = .ref a ∧ H a = some (rcO d)
  | .tr b, v => v = .bl b
def EnAt (H : Hp) (r : Addr) (e : En) : Prop := ∃ v, H r = some (.tup [.int e.m, .str e.w, v]) ∧ WtAt H e.x v
def TupKp (H H' : Hp) : Prop := ∀ b xs, H b = some (.tup xs) → H' b = some (.tup xs)
theorem TupKp.same {H H' : Hp} (s : Same H H') : TupKp H H' := fun b xs e => s _ _ e
theorem WtAt.kp {H H' : Hp} {x : Wt} {v : V} (h : WtAt H x v) (k : TupKp H H') : WtAt H' x v := by
  cases x with
  | rd d =>
    obtain ⟨a, e, h⟩ := h
    exact ⟨a, e, k _ _ h⟩
  | tr b => exact h
theorem EnAt.kp {H H' : Hp} {r : Addr} {e : En} (h : EnAt H r e) (k : TupKp H H') : EnAt H' r e := by
  obtain ⟨v, h1, h2⟩ := h
  exact ⟨v, k _ _ h1, h2.kp k⟩
inductive EnL (H : Hp) : List V → List En → Prop
  | nil : EnL H [] []
  | cons {r : Addr} {e : En} {vs : List V} {es : List En} : EnAt H r e → EnL H vs es → EnL H (.ref r :: vs) (e :: es)
theorem EnL.kp {H H' : Hp} (k : TupKp H H') : ∀ {vs es}, EnL H vs es → EnL H' vs es
  | _, _, .nil => .nil
  | _, _, .cons h r => .cons (h.kp k) (r.kp k)
theorem EnL.len {H : Hp} : ∀ {vs es}, EnL H vs es → vs.length = es.length
  | _, _, .nil => rfl
  | _, _, .cons _ r => congrArg (· + 1) r.len
theorem EnL.at {H : Hp} : ∀ {vs es}, EnL H vs es → ∀ {i : Nat} {v : V}, vs[i]? = some v → ∃ r e, v = .ref r ∧ EnAt H r e ∧ es[i]? = some e
  | _, _, .nil, _, _, h => by simp at h
  | _, _, .cons h _, 0, _, hv => by
    cases hv
    exact ⟨_, _, rfl, h, rfl⟩
  | _, _, .cons _ r, i + 1, _, hv => r.at (i := i) hv
theorem EnL.snoc {H : Hp} {r : Addr} {e : En} : ∀ {vs es}, EnL H vs es → EnAt H r e → EnL H (vs ++ [.ref r]) (es ++ [e])
  | _, _, .nil, h => .cons h .nil
  | _, _, .cons h r, h2 => .cons h (r.snoc h2)
/-- the dict of a log, in step with its entries -/
inductive KvL (H : Hp) : List (Key × V) → List En → Prop
  | nil : KvL H [] []
  | cons {r : Addr} {e : En} {kvs : List (Key × V)} {es : List En} : EnAt H r e → KvL H kvs es → KvL H ((Sum.inl e.m, .ref r) :: kvs) (e :: es)
theorem KvL.kp {H H' : Hp} (k : TupKp H H') : ∀ {kvs es}, KvL H kvs es → KvL H' kvs es
  | _, _, .nil => .nil
  | _, _, .cons h r => .cons (h.kp k) (r.kp k)
theorem KvL.len {H : Hp} : ∀ {kvs es}, KvL H kvs es → kvs.length = es.length
  | _, _, .nil => rfl
  | _, _, .cons _ r => congrArg (· + 1) r.len
theorem KvL.keys {H : Hp} : ∀ {kvs es}, KvL H kvs es → kvs.map (·.1) = (es.map (·.m)).map Sum.inl
  | _, _, .nil => rfl
  | _, _, .cons _ r => congrArg (Sum.inl _ :: ·) r.keys
theorem KvL.none {H : Hp} {m : Int} : ∀ {kvs es}, KvL H kvs es → m ∉ es.map (·.m) → valV kvs (Sum.inl m) = none
  | _, _, .nil, _ => rfl
  | _, _, .cons (e := e) _ r, h => by
    rw [List.map_cons, List.mem_cons, not_or] at h
    rw [valV_neg (fun z => h.1 (Sum.inl.inj z).symm)]
    exact r.none h.2
theorem KvL.some {H : Hp} {e : En} : ∀ {kvs es}, KvL H kvs es → (es.map (·.m)).Nodup → e ∈ es → ∃ r, valV kvs (Sum.inl e.m) = some (.ref r) ∧ EnAt H r e
  | _, _, .nil, _, h => by cases h
  | _, _, .cons (e := e') (es := es) h r, nd, hm => by
    rw [List.map_cons, List.nodup_cons] at nd
    rcases List.mem_cons.mp hm with rfl | hm
    · exact ⟨_, valV_pos rfl, h⟩
    · have ne : e'.m ≠ e.m := fun z => nd.1 (by rw [z]; exact List.mem_map.mpr ⟨e, hm, rfl⟩)
      rw [valV_neg (fun z => ne (Sum.inl.inj z))]
      exact r.some nd.2 hm
theorem KvL.snoc {H : Hp} {r : Addr} {e : En} : ∀ {kvs es}, KvL H kvs es → EnAt H r e → KvL H (kvs ++ [(Sum.inl e.m, .ref r)]) (es ++ [e])
  | _, _, .nil, h => .cons h .nil
  | _, _, .cons h r, h2 => .cons h (r.snoc h2)
/-- an instance whose dict holds these entries, in the order in which they were entered -/
structure LogAt (C : Addr) (H : Hp) (o D : Addr) (es : List En) : Prop where
  o : ∃ dx, H o = some (.ins C dx [("held", .ref D)])
  d : ∃ kvs, H D = some (.dK kvs) ∧ KvL H kvs es
  nd : (es.map (·.m)).Nodup
theorem LogAt.same {C : Addr} {H H' : Hp} {o D : Addr} {es : List En} (h : LogAt C H o D es) (s : Same H H') : LogAt C H' o D es := by
  obtain ⟨⟨dx, h1⟩, ⟨kvs, h2, h3⟩, h4⟩ := h
  exact ⟨⟨dx, s _ _ h1⟩, ⟨kvs, s _ _ h2, h3.kp (.same s)⟩, h4⟩
/-- all but the log's dict stays -/
def KpD (D : Addr) (H H' : Hp) : Prop := ∀ b o, H b = some o → b ≠ D → H' b = some o
theorem KpD.same {D : Addr} {H H' : Hp} (s : Same H H') : KpD D H H' := fun b o e _ => s b o e
theorem KpD.trans {D : Addr} {H H' H'' : Hp} (h : KpD D H H') (g : KpD D H' H'') : KpD D H H'' := fun b o e n => g b o (h b o e n) n
theorem KpD.tup {D : Addr} {H H' : Hp} {kvs : List (Key × V)} (h : KpD D H H') (e : H D = some (.dK kvs)) : TupKp H H' := fun b xs eb => h b _ eb fun z => by
  rw [z, e] at eb
  cases eb
/-! ### which records count -/
def upB (u : Option Int) (e : En) : Bool := match u with
  | none => true
  | some t => decide (e.m ≤ t)
def lastTr : List En → Str → Option Bool
  | [], _ => none
  | e :: r, w => match lastTr r w with
    | some b => some b
    | none => match e.x with
      | .tr b => if e.w = w then some b else none
      | .rd _ => none
theorem lastTr_snoc (e : En) (w : Str) : ∀ es : List En, lastTr (es ++ [e]) w = match e.x with
    | .tr b => if e.w = w then some b else lastTr es w
    | .rd _ => lastTr es w
  | [] => by
    show lastTr [e] w = _
    unfold lastTr
    show (match e.x with
      | .tr b => if e.w = w then some b else none
      | .rd _ => none) = _
    cases e.x <;> rfl
  | x :: r => by
    have ih := lastTr_snoc e w r
    show (match lastTr (r ++ [e]) w with
      | some b => some b
      | none => match x.x with
        | .tr b => if x.w = w then some b else none
        | .rd _ => none) = _
    rw [ih]
    cases hx : e.x with
    | rd d => rfl
    | tr b =>
      show (match (if e.w = w then some b else lastTr r w) with
        | some b => some b
        | none => match x.x with
          | .tr b => if x.w = w then some b else none
          | .rd _ => none) = if e.w = w then some b else lastTr (x :: r) w
      by_cases c : e.w = w
      · rw [if_pos c, if_pos c]
      · rw [if_neg c, if_neg c]
        rfl
def truOf (es : List En) (w : Str) : Bool := (lastTr es w).getD true
/-- the reports that count, of the list ts among the entries es -/
def repsOf (es : List En) : List En → List (Str × Rec)
  | [] => []
  | e :: r => match e.x with
    | .rd d => if truOf es e.w = true then (e.w, d) :: repsOf es r else repsOf es r
    | .tr _ => repsOf es r
theorem repsOf_snoc (es : List En) (e : En) : ∀ ts : List En, repsOf es (ts ++ [e]) = repsOf es ts ++ (match e.x with
    | .rd d => if truOf es e.w = true then [(e.w, d)] else []
    | .tr _ => [])
  | [] => by
    show (match e.x with
      | .rd d => if truOf es e.w = true then (e.w, d) :: repsOf es [] else repsOf es []
      | .tr _ => repsOf es []) = _
    cases e.x <;> rfl
  | x :: r => by
    have ih := repsOf_snoc es e r
    show (match x.x with
      | .rd d => if truOf es x.w = true then (x.w, d) :: repsOf es (r ++ [e]) else repsOf es (r ++ [e])
      | .tr _ => repsOf es (r ++ [e])) = (match x.x with
      | .rd d => if truOf es x.w = true then (x.w, d) :: repsOf es r else repsOf es r
      | .tr _ => repsOf es r) ++ _
    rw [ih]
    cases x.x with
    | rd d =>
      by_cases c : truOf es x.w = true
      · simp only [c, if_true]
        rfl
      · simp only [c]
        rfl
    | tr b => rfl
inductive RepL (H : Hp) : List V → List (Str × Rec) → Prop
  | nil : RepL H [] []
  | cons {r a : Addr} {w : Str} {d : Rec} {vs : List V} {ps : List (Str × Rec)} : H r = some (.tup [.str w, .ref a]) → H a = some (rcO d) → RepL H vs ps → RepL H (.ref r :: vs) ((w, d) :: ps)
theorem RepL.kp {H H' : Hp} (k : TupKp H H') : ∀ {vs ps}, RepL H vs ps → RepL H' vs ps
  | _, _, .nil => .nil
  | _, _, .cons h1 h2 r => .cons (k _ _ h1) (k _ _ h2) (r.kp k)
theorem RepL.len {H : Hp} : ∀ {vs ps}, RepL H vs ps → vs.length = ps.length
  | _, _, .nil => rfl
  | _, _, .cons _ _ r => congrArg (· + 1) r.len
theorem RepL.at {H : Hp} : ∀ {vs ps}, RepL H vs ps → ∀ {i : Nat} {v : V}, vs[i]? = some v → ∃ r a p, v = .ref r ∧ H r = some (.tup [.str p.1, .ref a]) ∧ H a = some (rcO p.2) ∧ ps[i]? = some p
  | _, _, .nil, _, _, h => by simp at h
  | _, _, .cons h1 h2 _, 0, _, hv => by
    cases hv
    exact ⟨_, _, _, rfl, h1, h2, rfl⟩
  | _, _, .cons _ _ r, i + 1, _, hv => r.at (i := i) hv
theorem RepL.snoc {H : Hp} {r a : Addr} {w : Str} {d : Rec} (h1 : H r = some (.tup [.str w, .ref a])) (h2 : H a = some (rcO d)) : ∀ {vs ps}, RepL H vs ps → RepL H (vs ++ [.ref r]) (ps ++ [(w, d)])
  | _, _, .nil => .cons h1 h2 .nil
  | _, _, .cons g1 g2 q => .cons g1 g2 (q.snoc h1 h2)
/-- a bound, or none -/
def UntV (v : V) (u : Option Int) : Prop := match u with
  | none => v = .non
  | some t => v = .int t
/-- one to twelve small letters -/
def WitW (w : Str) : Prop := 1 ≤ w.length ∧ w.length ≤ 12 ∧ ∀ c ∈ w.cps.toList, 97 ≤ c ∧ c ≤ 122
end Lf
namespace Lf
open PySem PySem.Spec PyProof.Rows L2
structure LgT (K : PySem.W.Frag) (mg : Str → Option Value) (C : Addr) : Prop where
  c : ClsT K mg "Log" C
  nh : NoAttr K C "held"
theorem putF_nil {f : Str} {v : V} : putF f v [] = [(f, v)] := rfl
section
variable {P : Program} {w : World} {K : PySem.W.Frag} {mg : Str → Option Value} {base : Heap} {C : Addr}
/-! ### Log(): an empty log -/
def spInitL (C : Addr) : Sp := fun vs H Q _ => ∃ (H0 : Hp) (o dx : Addr), vs = [.ref o] ∧ Same H0 H ∧ H0 o = none ∧ H o = some (.ins C dx []) ∧
  ∀ H' D, Same H0 H' → H0 D = none → LogAt C H' o D [] → Q .non H'
abbrev s_Log_init : Stmt := (C8.clsBody (topS 22)).getD 0 (.Pass ⟨0, 0, 0, 0⟩)
abbrev N_Log_init : List Str := ["self"]
abbrev P_Log_init : List Str := ["self"]
theorem sc_Log_init : FnScope N_Log_init P_Log_init (defScope s_Log_init) := ⟨rfl, rfl, rfl, by decide +kernel, rfl, by decide +kernel, by decide +kernel⟩
theorem okM_Log_init (TK : LgT K mg C) (D : Dm K C "__init__" "Log.__init__" s_Log_init P_Log_init) : C8.Mak P w K mg base 1 "Log" C (spInitL C) [] := by
  refine mak_of TK.c D sc_Log_init (fun vs H Q E h => ?_) (fun f cdv A outer s H vs Q E hr h => ?_)
  · obtain ⟨H0, o, dx, rfl, _⟩ := h
    rfl
  · obtain ⟨H0, o, dx, rfl, s0, no, eo, kk⟩ := h
    refine ⟨_, (pss_one (ps_fld (pv 0) pe_dnewK rfl)), ?_⟩
    intro Dd nD
    have zD := sm_upd (o := .dK []) nD
    refine ⟨_, rfl, o, C, dx, _, rfl, zD _ _ eo, TK.c.cl, TK.nh, by decide, ?_⟩
    rw [putF_nil]
    have ne : Dd ≠ o := fun z => by
      rw [z, eo] at nD
      cases nD
    refine kk _ Dd (fun b x e => ?_) ?_ ⟨⟨dx, upd_same⟩, ⟨[], ?_, .nil⟩, List.nodup_nil⟩
    · rw [upd_ne (ne_of_none e no)]
      exact zD _ _ (s0 _ _ e)
    · exact nf_of s0 nD
    · rw [upd_ne ne]
      exact upd_same
/-! ### enter -/
def spEnter (C : Addr) : Sp := fun vs H Q _ => ∃ (o t D : Addr) (es : List En) (e : En), vs = [.ref o, .ref t] ∧ LogAt C H o D es ∧ EnAt H t e ∧ e.m ∉ es.map (·.m) ∧ es.length ≤ 500 ∧ ∀ H', KpD D H H' → LogAt C H' o D (es ++ [e]) → Q .non H'
abbrev s_Log_enter : Stmt := (C8.clsBody (topS 22)).getD 5 (.Pass ⟨0, 0, 0, 0⟩)
abbrev N_Log_enter : List Str := ["self", "entry"]
abbrev P_Log_enter : List Str := ["self", "entry"]
theorem sc_Log_enter : FnScope N_Log_enter P_Log_enter (defScope s_Log_enter) := ⟨rfl, rfl, rfl, by decide +kernel, rfl, by decide +kernel, by decide +kernel⟩
theorem okM_Log_enter (TK : LgT K mg C) (D : Dm K C "enter" "Log.enter" s_Log_enter P_Log_enter) : C8.Met P w K mg base 1 C "enter" (spEnter C) [] := by
  refine met_of TK.c.cl D sc_Log_enter (fun vs H Q E h => ?_) (fun f cdv A outer s H vs Q E hr h => ?_)
  · obtain ⟨o, t, D, es, e, rfl, _⟩ := h
    rfl
  · obtain ⟨o, t, D, es, e, rfl, hL, hE, hn, hl, kk⟩ := h
    have hu := hu_of hr
    refine ⟨_, (pss_cons (ps_if (pt_cmp (pc_din hu (pe_ix (r := rIxT K) ix_tup (pv 1) pe_int (fun _ _ => rfl)) (pe_fld (pv 0) rfl)))
      (pss_one ps_never)
      pss_nil)
    (pss_one (ps_dput hu (pe_fld (pv 0) rfl) (pe_ix (r := rIxT K) ix_tup (pv 1) pe_int (fun _ _ => rfl)) (pv 1) rfl))), ?_⟩
    obtain ⟨⟨dx, eo⟩, ⟨kvs, eD, hK⟩, nd⟩ := hL
    have hE0 := hE
    obtain ⟨v, et, hx⟩ := hE
    have lk := hK.len
    refine ⟨_, rfl, t, _, _, _, rfl, rfl, SqT.of et, atI_nat (j := 0) rfl, _, rfl, o, C, dx, _, _, rfl, eo, TK.c.cl, TK.nh, rfl, D, _, rfl, DGet.k (k := Sum.inl e.m) eD, ?_⟩
    rw [hK.none hn]
    refine ⟨false, rfl, iteF ?_⟩
    refine ⟨_, rfl, _, rfl, o, C, dx, _, _, rfl, eo, TK.c.cl, TK.nh, rfl, _, rfl, t, _, _, _, rfl, rfl, SqT.of et, atI_nat (j := 0) rfl, D, _, rfl, DPut.k (k := Sum.inl e.m) eD (small1000 (by omega)), ?_⟩
    rw [putK_new _ (hK.none hn)]
    have kp : KpD D H (upd H D (.dK (kvs ++ [(Sum.inl e.m, .ref t)]))) := fun b x eb ne => by
      rw [upd_ne ne]
      exact eb
    have tk := kp.tup eD
    have oD : o ≠ D := fun z => by
      rw [z, eD] at eo
      cases eo
    refine kk _ kp ⟨⟨dx, kp _ _ eo oD⟩, ⟨_, upd_same, (hK.kp tk).snoc (hE0.kp tk)⟩, ?_⟩
    rw [List.map_append, List.nodup_append]
    refine ⟨nd, by simp, fun a ha b hb => ?_⟩
    rw [List.map_cons, List.map_nil, List.mem_singleton] at hb
    intro z
    rw [← hb, ← z] at hn
    exact hn ha
end
end Lf
namespace Lf
open PySem PySem.Spec PyProof.Rows L2
structure Bw (mg : Str → Option Value) : Prop where
  abc_ : ∃ t, mg "LETTERS" = some (.str "abcdefghijklmnopqrstuvwxyz" t)
  most_ : ∃ t, mg "MOST_LETTERS" = some (.int 12 t)
theorem kss : kitB "str" "str" = some true := by decide +kernel
theorem abc_cps : (Str.ofString "abcdefghijklmnopqrstuvwxyz").cps.toList = (List.range 26).map (97 + ·) := by decide +kernel
theorem abc_in {c : Nat} (h1 : 97 ≤ c) (h2 : c ≤ 122) : c ∈ (Str.ofString "abcdefghijklmnopqrstuvwxyz").cps.toList := by
  rw [abc_cps]
  exact List.mem_map.mpr ⟨c - 97, List.mem_range.mpr (by omega), by omega⟩
section
variable {P : Program} {w : World} {K : PySem.W.Frag} {mg : Str → Option Value} {base : Heap} {C : Addr}
def spWit : Sp := fun vs H Q _ => ∃ z : Str, vs = [.str z] ∧ WitW z ∧ ∀ H', Same H H' → Q (.bl true) H'
abbrev s_is_witness : Stmt := topS 21
abbrev N_is_witness : List Str := ["value", "letter"]
abbrev P_is_witness : List Str := ["value"]
theorem sc_is_witness : FnScope N_is_witness P_is_witness (defScope s_is_witness) := ⟨rfl, rfl, rfl, by decide +kernel, rfl, by decide +kernel, by decide +kernel⟩
theorem ok_is_witness (D : Df K mg "is_witness" s_is_witness P_is_witness) (B : Bi mg) (UE : Bw mg) : C8.Cal P w K mg base 1 "is_witness" spWit [] := by
  obtain ⟨tL, hc_LETTERS⟩ := UE.abc_
  obtain ⟨tM, hc_MOST_LETTERS⟩ := UE.most_
  refine cal_of D sc_is_witness (fun vs H Q E h => ?_) (fun f cdv A outer s H vs Q E hr h => ?_)
  · obtain ⟨z, rfl, _⟩ := h
    rfl
  · obtain ⟨z, rfl, hw, kk⟩ := h
    refine ⟨_, (pss_cons (ps_if (PW.pt (pw_or (pt_not (pt_val (pe_callB (call_isi) (by rfl) B.isinstance_ bt_isinstance (pa_cons (pv 0) (pa_cons (pe_bltn (v := .ty "str") (by rfl) B.str_ bt_str rfl) pa_nil))))) (pw_or1 (pt_not (pt_chain op_le op_le pe_int (pe_callB (call_len_str) (by rfl) B.len_ bt_len (pa_cons (pv 0) pa_nil)) (pe_glob (v := .int 12) (by rfl) hc_MOST_LETTERS ⟨_, rfl⟩))))))
      (pss_one (ps_ret pe_bl))
      pss_nil)
    (pss_one (ps_ret (pe_callB (cr_all rfl) (by rfl) B.all_ bt_all (pa_cons (pe_lc (own := [("letter", 1)]) (g := (gName 1)) (by rfl) sc_is_witness.nd (pi_str (pv 0)) (blkOk_by (own := [("letter", 1)]) (N := N_is_witness) (sc := defScope s_is_witness) (by decide +kernel)) (fun _ _ _ _ _ => (pg_name (i := 1) sc_is_witness.nd rfl (Or.inl rfl))) (fun _ _ _ _ _ => pts_nil) (fun _ _ _ _ _ => (pe_cmpR op_in_sign (pv 1) (pe_glob (v := .str "abcdefghijklmnopqrstuvwxyz") (by rfl) hc_LETTERS ⟨_, rfl⟩) rfl))) pa_nil))))), ?_⟩
    obtain ⟨w1, w2, w3⟩ := hw
    have hz : z.cps.size = z.length := rfl
    refine ⟨_, rfl, _, _, _, _, true, rfl, .ty "str", .base (.str z), kit_ty kss, true, rfl, iteF ?_⟩
    refine ⟨_, rfl, z, rfl, by rw [sizeLine_eq]; omega, _, _, rfl, rfl, _, rfl, ?_⟩
    refine iteD (show (1 : Int) ≤ ((z.length : Nat) : Int) by omega) ⟨_, _, rfl, rfl, _, rfl, ?_⟩
    refine iteNS (show ((z.length : Nat) : Int) ≤ 12 by omega) ?_
    refine ⟨_, rfl, z, rfl, fun Y nY => ?_⟩
    refine lc_it (walk_str (z := z)) (fun i H' => Same H H' ∧ H' Y = some (.lst ((List.replicate i true).map V.bl))) ⟨sm_upd nY, upd_same⟩ (fun _ _ _ _ => trivial) ?_ ?_
    · rintro i x H' _ hi ⟨s', eY⟩ ⟨rfl, c, hc, rfl⟩
      have hm : c ∈ z.cps.toList := by
        rw [← Array.getElem?_toList] at hc
        exact List.mem_of_getElem? hc
      have ha := abc_in (w3 c hm).1 (w3 c hm).2
      refine ⟨rfl, _, rfl, c, _, rfl, rfl, _, eY, ?_, ?_, ?_⟩
      · rw [List.length_map, List.length_replicate]
        exact small1000 (by omega)
      · intro b o eb
        rw [upd_ne (ne_of_none eb nY)]
        exact s' _ _ eb
      · rw [upd_same, List.replicate_succ', List.map_append, decide_eq_true ha]
        rfl
    rintro H' ⟨s', eY⟩
    refine ⟨Y, _, rfl, SqL.of eY, ?_⟩
    have e : (List.replicate z.cps.size true).all id = true := by
      rw [List.all_eq_true]
      exact fun x hx => by rw [List.eq_of_mem_replicate hx]; rfl
    rw [e]
    exact kk _ s'
def spSrc : Sp := fun vs H Q _ => ∃ (m : Int) (z : Str), vs = [.int m, .str z] ∧ 0 ≤ m ∧ WitW z ∧ ∀ H', Same H H' → Q .non H'
def spRep (C : Addr) : Sp := fun vs H Q E => ∃ (m : Int) (z : Str) (d : Rec) (o r : Addr), vs = [.ref o, .int m, .str z, .ref r] ∧ H r = some (rcO d) ∧ ∃ (D : Addr) (es : List En), LogAt C H o D es ∧ 0 ≤ m ∧ WitW z ∧ m ∉ es.map (·.m) ∧ es.length ≤ 500 ∧ ∀ H', KpD D H H' → LogAt C H' o D (es ++ [⟨m, z, .rd d⟩]) → Q .non H'
abbrev s_Log_report : Stmt := (C8.clsBody (topS 22)).getD 2 (.Pass ⟨0, 0, 0, 0⟩)
abbrev N_Log_report : List Str := ["self", "moment", "witness", "record"]
abbrev P_Log_report : List Str := ["self", "moment", "witness", "record"]
theorem sc_Log_report : FnScope N_Log_report P_Log_report (defScope s_Log_report) := ⟨rfl, rfl, rfl, by decide +kernel, rfl, by decide +kernel, by decide +kernel⟩
def spTr (C : Addr) (b : Bool) : Sp := fun vs H Q E => ∃ (m : Int) (z : Str) (o : Addr), vs = [.ref o, .int m, .str z] ∧ ∃ (D : Addr) (es : List En), LogAt C H o D es ∧ 0 ≤ m ∧ WitW z ∧ m ∉ es.map (·.m) ∧ es.length ≤ 500 ∧ ∀ H', KpD D H H' → LogAt C H' o D (es ++ [⟨m, z, .tr b⟩]) → Q .non H'
abbrev s_Log_trust : Stmt := (C8.clsBody (topS 22)).getD 4 (.Pass ⟨0, 0, 0, 0⟩)
abbrev N_Log_trust : List Str := ["self", "moment", "witness"]
abbrev P_Log_trust : List Str := ["self", "moment", "witness"]
theorem sc_Log_trust : FnScope N_Log_trust P_Log_trust (defScope s_Log_trust) := ⟨rfl, rfl, rfl, by decide +kernel, rfl, by decide +kernel, by decide +kernel⟩
abbrev s_Log_distrust : Stmt := (C8.clsBody (topS 22)).getD 3 (.Pass ⟨0, 0, 0, 0⟩)
abbrev N_Log_distrust : List Str := ["self", "moment", "witness"]
abbrev P_Log_distrust : List Str := ["self", "moment", "witness"]
theorem sc_Log_distrust : FnScope N_Log_distrust P_Log_distrust (defScope s_Log_distrust) := ⟨rfl, rfl, rfl, by decide +kernel, rfl, by decide +kernel, by decide +kernel⟩
end
end Lf
namespace Lf
open PySem PySem.Spec PyProof.Rows L2
theorem perm_lift {α β : Type} (f : α → β) {ys xs : List β} (p : ys.Perm xs) : ∀ {es : List α}, xs = es.map f → ∃ fs : List α, fs.Perm es ∧ fs.map f = ys := by
  induction p with
  | nil =>
    intro es h
    exact ⟨[], by rw [List.map_eq_nil_iff.mp h.symm], rfl⟩
  | cons x p ih =>
    intro es h
    cases es with
    | nil => cases h
    | cons e es =>
      obtain ⟨h1, h2⟩ := List.cons.inj h
      obtain ⟨fs, q, e2⟩ := ih h2
      exact ⟨e :: fs, q.cons _, by rw [List.map_cons, e2, h1]⟩
  | swap x y l =>
    intro es h
    cases es with
    | nil => cases h
    | cons e es =>
      cases es with
      | nil => cases h
      | cons e' es =>
        obtain ⟨h1, h2⟩ := List.cons.inj h
        obtain ⟨h3, h4⟩ := List.cons.inj h2
        exact ⟨e' :: e :: es, List.Perm.swap _ _ _, by rw [List.map_cons, List.map_cons, h1, h3, h4]⟩
  | trans p1 p2 ih1 ih2 =>
    intro es h
    obtain ⟨fs, q, e⟩ := ih2 h
    obtain ⟨gs, q2, e2⟩ := ih1 e.symm
    exact ⟨gs, q2.trans q, e2⟩
theorem repsOf_len (es : List En) : ∀ ts : List En, (repsOf es ts).length ≤ ts.length
  | [] => Nat.le_refl _
  | e :: r => by
    have ih := repsOf_len es r
    unfold repsOf
    cases e.x with
    | rd d =>
      show (if truOf es e.w = true then (e.w, d) :: repsOf es r else repsOf es r).length ≤ r.length + 1
      split
      · show (repsOf es r).length + 1 ≤ r.length + 1
        omega
      · omega
    | tr b =>
      show (repsOf es r).length ≤ r.length + 1
      omega
theorem put_keys {kvs : List (Key × V)} {k : Key} {v : V} : (putK kvs k v).map (·.1) = if (valV kvs k).isSome = true then kvs.map (·.1) else kvs.map (·.1) ++ [k] := by
  unfold putK
  rw [valV_any]
  by_cases c : (valV kvs k).isSome = true
  · rw [if_pos c, if_pos c, List.map_map]
    refine List.map_congr_left fun p _ => ?_
    show (if p.1 = k then (p.1, v) else p).1 = p.1
    split <;> rfl
  · rw [if_neg c, if_neg c, List.map_append]
    rfl
theorem ktb : kitB "tuple" "bool" = some false := by decide +kernel
theorem kbb : kitB "bool" "bool" = some true := by decide +kernel
section
variable {P : Program} {w : World} {K : PySem.W.Frag} {mg : Str → Option Value} {base : Heap} {C : Addr}
def spEnts (C : Addr) : Sp := fun vs H Q _ => ∃ (o D : Addr) (u : V) (t : Option Int) (es : List En), vs = [.ref o, u] ∧ LogAt C H o D es ∧ UntV u t ∧ es.length ≤ 500 ∧
  ∀ F H' vs' (fs : List En), H F = none → Same H H' → H' F = some (.lst vs') → fs.Perm es → (fs.map (·.m)).Pairwise (· ≤ ·) → EnL H' vs' (fs.filter (upB t)) → Q (.ref F) H'
abbrev s_Log_entries : Stmt := (C8.clsBody (topS 22)).getD 7 (.Pass ⟨0, 0, 0, 0⟩)
abbrev N_Log_entries : List Str := ["self", "until", "moment"]
abbrev P_Log_entries : List Str := ["self", "until"]
theorem sc_Log_entries : FnScope N_Log_entries P_Log_entries (defScope s_Log_entries) := ⟨rfl, rfl, rfl, by decide +kernel, rfl, by decide +kernel, by decide +kernel⟩
theorem okO_Log_entries (TK : LgT K mg C) (D : DmO K C "entries" "Log.entries" s_Log_entries P_Log_entries 1 "until") (B : Bi mg) : C8.Met P w K mg base 1 C "entries" (spEnts C) [.non] ∧ MetO P w K mg base 1 C "entries" (spEnts C) 1 "until" := by
  refine meto_of TK.c.cl D sc_Log_entries (fun vs H Q E h => ?_) (fun f cdv A outer s H vs Q E hr h => ?_)
  · obtain ⟨o, D, u, t, es, rfl, _⟩ := h
    rfl
  · obtain ⟨o, D, u, t, es, rfl, hL, hu', hl, kk⟩ := h
    have hu := hu_of hr
    refine ⟨_, (pss_one (ps_ret (pe_lc (own := [("moment", 2)]) (g := (gName 2)) (by rfl) sc_Log_entries.nd (pi_list (pe_callB ((cr_sortDI rfl)) (by rfl) B.sorted_ bt_sorted (pa_cons (pe_fld (pv 0) rfl) pa_nil))) (blkOk_by (own := [("moment", 2)]) (N := N_Log_entries) (sc := defScope s_Log_entries) (by decide +kernel)) (fun _ _ _ _ _ => (pg_name (i := 2) sc_Log_entries.nd rfl (Or.inl rfl))) (fun _ _ _ _ _ => (pts_one (PW.pt (pw_or (pt_cmpR op_isN (pv 1) pe_non (nomark _)) (pw_or1 (pt_cmpR op_le (pv 2) (pv 1) (nomark _))))))) (fun _ _ _ _ _ => (show PE _ _ (tDGet (tFld K (tVar 0) "held") (tVar 2)) from (pe_dget hu (pe_fld (pv 0) rfl) (pv 2) (fun _ _ => rfl))))))), ?_⟩
    obtain ⟨⟨dx, eo⟩, ⟨kvs, eD, hK⟩, nd⟩ := hL
    refine ⟨_, rfl, o, C, dx, _, _, rfl, eo, TK.c.cl, TK.nh, rfl, D, kvs, es.map (·.m), rfl, .inl eD, hK.keys, fun ys p pm srt np => ?_⟩
    obtain ⟨fs, pf, ef⟩ := perm_lift (fun e : En => e.m) pm rfl
    subst ef
    have zp := sm_upd (o := .lst ((fs.map (·.m)).map V.int)) np
    have lf := pf.length_eq
    refine ⟨p, rfl, ⟨_, SqL.of upd_same⟩, fun Y nY => ?_⟩
    have zY := sm_upd (o := .lst []) nY
    have nY0 := nf_of zp nY
    have Yp : Y ≠ p := fun z => by
      rw [z, upd_same] at nY
      cases nY
    refine lc_list (K := K) (a := p) (xs := (fs.map (·.m)).map V.int) (fun i H' => Same H H' ∧ H' p = some (.lst ((fs.map (·.m)).map V.int)) ∧ ∃ vs', H' Y = some (.lst vs') ∧ vs'.length ≤ i ∧ EnL H' vs' ((fs.take i).filter (upB t))) ⟨zp.trans zY, zY _ _ upd_same, [], upd_same, Nat.le_refl _, .nil⟩ ?_ ?_ ?_
    · rintro i H' _ ⟨_, e, _⟩
      exact SqL.of e
    · rintro i v H' hv ⟨s', ep, vs', eY, lv, hv'⟩
      rw [List.getElem?_map, Option.map_eq_some_iff] at hv
      obtain ⟨m, hm, rfl⟩ := hv
      rw [List.getElem?_map, Option.map_eq_some_iff] at hm
      obtain ⟨e, he, rfl⟩ := hm
      have hi := (List.getElem?_eq_some_iff.mp he).1
      have me : e ∈ es := pf.mem_iff.mp (List.mem_of_getElem? he)
      obtain ⟨r, hr', hE⟩ := hK.some nd me
      have hE := hE.kp (.same s')
      have gt : DGet H' D (.int e.m) (some (.ref r)) := by
        rw [← hr']
        exact DGet.k (k := Sum.inl e.m) (s' _ _ eD)
      have tk : TupKp H' (upd H' Y (.lst (vs' ++ [.ref r]))) := fun b xs eb => by
        rw [upd_ne (fun z => by rw [z, eY] at eb; cases eb)]
        exact eb
      have fin : upB t e = true → vs'.length < sizeLine ∧ Same H (upd H' Y (.lst (vs' ++ [.ref r]))) ∧ (upd H' Y (.lst (vs' ++ [.ref r]))) p = some (.lst ((fs.map (·.m)).map V.int)) ∧ ∃ ws, (upd H' Y (.lst (vs' ++ [.ref r]))) Y = some (.lst ws) ∧ ws.length ≤ i + 1 ∧ EnL (upd H' Y (.lst (vs' ++ [.ref r]))) ws ((fs.take (i + 1)).filter (upB t)) := fun ho => by
        refine ⟨small1000 (by omega), fun b o eb => ?_, ?_, vs' ++ [.ref r], upd_same, by rw [List.length_append]; show vs'.length + 1 ≤ i + 1; omega, ?_⟩
        · rw [upd_ne (ne_of_none eb nY0)]
          exact s' _ _ eb
        · rw [upd_ne Yp.symm]
          exact ep
        · rw [List.take_add_one, he, List.filter_append]
          have e1 : List.filter (upB t) (some e).toList = [e] := by
            show List.filter (upB t) [e] = [e]
            rw [List.filter_cons_of_pos ho]
            rfl
          rw [e1]
          exact (hv'.kp tk).snoc (hE.kp tk)
      have skip : upB t e = false → Same H H' ∧ H' p = some (.lst ((fs.map (·.m)).map V.int)) ∧ ∃ vs', H' Y = some (.lst vs') ∧ vs'.length ≤ i + 1 ∧ EnL H' vs' ((fs.take (i + 1)).filter (upB t)) := fun ho => by
        refine ⟨s', ep, vs', eY, by omega, ?_⟩
        rw [List.take_add_one, he, List.filter_append]
        have e1 : List.filter (upB t) (some e).toList = [] := by
          show List.filter (upB t) [e] = []
          rw [List.filter_cons_of_neg (by rw [ho]; simp)]
          rfl
        rw [e1, List.append_nil]
        exact hv'
      cases t with
      | none =>
        have hu' : u = .non := hu'
        subst hu'
        refine ⟨rfl, _, rfl, rfl, _, rfl, iteTs rfl (iteT ?_)⟩
        exact ⟨_, rfl, o, C, dx, _, _, rfl, s' _ _ eo, TK.c.cl, TK.nh, rfl, _, rfl, D, .ref r, rfl, gt, vs', eY, fin rfl⟩
      | some tm =>
        have hu' : u = .int tm := hu'
        subst hu'
        refine ⟨rfl, _, rfl, rfl, _, rfl, iteFs rfl ⟨_, rfl, _, rfl, _, _, rfl, rfl, _, rfl, ite2 (fun c => ?_) (fun c => ?_)⟩⟩
        · exact ⟨_, rfl, o, C, dx, _, _, rfl, s' _ _ eo, TK.c.cl, TK.nh, rfl, _, rfl, D, .ref r, rfl, gt, vs', eY, fin c⟩
        · exact skip (by simpa [upB] using c)
    rintro H' ⟨s', ep, vs', eY, lv, hv'⟩
    rw [List.length_map, List.length_map, List.take_length] at hv'
    exact kk Y H' vs' fs nY0 s' eY pf srt hv'
def spReps (C : Addr) : Sp := fun vs H Q _ => ∃ (o D : Addr) (u : V) (t : Option Int) (es : List En), vs = [.ref o, u] ∧ LogAt C H o D es ∧ UntV u t ∧ es.length ≤ 500 ∧
  ∀ F H' vs' (fs : List En), Same H H' → H' F = some (.lst vs') → fs.Perm es → (fs.map (·.m)).Pairwise (· ≤ ·) → RepL H' vs' (repsOf (fs.filter (upB t)) (fs.filter (upB t))) → Q (.ref F) H'
abbrev s_Log_reports : Stmt := (C8.clsBody (topS 22)).getD 9 (.Pass ⟨0, 0, 0, 0⟩)
abbrev N_Log_reports : List Str := ["self", "until", "entries", "trusted", "moment", "witness", "what"]
abbrev P_Log_reports : List Str := ["self", "until"]
theorem sc_Log_reports : FnScope N_Log_reports P_Log_reports (defScope s_Log_reports) := ⟨rfl, rfl, rfl, by decide +kernel, rfl, by decide +kernel, by decide +kernel⟩
theorem okM_Log_reports (TK : LgT K mg C) (D : Dm K C "reports" "Log.reports" s_Log_reports P_Log_reports) (B : Bi mg) (cO_Log_entries : MetO P w K mg base 1 C "entries" (spEnts C) 1 "until") : C8.Met P w K mg base 2 C "reports" (spReps C) [] := by
  refine met_of TK.c.cl D sc_Log_reports (fun vs H Q E h => ?_) (fun f cdv A outer s H vs Q E hr h => ?_)
  · obtain ⟨o, D, u, t, es, rfl, _⟩ := h
    rfl
  · obtain ⟨o, D, u, t, es, rfl, hL, hu', hl, kk⟩ := h
    have hu := hu_of hr
    refine ⟨_, (pss_cons (ps_set (i := 2) sc_Log_reports.nd rfl (Or.inl rfl) (pe_mkw (pv 0) cO_Log_entries hr (by decide) (pk_cons (pv 1) pk_nil)))
    (C8.pss_cut (ps_set (i := 3) sc_Log_reports.nd rfl (Or.inr rfl) (pe_dc (own := [("moment", 4), ("witness", 5), ("what", 6)]) (g := (gTup K 3 (gCons (gName 4) (gCons (gName 5) (gCons (gName 6) gNil))))) (by rfl) sc_Log_reports.nd (pi_list (pv 2)) (blkOk_by (own := [("moment", 4), ("witness", 5), ("what", 6)]) (N := N_Log_reports) (sc := defScope s_Log_reports) (by decide +kernel)) (fun _ _ _ _ _ => (pg_tup rfl (pgs_cons (pg_name (i := 4) sc_Log_reports.nd rfl (Or.inl rfl)) (pgs_cons (pg_name (i := 5) sc_Log_reports.nd rfl (Or.inl rfl)) (pgs_cons (pg_name (i := 6) sc_Log_reports.nd rfl (Or.inl rfl)) pgs_nil))))) (fun _ _ _ _ _ => (pts_one (pt_val (pe_callB ((show CallR _ _ (rIsi K) from call_isi)) (by rfl) B.isinstance_ bt_isinstance (pa_cons (pv 6) (pa_cons (pe_bltn (v := .ty "bool") (by rfl) B.bool_ bt_bool rfl) pa_nil)))))) (fun _ _ _ _ _ => (pv 5)) (fun _ _ _ _ _ => (pv 6))))
    (pss_one (ps_ret (pe_lc (own := [("moment", 4), ("witness", 5), ("what", 6)]) (g := (gTup K 3 (gCons (gName 4) (gCons (gName 5) (gCons (gName 6) gNil))))) (by rfl) sc_Log_reports.nd (pi_list (pv 2)) (blkOk_by (own := [("moment", 4), ("witness", 5), ("what", 6)]) (N := N_Log_reports) (sc := defScope s_Log_reports) (by decide +kernel)) (fun _ _ _ _ _ => (pg_tup rfl (pgs_cons (pg_name (i := 4) sc_Log_reports.nd rfl (Or.inl rfl)) (pgs_cons (pg_name (i := 5) sc_Log_reports.nd rfl (Or.inl rfl)) (pgs_cons (pg_name (i := 6) sc_Log_reports.nd rfl (Or.inl rfl)) pgs_nil))))) (fun _ _ _ _ _ => (pts_one (PW.pt (pw_and (pt_not (pt_val (pe_callB ((show CallR _ _ (rIsi K) from call_isi)) (by rfl) B.isinstance_ bt_isinstance (pa_cons (pv 6) (pa_cons (pe_bltn (v := .ty "bool") (by rfl) B.bool_ bt_bool rfl) pa_nil))))) (pw_and1 (pt_val (pe_dget2 hu (pv 3) (pv 5) pe_bl ⟨rfl, by rfl, by rfl, rfl⟩))))))) (fun _ _ _ _ _ => (pe_tup (pa_cons (pv 5) (pa_cons (pv 6) pa_nil))))))))), ?_⟩
    obtain ⟨dx, eo⟩ := hL.o
    refine ⟨_, rfl, o, dx, _, rfl, eo, rfl, _, rfl, rfl, o, D, u, t, es, rfl, hL, hu', hl, fun F H1 vs1 fs _ s1 eF pf srt hE => ?_⟩
    have lg : (fs.filter (upB t)).length ≤ 500 := Nat.le_trans (List.length_filter_le _ _) (by rw [pf.length_eq]; exact hl)
    obtain ⟨gs, hg⟩ : ∃ gs, fs.filter (upB t) = gs := ⟨_, rfl⟩
    have kk := fun F H' vs' a b c => kk F H' vs' fs a b pf srt c
    rw [hg] at hE lg kk
    have l1 := hE.len
    refine ⟨fun σ' H' => ∃ (T : Addr) (kvs : List (Key × V)), σ' = [some (.ref o), some u, some (.ref F), some (.ref T), none, none, none] ∧ Same H1 H' ∧ H' T = some (.dK kvs) ∧ ∀ w, valV kvs (Sum.inr w) = (lastTr gs w).map V.bl, ?_, ?_⟩
    · refine ⟨_, rfl, F, rfl, ⟨_, SqL.of eF⟩, fun T nT => ?_⟩
      refine dc_it (walk_list (K := K) (a := F) (xs := vs1)) (fun i H' => Same H1 H' ∧ ∃ kvs, H' T = some (.dK kvs) ∧ kvs.length ≤ i ∧ ∀ w, valV kvs (Sum.inr w) = (lastTr (gs.take i) w).map V.bl) ⟨sm_upd nT, [], upd_same, Nat.le_refl _, fun w => rfl⟩ ?_ ?_ ?_
      · rintro i H' _ ⟨s', _⟩
        exact SqL.of (s' _ _ eF)
      · rintro i x H' H'' hi ⟨s', kvs, eT, lk, hk⟩ ⟨rfl, hx⟩
        obtain ⟨r, e, rfl, ⟨v, er, hv⟩, he⟩ := (hE.kp (.same s')).at hx
        refine ⟨r, _, rfl, SqT.of er, rfl, _, _, rfl, _, _, rfl, _, _, rfl, rfl, ?_⟩
        have tk : gs.take (i + 1) = gs.take i ++ [e] := by
          rw [List.take_add_one, he]
          rfl
        cases hx : e.x with
        | tr b =>
          rw [hx] at hv
          have hv : v = .bl b := hv
          subst hv
          refine ⟨rfl, _, rfl, _, _, _, _, true, rfl, .ty "bool", .base (.bl b), kit_ty kbb, true, rfl, iteT ?_⟩
          refine ⟨_, rfl, _, rfl, kvs, Sum.inr e.w, rfl, eT, small1000 (by omega), fun b' o' eb => ?_, _, upd_same, ?_, fun w => ?_⟩
          · rw [upd_ne (ne_of_none eb nT)]
            exact s' _ _ eb
          · have := congrArg List.length (put_keys (kvs := kvs) (k := Sum.inr e.w) (v := V.bl b))
            rw [List.length_map] at this
            rw [this]
            split
            · rw [List.length_map]
              omega
            · rw [List.length_append, List.length_map]
              show kvs.length + 1 ≤ i + 1
              omega
          · rw [valV_put, tk, lastTr_snoc, hx, hk w]
            show (if Sum.inr w = (Sum.inr e.w : Key) then some (V.bl b) else (lastTr (gs.take i) w).map V.bl) = (if e.w = w then some b else lastTr (gs.take i) w).map V.bl
            by_cases c : e.w = w
            · rw [if_pos c, if_pos (by rw [c])]
              rfl
            · rw [if_neg c, if_neg (fun z => c (Sum.inr.inj z).symm)]
        | rd d =>
          rw [hx] at hv
          obtain ⟨a, rfl, ha⟩ := hv
          refine ⟨rfl, _, rfl, _, _, _, _, false, rfl, .ty "bool", .base (.tup ha), kit_ty ktb, false, rfl, iteF ⟨s', kvs, eT, by omega, fun w => ?_⟩⟩
          rw [tk, lastTr_snoc, hx]
          exact hk w
      rintro H' ⟨s', kvs, eT, lk, hk⟩
      rw [l1, List.take_length] at hk
      exact ⟨T, kvs, rfl, s', eT, hk⟩
    rintro σ H2 ⟨T, kvs, rfl, s2, eT, hk⟩
    have eF2 := s2 _ _ eF
    have hE2 := hE.kp (.same s2)
    refine ⟨_, rfl, F, rfl, ⟨_, SqL.of eF2⟩, fun Y nY => ?_⟩
    refine lc_list (K := K) (a := F) (xs := vs1) (fun i H' => Same H2 H' ∧ ∃ vs', H' Y = some (.lst vs') ∧ vs'.length ≤ i ∧ RepL H' vs' (repsOf gs (gs.take i))) ⟨sm_upd nY, [], upd_same, Nat.le_refl _, .nil⟩ ?_ ?_ ?_
    · rintro i H' _ ⟨s', _⟩
      exact SqL.of (s' _ _ eF2)
    · rintro i x H' hx ⟨s', vs', eY, lv, hR⟩
      obtain ⟨r, e, rfl, ⟨v, er, hv⟩, he⟩ := (hE2.kp (.same s')).at hx
      have hi := (List.getElem?_eq_some_iff.mp he).1
      refine ⟨r, _, rfl, SqT.of er, rfl, _, _, rfl, _, _, rfl, _, _, rfl, rfl, ?_⟩
      have tk : gs.take (i + 1) = gs.take i ++ [e] := by
        rw [List.take_add_one, he]
        rfl
      cases hx : e.x with
      | tr b =>
        rw [hx] at hv
        have hv : v = .bl b := hv
        subst hv
        refine ⟨rfl, _, rfl, _, _, _, _, true, rfl, .ty "bool", .base (.bl b), kit_ty kbb, true, rfl, iteF (iteF ⟨s', vs', eY, by omega, ?_⟩)⟩
        rw [tk, repsOf_snoc, hx, List.append_nil]
        exact hR
      | rd d =>
        rw [hx] at hv
        obtain ⟨a, rfl, ha⟩ : ∃ a, v = .ref a ∧ H' a = some (rcO d) := hv
        have eg : (valV kvs (Sum.inr e.w)).getD (.bl true) = .bl (truOf gs e.w) := by
          rw [hk e.w]
          unfold truOf
          cases lastTr gs e.w <;> rfl
        refine ⟨rfl, _, rfl, _, _, _, _, false, rfl, .ty "bool", .base (.tup ha), kit_ty ktb, false, rfl, iteT ?_⟩
        refine ⟨_, rfl, T, rfl, .inl ⟨kvs, .inl (s' _ _ eT)⟩, _, rfl, _, DGet.k (k := Sum.inr e.w) (s' _ _ eT), ?_⟩
        rw [eg]
        refine ⟨_, rfl, ite2 (fun c => ?_) (fun c => ?_)⟩
        · refine ⟨_, rfl, _, rfl, len10 (by simp), fun t' nt => ?_⟩
          have zt := sm_upd (o := .tup [.str e.w, .ref a]) nt
          refine ⟨vs', zt _ _ eY, small1000 (by omega), fun b' o' eb => ?_, vs' ++ [.ref t'], upd_same, by rw [List.length_append]; show vs'.length + 1 ≤ i + 1; omega, ?_⟩
          · rw [upd_ne (ne_of_none eb nY)]
            exact zt _ _ (s' _ _ eb)
          · rw [tk, repsOf_snoc, hx]
            show RepL _ _ (repsOf gs (gs.take i) ++ (if truOf gs e.w = true then [(e.w, d)] else []))
            rw [if_pos c]
            have kp : TupKp (upd H' t' (.tup [.str e.w, .ref a])) (upd (upd H' t' (.tup [.str e.w, .ref a])) Y (.lst (vs' ++ [.ref t']))) := fun b' xs' eb => by
              rw [upd_ne (fun z => by rw [z, zt _ _ eY] at eb; cases eb)]
              exact eb
            exact ((hR.kp (.same zt)).kp kp).snoc (kp _ _ upd_same) (kp _ _ (zt _ _ ha))
        · refine ⟨s', vs', eY, by omega, ?_⟩
          rw [tk, repsOf_snoc, hx]
          show RepL _ _ (repsOf gs (gs.take i) ++ (if truOf gs e.w = true then [(e.w, d)] else []))
          rw [if_neg c, List.append_nil]
          exact hR
    rintro H' ⟨s', vs', eY, lv, hR⟩
    rw [l1, List.take_length] at hR
    exact kk Y H' vs' (s1.trans (s2.trans s')) eY hR
def spRecs (C : Addr) : Sp := fun vs H Q _ => ∃ (o D : Addr) (u : V) (t : Option Int) (es : List En), vs = [.ref o, u] ∧ LogAt C H o D es ∧ UntV u t ∧ es.length ≤ 500 ∧
  ∀ F H' vs' (fs : List En), Same H H' → H F = none → H' F = some (.lst vs') → fs.Perm es → (fs.map (·.m)).Pairwise (· ≤ ·) → Obs rcO H' vs' ((repsOf (fs.filter (upB t)) (fs.filter (upB t))).map (·.2)) → Q (.ref F) H'
abbrev s_Log_records : Stmt := (C8.clsBody (topS 22)).getD 8 (.Pass ⟨0, 0, 0, 0⟩)
abbrev N_Log_records : List Str := ["self", "until", "witness", "record"]
abbrev P_Log_records : List Str := ["self", "until"]
theorem sc_Log_records : FnScope N_Log_records P_Log_records (defScope s_Log_records) := ⟨rfl, rfl, rfl, by decide +kernel, rfl, by decide +kernel, by decide +kernel⟩
theorem okO_Log_records (TK : LgT K mg C) (D : DmO K C "records" "Log.records" s_Log_records P_Log_records 1 "until") (B : Bi mg) (c_Log_reports : C8.Met P w K mg base 2 C "reports" (spReps C) []) : C8.Met P w K mg base 3 C "records" (spRecs C) [.non] ∧ MetO P w K mg base 3 C "records" (spRecs C) 1 "until" := by
  refine meto_of TK.c.cl D sc_Log_records (fun vs H Q E h => ?_) (fun f cdv A outer s H vs Q E hr h => ?_)
  · obtain ⟨o, D, u, t, es, rfl, _⟩ := h
    rfl
  · obtain ⟨o, D, u, t, es, rfl, hL, hu', hl, kk⟩ := h
    refine ⟨_, (pss_one (ps_ret (pe_lc (own := [("witness", 2), ("record", 3)]) (g := (gTup K 2 (gCons (gName 2) (gCons (gName 3) gNil)))) (by rfl) sc_Log_records.nd (pi_list (C8.pe_mt c_Log_reports hr (by decide) (pv 0) (pa_cons (pv 1) pa_nil))) (blkOk_by (own := [("witness", 2), ("record", 3)]) (N := N_Log_records) (sc := defScope s_Log_records) (by decide +kernel)) (fun _ _ _ _ _ => (pg_tup rfl (pgs_cons (pg_name (i := 2) sc_Log_records.nd rfl (Or.inl rfl)) (pgs_cons (pg_name (i := 3) sc_Log_records.nd rfl (Or.inl rfl)) pgs_nil)))) (fun _ _ _ _ _ => pts_nil) (fun _ _ _ _ _ => (pv 3))))), ?_⟩
    obtain ⟨dx, eo⟩ := hL.o
    refine ⟨_, rfl, o, dx, _, rfl, eo, rfl, _, rfl, o, D, u, t, es, rfl, hL, hu', hl, fun F H1 vs1 fs s1 eF pf srt hR => ?_⟩
    have kk := fun F H' vs' a b c d => kk F H' vs' fs a b c pf srt d
    have l9 : (repsOf (fs.filter (upB t)) (fs.filter (upB t))).length ≤ 500 := Nat.le_trans (repsOf_len _ _) (Nat.le_trans (List.length_filter_le _ _) (by rw [pf.length_eq]; exact hl))
    generalize repsOf (fs.filter (upB t)) (fs.filter (upB t)) = ps at hR kk l9
    have l1 := hR.len
    refine ⟨F, rfl, ⟨_, SqL.of eF⟩, fun Y nY => ?_⟩
    refine lc_list (K := K) (a := F) (xs := vs1) (fun i H' => Same H1 H' ∧ ∃ vs', H' Y = some (.lst vs') ∧ vs'.length ≤ i ∧ Obs rcO H' vs' ((ps.take i).map (·.2))) ⟨sm_upd nY, [], upd_same, Nat.le_refl _, .nil⟩ ?_ ?_ ?_
    · rintro i H' _ ⟨s', _⟩
      exact SqL.of (s' _ _ eF)
    · rintro i x H' hx ⟨s', vs', eY, lv, oR⟩
      obtain ⟨r, a, p, rfl, er, ha, he⟩ := (hR.kp (.same s')).at hx
      have hi := (List.getElem?_eq_some_iff.mp hx).1
      refine ⟨r, _, rfl, SqT.of er, rfl, _, _, rfl, _, _, rfl, rfl, ?_⟩
      refine ⟨rfl, _, rfl, vs', eY, ?_, fun b' o' eb => ?_, vs' ++ [.ref a], upd_same, by rw [List.length_append]; show vs'.length + 1 ≤ i + 1; omega, ?_⟩
      · exact small1000 (by omega)
      · rw [upd_ne (ne_of_none eb nY)]
        exact s' _ _ eb
      · rw [List.take_add_one, he, List.map_append]
        exact (oR.snoc (d := p.2) ha).keep fun b d' eb => by
          rw [upd_ne (ne_of eb eY (by intro z; cases z))]
          exact eb
    rintro H' ⟨s', vs', eY, lv, oR⟩
    rw [l1, List.take_length] at oR
    exact kk Y H' vs' (s1.trans s') (nf_of s1 nY) eY oR
end
end Lf
namespace Lf
open PySem PySem.Spec PyProof.Rows L2
section
variable {P : Program} {w : World} {K : PySem.W.Frag} {mg : Str → Option Value} {base : Heap} {C : Addr}
/-! ### _law_record -/
def WtB : Wt → Prop
  | .rd d => Bd 300 d.t ∧ Bd 300 d.n
  | .tr _ => True
def spRec81 : Sp := fun vs H Q _ => ∃ (a : PA) (n : Nat) (r : Addr) (p q c : Int), vs = [.ref a, .ref r] ∧ Pen H a n ∧ n < 2 ^ 38 ∧ H r = some (.tup [.int p, .int q, .int c]) ∧ RuleB 100 p q c ∧
  ∀ y d H', H' y = some (rcO d) → Bd 300 d.t → Bd 300 d.n → Pen H' a (n + 8) → Fr H H' → Q (.ref y) H'
abbrev s_l_record : Stmt := topS 38
abbrev N_l_record : List Str := ["_law_state", "_law_rule_here", "_law_t", "_law_here", "_law_off"]
abbrev P_l_record : List Str := ["_law_state", "_law_rule_here"]
theorem sc_l_record : FnScope N_l_record P_l_record (defScope s_l_record) := ⟨rfl, rfl, rfl, by decide +kernel, rfl, by decide +kernel, by decide +kernel⟩
theorem ok_l_record (D : Df K mg "_law_record" s_l_record P_l_record) (B : Bi mg) (c_l_draw : C8.Cal P w K mg base 1 "_law_draw" spDraw []) (c_l_count : C8.Cal P w K mg base 1 "_law_count" spCount30 []) : C8.Cal P w K mg base 2 "_law_record" spRec81 [] := by
  refine cal_of D sc_l_record (fun vs H Q E h => ?_) (fun f cdv A outer s H vs Q E hr h => ?_)
  · obtain ⟨a, n, r, p, q, c, rfl, _⟩ := h
    rfl
  · obtain ⟨a, n, r, p, q, c, rfl, hP, hn, er, R, kk⟩ := h
    refine ⟨_, (pss_cons (ps_set (i := 2) sc_l_record.nd rfl (Or.inl rfl) (pe_op op_sub (pe_ix (r := rIxL K) ix_list (pe_lst (pa_cons (C8.pe_c c_l_draw hr (by decide) (by rfl) (pa_cons (pv 0) (pa_cons pe_int pa_nil))) (pa_cons (C8.pe_c c_l_draw hr (by decide) (by rfl) (pa_cons (pv 0) (pa_cons pe_int pa_nil))) (pa_cons (C8.pe_c c_l_draw hr (by decide) (by rfl) (pa_cons (pv 0) (pa_cons (pe_op op_pow pe_int pe_int) pa_nil))) pa_nil)))) (C8.pe_c c_l_draw hr (by decide) (by rfl) (pa_cons (pv 0) (pa_cons pe_int pa_nil))) (fun _ _ => rfl)) pe_int))
    (pss_cons (ps_par (i := 3) (j := 4) rfl sc_l_record.nd rfl rfl (by decide) rfl rfl (pa_cons (C8.pe_c c_l_count hr (by decide) (by rfl) (pa_cons (pv 1) (pa_cons (pv 2) pa_nil))) (pa_cons (C8.pe_c c_l_draw hr (by decide) (by rfl) (pa_cons (pv 0) (pa_cons pe_int pa_nil))) pa_nil)) rfl)
    (pss_cons (ps_if (pt_cmpR op_eq (C8.pe_c c_l_draw hr (by decide) (by rfl) (pa_cons (pv 0) (pa_cons pe_int pa_nil))) pe_int (nomark _))
      (pss_one (ps_ret (pe_ix (r := rIxL K) ix_list (pe_lst (pa_cons (pe_tup (pa_cons pe_str (pa_cons (pv 2) (pa_cons (pe_op op_sub (pe_op op_sub (pv 3) pe_int) (pv 4)) pa_nil)))) (pa_cons (pe_tup (pa_cons pe_str (pa_cons (pv 2) (pa_cons (pe_op op_add (pe_op op_add (pv 3) pe_int) (pv 4)) pa_nil)))) pa_nil))) (C8.pe_c c_l_draw hr (by decide) (by rfl) (pa_cons (pv 0) (pa_cons pe_int pa_nil))) (fun _ _ => rfl))))
      pss_nil)
    (pss_one (ps_ret (pe_ix (r := rIxL K) ix_list (pe_lst (pa_cons (pe_tup (pa_cons pe_str (pa_cons (pv 2) (pa_cons (pe_op op_add (pv 3) (pv 4)) pa_nil)))) (pa_cons (pe_tup (pa_cons pe_str (pa_cons (pv 2) (pa_cons (pe_op op_sub (pv 3) (pv 4)) pa_nil)))) pa_nil))) (C8.pe_c c_l_draw hr (by decide) (by rfl) (pa_cons (pv 0) (pa_cons pe_int pa_nil))) (fun _ _ => rfl))))))), ?_⟩
    have dB : ∀ x : Int, 0 < x → x < 2 ^ 36 → Bd 9000 x := fun x h0 h => Bd.small 40 (by omega) (by decide)
    refine ⟨_, rfl, a, _, _, rfl, hP, by omega, by decide, dB _ (by decide) (by decide), fun t1 H1 t10 t11 hP1 f1 => ?_⟩
    refine ⟨_, rfl, a, _, _, rfl, hP1, by omega, by decide, dB _ (by decide) (by decide), fun t2 H2 t20 t21 hP2 f2 => ?_⟩
    refine ⟨_, rfl, _, _, rfl, rfl, ⟨by decide, by decide, by decide⟩, a, _, _, rfl, hP2, by omega, by decide, dB _ (by decide) (by decide), fun t3 H3 t30 t31 hP3 f3 => ?_⟩
    refine ⟨len10 (by simp), fun O nO => ?_⟩
    refine ⟨_, rfl, a, _, _, rfl, hP3.new nO, by omega, by decide, dB _ (by decide) (by decide), fun i H4 i0 i1 hP4 f4 => ?_⟩
    have eO := f4.l _ _ (upd_same (H := H3) (a := O) (o := .lst [.int t1, .int t2, .int t3]))
    obtain ⟨x, hx, mx⟩ := at_in (xs := [.int t1, .int t2, .int t3]) i0 (by show i < 3; omega)
    refine ⟨O, _, _, _, rfl, rfl, SqL.of eO, hx, ?_⟩
    have f4 := f1.trans (f2.trans (f3.trans ((Fr.new nO).trans f4)))
    obtain ⟨t, rfl, u1, u2⟩ : ∃ t : Int, x = .int t ∧ 0 ≤ t ∧ t < 1000000000 := by
      have h3 : (10 : Int) ^ (9 : Int).toNat = 1000000000 := by decide
      rw [h3] at t31
      simp only [List.mem_cons, List.not_mem_nil, or_false] at mx
      rcases mx with rfl | rfl | rfl
      · exact ⟨_, rfl, t10, by omega⟩
      · exact ⟨_, rfl, t20, by omega⟩
      · exact ⟨_, rfl, t30, t31⟩
    clear mx hx eO
    refine ⟨_, _, rfl, rfl, ?_⟩
    have er4 := f4.t _ _ er
    refine ⟨_, rfl, _, rfl, r, p, q, c, t - 20, 100, rfl, er4, R, Bd.small 40 (by omega) (by decide), by decide, by decide, ?_⟩
    have bh : Bd 290 ((p * (t - 20) + c) / q) := by
      have b1 : Bd 200 (p * (t - 20)) := R.bp.mul (Bd.small 40 (by omega) (by decide) : Bd 100 (t - 20))
      have b2 : Bd 201 (p * (t - 20) + c) := b1.add (R.bc.mono (by decide))
      exact (b2.ediv (by have := R.q1; omega)).mono (by decide)
    have bt : Bd 300 (t - 20) := Bd.small 40 (by omega) (by decide)
    generalize (p * (t - 20) + c) / q = h at bh ⊢
    have b3 : ∀ x : Int, x.natAbs < 2 ^ 20 → Bd 290 x := fun x hx => Bd.small 20 hx (by decide)
    refine ⟨_, rfl, a, _, _, rfl, hP4, by omega, by decide, dB _ (by decide) (by decide), fun o H5 o0 o1 hP5 f5 => ⟨_, _, rfl, ?_⟩⟩
    refine ⟨_, rfl, a, _, _, rfl, hP5, by omega, by decide, dB _ (by decide) (by decide), fun z H6 z0 z1 hP6 f6 => ⟨rfl, _, rfl, ?_⟩⟩
    have f6 := f4.trans (f5.trans f6)
    have fin : ∀ (k1 k2 : Int) (R1 R2 O : Addr) (H8 : Hp), Bd 300 k1 → Bd 300 k2 → H8 R1 = some (rcO ⟨false, t - 20, k1⟩) → H8 R2 = some (rcO ⟨true, t - 20, k2⟩) → H8 O = some (.lst [.ref R1, .ref R2]) → Pen H8 a (n + 6) → Fr H H8 →
        tCall spDraw [] C8.E0 (tCons (tVar 0) (tCons (tC (.int 2)) tNil)) [some (.ref a.d), some (.ref r), some (.int (t - 20)), some (.int h), some (.int o)] H8 fun y H' => rIxL K (.ref O) y H' Q := fun k1 k2 R1 R2 O H8 bk1 bk2 e1 e2 eO hP8 f8 => by
      refine ⟨_, rfl, a, _, _, rfl, hP8, by omega, by decide, dB _ (by decide) (by decide), fun i H9 i0 i1 hP9 f9 => ?_⟩
      obtain ⟨x, hx, mx⟩ := at_in (xs := [V.ref R1, V.ref R2]) i0 (by show i < 2; omega)
      refine ⟨O, _, _, _, rfl, rfl, SqL.of (f9.l _ _ eO), hx, ?_⟩
      simp only [List.mem_cons, List.not_mem_nil, or_false] at mx
      rcases mx with rfl | rfl
      · exact kk _ _ _ (f9.t _ _ e1) bt bk1 (hP9.mono (by omega)) (f8.trans f9)
      · exact kk _ _ _ (f9.t _ _ e2) bt bk2 (hP9.mono (by omega)) (f8.trans f9)
    refine ite2 (fun cz => ?_) (fun cz => ?_)
    · refine ⟨_, rfl, _, rfl, _, _, rfl, rfl, _, rfl, _, _, rfl, rfl, len10 (by simp), fun R1 nR1 => ?_⟩
      have z1 := sm_upd (o := rcO ⟨false, t - 20, h - 1 - o⟩) nR1
      refine ⟨_, rfl, _, rfl, _, _, rfl, rfl, _, rfl, _, _, rfl, rfl, len10 (by simp), fun R2 nR2 => ⟨len10 (by simp), fun O nO => ?_⟩⟩
      have z2 := sm_upd (o := rcO ⟨true, t - 20, h + 1 + o⟩) nR2
      have z3 := sm_upd (o := .lst [.ref R1, .ref R2]) nO
      exact fin _ _ R1 R2 O _ (((bh.sub (b3 1 (by decide))).sub ((b3 o (by omega)).mono (by decide))).mono (by decide)) (((bh.add (b3 1 (by decide))).add ((b3 o (by omega)).mono (by decide))).mono (by decide)) (z3 _ _ (z2 _ _ upd_same)) (z3 _ _ upd_same) upd_same (((hP6.same z1).same z2).same z3) (f6.trans (Fr.same (z1.trans (z2.trans z3))))
    · refine ⟨_, rfl, _, rfl, _, rfl, _, _, rfl, rfl, len10 (by simp), fun R1 nR1 => ?_⟩
      have z1 := sm_upd (o := rcO ⟨false, t - 20, h + o⟩) nR1
      refine ⟨_, rfl, _, rfl, _, rfl, _, _, rfl, rfl, len10 (by simp), fun R2 nR2 => ⟨len10 (by simp), fun O nO => ?_⟩⟩
      have z2 := sm_upd (o := rcO ⟨true, t - 20, h - o⟩) nR2
      have z3 := sm_upd (o := .lst [.ref R1, .ref R2]) nO
      exact fin _ _ R1 R2 O _ ((bh.add (b3 o (by omega))).mono (by decide)) ((bh.sub (b3 o (by omega))).mono (by decide)) (z3 _ _ (z2 _ _ upd_same)) (z3 _ _ upd_same) upd_same (((hP6.same z1).same z2).same z3) (f6.trans (Fr.same (z1.trans (z2.trans z3))))
end
end Lf
namespace Lf
open PySem PySem.Spec PyProof.Rows L2
theorem joinL_nil : ∀ ls : List (List Nat), TL.joinL [] ls = ls.flatten
  | [] => rfl
  | [p] => by
    show p = (p :: []).flatten
    simp
  | p :: q :: r => by
    show p ++ ([] ++ TL.joinL [] (q :: r)) = p ++ (q :: r).flatten
    rw [joinL_nil (q :: r)]
    rfl
/-- small letters only -/
def SmlW (z : Str) : Prop := ∀ c ∈ z.cps.toList, 97 ≤ c ∧ c ≤ 122
def oneS (c : Nat) : Str := ⟨#[c]⟩
theorem SmlW.cat {y z : Str} (hy : SmlW y) (hz : SmlW z) : SmlW (y ++ z) := fun c hc => by
  have e : (y ++ z).cps.toList = y.cps.toList ++ z.cps.toList := TL.tl_append y z
  rw [e] at hc
  rcases List.mem_append.mp hc with h | h
  · exact hy c h
  · exact hz c h
theorem len_cat (y z : Str) : (y ++ z).length = y.length + z.length := by
  rw [TL.len_tl, TL.len_tl y, TL.len_tl z, TL.tl_append, List.length_append]
theorem SmlW.cut {z : Str} (h : SmlW z) (lo hi : Option Int) : SmlW (cutS z lo hi) := fun c hc => h c (by
  have hc : c ∈ ((z.cps.toList.drop (HT.sIx z.length 0 lo)).take (HT.sIx z.length z.length hi - HT.sIx z.length 0 lo)) := hc
  exact List.mem_of_mem_drop (List.mem_of_mem_take hc))
theorem SmlW.one {c : Nat} (h1 : 97 ≤ c) (h2 : c ≤ 122) : SmlW (oneS c) := fun x hx => by
  have hx : x ∈ [c] := hx
  rw [List.mem_singleton.mp hx]
  exact ⟨h1, h2⟩
theorem join_one (ys : List Nat) : (Txt.join (Str.ofString "") (ys.map oneS)).cps.toList = ys := by
  have e := TL.tl_join (Str.ofString "") (ys.map oneS)
  rw [← TL.join_eq] at e
  have e0 : TL.tl (Str.ofString "") = [] := by decide +kernel
  have e1 : (ys.map oneS).map TL.tl = ys.map fun c => [c] := by
    rw [List.map_map]
    rfl
  rw [e0, joinL_nil, e1] at e
  have e2 : ∀ l : List Nat, (l.map fun c => [c]).flatten = l := fun l => by
    induction l with
    | nil => rfl
    | cons c l ih =>
      show c :: (l.map fun c => [c]).flatten = _
      rw [ih]
  rw [e2] at e
  exact e
theorem sum_one : ∀ ys : List Nat, ((ys.map oneS).map (·.length)).sum = ys.length
  | [] => rfl
  | c :: ys => by
    show 1 + ((ys.map oneS).map (·.length)).sum = ys.length + 1
    rw [sum_one ys]
    omega
theorem abc_at {d : Int} (h0 : 0 ≤ d) (h1 : d < 26) : ∃ c, atI (Str.ofString "abcdefghijklmnopqrstuvwxyz").cps.toList d = some c ∧ 97 ≤ c ∧ c ≤ 122 := by
  obtain ⟨j, rfl⟩ := Int.eq_ofNat_of_zero_le h0
  have hj : j < 26 := by omega
  refine ⟨97 + j, atI_nat ?_, by omega, by omega⟩
  rw [abc_cps, List.getElem?_map, List.getElem?_range hj]
  rfl
theorem WitW.mk {z : Str} (h1 : 1 ≤ z.length) (h2 : z.length ≤ 12) (h : SmlW z) : WitW z := ⟨h1, h2, h⟩
section
variable {P : Program} {w : World} {K : PySem.W.Frag} {mg : Str → Option Value} {base : Heap} {C : Addr}
/-! ### _law_words -/
abbrev strL (zs : List Str) : List V := zs.map V.str
def spWords : Sp := fun vs H Q _ => ∃ (a : PA) (n : Nat), vs = [.ref a, .int 4] ∧ Pen H a n ∧ n < 2 ^ 38 ∧
  ∀ L zs H', H' L = some (.lst (strL zs)) → zs.length = 4 → (∀ z ∈ zs, WitW z) → Pen H' a (n + 20) → Fr H H' → Q (.ref L) H'
abbrev s_l_words : Stmt := topS 39
abbrev N_l_words : List Str := ["_law_state", "_law_size", "_law_letters", "_law_found", "_law_tail", "_law_begin", "_law_k", "_law_some", "_law_word"]
abbrev P_l_words : List Str := ["_law_state", "_law_size"]
theorem sc_l_words : FnScope N_l_words P_l_words (defScope s_l_words) := ⟨rfl, rfl, rfl, by decide +kernel, rfl, by decide +kernel, by decide +kernel⟩
theorem ok_l_words (D : Df K mg "_law_words" s_l_words P_l_words) (B : Bi mg) (c_l_draw : C8.Cal P w K mg base 1 "_law_draw" spDraw []) : C8.Cal P w K mg base 2 "_law_words" spWords [] := by
  refine cal_of D sc_l_words (fun vs H Q E h => ?_) (fun f cdv A outer s H vs Q E hr h => ?_)
  · obtain ⟨a, n, rfl, _⟩ := h
    rfl
  · obtain ⟨a, n, rfl, hP, hn, kk⟩ := h
    refine ⟨_, (pss_cons (ps_asg (pe_tup (pa_cons pe_str (pa_cons (pe_lst pa_nil) pa_nil))) (pg_tup rfl (pgs_cons (pg_name (i := 2) sc_l_words.nd rfl (Or.inr rfl)) (pgs_cons (pg_name (i := 3) sc_l_words.nd rfl (Or.inl rfl)) pgs_nil))))
    (pss_cons (ps_set (i := 4) sc_l_words.nd rfl (Or.inl rfl) (pe_bm PySem.F.plainAttrs_str PySem.F.slot_str_join PySem.F.type_str_join mt_join pe_str (pa_cons (pe_lc (own := [("_law_k", 6)]) (g := (gName 6)) (by rfl) sc_l_words.nd (pi_range1 rfl B.range_ (pa_cons (C8.pe_c c_l_draw hr (by decide) (by rfl) (pa_cons (pv 0) (pa_cons pe_int pa_nil))) pa_nil)) (blkOk_by (own := [("_law_k", 6)]) (N := N_l_words) (sc := defScope s_l_words) (by decide +kernel)) (fun _ _ _ _ _ => (pg_name (i := 6) sc_l_words.nd rfl (Or.inl rfl))) (fun _ _ _ _ _ => pts_nil) (fun _ _ _ _ _ => (pe_ix ix_str (pv 2) (C8.pe_c c_l_draw hr (by decide) (by rfl) (pa_cons (pv 0) (pa_cons pe_int pa_nil))) (fun _ _ => rfl)))) pa_nil)))
    (pss_cons (ps_set (i := 5) sc_l_words.nd rfl (Or.inl rfl) (C8.pe_c c_l_draw hr (by decide) (by rfl) (pa_cons (pv 0) (pa_cons pe_int pa_nil))))
    (pss_cons (ps_for PassesOwn.never rfl (pi_range1 rfl B.range_ (pa_cons (pv 1) pa_nil)) (pg_name (i := 6) sc_l_words.nd rfl (Or.inl rfl))
      (pss_one (ps_expr (pe_bm PySem.F.plainAttrs_list PySem.F.slot_list_append PySem.F.type_list_append mt_append (pv 3) (pa_cons (pe_op op_add_str (pe_slice sl_str (pv 4) po_none (po_some (pe_op op_mod (pv 6) pe_int))) (pe_ix ix_str (pv 2) (pe_op op_mod (pe_op op_add (pv 5) (pe_op op_mul pe_int (pv 6))) pe_int) (fun _ _ => rfl))) pa_nil)))))
    (pss_cons (ps_set (i := 7) sc_l_words.nd rfl (Or.inl rfl) (pe_lst (pa_cons pe_str (pa_cons pe_str (pa_cons pe_str (pa_cons pe_str (pa_cons pe_str (pa_cons pe_str (pa_cons pe_str (pa_cons pe_str (pa_cons pe_str (pa_cons pe_str (pa_cons pe_str (pa_cons pe_str pa_nil))))))))))))))
    (pss_cons (ps_set (i := 8) sc_l_words.nd rfl (Or.inl rfl) (pe_ix (r := rIxL K) ix_list (pv 7) (C8.pe_c c_l_draw hr (by decide) (by rfl) (pa_cons (pv 0) (pa_cons pe_int pa_nil))) (fun _ _ => rfl)))
    (pss_one (ps_ret (pe_ifExp (PW.pt (pw_or (pt_cmpR op_in_seq (pv 8) (pv 3) rfl) (pw_or1 (pt_cmpR op_eq (C8.pe_c c_l_draw hr (by decide) (by rfl) (pa_cons (pv 0) (pa_cons pe_int pa_nil))) pe_int (nomark _))))) (pv 3) (pe_op op_cat (pe_lst (pa_cons (pv 8) pa_nil)) (pe_slice sl_list (pv 3) (po_some pe_int) po_none))))))))))), ?_⟩
    have dB : ∀ x : Int, 0 < x → x < 2 ^ 36 → Bd 9000 x := fun x h0 h => Bd.small 40 (by omega) (by decide)
    obtain ⟨abc, hab⟩ : ∃ z, Str.ofString "abcdefghijklmnopqrstuvwxyz" = z := ⟨_, rfl⟩
    have al : abc.length = 26 := by rw [← hab]; decide +kernel
    have aat : ∀ {d : Int}, 0 ≤ d → d < 26 → ∃ c, atI abc.cps.toList d = some c ∧ 97 ≤ c ∧ c ≤ 122 := fun h0 h1 => by
      rw [← hab]
      exact abc_at h0 h1
    rw [hab]
    refine ⟨Nat.zero_le _, fun F nF => ⟨len10 (by simp), fun T nT => ⟨T, _, rfl, SqT.of upd_same, rfl, _, _, rfl, _, _, rfl, rfl, ?_⟩⟩⟩
    have zF := sm_upd (o := .lst []) nF
    have zT := sm_upd (o := .tup [.str abc, .ref F]) nT
    have hP0 := (hP.same zF).same zT
    have f0 := Fr.same (zF.trans zT)
    have eF := zT _ _ (upd_same (H := H) (a := F) (o := .lst []))
    have nFH := nF
    generalize upd (upd H F (.lst [])) T (.tup [.str abc, .ref F]) = H0 at hP0 f0 eF ⊢
    refine ⟨rfl, _, rfl, a, _, _, rfl, hP0, by omega, by decide, dB _ (by decide) (by decide), fun k H1 k0 k1 hP1 f1 => ?_⟩
    refine ⟨_, rfl, by omega, by omega, fun Y nY => ?_⟩
    obtain ⟨kn, rfl⟩ := Int.eq_ofNat_of_zero_le k0
    refine lc_range (lo := 0) (n := kn) (fun i H' => ∃ ys : List Nat, H' Y = some (.lst ((ys.map oneS).map V.str)) ∧ ys.length = i ∧ (∀ c ∈ ys, 97 ≤ c ∧ c ≤ 122) ∧ Pen H' a (n + 1 + i) ∧ Fr H1 H') ⟨[], upd_same, rfl, fun z hz => (nomatch hz), hP1.new nY, Fr.new nY⟩ ?_ ?_
    · rintro i H2 hi ⟨ys, eY, ly, hy, hP2, f2⟩
      refine ⟨rfl, _, rfl, _, rfl, a, _, _, rfl, hP2, by omega, by decide, dB _ (by decide) (by decide), fun d H3 d0 d1 hP3 f3 => ?_⟩
      obtain ⟨c, hc, c1, c2⟩ := aat d0 d1
      refine ⟨abc, d, c, rfl, rfl, by rw [al, sizeLine_eq]; omega, hc, _, f3.l _ _ eY, small1000 (by simp; omega), ys ++ [c], ?_, by rw [List.length_append, ly]; rfl, ?_, ?_, ?_⟩
      · rw [upd_same, List.map_append, List.map_append]
        rfl
      · intro x hx
        rcases List.mem_append.mp hx with h | h
        · exact hy x h
        · rw [List.mem_singleton.mp h]
          exact ⟨c1, c2⟩
      · exact (hP1.over nY hP3).mono (by omega)
      · exact (f2.trans f3).over nY
    rintro H2 ⟨ys, eY, ly, hy, hP2, f2⟩
    refine ⟨_, Y, ys.map oneS, rfl, rfl, .inl (SqL.of eY), ?_, ?_⟩
    · rw [sum_one, show (Str.ofString "").length = 0 from by decide +kernel, Nat.mul_zero]
      omega
    obtain ⟨tail, ht⟩ : ∃ z, Txt.join (Str.ofString "") (ys.map oneS) = z := ⟨_, rfl⟩
    have et := join_one ys
    rw [ht] at et ⊢
    have tS : SmlW tail := fun c hc => hy c (by rw [← et]; exact hc)
    have tl11 : tail.length ≤ 11 := by
      have : tail.length = tail.cps.toList.length := TL.len_tl tail
      rw [this, et]
      omega
    have f12 := f1.trans f2
    refine ⟨_, rfl, a, _, _, rfl, hP2, by omega, by decide, dB _ (by decide) (by decide), fun bg H3 b0 b1 hP3 f3 => ?_⟩
    have f03 := f0.trans (f12.trans f3)
    have eF3 := (f12.trans f3).l _ _ eF
    refine ⟨_, rfl, 4, rfl, by decide, by decide, ?_⟩
    refine for_range (lo := 0) (n := 4) (fun i σ H' => ∃ (y6 : Option V) (zs : List Str), σ = [some (.ref a.d), some (.int 4), some (.str abc), some (.ref F), some (.str tail), some (.int bg), y6, none, none] ∧ H' F = some (.lst (strL zs)) ∧ zs.length = i ∧ (∀ z ∈ zs, WitW z) ∧ Pen H' a (n + 14) ∧ Fr H H') ⟨_, [], rfl, eF3, rfl, fun z hz => (nomatch hz), hP3.mono (by omega), f03⟩ ?_ ?_
    · rintro i σ H4 hi ⟨y6, zs, rfl, eF4, lz, hz, hP4, f4⟩
      have i4 : (0 : Int) + (i : Int) = (i : Int) := by omega
      rw [i4]
      refine ⟨_, rfl, .inl ⟨rfl, _, SqL.of eF4⟩, _, rfl, _, rfl, _, _, rfl, rfl, (by show (0 : Int) < 4; decide), _, rfl, tail, rfl, by rw [sizeLine_eq]; omega, ?_⟩
      obtain ⟨c, hc, c1, c2⟩ := aat (d := (bg + 3 * (i : Int)) % 26) (by omega) (by omega)
      refine ⟨_, rfl, _, rfl, _, rfl, _, _, rfl, rfl, .inl ⟨by decide, by omega⟩, _, _, rfl, rfl, _, _, rfl, rfl, (by show (0 : Int) < 26; decide), abc, _, c, rfl, rfl, by rw [al, sizeLine_eq]; omega, hc, ?_⟩
      have w1 : (oneS c).length = 1 := rfl
      have w2 : (cutS tail none (some ((i : Int) % 4))).length ≤ tail.length := cutS_length _ _ _
      refine ⟨_, _, rfl, rfl, by show _ + (oneS c).length ≤ _; rw [w1, sizeLine_eq]; omega, ?_⟩
      refine ⟨F, strL zs, _, rfl, rfl, eF4, small1000 (by show (zs.map V.str).length ≤ _; rw [List.length_map]; omega), _, zs ++ [cutS tail none (some ((i : Int) % 4)) ++ oneS c], rfl, ?_, by rw [List.length_append, lz]; rfl, ?_, hP.over nFH hP4, f4.over nFH⟩
      · rw [upd_same]
        unfold strL
        rw [List.map_append]
        rfl
      · intro z hz'
        rcases List.mem_append.mp hz' with h | h
        · exact hz z h
        · rw [List.mem_singleton.mp h]
          have w3 := len_cat (cutS tail none (some ((i : Int) % 4))) (oneS c)
          refine .mk ?_ ?_ ((tS.cut _ _).cat (.one c1 c2))
          · show 1 ≤ (cutS tail none (some ((i : Int) % 4)) ++ oneS c).length
            omega
          · show (cutS tail none (some ((i : Int) % 4)) ++ oneS c).length ≤ 12
            omega
    rintro σ H4 ⟨y6, zs, rfl, eF4, lz, hz, hP4, f4⟩
    refine ⟨len10 (by simp), fun O nO => ?_⟩
    have zO := sm_upd (o := .lst [.str "rule", .str "count", .str "event", .str "differ", .str "rates", .str "best", .str "range", .str "blame", .str "until", .str "at", .str "is", .str "abcdefghijkl"]) nO
    have eO := upd_same (H := H4) (a := O) (o := .lst [.str "rule", .str "count", .str "event", .str "differ", .str "rates", .str "best", .str "range", .str "blame", .str "until", .str "at", .str "is", .str "abcdefghijkl"])
    refine ⟨_, rfl, _, rfl, a, _, _, rfl, hP4.same zO, by omega, by decide, dB _ (by decide) (by decide), fun d H5 d0 d1 hP5 f5 => ?_⟩
    obtain ⟨x, hx, mx⟩ := at_in (xs := [.str "rule", .str "count", .str "event", .str "differ", .str "rates", .str "best", .str "range", .str "blame", .str "until", .str "at", .str "is", .str "abcdefghijkl"]) d0 (by show d < 12; omega)
    refine ⟨O, _, _, _, rfl, rfl, SqL.of (f5.l _ _ eO), hx, ?_⟩
    obtain ⟨wd, rfl, hwd⟩ : ∃ z : Str, x = .str z ∧ WitW z := by
      simp only [List.mem_cons, List.not_mem_nil, or_false] at mx
      rcases mx with rfl | rfl | rfl | rfl | rfl | rfl | rfl | rfl | rfl | rfl | rfl | rfl <;> exact ⟨_, rfl, by decide +kernel, by decide +kernel, by decide +kernel⟩
    clear mx hx eO
    have eF5 := f5.l _ _ (zO _ _ eF4)
    have f5 := f4.trans ((Fr.same zO).trans f5)
    refine ⟨_, rfl, _, rfl, F, _, rfl, .inl (SqL.of eF5), rfl, by simp [strL, flatV], ?_⟩
    have keep : ∀ H7, Pen H7 a (n + 16) → Fr H5 H7 → ∃ v, (some (some (V.ref F)) = some (some v)) ∧ Q v H7 := fun H7 hP7 f7 => ⟨_, rfl, kk F zs H7 (f7.l _ _ eF5) lz hz (hP7.mono (by omega)) (f5.trans f7)⟩
    refine ⟨_, rfl, ite2 (fun cw => iteT ?_) (fun cw => ?_)⟩
    · exact keep H5 (hP5.mono (by omega)) (Fr.refl _)
    refine ⟨_, rfl, a, _, _, rfl, hP5, by omega, by decide, dB _ (by decide) (by decide), fun z H6 z0 z1 hP6 f6 => ⟨rfl, _, rfl, ite2 (fun c => ?_) (fun c => ?_)⟩⟩
    · exact keep H6 (hP6.mono (by omega)) f6
    have eF6 := f6.l _ _ eF5
    refine ⟨_, rfl, len10 (by simp), fun l2 n2 => ⟨_, rfl, 1, rfl, F, _, rfl, SqL.of (sm_upd n2 _ _ eF6), fun l4 n4 => ?_⟩⟩
    have z2 := sm_upd (o := .lst [.str wd]) n2
    have z4 := sm_upd (o := .lst (cutV (strL zs) (some 1) none)) n4
    have lc := cutV_length (strL zs) (some 1) none
    have ls : (strL zs).length = 4 := by
      show (zs.map V.str).length = 4
      rw [List.length_map, lz]
    rw [ls] at lc
    refine ⟨l2, l4, _, _, rfl, rfl, z4 _ _ upd_same, upd_same, len10 (by simp; omega), fun Z nZ => ?_⟩
    have zZ := sm_upd (o := .lst ([.str wd] ++ cutV (strL zs) (some 1) none)) nZ
    obtain ⟨y1, y2, y3, y4, rfl⟩ : ∃ y1 y2 y3 y4, zs = [y1, y2, y3, y4] := by
      match zs, lz with
      | [y1, y2, y3, y4], _ => exact ⟨_, _, _, _, rfl⟩
    refine kk Z [wd, y2, y3, y4] _ upd_same rfl (fun q hq => ?_) ((((hP6.same z2).same z4).same zZ).mono (by omega)) (f5.trans (f6.trans (Fr.same (z2.trans (z4.trans zZ)))))
    simp only [List.mem_cons, List.not_mem_nil, or_false] at hq
    rcases hq with rfl | rfl | rfl | rfl
    · exact hwd
    · exact hz _ (by simp)
    · exact hz _ (by simp)
    · exact hz _ (by simp)
end
end Lf
namespace Lf
open PySem PySem.Spec PyProof.Rows L2
section
variable {P : Program} {w : World} {K : PySem.W.Frag} {mg : Str → Option Value} {base : Heap} {C : Addr}
/-! ### _law_entries -/
def spEn81 : Sp := fun vs H Q _ => ∃ (a : PA) (n : Nat) (r : Addr) (p q c m : Int), vs = [.ref a, .ref r, .int m] ∧ Pen H a n ∧ n < 2 ^ 36 ∧ H r = some (.tup [.int p, .int q, .int c]) ∧ RuleB 100 p q c ∧ 0 ≤ m ∧ m ≤ 150 ∧
  ∀ F H' vs' (es : List En), H' F = some (.lst vs') → EnL H' vs' es → (es.length : Int) = m → (es.map (·.m)).Pairwise (· < ·) → (∀ e ∈ es, 0 ≤ e.m ∧ e.m ≤ 2 ^ 44 ∧ WitW e.w ∧ WtB e.x) → Pen H' a (n + 3000) → Fr H H' → Q (.ref F) H'
abbrev s_l_entries : Stmt := topS 40
abbrev N_l_entries : List Str := ["_law_state", "_law_rule_here", "_law_size", "_law_words_here", "_law_found", "_law_now", "_law_k", "_law_what"]
abbrev P_l_entries : List Str := ["_law_state", "_law_rule_here", "_law_size"]
theorem sc_l_entries : FnScope N_l_entries P_l_entries (defScope s_l_entries) := ⟨rfl, rfl, rfl, by decide +kernel, rfl, by decide +kernel, by decide +kernel⟩
theorem ok_l_entries (D : Df K mg "_law_entries" s_l_entries P_l_entries) (B : Bi mg) (c_l_draw : C8.Cal P w K mg base 1 "_law_draw" spDraw []) (c_l_words : C8.Cal P w K mg base 2 "_law_words" spWords []) (c_l_record : C8.Cal P w K mg base 2 "_law_record" spRec81 []) : C8.Cal P w K mg base 3 "_law_entries" spEn81 [] := by
  refine cal_of D sc_l_entries (fun vs H Q E h => ?_) (fun f cdv A outer s H vs Q E hr h => ?_)
  · obtain ⟨a, n, r, p, q, c, m, rfl, _⟩ := h
    rfl
  · obtain ⟨a, n, r, p, q, c, m, rfl, hP, hn, er, R, m1, m2, kk⟩ := h
    refine ⟨_, (pss_cons (ps_par3 (i := 3) (j := 4) (l := 5) rfl sc_l_entries.nd rfl rfl rfl (by decide) (by decide) (by decide) rfl rfl rfl (pa_cons (C8.pe_c c_l_words hr (by decide) (by rfl) (pa_cons (pv 0) (pa_cons pe_int pa_nil))) (pa_cons (pe_lst pa_nil) (pa_cons (C8.pe_c c_l_draw hr (by decide) (by rfl) (pa_cons (pv 0) (pa_cons pe_int pa_nil))) pa_nil))) rfl)
    (pss_cons (ps_for PassesOwn.never rfl (pi_range1 rfl B.range_ (pa_cons (pv 2) pa_nil)) (pg_name (i := 6) sc_l_entries.nd rfl (Or.inl rfl))
      (pss_cons (ps_set (i := 7) sc_l_entries.nd rfl (Or.inl rfl) (pe_ix (r := rIxL K) ix_list (pe_lst (pa_cons (C8.pe_c c_l_record hr (by decide) (by rfl) (pa_cons (pv 0) (pa_cons (pv 1) pa_nil))) (pa_cons pe_bl (pa_cons pe_bl pa_nil)))) (pe_ix (r := rIxL K) ix_list (pe_lst (pa_cons pe_int (pa_cons pe_int (pa_cons pe_int (pa_cons pe_int (pa_cons pe_int (pa_cons pe_int pa_nil))))))) (C8.pe_c c_l_draw hr (by decide) (by rfl) (pa_cons (pv 0) (pa_cons pe_int pa_nil))) (fun _ _ => rfl)) (fun _ _ => rfl)))
    (pss_cons (ps_expr (pe_bm PySem.F.plainAttrs_list PySem.F.slot_list_append PySem.F.type_list_append mt_append (pv 4) (pa_cons (pe_tup (pa_cons (pv 5) (pa_cons (pe_ix (r := rIxL K) ix_list (pv 3) (C8.pe_c c_l_draw hr (by decide) (by rfl) (pa_cons (pv 0) (pa_cons pe_int pa_nil))) (fun _ _ => rfl)) (pa_cons (pv 7) pa_nil)))) pa_nil)))
    (pss_one (ps_set (i := 5) sc_l_entries.nd rfl (Or.inl rfl) (pe_op op_add (pe_op op_add (pv 5) pe_int) (pe_ix (r := rIxL K) ix_list (pe_lst (pa_cons pe_int (pa_cons (C8.pe_c c_l_draw hr (by decide) (by rfl) (pa_cons (pv 0) (pa_cons pe_int pa_nil))) (pa_cons (C8.pe_c c_l_draw hr (by decide) (by rfl) (pa_cons (pv 0) (pa_cons (pe_op op_pow pe_int pe_int) pa_nil))) pa_nil)))) (C8.pe_c c_l_draw hr (by decide) (by rfl) (pa_cons (pv 0) (pa_cons pe_int pa_nil))) (fun _ _ => rfl))))))))
    (pss_one (ps_ret (pv 4))))), ?_⟩
    have dB : ∀ x : Int, 0 < x → x < 2 ^ 36 → Bd 9000 x := fun x h0 h => Bd.small 40 (by omega) (by decide)
    refine ⟨_, rfl, a, _, rfl, hP, by omega, fun L zs H1 eL lz hz hP1 f1 => ?_⟩
    refine ⟨Nat.zero_le _, fun F nF => ?_⟩
    have zF := sm_upd (o := .lst []) nF
    have eF := upd_same (H := H1) (a := F) (o := .lst [])
    refine ⟨_, rfl, a, _, _, rfl, hP1.same zF, by omega, by decide, dB _ (by decide) (by decide), fun w0 H2 w00 w01 hP2 f2 => ⟨_, _, _, rfl, ?_⟩⟩
    have eF2 := f2.l _ _ eF
    have eL2 := f2.l _ _ (zF _ _ eL)
    have f02 : Fr H1 H2 := (Fr.same zF).trans f2
    obtain ⟨mn, rfl⟩ := Int.eq_ofNat_of_zero_le (show 0 ≤ m by omega)
    refine ⟨_, rfl, _, rfl, by omega, by omega, ?_⟩
    refine for_range (lo := 0) (n := mn) (fun i σ H' => ∃ (y6 y7 : Option V) (now : Int) (vs' : List V) (es : List En), σ = [some (.ref a.d), some (.ref r), some (.int mn), some (.ref L), some (.ref F), some (.int now), y6, y7] ∧ H' F = some (.lst vs') ∧ H' L = some (.lst (strL zs)) ∧ EnL H' vs' es ∧ es.length = i ∧ 0 ≤ now ∧ now ≤ 3 + i * 2147483648 ∧ (∀ e ∈ es, e.m < now) ∧ (es.map (·.m)).Pairwise (· < ·) ∧ (∀ e ∈ es, 0 ≤ e.m ∧ e.m ≤ 2 ^ 44 ∧ WitW e.w ∧ WtB e.x) ∧ Pen H' a (n + 21 + 16 * i) ∧ Fr H1 H') ⟨_, _, w0, [], [], rfl, eF2, eL2, .nil, rfl, w00, by omega, fun z hz => (nomatch hz), .nil, fun z hz => (nomatch hz), hP2.mono (by omega), f02⟩ ?_ ?_
    · rintro i σ H4 hi ⟨y6, y7, now, vs', es, rfl, eF4, eL4, hE, le, n0, n1, hlt, pw, hb, hP4, f4⟩
      refine ⟨_, rfl, _, rfl, a, _, r, p, q, c, rfl, hP4, by omega, (f1.trans f4).t _ _ er, R, fun y d H5 ey bt bn hP5 f5 => ⟨len10 (by simp), fun O nO => ?_⟩⟩
      have zO := sm_upd (o := .lst [.ref y, .bl false, .bl true]) nO
      refine ⟨len10 (by simp), fun O2 nO2 => ?_⟩
      have zO2 := sm_upd (o := .lst [.int 0, .int 0, .int 0, .int 0, .int 1, .int 2]) nO2
      have eO2 := upd_same (H := upd H5 O (.lst [.ref y, .bl false, .bl true])) (a := O2) (o := .lst [.int 0, .int 0, .int 0, .int 0, .int 1, .int 2])
      refine ⟨_, rfl, a, _, _, rfl, (hP5.same zO).same zO2, by omega, by decide, dB _ (by decide) (by decide), fun d1 H6 d10 d11 hP6 f6 => ?_⟩
      obtain ⟨x, hx, mx⟩ := at_in (xs := [.int 0, .int 0, .int 0, .int 0, .int 1, .int 2]) d10 (by show d1 < 6; omega)
      refine ⟨O2, _, _, _, rfl, rfl, SqL.of (f6.l _ _ eO2), hx, ?_⟩
      obtain ⟨u, rfl, u0, u1⟩ : ∃ u : Int, x = .int u ∧ 0 ≤ u ∧ u < 3 := by
        simp only [List.mem_cons, List.not_mem_nil, or_false] at mx
        rcases mx with rfl | rfl | rfl | rfl | rfl | rfl <;> exact ⟨_, rfl, by decide, by decide⟩
      clear mx hx
      obtain ⟨x, hx, mx⟩ := at_in (xs := [.ref y, .bl false, .bl true]) u0 (by show u < 3; omega)
      have eO6 := f6.l _ _ (zO2 _ _ (upd_same (H := H5) (a := O) (o := .lst [.ref y, .bl false, .bl true])))
      refine ⟨O, _, _, _, rfl, rfl, SqL.of eO6, hx, ?_⟩
      have f46 : Fr H4 H6 := f5.trans ((Fr.same (zO.trans zO2)).trans f6)
      have ey6 : H6 y = some (rcO d) := f6.t _ _ (zO2 _ _ (zO _ _ ey))
      obtain ⟨wt, hwt, hwb⟩ : ∃ wt : Wt, WtAt H6 wt x ∧ WtB wt := by
        simp only [List.mem_cons, List.not_mem_nil, or_false] at mx
        rcases mx with rfl | rfl | rfl
        · exact ⟨.rd d, ⟨y, rfl, ey6⟩, bt, bn⟩
        · exact ⟨.tr false, rfl, trivial⟩
        · exact ⟨.tr true, rfl, trivial⟩
      clear mx hx
      have eF6 := f46.l _ _ eF4
      have eL6 := f46.l _ _ eL4
      refine ⟨_, rfl, .inl ⟨rfl, _, SqL.of eF6⟩, _, rfl, _, rfl, _, rfl, a, _, _, rfl, hP6, by omega, by decide, dB _ (by decide) (by decide), fun d2 H7 d20 d21 hP7 f7 => ?_⟩
      obtain ⟨x2, hx2, mx2⟩ := at_in (xs := strL zs) d20 (by show d2 < ((zs.map V.str).length : Int); rw [List.length_map, lz]; exact d21)
      obtain ⟨wd, hwd, rfl⟩ := List.mem_map.mp mx2
      have eF7 := f7.l _ _ eF6
      have eL7 := f7.l _ _ eL6
      refine ⟨L, _, _, _, rfl, rfl, SqL.of eL7, hx2, _, rfl, len10 (by simp), fun t nt => ?_⟩
      have zt := sm_upd (o := .tup [.int now, .str wd, x]) nt
      have lv := hE.len
      have FL : F ≠ L := fun z => by
        rw [z] at nF
        rw [nF] at eL
        cases eL
      refine ⟨F, vs', _, rfl, rfl, zt _ _ eF7, small1000 (by omega), ?_⟩
      have f48 : Fr H4 (upd H7 t (.tup [.int now, .str wd, x])) := f46.trans (f7.trans (Fr.same zt))
      have eF8 := zt _ _ eF7
      have eL8 := zt _ _ eL7
      have et8 := upd_same (H := H7) (a := t) (o := .tup [.int now, .str wd, x])
      have hw8 : WtAt (upd H7 t (.tup [.int now, .str wd, x])) wt x := hwt.kp (fun b xs e => zt _ _ (f7.t _ _ e))
      have hE8 : EnL (upd H7 t (.tup [.int now, .str wd, x])) vs' es := hE.kp (fun b xs e => f48.t _ _ e)
      have hP8 : Pen (upd H7 t (.tup [.int now, .str wd, x])) a (n + 21 + 16 * i + 10) := (hP7.same zt).mono (by omega)
      generalize upd H7 t (.tup [.int now, .str wd, x]) = H8 at f48 eF8 eL8 et8 hw8 hE8 hP8 ⊢
      have tk : TupKp H8 (upd H8 F (.lst (vs' ++ [.ref t]))) := fun b xs eb => by
        rw [upd_ne (fun z => by rw [z, eF8] at eb; cases eb)]
        exact eb
      have hE9 := (hE8.kp tk).snoc (e := ⟨now, wd, wt⟩) ⟨x, tk _ _ et8, hw8.kp tk⟩
      have eF9 := upd_same (H := H8) (a := F) (o := .lst (vs' ++ [.ref t]))
      have eL9 : upd H8 F (.lst (vs' ++ [.ref t])) L = some (.lst (strL zs)) := by
        rw [upd_ne FL.symm]
        exact eL8
      have hP9 : Pen (upd H8 F (.lst (vs' ++ [.ref t]))) a (n + 21 + 16 * i + 10) := hP1.over nF hP8
      have f9 : Fr H1 (upd H8 F (.lst (vs' ++ [.ref t]))) := (f4.trans f48).over nF
      generalize upd H8 F (.lst (vs' ++ [.ref t])) = H9 at hE9 eF9 eL9 hP9 f9 ⊢
      refine ⟨_, rfl, _, _, rfl, rfl, _, rfl, a, _, _, rfl, hP9, by omega, by decide, dB _ (by decide) (by decide), fun u1 H10 u10 u11 hP10 f10 => ?_⟩
      refine ⟨_, rfl, _, _, rfl, rfl, ⟨by decide, by decide, by decide⟩, a, _, _, rfl, hP10, by omega, by decide, dB _ (by decide) (by decide), fun u2 H11 u20 u21 hP11 f11 => ⟨len10 (by simp), fun O3 nO3 => ?_⟩⟩
      have z3 := sm_upd (o := .lst [.int 0, .int u1, .int u2]) nO3
      have eO3 := upd_same (H := H11) (a := O3) (o := .lst [.int 0, .int u1, .int u2])
      refine ⟨_, rfl, a, _, _, rfl, hP11.same z3, by omega, by decide, dB _ (by decide) (by decide), fun d3 H12 d30 d31 hP12 f12 => ?_⟩
      obtain ⟨x3, hx3, mx3⟩ := at_in (xs := [.int 0, .int u1, .int u2]) d30 (by show d3 < 3; omega)
      refine ⟨O3, _, _, _, rfl, rfl, SqL.of (f12.l _ _ eO3), hx3, ?_⟩
      have fz : Fr H9 H12 := f10.trans (f11.trans ((Fr.same z3).trans f12))
      have h9 : (10 : Int) ^ (9 : Int).toNat = 1000000000 := by decide
      rw [h9] at u21
      obtain ⟨g, rfl, g0, g1⟩ : ∃ g : Int, x3 = .int g ∧ 0 ≤ g ∧ g < 1000000000 := by
        simp only [List.mem_cons, List.not_mem_nil, or_false] at mx3
        rcases mx3 with rfl | rfl | rfl
        · exact ⟨_, rfl, by decide, by decide⟩
        · exact ⟨_, rfl, u10, by omega⟩
        · exact ⟨_, rfl, u20, u21⟩
      refine ⟨_, _, rfl, rfl, _, _, now + 1 + g, _, es ++ [⟨now, wd, wt⟩], rfl, fz.l _ _ eF9, fz.l _ _ eL9, hE9.kp (fun b xs e => fz.t _ _ e), by rw [List.length_append, le]; rfl, by omega, by omega, ?_, ?_, ?_, hP12.mono (by omega), f9.trans fz⟩
      · intro e he
        rcases List.mem_append.mp he with h | h
        · have := hlt e h
          omega
        · rw [List.mem_singleton.mp h]
          show now < now + 1 + g
          omega
      · rw [List.map_append, List.pairwise_append]
        refine ⟨pw, List.pairwise_singleton _ _, fun x hx y hy => ?_⟩
        obtain ⟨e, he, rfl⟩ := List.mem_map.mp hx
        rw [show y = now from List.mem_singleton.mp hy]
        exact hlt e he
      · intro e he
        rcases List.mem_append.mp he with h | h
        · exact hb e h
        · rw [List.mem_singleton.mp h]
          exact ⟨n0, by show now ≤ _; omega, hz wd hwd, hwb⟩
    rintro σ H4 ⟨y6, y7, now, vs', es, rfl, eF4, eL4, hE, le, n0, n1, hlt, pw, hb, hP4, f4⟩
    exact ⟨_, rfl, kk F H4 vs' es eF4 hE (by omega) pw hb (hP4.mono (by omega)) (f1.trans f4)⟩
end
end Lf
namespace Lf
open PySem PySem.Spec PyProof.Rows L2
/-- a class made without arguments, by its promise -/
theorem pe_mk0 {X : Cx} {k j : Nat} {C : Addr} {x : Str} {sp : Sp} {dvs : List V} {p pos : Pos} (c : C8.Mak X.prog X.w X.K X.mg X.base k x C sp dvs) (hr : Room j X.A) (hk : k + 1 ≤ j) (hg : Gl X x)
    (hdb : (x == ("__debug__" : Str)) = false := by decide) : PE X (.Call (.Name x p) [] [] pos) (tMake C sp dvs C8.E0 tNil) := by
  obtain ⟨f, fd, ps, ds, M, F, hm, b, d⟩ := c.ex
  exact pe_make0 M F (hr.mono hk) hg hm b d C8.pass0 hdb
end Lf
namespace Lf
open PySem PySem.Spec PyProof.Rows L2
theorem EnL.perm {H : Hp} {ys vs : List V} (p : ys.Perm vs) : ∀ {es : List En}, EnL H vs es → ∃ fs : List En, fs.Perm es ∧ EnL H ys fs := by
  induction p with
  | nil => exact fun h => ⟨_, .refl _, h⟩
  | cons x p ih =>
    intro es h
    cases h with
    | cons h1 h2 =>
      obtain ⟨fs, q, e⟩ := ih h2
      exact ⟨_ :: fs, q.cons _, .cons h1 e⟩
  | swap x y l =>
    intro es h
    cases h with
    | cons h1 h2 =>
      cases h2 with
      | cons h3 h4 => exact ⟨_, List.Perm.swap _ _ _, .cons h3 (.cons h1 h4)⟩
  | trans p1 p2 ih1 ih2 =>
    intro es h
    obtain ⟨fs, q, e⟩ := ih2 h
    obtain ⟨gs, q2, e2⟩ := ih1 e
    exact ⟨gs, q2.trans q, e2⟩
section
variable {P : Program} {w : World} {K : PySem.W.Frag} {mg : Str → Option Value} {base : Heap} {C : Addr}
/-! ### _law_mixed -/
def spMix : Sp := fun vs H Q _ => ∃ (a : PA) (n : Nat) (L : Addr) (xs : List V), vs = [.ref a, .ref L] ∧ Pen H a n ∧ n < 2 ^ 36 ∧ H L = some (.lst xs) ∧ xs.length ≤ 500 ∧
  ∀ R H' ys, H R = none → H' R = some (.lst ys) → ys.Perm xs → Pen H' a (n + xs.length) → Fr H H' → Q (.ref R) H'
abbrev s_l_mixed : Stmt := topS 41
abbrev N_l_mixed : List Str := ["_law_state", "_law_items", "_law_left", "_law_found", "_law_k"]
abbrev P_l_mixed : List Str := ["_law_state", "_law_items"]
theorem sc_l_mixed : FnScope N_l_mixed P_l_mixed (defScope s_l_mixed) := ⟨rfl, rfl, rfl, by decide +kernel, rfl, by decide +kernel, by decide +kernel⟩
theorem ok_l_mixed (D : Df K mg "_law_mixed" s_l_mixed P_l_mixed) (B : Bi mg) (c_l_draw : C8.Cal P w K mg base 1 "_law_draw" spDraw []) : C8.Cal P w K mg base 2 "_law_mixed" spMix [] := by
  refine cal_of D sc_l_mixed (fun vs H Q E h => ?_) (fun f cdv A outer s H vs Q E hr h => ?_)
  · obtain ⟨a, n, L, xs, rfl, _⟩ := h
    rfl
  · obtain ⟨a, n, L, xs, rfl, hP, hn, eL, hl, q⟩ := h
    refine ⟨_, (pss_cons (ps_par (i := 2) (j := 3) rfl sc_l_mixed.nd rfl rfl (by decide) rfl rfl (pa_cons (pe_callTy (call_list_of) (by rfl) B.list_ bt_list (pa_cons (pv 1) pa_nil)) (pa_cons (pe_lst pa_nil) pa_nil)) rfl)
    (pss_cons (ps_for PassesOwn.never rfl (pi_range1 rfl B.range_ (pa_cons (pe_callB (call_len_seq) (by rfl) B.len_ bt_len (pa_cons (pv 1) pa_nil)) pa_nil)) (pg_name (i := 4) sc_l_mixed.nd rfl (Or.inl rfl))
      (pss_one (ps_expr (pe_bm PySem.F.plainAttrs_list PySem.F.slot_list_append PySem.F.type_list_append mt_append (pv 3) (pa_cons (pe_bm PySem.F.plainAttrs_list PySem.F.slot_list_pop PySem.F.type_list_pop mt_popAt (pv 2) (pa_cons (C8.pe_c c_l_draw hr (by decide) (by rfl) (pa_cons (pv 0) (pa_cons (pe_callB (call_len_seq) (by rfl) B.len_ bt_len (pa_cons (pv 2) pa_nil)) pa_nil))) pa_nil)) pa_nil)))))
    (pss_one (ps_ret (pv 3))))), ?_⟩
    refine ⟨_, rfl, L, xs, rfl, .inl (SqL.of eL), fun l nl => ⟨Nat.zero_le _, fun F nF => ?_⟩⟩
    have lF : F ≠ l := fun z => by
      rw [z, upd_same] at nF
      cases nF
    refine ⟨_, _, rfl, ?_⟩
    have nF0 : H F = none := by rw [← nF, upd_ne lF]
    have z1 := sm_upd (o := .lst xs) nl
    have z2 := sm_upd (o := .lst []) nF
    refine ⟨_, rfl, L, xs, rfl, .inl (SqL.of (z2 _ _ (z1 _ _ eL))), _, rfl, by omega, by omega, ?_⟩
    refine for_range (lo := 0) (n := xs.length) (fun i σ H' => ∃ (y4 : Option V) (us vs : List V), σ = [some (.ref a), some (.ref L), some (.ref l), some (.ref F), y4] ∧ H' l = some (.lst us) ∧ H' F = some (.lst vs) ∧ (vs ++ us).Perm xs ∧ vs.length = i ∧ Pen H' a (n + i) ∧ Fr H H') ⟨_, xs, [], rfl, z2 _ _ upd_same, upd_same, List.Perm.refl _, rfl, (hP.same z1).same z2, Fr.same (z1.trans z2)⟩ ?_ ?_
    · rintro i σ H4 hi ⟨y4, us, vs, rfl, el4, eF4, pm, lv, hP4, f4⟩
      have hlen := pm.length_eq
      rw [List.length_append] at hlen
      have u0 : 0 < us.length := by omega
      refine ⟨_, rfl, .inl ⟨rfl, _, SqL.of eF4⟩, _, rfl, .inl ⟨rfl, _, SqL.of el4⟩, _, rfl, _, rfl, l, _, rfl, .inl (SqL.of el4), a, _, _, rfl, hP4, by omega, by omega, Bd.small 20 (by omega) (by decide), fun d H5 d0 d1 hP5 f5 => ?_⟩
      have hk : d.toNat < us.length := by omega
      have hy : us[d.toNat]? = some (us[d.toNat]) := List.getElem?_eq_getElem hk
      generalize us[d.toNat] = y at hy
      have el5 := f5.l _ _ el4
      have eF5 := f5.l _ _ eF4
      have ep := erase_perm hy
      refine ⟨l, us, d, d.toNat, y, rfl, rfl, el5, by omega, by omega, seqIndex_at d0 d1, hy, ?_⟩
      refine ⟨F, vs, _, rfl, rfl, ?_, small1000 (by omega), _, us.eraseIdx d.toNat, vs ++ [y], rfl, ?_, upd_same, ?_, by rw [List.length_append, lv]; rfl, ?_, ?_⟩
      · rw [upd_ne lF]
        exact eF5
      · rw [upd_ne lF.symm]
        exact upd_same
      · rw [List.append_assoc]
        exact (List.Perm.append_left vs ep).trans pm
      · exact (hP.over nF0 (hP.over nl hP5)).mono (Nat.le_refl _)
      · exact ((f4.trans f5).over nl).over nF0
    rintro σ H4 ⟨y4, us, vs, rfl, el4, eF4, pm, lv, hP4, f4⟩
    have hlen := pm.length_eq
    rw [List.length_append] at hlen
    have u0 : us = [] := List.length_eq_zero_iff.mp (by omega)
    subst u0
    rw [List.append_nil] at pm
    exact ⟨_, rfl, q F H4 vs nF0 eF4 pm hP4 f4⟩
/-! ### _law_add -/
def spAdd (C : Addr) : Sp := fun vs H Q E => ∃ (o r D : Addr) (es : List En) (e : En), vs = [.ref o, .ref r] ∧ EnAt H r e ∧ LogAt C H o D es ∧ 0 ≤ e.m ∧ WitW e.w ∧ e.m ∉ es.map (·.m) ∧ es.length ≤ 500 ∧ ∀ H', KpD D H H' → LogAt C H' o D (es ++ [e]) → Q .non H'
theorem kbt : kitB "bool" "tuple" = some false := by decide +kernel
/-! ### _law_log -/
def spLog (C : Addr) : Sp := fun vs H Q _ => ∃ (F : Addr) (xs : List V) (es : List En), vs = [.ref F] ∧ H F = some (.lst xs) ∧ EnL H xs es ∧ (es.map (·.m)).Nodup ∧ (∀ e ∈ es, 0 ≤ e.m ∧ WitW e.w) ∧ es.length ≤ 500 ∧ ∀ o D H', Same H H' → H D = none → LogAt C H' o D es → Q (.ref o) H'
end
end Lf
namespace Lf
open PySem PySem.Spec PyProof.Rows L2
/-! ### a try with several clauses, each with a name for the exception or without one -/
/-- a clause: its class, the slot of its name, what its suite wishes -/
structure Clause where
  cl : Value
  at_ : Option Nat
  su : Addr → Value → Option Addr → TS
/-- behind a suite the name is gone -/
def goneAt (D : Ends) (i : Nat) : Ends := ⟨fun σ H => D.nx (σ.set i none) H, D.rt, fun σ H => D.bk (σ.set i none) H, fun σ H => D.ct (σ.set i none) H⟩
def Clause.go (c : Clause) (D : Ends) (a : Addr) (cls : Value) (d : Option Addr) (σ : L2.St) (H : Hp) : Prop :=
  match c.at_ with
  | none => c.su a cls d D σ H
  | some i => c.su a cls d (goneAt D i) (σ.set i (some (.ref a))) H
def wCl (K : PySem.W.Frag) (W0 : WX) (D : Ends) : List Clause → WX
  | [] => W0
  | c :: r => fun cls d σ H => ∃ b, PySem.W.exmOne K cls c.cl = some b ∧ (b = true → ∀ a, H a = none → c.go D a cls d σ H) ∧ (b = false → wCl K W0 D r cls d σ H)
inductive Clauses (X : Cx) : List ExceptHandler → List Clause → Prop
  | nil : Clauses X [] []
  | one {x : Str} {c : Value} {su : Addr → Value → Option Addr → TS} {b0 : Stmt} {rest : List Stmt} {p1 p2 : Pos} {es : List ExceptHandler} {l : List Clause} (nm : Names X x c)
      (hs : ∀ (a : Addr) (oe : Obj) (cls : Value) (d : Option Addr) (pn : List (Addr × Obj)), Zc cls d oe → (∃ vs, oe.data = .fields vs) → PSs (X.suite a ((a, oe) :: pn)) (b0 :: rest) (su a cls d)) (r : Clauses X es l) :
      Clauses X (.ExceptHandler (some (.Name x p1)) none (b0 :: rest) p2 :: es) (⟨c, none, su⟩ :: l)
  | named {x n : Str} {i : Nat} {c : Value} {su : Addr → Value → Option Addr → TS} {b0 : Stmt} {rest : List Stmt} {p1 p2 : Pos} {es : List ExceptHandler} {l : List Clause} (ni : X.N[i]? = some n) (kn : X.env.kindOf n = some .local) (nm : Names X x c)
      (hs : ∀ (a : Addr) (oe : Obj) (cls : Value) (d : Option Addr) (pn : List (Addr × Obj)), Zc cls d oe → (∃ vs, oe.data = .fields vs) → PSs (X.suite a ((a, oe) :: pn)) (b0 :: rest) (su a cls d)) (r : Clauses X es l) :
      Clauses X (.ExceptHandler (some (.Name x p1)) (some n) (b0 :: rest) p2 :: es) (⟨c, some i, su⟩ :: l)
section
variable {X : Cx} {body : List Stmt} {e0 : ExceptHandler} {es : List ExceptHandler} {l : List Clause} {po : Pos} {tb : WX → TS} {W0 : WX}
theorem ps_clauses (stk : X.stack = X.env :: X.outer) (fr : X.env.frame = some X.env.locals) (nd : X.N.Nodup) (tk : Takes X W0)
    (hb : ∀ (W : WX) (pn : List (Addr × Obj)) (xe : Value → Shared → Prop), Takes (X.tr pn xe) W → PassesOwn (model X.prog X.w) X.A X.env xe → PSs (X.tr pn xe) body (tb W))
    (hh : Clauses X (e0 :: es) l) : PS X (.Try body (e0 :: es) [] [] po) (fun D σ H => tb (wCl X.K W0 D l) D σ H) := by
  refine ⟨fun pins s σ H D I h => ?_⟩
  have ok := I.ok
  have frm : X.A.frames = some (X.env :: X.outer) := by rw [ok.frames, stk]
  refine wpAny_Try_except (wpAny_mono ((hb (wCl X.K W0 D l) (X.pn ++ pins) (fun e sa => wpAny (model X.prog X.w) X.A (noteFrame e X.env) (fun _ sb => wpAny (model X.prog X.w) X.A (setFlight e none) (fun _ sc =>
    wpAny (model X.prog X.w) X.A (handleBy e X.env (e0 :: es)) (SP X pins D) X.xe sc) X.xe sb) X.xe sa) (fun u s' air => ?_) PassesOwn.looking).run [] s σ H D (I.toTry _) h) (fun f s1 z => ?_) (fun e s1 he => he))
  · obtain ⟨a, B, sI, pins', σ1, H1, cls, d, rfl, J0, nb, up, sky, na, os, ag, go⟩ := air
    have J : Inv X pins σ1 H1 sI := J0.ofTry ok
    rw [stk] at sky
    show wpAny _ _ (noteFrame (.ref a) X.env) _ _ _
    refine Sky.land Zc.steady frm fr sky fun h3 f3 u3 => ?_
    have J3 : Inv X pins σ1 H1 { s' with heap := h3 } := J.landed nb f3.1 (up.trans u3) os ag
    obtain ⟨o3, v3, g3, z3, d3⟩ := f3.there
    have nf : a ∉ frs (X.env :: X.outer) := fun hm => by
      obtain ⟨_, o', e', hn⟩ := f3.2.2.1.mem hm
      rw [g3] at e'
      cases e'
      exact hn _ d3
    have n1 : a ≠ X.env.locals := fun z => nf (List.mem_filterMap.mpr ⟨X.env, List.mem_cons_self, by rw [fr, z]⟩)
    have n2 : a ∉ X.fs := fun hm => by
      obtain ⟨e, he, q⟩ := List.mem_filterMap.mp hm
      exact nf (List.mem_filterMap.mpr ⟨e, List.mem_cons_of_mem _ he, q⟩)
    have S3 := J3.suite g3 d3 na n1 n2
    have walk : ∀ {hl : List ExceptHandler} {l' : List Clause}, Clauses X hl l' → wCl X.K W0 D l' cls d σ1 H1 →
        wpAny (model X.prog X.w) X.A (handleBy (.ref a) X.env hl) (SP X pins D) X.xe { s' with heap := h3 } := by
      intro hl l' hk
      have lt : PySem.W.Looks (model X.prog X.w) h3 (typeOf (.ref a)) cls := fun A Q E s k q => wpAny_typeOf_ref (k _ _ g3) (by rw [z3.1]; exact q)
      have seen : ∀ {x : Str} {c : Value} {np : Pos} {Q : Value → Shared → Prop} {E : Value → Shared → Prop}, Names X x c → Q c { s' with heap := h3 } → wpAny (model X.prog X.w) (X.A.mark (some (.ref a))) (eval (.Name x np) X.env) Q E { s' with heap := h3 } := fun {x c np Q E} hc q => by
        obtain ⟨hg, hd, hm | ⟨hm, hv, hw⟩⟩ := hc
        · exact ld_glob S3 hg hm q hd
        · exact ld_blt S3 hg hm hv q hw hd
      induction hk with
      | nil =>
        intro w
        refine wpAny_handleBy_nil ?_
        obtain ⟨k1, k2, k3, oe, vs, T, oT, ts', he, hz, hd, h1, hr⟩ := id f3
        unfold PySem.passOn
        refine wpAny_bind (wpAny_field he hd h1 ?_)
        rw [if_neg (show ¬ ((Value.ref T == Value.none) = true) from by simp)]
        have out : wpAny (model X.prog X.w) X.A (setFlight (.ref a) X.env.frame) (fun _ s4 => wpAny (model X.prog X.w) X.A (throw (.ref a) : Sem Flow) (SP X pins D) X.xe s4) X.xe { s' with heap := h3 } := by
          rw [fr]
          exact HandSPX.setFlight_upZ f3 fun h4 hh4 u4 => wpAny_throw (tk _ _ ⟨a, B, sI, pins, σ1, H1, cls, d, rfl, J, nb, (up.trans u3).trans u4, .inr (.inr (by rw [stk]; exact hh4)), na, os, ag, w⟩)
        first
          | exact wpAny_bind (wpAny_pure (wpAny_bind out))
          | exact wpAny_bind out
      | @one x c su b0 rest p1 p2 es2 l2 nm hs r ih =>
        intro w
        obtain ⟨b, hb1, hyes, hno⟩ := w
        have lm := PySem.W.exm_one (M := model X.prog X.w) J3.kIn lt hb1
        refine wpAny_handleBy_cons (codeAny_handlers_test ?_) (by intro q; cases q)
        refine seen nm (lm.here ?_)
        cases b with
        | false =>
          show wpAny _ X.A (handleBy (.ref a) X.env es2) _ _ _
          exact ih (hno rfl)
        | true =>
          refine codeAny_handlers_suite (HandSPX.lands_againZ f3 fun h4 f4 u4 => ?_)
          have J4 : Inv X pins σ1 H1 { s' with heap := h4 } := J.landed nb f4.1 ((up.trans u3).trans u4) os ag
          obtain ⟨o4, v4, g4, z4, d4⟩ := f4.there
          have S4 := J4.suite g4 d4 na n1 n2
          refine wpAny_mono ((hs a o4 cls d (X.pn ++ pins) z4 ⟨_, d4⟩).run [] _ _ H1 _ S4 (hyes rfl a na)) (fun f s6 q => ?_) (fun _ _ z => False.elim z)
          cases f with
          | next =>
            obtain ⟨σ6, H6, S6, q6⟩ := q
            exact ⟨σ6, H6, S6.unsuite ok, q6⟩
          | brk =>
            obtain ⟨σ6, H6, S6, q6⟩ := q
            exact ⟨σ6, H6, S6.unsuite ok, q6⟩
          | cont =>
            obtain ⟨σ6, H6, S6, q6⟩ := q
            exact ⟨σ6, H6, S6.unsuite ok, q6⟩
          | ret u =>
            obtain ⟨v6, σ6, H6, S6, r6, q6⟩ := q
            exact ⟨v6, σ6, H6, S6.unsuite ok, r6, q6⟩
      | @named x n i c su b0 rest p1 p2 es2 l2 ni kn nm hs r ih =>
        intro w
        obtain ⟨b, hb1, hyes, hno⟩ := w
        have lm := PySem.W.exm_one (M := model X.prog X.w) J3.kIn lt hb1
        refine wpAny_handleBy_cons (codeAny_handlers_test ?_) (by intro q; cases q)
        refine seen nm (lm.here ?_)
        cases b with
        | false =>
          show wpAny _ X.A (handleBy (.ref a) X.env es2) _ _ _
          exact ih (hno rfl)
        | true =>
          refine codeAny_handlers_suite_as (HandSPX.lands_againZ f3 fun h4 f4 u4 => ?_)
          have J4 : Inv X pins σ1 H1 { s' with heap := h4 } := J.landed nb f4.1 ((up.trans u3).trans u4) os ag
          obtain ⟨o4, v4, g4, z4, d4⟩ := f4.there
          have S4 := J4.suite g4 d4 na n1 n2
          refine store_ok (X := X.suite a ((a, o4) :: (X.pn ++ pins))) (v := .ref a) S4 nd ni (.inl kn) rfl (fun s5 S5 => ?_) (.inr kn)
          refine wpAny_mono ((hs a o4 cls d (X.pn ++ pins) z4 ⟨_, d4⟩).run [] s5 _ H1 _ S5 (hyes rfl a na)) (fun f s6 q => ?_) (fun _ _ z => False.elim z)
          cases f with
          | next =>
            obtain ⟨σ6, H6, S6, q6⟩ := q
            exact gone_ok (S6.unsuite ok) nd ni kn fun s7 J7 => ⟨_, H6, J7, q6⟩
          | brk =>
            obtain ⟨σ6, H6, S6, q6⟩ := q
            exact gone_ok (S6.unsuite ok) nd ni kn fun s7 J7 => ⟨_, H6, J7, q6⟩
          | cont =>
            obtain ⟨σ6, H6, S6, q6⟩ := q
            exact gone_ok (S6.unsuite ok) nd ni kn fun s7 J7 => ⟨_, H6, J7, q6⟩
          | ret u =>
            obtain ⟨v6, σ6, H6, S6, r6, q6⟩ := q
            exact gone_ok (S6.unsuite ok) nd ni kn fun s7 J7 => ⟨v6, _, H6, J7, r6, q6⟩
    exact walk hh go
  · cases f with
    | next =>
      obtain ⟨σ2, H2, J2, q⟩ := z
      exact wpAny_execs_nil ⟨σ2, H2, J2.ofTry ok, q⟩
    | brk =>
      obtain ⟨σ2, H2, J2, q⟩ := z
      exact ⟨σ2, H2, J2.ofTry ok, q⟩
    | cont =>
      obtain ⟨σ2, H2, J2, q⟩ := z
      exact ⟨σ2, H2, J2.ofTry ok, q⟩
    | ret u =>
      obtain ⟨v2, σ2, H2, J2, r2, q⟩ := z
      exact ⟨v2, σ2, H2, J2.ofTry ok, r2, q⟩
end
end Lf
namespace Lf
open PySem PySem.Spec PyProof.Rows L2
/-! ### len of an instance by its own __len__ -/
def rLenO (C : Addr) (sp : Sp) : List V → Hp → VK → Prop := fun xs H Q => ∃ (a dx : Addr) (fs : List (Str × V)), xs = [.ref a] ∧ H a = some (.ins C dx fs) ∧ sp [.ref a] H (fun v H' => ∃ n : Nat, v = .int (n : Int) ∧ n < 2 ^ 60 ∧ Q (.int (n : Int)) H') C8.E0
section
variable {X : Cx}
theorem call_lenO {C : Addr} {k j : Nat} {sp : Sp} (c : C8.Met X.prog X.w X.K X.mg X.base k C "__len__" sp []) (hr : Room (j + 1) X.A) (hk : k ≤ j) : CallR X (.builtin "len") (rLenO C sp) := by
  intro pins s σ H xs us Q I r h
  obtain ⟨a, dx, fs, rfl, ha, q⟩ := h
  cases r with
  | cons rx rr =>
    cases rr
    cases rx
    obtain ⟨f, fd, ps, ds, _, hm, F, b, d⟩ := c.ex
    cases d
    obtain ⟨mA, J, _⟩ := ins_get I.hok ha
    obtain ⟨od, J, _⟩ := J.look
    refine Calls.call_function_entry kind_len plain_len entry_len (args_len1 _) ?_
    unfold Builtin.«len»
    refine wpAny_bind (m := oneArg "len" _) (wpAny_pure ?_)
    refine wpAny_bind (m := callSpecial? (.ref a) (PySem.Str.ofString "__len__")) ?_
    unfold callSpecial? specialOf
    refine wpAny_bind (wpAny_bind (J.type.here ((PySem.W.looks_findIn I.kIn hm.at_).here ?_)))
    refine wpAny_holding (wpAny_bind ((PySem.W.bind_fn I.kIn _ (eq_of_beq hm.fn)).here ?_))
    have e0 : Env0 X.prog X.w X.K X.mg X.base X.A.in1 X.stack s H := by
      have e := I.env0
      exact ⟨e.frames, e.mod, e.bs, e.bsz, e.funs, e.frf, e.hok, e.bare⟩
    have hl := F.len _ _ _ _ q
    refine wpAny_bind (wpAny_call (codeAny_mono (F.run X.A.in1 X.stack s H ⟨[.ref a], []⟩ [.ref a] [.ref a] _ C8.E0 ((hr.in1).mono hk) e0 (by
      have := b s [.ref a] I.kIn (by simpa using hl)
      simpa using this) (.cons rfl .nil) q) fun r s' hq => ?_))
    cases r with
    | error e => exact C8.pass0 (X := X) (E := C8.E0) pins σ H s e s' I hq
    | ok fl =>
      cases fl with
      | ret u =>
        obtain ⟨v, H', I', rv, n, rfl, hn, q'⟩ := I.after hq
        obtain ⟨t, rfl⟩ := rv
        refine wpAny_pure ?_
        refine wpAny_bind (wpAny_holding (wpAny_pure ?_))
        refine wpAny_bind (wpAny_letGo ?_)
        show wpAny _ _ (if ((n : Nat) : Int) < 0 then _ else _) _ _ _
        rw [if_neg (by omega)]
        show wpAny _ _ (if ((n : Nat) : Int) ≥ 2 ^ 63 then _ else _) _ _ _
        rw [if_neg (by omega)]
        exact wpAny_bind (wpAny_mkInt (wpAny_pure ⟨_, rfl, .int n, H', I'.tok _, ⟨_, rfl⟩, q'⟩))
      | next => exact False.elim hq
      | brk => exact False.elim hq
      | cont => exact False.elim hq
end
end Lf
namespace Lf
open PySem PySem.Spec PyProof.Rows L2
section
variable {P : Program} {w : World} {K : PySem.W.Frag} {mg : Str → Option Value} {base : Heap} {C : Addr}
/-! ### _law_there -/
def spThere : Sp := fun vs H Q _ => ∃ (F : Addr) (u : V) (t : Option Int) (xs : List V) (es : List En), vs = [.ref F, u] ∧ UntV u t ∧ H F = some (.lst xs) ∧ EnL H xs es ∧ es.length ≤ 500 ∧
  ∀ G H' vs', H G = none → Same H H' → H' G = some (.lst vs') → EnL H' vs' (es.filter (upB t)) → Q (.ref G) H'
end
end Lf
namespace Lf
open PySem PySem.Spec PyProof.Rows L2
section
variable {P : Program} {w : World} {K : PySem.W.Frag} {mg : Str → Option Value} {base : Heap} {C : Addr}
/-! ### _law_end, no moment below zero -/
def spEnd84 : Sp := fun vs H Q _ => ∃ (a : PA) (n : Nat) (F : Addr) (xs : List V) (es : List En), vs = [.ref a, .ref F] ∧ Pen H a n ∧ n < 2 ^ 36 ∧ H F = some (.lst xs) ∧ EnL H xs es ∧ (∀ e ∈ es, 0 ≤ e.m) ∧ 1 ≤ es.length ∧ es.length ≤ 500 ∧
  ∀ u t H', UntV u t → (∀ m, t = some m → 0 ≤ m) → Pen H' a (n + 2) → Fr H H' → Q u H'
end
end Lf
namespace Lf
open PySem PySem.Spec PyProof.Rows L2
/-! ### a method with a keyword-only parameter that is left out, called where what it raises is taken -/
def MetD (P : Program) (w : World) (K : PySem.W.Frag) (mg : Str → Option Value) (base : Heap) (k : Nat) (C : Addr) (m : Str) (sp : Sp) (dvs : List V) : Prop :=
  ∃ f fd ps ds, Cls K C ∧ Meth K C m f ∧ FnOk P w K mg base (L2.CX P w) k f fd ps sp ∧ Binds K fd ps ds ∧ Vals dvs ds
section
variable {P : Program} {w : World} {K : PySem.W.Frag} {mg : Str → Option Value} {base : Heap} {C : Addr}
theorem metd_of {m qual kn : Str} {st : Stmt} {N ps : List Str} {k n : Nat} {sp : Sp} (c : Cls K C) (D : DmO K C m qual st ps n kn) (S : FnScope N ps (defScope st)) (len : ∀ vs H Q E, sp vs H Q E → vs.length = ps.length)
    (hb : ∀ (f : Addr) (cdv : Value) (A : Around) (outer : List Env) (s : Shared) (H : Hp) (vs : List V) (Q : VK) (E : XK), Room k (A.deeper (envOfC qual (defScope st) s.heap.objs.size f cdv)) → sp vs H Q E →
      ∃ t, PSs (cxOf (L2.CX P w) P w K mg base N qual (defScope st) f cdv A outer s H E) (defBody st) t ∧ t { nx := fun _ H' => Q .non H', rt := Q } (start N vs) H) : MetD P w K mg base (k + 1) C m sp [.non] := by
  obtain ⟨f, fd, ds, F, hm, hv, b, kb⟩ := D
  exact ⟨f, fd, ps, ds, c, hm, F.okX S len (fun cdv A outer s H vs Q E hr h => hb f cdv A outer s H vs Q E hr h), b, hv⟩
end
def tMethD (C : Addr) (m : Str) (sp : Sp) (dvs : List V) (W : WX) (to : TE) (ta : TA) : TE := fun σ H Q => to σ H fun x H1 => ∃ a dx fs, x = .ref a ∧ H1 a = some (.ins C dx fs) ∧ fs.lookup m = none ∧ ta σ H1 fun vs H2 => sp (x :: (vs ++ dvs)) H2 Q (WE W σ)
section
variable {X : Cx} {k j : Nat} {m : Str} {sp : Sp} {apos pos : Pos} {o e : Expr} {es : List Expr} {to : TE} {ta : TA} {C : Addr} {W : WX} {dvs : List V}
theorem pe_mtx {pl : Sem Bool} (he : PE X o to) (c : MetD X.prog X.w X.K X.mg X.base k C m sp dvs) (hr : Room j X.A) (hk : k ≤ j) (tx : Takes X W) (ha : L2.PA X (e :: es) ta)
    (hst : starEach (e :: es) X.env = (false, eval e X.env) :: starEach es X.env := by rfl) (hpl : (backTo pos (starEach es X.env)).any (·.1) = false := by rfl)
    (ht : eval (.Call (.Attribute o m apos) (e :: es) [] pos) X.env = (do
      let ov ← eval o X.env
      standAt apos.atName
      let (f, first) ← holding [ov] (getMethod ov m pl)
      callWith pos f first (backTo pos (starEach (e :: es) X.env)) (backToKw pos (keywordEach [] X.env))) := by rfl) :
    PE X (.Call (.Attribute o m apos) (e :: es) [] pos) (tMethD C m sp dvs W to ta) := by
  obtain ⟨f, fd, ps, ds, cc, hm, F, b, hv⟩ := c
  refine ⟨fun pins s σ H Q I h => ?_⟩
  refine PySem.W.methodCall_KW (pl := pl) (thn (he.run pins s σ H _ I h) fun u s1 ⟨x, H1, I1, rx, a, dx, fs, ex, ea, l, q⟩ => ?_) ht
  subst ex
  obtain rfl : u = Value.ref a := rx
  refine getmeth_ok I1 ea cc hm l ?_
  refine PySem.W.callWith_K (first := [.ref a]) (h₀ := X.base) I1.ok.mod.kin hm.kp (thn (ha.run pos pins s1 σ H1 _ I1 q) fun us s2 ⟨vs, H2, I2, r, q2⟩ => ⟨I2.kIn, ?_⟩) hst hpl
  exact run_fnSD (us := .ref a :: us) (vs := .ref a :: vs) F (hr.mono hk) b hv (passAt tx σ) I2 (.cons rfl r) q2
end
end Lf
namespace Lf
open PySem PySem.Spec PyProof.Rows L2
/-! ### what a log refuses: moments, witnesses and records of any kind -/
theorem metd_of' {P : Program} {w : World} {K : PySem.W.Frag} {mg : Str → Option Value} {base : Heap} {C : Addr} {m qual : Str} {st : Stmt} {N ps : List Str} {k : Nat} {sp : Sp} (c : Cls K C) (D : Dm K C m qual st ps) (S : FnScope N ps (defScope st)) (len : ∀ vs H Q E, sp vs H Q E → vs.length = ps.length)
    (hb : ∀ (f : Addr) (cdv : Value) (A : Around) (outer : List Env) (s : Shared) (H : Hp) (vs : List V) (Q : VK) (E : XK), Room k (A.deeper (envOfC qual (defScope st) s.heap.objs.size f cdv)) → sp vs H Q E →
      ∃ t, PSs (cxOf (L2.CX P w) P w K mg base N qual (defScope st) f cdv A outer s H E) (defBody st) t ∧ t { nx := fun _ H' => Q .non H', rt := Q } (start N vs) H) : MetD P w K mg base (k + 1) C m sp [] := by
  obtain ⟨f, fd, F, hm, b⟩ := D
  exact ⟨f, fd, ps, [], c, hm, F.okX S len (fun cdv A outer s H vs Q E hr h => hb f cdv A outer s H vs Q E hr h), b, .nil⟩
def isS8 : PyData → Bool
  | .str _ => true
  | _ => false
theorem kit_str8 (d : PyData) : kitB (tyN d) "str" = some (isS8 d) := by
  cases d
  · show kitB "NoneType" "str" = some false; decide +kernel
  · show kitB "bool" "str" = some false; decide +kernel
  · show kitB "int" "str" = some false; decide +kernel
  · show kitB "str" "str" = some true; decide +kernel
  · show kitB "list" "str" = some false; decide +kernel
  · show kitB "tuple" "str" = some false; decide +kernel
  · show kitB "dict" "str" = some false; decide +kernel
def ltrB (c : Nat) : Bool := decide (c ∈ (Str.ofString "abcdefghijklmnopqrstuvwxyz").cps.toList)
theorem ltr_iff (c : Nat) : ltrB c = true ↔ 97 ≤ c ∧ c ≤ 122 := by
  unfold ltrB
  rw [decide_eq_true_iff]
  constructor
  · intro h
    rw [abc_cps] at h
    obtain ⟨k, hk, rfl⟩ := List.mem_map.mp h
    have := List.mem_range.mp hk
    omega
  · exact fun h => abc_in h.1 h.2
def witB : PyData → Bool
  | .str z => decide (1 ≤ z.length) && decide (z.length ≤ 12) && z.cps.toList.all ltrB
  | _ => false
theorem wit_iff (z : Str) : witB (.str z) = true ↔ WitW z := by
  show (decide (1 ≤ z.length) && decide (z.length ≤ 12) && z.cps.toList.all ltrB) = true ↔ _
  rw [Bool.and_eq_true, Bool.and_eq_true, decide_eq_true_iff, decide_eq_true_iff, List.all_eq_true]
  constructor
  · rintro ⟨⟨h1, h2⟩, h3⟩
    exact ⟨h1, h2, fun c hc => (ltr_iff c).mp (h3 c hc)⟩
  · rintro ⟨h1, h2, h3⟩
    exact ⟨⟨h1, h2⟩, fun c hc => (ltr_iff c).mpr (h3 c hc)⟩
def shortD : PyData → Prop
  | .str z => z.length ≤ 40000
  | _ => True
section
variable {P : Program} {w : World} {K : PySem.W.Frag} {mg : Str → Option Value} {base : Heap} {C CI CW CR CD CU : Addr}
def spWitA : Sp := fun vs H Q _ => ∃ (v : V) (d : PyData), vs = [v] ∧ Dv H v d ∧ shortD d ∧ ∀ H', Same H H' → Q (.bl (witB d)) H'
theorem okA_is_witness (D : Df K mg "is_witness" s_is_witness P_is_witness) (B : Bi mg) (UE : Bw mg) : C8.Cal P w K mg base 1 "is_witness" spWitA [] := by
  obtain ⟨tL, hc_LETTERS⟩ := UE.abc_
  obtain ⟨tM, hc_MOST_LETTERS⟩ := UE.most_
  refine cal_of D sc_is_witness (fun vs H Q E h => ?_) (fun f cdv A outer s H vs Q E hr h => ?_)
  · obtain ⟨v, d, rfl, _⟩ := h
    rfl
  · obtain ⟨v, d, rfl, dv, sh, kk⟩ := h
    refine ⟨_, (pss_cons (ps_if (PW.pt (pw_or (pt_not (pt_val (pe_callB (call_isi) (by rfl) B.isinstance_ bt_isinstance (pa_cons (pv 0) (pa_cons (pe_bltn (v := .ty "str") (by rfl) B.str_ bt_str rfl) pa_nil))))) (pw_or1 (pt_not (pt_chain op_le op_le pe_int (pe_callB (call_len_str) (by rfl) B.len_ bt_len (pa_cons (pv 0) pa_nil)) (pe_glob (v := .int 12) (by rfl) hc_MOST_LETTERS ⟨_, rfl⟩))))))
      (pss_one (ps_ret pe_bl))
      pss_nil)
    (pss_one (ps_ret (pe_callB (cr_all rfl) (by rfl) B.all_ bt_all (pa_cons (pe_lc (own := [("letter", 1)]) (g := (gName 1)) (by rfl) sc_is_witness.nd (pi_str (pv 0)) (blkOk_by (own := [("letter", 1)]) (N := N_is_witness) (sc := defScope s_is_witness) (by decide +kernel)) (fun _ _ _ _ _ => (pg_name (i := 1) sc_is_witness.nd rfl (Or.inl rfl))) (fun _ _ _ _ _ => pts_nil) (fun _ _ _ _ _ => (pe_cmpR op_in_sign (pv 1) (pe_glob (v := .str "abcdefghijklmnopqrstuvwxyz") (by rfl) hc_LETTERS ⟨_, rfl⟩) rfl))) pa_nil))))), ?_⟩
    refine ⟨_, rfl, _, _, _, _, isS8 d, rfl, .ty "str", dv.ty, kit_ty (kit_str8 d), ?_⟩
    cases hs : isS8 d with
    | false =>
      have e : witB d = false := by
        cases d <;> first | rfl | cases hs
      rw [e] at kk
      exact ⟨_, rfl, iteT (kk H (Same.refl H))⟩
    | true =>
      cases dv with
      | str z =>
        refine ⟨_, rfl, iteF ?_⟩
        have sh : z.length ≤ 40000 := sh
        refine ⟨_, rfl, z, rfl, by rw [sizeLine_eq]; omega, _, _, rfl, rfl, _, rfl, ?_⟩
        have hz : z.cps.size = z.length := rfl
        have hzl : z.cps.toList.length = z.length := by
          rw [Array.length_toList]
          rfl
        by_cases h1 : 1 ≤ z.length
        · refine iteD (show (1 : Int) ≤ ((z.length : Nat) : Int) by omega) ⟨_, _, rfl, rfl, _, rfl, ?_⟩
          by_cases h2 : z.length ≤ 12
          · refine iteNS (show ((z.length : Nat) : Int) ≤ 12 by omega) ?_
            refine ⟨_, rfl, z, rfl, fun Y nY => ?_⟩
            refine lc_it (walk_str (z := z)) (fun i H' => Same H H' ∧ H' Y = some (.lst (((z.cps.toList.take i).map ltrB).map V.bl))) ⟨sm_upd nY, upd_same⟩ (fun _ _ _ _ => trivial) ?_ ?_
            · rintro i x H' _ hi ⟨s', eY⟩ ⟨rfl, c, hc, rfl⟩
              rw [← Array.getElem?_toList] at hc
              refine ⟨rfl, _, rfl, c, _, rfl, rfl, _, eY, ?_, ?_, ?_⟩
              · rw [List.length_map, List.length_map, List.length_take]
                exact small1000 (by omega)
              · intro b o eb
                rw [upd_ne (ne_of_none eb nY)]
                exact s' _ _ eb
              · rw [upd_same, List.take_add_one, hc, List.map_append, List.map_append]
                rfl
            rintro H' ⟨s', eY⟩
            rw [List.take_of_length_le (by rw [hzl, ← hz]; exact Nat.le_refl _)] at eY
            refine ⟨Y, _, rfl, SqL.of eY, ?_⟩
            have e : witB (.str z) = (z.cps.toList.map ltrB).all id := by
              show (decide (1 ≤ z.length) && decide (z.length ≤ 12) && z.cps.toList.all ltrB) = _
              rw [decide_eq_true h1, decide_eq_true h2, List.all_map]
              rfl
            rw [e] at kk
            exact kk _ s'
          · have e : witB (.str z) = false := by
              show (decide (1 ≤ z.length) && decide (z.length ≤ 12) && z.cps.toList.all ltrB) = _
              rw [decide_eq_false h2, Bool.and_false, Bool.false_and]
            rw [e] at kk
            exact iteTs (by rw [decide_eq_false (show ¬ ((z.length : Nat) : Int) ≤ 12 by omega)]; rfl) (kk H (Same.refl H))
        · have e : witB (.str z) = false := by
            show (decide (1 ≤ z.length) && decide (z.length ≤ 12) && z.cps.toList.all ltrB) = _
            rw [decide_eq_false h1, Bool.false_and, Bool.false_and]
          rw [e] at kk
          exact iteDn (by omega) ⟨_, rfl, iteT (kk H (Same.refl H))⟩
      | non => cases hs
      | bl => cases hs
      | int => cases hs
      | lst => cases hs
      | tup => cases hs
      | dk0 => cases hs
      | dk1 => cases hs
def spSrcX (CI CW : Addr) : Sp := fun vs H Q E => ∃ (v x : V) (d e : PyData), vs = [v, x] ∧ Dv H v d ∧ Dv H x e ∧ shortD e ∧ (atLeast 0 d = true → witB e = true → ∀ H', Same H H' → Q .non H') ∧ (atLeast 0 d = false → Out CI v H E) ∧ (atLeast 0 d = true → witB e = false → ∀ H', Same H H' → Out CW x H' E)
/-! ### enter -/
def spEntX (C CD : Addr) : Sp := fun vs H Q E => ∃ (o t D : Addr) (es : List En) (e : En), vs = [.ref o, .ref t] ∧ LogAt C H o D es ∧ EnAt H t e ∧ es.length ≤ 500 ∧ (e.m ∉ es.map (·.m) → ∀ H', KpD D H H' → LogAt C H' o D (es ++ [e]) → Q .non H') ∧ (e.m ∈ es.map (·.m) → Out CD (.int e.m) H E)
theorem okX_Log_enter (TK : LgT K mg C) (D : Dm K C "enter" "Log.enter" s_Log_enter P_Log_enter) (T : ValC P K mg CD "DuplicateMoment" "value") : MetD P w K mg base 3 C "enter" (spEntX C CD) [] := by
  refine metd_of' TK.c.cl D sc_Log_enter (fun vs H Q E h => ?_) (fun f cdv A outer s H vs Q E hr h => ?_)
  · obtain ⟨o, t, D, es, e, rfl, _⟩ := h
    rfl
  · obtain ⟨o, t, D, es, e, rfl, hL, hE, hl, kk, ke⟩ := h
    have hu := hu_of hr
    refine ⟨_, (pss_cons (ps_if (pt_cmp (pc_din hu (pe_ix (r := rIxT K) ix_tup (pv 1) pe_int (fun _ _ => rfl)) (pe_fld (pv 0) rfl)))
      (pss_one (ps_raise rfl (takes_of rfl rfl rfl rfl) (pmk_val T hr (by decide) rfl (pe_ix (r := rIxT K) ix_tup (pv 1) pe_int (fun _ _ => rfl)))))
      pss_nil)
    (pss_one (ps_dput hu (pe_fld (pv 0) rfl) (pe_ix (r := rIxT K) ix_tup (pv 1) pe_int (fun _ _ => rfl)) (pv 1) rfl))), ?_⟩
    obtain ⟨⟨dx, eo⟩, ⟨kvs, eD, hK⟩, nd⟩ := hL
    have hE0 := hE
    obtain ⟨v, et, hx⟩ := hE
    have lk := hK.len
    refine ⟨_, rfl, t, _, _, _, rfl, rfl, SqT.of et, atI_nat (j := 0) rfl, _, rfl, o, C, dx, _, _, rfl, eo, TK.c.cl, TK.nh, rfl, D, _, rfl, DGet.k (k := Sum.inl e.m) eD, ?_⟩
    by_cases hn : e.m ∈ es.map (·.m)
    · obtain ⟨e', he', em⟩ := List.mem_map.mp hn
      obtain ⟨r, hv, _⟩ := hK.some nd he'
      rw [← em, hv]
      refine ⟨true, rfl, iteT ?_⟩
      refine ⟨_, rfl, t, _, _, _, rfl, rfl, SqT.of et, atI_nat (j := 0) rfl, mkv (ke hn)⟩
    · rw [hK.none hn]
      refine ⟨false, rfl, iteF ?_⟩
      refine ⟨_, rfl, _, rfl, o, C, dx, _, _, rfl, eo, TK.c.cl, TK.nh, rfl, _, rfl, t, _, _, _, rfl, rfl, SqT.of et, atI_nat (j := 0) rfl, D, _, rfl, DPut.k (k := Sum.inl e.m) eD (small1000 (by omega)), ?_⟩
      rw [putK_new _ (hK.none hn)]
      have kp : KpD D H (upd H D (.dK (kvs ++ [(Sum.inl e.m, .ref t)]))) := fun b x eb ne => by
        rw [upd_ne ne]
        exact eb
      have tk := kp.tup eD
      have oD : o ≠ D := fun z => by
        rw [z, eD] at eo
        cases eo
      refine kk hn _ kp ⟨⟨dx, kp _ _ eo oD⟩, ⟨_, upd_same, (hK.kp tk).snoc (hE0.kp tk)⟩, ?_⟩
      rw [List.map_append, List.nodup_append]
      refine ⟨nd, by simp, fun a ha b hb => ?_⟩
      rw [List.map_cons, List.map_nil, List.mem_singleton] at hb
      intro z
      rw [← hb, ← z] at hn
      exact hn ha
/-! ### report, trust, distrust, delete -/
theorem rec_of {H : Hp} {v : V} {d : PyData} (dv : Dv H v d) (h : recB d = true) : ∃ (r : Addr) (x : Rec), v = .ref r ∧ H r = some (rcO x) := by
  cases dv with
  | tup e1 e2 =>
    rename_i a xs ds
    have l3 : ds.length = 3 := Decidable.byContradiction fun n => by
      rw [rec_three n] at h
      cases h
    match ds, l3 with
    | [d0, d1, d2], _ =>
      cases e2 with
      | cons a0 e3 =>
        cases e3 with
        | cons a1 e4 =>
          cases e4 with
          | cons a2 e5 =>
            cases e5
            rename_i v0 v1 v2
            have h : (words.any (fun z => PyData.eqv z d0) && (isI d1 && isI d2)) = true := h
            rw [Bool.and_eq_true, Bool.and_eq_true] at h
            obtain ⟨hw, i1, i2⟩ := h
            obtain ⟨t, rfl, rfl⟩ : ∃ t, v1 = .int t ∧ d1 = .int t := by
              cases a1 <;> first | exact ⟨_, rfl, rfl⟩ | cases i1
            obtain ⟨n, rfl, rfl⟩ : ∃ n, v2 = .int n ∧ d2 = .int n := by
              cases a2 <;> first | exact ⟨_, rfl, rfl⟩ | cases i2
            obtain ⟨b, rfl⟩ : ∃ b, v0 = .str (wd b) := by
              cases a0 with
              | str x =>
                have hw : x = "at least" ∨ x = "at most" := by
                  simp [words, PyData.eqv] at hw
                  rcases hw with h | h
                  · exact .inl h.symm
                  · exact .inr h.symm
                rcases hw with rfl | rfl
                · exact ⟨true, rfl⟩
                · exact ⟨false, rfl⟩
              | non => simp [words, PyData.eqv] at hw
              | bl => simp [words, PyData.eqv] at hw
              | int => simp [words, PyData.eqv] at hw
              | lst => simp [words, PyData.eqv] at hw
              | tup => simp [words, PyData.eqv] at hw
              | dk0 => simp [words, PyData.eqv] at hw
              | dk1 => simp [words, PyData.eqv] at hw
            exact ⟨a, ⟨b, t, n⟩, rfl, e1⟩
  | non => cases h
  | bl => cases h
  | int => cases h
  | str => cases h
  | lst => cases h
  | dk0 => cases h
  | dk1 => cases h
def spRepX (C CI CW CR CD : Addr) : Sp := fun vs H Q E => ∃ (o D : Addr) (v x y : V) (d e g : PyData) (es : List En), vs = [.ref o, v, x, y] ∧ LogAt C H o D es ∧ es.length ≤ 500 ∧ Dv H v d ∧ Dv H x e ∧ shortD e ∧ Dv H y g ∧ rgB g = true ∧
  (atLeast 0 d = false → Out CI v H E) ∧ (atLeast 0 d = true → witB e = false → ∀ H', Same H H' → Out CW x H' E) ∧ (atLeast 0 d = true → witB e = true → recB g = false → ∀ H', Same H H' → OutY CR "index" (.int 0) H' E) ∧
  (∀ m z r rc, v = .int m → x = .str z → y = .ref r → H r = some (rcO rc) → 0 ≤ m → WitW z → (m ∈ es.map (·.m) → ∀ H', Same H H' → Out CD (.int m) H' E) ∧ (m ∉ es.map (·.m) → ∀ H', KpD D H H' → LogAt C H' o D (es ++ [⟨m, z, .rd rc⟩]) → Q .non H'))
theorem src_of {H : Hp} {v x : V} {d e : PyData} (dv : Dv H v d) (dx : Dv H x e) (h1 : atLeast 0 d = true) (h2 : witB e = true) : ∃ m z, v = .int m ∧ x = .str z ∧ 0 ≤ m ∧ WitW z := by
  cases dv with
  | int i =>
    cases dx with
    | str z => exact ⟨i, z, rfl, rfl, of_decide_eq_true h1, (wit_iff z).mp h2⟩
    | non => cases h2
    | bl => cases h2
    | int => cases h2
    | lst => cases h2
    | tup => cases h2
    | dk0 => cases h2
    | dk1 => cases h2
  | non => cases h1
  | bl => cases h1
  | str => cases h1
  | lst => cases h1
  | tup => cases h1
  | dk0 => cases h1
  | dk1 => cases h1
def spTrX (C CI CW CD : Addr) (b : Bool) : Sp := fun vs H Q E => ∃ (o D : Addr) (v x : V) (d e : PyData) (es : List En), vs = [.ref o, v, x] ∧ LogAt C H o D es ∧ es.length ≤ 500 ∧ Dv H v d ∧ Dv H x e ∧ shortD e ∧
  (atLeast 0 d = false → Out CI v H E) ∧ (atLeast 0 d = true → witB e = false → ∀ H', Same H H' → Out CW x H' E) ∧
  (∀ m z, v = .int m → x = .str z → 0 ≤ m → WitW z → (m ∈ es.map (·.m) → ∀ H', Same H H' → Out CD (.int m) H' E) ∧ (m ∉ es.map (·.m) → ∀ H', KpD D H H' → LogAt C H' o D (es ++ [⟨m, z, .tr b⟩]) → Q .non H'))
def enNot8 (m : Int) (e : En) : Bool := decide (e.m ≠ m)
def spDelX (C CU : Addr) : Sp := fun vs H Q E => ∃ (o D : Addr) (v : V) (d : PyData) (es : List En), vs = [.ref o, v] ∧ LogAt C H o D es ∧ Dv H v d ∧ (∀ e ∈ es, v = .int e.m → ∀ H', KpD D H H' → LogAt C H' o D (es.filter (enNot8 e.m)) → Q .non H') ∧ ((isI d = false ∨ ∃ m, v = .int m ∧ m ∉ es.map (·.m)) → Out CU v H E)
theorem KvL.drop8 {H : Hp} {m : Int} : ∀ {kvs es}, KvL H kvs es → KvL H (dropK kvs (Sum.inl m)) (es.filter (enNot8 m))
  | _, _, .nil => .nil
  | _, _, .cons (r := r) (e := e) (kvs := kvs) (es := es) h t => by
    by_cases c : e.m = m
    · have e1 : dropK ((Sum.inl e.m, V.ref r) :: kvs) (Sum.inl m) = dropK kvs (Sum.inl m) := by
        unfold dropK
        rw [List.filter_cons_of_neg (by simp [c])]
      have e2 : (e :: es).filter (enNot8 m) = es.filter (enNot8 m) := List.filter_cons_of_neg (by simp [enNot8, c])
      rw [e1, e2]
      exact t.drop8
    · have e1 : dropK ((Sum.inl e.m, V.ref r) :: kvs) (Sum.inl m) = (Sum.inl e.m, V.ref r) :: dropK kvs (Sum.inl m) := by
        unfold dropK
        rw [List.filter_cons_of_pos (by simp [c])]
      have e2 : (e :: es).filter (enNot8 m) = e :: es.filter (enNot8 m) := List.filter_cons_of_pos (by simp [enNot8, c])
      rw [e1, e2]
      exact .cons h t.drop8
abbrev s_Log_delete : Stmt := (C8.clsBody (topS 22)).getD 6 (.Pass ⟨0, 0, 0, 0⟩)
abbrev N_Log_delete : List Str := ["self", "moment"]
abbrev P_Log_delete : List Str := ["self", "moment"]
theorem sc_Log_delete : FnScope N_Log_delete P_Log_delete (defScope s_Log_delete) := ⟨rfl, rfl, rfl, by decide +kernel, rfl, by decide +kernel, by decide +kernel⟩
end
end Lf
namespace Lf
open PySem PySem.Spec PyProof.Rows L2
theorem lay_recs (ds : List Rec) : (PyData.list (ds.map rcD)).canLay0 = true := by
  have h : (PyData.canLay0 (.list (ds.map rcD)) && decide _) = true := sh_recs ds
  exact (Bool.and_eq_true _ _ ▸ h).1
/-- what is sorted is one -/
theorem en_sorted {fs es : List En} (p : fs.Perm es) (h1 : (fs.map (·.m)).Pairwise (· ≤ ·)) (h2 : (es.map (·.m)).Pairwise (· < ·)) : fs = es := by
  rw [List.pairwise_map] at h1 h2
  have key : ∀ {l : List En}, l.Pairwise (fun a b => a.m < b.m) → ∀ a ∈ l, ∀ b ∈ l, a.m = b.m → a = b := by
    intro l
    induction l with
    | nil => exact fun _ a ha => (nomatch ha)
    | cons x l ih =>
      intro hp a ha b hb e
      rw [List.pairwise_cons] at hp
      rcases List.mem_cons.mp ha with ea | ha'
      · rcases List.mem_cons.mp hb with eb | hb'
        · rw [ea, eb]
        · have := hp.1 b hb'
          rw [ea] at e
          omega
      · rcases List.mem_cons.mp hb with eb | hb'
        · have := hp.1 a ha'
          rw [eb] at e
          omega
        · exact ih hp.2 a ha' b hb' e
  exact List.Perm.eq_of_pairwise (le := fun a b : En => a.m ≤ b.m) (fun a b ha hb e1 e2 => key h2 a (p.mem_iff.mp ha) b hb (Int.le_antisymm e1 e2)) h1 (h2.imp fun h => Int.le_of_lt h) p
theorem LogAt.fr {C : Addr} {H H' : Hp} {o D : Addr} {es : List En} (h : LogAt C H o D es) (ne : es ≠ []) (f : Fr H H') : LogAt C H' o D es := by
  obtain ⟨⟨dx, h1⟩, ⟨kvs, h2, h3⟩, h4⟩ := h
  refine ⟨⟨dx, f.k _ _ h1 fun _ z => by cases z⟩, ⟨kvs, f.k _ _ h2 fun x z => ?_, h3.kp fun b xs e => f.t b xs e⟩, h4⟩
  cases h3 with
  | nil => exact ne rfl
  | cons _ _ =>
    unfold penD at z
    injection z with z
    injection z with z _
    injection z with z _
    cases z
end Lf
namespace Lf
open PySem PySem.Spec PyProof.Rows L2
/-! ### the entries of a log, asked twice -/
theorem kbb8 : kitB "bool" "bool" = some true := by decide +kernel
theorem ktb8 : kitB "tuple" "bool" = some false := by decide +kernel
theorem ktt8 : kitB "tuple" "tuple" = some true := by decide +kernel
theorem kbt8 : kitB "bool" "tuple" = some false := by decide +kernel
section
variable {P : Program} {w : World} {K : PySem.W.Frag} {mg : Str → Option Value} {base : Heap} {C : Addr}
def spLenL (C : Addr) : Sp := fun vs H Q _ => ∃ (o D : Addr) (es : List En), vs = [.ref o] ∧ LogAt C H o D es ∧ Q (.int (es.length : Int)) H
abbrev s_Log___len__ : Stmt := (C8.clsBody (topS 22)).getD 1 (.Pass ⟨0, 0, 0, 0⟩)
abbrev N_Log___len__ : List Str := ["self"]
abbrev P_Log___len__ : List Str := ["self"]
theorem sc_Log___len__ : FnScope N_Log___len__ P_Log___len__ (defScope s_Log___len__) := ⟨rfl, rfl, rfl, by decide +kernel, rfl, by decide +kernel, by decide +kernel⟩
theorem okM_Log___len__ (TK : LgT K mg C) (D : Dm K C "__len__" "Log.__len__" s_Log___len__ P_Log___len__) (B : Bi mg) : C8.Met P w K mg base 1 C "__len__" (spLenL C) [] := by
  refine met_of TK.c.cl D sc_Log___len__ (fun vs H Q E h => ?_) (fun f cdv A outer s H vs Q E hr h => ?_)
  · obtain ⟨o, D, es, rfl, _⟩ := h
    rfl
  · obtain ⟨o, D, es, rfl, hL, kk⟩ := h
    refine ⟨_, (pss_one (ps_ret (pe_callB (call_lenD) (by rfl) B.len_ bt_len (pa_cons (pe_fld (pv 0) rfl) pa_nil)))), ?_⟩
    obtain ⟨⟨dx, eo⟩, ⟨kvs, eD, hK⟩, _⟩ := hL
    refine ⟨_, rfl, o, C, dx, _, _, rfl, eo, TK.c.cl, TK.nh, rfl, D, kvs, rfl, eD, ?_⟩
    rw [hK.len]
    exact kk
def spRight80 (C : Addr) : Sp := fun vs H Q _ => ∃ (o D L : Addr) (u : V) (t : Option Int) (xs : List V) (ms es : List En), vs = [.ref o, .ref L, u] ∧ LogAt C H o D ms ∧ H L = some (.lst xs) ∧ EnL H xs es ∧ ms.Perm es ∧ (es.map (·.m)).Pairwise (· < ·) ∧ UntV u t ∧ es.length ≤ 300 ∧ (∀ e ∈ es, WitW e.w) ∧
  ∀ H', Same H H' → Q (.bl true) H'
end
end Lf
namespace Lf
open PySem PySem.Spec PyProof.Rows L2 TL
/-! ### decimal digits -/
/-- the last k digits -/
def digK : Nat → Nat → List Nat
  | 0, _ => []
  | k + 1, b => digK k (b / 10) ++ [48 + b % 10]
theorem numL_app (r : Nat) (h : 1 ≤ r) : ∀ (k b : Nat), b < 10 ^ k → numL (r * 10 ^ k + b) = numL r ++ digK k b
  | 0, b, hb => by
    have : b = 0 := by
      have : b < 1 := hb
      omega
    subst this
    rw [Nat.pow_zero, Nat.mul_one, Nat.add_zero]
    simp [digK]
  | k + 1, b, hb => by
    have e : r * 10 ^ (k + 1) = 10 * (r * 10 ^ k) := by
      rw [Nat.pow_succ]
      calc r * (10 ^ k * 10) = (r * 10 ^ k) * 10 := (Nat.mul_assoc _ _ _).symm
        _ = 10 * (r * 10 ^ k) := Nat.mul_comm _ _
    have p : 1 ≤ r * 10 ^ k := Nat.mul_pos h (Nat.pow_pos (by decide))
    have hb' : b / 10 < 10 ^ k := by
      rw [Nat.pow_succ] at hb
      omega
    have ih := numL_app r h k (b / 10) hb'
    rw [e, numL_step (by omega)]
    have q : (10 * (r * 10 ^ k) + b) / 10 = r * 10 ^ k + b / 10 := by omega
    have m : (10 * (r * 10 ^ k) + b) % 10 = b % 10 := by omega
    rw [q, m, ih, List.append_assoc]
    rfl
theorem digK_zero : ∀ k : Nat, digK k 0 = List.replicate k 48
  | 0 => rfl
  | k + 1 => by
    show digK k (0 / 10) ++ [48 + 0 % 10] = _
    rw [Nat.zero_div, Nat.zero_mod, digK_zero k, List.replicate_succ']
theorem digK_pad : ∀ (k b : Nat), 1 ≤ k → b < 10 ^ k → digK k b = List.replicate (k - (numL b).length) 48 ++ numL b
  | 0, _, h, _ => by omega
  | 1, b, _, hb => by
    have hb : b < 10 := hb
    rw [numL_lt hb]
    show digK 0 (b / 10) ++ [48 + b % 10] = _
    rw [Nat.mod_eq_of_lt hb]
    rfl
  | k + 2, b, _, hb => by
    have hb' : b / 10 < 10 ^ (k + 1) := by
      rw [Nat.pow_succ] at hb
      omega
    have ih := digK_pad (k + 1) (b / 10) (by omega) hb'
    show digK (k + 1) (b / 10) ++ [48 + b % 10] = _
    by_cases c : b < 10
    · rw [Nat.div_eq_of_lt c, digK_zero, numL_lt c, Nat.mod_eq_of_lt c]
      rfl
    · rw [ih, numL_step (n := b) (by omega), List.append_assoc, List.length_append]
      show _ = List.replicate (k + 2 - ((numL (b / 10)).length + 1)) 48 ++ _
      rw [show k + 2 - ((numL (b / 10)).length + 1) = k + 1 - (numL (b / 10)).length by omega]
/-- how an integer is written -/
def decL : Int → List Nat
  | .ofNat n => numL n
  | .negSucc n => 45 :: numL (n + 1)
theorem tl_int (n : Int) : tl (Str.ofString (toString n)) = decL n := by
  cases n with
  | ofNat n => exact tl_num n
  | negSucc n =>
    rw [tl_ofString]
    show ("-" ++ Nat.repr (n + 1)).toList.map Char.toNat = 45 :: numL (n + 1)
    rw [String.toList_append, List.map_append, Nat.toList_repr]
    rfl
theorem numL_head : ∀ n : Nat, 1 ≤ n → (numL n).head? ≠ some 48 := fun n => by
  induction n using Nat.strongRecOn with
  | _ n ih =>
    intro h
    by_cases c : n < 10
    · rw [numL_lt c]
      intro z
      have z : some (48 + n) = some 48 := z
      have := Option.some.inj z
      omega
    · rw [numL_step (by omega)]
      have i := ih (n / 10) (by omega) (by omega)
      have ne := numL_ne (n / 10)
      cases e : numL (n / 10) with
      | nil => exact absurd e ne
      | cons x r =>
        rw [e] at i
        exact i
/-! ### how an integer is read -/
def isDg (c : Nat) : Bool := decide (48 ≤ c) && decide (c ≤ 57)
theorem isDg_iff (c : Nat) : isDg c = true ↔ 48 ≤ c ∧ c ≤ 57 := by
  unfold isDg
  rw [Bool.and_eq_true, decide_eq_true_iff, decide_eq_true_iff]
def digsOf (l : List Nat) : List Nat := if l.head? = some 45 then l.tail else l
def ReadOk (l : List Nat) : Prop := 1 ≤ (digsOf l).length ∧ (digsOf l).length ≤ 200 ∧ (digsOf l).all isDg = true ∧ ¬ ((digsOf l).head? = some 48 ∧ l ≠ [48])
instance (l : List Nat) : Decidable (ReadOk l) := by unfold ReadOk; infer_instance
def valOf (l : List Nat) : Int := if l.head? = some 45 then -((NumText.digitsVal (digsOf l) : Nat) : Int) else ((NumText.digitsVal (digsOf l) : Nat) : Int)
def readI (l : List Nat) : Option Int := if ReadOk l then some (valOf l) else none
theorem all_dg {l : List Nat} : l.all isDg = true ↔ NumText.AllDigits l := by
  rw [List.all_eq_true]
  exact ⟨fun h c hc => (isDg_iff c).mp (h c hc), fun h c hc => (isDg_iff c).mpr (h c hc)⟩
theorem numL_no45 (n : Nat) : (numL n).head? ≠ some 45 := fun h => by
  have := numL_free (n := n) (s := 45) (.inl (by decide))
  exact this (List.mem_of_mem_head? h)
theorem readI_decL (n : Int) (h : (numL n.natAbs).length ≤ 200) : readI (decL n) = some n := by
  unfold readI
  cases n with
  | ofNat n =>
    have e : digsOf (decL (Int.ofNat n)) = numL n := if_neg (numL_no45 n)
    have h : (numL n).length ≤ 200 := h
    have ok : ReadOk (decL (Int.ofNat n)) := by
      unfold ReadOk
      rw [e]
      refine ⟨List.length_pos_iff.mpr (numL_ne n), h, all_dg.mpr (numL_digits n), fun z => ?_⟩
      rcases Nat.eq_zero_or_pos n with c | c
      · subst c
        exact z.2 (numL_lt (by decide))
      · exact numL_head n c z.1
    rw [if_pos ok]
    unfold valOf
    rw [e, if_neg (show ¬ (decL (Int.ofNat n)).head? = some 45 from numL_no45 n), numL_val]
    rfl
  | negSucc n =>
    have e : digsOf (decL (Int.negSucc n)) = numL (n + 1) := rfl
    have h : (numL (n + 1)).length ≤ 200 := h
    have ok : ReadOk (decL (Int.negSucc n)) := by
      unfold ReadOk
      rw [e]
      exact ⟨List.length_pos_iff.mpr (numL_ne _), h, all_dg.mpr (numL_digits _), fun z => numL_head (n + 1) (by omega) z.1⟩
    rw [if_pos ok]
    unfold valOf
    rw [e, if_pos (show (decL (Int.negSucc n)).head? = some 45 from rfl), numL_val]
    rfl
/-- what int(text) gives -/
theorem intText_read {x : Str} (h : ReadOk (tl x)) : intText? x = some (valOf (tl x)) := by
  obtain ⟨h1, h2, h3, _⟩ := h
  have hd := all_dg.mp h3
  have hl : x.length = (tl x).length := len_tl x
  unfold valOf
  by_cases c : (tl x).head? = some 45
  · have e : digsOf (tl x) = (tl x).tail := if_pos c
    rw [if_pos c]
    rw [e] at h1 h2 hd ⊢
    have e2 : tl x = 45 :: (tl x).tail := by
      cases q : tl x with
      | nil =>
        rw [q] at c
        cases c
      | cons a r =>
        rw [q] at c
        have c : some a = some 45 := c
        cases c
        rfl
    refine intText_neg (x := x) (cs := (tl x).tail) e2 hd (List.length_pos_iff.mp h1) ?_
    have := congrArg List.length e2
    rw [List.length_cons] at this
    omega
  · have e : digsOf (tl x) = tl x := if_neg c
    rw [if_neg c]
    rw [e] at h1 h2 hd ⊢
    exact intText_digits (x := x) hd (List.length_pos_iff.mp h1) (by omega)
end Lf
namespace Lf
open PySem PySem.Spec PyProof.Rows L2 TL
/-! ### sep.join(reversed(a list of texts)) -/
theorem strs_app : ∀ {us vs : List Value} {xs ys : List Str}, StrsAre us xs → StrsAre vs ys → StrsAre (us ++ vs) (xs ++ ys)
  | _, _, _, _, .nil, h => h
  | _, _, _, _, .cons y t r, h => .cons y t (strs_app r h)
theorem strs_rev : ∀ {us : List Value} {ys : List Str}, StrsAre us ys → StrsAre us.reverse ys.reverse
  | _, _, .nil => .nil
  | _, _, .cons y t r => by
    rw [List.reverse_cons, List.reverse_cons]
    exact strs_app (strs_rev r) (.cons y t .nil)
theorem items_rev {its : List Value} {acc : Array Value} (h : ItemsOf (fun i v => its.toArray[its.toArray.size - 1 - i]? = some v) acc its.toArray.size) : acc.toList = its.reverse := by
  obtain ⟨h1, h2⟩ := h
  have h1 : acc.size = its.length := h1
  apply List.ext_getElem?
  intro i
  by_cases c : i < its.length
  · obtain ⟨v, hv⟩ : ∃ v, acc[i]? = some v := ⟨acc[i]'(by omega), Array.getElem?_eq_getElem (by omega)⟩
    have e := h2 i v hv
    rw [Array.getElem?_toList, hv, List.getElem?_reverse c]
    have e : its.toArray[its.length - 1 - i]? = some v := e
    rw [List.getElem?_toArray] at e
    exact e.symm
  · rw [List.getElem?_eq_none (by rw [Array.length_toList]; omega), List.getElem?_eq_none (by rw [List.length_reverse]; omega)]
section
variable {prog : Program} {w : World} {A : Around} {E : Value → Shared → Prop} {s : Shared}
theorem join_rev {x : Str} {t : Tok} {ys : List Str} {it l : Addr} {items : Array Value} {Q : Value → Shared → Prop} (hh : A.handled = none) (hit : s.heap.IsRevIter it l ((items.size : Int) - 1)) (hl : s.heap.IsList l items) (hne : l ≠ it) (hn : items.size ≤ sizeLine)
    (hP : ∀ acc : Array Value, ItemsOf (fun i v => items[items.size - 1 - i]? = some v) acc items.size → StrsAre acc.toList ys) (hok : (ys.map (·.length)).sum + ys.length * x.length ≤ 16777216)
    (hq : ∀ h' t' k, (∀ b o, b ≠ it → s.heap.get? b = some o → h'.get? b = some o) → Q (.str (Txt.join x ys) t') { s with heap := h', toks := k }) :
    wpAny (model prog w) A (call (.builtin "str.join") [.str x t, .ref it]) Q E s := by
  refine wpAny_call (codeAny_call_builtin F.slot_str_join.plain F.entry_str_join (F.slot_str_join.check _ _ _ _ _ _ _ _ (typeIs_str _ _ _) (F.args_str_join_2 _ _) ?_))
  rw [join_tree_other]
  have hT := hit.typeIs
  refine wpAny_bind (wpAny_typeOf hT ?_)
  show wpAny _ A.in1 ((pyIter (.ref it)).tryCatch _ >>= fun it => collect it >>= fun items => joinTail x items) _ _ s
  refine wpAny_bind (wpAny_tryCatch (wpAny_pyIter_revIter hit ?_))
  refine wpAny_bind (RT.collect_rev (A := A.in1) hh hit hl hne hn fun h' tk acc hk hacc => ?_)
  obtain ⟨ll, hl', ht⟩ := strsAre_values (hP acc hacc)
  subst ht
  rw [hl']
  have hok' := joinOk_of hok
  unfold JoinOk at hok'
  rw [Bool.not_eq_true'] at hok'
  have g : Gives (joinTail x (strValues ll)) (joinMade x ll) := by
    have g0 := gives_joinTail x ll hok'
    cases ll with
    | nil => exact g0
    | cons p r => cases r with
      | nil => exact g0
      | cons q r' => exact g0
  exact g prog w A (wants Q E) { s with heap := h', toks := tk } (post_join ll ⟨joinFit_length hok', fun t' k => hq h' t' k hk⟩)
end
section
variable {X : Cx}
/-- sep.join(reversed(xs)), xs a list of texts -/
def tJoinRev (K : PySem.W.Frag) (to : TE) (ta : TA) : TE := fun σ H Q => to σ H fun x H1 => (∃ a, x = .str a) ∧ ta σ H1 fun vs H2 => ∃ (a : Str) (q : Addr) (ys : List Str),
  x = .str a ∧ vs = [.ref q] ∧ SqL K H2 q (ys.map V.str) ∧ (ys.map (·.length)).sum + ys.length * a.length ≤ 16777216 ∧ Q (.str (Txt.join a ys.reverse)) H2
theorem pe_joinRev {o e : Expr} {to : TE} {ta : TA} {apos pos p pos2 : Pos} (hc : X.calm = true) (ho : PE X o to) (hg : Gl X "reversed") (hm : X.mg "reversed" = none) (ha : L2.PA X [e] ta)
    (hs1 : starEach [.Call (.Name "reversed" p) [e] [] pos2] X.env = [(false, eval (.Call (.Name "reversed" p) [e] [] pos2) X.env)] := by rfl)
    (hs : starEach [e] X.env = [(false, eval e X.env)] := by rfl)
    (hbase : attributeBase o "join" X.env (eval o X.env) = eval o X.env := by rfl) (hline : (apos.endLine == pos.line) = true := by rfl) :
    PE X (.Call (.Attribute o "join" apos) [.Call (.Name "reversed" p) [e] [] pos2] [] pos) (tJoinRev X.K to ta) := by
  refine ⟨fun pins s σ H Q I h => ?_⟩
  refine PySem.Call_method1 hbase hs1 hline (thn (ho.run pins s σ H _ I h) fun v s1 ⟨x, H1, I1, r1, q1⟩ => ?_)
  obtain ⟨⟨a, rfl⟩, q1⟩ := q1
  obtain ⟨t, rfl⟩ := _root_.id r1
  refine ⟨"str", _, F.plainAttrs_str, F.slot_str_join, F.type_str_join, typeIs_str _ _ _, (fun _ e => nomatch e), Calls.callWith_builtin rfl (Calls.evalArgs_plain (Calls.spliced_cons ?_))⟩
  refine Call_ (ld_blt I1 hg hm PyProof.Rows.boot_reversed (PyProof.Rows.callWith_type1 (thn (ha.run pos2 pins s1 σ H1 _ I1 q1) fun us s3 ⟨vs, H2, I3, r3, q3⟩ => ?_) hs rfl))
  obtain ⟨a', q, ys, ea, rfl, hq, hz, q3⟩ := q3
  cases ea
  cases r3 with
  | cons r rr =>
    cases rr
    cases r
    obtain ⟨its, rv, pl, hsz⟩ := I3.list hq
    have hlen : its.length = (ys.map V.str).length := rv.length.symm
    refine call_reversed_list pl.isList (Calls.spliced_nil ?_)
    have ll : q < s3.heap.objs.size := by
      obtain ⟨o, ho, _⟩ := pl.isList
      exact Heap.lt_size ho
    refine join_rev (s := { s3 with heap := s3.heap.push (revObj q ((its.toArray.size : Int) - 1)) }) (ys := ys.reverse) (it := s3.heap.objs.size) (l := q) (items := its.toArray) (I3.ok.hd hc) ⟨_, Heap.get?_push_size _ rfl, rfl, rfl⟩ (pl.isList.push _) (Nat.ne_of_lt ll) (by simp only [List.size_toArray]; omega) (fun acc hacc => ?_) ?_ fun h' t' k hk => ?_
    · rw [items_rev hacc]
      exact strs_rev (strs_of_vals rv)
    · rw [List.map_reverse, List.sum_reverse, List.length_reverse]
      exact hz
    · exact ⟨.str _, H2, I3.kept (t' := k) (fun b o e => hk b o (Nat.ne_of_lt (Heap.lt_size e)) (Heap.get?_push_of_some _ e)), ⟨t', rfl⟩, q3⟩
end
end Lf
namespace Lf
open PySem PySem.Spec PyProof.Rows L2 TL
/-! ### write_integer -/
/-- the text of an integer -/
def strS (n : Int) : Str := Str.ofString (toString n)
theorem tl_strS (n : Int) : tl (strS n) = decL n := tl_int n
structure Bn (mg : Str → Option Value) : Prop where
  digs_ : ∃ t, mg "DIGITS" = some (.str "0123456789" t)
  most_ : ∃ t, mg "MOST_DIGITS" = some (.int 200 t)
  bdig_ : ∃ t, mg "BLOCK_DIGITS" = some (.int 60 t)
  blk_ : ∃ t, mg "BLOCK" = some (.int (10 ^ 60) t)
theorem zfill_num {b : Nat} (hb : b < 10 ^ 60) : tl (Txt.zfill (strS (b : Int)) 60) = digK 60 b := by
  have e0 : tl (strS (b : Int)) = numL b := tl_num b
  have hl := numL_len (n := b) (k := 60) (by decide) hb
  have hlen : (strS (b : Int)).length = (numL b).length := by rw [len_tl, e0]
  rw [digK_pad 60 b (by decide) hb]
  unfold Txt.zfill
  by_cases c : (60 : Int) ≤ ((strS (b : Int)).length : Int)
  · rw [if_pos c, e0, show 60 - (numL b).length = 0 by omega]
    rfl
  · rw [if_neg c]
    have z : zfilled (strS (b : Int)) ((60 : Int).toNat - (strS (b : Int)).length) = Builtin.Str.padded (strS (b : Int)) ((60 : Int).toNat - (strS (b : Int)).length) 0 48 := by
      have hd : ∀ c, (strS (b : Int)).cps[0]? = some c → 48 ≤ c := fun c h => by
        rw [← Array.getElem?_toList] at h
        have : c ∈ numL b := by
          rw [← e0]
          exact List.mem_of_getElem? h
        exact (numL_digits b c this).1
      unfold zfilled
      split
      · rename_i h
        have := hd _ h
        omega
      · rename_i h
        have := hd _ h
        omega
      · rfl
    rw [z]
    show (Builtin.Str.padded _ _ _ _).cps.toList = _
    rw [padded_list, show (strS (b : Int)).cps.toList = numL b from e0, hlen, List.replicate_zero, List.append_nil]
    rfl
section
variable {P : Program} {w : World} {K : PySem.W.Frag} {mg : Str → Option Value} {base : Heap}
def spWr : Sp := fun vs H Q _ => ∃ n : Int, vs = [.int n] ∧ (numL n.natAbs).length ≤ 6000 ∧ ∀ H', Same H H' → Q (.str (strS n)) H'
end
end Lf
namespace Lf
open PySem PySem.Spec PyProof.Rows L2 TL
/-! ### words_of, read_integer -/
theorem starts1 (z : Str) {c : Nat} {y : Str} (hy : tl y = [c]) : Txt.startswith z y = decide ((tl z).head? = some c) := by
  obtain rfl : y = ⟨#[c]⟩ := ext_tl hy
  have e : (z.cps.extract 0 1).toList = (tl z).take 1 := by
    rw [Array.toList_extract, List.extract_eq_take_drop, List.drop_zero, Nat.sub_zero]
  unfold Txt.startswith Builtin.Str.subAt
  show (decide (0 + 1 ≤ z.length) && (z.cps.extract 0 (0 + 1) == #[c])) = _
  rw [Nat.zero_add, Bool.eq_iff_iff, Bool.and_eq_true, decide_eq_true_iff, decide_eq_true_iff, beq_iff_eq, ← Array.toList_inj, e, len_tl]
  cases tl z with
  | nil => simp
  | cons a r => simp
def isSt : PyData → Bool
  | .str _ => true
  | _ => false
theorem kit_st (d : PyData) : kitB (tyN d) "str" = some (isSt d) := by
  cases d
  · show kitB "NoneType" "str" = some false; decide +kernel
  · show kitB "bool" "str" = some false; decide +kernel
  · show kitB "int" "str" = some false; decide +kernel
  · show kitB "str" "str" = some true; decide +kernel
  · show kitB "list" "str" = some false; decide +kernel
  · show kitB "tuple" "str" = some false; decide +kernel
  · show kitB "dict" "str" = some false; decide +kernel
def shT (n : Nat) : PyData → Prop
  | .str z => z.length ≤ n ∧ PyData.strOk z = true
  | _ => True
/-- words of at most n signs -/
def WsOk (n : Nat) (ws : List Str) : Prop := ∀ w ∈ ws, w.length ≤ n ∧ PyData.strOk w = true
theorem strOk_tl {z : Str} : PyData.strOk z = true ↔ ∀ c ∈ tl z, c < 0x110000 := by
  show z.cps.all (· < 0x110000) = true ↔ _
  rw [← Array.all_toList, List.all_eq_true]
  exact ⟨fun h c hc => of_decide_eq_true (h c hc), fun h c hc => decide_eq_true (h c hc)⟩
/-- the words that one space separates -/
def splS (z : Str) : List Str := Txt.split z (Str.ofString " ")
def wordsO : PyData → List Str
  | .str z => splS z
  | _ => []
theorem tl_splS (z : Str) : (splS z).map tl = spl [32] 0 [] (tl z) := by
  have e : tl (Str.ofString " ") = [32] := by decide +kernel
  have := split_spl z (Str.ofString " ") (by rw [e]; simp) (kind_ok (by decide +kernel))
  rw [e] at this
  exact this
theorem spl_len : ∀ (l acc : List Nat), ∀ p ∈ spl [32] 0 acc l, p.length ≤ acc.length + l.length
  | [], acc, p, h => by
    rw [spl_nil, List.mem_singleton] at h
    rw [h]
    exact Nat.le_add_right _ _
  | c :: r, acc, p, h => by
    by_cases hc : pre [32] (c :: r) = true
    · rw [spl_hit hc] at h
      rcases List.mem_cons.mp h with rfl | h
      · exact Nat.le_add_right _ _
      · have := spl_len r [] p h
        simp at this
        rw [List.length_cons]
        omega
    · rw [spl_miss (by simpa using hc)] at h
      have := spl_len r (acc ++ [c]) p h
      rw [List.length_append] at this
      rw [List.length_cons]
      simp at this
      omega
theorem spl_mem : ∀ (l acc : List Nat), ∀ p ∈ spl [32] 0 acc l, ∀ c ∈ p, c ∈ acc ∨ c ∈ l
  | [], acc, p, h, c, hc => by
    rw [spl_nil, List.mem_singleton] at h
    rw [h] at hc
    exact .inl hc
  | x :: r, acc, p, h, c, hc => by
    by_cases hx : pre [32] (x :: r) = true
    · rw [spl_hit hx] at h
      rcases List.mem_cons.mp h with rfl | h
      · exact .inl hc
      · rcases spl_mem r [] p h c hc with h | h
        · cases h
        · exact .inr (List.mem_cons_of_mem _ h)
    · rw [spl_miss (by simpa using hx)] at h
      rcases spl_mem r (acc ++ [x]) p h c hc with h | h
      · rcases List.mem_append.mp h with h | h
        · exact .inl h
        · rw [List.mem_singleton.mp h]
          exact .inr List.mem_cons_self
      · exact .inr (List.mem_cons_of_mem _ h)
theorem splS_len {z w : Str} (h : w ∈ splS z) : w.length ≤ z.length := by
  have m : tl w ∈ (splS z).map tl := List.mem_map.mpr ⟨w, h, rfl⟩
  rw [tl_splS] at m
  have := spl_len (tl z) [] (tl w) m
  rw [len_tl, len_tl z]
  simpa using this
theorem spl_num : ∀ (l acc : List Nat), (spl [32] 0 acc l).length ≤ l.length + 1
  | [], acc => by
    rw [spl_nil]
    exact Nat.le_refl _
  | c :: r, acc => by
    by_cases hc : pre [32] (c :: r) = true
    · rw [spl_hit hc]
      have := spl_num r []
      show (spl [32] 0 [] r).length + 1 ≤ r.length + 1 + 1
      omega
    · rw [spl_miss (by simpa using hc)]
      have := spl_num r (acc ++ [c])
      rw [List.length_cons]
      omega
theorem splS_num (z : Str) : (splS z).length ≤ z.length + 1 := by
  have := spl_num (tl z) []
  rw [← tl_splS, List.length_map] at this
  rw [len_tl z]
  exact this
theorem wordsO_num {n : Nat} {d : PyData} (h : shT n d) : (wordsO d).length ≤ n + 1 := by
  cases d <;> first | exact Nat.zero_le _ | (exact Nat.le_trans (splS_num _) (Nat.succ_le_succ h.1))
theorem splS_ok {n : Nat} {z : Str} (h1 : z.length ≤ n) (h2 : PyData.strOk z = true) : WsOk n (splS z) := fun w hw => by
  refine ⟨Nat.le_trans (splS_len hw) h1, strOk_tl.mpr fun c hc => ?_⟩
  have m : tl w ∈ (splS z).map tl := List.mem_map.mpr ⟨w, hw, rfl⟩
  rw [tl_splS] at m
  rcases spl_mem (tl z) [] (tl w) m c hc with h | h
  · cases h
  · exact strOk_tl.mp h2 c h
theorem wordsO_ok {n : Nat} {d : PyData} (h : shT n d) : WsOk n (wordsO d) := by
  cases d <;> first | exact splS_ok h.1 h.2 | (intro w hw; cases hw; done)
/-- an int, or None -/
def oVs : Option Int → V
  | none => .non
  | some i => .int i
section
variable {P : Program} {w : World} {K : PySem.W.Frag} {mg : Str → Option Value} {base : Heap}
def spWds : Sp := fun vs H Q _ => ∃ (v : V) (d : PyData), vs = [v] ∧ Dv H v d ∧ shT 40000 d ∧ ∀ L H', H L = none → H' = upd H L (.lst ((wordsO d).map V.str)) → Q (.ref L) H'
abbrev s_words_of : Stmt := topS 27
abbrev N_words_of : List Str := ["text"]
abbrev P_words_of : List Str := ["text"]
theorem sc_words_of : FnScope N_words_of P_words_of (defScope s_words_of) := ⟨rfl, rfl, rfl, by decide +kernel, rfl, by decide +kernel, by decide +kernel⟩
theorem ok_words_of (D : Df K mg "words_of" s_words_of P_words_of) (B : Bi mg) : C8.Cal P w K mg base 1 "words_of" spWds [] := by
  refine cal_of D sc_words_of (fun vs H Q E h => ?_) (fun f cdv A outer s H vs Q E hr h => ?_)
  · obtain ⟨v, d, rfl, _⟩ := h
    rfl
  · obtain ⟨v, d, rfl, dv, sh, kk⟩ := h
    refine ⟨_, (pss_one (ps_ret (pe_ifExp (pt_val (pe_callB (call_isi) (by rfl) B.isinstance_ bt_isinstance (pa_cons (pv 0) (pa_cons (pe_bltn (v := .ty "str") (by rfl) B.str_ bt_str rfl) pa_nil)))) (pe_bm PySem.F.plainAttrs_str PySem.F.slot_str_split PySem.F.type_str_split mt_split (pv 0) (pa_cons pe_str pa_nil)) (pe_lst pa_nil)))), ?_⟩
    refine ⟨_, rfl, _, _, _, _, isSt d, rfl, .ty "str", dv.ty, kit_ty (kit_st d), isSt d, rfl, ?_⟩
    cases hs : isSt d with
    | false =>
      have e : wordsO d = [] := by cases d <;> first | rfl | cases hs
      rw [e] at kk
      exact iteFs rfl ⟨len10 (by simp), fun L nL => kk L _ nL rfl⟩
    | true =>
      obtain ⟨z, rfl, rfl⟩ : ∃ z, v = .str z ∧ d = .str z := by
        cases dv <;> first | exact ⟨_, rfl, rfl⟩ | (cases hs; done)
      have sh : z.length ≤ 40000 := sh.1
      exact iteTs rfl ⟨_, rfl, rfl, z, _, rfl, rfl, by decide +kernel, by rw [sizeLine_eq]; omega, fun L nL => kk L _ nL rfl⟩
theorem dig_in (c : Nat) : decide (c ∈ (Str.ofString "0123456789").cps.toList) = isDg c := by
  have e : (Str.ofString "0123456789").cps.toList = [48, 49, 50, 51, 52, 53, 54, 55, 56, 57] := by decide +kernel
  rw [e, Bool.eq_iff_iff, decide_eq_true_iff, isDg_iff]
  simp only [List.mem_cons, List.not_mem_nil, or_false]
  omega
structure Bm (mg : Str → Option Value) : Prop where
  digs_ : ∃ t, mg "DIGITS" = some (.str "0123456789" t)
  most_ : ∃ t, mg "MOST_DIGITS" = some (.int 200 t)
def spReadI : Sp := fun vs H Q _ => ∃ z : Str, vs = [.str z] ∧ z.length ≤ 40000 ∧ ∀ H', Same H H' → Q (oVs (readI (tl z))) H'
abbrev s_read_integer : Stmt := topS 28
abbrev N_read_integer : List Str := ["word", "digits", "digit"]
abbrev P_read_integer : List Str := ["word"]
theorem sc_read_integer : FnScope N_read_integer P_read_integer (defScope s_read_integer) := ⟨rfl, rfl, rfl, by decide +kernel, rfl, by decide +kernel, by decide +kernel⟩
theorem ok_read_integer (D : Df K mg "read_integer" s_read_integer P_read_integer) (UD : Bm mg) (B : Bi mg) : C8.Cal P w K mg base 1 "read_integer" spReadI [] := by
  obtain ⟨tD, hc_DIGITS⟩ := UD.digs_
  obtain ⟨tM, hc_MOST_DIGITS⟩ := UD.most_
  refine cal_of D sc_read_integer (fun vs H Q E h => ?_) (fun f cdv A outer s H vs Q E hr h => ?_)
  · obtain ⟨z, rfl, _⟩ := h
    rfl
  · obtain ⟨z, rfl, hz, kk⟩ := h
    refine ⟨_, (C8.pss_cut (ps_set (i := 1) sc_read_integer.nd rfl (Or.inl rfl) (pe_ifExp (pt_val (pe_bm PySem.F.plainAttrs_str PySem.F.slot_str_startswith PySem.F.type_str_startswith mt_startswith (pv 0) (pa_cons pe_str pa_nil))) (pe_slice sl_str (pv 0) (po_some pe_int) po_none) (pv 0)))
    (pss_cons (ps_if (PW.pt (pw_or (pt_not (pt_chain op_le op_le pe_int (pe_callB (call_len_str) (by rfl) B.len_ bt_len (pa_cons (pv 1) pa_nil)) (pe_glob (v := .int 200) (by rfl) hc_MOST_DIGITS ⟨_, rfl⟩))) (pw_or1 (pt_not (pt_val (pe_callB (cr_all rfl) (by rfl) B.all_ bt_all (pa_cons (pe_lc (own := [("digit", 2)]) (g := (gName 2)) (by rfl) sc_read_integer.nd (pi_str (pv 1)) (blkOk_by (own := [("digit", 2)]) (N := N_read_integer) (sc := defScope s_read_integer) (by decide +kernel)) (fun _ _ _ _ _ => (pg_name (i := 2) sc_read_integer.nd rfl (Or.inl rfl))) (fun _ _ _ _ _ => pts_nil) (fun _ _ _ _ _ => (pe_cmpR op_in_sign (pv 2) (pe_glob (v := .str "0123456789") (by rfl) hc_DIGITS ⟨_, rfl⟩) rfl))) pa_nil)))))))
      (pss_one (ps_ret pe_non))
      pss_nil)
    (pss_cons (ps_if (PW.pt (pw_and (pt_val (pe_bm PySem.F.plainAttrs_str PySem.F.slot_str_startswith PySem.F.type_str_startswith mt_startswith (pv 1) (pa_cons pe_str pa_nil))) (pw_and1 (pt_cmpR op_ne (pv 0) pe_str (nomark _)))))
      (pss_one (ps_ret pe_non))
      pss_nil)
    (pss_one (ps_ret (pe_callTy (call_int_str) (by rfl) B.int_ bt_int (pa_cons (pv 0) pa_nil))))))), ?_⟩
    have st45 : Txt.startswith z (Str.ofString "-") = decide ((tl z).head? = some 45) := starts1 z (by decide +kernel)
    have hzl : z.length = (tl z).length := len_tl z
    refine ⟨fun σ' H' => ∃ y : Str, σ' = [some (.str z), some (.str y), none] ∧ tl y = digsOf (tl z) ∧ H' = H, ?_, ?_⟩
    · refine ⟨_, rfl, rfl, z, _, rfl, rfl, _, rfl, ?_⟩
      rw [st45]
      by_cases c : (tl z).head? = some 45
      · refine iteD c ⟨_, rfl, 1, rfl, z, rfl, by rw [sizeLine_eq]; omega, _, rfl, ?_, rfl⟩
        show ((((tl z).drop (HT.sIx z.length 0 (some 1))).take (HT.sIx z.length z.length none - HT.sIx z.length 0 (some 1))).toArray).toList = _
        have p1 : 1 ≤ z.length := by
          cases q : tl z with
          | nil =>
            rw [q] at c
            cases c
          | cons a r =>
            rw [hzl, q]
            exact Nat.succ_le_succ (Nat.zero_le _)
        rw [HT.sIx_none, show HT.sIx z.length 0 (some 1) = min 1 z.length from HT.sIx_nat _ _ 1, Nat.min_eq_left p1, List.toList_toArray, List.take_of_length_le (by rw [List.length_drop]; omega)]
        unfold digsOf
        rw [if_pos c, List.drop_one]
      · refine iteDn c ⟨_, rfl, z, rfl, ?_, rfl⟩
        unfold digsOf
        rw [if_neg c]
    rintro σ' H1 ⟨y, rfl, hy, rfl⟩
    have hyl : y.length = (digsOf (tl z)).length := by rw [len_tl, hy]
    have ly : y.length ≤ z.length := by
      rw [hyl, hzl]
      unfold digsOf
      split
      · rw [List.length_tail]
        omega
      · exact Nat.le_refl _
    have no : ¬ ReadOk (tl z) → ∀ H', Same H1 H' → Q .non H' := fun h H' s' => by
      have := kk H' s'
      unfold readI at this
      rw [if_neg h] at this
      exact this
    have s0 : Txt.startswith y (Str.ofString "0") = decide ((digsOf (tl z)).head? = some 48) := by
      rw [← hy]
      exact starts1 y (by decide +kernel)
    have hzd : y.cps.size = y.length := rfl
    have hyd : y.cps.toList.length = y.length := by
      rw [Array.length_toList]
      rfl
    have nk : readI (tl z) = none → ∀ H', Same H1 H' → Q .non H' := fun h H' s' => by
      have := kk H' s'
      rw [h] at this
      exact this
    refine ⟨_, rfl, y, rfl, by rw [sizeLine_eq]; omega, _, _, rfl, rfl, _, rfl, ?_⟩
    by_cases h1 : 1 ≤ (digsOf (tl z)).length
    · refine iteD (show (1 : Int) ≤ ((y.length : Nat) : Int) by omega) ⟨_, _, rfl, rfl, _, rfl, ?_⟩
      by_cases h2 : (digsOf (tl z)).length ≤ 200
      · refine iteFs (by rw [decide_eq_true (show ((y.length : Nat) : Int) ≤ 200 by omega)]; rfl) ?_
        refine ⟨_, rfl, y, rfl, fun Y nY => ?_⟩
        refine lc_it (walk_str (z := y)) (fun i H' => Same H1 H' ∧ H' Y = some (.lst (((y.cps.toList.take i).map isDg).map V.bl))) ⟨sm_upd nY, upd_same⟩ (fun _ _ _ _ => trivial) ?_ ?_
        · rintro i x H' _ hi ⟨s', eY⟩ ⟨rfl, c, hc, rfl⟩
          rw [← Array.getElem?_toList] at hc
          refine ⟨rfl, _, rfl, c, _, rfl, rfl, _, eY, ?_, ?_, ?_⟩
          · rw [List.length_map, List.length_map, List.length_take]
            exact small1000 (by omega)
          · intro b o eb
            rw [upd_ne (ne_of_none eb nY)]
            exact s' _ _ eb
          · rw [upd_same, List.take_add_one, hc, List.map_append, List.map_append, dig_in]
            rfl
        rintro H' ⟨s', eY⟩
        rw [List.take_of_length_le (by rw [hyd, ← hzd]; exact Nat.le_refl _)] at eY
        have ea : (y.cps.toList.map isDg).all id = (digsOf (tl z)).all isDg := by
          rw [List.all_map, ← hy]
          rfl
        refine ⟨Y, _, rfl, SqL.of eY, _, rfl, ?_⟩
        rw [ea]
        cases h3 : (digsOf (tl z)).all isDg with
        | false => exact iteTs rfl (no (fun r => by rw [r.2.2.1] at h3; cases h3) H' s')
        | true =>
          refine iteFs rfl ?_
          refine ⟨_, rfl, rfl, y, _, rfl, rfl, _, rfl, ?_⟩
          rw [s0]
          have ez : (z = Str.ofString "0") ↔ tl z = [48] := ⟨fun h => by rw [h]; decide +kernel, fun h => ext_tl (by rw [h]; decide +kernel)⟩
          have go : ReadOk (tl z) → ∃ a n, [V.str z] = [V.str a] ∧ intText? a = some n ∧ a.length ≤ 640 ∧ Q (V.int n) H' := fun ok => by
            have lz : z.length ≤ 201 := by
              have : (tl z).length ≤ (digsOf (tl z)).length + 1 := by
                unfold digsOf
                split
                · rw [List.length_tail]
                  omega
                · omega
              omega
            refine ⟨z, _, rfl, intText_read ok, by omega, ?_⟩
            have := kk H' s'
            unfold readI at this
            rw [if_pos ok] at this
            exact this
          by_cases h4 : (digsOf (tl z)).head? = some 48
          · refine iteD h4 ⟨_, rfl, rfl, _, rfl, ?_⟩
            by_cases h5 : tl z = [48]
            · refine iteFs (by rw [decide_eq_true (show V.str z = V.str (Str.ofString "0") by rw [ez.mpr h5])]; rfl) ⟨_, rfl, go ⟨h1, h2, h3, fun q => q.2 h5⟩⟩
            · refine iteTs (by rw [decide_eq_false (fun q => h5 (ez.mp (V.str.inj q)))]; rfl) (no (fun r => r.2.2.2 ⟨h4, h5⟩) H' s')
          · exact iteDn h4 ⟨_, rfl, go ⟨h1, h2, h3, fun q => h4 q.1⟩⟩
      · exact iteTs (by rw [decide_eq_false (show ¬ ((y.length : Nat) : Int) ≤ 200 by omega)]; rfl) (no (fun r => h2 r.2.1) H1 (Same.refl _))
    · exact iteDn (show ¬ (1 : Int) ≤ ((y.length : Nat) : Int) by omega) ⟨_, rfl, iteTs rfl (no (fun r => h1 r.1) H1 (Same.refl _))⟩
end
end Lf
namespace Lf
open PySem PySem.Spec PyProof.Rows L2
/-! ### lists of words are the same, or not -/
def rEqW (K : PySem.W.Frag) (g : Bool → Bool) : R2 := fun x y H Q => ∃ (a b : Addr) (xs ys : List Str), x = .ref a ∧ y = .ref b ∧ SqL K H a (strL xs) ∧ SqL K H b (strL ys) ∧ Q (.bl (g (decide (xs = ys)))) H
theorem words_all (xs ys : List Str) (hl : xs.length = ys.length) : ((List.range xs.length).all fun j => decide (xs[j]? = ys[j]?)) = decide (xs = ys) := by
  by_cases c : xs = ys
  · subst c
    rw [decide_eq_true (p := xs = xs) rfl, List.all_eq_true]
    exact fun j _ => decide_eq_true rfl
  · rw [decide_eq_false c, List.all_eq_false]
    refine Classical.byContradiction fun n => c (List.ext_getElem? fun j => ?_)
    by_cases lt : j < xs.length
    · refine Classical.byContradiction fun ne => n ⟨j, List.mem_range.mpr lt, ?_⟩
      rw [decide_eq_false ne]
      exact Bool.false_ne_true
    · rw [List.getElem?_eq_none (by omega), List.getElem?_eq_none (by omega)]
theorem words_at {A : Around} {s : Shared} {xs ys : List Str} {us ws : List Value} (h1 : Vals (strL xs) us) (h2 : Vals (strL ys) ws) (j : Nat) (l1 : j < us.length) (l2 : j < ws.length) : SeqAt.EqAt A s us[j] ws[j] (decide (xs[j]? = ys[j]?)) := by
  have s1 : StrsAre us xs := h1.strs
  have s2 : StrsAre ws ys := h2.strs
  obtain ⟨x, t, e1⟩ := s1.all us[j] (List.getElem_mem l1)
  obtain ⟨y, u, e2⟩ := s2.all ws[j] (List.getElem_mem l2)
  have g1 : xs[j]? = some x := by rw [← s1.strs, List.getElem?_map, List.getElem?_eq_getElem l1, e1]; rfl
  have g2 : ys[j]? = some y := by rw [← s2.strs, List.getElem?_map, List.getElem?_eq_getElem l2, e2]; rfl
  rw [g1, g2, e1, e2]
  have e : decide ((some x : Option Str) = some y) = (x == y) := by
    by_cases c : x = y
    · subst c
      simp
    · rw [decide_eq_false fun z => c (Option.some.inj z)]
      exact (beq_eq_false_iff_ne.mpr c).symm
  rw [e]
  exact SeqAt.EqAt.str_str x t y u
section
variable {X : Cx}
theorem op_eqW (hu : X.A.units + 64 < cLine) : OpR X (compareOp .Eq) (rEqW X.K id) := by
  intro pins s σ H x y v u Q I rx ry h
  obtain ⟨a, b, xs, ys, rfl, rfl, ha, hb, q⟩ := h
  cases rx
  cases ry
  obtain ⟨us, r1, p1, _⟩ := I.list ha
  obtain ⟨ws, r2, p2, _⟩ := I.list hb
  have l1 := r1.length
  have l2 := r2.length
  have l3 : (strL xs).length = xs.length := List.length_map _
  have l4 : (strL ys).length = ys.length := List.length_map _
  by_cases c : xs.length = ys.length
  · have hsz : us.toArray.size = ws.toArray.size := by rw [List.size_toArray, List.size_toArray]; omega
    have R := SeqAt.RcAt.lists (e := fun j => decide (xs[j]? = ys[j]?)) p1.isList p2.isList hsz (show X.A.units < cLine by omega) (fun j h1 h2 => by
      have := words_at (A := X.A.in1) (s := s) r1 r2 j (by simpa using h1) (by simpa using h2)
      simpa using this)
    rw [show us.toArray.size = xs.length by rw [List.size_toArray]; omega, words_all xs ys c] at R
    exact R _ _ _ _ ⟨.bl _, H, I, rfl, q⟩
  · have e : decide (xs = ys) = false := decide_eq_false fun z => c (by rw [z])
    rw [e] at q
    exact SeqAt.RcAt.lists_lengths p1.isList p2.isList (by rw [bne_iff_ne, List.size_toArray, List.size_toArray]; omega) (by omega) _ _ _ _ ⟨.bl false, H, I, rfl, q⟩
theorem op_neW (hu : X.A.units + 64 < cLine) : OpR X (compareOp .NotEq) (rEqW X.K not) := by
  intro pins s σ H x y v u Q I rx ry h
  obtain ⟨a, b, xs, ys, rfl, rfl, ha, hb, q⟩ := h
  cases rx
  cases ry
  obtain ⟨us, r1, p1, _⟩ := I.list ha
  obtain ⟨ws, r2, p2, _⟩ := I.list hb
  have l1 := r1.length
  have l2 := r2.length
  have l3 : (strL xs).length = xs.length := List.length_map _
  have l4 : (strL ys).length = ys.length := List.length_map _
  by_cases c : xs.length = ys.length
  · have hsz : us.toArray.size = ws.toArray.size := by rw [List.size_toArray, List.size_toArray]; omega
    have R := SeqAt.RcNeAt.lists (e := fun j => decide (xs[j]? = ys[j]?)) p1.isList p2.isList hsz (show X.A.units < cLine by omega) (fun j h1 h2 => by
      have := words_at (A := X.A.in1) (s := s) r1 r2 j (by simpa using h1) (by simpa using h2)
      simpa using this)
    rw [show us.toArray.size = xs.length by rw [List.size_toArray]; omega, words_all xs ys c] at R
    exact R _ _ _ _ ⟨.bl _, H, I, rfl, q⟩
  · have e : decide (xs = ys) = false := decide_eq_false fun z => c (by rw [z])
    rw [e] at q
    exact SeqAt.RcNeAt.lists_lengths p1.isList p2.isList (by rw [bne_iff_ne, List.size_toArray, List.size_toArray]; omega) (by omega) _ _ _ _ ⟨.bl true, H, I, rfl, q⟩
end
end Lf
namespace Lf
open PySem PySem.Spec PyProof.Rows L2 TL
/-! ### rules and records, read and written -/
def oPs : Option Int → PyData
  | none => .none
  | some i => .int i
theorem oVs_dv {H : Hp} (o : Option Int) : Dv H (oVs o) (oPs o) := by
  cases o
  · exact .non
  · exact .int _
def numsV (ws : List Str) : List V := ws.map fun w => oVs (readI (tl w))
def numsP (ws : List Str) : List PyData := ws.map fun w => oPs (readI (tl w))
theorem nums_dv {H : Hp} : ∀ ws : List Str, DvAll H (numsV ws) (numsP ws)
  | [] => .nil
  | w :: ws => .cons (oVs_dv _) (nums_dv ws)
def ruleB (ws : List Str) : Bool := decide (ws.take 1 = [Str.ofString "rule"]) && ruleD (.tuple (numsP (ws.drop 1)))
theorem rule_get {ds : List PyData} (h : ruleD (.tuple ds) = true) : ∃ p q c : Int, ds = [.int p, .int q, .int c] ∧ 0 ≤ p ∧ 1 ≤ q ∧ Int.gcd p q = 1 := by
  unfold ruleD at h
  split at h
  · rename_i p q c e
    cases e
    rw [Bool.and_eq_true, Bool.and_eq_true, decide_eq_true_iff, decide_eq_true_iff, decide_eq_true_iff] at h
    have := V.int.inj h.2.2
    exact ⟨p, q, c, rfl, h.1, h.2.1, by omega⟩
  · cases h
/-- the written form of a rule -/
def ruleL (p q c : Int) : List Nat := tl (Str.ofString "rule ") ++ decL p ++ [32] ++ decL q ++ [32] ++ decL c
theorem cutV_take (xs : List V) (k : Nat) : cutV xs none (some (k : Int)) = xs.take k := by
  unfold cutV
  rw [HT.sIx_none, show HT.sIx xs.length xs.length (some (k : Int)) = min k xs.length from HT.sIx_nat _ _ k, List.drop_zero, Nat.sub_zero]
  by_cases h : k ≤ xs.length
  · rw [Nat.min_eq_left h]
  · rw [Nat.min_eq_right (by omega), List.take_of_length_le (Nat.le_refl _), List.take_of_length_le (by omega)]
theorem cutV_drop (xs : List V) (k : Nat) : cutV xs (some (k : Int)) none = xs.drop k := by
  unfold cutV
  rw [HT.sIx_none, show HT.sIx xs.length 0 (some (k : Int)) = min k xs.length from HT.sIx_nat _ _ k, List.take_of_length_le (by rw [List.length_drop]; omega)]
  by_cases h : k ≤ xs.length
  · rw [Nat.min_eq_left h]
  · rw [Nat.min_eq_right (by omega), List.drop_of_length_le (Nat.le_refl _), List.drop_of_length_le (by omega)]
theorem cutV_d1 (xs : List V) : cutV xs (some (1 : Int)) none = xs.drop 1 := cutV_drop xs 1
theorem cutV_t1 (xs : List V) : cutV xs none (some (1 : Int)) = xs.take 1 := cutV_take xs 1
section
variable {P : Program} {w : World} {K : PySem.W.Frag} {mg : Str → Option Value} {base : Heap} {C : Addr}
def spRRule : Sp := fun vs H Q _ => ∃ (W : Addr) (ws : List Str), vs = [.ref W] ∧ H W = some (.lst (ws.map V.str)) ∧ ws.length ≤ 40001 ∧ WsOk 40000 ws ∧ (ruleB ws = false → ∀ H', Same H H' → Q .non H') ∧
  (ruleB ws = true → ∀ T H', Same H H' → H' T = some (.tup (numsV (ws.drop 1))) → Q (.ref T) H')
/-! ### parse_rule -/
def spPRule (C : Addr) : Sp := fun vs H Q E => ∃ (v : V) (d : PyData), vs = [v] ∧ Dv H v d ∧ shT 40000 d ∧ (ruleB (wordsO d) = false → ∀ H', Same H H' → OutY C "line" v H' E) ∧
  (ruleB (wordsO d) = true → ∀ T H', Same H H' → H' T = some (.tup (numsV ((wordsO d).drop 1))) → Q (.ref T) H')
end
end Lf
namespace Lf
open PySem PySem.Spec PyProof.Rows L2 TL
/-! ### records -/
/-- the written form of a record -/
def recL (x : Rec) : List Nat := tl (wd x.lo) ++ [32] ++ decL x.n ++ tl (Str.ofString " at ") ++ decL x.t
def recV (ws : List Str) : List V := [.str (ws.getD 0 Str.empty ++ Str.ofString " " ++ ws.getD 1 Str.empty), oVs (readI (tl (ws.getD 4 Str.empty))), oVs (readI (tl (ws.getD 2 Str.empty)))]
def recP (ws : List Str) : List PyData := [.str (ws.getD 0 Str.empty ++ Str.ofString " " ++ ws.getD 1 Str.empty), oPs (readI (tl (ws.getD 4 Str.empty))), oPs (readI (tl (ws.getD 2 Str.empty)))]
def recW (ws : List Str) : Bool := decide (ws.length = 5) && (decide (ws.getD 3 Str.empty = Str.ofString "at") && recB (.tuple (recP ws)))
theorem decL_len {n : Int} {k : Nat} (h : (numL n.natAbs).length ≤ k) : (decL n).length ≤ k + 1 := by
  cases n with
  | ofNat n =>
    have h : (numL n).length ≤ k := h
    exact Nat.le_succ_of_le h
  | negSucc n =>
    have h : (numL (n + 1)).length ≤ k := h
    exact Nat.succ_le_succ h
theorem rec_ofQ {H : Hp} {v : V} {d : PyData} (dv : Dv H v d) (h : recB d = true) : ∃ (r : Addr) (x : Rec), v = .ref r ∧ H r = some (rcO x) := by
  cases dv with
  | tup e1 e2 =>
    rename_i a xs ds
    have l3 : ds.length = 3 := Decidable.byContradiction fun n => by
      rw [rec_three n] at h
      cases h
    match ds, l3 with
    | [d0, d1, d2], _ =>
      cases e2 with
      | cons a0 e3 =>
        cases e3 with
        | cons a1 e4 =>
          cases e4 with
          | cons a2 e5 =>
            cases e5
            rename_i v0 v1 v2
            have h : (words.any (fun z => PyData.eqv z d0) && (isI d1 && isI d2)) = true := h
            rw [Bool.and_eq_true, Bool.and_eq_true] at h
            obtain ⟨hw, i1, i2⟩ := h
            obtain ⟨t, rfl, rfl⟩ : ∃ t, v1 = .int t ∧ d1 = .int t := by
              cases a1 <;> first | exact ⟨_, rfl, rfl⟩ | cases i1
            obtain ⟨n, rfl, rfl⟩ : ∃ n, v2 = .int n ∧ d2 = .int n := by
              cases a2 <;> first | exact ⟨_, rfl, rfl⟩ | cases i2
            obtain ⟨b, rfl⟩ : ∃ b, v0 = .str (wd b) := by
              cases a0 with
              | str x =>
                have hw : x = "at least" ∨ x = "at most" := by
                  simp [words, PyData.eqv] at hw
                  rcases hw with h | h
                  · exact .inl h.symm
                  · exact .inr h.symm
                rcases hw with rfl | rfl
                · exact ⟨true, rfl⟩
                · exact ⟨false, rfl⟩
              | non => simp [words, PyData.eqv] at hw
              | bl => simp [words, PyData.eqv] at hw
              | int => simp [words, PyData.eqv] at hw
              | lst => simp [words, PyData.eqv] at hw
              | tup => simp [words, PyData.eqv] at hw
              | dk0 => simp [words, PyData.eqv] at hw
              | dk1 => simp [words, PyData.eqv] at hw
            exact ⟨a, ⟨b, t, n⟩, rfl, e1⟩
  | non => cases h
  | bl => cases h
  | int => cases h
  | str => cases h
  | lst => cases h
  | dk0 => cases h
  | dk1 => cases h
theorem len_strS {n : Int} {k : Nat} (h : (numL n.natAbs).length ≤ k) : (strS n).length ≤ k + 1 := by
  rw [len_tl, tl_strS]
  exact decL_len h
section
variable {P : Program} {w : World} {K : PySem.W.Frag} {mg : Str → Option Value} {base : Heap} {C : Addr}
def spFRule (C : Addr) : Sp := fun vs H Q E => ∃ (v : V) (d : PyData), vs = [v] ∧ Dv H v d ∧ (ruleD d = false → ∀ H', Same H H' → OutX3 C "value" v H' E) ∧
  (∀ r p q c, v = .ref r → H r = some (.tup [.int p, .int q, .int c]) → ruleD d = true → (numL p.natAbs).length ≤ 6000 ∧ (numL q.natAbs).length ≤ 6000 ∧ (numL c.natAbs).length ≤ 6000 ∧ ∀ z H', Same H H' → tl z = ruleL p q c → Q (.str z) H')
def spFRec (C : Addr) : Sp := fun vs H Q E => ∃ (v : V) (d : PyData), vs = [v] ∧ Dv H v d ∧ rgB d = true ∧ (recB d = false → ∀ H', Same H H' → OutY C "index" (.int 0) H' E) ∧
  (∀ r x, v = .ref r → H r = some (rcO x) → recB d = true → (numL x.t.natAbs).length ≤ 6000 ∧ (numL x.n.natAbs).length ≤ 6000 ∧ ∀ z H', Same H H' → tl z = recL x → Q (.str z) H')
/-! ### read_record -/
def spRRec : Sp := fun vs H Q _ => ∃ (W : Addr) (ws : List Str), vs = [.ref W] ∧ H W = some (.lst (ws.map V.str)) ∧ ws.length ≤ 40001 ∧ WsOk 40000 ws ∧ (recW ws = false → ∀ H', Same H H' → Q .non H') ∧
  (recW ws = true → ∀ T H', Same H H' → H' T = some (.tup (recV ws)) → Q (.ref T) H')
abbrev s_read_record : Stmt := topS 30
abbrev N_read_record : List Str := ["words", "record"]
abbrev P_read_record : List Str := ["words"]
theorem sc_read_record : FnScope N_read_record P_read_record (defScope s_read_record) := ⟨rfl, rfl, rfl, by decide +kernel, rfl, by decide +kernel, by decide +kernel⟩
theorem ok_read_record (D : Df K mg "read_record" s_read_record P_read_record) (B : Bi mg) (c_read_integer : C8.Cal P w K mg base 1 "read_integer" spReadI []) (cA_is_record : C8.Cal P w K mg base 2 "is_record" spIsRecD []) : C8.Cal P w K mg base 3 "read_record" spRRec [] := by
  refine cal_of D sc_read_record (fun vs H Q E h => ?_) (fun f cdv A outer s H vs Q E hr h => ?_)
  · obtain ⟨W, ws, rfl, _⟩ := h
    rfl
  · obtain ⟨W, ws, rfl, eW, lw, ow, kn, ky⟩ := h
    have c_is_record := cA_is_record
    refine ⟨_, (pss_cons (ps_if (PW.pt (pw_or (pt_cmpR op_ne (pe_callB (call_len_seq) (by rfl) B.len_ bt_len (pa_cons (pv 0) pa_nil)) pe_int (nomark _)) (pw_or1 (pt_cmpR op_ne (pe_ix (r := rIxL K) ix_list (pv 0) pe_int (fun _ _ => rfl)) pe_str (nomark _)))))
      (pss_one (ps_ret pe_non))
      pss_nil)
    (pss_cons (ps_set (i := 1) sc_read_record.nd rfl (Or.inl rfl) (pe_tup (pa_cons (pe_joined (PJ.cons (pe_fmt (pe_ix (r := rIxL K) ix_list (pv 0) pe_int (fun _ _ => rfl))) (PJ.cons pe_str (PJ.cons (pe_fmt (pe_ix (r := rIxL K) ix_list (pv 0) pe_int (fun _ _ => rfl))) PJ.nil)))) (pa_cons (C8.pe_c c_read_integer hr (by decide) (by rfl) (pa_cons (pe_ix (r := rIxL K) ix_list (pv 0) pe_int (fun _ _ => rfl)) pa_nil)) (pa_cons (C8.pe_c c_read_integer hr (by decide) (by rfl) (pa_cons (pe_ix (r := rIxL K) ix_list (pv 0) pe_int (fun _ _ => rfl)) pa_nil)) pa_nil)))))
    (pss_one (ps_ret (pe_ifExp (pt_val (C8.pe_c c_is_record hr (by decide) (by rfl) (pa_cons (pv 1) pa_nil))) (pv 1) pe_non))))), ?_⟩
    have lmap : (ws.map V.str).length = ws.length := List.length_map _
    refine ⟨_, rfl, W, _, rfl, .inl (SqL.of eW), rfl, _, rfl, ?_⟩
    by_cases c5 : ws.length = 5
    · match ws, c5 with
      | [w0, w1, w2, w3, w4], _ =>
        have at_ : ∀ (i : Nat) (u : Str), [w0, w1, w2, w3, w4][i]? = some u → ([w0, w1, w2, w3, w4].map V.str)[i]? = some (.str u) := fun i u h => by
          rw [List.getElem?_map, h]
          rfl
        have o0 := ow w0 (by simp)
        have o1 := ow w1 (by simp)
        have o2 := ow w2 (by simp)
        have o4 := ow w4 (by simp)
        refine iteFs rfl ⟨_, rfl, W, _, _, _, rfl, rfl, SqL.of eW, atI_nat (j := 3) (at_ 3 _ rfl), rfl, _, rfl, ?_⟩
        by_cases c3 : w3 = Str.ofString "at"
        · refine iteFs (by rw [decide_eq_true (show V.str w3 = V.str (Str.ofString "at") by rw [c3])]; rfl) ?_
          have fitS : ∀ {n : Nat}, n ≤ 100000 → n ≤ sizeLine := fun h => by
            rw [sizeLine_eq]
            omega
          have ap : ∀ a b : Str, (a ++ b).length = a.length + b.length := fun a b => by
            rw [len_tl, tl_append, List.length_append, ← len_tl, ← len_tl]
          have c0 : Str.empty.length = 0 := rfl
          have c2 : (Str.ofString " ").length = 1 := by decide +kernel
          refine ⟨_, rfl, W, _, _, _, rfl, rfl, SqL.of eW, atI_nat (j := 0) (at_ 0 _ rfl), .inl ⟨_, rfl, fitS (by omega), _, rfl, fitS (by rw [ap]; omega), ?_⟩⟩
          refine ⟨_, rfl, fitS (by rw [ap, ap, c2]; omega), _, rfl, W, _, _, _, rfl, rfl, SqL.of eW, atI_nat (j := 1) (at_ 1 _ rfl), .inl ⟨_, rfl, fitS (by omega), _, rfl, fitS (by rw [ap, ap, ap, c2]; omega), ?_⟩⟩
          have e01 : Str.empty ++ w0 ++ Str.ofString " " ++ w1 = w0 ++ Str.ofString " " ++ w1 := ext_tl (by simp only [tl_append]; rfl)
          rw [e01]
          refine ⟨_, rfl, W, _, _, _, rfl, rfl, SqL.of eW, atI_nat (j := 4) (at_ 4 _ rfl), w4, rfl, o4.1, fun H1 s1 => ?_⟩
          refine ⟨_, rfl, W, _, _, _, rfl, rfl, SqL.of (s1 _ _ eW), atI_nat (j := 2) (at_ 2 _ rfl), w2, rfl, o2.1, fun H2 s2 => ⟨len10 (by simp), fun T nT => ?_⟩⟩
          have zT := sm_upd (o := .tup [.str (w0 ++ Str.ofString " " ++ w1), oVs (readI (tl w4)), oVs (readI (tl w2))]) nT
          have eT := upd_same (H := H2) (a := T) (o := .tup [.str (w0 ++ Str.ofString " " ++ w1), oVs (readI (tl w4)), oVs (readI (tl w2))])
          have s3 := s1.trans (s2.trans zT)
          have dv : Dv (upd H2 T (.tup [.str (w0 ++ Str.ofString " " ++ w1), oVs (readI (tl w4)), oVs (readI (tl w2))])) (.ref T) (.tuple (recP [w0, w1, w2, w3, w4])) := .tup eT (.cons (.str _) (.cons (oVs_dv _) (.cons (oVs_dv _) .nil)))
          have so : PyData.strOk (w0 ++ Str.ofString " " ++ w1) = true := strOk_tl.mpr fun c hc => by
            rw [tl_append, tl_append] at hc
            rcases List.mem_append.mp hc with hc | hc
            · rcases List.mem_append.mp hc with hc | hc
              · exact strOk_tl.mp o0.2 c hc
              · rw [show tl (Str.ofString " ") = [32] by decide +kernel, List.mem_singleton] at hc
                omega
            · exact strOk_tl.mp o1.2 c hc
          have rg : rgB (.tuple (recP [w0, w1, w2, w3, w4])) = true := by
            show (!PyData.hasDict (.str (w0 ++ Str.ofString " " ++ w1)) && SeqAt.shaped (.str (w0 ++ Str.ofString " " ++ w1))) = true
            have : SeqAt.shaped (.str (w0 ++ Str.ofString " " ++ w1)) = true := by
              show (PyData.canLay0 (.str _) && decide (PyData.depth (.str _) ≤ 64)) = true
              rw [Bool.and_eq_true]
              exact ⟨by simpa [PyData.canLay0] using so, rfl⟩
            rw [this]
            rfl
          refine ⟨_, rfl, _, _, rfl, dv, rg, fun H4 s4 => ⟨_, rfl, ?_⟩⟩
          have rb : recW [w0, w1, w2, w3, w4] = recB (.tuple (recP [w0, w1, w2, w3, w4])) := by
            show (decide (5 = 5) && (decide (w3 = Str.ofString "at") && recB (.tuple (recP [w0, w1, w2, w3, w4])))) = _
            rw [decide_eq_true c3]
            rfl
          cases hb : recB (.tuple (recP [w0, w1, w2, w3, w4])) with
          | true => exact iteTs rfl ⟨_, rfl, ky (rb.trans hb) T H4 (s3.trans s4) (s4 _ _ eT)⟩
          | false => exact iteFs rfl (kn (rb.trans hb) H4 (s3.trans s4))
        · refine iteTs (by rw [decide_eq_false (fun z => c3 (V.str.inj z))]; rfl) (kn ?_ _ (Same.refl _))
          show (decide (5 = 5) && (decide (w3 = Str.ofString "at") && recB (.tuple (recP [w0, w1, w2, w3, w4])))) = _
          rw [decide_eq_false c3]
          rfl
    · have n5 : (!decide (V.int ((ws.map V.str).length : Int) = V.int 5)) = true := by
        rw [decide_eq_false (fun z => c5 (by have := V.int.inj z; omega))]
        rfl
      refine iteTs n5 (iteTs rfl (kn ?_ _ (Same.refl _)))
      unfold recW
      rw [decide_eq_false c5, Bool.false_and]
/-! ### parse_record -/
def spPRec (C : Addr) : Sp := fun vs H Q E => ∃ (v : V) (d : PyData), vs = [v] ∧ Dv H v d ∧ shT 40000 d ∧ (recW (wordsO d) = false → ∀ H', Same H H' → OutY C "line" v H' E) ∧
  (recW (wordsO d) = true → ∀ T H', Same H H' → H' T = some (.tup (recV (wordsO d))) → Q (.ref T) H')
end
end Lf
namespace Lf
open PySem PySem.Spec PyProof.Rows L2
/-- a promise where nothing is raised -/
structure Wr (sp : Sp) (vs : List V) (H : Hp) (Q : VK) : Prop where
  ex : sp vs H Q C8.E0
/-- a def that may raise, where it does not -/
theorem calm_of {P : Program} {w : World} {K : PySem.W.Frag} {mg : Str → Option Value} {base : Heap} {k : Nat} {x : Str} {sp : Sp} (c : CalX P w K mg base k x sp) : C8.Cal P w K mg base k x (fun vs H Q _ => Wr sp vs H Q) [] := by
  obtain ⟨f, fd, ps, F, hm, kp, b⟩ := c
  refine ⟨⟨f, fd, ps, [], ⟨fun vs H Q E h => F.len vs H Q C8.E0 h.ex, fun A outer s H args us vs Q E hr e hb r h => ?_⟩, hm, kp, b, .nil⟩⟩
  refine codeAny_mono (F.run A outer s H args us vs Q C8.E0 hr e hb r h.ex) fun r s' z => ?_
  match r, z with
  | .ok (.ret u), z => exact z
  | .ok .next, z => exact False.elim z
  | .ok .brk, z => exact False.elim z
  | .ok .cont, z => exact False.elim z
  | .error e, z =>
    obtain ⟨_, _, _, _, _, _, _, _, _, _, _, _, hE⟩ := z
    exact False.elim hE
end Lf
namespace Lf
open PySem PySem.Spec PyProof.Rows L2 TL
/-! ### the words of a written form -/
theorem decL_free {n : Int} {s : Nat} (h : s < 48 ∨ 57 < s) (h2 : s ≠ 45) : s ∉ decL n := by
  cases n with
  | ofNat n => exact numL_free h
  | negSucc n =>
    intro hm
    rcases List.mem_cons.mp hm with e | hm
    · exact h2 e
    · exact numL_free h hm
theorem tl_sp : tl (Str.ofString " ") = [32] := by decide +kernel
theorem split_words {x : Str} {ws : List Str} (hne : ws ≠ []) (hp : ∀ p ∈ ws, 32 ∉ tl p) (hx : tl x = joinL [32] (ws.map tl)) : splS x = ws := by
  have e : x = Str.join (Str.ofString " ") ws := ext_tl (by rw [hx, tl_join, tl_sp])
  rw [e, ← join_eq]
  exact split_join tl_sp (by decide +kernel) hne hp
theorem numL_no32 (n : Int) : 32 ∉ tl (strS n) := by
  rw [tl_strS]
  exact decL_free (.inl (by decide)) (by decide)
theorem words_rule {x : Str} {p q c : Int} (hx : tl x = ruleL p q c) : splS x = [Str.ofString "rule", strS p, strS q, strS c] := by
  refine split_words (by simp) (fun w hw => ?_) ?_
  · simp only [List.mem_cons, List.not_mem_nil, or_false] at hw
    rcases hw with rfl | rfl | rfl | rfl
    · decide +kernel
    · exact numL_no32 _
    · exact numL_no32 _
    · exact numL_no32 _
  · rw [hx]
    unfold ruleL
    show _ = tl (Str.ofString "rule") ++ ([32] ++ (tl (strS p) ++ ([32] ++ (tl (strS q) ++ ([32] ++ tl (strS c))))))
    rw [tl_strS, tl_strS, tl_strS, show tl (Str.ofString "rule ") = tl (Str.ofString "rule") ++ [32] by decide +kernel]
    simp only [List.append_assoc]
theorem readI_strS {n : Int} (h : (numL n.natAbs).length ≤ 200) : readI (tl (strS n)) = some n := by
  rw [tl_strS]
  exact readI_decL n h
theorem rule_text {x : Str} {p q c : Int} (hx : tl x = ruleL p q c) (lp : (numL p.natAbs).length ≤ 200) (lq : (numL q.natAbs).length ≤ 200) (lc : (numL c.natAbs).length ≤ 200) :
    ruleB (splS x) = ruleD (.tuple [.int p, .int q, .int c]) ∧ numsV ((splS x).drop 1) = [.int p, .int q, .int c] := by
  rw [words_rule hx]
  constructor
  · show (decide ([Str.ofString "rule"] = [Str.ofString "rule"]) && ruleD (.tuple [oPs (readI (tl (strS p))), oPs (readI (tl (strS q))), oPs (readI (tl (strS c)))])) = _
    rw [readI_strS lp, readI_strS lq, readI_strS lc, decide_eq_true rfl]
    rfl
  · show [oVs (readI (tl (strS p))), oVs (readI (tl (strS q))), oVs (readI (tl (strS c)))] = _
    rw [readI_strS lp, readI_strS lq, readI_strS lc]
    rfl
/-- the second word of a record -/
def w2 (b : Bool) : Str := if b = true then "least" else "most"
theorem words_rec {x : Str} {r : Rec} (hx : tl x = recL r) : splS x = [Str.ofString "at", w2 r.lo, strS r.n, Str.ofString "at", strS r.t] := by
  refine split_words (by simp) (fun w hw => ?_) ?_
  · simp only [List.mem_cons, List.not_mem_nil, or_false] at hw
    rcases hw with rfl | rfl | rfl | rfl | rfl
    · decide +kernel
    · cases r.lo <;> decide +kernel
    · exact numL_no32 _
    · decide +kernel
    · exact numL_no32 _
  · rw [hx]
    unfold recL
    show _ = tl (Str.ofString "at") ++ ([32] ++ (tl (w2 r.lo) ++ ([32] ++ (tl (strS r.n) ++ ([32] ++ (tl (Str.ofString "at") ++ ([32] ++ tl (strS r.t))))))))
    rw [tl_strS, tl_strS, show tl (wd r.lo) = tl (Str.ofString "at") ++ ([32] ++ tl (w2 r.lo)) by cases r.lo <;> decide +kernel, show tl (Str.ofString " at ") = [32] ++ (tl (Str.ofString "at") ++ [32]) by decide +kernel]
    simp only [List.append_assoc]
theorem rec_text {x : Str} {r : Rec} (hx : tl x = recL r) (lt' : (numL r.t.natAbs).length ≤ 200) (ln : (numL r.n.natAbs).length ≤ 200) :
    recW (splS x) = true ∧ recV (splS x) = [.str (wd r.lo), .int r.t, .int r.n] := by
  have e : Str.ofString "at" ++ Str.ofString " " ++ w2 r.lo = wd r.lo := ext_tl (by cases r.lo <;> decide +kernel)
  rw [words_rec hx]
  constructor
  · show (decide (5 = 5) && (decide (Str.ofString "at" = Str.ofString "at") && recB (.tuple [.str (Str.ofString "at" ++ Str.ofString " " ++ w2 r.lo), oPs (readI (tl (strS r.t))), oPs (readI (tl (strS r.n)))]))) = true
    rw [readI_strS lt', readI_strS ln, e, decide_eq_true rfl, decide_eq_true rfl]
    show (words.any (fun z => PyData.eqv z (.str (wd r.lo))) && (isI (.int r.t) && isI (.int r.n))) = true
    have h : words.any (fun z => PyData.eqv z (.str (wd r.lo))) = true := by cases r.lo <;> decide +kernel
    rw [h]
    rfl
  · show [V.str (Str.ofString "at" ++ Str.ofString " " ++ w2 r.lo), oVs (readI (tl (strS r.t))), oVs (readI (tl (strS r.n)))] = _
    rw [readI_strS lt', readI_strS ln, e]
    rfl
theorem decL_ok (n : Int) : ∀ c ∈ decL n, c < 0x110000 := fun c hc => by
  cases n with
  | ofNat n =>
    have := numL_digits n c hc
    omega
  | negSucc n =>
    rcases List.mem_cons.mp hc with e | hm
    · omega
    · have := numL_digits (n + 1) c hm
      omega
theorem decL_neg {n : Nat} (h : 1 ≤ n) : decL (-(n : Int)) = 45 :: numL n := by
  cases n with
  | zero => omega
  | succ n => rfl
theorem num_lt {x : Int} {k : Nat} (hk : 0 < k) (h : x.natAbs < 10 ^ k) : (numL x.natAbs).length ≤ k := numL_len hk h
theorem num_bd {x : Int} {k : Nat} (h : Bd 100 x) (hk : 31 ≤ k) : (numL x.natAbs).length ≤ k := by
  have h : x.natAbs < 2 ^ 100 := h
  refine Nat.le_trans (numL_len (k := 31) (by decide) (Nat.lt_of_lt_of_le h (by decide +kernel))) hk
theorem ruleL_len {p q c : Int} {k : Nat} (lp : (numL p.natAbs).length ≤ k) (lq : (numL q.natAbs).length ≤ k) (lc : (numL c.natAbs).length ≤ k) : (ruleL p q c).length ≤ 3 * k + 20 := by
  have h1 := decL_len lp
  have h2 := decL_len lq
  have h3 := decL_len lc
  have h4 : (tl (Str.ofString "rule ")).length = 5 := by decide +kernel
  unfold ruleL
  simp only [List.length_append, h4, List.length_cons, List.length_nil]
  omega
theorem recL_len {r : Rec} {k : Nat} (lt' : (numL r.t.natAbs).length ≤ k) (ln : (numL r.n.natAbs).length ≤ k) : (recL r).length ≤ 3 * k + 20 := by
  have h1 := decL_len lt'
  have h2 := decL_len ln
  have h4 : (tl (Str.ofString " at ")).length = 4 := by decide +kernel
  have h5 : (tl (wd r.lo)).length ≤ 8 := by cases r.lo <;> decide +kernel
  unfold recL
  simp only [List.length_append, h4, List.length_cons, List.length_nil]
  omega
theorem ruleL_ok (p q c : Int) : ∀ x ∈ ruleL p q c, x < 0x110000 := fun x hx => by
  unfold ruleL at hx
  have h0 : ∀ x ∈ tl (Str.ofString "rule "), x < 0x110000 := by decide +kernel
  simp only [List.mem_append, List.mem_cons, List.not_mem_nil, or_false] at hx
  rcases hx with (((((h | h) | h) | h) | h) | h)
  · exact h0 x h
  · exact decL_ok _ x h
  · omega
  · exact decL_ok _ x h
  · omega
  · exact decL_ok _ x h
theorem recL_ok (r : Rec) : ∀ x ∈ recL r, x < 0x110000 := fun x hx => by
  unfold recL at hx
  have h0 : ∀ x ∈ tl (Str.ofString " at "), x < 0x110000 := by decide +kernel
  have h1 : ∀ x ∈ tl (wd r.lo), x < 0x110000 := by cases r.lo <;> decide +kernel
  simp only [List.mem_append, List.mem_cons, List.not_mem_nil, or_false] at hx
  rcases hx with ((((h | h) | h) | h) | h)
  · exact h1 x h
  · omega
  · exact decL_ok _ x h
  · exact h0 x h
  · exact decL_ok _ x h
end Lf
namespace Lf
open PySem PySem.Spec PyProof.Rows L2 TL
/-! ### entries and logs, written and read -/
def trW (b : Bool) : Str := if b = true then "trusted" else "distrusted"
def entL (e : En) : List Nat := decL e.m ++ [32] ++ tl e.w ++ (match e.x with
  | .tr b => tl (Str.ofString " is ") ++ tl (trW b)
  | .rd d => tl (Str.ofString " reports ") ++ recL d)
def recOf (ws : List Str) : Option Rec := if recW ws = true then match readI (tl (ws.getD 4 Str.empty)), readI (tl (ws.getD 2 Str.empty)) with
  | some t, some n => some ⟨decide (ws.getD 0 Str.empty ++ Str.ofString " " ++ ws.getD 1 Str.empty = wd true), t, n⟩
  | _, _ => none
  else none
def whatE (ws : List Str) : Option Wt :=
  if ws.getD 2 Str.empty = Str.ofString "reports" then (recOf (ws.drop 3)).map Wt.rd
  else if ws.drop 2 = [Str.ofString "is", Str.ofString "trusted"] then some (.tr true)
  else if ws.drop 2 = [Str.ofString "is", Str.ofString "distrusted"] then some (.tr false) else none
def momZ (z : Str) : Option Int := match readI (tl z) with
  | some m => if 0 ≤ m then some m else none
  | none => none
def readE (ws : List Str) : Option En :=
  match momZ (ws.getD 0 Str.empty) with
  | some m => if 4 ≤ ws.length ∧ witB (.str (ws.getD 1 Str.empty)) = true then (whatE ws).map fun x => ⟨m, ws.getD 1 Str.empty, x⟩ else none
  | none => none
theorem wd_ne : wd true ≠ wd false := by decide +kernel
theorem recOf_V {ws : List Str} (h : recW ws = true) : ∃ x : Rec, recOf ws = some x ∧ recV ws = [.str (wd x.lo), .int x.t, .int x.n] := by
  have h0 := h
  unfold recW at h
  rw [Bool.and_eq_true, Bool.and_eq_true] at h
  obtain ⟨_, _, h⟩ := h
  have h : (words.any (fun z => PyData.eqv z (.str (ws.getD 0 Str.empty ++ Str.ofString " " ++ ws.getD 1 Str.empty))) && (isI (oPs (readI (tl (ws.getD 4 Str.empty)))) && isI (oPs (readI (tl (ws.getD 2 Str.empty)))))) = true := h
  rw [Bool.and_eq_true, Bool.and_eq_true] at h
  obtain ⟨hw, i1, i2⟩ := h
  unfold recOf recV
  rw [if_pos h0]
  cases e4 : readI (tl (ws.getD 4 Str.empty)) with
  | none => rw [e4] at i1; cases i1
  | some t =>
    cases e2 : readI (tl (ws.getD 2 Str.empty)) with
    | none => rw [e2] at i2; cases i2
    | some n =>
      refine ⟨_, rfl, ?_⟩
      generalize ws.getD 0 Str.empty ++ Str.ofString " " ++ ws.getD 1 Str.empty = c at hw ⊢
      have hc : c = wd true ∨ c = wd false := by
        simp [words, PyData.eqv] at hw
        rcases hw with h | h
        · exact .inl h.symm
        · exact .inr h.symm
      rcases hc with rfl | rfl
      · rw [decide_eq_true rfl]
        rfl
      · rw [decide_eq_false (fun z => wd_ne z.symm)]
        rfl
theorem recOf_no {ws : List Str} (h : recW ws = false) : recOf ws = none := by
  unfold recOf
  rw [h]
  rfl
theorem wd_inj {a b : Bool} (h : wd a = wd b) : a = b := by
  cases a <;> cases b <;> first | rfl | exact absurd h wd_ne | exact absurd h.symm wd_ne
theorem recOf_text {r : Rec} (lt' : (numL r.t.natAbs).length ≤ 200) (ln : (numL r.n.natAbs).length ≤ 200) : recOf [Str.ofString "at", w2 r.lo, strS r.n, Str.ofString "at", strS r.t] = some r := by
  have hx : tl (Str.join (Str.ofString " ") [Str.ofString "at", w2 r.lo, strS r.n, Str.ofString "at", strS r.t]) = recL r := by
    rw [tl_join, tl_sp]
    unfold recL
    show tl (Str.ofString "at") ++ ([32] ++ (tl (w2 r.lo) ++ ([32] ++ (tl (strS r.n) ++ ([32] ++ (tl (Str.ofString "at") ++ ([32] ++ tl (strS r.t)))))))) = _
    rw [tl_strS, tl_strS, show tl (wd r.lo) = tl (Str.ofString "at") ++ ([32] ++ tl (w2 r.lo)) by cases r.lo <;> decide +kernel, show tl (Str.ofString " at ") = [32] ++ (tl (Str.ofString "at") ++ [32]) by decide +kernel]
    simp only [List.append_assoc]
  obtain ⟨h1, h2⟩ := rec_text hx lt' ln
  rw [words_rec hx] at h1 h2
  obtain ⟨x, e1, e2⟩ := recOf_V h1
  rw [e1]
  rw [h2] at e2
  obtain ⟨l1, t1, n1⟩ := x
  obtain ⟨l2, t2, n2⟩ := r
  simp only [List.cons.injEq, V.str.injEq, V.int.injEq, and_true] at e2
  obtain ⟨e2, rfl, rfl⟩ := e2
  rw [wd_inj e2]
theorem wit_free {w : Str} (h : WitW w) {s : Nat} (hs : s < 97) : s ∉ tl w := fun m => by
  have := h.2.2 s m
  omega
/-- the bounds of an entry -/
structure EnB (e : En) : Prop where
  w : WitW e.w
  m0 : 0 ≤ e.m
  lm : (numL e.m.natAbs).length ≤ 200
  lr : ∀ d, e.x = .rd d → (numL d.t.natAbs).length ≤ 200 ∧ (numL d.n.natAbs).length ≤ 200
theorem ent_words {x : Str} {e : En} (hx : tl x = entL e) (hb : EnB e) : splS x = (match e.x with
    | .tr b => [strS e.m, e.w, Str.ofString "is", trW b]
    | .rd d => [strS e.m, e.w, Str.ofString "reports", Str.ofString "at", w2 d.lo, strS d.n, Str.ofString "at", strS d.t]) := by
  obtain ⟨m, w, x'⟩ := e
  have wf : 32 ∉ tl w := wit_free hb.w (by decide)
  cases x' with
  | tr b =>
    refine split_words (by simp) (fun u hu => ?_) ?_
    · simp only [List.mem_cons, List.not_mem_nil, or_false] at hu
      rcases hu with rfl | rfl | rfl | rfl
      · exact numL_no32 _
      · exact wf
      · decide +kernel
      · cases b <;> decide +kernel
    · rw [hx]
      unfold entL
      show _ = tl (strS m) ++ ([32] ++ (tl w ++ ([32] ++ (tl (Str.ofString "is") ++ ([32] ++ tl (trW b))))))
      rw [tl_strS, show tl (Str.ofString " is ") = [32] ++ (tl (Str.ofString "is") ++ [32]) by decide +kernel]
      simp only [List.append_assoc]
  | rd d =>
    refine split_words (by simp) (fun u hu => ?_) ?_
    · simp only [List.mem_cons, List.not_mem_nil, or_false] at hu
      rcases hu with rfl | rfl | rfl | rfl | rfl | rfl | rfl | rfl
      · exact numL_no32 _
      · exact wf
      · decide +kernel
      · decide +kernel
      · cases d.lo <;> decide +kernel
      · exact numL_no32 _
      · decide +kernel
      · exact numL_no32 _
    · rw [hx]
      show decL m ++ [32] ++ tl w ++ (tl (Str.ofString " reports ") ++ (tl (wd d.lo) ++ [32] ++ decL d.n ++ tl (Str.ofString " at ") ++ decL d.t)) = tl (strS m) ++ ([32] ++ (tl w ++ ([32] ++ (tl (Str.ofString "reports") ++ ([32] ++ (tl (Str.ofString "at") ++ ([32] ++ (tl (w2 d.lo) ++ ([32] ++ (tl (strS d.n) ++ ([32] ++ (tl (Str.ofString "at") ++ ([32] ++ tl (strS d.t))))))))))))))
      rw [tl_strS, tl_strS, tl_strS, show tl (Str.ofString " reports ") = [32] ++ (tl (Str.ofString "reports") ++ [32]) by decide +kernel, show tl (wd d.lo) = tl (Str.ofString "at") ++ ([32] ++ tl (w2 d.lo)) by cases d.lo <;> decide +kernel, show tl (Str.ofString " at ") = [32] ++ (tl (Str.ofString "at") ++ [32]) by decide +kernel]
      simp only [List.append_assoc]
theorem ent_text {x : Str} {e : En} (hx : tl x = entL e) (hb : EnB e) : readE (splS x) = some e := by
  have hw := ent_words hx hb
  have hm := readI_strS hb.lm
  have ww := (wit_iff e.w).mpr hb.w
  obtain ⟨m, w, x'⟩ := e
  have hm : readI (tl (strS m)) = some m := hm
  have ww : witB (.str w) = true := ww
  have m0 : 0 ≤ m := hb.m0
  rw [hw]
  cases x' with
  | tr b =>
    unfold readE momZ
    show (match (match readI (tl (strS m)) with | some m => if 0 ≤ m then some m else none | none => none) with | some m => if 4 ≤ 4 ∧ witB (.str w) = true then (whatE [strS m, w, Str.ofString "is", trW b]).map fun x => (⟨m, w, x⟩ : En) else none | none => none) = _
    rw [hm]
    show (match (if 0 ≤ m then some m else none) with | some m => if 4 ≤ 4 ∧ witB (.str w) = true then (whatE [strS m, w, Str.ofString "is", trW b]).map fun x => (⟨m, w, x⟩ : En) else none | none => none) = _
    rw [if_pos m0]
    show (if 4 ≤ 4 ∧ witB (.str w) = true then (whatE [strS m, w, Str.ofString "is", trW b]).map fun x => (⟨m, w, x⟩ : En) else none) = _
    rw [if_pos ⟨by decide, ww⟩]
    unfold whatE
    show (if Str.ofString "is" = Str.ofString "reports" then (recOf []).map Wt.rd else if [Str.ofString "is", trW b] = [Str.ofString "is", Str.ofString "trusted"] then some (Wt.tr true) else if [Str.ofString "is", trW b] = [Str.ofString "is", Str.ofString "distrusted"] then some (Wt.tr false) else none).map (fun x => (⟨m, w, x⟩ : En)) = _
    rw [if_neg (show ¬ Str.ofString "is" = Str.ofString "reports" by decide +kernel)]
    cases b with
    | true =>
      rw [if_pos (show [Str.ofString "is", trW true] = [Str.ofString "is", Str.ofString "trusted"] from rfl)]
      rfl
    | false =>
      rw [if_neg (show ¬ [Str.ofString "is", trW false] = [Str.ofString "is", Str.ofString "trusted"] by decide +kernel), if_pos (show [Str.ofString "is", trW false] = [Str.ofString "is", Str.ofString "distrusted"] from rfl)]
      rfl
  | rd d =>
    obtain ⟨lt', ln⟩ := hb.lr d rfl
    unfold readE momZ
    show (match (match readI (tl (strS m)) with | some m => if 0 ≤ m then some m else none | none => none) with | some m => if 4 ≤ 8 ∧ witB (.str w) = true then (whatE [strS m, w, Str.ofString "reports", Str.ofString "at", w2 d.lo, strS d.n, Str.ofString "at", strS d.t]).map fun x => (⟨m, w, x⟩ : En) else none | none => none) = _
    rw [hm]
    show (match (if 0 ≤ m then some m else none) with | some m => if 4 ≤ 8 ∧ witB (.str w) = true then (whatE [strS m, w, Str.ofString "reports", Str.ofString "at", w2 d.lo, strS d.n, Str.ofString "at", strS d.t]).map fun x => (⟨m, w, x⟩ : En) else none | none => none) = _
    rw [if_pos m0]
    show (if 4 ≤ 8 ∧ witB (.str w) = true then (whatE [strS m, w, Str.ofString "reports", Str.ofString "at", w2 d.lo, strS d.n, Str.ofString "at", strS d.t]).map fun x => (⟨m, w, x⟩ : En) else none) = _
    rw [if_pos ⟨by decide, ww⟩]
    unfold whatE
    show (if Str.ofString "reports" = Str.ofString "reports" then (recOf [Str.ofString "at", w2 d.lo, strS d.n, Str.ofString "at", strS d.t]).map Wt.rd else _).map (fun x => (⟨m, w, x⟩ : En)) = _
    rw [if_pos rfl, recOf_text lt' ln]
    rfl
theorem ent_no {e : En} (hb : EnB e) {s : Nat} (hs : s < 32) : s ∉ entL e := fun h => by
  have h1 : ∀ y ∈ tl (Str.ofString " is "), s ≠ y := fun y hy => by
    have : ∀ y ∈ tl (Str.ofString " is "), 32 ≤ y := by decide +kernel
    have := this y hy
    omega
  have h2 : ∀ y ∈ tl (Str.ofString " reports "), s ≠ y := fun y hy => by
    have : ∀ y ∈ tl (Str.ofString " reports "), 32 ≤ y := by decide +kernel
    have := this y hy
    omega
  have h3 : ∀ y ∈ tl (Str.ofString " at "), s ≠ y := fun y hy => by
    have : ∀ y ∈ tl (Str.ofString " at "), 32 ≤ y := by decide +kernel
    have := this y hy
    omega
  have h4 : ∀ b, ∀ y ∈ tl (trW b), s ≠ y := fun b y hy => by
    have : ∀ y ∈ tl (trW b), 32 ≤ y := by cases b <;> decide +kernel
    have := this y hy
    omega
  have h5 : ∀ b, ∀ y ∈ tl (wd b), s ≠ y := fun b y hy => by
    have : ∀ y ∈ tl (wd b), 32 ≤ y := by cases b <;> decide +kernel
    have := this y hy
    omega
  have hd : ∀ n : Int, s ∉ decL n := fun n => decL_free (.inl (by omega)) (by omega)
  unfold entL at h
  obtain ⟨m, w, x⟩ := e
  have hw := wit_free hb.w (show s < 97 by omega)
  rcases List.mem_append.mp h with h | h
  · simp only [List.mem_append, List.mem_singleton] at h
    rcases h with (h | h) | h
    · exact hd _ h
    · omega
    · exact hw h
  · cases x with
    | tr b =>
      rcases List.mem_append.mp h with h | h
      · exact h1 _ h rfl
      · exact h4 _ _ h rfl
    | rd d =>
      rcases List.mem_append.mp h with h | h
      · exact h2 _ h rfl
      · unfold recL at h
        simp only [List.mem_append, List.mem_singleton] at h
        rcases h with (((h | h) | h) | h) | h
        · exact h5 _ _ h rfl
        · omega
        · exact hd _ h
        · exact h3 _ h rfl
        · exact hd _ h
/-- the lines of a text -/
def linesO (z : Str) : List Str := if z = Str.empty then [] else Txt.split z (Str.ofString "\n")
theorem tl_nl : tl (Str.ofString "\n") = [10] := by decide +kernel
theorem lines_join {zs : List Str} (hne : zs ≠ []) (h0 : ∀ z ∈ zs, z ≠ Str.empty) (hp : ∀ z ∈ zs, 10 ∉ tl z) : linesO (Txt.join (Str.ofString "\n") zs) = zs := by
  unfold linesO
  rw [if_neg, split_join tl_nl (by decide +kernel) hne hp]
  intro e
  have e := congrArg tl e
  rw [join_eq, tl_join, tl_nl] at e
  match zs, hne with
  | [z], _ => exact h0 z List.mem_cons_self (ext_tl e)
  | z :: y :: r, _ =>
    have e : tl z ++ ([10] ++ joinL [10] ((y :: r).map tl)) = [] := e
    have e := (List.append_eq_nil_iff.mp e).2
    cases e
end Lf
namespace Lf
open PySem PySem.Spec PyProof.Rows L2 TL
theorem fc_go {CR T : Addr} {H : Hp} {x : Rec} {Q : VK} (eT : H T = some (rcO x)) (lt' : (numL x.t.natAbs).length ≤ 6000) (ln : (numL x.n.natAbs).length ≤ 6000)
    (k : ∀ z H', Same H H' → tl z = recL x → Q (.str z) H') : Wr (spFRec CR) [.ref T] H Q := by
  constructor
  have rb : recB (.tuple [.str (wd x.lo), .int x.t, .int x.n]) = true := by
    show (words.any (fun z => PyData.eqv z (.str (wd x.lo))) && (isI (.int x.t) && isI (.int x.n))) = true
    have h : words.any (fun z => PyData.eqv z (.str (wd x.lo))) = true := by cases x.lo <;> decide +kernel
    rw [h]
    rfl
  refine ⟨.ref T, _, rfl, .tup eT (.cons (.str _) (.cons (.int _) (.cons (.int _) .nil))), rg_w _, fun h => absurd h (by rw [rb]; simp), fun r x' hv er _ => ?_⟩
  cases hv
  rw [eT] at er
  have : x = x' := by
    have er := HO.tup.inj (Option.some.inj er)
    obtain ⟨l1, t1, n1⟩ := x
    obtain ⟨l2, t2, n2⟩ := x'
    simp only [List.cons.injEq, V.str.injEq, V.int.injEq, and_true] at er
    obtain ⟨e1, rfl, rfl⟩ := er
    cases l1 <;> cases l2 <;> first | rfl | exact absurd e1 (by decide +kernel)
  subst this
  exact ⟨lt', ln, k⟩
section
variable {P : Program} {w : World} {K : PySem.W.Frag} {mg : Str → Option Value} {base : Heap} {C CR : Addr}
/-! ### `is True` of anything that an entry holds -/
def rIsBR : R2 := fun x y H Q => ∃ b : Bool, y = .bl b ∧ ((∃ a : Bool, x = .bl a ∧ Q (.bl (decide (a = b))) H) ∨ (∃ r : Addr, x = .ref r ∧ Q (.bl false) H))
theorem op_isBR {X : Cx} : OpR X (compareOp .Is) rIsBR := by
  intro pins s σ H x y v u Q I rx ry h
  obtain ⟨b, rfl, h⟩ := h
  cases (show u = Value.bool b from ry)
  rcases h with ⟨a, rfl, q⟩ | ⟨r, rfl, q⟩
  · cases (show v = Value.bool a from rx)
    by_cases e : a = b
    · subst e
      exact wpAny_is_self rfl ⟨.bl true, H, I, rfl, by simpa using q⟩
    · exact wpAny_is_other rfl (fun z => e (Value.bool.inj z)) ⟨.bl false, H, I, rfl, by simpa [e] using q⟩
  · cases (show v = Value.ref r from rx)
    exact wpAny_is_other rfl (fun z => nomatch z) ⟨.bl false, H, I, rfl, q⟩
/-! ### read_moment, read_entry -/
def spRMom : Sp := fun vs H Q _ => ∃ z : Str, vs = [.str z] ∧ z.length ≤ 40000 ∧ ∀ H', Same H H' → Q (oVs (momZ z)) H'
abbrev s_read_moment : Stmt := topS 29
abbrev N_read_moment : List Str := ["word", "moment"]
abbrev P_read_moment : List Str := ["word"]
theorem sc_read_moment : FnScope N_read_moment P_read_moment (defScope s_read_moment) := ⟨rfl, rfl, rfl, by decide +kernel, rfl, by decide +kernel, by decide +kernel⟩
theorem ok_read_moment (D : Df K mg "read_moment" s_read_moment P_read_moment) (c_read_integer : C8.Cal P w K mg base 1 "read_integer" spReadI []) : C8.Cal P w K mg base 2 "read_moment" spRMom [] := by
  refine cal_of D sc_read_moment (fun vs H Q E h => ?_) (fun f cdv A outer s H vs Q E hr h => ?_)
  · obtain ⟨z, rfl, _⟩ := h
    rfl
  · obtain ⟨z, rfl, lz, kk⟩ := h
    refine ⟨_, (pss_cons (ps_set (i := 1) sc_read_moment.nd rfl (Or.inl rfl) (C8.pe_c c_read_integer hr (by decide) (by rfl) (pa_cons (pv 0) pa_nil)))
    (pss_one (ps_ret (pe_ifExp (PW.pt (pw_or (pt_cmpR op_isN (pv 1) pe_non (nomark _)) (pw_or1 (pt_cmpR op_lt (pv 1) pe_int (nomark _))))) pe_non (pv 1))))), ?_⟩
    refine ⟨_, rfl, z, rfl, lz, fun H1 s1 => ?_⟩
    have k := kk H1 s1
    unfold momZ at k
    cases hr2 : readI (tl z) with
    | none =>
      rw [hr2] at k
      exact ⟨_, rfl, rfl, _, rfl, iteD rfl k⟩
    | some m =>
      rw [hr2] at k
      by_cases c : 0 ≤ m
      · have k : Q (oVs (if 0 ≤ m then some m else none)) H1 := k
        rw [if_pos c] at k
        exact ⟨_, rfl, rfl, _, rfl, iteDn (fun z => nomatch z) ⟨_, rfl, _, _, rfl, rfl, _, rfl, iteDn (by omega) ⟨_, rfl, k⟩⟩⟩
      · have k : Q (oVs (if 0 ≤ m then some m else none)) H1 := k
        rw [if_neg c] at k
        exact ⟨_, rfl, rfl, _, rfl, iteDn (fun z => nomatch z) ⟨_, rfl, _, _, rfl, rfl, _, rfl, iteD (by omega) k⟩⟩
theorem readE_short {ws : List Str} (h : ws.length < 4) : readE ws = none := by
  unfold readE
  cases momZ (ws.getD 0 Str.empty) with
  | none => rfl
  | some m =>
    show (if 4 ≤ ws.length ∧ witB (.str (ws.getD 1 Str.empty)) = true then (whatE ws).map fun x => (⟨m, ws.getD 1 Str.empty, x⟩ : En) else none) = none
    rw [if_neg (fun z => by omega)]
theorem readE_mom {ws : List Str} (h : momZ (ws.getD 0 Str.empty) = none) : readE ws = none := by
  unfold readE
  rw [h]
theorem readE_wit {ws : List Str} (h : witB (.str (ws.getD 1 Str.empty)) = false) : readE ws = none := by
  unfold readE
  cases momZ (ws.getD 0 Str.empty) with
  | none => rfl
  | some m =>
    show (if 4 ≤ ws.length ∧ witB (.str (ws.getD 1 Str.empty)) = true then (whatE ws).map fun x => (⟨m, ws.getD 1 Str.empty, x⟩ : En) else none) = none
    rw [if_neg (fun z => by rw [h] at z; exact Bool.false_ne_true z.2)]
theorem readE_yes {ws : List Str} {m : Int} (h : momZ (ws.getD 0 Str.empty) = some m) (h4 : 4 ≤ ws.length) (hw : witB (.str (ws.getD 1 Str.empty)) = true) : readE ws = (whatE ws).map fun x => (⟨m, ws.getD 1 Str.empty, x⟩ : En) := by
  unfold readE
  rw [h]
  show (if 4 ≤ ws.length ∧ witB (.str (ws.getD 1 Str.empty)) = true then (whatE ws).map fun x => (⟨m, ws.getD 1 Str.empty, x⟩ : En) else none) = _
  rw [if_pos ⟨h4, hw⟩]
def WhatAt (H : Hp) (ws : List Str) (v : V) : Prop := match whatE ws with
  | none => v = .non
  | some x => WtAt H x v
theorem wt_non {H : Hp} {x : Wt} {v : V} (h : WtAt H x v) : v ≠ .non := fun e => by
  subst e
  cases x with
  | rd d =>
    obtain ⟨_, h, _⟩ := h
    cases h
  | tr b => cases h
def spREnt : Sp := fun vs H Q _ => ∃ (W : Addr) (ws : List Str), vs = [.ref W] ∧ H W = some (.lst (ws.map V.str)) ∧ ws.length ≤ 40001 ∧ WsOk 40000 ws ∧ (ws.getD 1 Str.empty).length ≤ 40000 ∧ (readE ws = none → ∀ H', Same H H' → Q .non H') ∧
  (∀ e, readE ws = some e → ∀ T H', Same H H' → EnAt H' T e → Q (.ref T) H')
abbrev s_read_entry : Stmt := topS 31
abbrev N_read_entry : List Str := ["words", "what"]
abbrev P_read_entry : List Str := ["words"]
theorem sc_read_entry : FnScope N_read_entry P_read_entry (defScope s_read_entry) := ⟨rfl, rfl, rfl, by decide +kernel, rfl, by decide +kernel, by decide +kernel⟩
theorem ok_read_entry (D : Df K mg "read_entry" s_read_entry P_read_entry) (B : Bi mg) (c_read_moment : C8.Cal P w K mg base 2 "read_moment" spRMom []) (cA_is_witness : C8.Cal P w K mg base 1 "is_witness" spWitA []) (c_read_record : C8.Cal P w K mg base 3 "read_record" spRRec []) : C8.Cal P w K mg base 4 "read_entry" spREnt [] := by
  refine cal_of D sc_read_entry (fun vs H Q E h => ?_) (fun f cdv A outer s H vs Q E hr h => ?_)
  · obtain ⟨W, ws, rfl, _⟩ := h
    rfl
  · obtain ⟨W, ws, rfl, eW, lw, ow, sw, kn, ky⟩ := h
    have c_is_witness := cA_is_witness
    refine ⟨_, (C8.pss_cut (ps_if (PW.pt (pw_or (pt_cmpR op_lt (pe_callB (call_len_seq) (by rfl) B.len_ bt_len (pa_cons (pv 0) pa_nil)) pe_int (nomark _)) (pw_or (pt_cmpR op_isN (C8.pe_c c_read_moment hr (by decide) (by rfl) (pa_cons (pe_ix (r := rIxL K) ix_list (pv 0) pe_int (fun _ _ => rfl)) pa_nil)) pe_non (nomark _)) (pw_or1 (pt_not (pt_val (C8.pe_c c_is_witness hr (by decide) (by rfl) (pa_cons (pe_ix (r := rIxL K) ix_list (pv 0) pe_int (fun _ _ => rfl)) pa_nil))))))))
      (pss_one (ps_ret pe_non))
      pss_nil)
    (pss_cons (ps_set (i := 1) sc_read_entry.nd rfl (Or.inl rfl) pe_non)
    (C8.pss_cut (ps_if (pt_cmpR op_eq (pe_ix (r := rIxL K) ix_list (pv 0) pe_int (fun _ _ => rfl)) pe_str (nomark _))
      (pss_one (ps_set (i := 1) sc_read_entry.nd rfl (Or.inl rfl) (C8.pe_c c_read_record hr (by decide) (by rfl) (pa_cons (pe_slice sl_list (pv 0) (po_some pe_int) po_none) pa_nil))))
      (pss_one (ps_if (pt_cmpR (op_eqW hr.units) (pe_slice sl_list (pv 0) (po_some pe_int) po_none) (pe_lst (pa_cons pe_str (pa_cons pe_str pa_nil))) (nomark _))
      (pss_one (ps_set (i := 1) sc_read_entry.nd rfl (Or.inl rfl) pe_bl))
      (pss_one (ps_if (pt_cmpR (op_eqW hr.units) (pe_slice sl_list (pv 0) (po_some pe_int) po_none) (pe_lst (pa_cons pe_str (pa_cons pe_str pa_nil))) (nomark _))
      (pss_one (ps_set (i := 1) sc_read_entry.nd rfl (Or.inl rfl) pe_bl))
      pss_nil)))))
    (pss_one (ps_ret (pe_ifExp (pt_cmpR op_isN (pv 1) pe_non (nomark _)) pe_non (pe_tup (pa_cons (C8.pe_c c_read_moment hr (by decide) (by rfl) (pa_cons (pe_ix (r := rIxL K) ix_list (pv 0) pe_int (fun _ _ => rfl)) pa_nil)) (pa_cons (pe_ix (r := rIxL K) ix_list (pv 0) pe_int (fun _ _ => rfl)) (pa_cons (pv 1) pa_nil)))))))))), ?_⟩
    have lmap : (ws.map V.str).length = ws.length := List.length_map _
    have gD : ∀ (i : Nat), i < ws.length → (ws.map V.str)[i]? = some (.str (ws.getD i Str.empty)) := fun i hi => by
      rw [List.getElem?_map, List.getElem?_eq_getElem hi]
      show some (V.str ws[i]) = _
      rw [List.getD_eq_getElem?_getD, List.getElem?_eq_getElem hi]
      rfl
    have okD : ∀ (i : Nat), i < ws.length → (ws.getD i Str.empty).length ≤ 40000 := fun i hi => by
      rw [List.getD_eq_getElem?_getD, List.getElem?_eq_getElem hi]
      exact (ow _ (List.getElem_mem hi)).1
    refine ⟨fun σ' H' => σ' = [some (.ref W), none] ∧ Same H H' ∧ 4 ≤ ws.length ∧ ∃ m, momZ (ws.getD 0 Str.empty) = some m ∧ witB (.str (ws.getD 1 Str.empty)) = true, ?_, ?_⟩
    · refine ⟨_, rfl, W, _, rfl, .inl (SqL.of eW), _, _, rfl, rfl, _, rfl, ?_⟩
      by_cases c : ((ws.map V.str).length : Int) < 4
      · exact iteD c (iteTs rfl (kn (readE_short (by omega)) _ (Same.refl _)))
      · refine iteDn c ⟨_, rfl, W, _, _, _, rfl, rfl, SqL.of eW, atI_nat (j := 0) (gD 0 (by omega)), _, rfl, okD 0 (by omega), fun H1 s1 => ⟨rfl, _, rfl, ?_⟩⟩
        cases hm : momZ (ws.getD 0 Str.empty) with
        | none => exact iteD rfl (iteTs rfl (kn (readE_mom hm) _ s1))
        | some m =>
          refine iteDn (fun z => nomatch z) ⟨_, rfl, W, _, _, _, rfl, rfl, SqL.of (s1 _ _ eW), atI_nat (j := 1) (gD 1 (by omega)), _, .str (ws.getD 1 Str.empty), rfl, .str _, sw, fun H2 s2 => ⟨_, rfl, ?_⟩⟩
          cases hw : witB (.str (ws.getD 1 Str.empty)) with
          | false => exact iteTs rfl (kn (readE_wit hw) _ (s1.trans s2))
          | true => exact iteFs rfl ⟨rfl, s1.trans s2, by omega, m, rfl, rfl⟩
    rintro σ' H1 ⟨rfl, s1, l4, m, hm, hw⟩
    have eW1 := s1 _ _ eW
    have re := readE_yes hm l4 hw
    have dr : ∀ j : Nat, cutV (ws.map V.str) (some (j : Int)) none = (ws.drop j).map V.str := fun j => by rw [cutV_drop, List.map_drop]
    refine ⟨fun σ' H' => ∃ v, σ' = [some (.ref W), some v] ∧ Same H1 H' ∧ WhatAt H' ws v, ?_, ?_⟩
    · refine ⟨_, rfl, W, _, _, _, rfl, rfl, SqL.of eW1, atI_nat (j := 2) (gD 2 (by omega)), rfl, _, rfl, ?_⟩
      by_cases c : V.str (ws.getD 2 Str.empty) = V.str (Str.ofString "reports")
      · have c' := V.str.inj c
        refine iteD c ⟨_, rfl, 3, rfl, W, _, rfl, SqL.of eW1, fun S nS => ?_⟩
        rw [show cutV (ws.map V.str) (some (3 : Int)) none = (ws.drop 3).map V.str from dr 3]
        have zS := sm_upd (o := .lst ((ws.drop 3).map V.str)) nS
        refine ⟨S, ws.drop 3, rfl, upd_same, by rw [List.length_drop]; omega, fun u hu => ow u (List.mem_of_mem_drop hu), fun hb H2 s2 => ?_, fun hb T H2 s2 eT => ?_⟩
        · refine ⟨_, rfl, zS.trans s2, ?_⟩
          unfold WhatAt whatE
          rw [if_pos c', recOf_no hb]
          rfl
        · obtain ⟨x, e1, e2⟩ := recOf_V hb
          refine ⟨_, rfl, zS.trans s2, ?_⟩
          unfold WhatAt whatE
          rw [if_pos c', e1]
          rw [e2] at eT
          exact ⟨T, rfl, eT⟩
      · have c' : ¬ ws.getD 2 Str.empty = Str.ofString "reports" := fun z => c (by rw [z])
        refine iteDn c ⟨_, rfl, 2, rfl, W, _, rfl, SqL.of eW1, fun S nS => ?_⟩
        rw [show cutV (ws.map V.str) (some (2 : Int)) none = (ws.drop 2).map V.str from dr 2]
        have zS := sm_upd (o := .lst ((ws.drop 2).map V.str)) nS
        refine ⟨len10 (by simp), fun M nM => ?_⟩
        have zM := sm_upd (o := .lst [.str "is", .str "trusted"]) nM
        refine ⟨S, M, ws.drop 2, [Str.ofString "is", Str.ofString "trusted"], rfl, rfl, SqL.of (zM _ _ upd_same), SqL.of upd_same, _, rfl, ?_⟩
        by_cases c2 : ws.drop 2 = [Str.ofString "is", Str.ofString "trusted"]
        · refine iteTs (by show decide _ = true; exact decide_eq_true c2) ⟨_, rfl, zS.trans zM, ?_⟩
          unfold WhatAt whatE
          rw [if_neg c', if_pos c2]
          rfl
        · refine iteFs (by show decide _ = false; exact decide_eq_false c2) ⟨_, rfl, 2, rfl, W, _, rfl, SqL.of (zM _ _ (zS _ _ eW1)), fun S2 nS2 => ?_⟩
          rw [show cutV (ws.map V.str) (some (2 : Int)) none = (ws.drop 2).map V.str from dr 2]
          have zS2 := sm_upd (o := .lst ((ws.drop 2).map V.str)) nS2
          refine ⟨len10 (by simp), fun M2 nM2 => ?_⟩
          have zM2 := sm_upd (o := .lst [.str "is", .str "distrusted"]) nM2
          have zz := zS.trans (zM.trans (zS2.trans zM2))
          refine ⟨S2, M2, ws.drop 2, [Str.ofString "is", Str.ofString "distrusted"], rfl, rfl, SqL.of (zM2 _ _ upd_same), SqL.of upd_same, _, rfl, ?_⟩
          by_cases c3 : ws.drop 2 = [Str.ofString "is", Str.ofString "distrusted"]
          · refine iteTs (by show decide _ = true; exact decide_eq_true c3) ⟨_, rfl, zz, ?_⟩
            unfold WhatAt whatE
            rw [if_neg c', if_neg c2, if_pos c3]
            rfl
          · refine iteFs (by show decide _ = false; exact decide_eq_false c3) ⟨_, rfl, zz, ?_⟩
            unfold WhatAt whatE
            rw [if_neg c', if_neg c2, if_neg c3]
    rintro σ' H2 ⟨v, rfl, s2, hv⟩
    unfold WhatAt at hv
    cases hx : whatE ws with
    | none =>
      rw [hx] at hv re
      obtain rfl : v = .non := hv
      exact ⟨_, rfl, rfl, _, rfl, iteD rfl (kn re _ (s1.trans s2))⟩
    | some x =>
      rw [hx] at hv re
      have hv : WtAt H2 x v := hv
      refine ⟨_, rfl, rfl, _, rfl, iteDn (wt_non hv) ⟨_, rfl, W, _, _, _, rfl, rfl, SqL.of (s2 _ _ eW1), atI_nat (j := 0) (gD 0 (by omega)), _, rfl, okD 0 (by omega), fun H3 s3 => ?_⟩⟩
      rw [hm]
      refine ⟨_, rfl, W, _, _, _, rfl, rfl, SqL.of (s3 _ _ (s2 _ _ eW1)), atI_nat (j := 1) (gD 1 (by omega)), _, rfl, len10 (by simp), fun T nT => ?_⟩
      have zT := sm_upd (o := .tup [.int m, .str (ws.getD 1 Str.empty), v]) nT
      exact ky _ re T _ (s1.trans (s2.trans (s3.trans zT))) ⟨v, upd_same, hv.kp (.same (s3.trans zT))⟩
/-! ### format_entry -/
def spFEnt : Sp := fun vs H Q _ => ∃ (r : Addr) (e : En), vs = [.ref r] ∧ EnAt H r e ∧ EnB e ∧ ∀ z H', Same H H' → tl z = entL e → Q (.str z) H'
end
end Lf
namespace Lf
open PySem PySem.Spec PyProof.Rows L2 TL
theorem entL_len {e : En} (hb : EnB e) : (entL e).length ≤ 900 := by
  have h1 := decL_len hb.lm
  have h2 : (tl e.w).length ≤ 12 := by
    rw [← len_tl]
    exact hb.w.2.1
  have h3 : (tl (Str.ofString " is ")).length = 4 := by decide +kernel
  have h4 : (tl (Str.ofString " reports ")).length = 9 := by decide +kernel
  obtain ⟨m, w, x⟩ := e
  cases x with
  | tr b =>
    have h5 : (tl (trW b)).length ≤ 10 := by cases b <;> decide +kernel
    show (decL m ++ [32] ++ tl w ++ (tl (Str.ofString " is ") ++ tl (trW b))).length ≤ 900
    simp only [List.length_append, List.length_cons, List.length_nil, h3]
    have h1 : (decL m).length ≤ 201 := h1
    have h2 : (tl w).length ≤ 12 := h2
    omega
  | rd d =>
    obtain ⟨lt', ln⟩ := hb.lr d rfl
    have h5 := recL_len lt' ln
    show (decL m ++ [32] ++ tl w ++ (tl (Str.ofString " reports ") ++ recL d)).length ≤ 900
    simp only [List.length_append, List.length_cons, List.length_nil, h4]
    have h1 : (decL m).length ≤ 201 := h1
    have h2 : (tl w).length ≤ 12 := h2
    omega
section
variable {P : Program} {w : World} {K : PySem.W.Frag} {mg : Str → Option Value} {base : Heap} {C CP CD : Addr}
/-! ### format_log -/
def spFLog (C : Addr) : Sp := fun vs H Q _ => ∃ (o D : Addr) (es : List En), vs = [.ref o] ∧ LogAt C H o D es ∧ es.length ≤ 40 ∧ (∀ e ∈ es, EnB e) ∧
  ∀ z H' (fs : List En), Same H H' → fs.Perm es → (fs.map (·.m)).Pairwise (· ≤ ·) → tl z = joinL [10] (fs.map entL) → Q (.str z) H'
/-! ### parse_log -/
theorem it_lines {K : PySem.W.Frag} {σ : L2.St} {H : Hp} {z : Str} {Q : VK} (hz : σ[0]? = some (some (.str z))) (hl : z.length + 2 ≤ sizeLine) (h : ∀ A H2, H A = none → Same H H2 → H2 A = some (.lst ((linesO z).map V.str)) → Q (.ref A) H2) :
    tIf (fun σ H_1 Q => tVar 0 σ H_1 fun x H' => ∃ k, TruV K x H' k ∧ Q k H') (tBM K "str" (fun x xs H Q => ∃ a b, x = V.str a ∧ xs = [V.str b] ∧ (b.length == 0) = false ∧ a.length + 2 ≤ sizeLine ∧ rNewStrs (Txt.split a b) H Q) (tVar 0) (tCons (tC (V.str "\n")) tNil)) (tLst tNil) σ H Q := by
  refine ⟨_, hz, _, ⟨by omega, rfl⟩, ?_⟩
  by_cases c : z = Str.empty
  · subst c
    refine iteFs (by decide) ⟨len10 (by simp), fun A nA => h A _ nA (sm_upd nA) ?_⟩
    rw [upd_same]
    rfl
  · have c0 : ((z.length : Int) != 0) = true := by
      have : z.length ≠ 0 := fun e => c (ext_tl (by
        rw [len_tl] at e
        rw [List.length_eq_zero_iff.mp e]
        rfl))
      simpa using this
    refine iteTs c0 ⟨_, hz, rfl, z, _, rfl, rfl, by decide +kernel, hl, fun A nA => h A _ nA (sm_upd nA) ?_⟩
    rw [upd_same]
    unfold linesO
    rw [if_neg c]
def linesD : PyData → List Str
  | .str z => linesO z
  | _ => []
/-- what is read, line by line -/
def spPLog (C CP CD : Addr) : Sp := fun vs H Q E => ∃ (v : V) (d : PyData), vs = [v] ∧ Dv H v d ∧ shT 1000000 d ∧ (isSt d = false → ∀ H', Same H H' → OutY CP "line" v H' E) ∧
  (isSt d = true → (linesD d).length ≤ 400 ∧ (∀ l ∈ linesD d, l.length ≤ 40000 ∧ ((splS l).getD 1 Str.empty).length ≤ 40000 ∧ PyData.strOk l = true) ∧
    (∀ (j : Nat) l, (linesD d)[j]? = some l → (∀ u ∈ (linesD d).take j, readE (splS u) ≠ none) → readE (splS l) = none → ∀ H', Same H H' → OutY CP "line" (.str l) H' E) ∧
    (∀ es : List En, (linesD d).map (fun l => readE (splS l)) = es.map some →
      ((es.map (·.m)).Nodup → ∀ o D H', Same H H' → H D = none → LogAt C H' o D es → Q (.ref o) H') ∧
      (∀ (j : Nat) e, es[j]? = some e → ((es.take j).map (·.m)).Nodup → e.m ∈ (es.take j).map (·.m) → ∀ H', Same H H' → Out CD (.int e.m) H' E)))
abbrev s_parse_log : Stmt := topS 26
abbrev N_parse_log : List Str := ["text", "entries", "line", "entry", "log"]
abbrev P_parse_log : List Str := ["text"]
theorem sc_parse_log : FnScope N_parse_log P_parse_log (defScope s_parse_log) := ⟨rfl, rfl, rfl, by decide +kernel, rfl, by decide +kernel, by decide +kernel⟩
theorem okx_parse_log (D : Df K mg "parse_log" s_parse_log P_parse_log) (B : Bi mg) (TK : LgT K mg C) (T : ValC P K mg CP "ParseError" "line") (c_words_of : C8.Cal P w K mg base 1 "words_of" spWds []) (c_read_entry : C8.Cal P w K mg base 4 "read_entry" spREnt []) (c_Log : C8.Mak P w K mg base 1 "Log" C (spInitL C) []) (cX_Log_enter : MetD P w K mg base 3 C "enter" (spEntX C CD) []) : CalX P w K mg base 6 "parse_log" (spPLog C CP CD) := by
  refine calx_of D sc_parse_log (fun vs H Q E h => ?_) (fun f cdv A outer s H vs Q E hr h => ?_)
  · obtain ⟨v, d, rfl, _⟩ := h
    rfl
  · obtain ⟨v, d, rfl, dv, sh, kn, ks⟩ := h
    refine ⟨_, (pss_cons (ps_if (pt_not (pt_val (pe_callB (call_isi) (by rfl) B.isinstance_ bt_isinstance (pa_cons (pv 0) (pa_cons (pe_bltn (v := .ty "str") (by rfl) B.str_ bt_str rfl) pa_nil)))))
      (pss_one (ps_raise rfl (takes_of rfl rfl rfl rfl) (pmk_val T hr (by decide) rfl (pv 0))))
      pss_nil)
    (pss_cons (ps_set (i := 1) sc_parse_log.nd rfl (Or.inl rfl) (pe_lst pa_nil))
    (pss_cons (ps_for (passes_of rfl) rfl (pi_list (pe_ifExp (pt_truth (pv 0) (fun _ => rfl)) (pe_bm PySem.F.plainAttrs_str PySem.F.slot_str_split PySem.F.type_str_split mt_split (pv 0) (pa_cons pe_str pa_nil)) (pe_lst pa_nil))) (pg_name (i := 2) sc_parse_log.nd rfl (Or.inl rfl))
      (pss_cons (ps_set (i := 3) sc_parse_log.nd rfl (Or.inl rfl) (C8.pe_c c_read_entry hr (by decide) (by rfl) (pa_cons (C8.pe_c c_words_of hr (by decide) (by rfl) (pa_cons (pv 2) pa_nil)) pa_nil)))
    (pss_cons (ps_if (pt_cmpR op_isN (pv 3) pe_non (nomark _))
      (pss_one (ps_raise rfl (takes_of rfl rfl rfl rfl) (pmk_val T hr (by decide) rfl (pv 2))))
      pss_nil)
    (pss_one (ps_expr (pe_bm PySem.F.plainAttrs_list PySem.F.slot_list_append PySem.F.type_list_append mt_append (pv 1) (pa_cons (pv 3) pa_nil)))))))
    (pss_cons (ps_set (i := 4) sc_parse_log.nd rfl (Or.inl rfl) (pe_mk0 c_Log hr (by decide) (by rfl)))
    (pss_cons (ps_for (passes_of rfl) rfl (pi_list (pv 1)) (pg_name (i := 3) sc_parse_log.nd rfl (Or.inl rfl))
      (pss_one (ps_expr (pe_mtx (pv 4) cX_Log_enter hr (by decide) (takes_of rfl rfl rfl rfl) (pa_cons (pv 3) pa_nil)))))
    (pss_one (ps_ret (pv 4)))))))), ?_⟩
    refine ⟨_, rfl, _, _, _, _, isSt d, rfl, .ty "str", dv.ty, kit_ty (kit_st d), isSt d, rfl, ?_⟩
    cases hs : isSt d with
    | false => exact iteTs rfl ⟨_, rfl, mkv (kn hs H (Same.refl _))⟩
    | true =>
      obtain ⟨z, rfl, rfl⟩ : ∃ z, v = .str z ∧ d = .str z := by
        cases dv <;> first | exact ⟨_, rfl, rfl⟩ | cases hs
      obtain ⟨lnum, lok, kbad, kes⟩ := ks hs
      have lz : z.length ≤ 1000000 := sh.1
      have fz : z.length + 2 ≤ sizeLine := by
        rw [sizeLine_eq]
        omega
      refine iteFs rfl ⟨len10 (by simp), fun L nL => ?_⟩
      have zL := sm_upd (o := .lst []) nL
      have eL := upd_same (H := H) (a := L) (o := .lst [])
      obtain ⟨ls, hls⟩ : ∃ ls, linesD (.str z) = ls := ⟨_, rfl⟩
      rw [hls] at lnum lok kbad kes
      have hls' : linesO z = ls := hls
      generalize upd H L (.lst []) = H1 at zL eL ⊢
      refine it_lines rfl fz fun A H2 nA s2 eA => ⟨A, rfl, ⟨_, SqL.of eA⟩, ?_⟩
      rw [hls'] at eA
      have eL2 := s2 _ _ eL
      have s12 := zL.trans s2
      have AL : A ≠ L := fun e => by
        rw [e, eL] at nA
        cases nA
      refine for_list (K := K) (a := A) (xs := ls.map V.str) (fun i σ' H' => ∃ (y2 y3 : Option V) (vs : List V) (es : List En), σ' = [some (.str z), some (.ref L), y2, y3, none] ∧ Same H H' ∧ H' A = some (.lst (ls.map V.str)) ∧ H' L = some (.lst vs) ∧ EnL H' vs es ∧ es.length = i ∧ (ls.take i).map (fun l => readE (splS l)) = es.map some) ⟨_, _, [], [], rfl, s12, eA, eL2, .nil, rfl, rfl⟩ ?_ ?_ ?_
      · rintro i σ' H' _ ⟨_, _, _, _, _, _, e, _⟩
        exact SqL.of e
      · rintro i x σ' H3 hx ⟨y2, y3, vs, es, rfl, s3, eA3, eL3, hE, le, hm⟩
        rw [List.getElem?_map, Option.map_eq_some_iff] at hx
        obtain ⟨l, hl, rfl⟩ := hx
        have hi := (List.getElem?_eq_some_iff.mp hl).1
        obtain ⟨l1, l2, l3⟩ := lok l (List.mem_of_getElem? hl)
        have sl : shT 40000 (.str l) := ⟨l1, l3⟩
        refine ⟨_, rfl, .str l, .str l, rfl, .str l, sl, fun W H4 nW e4 => ?_⟩
        subst e4
        have zW := sm_upd (o := .lst ((wordsO (.str l)).map V.str)) nW
        have lv := hE.len
        refine ⟨W, wordsO (.str l), rfl, upd_same, wordsO_num sl, wordsO_ok sl, l2, fun hn H5 s5 => ?_, fun e he T H5 s5 hT => ?_⟩
        · refine ⟨_, rfl, rfl, _, rfl, iteD rfl ⟨_, rfl, mkv (kbad i l hl (fun u hu => ?_) hn H5 (s3.trans (zW.trans s5)))⟩⟩
          intro hno
          have : (none : Option En) ∈ es.map some := by
            rw [← hm, ← hno]
            exact List.mem_map_of_mem hu
          obtain ⟨_, _, h⟩ := List.mem_map.mp this
          cases h
        · have he : readE (splS l) = some e := he
          have zz := zW.trans s5
          refine ⟨_, rfl, rfl, _, rfl, iteDn (fun z => nomatch z) ⟨_, rfl, .inl ⟨rfl, _, SqL.of (zz _ _ eL3)⟩, _, rfl, L, _, _, rfl, rfl, zz _ _ eL3, small1000 (by omega), ?_⟩⟩
          have nL0 : ∀ b o, H b = some o → b ≠ L := fun b o e => ne_of_none e nL
          have tk : TupKp H5 (upd H5 L (.lst (vs ++ [.ref T]))) := fun b xs eb => by
            rw [upd_ne (fun z => by rw [z, zz _ _ eL3] at eb; cases eb)]
            exact eb
          refine ⟨_, _, vs ++ [.ref T], es ++ [e], rfl, fun b o eb => ?_, ?_, upd_same, ((hE.kp (.same zz)).kp tk).snoc (hT.kp tk), by rw [List.length_append, le]; rfl, ?_⟩
          · rw [upd_ne (nL0 _ _ eb)]
            exact zz _ _ (s3 _ _ eb)
          · rw [upd_ne AL]
            exact zz _ _ eA3
          · rw [List.take_add_one, hl, List.map_append, List.map_append, hm]
            show _ ++ [readE (splS l)] = _ ++ [some e]
            rw [he]
      · rintro σ' H3 ⟨y2, y3, vs, es, rfl, s3, eA3, eL3, hE, le, hm⟩
        rw [List.length_map, List.take_length] at hm
        rw [List.length_map] at le
        obtain ⟨k1, k2⟩ := kes es hm
        have lv := hE.len
        intro o dx no nd' od
        have z1 := sm_upd (o := .own o) nd'
        have no1 : upd H3 dx (.own o) o = none := by rw [upd_ne od.symm]; exact no
        have z2 := sm_upd (o := .ins C dx []) no1
        refine ⟨H3, o, dx, rfl, z1.trans z2, no, upd_same, fun H4 D s4 nD hL => ⟨rfl, ?_⟩⟩
        have LD : L ≠ D := ne_of_none eL3 nD
        have eL4 := s4 _ _ eL3
        have hE4 := hE.kp (.same s4)
        obtain ⟨kvs, eD, _⟩ := hL.d
        have take1 : ∀ {i : Nat} {e : En}, es[i]? = some e → es.take (i + 1) = es.take i ++ [e] := fun he => by
          rw [List.take_add_one, he]
          rfl
        have nDH : H D = none := nf_of s3 nD
        refine ⟨_, rfl, L, rfl, ⟨_, SqL.of eL4⟩, ?_⟩
        refine for_list (K := K) (a := L) (xs := vs) (fun i σ' H' => ∃ y3 : Option V, σ' = [some (.str z), some (.ref L), y2, y3, some (.ref o)] ∧ KpD D H4 H' ∧ LogAt C H' o D (es.take i) ∧ ((es.take i).map (·.m)).Nodup) ⟨_, rfl, fun b x e _ => e, by simpa using hL, by simp⟩ ?_ ?_ ?_
        · rintro i σ' H5 _ ⟨y3, rfl, k5, _⟩
          exact SqL.of (k5 _ _ eL4 LD)
        · rintro i x σ' H5 hx ⟨y3, rfl, k5, hL5, nd5⟩
          obtain ⟨r, e, rfl, he, hi⟩ := (hE4.kp (k5.tup eD)).at hx
          have ll : (es.take i).length ≤ i := by rw [List.length_take]; omega
          have lt := (List.getElem?_eq_some_iff.mp hi).1
          have sH5 : Same H H5 := fun b x e => k5 _ _ (s4 _ _ (s3 _ _ e)) (ne_of_none e nDH)
          obtain ⟨dx5, eo5⟩ := hL5.o
          refine ⟨_, rfl, o, dx5, _, rfl, eo5, rfl, _, rfl, o, r, D, es.take i, e, rfl, hL5, he, by omega, fun hn H6 k6 hL6 => ?_, fun hn => k2 i e hi nd5 hn H5 sH5⟩
          refine ⟨_, rfl, k5.trans k6, by rw [take1 hi]; exact hL6, ?_⟩
          rw [take1 hi, List.map_append, List.nodup_append]
          exact ⟨nd5, by simp, fun a ha b hb => by
            rw [List.map_cons, List.map_nil, List.mem_singleton] at hb
            rw [hb]
            intro z
            rw [z] at ha
            exact hn ha⟩
        · rintro σ' H5 ⟨y3, rfl, k5, hL5, nd5⟩
          rw [lv, List.take_length] at hL5 nd5
          exact ⟨_, rfl, k1 nd5 o D H5 (fun b x e => k5 _ _ (s4 _ _ (s3 _ _ e)) (ne_of_none e nDH)) nDH hL5⟩
end
end Lf
namespace Lf
open PySem PySem.Spec PyProof.Rows L2 TL
/-! ### tuples of the very same items -/
def rNeT (K : PySem.W.Frag) : R2 := fun x y H Q => ∃ a b xs, x = .ref a ∧ y = .ref b ∧ SqT K H a xs ∧ SqT K H b xs ∧ SmI xs ∧ Q (.bl false) H
theorem op_neT {X : Cx} (hu : X.A.units + 64 < cLine) : OpR X (compareOp .NotEq) (rNeT X.K) := by
  intro pins s σ H x y v u Q I rx ry h
  obtain ⟨a, b, xs, rfl, rfl, ha, hb, hs, q⟩ := h
  cases rx
  cases ry
  obtain ⟨us, r1, p1, _⟩ := I.tuple ha
  obtain ⟨ws, r2, p2, _⟩ := I.tuple hb
  have l1 := r1.length
  have l2 := r2.length
  have t1 : s.heap.IsTuple a us.toArray := by
    obtain ⟨o, ho, hc, n, hd⟩ := p1
    exact ⟨o, ho, hc, n, hd⟩
  have t2 : s.heap.IsTuple b ws.toArray := by
    obtain ⟨o, ho, hc, n, hd⟩ := p2
    exact ⟨o, ho, hc, n, hd⟩
  have R := SeqAt.RcNeAt.tuples (e := fun _ => true) t1 t2 (show X.A.units < cLine by omega) (fun j h1 h2 => by
    have := smI_at (A := X.A.in1) (s := s) hs r1 r2 j (by simpa using h1) (by simpa using h2)
    simpa using this)
  have e : (!((List.range (min us.toArray.size ws.toArray.size)).all (fun _ => true) && us.toArray.size == ws.toArray.size)) = false := by
    rw [show ((List.range (min us.toArray.size ws.toArray.size)).all fun _ => true) = true from List.all_eq_true.mpr fun _ _ => rfl, Bool.true_and]
    have : us.toArray.size = ws.toArray.size := by
      rw [List.size_toArray, List.size_toArray]
      omega
    rw [this]
    simp
  rw [e] at R
  exact R _ _ _ _ ⟨.bl false, H, I, rfl, q⟩
/-! ### words hold no space -/
theorem spl_free : ∀ (l acc : List Nat), 32 ∉ acc → ∀ p ∈ spl [32] 0 acc l, 32 ∉ p
  | [], acc, ha, p, h => by
    rw [spl_nil, List.mem_singleton] at h
    rw [h]
    exact ha
  | x :: r, acc, ha, p, h => by
    by_cases hx : pre [32] (x :: r) = true
    · rw [spl_hit hx] at h
      rcases List.mem_cons.mp h with rfl | h
      · exact ha
      · exact spl_free r [] (by simp) p h
    · have nx : x ≠ 32 := fun e => hx (by rw [e]; rfl)
      rw [spl_miss (by simpa using hx)] at h
      refine spl_free r (acc ++ [x]) (fun m => ?_) p h
      rcases List.mem_append.mp m with m | m
      · exact ha m
      · exact nx (List.mem_singleton.mp m).symm
theorem spl_ne : ∀ (l acc : List Nat), spl [32] 0 acc l ≠ []
  | [], acc => by
    rw [spl_nil]
    simp
  | x :: r, acc => by
    by_cases hx : pre [32] (x :: r) = true
    · rw [spl_hit hx]
      simp
    · rw [spl_miss (by simpa using hx)]
      exact spl_ne r _
theorem splS_free {z w : Str} (h : w ∈ splS z) : 32 ∉ tl w := by
  have m : tl w ∈ (splS z).map tl := List.mem_map.mpr ⟨w, h, rfl⟩
  rw [tl_splS] at m
  exact spl_free (tl z) [] (by simp) (tl w) m
theorem splS_ne (z : Str) : splS z ≠ [] := fun h => by
  have := tl_splS z
  rw [h] at this
  exact spl_ne _ _ this.symm
/-- two words without a space are told apart in their joined text -/
theorem two_words {a b c d : List Nat} (ha : 32 ∉ a) (hc : 32 ∉ c) (h : a ++ [32] ++ b = c ++ [32] ++ d) : a = c ∧ b = d := by
  induction a generalizing c with
  | nil =>
    cases c with
    | nil => exact ⟨rfl, (List.cons.inj h).2⟩
    | cons y r =>
      have := (List.cons.inj h).1
      exact absurd (by rw [← this]; exact List.mem_cons_self) hc
  | cons x a ih =>
    cases c with
    | nil =>
      have := (List.cons.inj h).1
      exact absurd (by rw [this]; exact List.mem_cons_self) ha
    | cons y c =>
      obtain ⟨e1, e2⟩ := List.cons.inj h
      obtain ⟨e3, e4⟩ := ih (fun m => ha (List.mem_cons_of_mem _ m)) (fun m => hc (List.mem_cons_of_mem _ m)) e2
      exact ⟨by rw [e1, e3], e4⟩
/-- a record that five words write -/
def recIn (ws : List Str) : Option (Bool × Int × Int) :=
  if ws.length = 5 ∧ ws.getD 0 Str.empty = Str.ofString "at" ∧ (ws.getD 1 Str.empty = w2 true ∨ ws.getD 1 Str.empty = w2 false) ∧ ws.getD 3 Str.empty = Str.ofString "at" then
    match readI (tl (ws.getD 2 Str.empty)), readI (tl (ws.getD 4 Str.empty)) with
    | some n, some t => some (decide (ws.getD 1 Str.empty = w2 true), t, n)
    | _, _ => none
  else none
theorem w2_ne : w2 true ≠ w2 false := by decide +kernel
theorem rec_in {ws : List Str} (hf : ∀ w ∈ ws, 32 ∉ tl w) : match recIn ws with
    | some (b, t, n) => recW ws = true ∧ recV ws = [.str (wd b), .int t, .int n]
    | none => recW ws = false := by
  have key : ∀ b : Bool, ws.getD 0 Str.empty = Str.ofString "at" → ws.getD 1 Str.empty = w2 b → ws.getD 0 Str.empty ++ Str.ofString " " ++ ws.getD 1 Str.empty = wd b := fun b h0 h1 => by
    rw [h0, h1]
    exact ext_tl (by cases b <;> decide +kernel)
  by_cases c : ws.length = 5 ∧ ws.getD 0 Str.empty = Str.ofString "at" ∧ (ws.getD 1 Str.empty = w2 true ∨ ws.getD 1 Str.empty = w2 false) ∧ ws.getD 3 Str.empty = Str.ofString "at"
  · obtain ⟨l5, h0, h1, h3⟩ := id c
    obtain ⟨b, hb⟩ : ∃ b, ws.getD 1 Str.empty = w2 b := h1.elim (fun h => ⟨true, h⟩) (fun h => ⟨false, h⟩)
    have db : decide (ws.getD 1 Str.empty = w2 true) = b := by
      rw [hb]
      cases b
      · exact decide_eq_false (fun z => w2_ne z.symm)
      · exact decide_eq_true rfl
    have kb := key b h0 hb
    have wb : words.any (fun z => PyData.eqv z (.str (wd b))) = true := by cases b <;> decide +kernel
    unfold recIn
    rw [if_pos c, db]
    have rw' : recW ws = (isI (oPs (readI (tl (ws.getD 4 Str.empty)))) && isI (oPs (readI (tl (ws.getD 2 Str.empty))))) := by
      unfold recW recP
      rw [decide_eq_true l5, decide_eq_true h3, kb, Bool.true_and, Bool.true_and]
      show (words.any (fun z => PyData.eqv z (.str (wd b))) && _) = _
      rw [wb, Bool.true_and]
    cases e2 : readI (tl (ws.getD 2 Str.empty)) with
    | none =>
      rw [e2] at rw'
      rw [rw']
      cases readI (tl (ws.getD 4 Str.empty)) <;> rfl
    | some n =>
      cases e4 : readI (tl (ws.getD 4 Str.empty)) with
      | none =>
        rw [e2, e4] at rw'
        rw [rw']
        rfl
      | some t =>
        rw [e2, e4] at rw'
        refine ⟨rw', ?_⟩
        unfold recV
        rw [kb, e2, e4]
        rfl
  · unfold recIn
    rw [if_neg c]
    show recW ws = false
    unfold recW
    by_cases l5 : ws.length = 5
    · by_cases h3 : ws.getD 3 Str.empty = Str.ofString "at"
      · rw [decide_eq_true l5, decide_eq_true h3, Bool.true_and, Bool.true_and]
        show (words.any (fun z => PyData.eqv z (.str (ws.getD 0 Str.empty ++ Str.ofString " " ++ ws.getD 1 Str.empty))) && _) = false
        have nw : words.any (fun z => PyData.eqv z (.str (ws.getD 0 Str.empty ++ Str.ofString " " ++ ws.getD 1 Str.empty))) = false := by
          have ne : ∀ b : Bool, ws.getD 0 Str.empty ++ Str.ofString " " ++ ws.getD 1 Str.empty ≠ wd b := fun b e => by
            have e := congrArg tl e
            rw [tl_append, tl_append, tl_sp, show tl (wd b) = tl (Str.ofString "at") ++ [32] ++ tl (w2 b) by cases b <;> decide +kernel] at e
            have f0 : 32 ∉ tl (ws.getD 0 Str.empty) := by
              match ws, l5 with
              | [w0, w1, w2, w3, w4], _ => exact hf w0 List.mem_cons_self
            obtain ⟨g0, g1⟩ := two_words f0 (by decide +kernel) e
            refine c ⟨l5, ext_tl g0, ?_, h3⟩
            cases b
            · exact .inr (ext_tl g1)
            · exact .inl (ext_tl g1)
          have n1 := ne true
          have n2 := ne false
          show (PyData.eqv (.str (wd true)) (.str _) || (PyData.eqv (.str (wd false)) (.str _) || false)) = false
          have q : ∀ b : Bool, PyData.eqv (.str (wd b)) (.str (ws.getD 0 Str.empty ++ Str.ofString " " ++ ws.getD 1 Str.empty)) = false := fun b => by
            show (wd b == _) = false
            exact beq_eq_false_iff_ne.mpr (fun z => ne b z.symm)
          rw [q true, q false]
          rfl
        rw [nw, Bool.false_and]
      · rw [decide_eq_false h3, Bool.false_and, Bool.and_false]
    · rw [decide_eq_false l5, Bool.false_and]
section
variable {P : Program} {w : World} {K : PySem.W.Frag} {mg : Str → Option Value} {base : Heap}
/-! ### _law_integer -/
abbrev s_l_integer : Stmt := topS 43
abbrev N_l_integer : List Str := ["_law_word", "_law_digits", "_law_sign"]
abbrev P_l_integer : List Str := ["_law_word"]
theorem sc_l_integer : FnScope N_l_integer P_l_integer (defScope s_l_integer) := ⟨rfl, rfl, rfl, by decide +kernel, rfl, by decide +kernel, by decide +kernel⟩
theorem ok_l_integer (D : Df K mg "_law_integer" s_l_integer P_l_integer) (B : Bi mg) : C8.Cal P w K mg base 1 "_law_integer" spReadI [] := by
  refine cal_of D sc_l_integer (fun vs H Q E h => ?_) (fun f cdv A outer s H vs Q E hr h => ?_)
  · obtain ⟨z, rfl, _⟩ := h
    rfl
  · obtain ⟨z, rfl, hz, kk⟩ := h
    refine ⟨_, (C8.pss_cut (ps_set (i := 1) sc_l_integer.nd rfl (Or.inl rfl) (pe_ifExp (pt_cmpR op_eq (pe_slice sl_str (pv 0) po_none (po_some pe_int)) pe_str (nomark _)) (pe_slice sl_str (pv 0) (po_some pe_int) po_none) (pv 0)))
    (pss_cons (ps_if (PW.pt (pw_or (pt_cmpR op_eq (pv 1) pe_str (nomark _)) (pw_or (pt_cmpR op_gt (pe_callB (call_len_str) (by rfl) B.len_ bt_len (pa_cons (pv 1) pa_nil)) pe_int (nomark _)) (pw_or1 (pt_cmpR (op_neS hr.units) (pe_lc (own := [("_law_sign", 2)]) (g := (gName 2)) (by rfl) sc_l_integer.nd (pi_str (pv 1)) (blkOk_by (own := [("_law_sign", 2)]) (N := N_l_integer) (sc := defScope s_l_integer) (by decide +kernel)) (fun _ _ _ _ _ => (pg_name (i := 2) sc_l_integer.nd rfl (Or.inl rfl))) (fun _ _ _ _ _ => (pts_one (pt_cmpR op_notIn_sign (pv 2) pe_str rfl))) (fun _ _ _ _ _ => (pv 2))) (pe_lst pa_nil) (nomark _))))))
      (pss_one (ps_ret pe_non))
      pss_nil)
    (pss_one (ps_ret (pe_ifExp (PW.pt (pw_and (pt_cmpR op_eq (pe_ix ix_str (pv 1) pe_int (fun _ _ => rfl)) pe_str (nomark _)) (pw_and1 (pt_cmpR op_ne (pv 0) pe_str (nomark _))))) pe_non (pe_callTy (call_int_str) (by rfl) B.int_ bt_int (pa_cons (pv 0) pa_nil))))))), ?_⟩
    have hzl : z.length = (tl z).length := len_tl z
    have hz2 : z.length ≤ sizeLine := by
      rw [sizeLine_eq]
      omega
    have tk : tl (cutS z none (some 1)) = (tl z).take 1 := by
      show ((((tl z).drop (HT.sIx z.length 0 none)).take (HT.sIx z.length z.length (some 1) - HT.sIx z.length 0 none)).toArray).toList = _
      rw [HT.sIx_none, show HT.sIx z.length z.length (some 1) = min 1 z.length from HT.sIx_nat _ _ 1, List.toList_toArray, List.drop_zero, Nat.sub_zero]
      by_cases c : 1 ≤ z.length
      · rw [Nat.min_eq_left c]
      · rw [Nat.min_eq_right (by omega), List.take_of_length_le (by omega), List.take_of_length_le (by omega)]
    have e45 : (cutS z none (some 1) = Str.ofString "-") ↔ (tl z).head? = some 45 := by
      have e0 : tl (Str.ofString "-") = [45] := by decide +kernel
      constructor
      · intro h
        have := congrArg tl h
        rw [tk, e0] at this
        cases q : tl z with
        | nil =>
          rw [q] at this
          cases this
        | cons x r =>
          rw [q] at this
          cases this
          rfl
      · intro h
        apply ext_tl
        rw [tk, e0]
        cases q : tl z with
        | nil =>
          rw [q] at h
          cases h
        | cons x r =>
          rw [q] at h
          cases h
          rfl
    refine ⟨fun σ' H' => ∃ y : Str, σ' = [some (.str z), some (.str y), none] ∧ tl y = digsOf (tl z) ∧ H' = H, ?_, ?_⟩
    · refine ⟨_, rfl, 1, rfl, z, rfl, hz2, rfl, _, rfl, ?_⟩
      by_cases c : (tl z).head? = some 45
      · refine iteD (by rw [e45.mpr c]) ⟨_, rfl, 1, rfl, z, rfl, hz2, _, rfl, ?_, rfl⟩
        show ((((tl z).drop (HT.sIx z.length 0 (some 1))).take (HT.sIx z.length z.length none - HT.sIx z.length 0 (some 1))).toArray).toList = _
        have p1 : 1 ≤ z.length := by
          cases q : tl z with
          | nil =>
            rw [q] at c
            cases c
          | cons a r =>
            rw [hzl, q]
            exact Nat.succ_le_succ (Nat.zero_le _)
        rw [HT.sIx_none, show HT.sIx z.length 0 (some 1) = min 1 z.length from HT.sIx_nat _ _ 1, Nat.min_eq_left p1, List.toList_toArray, List.take_of_length_le (by rw [List.length_drop]; omega)]
        unfold digsOf
        rw [if_pos c, List.drop_one]
      · refine iteDn (fun q => c (e45.mp (V.str.inj q))) ⟨_, rfl, z, rfl, ?_, rfl⟩
        unfold digsOf
        rw [if_neg c]
    rintro σ' H1 ⟨y, rfl, hy, rfl⟩
    have hyl : y.length = (digsOf (tl z)).length := by rw [len_tl, hy]
    have ly : y.length ≤ z.length := by
      rw [hyl, hzl]
      unfold digsOf
      split
      · rw [List.length_tail]
        omega
      · exact Nat.le_refl _
    have hyd : y.cps.toList.length = y.length := by
      rw [Array.length_toList]
      rfl
    have hzd : y.cps.size = y.length := rfl
    have no : ¬ ReadOk (tl z) → ∀ H', Same H1 H' → Q .non H' := fun h H' s' => by
      have := kk H' s'
      unfold readI at this
      rw [if_neg h] at this
      exact this
    refine ⟨_, rfl, rfl, _, rfl, ?_⟩
    by_cases h1 : 1 ≤ (digsOf (tl z)).length
    · refine iteFs (decide_eq_false fun q => ?_) ?_
      · have := V.str.inj q
        rw [this] at hyl
        have e0 : (Str.ofString "").length = 0 := rfl
        omega
      refine ⟨_, rfl, y, rfl, by rw [sizeLine_eq]; omega, _, _, rfl, rfl, _, rfl, ?_⟩
      by_cases h2 : (digsOf (tl z)).length ≤ 200
      · refine iteDn (show ¬ (200 : Int) < ((y.length : Nat) : Int) by omega) ?_
        refine ⟨_, rfl, y, rfl, fun Y nY => ?_⟩
        refine lc_it (walk_str (z := y)) (fun i H' => Same H1 H' ∧ ∃ vs', H' Y = some (.lst vs') ∧ vs'.length ≤ i ∧ (vs' = [] ↔ (y.cps.toList.take i).all isDg = true) ∧ (∀ v ∈ vs', flatB v = true)) ⟨sm_upd nY, [], upd_same, Nat.le_refl _, by simp, fun v hv => (nomatch hv)⟩ (fun _ _ _ _ => trivial) ?_ ?_
        · rintro i x H' H'' hi ⟨s', vs', eY, lv, hv, hf⟩ ⟨rfl, c, hc, rfl⟩
          rw [← Array.getElem?_toList] at hc
          refine ⟨rfl, _, rfl, c, _, rfl, rfl, _, rfl, ?_⟩
          rw [dig_in]
          have tk : (y.cps.toList.take (i + 1)).all isDg = ((y.cps.toList.take i).all isDg && isDg c) := by
            rw [List.take_add_one, hc, List.all_append]
            simp
          cases hd : isDg c with
          | true =>
            refine iteFs rfl ⟨s', vs', eY, by omega, ?_, hf⟩
            rw [tk, hd, Bool.and_true]
            exact hv
          | false =>
            refine iteTs rfl ⟨_, rfl, vs', eY, ltS (by omega), fun b o eb => ?_, vs' ++ [.str ⟨#[c]⟩], upd_same, by rw [List.length_append]; show vs'.length + 1 ≤ i + 1; omega, ?_, fun v hv' => ?_⟩
            · rw [upd_ne (ne_of_none eb nY)]
              exact s' _ _ eb
            · rw [tk, hd, Bool.and_false]
              simp
            · rcases List.mem_append.mp hv' with h | h
              · exact hf v h
              · rw [List.mem_singleton.mp h]
                rfl
        rintro H' ⟨s', vs', eY, lv, hv, hf⟩
        rw [List.take_of_length_le (by rw [hyd, ← hzd]; exact Nat.le_refl _), show y.cps.toList = digsOf (tl z) from hy] at hv
        refine ⟨len10 (by simp), fun Z nZ => ?_⟩
        have zZ := sm_upd (o := .lst []) nZ
        have sZ := s'.trans zZ
        have eYZ := zZ _ _ eY
        have eZ := upd_same (H := H') (a := Z) (o := .lst [])
        generalize upd H' Z (.lst []) = H2 at zZ sZ eYZ eZ ⊢
        cases h3 : (digsOf (tl z)).all isDg with
        | false =>
          have nv : vs' ≠ [] := fun e => by
            have := hv.mp e
            rw [h3] at this
            cases this
          refine ⟨Y, Z, vs', [], rfl, rfl, SqL.of eYZ, SqL.of eZ, .inl ⟨fun e => nv (List.length_eq_zero_iff.mp e), _, rfl, iteTs rfl ?_⟩⟩
          exact no (fun r => by rw [r.2.2.1] at h3; cases h3) H2 sZ
        | true =>
          have ev := hv.mpr h3
          subst ev
          refine ⟨Y, Z, [], [], rfl, rfl, SqL.of eYZ, SqL.of eZ, .inr ⟨rfl, fun v hv => (nomatch hv), _, rfl, iteFs rfl ?_⟩⟩
          have ez : (z = Str.ofString "0") ↔ tl z = [48] := ⟨fun h => by rw [h]; decide +kernel, fun h => ext_tl (by rw [h]; decide +kernel)⟩
          have go : ReadOk (tl z) → ∃ a n, [V.str z] = [V.str a] ∧ intText? a = some n ∧ a.length ≤ 640 ∧ Q (V.int n) H2 := fun ok => by
            have lz : z.length ≤ 201 := by
              have : (tl z).length ≤ (digsOf (tl z)).length + 1 := by
                unfold digsOf
                split
                · rw [List.length_tail]
                  omega
                · omega
              omega
            refine ⟨z, _, rfl, intText_read ok, by omega, ?_⟩
            have := kk H2 sZ
            unfold readI at this
            rw [if_pos ok] at this
            exact this
          obtain ⟨d0, dr, hd0⟩ : ∃ d0 dr, digsOf (tl z) = d0 :: dr := by
            cases q : digsOf (tl z) with
            | nil =>
              rw [q] at h1
              exact absurd h1 (by decide)
            | cons x r => exact ⟨x, r, rfl⟩
          have hy0 : y.cps.toList = d0 :: dr := hy.trans hd0
          refine ⟨_, rfl, y, 0, d0, rfl, rfl, by rw [sizeLine_eq]; omega, atI_nat (j := 0) (by rw [hy0]; rfl), rfl, _, rfl, ?_⟩
          have e48 : ((⟨#[d0]⟩ : Str) = Str.ofString "0") ↔ d0 = 48 := by
            constructor
            · intro h
              have := congrArg tl h
              rw [show tl (Str.ofString "0") = [48] by decide +kernel] at this
              have this : [d0] = [48] := this
              cases this
              rfl
            · intro h
              subst h
              exact ext_tl (by decide +kernel)
          by_cases h4 : (digsOf (tl z)).head? = some 48
          · have hd48 : d0 = 48 := by
              rw [hd0] at h4
              exact Option.some.inj h4
            refine iteD (by rw [e48.mpr hd48]) ⟨_, rfl, rfl, _, rfl, ?_⟩
            by_cases h5 : tl z = [48]
            · refine iteFs (by rw [decide_eq_true (show V.str z = V.str (Str.ofString "0") by rw [ez.mpr h5])]; rfl) ⟨_, rfl, go ⟨h1, h2, h3, fun q => q.2 h5⟩⟩
            · refine iteTs (by rw [decide_eq_false (fun q => h5 (ez.mp (V.str.inj q)))]; rfl) (no (fun r => r.2.2.2 ⟨h4, h5⟩) H2 sZ)
          · have hd48 : d0 ≠ 48 := fun e => h4 (by rw [hd0, e]; rfl)
            exact iteDn (fun q => hd48 (e48.mp (V.str.inj q))) ⟨_, rfl, go ⟨h1, h2, h3, fun q => h4 q.1⟩⟩
      · exact iteD (show (200 : Int) < ((y.length : Nat) : Int) by omega) (no (fun r => h2 r.2.1) H1 (Same.refl _))
    · refine iteTs (decide_eq_true ?_) (no (fun r => h1 r.1) H1 (Same.refl _))
      have : y = Str.ofString "" := ext_tl (by
        rw [hy]
        have : (digsOf (tl z)) = [] := List.length_eq_zero_iff.mp (by omega)
        rw [this]
        rfl)
      rw [this]
end
end Lf
namespace Lf
open PySem PySem.Spec PyProof.Rows L2 TL
/-! ### plain lines -/
structure Lin (n : Nat) (z : Str) : Prop where
  len : z.length ≤ n
  asc : ∀ c ∈ tl z, c < 128
theorem Lin.mono {n m : Nat} {z : Str} (h : Lin n z) (e : n ≤ m) : Lin m z := ⟨Nat.le_trans h.len e, h.asc⟩
theorem Lin.app {n m : Nat} {a b : Str} (ha : Lin n a) (hb : Lin m b) : Lin (n + m) (a ++ b) := by
  have h1 := ha.len
  have h2 := hb.len
  rw [len_tl] at h1 h2
  refine ⟨by rw [len_tl, tl_append, List.length_append]; omega, fun c hc => ?_⟩
  rw [tl_append] at hc
  rcases List.mem_append.mp hc with h | h
  · exact ha.asc c h
  · exact hb.asc c h
theorem Lin.cut {n : Nat} {z : Str} (h : Lin n z) (lo hi : Option Int) : Lin n (cutS z lo hi) := by
  refine ⟨Nat.le_trans (cutS_length z lo hi) h.len, fun c hc => h.asc c ?_⟩
  have hc : c ∈ (((tl z).drop (HT.sIx z.length 0 lo)).take (HT.sIx z.length z.length hi - HT.sIx z.length 0 lo)).toArray.toList := hc
  rw [List.toList_toArray] at hc
  exact List.mem_of_mem_drop (List.mem_of_mem_take hc)
theorem Lin.of {n : Nat} {z : Str} (h : (decide (z.length ≤ n) && z.cps.toList.all fun c => decide (c < 128)) = true) : Lin n z := by
  rw [Bool.and_eq_true, List.all_eq_true] at h
  exact ⟨of_decide_eq_true h.1, fun c hc => of_decide_eq_true (h.2 c hc)⟩
theorem Lin.num {n : Int} {k : Nat} (h : (numL n.natAbs).length ≤ k) : Lin (k + 1) (strS n) := by
  refine ⟨by rw [len_tl, tl_strS]; cases n with
    | ofNat n => exact Nat.le_succ_of_le h
    | negSucc n => exact Nat.succ_le_succ h, fun c hc => ?_⟩
  rw [tl_strS] at hc
  cases n with
  | ofNat n =>
    have := numL_digits n c hc
    omega
  | negSucc n =>
    rcases List.mem_cons.mp hc with e | hm
    · omega
    · have := numL_digits (n + 1) c hm
      omega
theorem Lin.ok {n : Nat} {z : Str} (h : Lin n z) : PyData.strOk z = true := strOk_tl.mpr fun c hc => by
  have := h.asc c hc
  omega
theorem Lin.sh {n m : Nat} {z : Str} (h : Lin n z) (e : n ≤ m) : shT m (.str z) := ⟨Nat.le_trans h.len e, h.ok⟩
theorem Lin.up {n : Nat} {z : Str} (h : Lin n z) : Lin (3 * n) (Txt.upper z) := by
  refine ⟨by have := len_upper z; have := h.len; omega, fun c hc => ?_⟩
  rw [upper_ascii (x := z) h.asc] at hc
  have hc : c ∈ (z.cps.map up1).toList := hc
  rw [Array.toList_map] at hc
  obtain ⟨d, hd, rfl⟩ := List.mem_map.mp hc
  have h1 := h.asc d hd
  have : ∀ c, c < 128 → up1 c < 128 := by decide +kernel
  exact this d h1
theorem spl_sum : ∀ (l acc : List Nat), ((spl [32] 0 acc l).map List.length).sum ≤ acc.length + l.length
  | [], acc => by
    rw [spl_nil]
    simp
  | c :: r, acc => by
    by_cases hc : pre [32] (c :: r) = true
    · rw [spl_hit hc, List.map_cons, List.sum_cons]
      have := spl_sum r []
      show acc.length + ((spl [32] 0 [] r).map List.length).sum ≤ _
      rw [List.length_cons]
      simp at this
      omega
    · rw [spl_miss (by simpa using hc)]
      have := spl_sum r (acc ++ [c])
      rw [List.length_append] at this
      rw [List.length_cons]
      simp at this
      omega
theorem splS_sum (z : Str) : ((splS z).map (·.length)).sum ≤ z.length := by
  have := spl_sum (tl z) []
  rw [← tl_splS, List.map_map] at this
  have e : (splS z).map (·.length) = (splS z).map (List.length ∘ tl) := List.map_congr_left fun w _ => len_tl w
  rw [e, len_tl z]
  simpa using this
theorem splS_lin {n : Nat} {z w : Str} (h : Lin n z) (hw : w ∈ splS z) : Lin n w := by
  refine ⟨Nat.le_trans (splS_len hw) h.len, fun c hc => ?_⟩
  have m : tl w ∈ (splS z).map tl := List.mem_map.mpr ⟨w, hw, rfl⟩
  rw [tl_splS] at m
  rcases spl_mem (tl z) [] (tl w) m c hc with h' | h'
  · cases h'
  · exact h.asc c h'
theorem joinL_mem {c : Nat} : ∀ {ps : List (List Nat)}, c ∈ joinL [32] ps → c = 32 ∨ ∃ p ∈ ps, c ∈ p
  | [], h => nomatch h
  | [p], h => .inr ⟨p, List.mem_cons_self, h⟩
  | p :: q :: r, h => by
    have h : c ∈ p ++ ([32] ++ joinL [32] (q :: r)) := h
    rcases List.mem_append.mp h with h | h
    · exact .inr ⟨p, List.mem_cons_self, h⟩
    · rcases List.mem_append.mp h with h | h
      · exact .inl (List.mem_singleton.mp h)
      · rcases joinL_mem (ps := q :: r) h with h | ⟨x, hx, h⟩
        · exact .inl h
        · exact .inr ⟨x, List.mem_cons_of_mem _ hx, h⟩
theorem joinL_len : ∀ ps : List (List Nat), (joinL [32] ps).length ≤ (ps.map List.length).sum + ps.length
  | [] => Nat.le_refl _
  | [p] => by
    show p.length ≤ _
    simp
  | p :: q :: r => by
    have := joinL_len (q :: r)
    show (p ++ ([32] ++ joinL [32] (q :: r))).length ≤ _
    rw [List.length_append, List.length_append, List.map_cons, List.sum_cons, List.length_cons (a := p)]
    simp only [List.length_cons, List.length_nil] at this ⊢
    omega
theorem Lin.join {n s : Nat} {ws : List Str} (h : ∀ w ∈ ws, Lin n w) (hs : (ws.map (·.length)).sum ≤ s) : Lin (s + ws.length) (Txt.join (Str.ofString " ") ws) := by
  have e : (ws.map tl).map List.length = ws.map (·.length) := by
    rw [List.map_map]
    exact List.map_congr_left fun w _ => (len_tl w).symm
  rw [join_eq]
  refine ⟨?_, fun c hc => ?_⟩
  · rw [len_tl, tl_join, tl_sp]
    refine Nat.le_trans (joinL_len _) ?_
    rw [e, List.length_map]
    omega
  · rw [tl_join, tl_sp] at hc
    rcases joinL_mem hc with h' | ⟨p, hp, h'⟩
    · omega
    · obtain ⟨w, hw, rfl⟩ := List.mem_map.mp hp
      exact (h w hw).asc c h'
theorem sum_drop {l : List Nat} (k : Nat) : (l.take k).sum + (l.drop k).sum = l.sum := by
  rw [← List.sum_append, List.take_append_drop]
end Lf
namespace Lf
open PySem PySem.Spec PyProof.Rows L2 TL
/-! ### texts many times over -/
theorem op_mulS {X : Cx} : OpR X (binaryOp .Mult) (fun x y H Q => ∃ (a : Str) (i : Int), x = .str a ∧ y = .int i ∧ a.length ≤ 1 ∧ 0 ≤ i ∧ i ≤ 10000 ∧ Q (.str (Txt.mul a i)) H) := by
  intro pins s σ H x y v u Q I rx ry h
  obtain ⟨a, i, rfl, rfl, h1, h2, h3, q⟩ := h
  obtain ⟨t, rfl⟩ := rx
  obtain ⟨t', rfl⟩ := ry
  exact SB.mul (mulOk_of 1 10000 h1 (by omega) (by omega) (by decide) (by decide)) fun t2 k => ⟨.str _, H, I.tok k, ⟨t2, rfl⟩, q⟩
theorem Lin.nines {i : Int} (h0 : 0 ≤ i) {n : Nat} (h1 : i ≤ (n : Int)) : Lin n (Txt.mul (Str.ofString "9") i) := by
  have e : tl (Txt.mul (Str.ofString "9") i) = List.replicate i.toNat 57 := mul_one_list 57 i
  refine ⟨by rw [len_tl, e, List.length_replicate]; omega, fun c hc => ?_⟩
  rw [e] at hc
  have := (List.mem_replicate.mp hc).2
  omega
def mu3 : L2.St → Hp → Nat := fun σ _ => match σ with
  | _ :: _ :: _ :: some (.int v) :: _ => v.toNat
  | _ => 0
theorem len_apN (a b : Str) : (a ++ b).length = a.length + b.length := by
  rw [len_tl, tl_append, List.length_append, ← len_tl, ← len_tl]
section
variable {P : Program} {w : World} {K : PySem.W.Frag} {mg : Str → Option Value} {base : Heap}
/-! ### _law_rule_in -/
def spRIn : Sp := fun vs H Q _ => ∃ (W : Addr) (ws : List Str), vs = [.ref W] ∧ H W = some (.lst (ws.map V.str)) ∧ ws.length ≤ 40001 ∧ (∀ w ∈ ws, w.length ≤ 40000) ∧ (ruleD (.tuple (numsP ws)) = false → ∀ H', Same H H' → Q .non H') ∧
  (ruleD (.tuple (numsP ws)) = true → ∀ T H', Same H H' → H' T = some (.tup (numsV ws)) → Q (.ref T) H')
theorem nums_flat (ws : List Str) : (numsV ws).all flatV = true := by
  rw [List.all_eq_true]
  intro x hx
  obtain ⟨w, _, rfl⟩ := List.mem_map.mp hx
  cases readI (tl w) <;> rfl
theorem nums_none (ws : List Str) : inV .non (numsV ws) = ws.any fun w => (readI (tl w)).isNone := by
  unfold inV numsV
  rw [List.any_map]
  refine congrArg (fun g => List.any ws g) (funext fun w => ?_)
  show eqV (oVs (readI (tl w))) .non = _
  cases readI (tl w) <;> rfl
/-! ### _law_record_in -/
def spCIn : Sp := fun vs H Q _ => ∃ (W : Addr) (ws : List Str), vs = [.ref W] ∧ H W = some (.lst (ws.map V.str)) ∧ ws.length ≤ 40001 ∧ WsOk 40000 ws ∧ (recIn ws = none → ∀ H', Same H H' → Q .non H') ∧
  (∀ b t n, recIn ws = some (b, t, n) → ∀ T H', Same H H' → H' T = some (.tup [.str (wd b), .int t, .int n]) → Q (.ref T) H')
abbrev s_l_record_in : Stmt := topS 45
abbrev N_l_record_in : List Str := ["_law_words_here", "_law_n", "_law_t"]
abbrev P_l_record_in : List Str := ["_law_words_here"]
theorem sc_l_record_in : FnScope N_l_record_in P_l_record_in (defScope s_l_record_in) := ⟨rfl, rfl, rfl, by decide +kernel, rfl, by decide +kernel, by decide +kernel⟩
theorem ok_l_record_in (D : Df K mg "_law_record_in" s_l_record_in P_l_record_in) (B : Bi mg) (c_l_integer : C8.Cal P w K mg base 1 "_law_integer" spReadI []) : C8.Cal P w K mg base 2 "_law_record_in" spCIn [] := by
  refine cal_of D sc_l_record_in (fun vs H Q E h => ?_) (fun f cdv A outer s H vs Q E hr h => ?_)
  · obtain ⟨W, ws, rfl, _⟩ := h
    rfl
  · obtain ⟨W, ws, rfl, eW, lw, ow, kn, ky⟩ := h
    refine ⟨_, (pss_cons (ps_if (PW.pt (pw_or (pt_cmpR op_ne (pe_callB (call_len_seq) (by rfl) B.len_ bt_len (pa_cons (pv 0) pa_nil)) pe_int (nomark _)) (pw_or (pt_cmpR op_ne (pe_ix (r := rIxL K) ix_list (pv 0) pe_int (fun _ _ => rfl)) pe_str (nomark _)) (pw_or (pt_cmpR op_notIn_seq (pe_ix (r := rIxL K) ix_list (pv 0) pe_int (fun _ _ => rfl)) (pe_tup (pa_cons pe_str (pa_cons pe_str pa_nil))) rfl) (pw_or1 (pt_cmpR op_ne (pe_ix (r := rIxL K) ix_list (pv 0) pe_int (fun _ _ => rfl)) pe_str (nomark _)))))))
      (pss_one (ps_ret pe_non))
      pss_nil)
    (pss_cons (ps_par (i := 1) (j := 2) rfl sc_l_record_in.nd rfl rfl (by decide) rfl rfl (pa_cons (C8.pe_c c_l_integer hr (by decide) (by rfl) (pa_cons (pe_ix (r := rIxL K) ix_list (pv 0) pe_int (fun _ _ => rfl)) pa_nil)) (pa_cons (C8.pe_c c_l_integer hr (by decide) (by rfl) (pa_cons (pe_ix (r := rIxL K) ix_list (pv 0) pe_int (fun _ _ => rfl)) pa_nil)) pa_nil)) rfl)
    (pss_one (ps_ret (pe_ifExp (PW.pt (pw_or (pt_cmpR op_isN (pv 1) pe_non (nomark _)) (pw_or1 (pt_cmpR op_isN (pv 2) pe_non (nomark _))))) pe_non (pe_tup (pa_cons (pe_op op_add_str pe_str (pe_ix (r := rIxL K) ix_list (pv 0) pe_int (fun _ _ => rfl))) (pa_cons (pv 2) (pa_cons (pv 1) pa_nil))))))))), ?_⟩
    have lmap : (ws.map V.str).length = ws.length := List.length_map _
    refine ⟨_, rfl, W, _, rfl, .inl (SqL.of eW), rfl, _, rfl, ?_⟩
    have lw2 : ∀ b : Bool, inV (V.str (w2 b)) [.str "least", .str "most"] = true := fun b => by cases b <;> decide +kernel
    by_cases c5 : ws.length = 5
    · match ws, c5 with
      | [w0, w1, w2', w3, w4], _ =>
        have at_ : ∀ (i : Nat) (u : Str), [w0, w1, w2', w3, w4][i]? = some u → ([w0, w1, w2', w3, w4].map V.str)[i]? = some (.str u) := fun i u h => by
          rw [List.getElem?_map, h]
          rfl
        have o1 := ow w1 (by simp)
        have o2 := ow w2' (by simp)
        have o4 := ow w4 (by simp)
        have no : ¬ (w0 = Str.ofString "at" ∧ (w1 = w2 true ∨ w1 = w2 false) ∧ w3 = Str.ofString "at") → recIn [w0, w1, w2', w3, w4] = none := fun h => by
          unfold recIn
          exact if_neg (fun q => h q.2)
        have yes : w0 = Str.ofString "at" → (w1 = w2 true ∨ w1 = w2 false) → w3 = Str.ofString "at" → recIn [w0, w1, w2', w3, w4] = (match readI (tl w2'), readI (tl w4) with
          | some n, some t => some (decide (w1 = w2 true), t, n)
          | _, _ => none) := fun h0 h1 h3 => by
          unfold recIn
          exact if_pos ⟨rfl, h0, h1, h3⟩
        refine iteFs rfl ⟨_, rfl, W, _, _, _, rfl, rfl, SqL.of eW, atI_nat (j := 0) (at_ 0 _ rfl), rfl, _, rfl, ?_⟩
        by_cases c0 : w0 = Str.ofString "at"
        · refine iteFs (by rw [decide_eq_true (show V.str w0 = V.str (Str.ofString "at") by rw [c0])]; rfl) ?_
          refine ⟨_, rfl, W, _, _, _, rfl, rfl, SqL.of eW, atI_nat (j := 1) (at_ 1 _ rfl), len10 (by simp), fun M nM => ?_⟩
          have zM := sm_upd (o := .tup [.str "least", .str "most"]) nM
          have eW2 := zM _ _ eW
          have eM := upd_same (H := H) (a := M) (o := .tup [.str "least", .str "most"])
          generalize upd H M (.tup [.str "least", .str "most"]) = H1 at zM eW2 eM ⊢
          refine ⟨M, _, rfl, .inr (SqT.of eM), rfl, rfl, _, rfl, ?_⟩
          rw [if_pos rfl]
          by_cases c1 : w1 = w2 true ∨ w1 = w2 false
          · have ci : inV (V.str w1) [.str "least", .str "most"] = true := by
              rcases c1 with h | h
              · rw [h]; exact lw2 true
              · rw [h]; exact lw2 false
            refine iteFs (by rw [ci]; rfl) ⟨_, rfl, W, _, _, _, rfl, rfl, SqL.of eW2, atI_nat (j := 3) (at_ 3 _ rfl), rfl, _, rfl, ?_⟩
            by_cases c3 : w3 = Str.ofString "at"
            · refine iteFs (by rw [decide_eq_true (show V.str w3 = V.str (Str.ofString "at") by rw [c3])]; rfl) ?_
              refine ⟨_, rfl, W, _, _, _, rfl, rfl, SqL.of eW2, atI_nat (j := 2) (at_ 2 _ rfl), w2', rfl, o2.1, fun H2 s2 => ?_⟩
              refine ⟨_, rfl, W, _, _, _, rfl, rfl, SqL.of (s2 _ _ eW2), atI_nat (j := 4) (at_ 4 _ rfl), w4, rfl, o4.1, fun H3 s3 => ⟨_, _, rfl, ?_⟩⟩
              have sz := zM.trans (s2.trans s3)
              have ey := yes c0 c1 c3
              have eW3 := s3 _ _ (s2 _ _ eW2)
              obtain ⟨b, hb⟩ : ∃ b, w1 = w2 b := c1.elim (fun h => ⟨true, h⟩) (fun h => ⟨false, h⟩)
              have db : decide (w1 = w2 true) = b := by
                rw [hb]
                cases b
                · exact decide_eq_false (fun z => w2_ne z.symm)
                · exact decide_eq_true rfl
              have ew : Str.ofString "at " ++ w1 = wd b := by
                rw [hb]
                exact ext_tl (by cases b <;> decide +kernel)
              cases e2 : readI (tl w2') with
              | none =>
                rw [e2] at ey
                exact ⟨_, rfl, rfl, _, rfl, iteD rfl (kn ey H3 sz)⟩
              | some n =>
                refine ⟨_, rfl, rfl, _, rfl, iteDn (fun z => by cases z) ⟨_, rfl, rfl, _, rfl, ?_⟩⟩
                cases e4 : readI (tl w4) with
                | none =>
                  rw [e2, e4] at ey
                  exact iteD rfl (kn ey H3 sz)
                | some t =>
                  rw [e2, e4, db] at ey
                  refine iteDn (fun z => by cases z) ⟨_, rfl, W, _, _, _, rfl, rfl, SqL.of eW3, atI_nat (j := 1) (at_ 1 _ rfl), _, _, rfl, rfl, ?_, _, rfl, _, rfl, len10 (by simp), fun T nT => ?_⟩
                  · have := o1.1
                    have e3 : (Str.ofString "at ").length = 3 := by decide +kernel
                    rw [e3, sizeLine_eq]
                    omega
                  · refine ky b t n ey T _ (sz.trans (sm_upd nT)) ?_
                    rw [upd_same, ew]
                    rfl
            · refine iteTs (by rw [decide_eq_false (fun z => c3 (V.str.inj z))]; rfl) (kn (no fun h => c3 h.2.2) _ zM)
          · have ci : inV (V.str w1) [.str "least", .str "most"] = false := by
              have n1 : (Str.ofString "least" == w1) = false := beq_eq_false_iff_ne.mpr fun z => c1 (.inl z.symm)
              have n2 : (Str.ofString "most" == w1) = false := beq_eq_false_iff_ne.mpr fun z => c1 (.inr z.symm)
              show ((Str.ofString "least" == w1) || ((Str.ofString "most" == w1) || false)) = false
              rw [n1, n2]
              rfl
            exact iteTs (by rw [ci]; rfl) (kn (no fun h => c1 h.2.1) _ zM)
        · refine iteTs (by rw [decide_eq_false (fun z => c0 (V.str.inj z))]; rfl) (kn (no fun h => c0 h.1) _ (Same.refl _))
    · have n5 : (!decide (V.int ((ws.map V.str).length : Int) = V.int 5)) = true := by
        rw [decide_eq_false (fun z => c5 (by have := V.int.inj z; omega))]
        rfl
      refine iteTs n5 (kn ?_ _ (Same.refl _))
      unfold recIn
      exact if_neg (fun h => c5 h.1)
end
end Lf
namespace Lf
open PySem PySem.Spec PyProof.Rows L2 TL
/-! ### the law's own reading of an entry is the program's -/
def entIn (ws : List Str) : Option En := match readI (tl (ws.getD 0 Str.empty)) with
  | some m => if 4 ≤ ws.length ∧ 0 ≤ m ∧ witB (.str (ws.getD 1 Str.empty)) = true then
      (if ws.drop 2 = [Str.ofString "is", Str.ofString "distrusted"] then some ⟨m, ws.getD 1 Str.empty, .tr false⟩
       else if ws.drop 2 = [Str.ofString "is", Str.ofString "trusted"] then some ⟨m, ws.getD 1 Str.empty, .tr true⟩
       else if ws.getD 2 Str.empty = Str.ofString "reports" then (recIn (ws.drop 3)).map fun x => ⟨m, ws.getD 1 Str.empty, .rd ⟨x.1, x.2.1, x.2.2⟩⟩ else none)
      else none
  | none => none
theorem recOf_in {ws : List Str} (hf : ∀ w ∈ ws, 32 ∉ tl w) : recOf ws = (recIn ws).map fun x => ⟨x.1, x.2.1, x.2.2⟩ := by
  have h := rec_in hf
  cases hi : recIn ws with
  | none =>
    rw [hi] at h
    exact recOf_no h
  | some x =>
    obtain ⟨b, t, n⟩ := x
    rw [hi] at h
    obtain ⟨h1, h2⟩ := h
    obtain ⟨y, e1, e2⟩ := recOf_V h1
    rw [e1]
    rw [h2] at e2
    obtain ⟨l1, t1, n1⟩ := y
    simp only [List.cons.injEq, V.str.injEq, V.int.injEq, and_true] at e2
    obtain ⟨e2, rfl, rfl⟩ := e2
    rw [wd_inj e2]
    rfl
theorem drop2_get {ws : List Str} {a : Str} {r : List Str} (h : ws.drop 2 = a :: r) : ws.getD 2 Str.empty = a := by
  have := congrArg (fun l => l[0]?) h
  simp only [List.getElem?_drop] at this
  rw [List.getD_eq_getElem?_getD]
  have e : ws[2]? = some a := by simpa using this
  rw [e]
  rfl
theorem ent_in {ws : List Str} (hf : ∀ w ∈ ws, 32 ∉ tl w) : readE ws = entIn ws := by
  have hf3 : ∀ w ∈ ws.drop 3, 32 ∉ tl w := fun w hw => hf w (List.mem_of_mem_drop hw)
  have hr := recOf_in hf3
  unfold readE entIn momZ
  cases hm : readI (tl (ws.getD 0 Str.empty)) with
  | none => rfl
  | some m =>
    show (match (if 0 ≤ m then some m else none) with | some m => _ | none => none) = _
    by_cases h0 : 0 ≤ m
    · rw [if_pos h0]
      show (if 4 ≤ ws.length ∧ witB (.str (ws.getD 1 Str.empty)) = true then (whatE ws).map fun x => (⟨m, ws.getD 1 Str.empty, x⟩ : En) else none) = _
      by_cases c : 4 ≤ ws.length ∧ witB (.str (ws.getD 1 Str.empty)) = true
      · rw [if_pos c]
        show _ = (if 4 ≤ ws.length ∧ 0 ≤ m ∧ witB (.str (ws.getD 1 Str.empty)) = true then _ else none)
        rw [if_pos ⟨c.1, h0, c.2⟩]
        unfold whatE
        by_cases c1 : ws.drop 2 = [Str.ofString "is", Str.ofString "distrusted"]
        · rw [if_pos c1, if_neg, if_neg, if_pos c1]
          · rfl
          · rw [c1]
            decide +kernel
          · rw [drop2_get c1]
            decide +kernel
        · rw [if_neg c1]
          by_cases c2 : ws.drop 2 = [Str.ofString "is", Str.ofString "trusted"]
          · rw [if_pos c2, if_neg (show ¬ ws.getD 2 Str.empty = Str.ofString "reports" by rw [drop2_get c2]; decide +kernel), if_pos c2, if_neg c1]
            rfl
          · rw [if_neg c2, if_neg c2, if_neg c1]
            by_cases c3 : ws.getD 2 Str.empty = Str.ofString "reports"
            · rw [if_pos c3, if_pos c3, hr]
              cases recIn (ws.drop 3) <;> rfl
            · rw [if_neg c3, if_neg c3]
              rfl
      · rw [if_neg c]
        show _ = (if 4 ≤ ws.length ∧ 0 ≤ m ∧ witB (.str (ws.getD 1 Str.empty)) = true then _ else none)
        rw [if_neg fun q => c ⟨q.1, q.2.2⟩]
    · rw [if_neg h0]
      show _ = (if 4 ≤ ws.length ∧ 0 ≤ m ∧ witB (.str (ws.getD 1 Str.empty)) = true then _ else none)
      rw [if_neg fun q => h0 q.2.1]
def entTail (ws : List Str) (m : Int) : Option En :=
  if ws.drop 2 = [Str.ofString "is", Str.ofString "distrusted"] then some ⟨m, ws.getD 1 Str.empty, .tr false⟩
  else if ws.drop 2 = [Str.ofString "is", Str.ofString "trusted"] then some ⟨m, ws.getD 1 Str.empty, .tr true⟩
  else if ws.getD 2 Str.empty = Str.ofString "reports" then (recIn (ws.drop 3)).map fun x => ⟨m, ws.getD 1 Str.empty, .rd ⟨x.1, x.2.1, x.2.2⟩⟩ else none
theorem entIn_some {ws : List Str} {m : Int} (hm : readI (tl (ws.getD 0 Str.empty)) = some m) : entIn ws = if 4 ≤ ws.length ∧ 0 ≤ m ∧ witB (.str (ws.getD 1 Str.empty)) = true then entTail ws m else none := by
  unfold entIn
  rw [hm]
  rfl
theorem entIn_mom {ws : List Str} (hm : readI (tl (ws.getD 0 Str.empty)) = none) : entIn ws = none := by
  unfold entIn
  rw [hm]
theorem entIn_short {ws : List Str} (h : ¬ 4 ≤ ws.length) : entIn ws = none := by
  cases hm : readI (tl (ws.getD 0 Str.empty)) with
  | none => exact entIn_mom hm
  | some m => rw [entIn_some hm, if_neg fun q => h q.1]
section
variable {P : Program} {w : World} {K : PySem.W.Frag} {mg : Str → Option Value} {base : Heap} {C CP CD : Addr}
/-! ### _law_is_word -/
def spIsWd : Sp := fun vs H Q _ => ∃ z : Str, vs = [.str z] ∧ z.length ≤ 40000 ∧ ∀ H', Same H H' → Q (.bl (witB (.str z))) H'
abbrev s_l_is_word : Stmt := topS 44
abbrev N_l_is_word : List Str := ["_law_word", "_law_letters", "_law_one"]
abbrev P_l_is_word : List Str := ["_law_word"]
theorem sc_l_is_word : FnScope N_l_is_word P_l_is_word (defScope s_l_is_word) := ⟨rfl, rfl, rfl, by decide +kernel, rfl, by decide +kernel, by decide +kernel⟩
theorem ok_l_is_word (D : Df K mg "_law_is_word" s_l_is_word P_l_is_word) (B : Bi mg) : C8.Cal P w K mg base 1 "_law_is_word" spIsWd [] := by
  refine cal_of D sc_l_is_word (fun vs H Q E h => ?_) (fun f cdv A outer s H vs Q E hr h => ?_)
  · obtain ⟨z, rfl, _⟩ := h
    rfl
  · obtain ⟨z, rfl, lz, kk⟩ := h
    refine ⟨_, (pss_cons (ps_set (i := 1) sc_l_is_word.nd rfl (Or.inr rfl) pe_str)
    (pss_one (ps_ret (pe_and (pe_chain op_lt op_lt pe_int (pe_callB (call_len_str) (by rfl) B.len_ bt_len (pa_cons (pv 0) pa_nil)) pe_int) (pe_one (pe_cmpR (op_eqS hr.units) (pe_lc (own := [("_law_one", 2)]) (g := (gName 2)) (by rfl) sc_l_is_word.nd (pi_str (pv 0)) (blkOk_by (own := [("_law_one", 2)]) (N := N_l_is_word) (sc := defScope s_l_is_word) (by decide +kernel)) (fun _ _ _ _ _ => (pg_name (i := 2) sc_l_is_word.nd rfl (Or.inl rfl))) (fun _ _ _ _ _ => (pts_one (pt_cmpR op_notIn_sign (pv 2) (pv 1) rfl))) (fun _ _ _ _ _ => (pv 2))) (pe_lst pa_nil) (nomark _))))))), ?_⟩
    have hzl : z.cps.toList.length = z.length := by
      rw [Array.length_toList]
      rfl
    have hz2 : z.cps.size = z.length := rfl
    refine ⟨_, rfl, z, rfl, by rw [sizeLine_eq]; omega, _, _, rfl, rfl, _, rfl, ?_⟩
    have wb : witB (.str z) = (decide (1 ≤ z.length) && decide (z.length ≤ 12) && z.cps.toList.all ltrB) := rfl
    by_cases h1 : 1 ≤ z.length
    · refine iteD (by omega) ⟨_, _, rfl, rfl, _, rfl, ?_⟩
      by_cases h2 : z.length ≤ 12
      · refine iteD (by omega) ?_
        rw [wb, decide_eq_true h1, decide_eq_true h2, Bool.true_and, Bool.true_and] at kk
        refine ⟨_, rfl, z, rfl, fun Y nY => ?_⟩
        refine lc_it (walk_str (z := z)) (fun i H' => Same H H' ∧ ∃ vs', H' Y = some (.lst vs') ∧ vs'.length ≤ i ∧ (vs' = [] ↔ (z.cps.toList.take i).all ltrB = true)) ⟨sm_upd nY, [], upd_same, Nat.le_refl _, by simp⟩ (fun _ _ _ _ => trivial) ?_ ?_
        · rintro i x H' H'' hi ⟨s', vs', eY, lv, hv⟩ ⟨rfl, c, hc, rfl⟩
          rw [← Array.getElem?_toList] at hc
          refine ⟨rfl, _, rfl, _, rfl, c, _, rfl, rfl, _, rfl, ?_⟩
          have tk : (z.cps.toList.take (i + 1)).all ltrB = ((z.cps.toList.take i).all ltrB && ltrB c) := by
            rw [List.take_add_one, hc, List.all_append]
            simp
          show if (!ltrB c) = true then _ else _
          cases hd : ltrB c with
          | true =>
            refine iteFs rfl ⟨s', vs', eY, by omega, ?_⟩
            rw [tk, hd, Bool.and_true]
            exact hv
          | false =>
            refine iteTs rfl ⟨_, rfl, vs', eY, ltS (by omega), fun b o eb => ?_, vs' ++ [.str ⟨#[c]⟩], upd_same, by rw [List.length_append]; show vs'.length + 1 ≤ i + 1; omega, ?_⟩
            · rw [upd_ne (ne_of_none eb nY)]
              exact s' _ _ eb
            · rw [tk, hd, Bool.and_false]
              simp
        rintro H' ⟨s', vs', eY, lv, hv⟩
        rw [List.take_of_length_le (by rw [hzl]; exact Nat.le_refl _)] at hv
        refine ⟨len10 (by simp), fun Z nZ => ?_⟩
        have zZ := sm_upd (o := .lst []) nZ
        cases h3 : z.cps.toList.all ltrB with
        | false =>
          have nv : vs' ≠ [] := fun e => by
            have := hv.mp e
            rw [h3] at this
            cases this
          rw [h3] at kk
          exact ⟨Y, Z, vs', [], rfl, rfl, SqL.of (zZ _ _ eY), SqL.of upd_same, .inl ⟨fun e => nv (List.length_eq_zero_iff.mp e), kk _ (s'.trans zZ)⟩⟩
        | true =>
          have ev := hv.mpr h3
          subst ev
          rw [h3] at kk
          exact ⟨Y, Z, [], [], rfl, rfl, SqL.of (zZ _ _ eY), SqL.of upd_same, .inr ⟨rfl, fun v hv => (nomatch hv), kk _ (s'.trans zZ)⟩⟩
      · rw [wb, decide_eq_false h2, Bool.and_false, Bool.false_and] at kk
        exact iteDn (by omega) (kk _ (Same.refl _))
    · rw [wb, decide_eq_false h1, Bool.false_and, Bool.false_and] at kk
      exact iteDn (by omega) ⟨_, rfl, iteFs rfl (kk _ (Same.refl _))⟩
def spEIn : Sp := fun vs H Q _ => ∃ (W : Addr) (ws : List Str), vs = [.ref W] ∧ H W = some (.lst (ws.map V.str)) ∧ 1 ≤ ws.length ∧ ws.length ≤ 40001 ∧ WsOk 40000 ws ∧ (entIn ws = none → ∀ H', Same H H' → Q .non H') ∧
  (∀ e, entIn ws = some e → ∀ T H', Same H H' → EnAt H' T e → Q (.ref T) H')
abbrev s_l_entry_in : Stmt := topS 46
abbrev N_l_entry_in : List Str := ["_law_words_here", "_law_moment", "_law_record_here"]
abbrev P_l_entry_in : List Str := ["_law_words_here"]
theorem sc_l_entry_in : FnScope N_l_entry_in P_l_entry_in (defScope s_l_entry_in) := ⟨rfl, rfl, rfl, by decide +kernel, rfl, by decide +kernel, by decide +kernel⟩
theorem ok_l_entry_in (D : Df K mg "_law_entry_in" s_l_entry_in P_l_entry_in) (B : Bi mg) (c_l_integer : C8.Cal P w K mg base 1 "_law_integer" spReadI []) (c_l_is_word : C8.Cal P w K mg base 1 "_law_is_word" spIsWd []) (c_l_record_in : C8.Cal P w K mg base 2 "_law_record_in" spCIn []) : C8.Cal P w K mg base 3 "_law_entry_in" spEIn [] := by
  refine cal_of D sc_l_entry_in (fun vs H Q E h => ?_) (fun f cdv A outer s H vs Q E hr h => ?_)
  · obtain ⟨W, ws, rfl, _⟩ := h
    rfl
  · obtain ⟨W, ws, rfl, eW, l1, lw, ow, kn, ky⟩ := h
    refine ⟨_, (pss_cons (ps_set (i := 1) sc_l_entry_in.nd rfl (Or.inl rfl) (C8.pe_c c_l_integer hr (by decide) (by rfl) (pa_cons (pe_ix (r := rIxL K) ix_list (pv 0) pe_int (fun _ _ => rfl)) pa_nil)))
    (C8.pss_cut (ps_if (PW.pt (pw_or (pt_cmpR op_lt (pe_callB (call_len_seq) (by rfl) B.len_ bt_len (pa_cons (pv 0) pa_nil)) pe_int (nomark _)) (pw_or (pt_cmpR op_isN (pv 1) pe_non (nomark _)) (pw_or (pt_cmpR op_lt (pv 1) pe_int (nomark _)) (pw_or1 (pt_not (pt_val (C8.pe_c c_l_is_word hr (by decide) (by rfl) (pa_cons (pe_ix (r := rIxL K) ix_list (pv 0) pe_int (fun _ _ => rfl)) pa_nil)))))))))
      (pss_one (ps_ret pe_non))
      pss_nil)
    (C8.pss_cut (ps_if (PW.pt (pw_or (pt_cmpR (op_eqW hr.units) (pe_slice sl_list (pv 0) (po_some pe_int) po_none) (pe_lst (pa_cons pe_str (pa_cons pe_str pa_nil))) (nomark _)) (pw_or1 (pt_cmpR (op_eqW hr.units) (pe_slice sl_list (pv 0) (po_some pe_int) po_none) (pe_lst (pa_cons pe_str (pa_cons pe_str pa_nil))) (nomark _)))))
      (pss_one (ps_ret (pe_tup (pa_cons (pv 1) (pa_cons (pe_ix (r := rIxL K) ix_list (pv 0) pe_int (fun _ _ => rfl)) (pa_cons (pe_cmpR op_eq (pe_ix (r := rIxL K) ix_list (pv 0) pe_int (fun _ _ => rfl)) pe_str (nomark _)) pa_nil))))))
      pss_nil)
    (pss_cons (ps_set (i := 2) sc_l_entry_in.nd rfl (Or.inl rfl) (C8.pe_c c_l_record_in hr (by decide) (by rfl) (pa_cons (pe_slice sl_list (pv 0) (po_some pe_int) po_none) pa_nil)))
    (pss_one (ps_ret (pe_ifExp (PW.pt (pw_and (pt_cmpR op_eq (pe_ix (r := rIxL K) ix_list (pv 0) pe_int (fun _ _ => rfl)) pe_str (nomark _)) (pw_and1 (pt_cmpR op_notN (pv 2) pe_non (nomark _))))) (pe_tup (pa_cons (pv 1) (pa_cons (pe_ix (r := rIxL K) ix_list (pv 0) pe_int (fun _ _ => rfl)) (pa_cons (pv 2) pa_nil)))) pe_non))))))), ?_⟩
    have lmap : (ws.map V.str).length = ws.length := List.length_map _
    have gD : ∀ (i : Nat), i < ws.length → (ws.map V.str)[i]? = some (.str (ws.getD i Str.empty)) := fun i hi => by
      rw [List.getElem?_map, List.getElem?_eq_getElem hi]
      show some (V.str ws[i]) = _
      rw [List.getD_eq_getElem?_getD, List.getElem?_eq_getElem hi]
      rfl
    have okD : ∀ (i : Nat), i < ws.length → (ws.getD i Str.empty).length ≤ 40000 := fun i hi => by
      rw [List.getD_eq_getElem?_getD, List.getElem?_eq_getElem hi]
      exact (ow _ (List.getElem_mem hi)).1
    have dr : ∀ j : Nat, cutV (ws.map V.str) (some (j : Int)) none = (ws.drop j).map V.str := fun j => by rw [cutV_drop, List.map_drop]
    refine ⟨_, rfl, W, _, _, _, rfl, rfl, SqL.of eW, atI_nat (j := 0) (gD 0 (by omega)), _, rfl, okD 0 (by omega), fun H1 s1 => ?_⟩
    have eW1 := s1 _ _ eW
    refine ⟨fun σ' H' => ∃ m, readI (tl (ws.getD 0 Str.empty)) = some m ∧ σ' = [some (.ref W), some (.int m), none] ∧ 4 ≤ ws.length ∧ 0 ≤ m ∧ witB (.str (ws.getD 1 Str.empty)) = true ∧ Same H H', ?_, ?_⟩
    · refine ⟨_, rfl, W, _, rfl, .inl (SqL.of eW1), _, _, rfl, rfl, _, rfl, ?_⟩
      by_cases c : ((ws.map V.str).length : Int) < 4
      · exact iteD c (iteTs rfl (kn (entIn_short (by omega)) _ s1))
      · refine iteDn c ⟨_, rfl, rfl, _, rfl, ?_⟩
        cases hm : readI (tl (ws.getD 0 Str.empty)) with
        | none => exact iteD rfl (iteTs rfl (kn (entIn_mom hm) _ s1))
        | some m =>
          have es := entIn_some hm
          refine iteDn (fun z => nomatch z) ⟨_, rfl, _, _, rfl, rfl, _, rfl, ?_⟩
          by_cases c0 : m < 0
          · exact iteD c0 (iteTs rfl (kn (by rw [es, if_neg fun q => by omega]) _ s1))
          · refine iteDn c0 ⟨_, rfl, W, _, _, _, rfl, rfl, SqL.of eW1, atI_nat (j := 1) (gD 1 (by omega)), _, rfl, okD 1 (by omega), fun H2 s2 => ⟨_, rfl, ?_⟩⟩
            cases hw : witB (.str (ws.getD 1 Str.empty)) with
            | false => exact iteTs rfl (kn (by rw [es, if_neg fun q => by rw [hw] at q; exact Bool.false_ne_true q.2.2]) _ (s1.trans s2))
            | true => exact iteFs rfl ⟨m, rfl, rfl, by omega, by omega, rfl, s1.trans s2⟩
    rintro σ' H2 ⟨m, hm, rfl, l4, m0, hw, s2⟩
    have es : entIn ws = entTail ws m := by rw [entIn_some hm, if_pos ⟨l4, m0, hw⟩]
    have eW2 := s2 _ _ eW
    have w3 : ∀ {a b : Str}, ws.drop 2 = [a, b] → ws.getD 3 Str.empty = b := fun {a b} h => by
      have := congrArg (fun l => l[1]?) h
      simp only [List.getElem?_drop] at this
      have e : ws[3]? = some b := by simpa using this
      rw [List.getD_eq_getElem?_getD, e]
      rfl
    have ret : ∀ {H' : Hp} {b : Bool}, Same H H' → entTail ws m = some ⟨m, ws.getD 1 Str.empty, .tr b⟩ → decide (V.str (ws.getD 3 Str.empty) = V.str (Str.ofString "trusted")) = b →
        ∀ T, H' T = none → Q (.ref T) (upd H' T (.tup [.int m, .str (ws.getD 1 Str.empty), .bl (decide (V.str (ws.getD 3 Str.empty) = V.str (Str.ofString "trusted")))])) := fun {H' b} s' he hb T nT => by
      rw [hb]
      exact ky _ (es.trans he) T _ (s'.trans (sm_upd nT)) ⟨.bl b, upd_same, rfl⟩
    refine ⟨fun σ' H' => σ' = [some (.ref W), some (.int m), none] ∧ Same H H' ∧ ¬ ws.drop 2 = [Str.ofString "is", Str.ofString "distrusted"] ∧ ¬ ws.drop 2 = [Str.ofString "is", Str.ofString "trusted"], ?_, ?_⟩
    · refine ⟨_, rfl, 2, rfl, W, _, rfl, SqL.of eW2, fun S nS => ?_⟩
      rw [show cutV (ws.map V.str) (some (2 : Int)) none = (ws.drop 2).map V.str from dr 2]
      have zS := sm_upd (o := .lst ((ws.drop 2).map V.str)) nS
      refine ⟨len10 (by simp), fun M nM => ?_⟩
      have zM := sm_upd (o := .lst [.str "is", .str "distrusted"]) nM
      have zz := s2.trans (zS.trans zM)
      refine ⟨S, M, ws.drop 2, [Str.ofString "is", Str.ofString "distrusted"], rfl, rfl, SqL.of (zM _ _ upd_same), SqL.of upd_same, _, rfl, ?_⟩
      by_cases c2 : ws.drop 2 = [Str.ofString "is", Str.ofString "distrusted"]
      · refine iteTs (by show decide _ = true; exact decide_eq_true c2) (iteTs rfl ?_)
        refine ⟨_, rfl, _, rfl, W, _, _, _, rfl, rfl, SqL.of (zz _ _ eW), atI_nat (j := 1) (gD 1 (by omega)), _, rfl, W, _, _, _, rfl, rfl, SqL.of (zz _ _ eW), atI_nat (j := 3) (gD 3 (by omega)), rfl, len10 (by simp), ?_⟩
        exact ret zz (by unfold entTail; rw [if_pos c2]) (by rw [w3 c2]; decide +kernel)
      · refine iteFs (by show decide _ = false; exact decide_eq_false c2) ⟨_, rfl, 2, rfl, W, _, rfl, SqL.of (zz _ _ eW), fun S2 nS2 => ?_⟩
        rw [show cutV (ws.map V.str) (some (2 : Int)) none = (ws.drop 2).map V.str from dr 2]
        have zS2 := sm_upd (o := .lst ((ws.drop 2).map V.str)) nS2
        refine ⟨len10 (by simp), fun M2 nM2 => ?_⟩
        have zM2 := sm_upd (o := .lst [.str "is", .str "trusted"]) nM2
        have zz2 := zz.trans (zS2.trans zM2)
        refine ⟨S2, M2, ws.drop 2, [Str.ofString "is", Str.ofString "trusted"], rfl, rfl, SqL.of (zM2 _ _ upd_same), SqL.of upd_same, _, rfl, ?_⟩
        by_cases c3 : ws.drop 2 = [Str.ofString "is", Str.ofString "trusted"]
        · refine iteTs (by show decide _ = true; exact decide_eq_true c3) ?_
          refine ⟨_, rfl, _, rfl, W, _, _, _, rfl, rfl, SqL.of (zz2 _ _ eW), atI_nat (j := 1) (gD 1 (by omega)), _, rfl, W, _, _, _, rfl, rfl, SqL.of (zz2 _ _ eW), atI_nat (j := 3) (gD 3 (by omega)), rfl, len10 (by simp), ?_⟩
          exact ret zz2 (by unfold entTail; rw [if_neg c2, if_pos c3]) (by rw [w3 c3]; decide +kernel)
        · exact iteFs (by show decide _ = false; exact decide_eq_false c3) ⟨rfl, zz2, c2, c3⟩
    rintro σ' H3 ⟨rfl, s3, c2, c3⟩
    have eW3 := s3 _ _ eW
    have et : entTail ws m = if ws.getD 2 Str.empty = Str.ofString "reports" then (recIn (ws.drop 3)).map fun x => (⟨m, ws.getD 1 Str.empty, .rd ⟨x.1, x.2.1, x.2.2⟩⟩ : En) else none := by
      unfold entTail
      rw [if_neg c2, if_neg c3]
    refine ⟨_, rfl, 3, rfl, W, _, rfl, SqL.of eW3, fun S nS => ?_⟩
    rw [show cutV (ws.map V.str) (some (3 : Int)) none = (ws.drop 3).map V.str from dr 3]
    have zS := sm_upd (o := .lst ((ws.drop 3).map V.str)) nS
    have s4 := s3.trans zS
    refine ⟨S, ws.drop 3, rfl, upd_same, by rw [List.length_drop]; omega, fun u hu => ow u (List.mem_of_mem_drop hu), fun hn H4 s5 => ?_, fun b t n hb T H4 s5 eT => ?_⟩
    · have sz := s4.trans s5
      have en : entIn ws = none := by
        rw [es, et, hn]
        by_cases c : ws.getD 2 Str.empty = Str.ofString "reports"
        · rw [if_pos c]
          rfl
        · rw [if_neg c]
      refine ⟨_, rfl, W, _, _, _, rfl, rfl, SqL.of (sz _ _ eW), atI_nat (j := 2) (gD 2 (by omega)), rfl, _, rfl, ?_⟩
      by_cases c : V.str (ws.getD 2 Str.empty) = V.str (Str.ofString "reports")
      · exact iteD c ⟨_, rfl, rfl, _, rfl, iteFs rfl (kn en _ sz)⟩
      · exact iteDn c (kn en _ sz)
    · have sz := s4.trans s5
      refine ⟨_, rfl, W, _, _, _, rfl, rfl, SqL.of (sz _ _ eW), atI_nat (j := 2) (gD 2 (by omega)), rfl, _, rfl, ?_⟩
      by_cases c : V.str (ws.getD 2 Str.empty) = V.str (Str.ofString "reports")
      · refine iteD c ⟨_, rfl, rfl, _, rfl, iteTs rfl ⟨_, rfl, _, rfl, W, _, _, _, rfl, rfl, SqL.of (sz _ _ eW), atI_nat (j := 1) (gD 1 (by omega)), _, rfl, len10 (by simp), fun T2 nT2 => ?_⟩⟩
        have zT := sm_upd (o := .tup [.int m, .str (ws.getD 1 Str.empty), .ref T]) nT2
        refine ky ⟨m, ws.getD 1 Str.empty, .rd ⟨b, t, n⟩⟩ (by rw [es, et, if_pos (V.str.inj c), hb]; rfl) T2 _ (sz.trans zT) ⟨_, upd_same, T, rfl, zT _ _ eT⟩
      · refine iteDn c (kn ?_ _ sz)
        rw [es, et, if_neg fun h => c (by rw [h])]
end
end Lf
namespace Lf
open PySem PySem.Spec PyProof.Rows L2
/-! ### data in lists and tuples that stay -/
mutual
inductive Da (H : Hp) : V → PyData → Prop
  | non : Da H .non .none
  | bl (b : Bool) : Da H (.bl b) (.bool b)
  | int (i : Int) : Da H (.int i) (.int i)
  | str (x : Str) : Da H (.str x) (.str x)
  | lst {a : Addr} {xs : List V} {ds : List PyData} : H a = some (.lst xs) → DaAll H xs ds → Da H (.ref a) (.list ds)
  | tup {a : Addr} {xs : List V} {ds : List PyData} : H a = some (.tup xs) → DaAll H xs ds → Da H (.ref a) (.tuple ds)
inductive DaAll (H : Hp) : List V → List PyData → Prop
  | nil : DaAll H [] []
  | cons {v : V} {vs : List V} {d : PyData} {ds : List PyData} : Da H v d → DaAll H vs ds → DaAll H (v :: vs) (d :: ds)
end
/-- lists and tuples stay -/
structure LtK (H H' : Hp) : Prop where
  l : ∀ b xs, H b = some (.lst xs) → H' b = some (.lst xs)
  t : ∀ b xs, H b = some (.tup xs) → H' b = some (.tup xs)
theorem LtK.same {H H' : Hp} (s : Same H H') : LtK H H' := ⟨fun b xs e => s _ _ e, fun b xs e => s _ _ e⟩
theorem LtK.fr {H H' : Hp} (f : Fr H H') : LtK H H' := ⟨f.l, f.t⟩
theorem LtK.trans {H H1 H2 : Hp} (a : LtK H H1) (b : LtK H1 H2) : LtK H H2 := ⟨fun c xs e => b.l _ _ (a.l _ _ e), fun c xs e => b.t _ _ (a.t _ _ e)⟩
theorem LtK.ext {H H' : Hp} (e : LamX.ExtN H H') : LtK H H' := ⟨(ext_kp e).l, (ext_kp e).t⟩
mutual
theorem Da.kp {H H' : Hp} (f : LtK H H') : ∀ (d : PyData) (v : V), Da H v d → Da H' v d
  | .none, _, .non => .non
  | .bool _, _, .bl b => .bl b
  | .int _, _, .int i => .int i
  | .str _, _, .str x => .str x
  | .list ds, _, .lst h hs => .lst (f.l _ _ h) (Da.kpAll f ds _ hs)
  | .tuple ds, _, .tup h hs => .tup (f.t _ _ h) (Da.kpAll f ds _ hs)
theorem Da.kpAll {H H' : Hp} (f : LtK H H') : ∀ (ds : List PyData) (vs : List V), DaAll H vs ds → DaAll H' vs ds
  | [], _, .nil => .nil
  | d :: ds, _, .cons h hs => .cons (Da.kp f d _ h) (Da.kpAll f ds _ hs)
end
mutual
theorem Da.dp {K : PySem.W.Frag} {H : Hp} : ∀ (d : PyData) (v : V), Da H v d → Dp K H v d
  | .none, _, .non => .non
  | .bool _, _, .bl b => .bl b
  | .int _, _, .int i => .int i
  | .str _, _, .str x => .str x
  | .list ds, _, .lst h hs => .lst (SqL.of h) (Da.dpAll ds _ hs)
  | .tuple ds, _, .tup h hs => .tup (SqT.of h) (Da.dpAll ds _ hs)
theorem Da.dpAll {K : PySem.W.Frag} {H : Hp} : ∀ (ds : List PyData) (vs : List V), DaAll H vs ds → DpAll K H vs ds
  | [], _, .nil => .nil
  | d :: ds, _, .cons h hs => .cons (Da.dp d _ h) (Da.dpAll ds _ hs)
end
theorem DaAll.len {H : Hp} : ∀ {vs : List V} {ds : List PyData}, DaAll H vs ds → vs.length = ds.length
  | [], [], .nil => rfl
  | _ :: _, _ :: _, .cons _ h => congrArg (· + 1) h.len
theorem DaAll.app {H : Hp} : ∀ {vs us : List V} {ds es : List PyData}, DaAll H vs ds → DaAll H us es → DaAll H (vs ++ us) (ds ++ es)
  | [], _, [], _, .nil, g => g
  | _ :: _, _, _ :: _, _, .cons a h, g => .cons a (h.app g)
theorem DaAll.take {H : Hp} : ∀ {vs : List V} {ds : List PyData} (n : Nat), DaAll H vs ds → DaAll H (vs.take n) (ds.take n)
  | _, _, 0, _ => by rw [List.take_zero, List.take_zero]; exact .nil
  | [], [], n + 1, .nil => .nil
  | _ :: _, _ :: _, n + 1, .cons a h => .cons a (h.take n)
theorem da_recs {H : Hp} {xs : List V} {ds : List Rec} (h : Obs rcO H xs ds) : DaAll H xs (ds.map rcD) := by
  induction h with
  | nil => exact .nil
  | cons e _ ih => exact .cons (.tup e (.cons (.str _) (.cons (.int _) (.cons (.int _) .nil)))) ih
theorem da_words {H : Hp} : ∀ zs : List Str, DaAll H (strL zs) (zs.map PyData.str)
  | [] => .nil
  | z :: zs => .cons (.str z) (da_words zs)
/-! ### the answers of a log, as data -/
def wtP : Wt → PyData
  | .rd d => rcD d
  | .tr b => .bool b
def enP (e : En) : PyData := .tuple [.int e.m, .str e.w, wtP e.x]
theorem da_wt {H : Hp} {x : Wt} {v : V} (h : WtAt H x v) : Da H v (wtP x) := by
  cases x with
  | rd d =>
    obtain ⟨a, rfl, ha⟩ := h
    exact .tup ha (.cons (.str _) (.cons (.int _) (.cons (.int _) .nil)))
  | tr b =>
    have h : v = .bl b := h
    subst h
    exact .bl b
theorem da_ens {H : Hp} : ∀ {vs : List V} {es : List En}, EnL H vs es → DaAll H vs (es.map enP)
  | _, _, .nil => .nil
  | _, _, .cons ⟨v, er, hv⟩ h => .cons (.tup er (.cons (.int _) (.cons (.str _) (.cons (da_wt hv) .nil)))) (da_ens h)
def oP : Option Int → PyData
  | none => .none
  | some x => .int x
theorem da_o {H : Hp} (o : Option Int) : Da H (oV o) (oP o) := by
  cases o
  · exact .non
  · exact .int _
def noP : PyData := .str "no rule"
/-! ### their shape -/
def Shp (n : Nat) (d : PyData) : Prop := d.canLay0 = true ∧ d.depth ≤ n
theorem Shp.mono {n m : Nat} {d : PyData} (h : Shp n d) (e : n ≤ m) : Shp m d := ⟨h.1, Nat.le_trans h.2 e⟩
theorem shp_all {n : Nat} : ∀ {ds : List PyData}, (∀ d ∈ ds, Shp n d) → PyData.canLayAll0 ds = true ∧ PyData.depthAll ds ≤ n
  | [], _ => ⟨rfl, Nat.zero_le _⟩
  | d :: ds, h => by
    obtain ⟨i1, i2⟩ := shp_all (ds := ds) fun x hx => h x (List.mem_cons_of_mem _ hx)
    obtain ⟨j1, j2⟩ := h d List.mem_cons_self
    refine ⟨by simp [PyData.canLayAll0, i1, j1], ?_⟩
    simp only [PyData.depthAll]
    omega
theorem shp_list {n : Nat} {ds : List PyData} (h : ∀ d ∈ ds, Shp n d) : Shp (n + 1) (.list ds) := by
  obtain ⟨h1, h2⟩ := shp_all h
  exact ⟨by simpa [PyData.canLay0] using h1, by simp only [PyData.depth]; omega⟩
theorem shp_tup {n : Nat} {ds : List PyData} (h : ∀ d ∈ ds, Shp n d) : Shp (n + 1) (.tuple ds) := by
  obtain ⟨h1, h2⟩ := shp_all h
  exact ⟨by simpa [PyData.canLay0] using h1, by simp only [PyData.depth]; omega⟩
theorem shp_sh {n : Nat} {d : PyData} (h : Shp n d) (e : n ≤ 64) : SeqAt.shaped d = true := by
  show (PyData.canLay0 d && decide (d.depth ≤ 64)) = true
  rw [h.1, decide_eq_true (Nat.le_trans h.2 e)]
  rfl
theorem shp_int (i : Int) : Shp 0 (.int i) := ⟨rfl, Nat.le_refl _⟩
theorem shp_str {z : Str} (h : PyData.strOk z = true) : Shp 0 (.str z) := ⟨by simpa [PyData.canLay0] using h, Nat.le_refl _⟩
theorem strOk_wit {z : Str} (h : WitW z) : PyData.strOk z = true := by
  show z.cps.all (· < 0x110000) = true
  rw [← Array.all_toList, List.all_eq_true]
  intro c hc
  have := h.2.2 c hc
  exact decide_eq_true (by omega)
theorem shp_rec (d : Rec) : Shp 1 (rcD d) := by
  refine shp_tup fun x hx => ?_
  simp only [List.mem_cons, List.not_mem_nil, or_false] at hx
  rcases hx with rfl | rfl | rfl
  · exact shp_str (by cases d.lo <;> decide +kernel)
  · exact shp_int _
  · exact shp_int _
theorem shp_en {e : En} (h : WitW e.w) : Shp 2 (enP e) := by
  refine shp_tup fun x hx => ?_
  simp only [List.mem_cons, List.not_mem_nil, or_false] at hx
  rcases hx with rfl | rfl | rfl
  · exact (shp_int _).mono (by decide)
  · exact (shp_str (strOk_wit h)).mono (by decide)
  · cases e.x with
    | rd d => exact shp_rec d
    | tr b => exact ⟨rfl, Nat.zero_le _⟩
theorem shp_no : Shp 0 noP := shp_str (by decide +kernel)
theorem shp_o (o : Option Int) : Shp 0 (oP o) := by
  cases o
  · exact ⟨rfl, Nat.le_refl _⟩
  · exact shp_int _
/-- data that is the same is not unlike -/
theorem ne_da {K : PySem.W.Frag} {H : Hp} {x y : V} {d : PyData} {n : Nat} {Q : V → Hp → Prop} (h1 : Da H x d) (h2 : Da H y d) (s : Shp n d) (e : n ≤ 64) (q : Q (.bl false) H) : rNeD K x y H Q := by
  refine ⟨d, d, Da.dp _ _ h1, Da.dp _ _ h2, shp_sh s e, shp_sh s e, ?_⟩
  rw [SeqAt.eqv_refl _ s.1]
  exact q
end Lf
namespace Lf
open PySem PySem.Spec PyProof.Rows L2
/-! ### a log under ExtN -/
theorem LogAt.ext {C : Addr} {H H' : Hp} {o D : Addr} {es : List En} (h : LogAt C H o D es) (f : LamX.ExtN H H') : LogAt C H' o D es := by
  obtain ⟨⟨dx, h1⟩, ⟨kvs, h2, h3⟩, h4⟩ := h
  exact ⟨⟨dx, f _ _ h1 (fun _ z => by cases z)⟩, ⟨kvs, f _ _ h2 (fun _ z => by cases z), h3.kp fun b xs e => f _ _ e (fun _ z => by cases z)⟩, h4⟩
theorem ext_same {H H' : Hp} (s : Same H H') : LamX.ExtN H H' := fun b o e _ => s b o e
end Lf
namespace Lf
open PySem PySem.Spec PyProof.Rows L2
/-! ### sorted(rows, key=lambda x: x[0]) -/
section
variable {P : Program} {w : World} {A : Around} {E : Value → Shared → Prop} {s : Shared}
theorem eval_fst {env : Env} {y : Str} {m : Str → Option Value} {r : Addr} {its : Array Value} {v : Value} {p1 p2 pos : Pos} {j : Nat} {Q : Value → Shared → Prop} (hk : env.scope.kind = .function) (hl : env.kindOf y = some .local) (hn : s.heap.Ns env.locals m) (hv : m y = some (.ref r)) (ht : IsTup s.heap r its) (h0 : its[0]? = some v) (hd : (y == ("__debug__" : Str)) = false) (h : Q v { s with toks := s.toks + 1 }) :
    wpAny (model P w) A (eval (.Subscript (.Name y p1) (.Constant (.int 0) j p2) pos) env) Q E s := by
  refine Subscript_ (wpAny_Name (wpAny_loadName_local hk hl hn hv ?_) hd)
  refine wpAny_Constant_int ?_
  have hz : 0 < its.size := by
    rcases Nat.eq_zero_or_pos its.size with z | z
    · rw [Array.getElem?_eq_none (by omega)] at h0
      cases h0
    · exact z
  exact subscriptTail_builtinR (x := v) (s := { s with toks := s.toks + 1 }) (IsTup.typeIs ht) slot_tuple_getitem.lookup (getItem_tuple (s := { s with toks := s.toks + 1 }) (j := 0) (Q := fun r s' => r = v ∧ Q r s') ht (by decide) (by decide) (seqIndex_of (k := 0) (by decide) (by omega)) h0 ⟨rfl, h⟩)
structure FstS (scope : Scope) (y : Str) : Prop where
  kind : scope.kind = .function
  co : scope.isCoroutine = false
  gen : scope.isGenerator = false
  own : scope.names.lookup y = some .local
  cel : ∀ x ∈ scope.names, x.2 ≠ .cell
  fre : ∀ x ∈ scope.names, x.2 ≠ .free
theorem clo_nil {cells : List (Str × Addr)} : ∀ {ns : List (Str × NameKind)}, (∀ x ∈ ns, x.2 ≠ .free) → cloFrom cells ns [] = []
  | [], _ => rfl
  | (n, k) :: r, h => by
    have e : (k == NameKind.free) = false := by
      have : k ≠ NameKind.free := h (n, k) List.mem_cons_self
      revert this
      cases k <;> decide
    unfold cloFrom
    rw [e, if_neg Bool.false_ne_true]
    exact clo_nil fun x hx => h x (List.mem_cons_of_mem _ hx)
theorem call_fst {f c' r : Addr} {qual y : Str} {params : Arguments} {scope : Scope} {pm ctv : Value} {its : Array Value} {v : Value} {p1 p2 pos : Pos} {j : Nat} (hr : A.depth < recursionLimit)
    (hf : s.heap.get? f = some (PySem.W.kla_obj "<lambda>" qual params (.Subscript (.Name y p1) (.Constant (.int 0) j p2) pos) scope [] pm c' ctv)) (hc : s.heap.CodeRec (.ref c') qual)
    (hbind : ∀ u, bindArgs (PySem.W.kla_fn "<lambda>" qual params (.Subscript (.Name y p1) (.Constant (.int 0) j p2) pos) scope [] pm (.ref c') ctv) ⟨[u], []⟩ = pure [(y, u)]) (S : FstS scope y) (nl : s.heap.NoLimit) (hd : (y == ("__debug__" : Str)) = false)
    (ht : IsTup s.heap r its) (h0 : its[0]? = some v) :
    wpAny (model P w) A (call (.ref f) [.ref r]) (fun u s2 => u = v ∧ ∃ h' tk, s2 = { s with heap := h', toks := tk } ∧ ∀ b o, s.heap.get? b = some o → h'.get? b = some o) E s := by
  refine wpAny_call (PySem.W.kla_callFunE hr hf rfl S.co S.gen rfl hc ?_)
  rw [hbind]
  refine wpAny_pure (wpAny_newFunctionEnv S.cel (fun x hx => ?_) (fun h₁ hns hsb => ⟨nl.fresh _ hsb, ?_⟩) S.kind)
  · rw [List.mem_singleton.mp hx]
    exact S.own
  have kp : ∀ b o, s.heap.get? b = some o → h₁.get? b = some o := fun b o e => hsb.extBut b o (Nat.ne_of_lt (Heap.lt_size e)) (Heap.get?_push_of_some _ e)
  refine PySem.W.kla_codeExpr (eval_fst (r := r) (its := its) (m := fun x => [(y, Value.ref r)].reverse.lookup x) S.kind S.own hns (by simp) ?_ h0 hd ⟨rfl, _, _, rfl, kp⟩)
  obtain ⟨o, e, h⟩ := ht
  exact ⟨o, kp _ _ e, h⟩
end
theorem each_vals : ∀ {xs : List V} {its : List Value}, Vals xs its → PySem.W.EachIs (fun v x => RelV x v) its xs
  | _, _, .nil => .nil
  | _, _, .cons h r => .cons h (each_vals r)
theorem vals_each : ∀ {xs : List V} {its : List Value}, PySem.W.EachIs (fun v x => RelV x v) its xs → Vals xs its
  | _, _, .nil => .nil
  | _, _, .cons h r => .cons h (vals_each r)
/-- each item is a tuple that begins with an int -/
def FstI (H : Hp) (xs : List V) (g : V → Int) : Prop := ∀ x ∈ xs, ∃ r us, x = .ref r ∧ H r = some (.tup (.int (g x) :: us))
def tSortF (T : List (Addr × Str)) (ta : TA) : TE := fun σ H Q => ta σ H fun vs H1 => ∃ (a : Addr) (xs : List V) (g : V → Int), vs = [.ref a] ∧ H1 a = some (.lst xs) ∧ FstI H1 xs g ∧ LamX.Tabs T H1 ∧
  ∀ p H2 ys, LamX.ExtN H1 H2 → LamX.Tabs T H2 → H2 p = some (.lst ys) → ys.Perm xs → ys.Pairwise (fun x y => g x ≤ g y) → Q (.ref p) H2
section
variable {X : Cx}
theorem pe_sortF {T : List (Addr × Str)} {ta : TA} {e : Expr} {y : Str} {c Pt : Addr} {params : Arguments} {scope : Scope} {j : Nat} {p p1 p2 p3 lpos kpos pos : Pos} (ha : L2.PA X [e] ta) (hg : Gl X "sorted") (hm : X.mg "sorted" = none) (hr : Room 3 X.A)
    (TB : LamX.TabB X.base X.mg c Pt) (hcode : X.env.code = .ref c) (hmT : (Pt, X.env.qual ++ ("<lambda>" : Str)) ∈ T) (hu : ∀ p ∈ T, p.1 = Pt → p.2 = X.env.qual ++ ("<lambda>" : Str)) (hdef : defaultsOf params X.env = ([], []))
    (hbind : ∀ (q : Str) (pm cv ctv u : Value), bindArgs (PySem.W.kla_fn "<lambda>" q params (.Subscript (.Name y p1) (.Constant (.int 0) j p2) p3) scope [] pm cv ctv) ⟨[u], []⟩ = pure [(y, u)]) (S : FstS scope y) (hd : (y == ("__debug__" : Str)) = false)
    (hv : bootBuiltins "sorted" = some (.builtin "sorted") := by rfl)
    (he' : backTo pos (starEach [e] X.env) = (false, eval e X.env) :: backTo pos (starEach [] X.env) := by rfl)
    (hpl : (backTo pos (starEach [e] X.env)).any (·.1) = false := by rfl) :
    PE X (.Call (.Name "sorted" p) [e] [⟨some "key", .Lambda params (.Subscript (.Name y p1) (.Constant (.int 0) j p2) p3) scope lpos, kpos⟩] pos) (tSortF T ta) := by
  refine ⟨fun pins s σ H Q I h => ?_⟩
  refine wpAny_Call_Name_kw (ld_blt I hg hm hv ?_ (by decide) (by decide))
  refine PyProof.Rows.callWith_kw (thn (ha.run pos pins s σ H _ I h) fun us s1 ⟨vs, H1, I1, r1, q1⟩ => ?_) he' hpl (by rfl) (by rfl)
  obtain ⟨a, xs, g, rfl, ea, hf1, hT, q⟩ := q1
  obtain rfl := Vals.ref1 r1
  show wpAny _ _ (evalAll ((do let v ← eval (.Lambda params (.Subscript (.Name y p1) (.Constant (.int 0) j p2) p3) scope lpos) X.env; standAt pos; pure v) :: [])) _ _ s1
  refine wpAny_evalAll_cons (wpAny_bind (LamX.lam_make2 I1 TB hcode hmT hu hT hdef (fun x hx e => absurd e (S.fre x hx)) (fun f c' pm ctv H2 s2 I2 x2 T2 hf hfn hfr hco => wpAny_bind (wpAny_standAt (wpAny_pure (wpAny_evalAll_nil ?_))))))
  show wpAny _ _ (call (.builtin "sorted") [.ref a] [(Str.ofString "key", .ref f)]) _ _ s2
  rw [clo_nil S.fre] at hf
  obtain ⟨⟨oc, vs, t, hoc, hdc, hvc⟩, _, _⟩ := I2.hok c' _ hco
  obtain ⟨its, rv, hl, hz⟩ := I2.list (SqL.of (K := X.K) (x2 _ _ ea (fun _ z => by cases z)))
  refine PySem.W.sorted_key_data (β := V) (R := fun v x => RelV x v) (vs := its) (bs := xs) (b := false) (fun x => .int (g x)) hl.isList (each_vals rv) ?_ ?_ hz ?_ (PyProof.Rows.ksk_s1 _ _) (fun _ => PyProof.Rows.ksk_l1 _ _) (fun _ => PyProof.Rows.ksk_t1 _ _) ?_ ?_
  · intro d hd' d' hd2
    obtain ⟨_, _, rfl⟩ := List.mem_map.mp hd'
    obtain ⟨_, _, rfl⟩ := List.mem_map.mp hd2
    rfl
  · refine .inr fun d hd' => ?_
    obtain ⟨_, _, rfl⟩ := List.mem_map.mp hd'
    exact ⟨(fun z => by cases z), (fun _ z => by cases z)⟩
  · intro x _
    have := hr.un
    show X.A.units + 2 + 0 < cLine
    omega
  · intro v x R hx h tk kp
    obtain ⟨r, us, rfl, er⟩ := hf1 x hx
    obtain rfl : v = Value.ref r := R
    obtain ⟨its', rv', ht', _⟩ := I2.tuple (SqT.of (K := X.K) (x2 _ _ er (fun _ z => by cases z)))
    cases rv' with
    | cons h0 _ =>
      obtain ⟨t0, rfl⟩ := h0
      obtain ⟨o, eo, ho⟩ := ht'
      refine wpAny_mono (call_fst (v := Value.int (g (V.ref r)) t0) (s := { s2 with heap := h, toks := tk }) (A := X.A.in1.in1) (by have := hr.dp; show X.A.depth < _; omega) (kp _ _ hf) ⟨c', oc, vs, t, rfl, kp _ _ hoc, hdc, hvc⟩ (hbind _ _ _ _) S (I2.nolimit.keeps kp) hd ⟨o, kp _ _ eo, ho⟩ (by simp)) (fun u s3 ⟨e1, h3, tk3, e3, k3⟩ => ?_) (fun _ _ x => x)
      subst e1
      exact ⟨h3, tk3, e3, k3, .int _ _⟩
  · intro out cc h' tk kp _ hD len eo
    have rvo := vals_each eo
    have pm := List.mergeSort_perm xs (PySem.W.dataLe false fun x => PyData.int (g x))
    have n : H2 (s2.heap.objs.size + 1) = none := I2.hok.fresh (Nat.le_succ _)
    refine ⟨.ref _, upd H2 (s2.heap.objs.size + 1) (.lst (xs.mergeSort (PySem.W.dataLe false fun x => PyData.int (g x)))), I2.laid (t' := tk) kp (Nat.le_succ _) ⟨by rw [pm.length_eq]; exact hz, out, cc, rvo, hD⟩, rfl, q _ _ _ (x2.trans (ext_same (sm_upd n))) (tabs_same T2 (sm_upd n)) upd_same pm ?_⟩
    have so := List.pairwise_mergeSort (le := PySem.W.dataLe false fun x => PyData.int (g x)) (fun a b c h1 h2 => ?_) (fun a b => ?_) xs
    · refine so.imp fun {a b} h => ?_
      rw [PySem.W.dataLe_int] at h
      exact of_decide_eq_true h
    · rw [PySem.W.dataLe_int] at h1 h2 ⊢
      have h1 := of_decide_eq_true h1
      have h2 := of_decide_eq_true h2
      exact decide_eq_true (Int.le_trans h1 h2)
    · rw [PySem.W.dataLe_int]
      rcases Int.le_total (g a) (g b) with h | h
      · simp [h]
      · simp [h]
end
end Lf
namespace Lf
open PySem PySem.Spec PyProof.Rows L2 TL
/-! ### what is due for lines -/
inductive DueP (ls : List Str) : PyData → Prop
  | bad (j : Nat) (l : Str) (h1 : ls[j]? = some l) (h2 : ∀ u ∈ ls.take j, readE (splS u) ≠ none) (h3 : readE (splS l) = none) : DueP ls (.tuple [.str "parse", .str l])
  | dup (es : List En) (h : ls.map (fun l => readE (splS l)) = es.map some) (j : Nat) (e : En) (h1 : es[j]? = some e) (h2 : ((es.take j).map (·.m)).Nodup) (h3 : e.m ∈ (es.take j).map (·.m)) : DueP ls (.tuple [.str "duplicate", .int e.m])
  | ok (es fs : List En) (h : ls.map (fun l => readE (splS l)) = es.map some) (nd : (es.map (·.m)).Nodup) (p : fs.Perm es) (s : (fs.map (·.m)).Pairwise (· ≤ ·)) : DueP ls (.tuple [.str "parsed", .list (fs.map enP)])
theorem some_inj {es fs : List En} (h : es.map some = fs.map some) : es = fs := by
  have := congrArg (List.filterMap id) h
  simpa [List.filterMap_map] using this
theorem nd_take {es : List En} {j : Nat} {e : En} (h1 : es[j]? = some e) (h3 : e.m ∈ (es.take j).map (·.m)) {k : Nat} (hk : j < k) (nd : ((es.take k).map (·.m)).Nodup) : False := by
  have h2 : ((es.take (j + 1)).map (·.m)) = (es.take j).map (·.m) ++ [e.m] := by
    rw [List.take_add_one, h1, List.map_append]
    rfl
  have h4 : ((es.take (j + 1)).map (·.m)).Nodup := by
    have : ((es.take k).take (j + 1)) = es.take (j + 1) := by
      rw [List.take_take, Nat.min_eq_left (by omega)]
    rw [← this, List.map_take]
    exact (List.take_sublist _ _).nodup nd
  rw [h2, List.nodup_append] at h4
  exact h4.2.2 _ h3 _ (List.mem_singleton.mpr rfl) rfl
theorem bad_no {ls : List Str} {es : List En} {j : Nat} {l : Str} (h : ls.map (fun l => readE (splS l)) = es.map some) (h1 : ls[j]? = some l) (h3 : readE (splS l) = none) : False := by
  have h2 : (ls.map (fun l => readE (splS l)))[j]? = some none := by
    rw [List.getElem?_map, h1]
    show some (readE (splS l)) = _
    rw [h3]
  rw [h, List.getElem?_map] at h2
  cases hx : es[j]? with
  | none => rw [hx] at h2; cases h2
  | some e => rw [hx] at h2; cases h2
theorem lt_of_bad {ls : List Str} {j k : Nat} {l : Str} (h1 : ls[j]? = some l) (h3 : readE (splS l) = none) (h2 : ∀ u ∈ ls.take k, readE (splS u) ≠ none) : k ≤ j := Decidable.byContradiction fun c => by
  refine h2 l ?_ h3
  exact List.mem_of_getElem? (i := j) (by rw [List.getElem?_take_of_lt (by omega)]; exact h1)
theorem DueP.uniq {ls : List Str} {d d' : PyData} (a : DueP ls d) (b : DueP ls d') : d = d' := by
  cases a with
  | bad j l h1 h2 h3 =>
    cases b with
    | bad k l' g1 g2 g3 =>
      have := lt_of_bad h1 h3 g2
      have := lt_of_bad g1 g3 h2
      obtain rfl : j = k := by omega
      rw [h1] at g1
      cases g1
      rfl
    | dup es h k e _ _ _ => exact (bad_no h h1 h3).elim
    | ok es fs h _ _ _ => exact (bad_no h h1 h3).elim
  | dup es h j e h1 h2 h3 =>
    cases b with
    | bad k l' g1 g2 g3 => exact (bad_no h g1 g3).elim
    | dup es' h' k e' g1 g2 g3 =>
      obtain rfl := some_inj (h.symm.trans h')
      rcases Nat.lt_trichotomy j k with c | c | c
      · exact (nd_take h1 h3 c g2).elim
      · subst c
        rw [h1] at g1
        cases g1
        rfl
      · exact (nd_take g1 g3 c h2).elim
    | ok es' fs h' nd _ _ =>
      obtain rfl := some_inj (h.symm.trans h')
      have hj := (List.getElem?_eq_some_iff.mp h1).1
      exact (nd_take h1 h3 hj (by rw [List.take_length]; exact nd)).elim
  | ok es fs h nd p s =>
    cases b with
    | bad k l' g1 g2 g3 => exact (bad_no h g1 g3).elim
    | dup es' h' k e' g1 g2 g3 =>
      obtain rfl := some_inj (h.symm.trans h')
      have hj := (List.getElem?_eq_some_iff.mp g1).1
      exact (nd_take g1 g3 hj (by rw [List.take_length]; exact nd)).elim
    | ok es' fs' h' nd' p' s' =>
      obtain rfl := some_inj (h.symm.trans h')
      have nf : (fs'.map (·.m)).Nodup := (p'.map (·.m)).nodup_iff.mpr nd'
      have st : (fs'.map (·.m)).Pairwise (· < ·) := by
        have := s'.and nf
        exact this.imp fun ⟨a, b⟩ => by omega
      rw [en_sorted (p.trans p'.symm) s st]
section
variable {P : Program} {w : World} {K : PySem.W.Frag} {mg : Str → Option Value} {base : Heap} {C CP CD : Addr}
/-! ### _law_parsed -/
structure TxtOk (z : Str) : Prop where
  sh : shT 1000000 (.str z)
  n : (linesO z).length ≤ 400
  l : ∀ l ∈ linesO z, l.length ≤ 40000 ∧ ((splS l).getD 1 Str.empty).length ≤ 40000 ∧ PyData.strOk l = true
def spPd : Sp := fun vs H Q _ => ∃ (v : V) (d : PyData), vs = [v] ∧ Dv H v d ∧ shT 1000000 d ∧ (isSt d = false → ∀ T H', Same H H' → H' T = some (.tup [.str "parse", v]) → Q (.ref T) H') ∧
  (∀ z, d = .str z → TxtOk z ∧ ∀ T g H', Same H H' → DueP (linesO z) g → Da H' (.ref T) g → Q (.ref T) H')
def eS91 (c : Addr) (w f : Str) : Addr → Value → Option Addr → TS := fun a cls d D σ H1 => cls = .ref c ∧ σ.length = 4 ∧ σ[3]? = some (some (.ref a)) ∧ ∃ (dd : Addr) (v : V), d = some dd ∧ H1 dd = some (.xd [(f, v)]) ∧ ∀ T, H1 T = none → D.nx (σ.set 1 (some (.ref T))) (upd H1 T (.tup [.str w, v]))
theorem four91 {α : Type} {l : List α} (h : l.length = 4) : ∃ a b c d, l = [a, b, c, d] := by
  match l, h with
  | [a, b, c, d], _ => exact ⟨a, b, c, d, rfl⟩
abbrev s_l_parsed : Stmt := topS 48
abbrev N_l_parsed : List Str := ["_law_text", "_law_wrong", "_law_found", "e"]
abbrev P_l_parsed : List Str := ["_law_text"]
theorem sc_l_parsed : FnScope N_l_parsed P_l_parsed (defScope s_l_parsed) := ⟨rfl, rfl, rfl, by decide +kernel, rfl, by decide +kernel, by decide +kernel⟩
theorem ok_l_parsed (D : Df K mg "_law_parsed" s_l_parsed P_l_parsed) (TK : LgT K mg C) (UM : (ValC P K mg CP "ParseError" "line" ∧ ValC P K mg CD "DuplicateMoment" "value") ∧ PySem.W.exmOne K (.ref CD) (.ref CP) = some false) (cx_parse_log : CalX P w K mg base 6 "parse_log" (spPLog C CP CD)) (c_Log_entries : C8.Met P w K mg base 1 C "entries" (spEnts C) [.non]) : C8.Cal P w K mg base 7 "_law_parsed" spPd [] := by
  obtain ⟨⟨T0, T1⟩, ap⟩ := UM
  refine cal_of D sc_l_parsed (fun vs H Q E h => ?_) (fun f cdv A outer s H vs Q E hr h => ?_)
  · obtain ⟨v, d, rfl, _⟩ := h
    rfl
  · obtain ⟨v, d, rfl, dv, sh, kn, ky⟩ := h
    have val : ∀ {c : Addr} {nm w' x : Str} (T : ValC P K mg c nm x) {p1 p2 p3 p4 p5 p6 : Pos} {kk nt : Nat} (a : Addr) (oe : Obj) (cls : Value) (d : Option Addr) (pn : List (Addr × Obj)), Zc cls d oe → (∃ vs, oe.data = .fields vs) →
        PSs ((cxOf CX0 P w K mg base N_l_parsed "_law_parsed" (defScope s_l_parsed) f cdv A outer s H E).nox.suite a ((a, oe) :: pn)) [.Assign [.Name "_law_wrong" p1] (.Tuple [.Constant (.str w') kk p2, .Attribute (.Name "e" p3) x p4] nt p5) p6]
          (eS91 c w' x a cls d) := by
      intro c nm w' x T p1 p2 p3 p4 p5 p6 kk nt a oe cls d pn hz hf
      constructor
      intro pins s1 σ1 H1 D I h1
      obtain ⟨rfl, hl, h0, dd, v, rfl, e3, hh⟩ := h1
      refine (pss_one (ps_set (i := 1) sc_l_parsed.nd rfl (Or.inl rfl) (pe_tup (pa_cons pe_str (pa_cons (pe_xk (Y := (cxOf CX0 P w K mg base N_l_parsed "_law_parsed" (defScope s_l_parsed) f cdv A outer s H E).nox.suite a ((a, oe) :: pn)) (a := a) T.xf T.no hz hf List.mem_cons_self (pv 3)) pa_nil))))).run pins s1 σ1 H1 D I ?_
      obtain ⟨x0, x1, x2, x3, rfl⟩ := four91 hl
      cases h0
      exact ⟨_, rfl, rfl, rfl, _, _, v, rfl, e3, by simp, len10 (by simp), hh⟩
    refine ⟨_, pss_cons (ps_set (i := 1) sc_l_parsed.nd rfl (Or.inl rfl) pe_non) (pss_cons (ps_set (i := 2) sc_l_parsed.nd rfl (Or.inl rfl) pe_non) (pss_cons (ps_clauses (X := (cxOf CX0 P w K mg base N_l_parsed "_law_parsed" (defScope s_l_parsed) f cdv A outer s H E).nox) (W0 := fun _ _ _ _ => False)
      (tb := fun W => tAsg (tCallS (spPLog C CP CD) (WE W) (tCons (tVar 0) tNil)) (gName 2))
      rfl rfl sc_l_parsed.nd takes0 (fun W pn xe tk _ => pss_one (ps_set (i := 2) sc_l_parsed.nd rfl (Or.inl rfl) (pe_cx cx_parse_log hr (by decide) tk (by rfl) (pa_cons (pv 0) pa_nil))))
      (l := [⟨.ref CP, some 3, eS91 CP "parse" "line"⟩, ⟨.ref CD, some 3, eS91 CD "duplicate" "value"⟩]) ?hc) (pss_one (ps_ret (pe_ifExp (pt_cmpR op_isN (pv 1) pe_non (nomark _)) (pe_tup (pa_cons pe_str (pa_cons (C8.pe_mt0 c_Log_entries hr (by decide) (pv 2)) pa_nil))) (pv 1)))))), ?_⟩
    case hc =>
      refine .named (i := 3) rfl rfl ⟨rfl, by decide, .inl T0.gC⟩ (val T0) ?_
      refine .named (i := 3) rfl rfl ⟨rfl, by decide, .inl T1.gC⟩ (val T1) ?_
      exact .nil
    refine ⟨_, rfl, v, d, rfl, dv, sh, fun hs H' s' dd nd => ?_, fun hs => ?_⟩
    · refine ⟨true, T0.meets, fun _ a na => ⟨rfl, rfl, rfl, dd, v, rfl, upd_same, fun T nT => ?_⟩, fun z => nomatch z⟩
      have z1 := sm_upd (o := .xd [("line", v)]) nd
      have z2 := sm_upd (o := .tup [.str "parse", v]) nT
      exact ⟨_, rfl, rfl, _, rfl, iteDn (fun z => nomatch z) ⟨_, rfl, kn hs T _ (s'.trans (z1.trans z2)) upd_same⟩⟩
    · obtain ⟨z, rfl, rfl⟩ : ∃ z, v = .str z ∧ d = .str z := by
        cases dv <;> first | exact ⟨_, rfl, rfl⟩ | cases hs
      obtain ⟨tx, kz⟩ := ky z rfl
      refine ⟨tx.n, tx.l, fun j l hj h2 h3 H' s' dd nd => ?_, fun es he => ⟨fun nd o D4 H' s' nD hL => ?_, fun j e hj hnj hm H' s' dd ndd => ?_⟩⟩
      · refine ⟨true, T0.meets, fun _ a na => ⟨rfl, rfl, rfl, dd, .str l, rfl, upd_same, fun T nT => ?_⟩, fun z => nomatch z⟩
        have z1 := sm_upd (o := .xd [("line", .str l)]) nd
        have z2 := sm_upd (o := .tup [.str "parse", .str l]) nT
        exact ⟨_, rfl, rfl, _, rfl, iteDn (fun z => nomatch z) ⟨_, rfl, kz T _ _ (s'.trans (z1.trans z2)) (.bad j l hj h2 h3) (.tup upd_same (.cons (.str _) (.cons (.str _) .nil)))⟩⟩
      · obtain ⟨dx, eo⟩ := hL.o
        have hle : es.length ≤ 400 := by
          have := congrArg List.length he
          rw [List.length_map, List.length_map] at this
          rw [← this]
          exact tx.n
        refine ⟨_, rfl, rfl, _, rfl, iteD rfl ⟨_, rfl, o, dx, _, rfl, eo, rfl, o, D4, .non, none, es, rfl, hL, rfl, by omega, fun F H2 vF fs nF s2 eF pf srt hF => ?_⟩⟩
        rw [show fs.filter (upB none) = fs from List.filter_eq_self.mpr fun _ _ => rfl] at hF
        refine ⟨len10 (by simp), fun T nT => ?_⟩
        have zT := sm_upd (o := .tup [.str "parsed", .ref F]) nT
        exact kz T _ _ (s'.trans (s2.trans zT)) (.ok es fs he nd pf srt) (.tup upd_same (.cons (.str _) (.cons (.lst (zT _ _ eF) (da_ens (hF.kp (.same zT)))) .nil)))
      · refine ⟨false, ap, (fun z => nomatch z), fun _ => ⟨true, T1.meets, fun _ a na => ⟨rfl, rfl, rfl, dd, .int e.m, rfl, upd_same, fun T nT => ?_⟩, fun z => nomatch z⟩⟩
        have z1 := sm_upd (o := .xd [("value", .int e.m)]) ndd
        have z2 := sm_upd (o := .tup [.str "duplicate", .int e.m]) nT
        exact ⟨_, rfl, rfl, _, rfl, iteDn (fun z => nomatch z) ⟨_, rfl, kz T _ _ (s'.trans (z1.trans z2)) (.dup es he j e hj hnj hm) (.tup upd_same (.cons (.str _) (.cons (.int _) .nil)))⟩⟩
end
end Lf
namespace Lf
open PySem PySem.Spec PyProof.Rows L2 TL
abbrev qLam91 : Str := (("_law_due" : Str) ++ (".<locals>." : Str)) ++ ("<lambda>" : Str)
/-- the moment at which an entry of the heap stands -/
noncomputable def gM (H : Hp) : V → Int := fun v => match v with
  | .ref r => (match H r with
    | some (.tup (.int k :: _)) => k
    | _ => 0)
  | _ => 0
theorem gM_at {H : Hp} {r : Addr} {e : En} (h : EnAt H r e) : gM H (.ref r) = e.m := by
  obtain ⟨v, er, _⟩ := h
  simp only [gM, er]
theorem EnL.fst {H : Hp} : ∀ {xs : List V} {es : List En}, EnL H xs es → FstI H xs (gM H)
  | _, _, .nil => fun _ h => nomatch h
  | _, _, .cons (r := r) (e := e) h t => fun x hx => by
    rcases List.mem_cons.mp hx with rfl | hx
    · have g := gM_at h
      obtain ⟨v, er, _⟩ := h
      exact ⟨r, [.str e.w, v], rfl, by rw [g]; exact er⟩
    · exact t.fst x hx
theorem EnL.gm {H : Hp} : ∀ {xs : List V} {es : List En}, EnL H xs es → xs.map (gM H) = es.map (·.m)
  | _, _, .nil => rfl
  | _, _, .cons h t => by rw [List.map_cons, List.map_cons, gM_at h, t.gm]
theorem it_lines2 {K : PySem.W.Frag} {σ : L2.St} {H : Hp} {z : Str} {Q : VK} (hz : σ[0]? = some (some (.str z))) (hl : z.length + 2 ≤ sizeLine) (h : ∀ A H2, H A = none → Same H H2 → H2 A = some (.lst ((linesO z).map V.str)) → Q (.ref A) H2) :
    tIf (tTest (tOp rNe (tVar 0) (tC (V.str "")))) (tBM K "str" (fun x xs H Q => ∃ a b, x = V.str a ∧ xs = [V.str b] ∧ (b.length == 0) = false ∧ a.length + 2 ≤ sizeLine ∧ rNewStrs (Txt.split a b) H Q) (tVar 0) (tCons (tC (V.str "\n")) tNil)) (tLst tNil) σ H Q := by
  refine ⟨_, hz, rfl, _, rfl, ?_⟩
  by_cases c : z = Str.empty
  · subst c
    refine iteFs (by decide +kernel) ⟨len10 (by simp), fun A nA => h A _ nA (sm_upd nA) ?_⟩
    rw [upd_same]
    rfl
  · refine iteTs ?_ ⟨_, hz, rfl, z, _, rfl, rfl, by decide +kernel, hl, fun A nA => h A _ nA (sm_upd nA) ?_⟩
    · show (!decide (V.str z = V.str (Str.ofString ""))) = true
      rw [decide_eq_false (fun e => c ((V.str.inj e).trans (by decide +kernel)))]
      rfl
    · rw [upd_same]
      unfold linesO
      rw [if_neg c]
section
variable {P : Program} {w : World} {K : PySem.W.Frag} {mg : Str → Option Value} {base : Heap} {C CP CD PT : Addr}
/-! ### _law_due -/
def spDue91 (PT : Addr) : Sp := fun vs H Q _ => ∃ (z : Str), vs = [.str z] ∧ TxtOk z ∧ LamX.Tabs [(PT, qLam91)] H ∧ ∀ v g H', LamX.ExtN H H' → LamX.Tabs [(PT, qLam91)] H' → DueP (linesO z) g → Da H' v g → Q v H'
abbrev s_l_due : Stmt := topS 49
abbrev N_l_due : List Str := ["_law_text", "_law_entries_here", "_law_line", "_law_moments", "_law_k", "_law_entry"]
abbrev P_l_due : List Str := ["_law_text"]
theorem sc_l_due : FnScope N_l_due P_l_due (defScope s_l_due) := ⟨rfl, rfl, rfl, by decide +kernel, rfl, by decide +kernel, by decide +kernel⟩
theorem ok_l_due (DT : DfT K mg base "_law_due" s_l_due P_l_due PT) (B : Bi mg) (c_l_entry_in : C8.Cal P w K mg base 3 "_law_entry_in" spEIn []) : C8.Cal P w K mg base 4 "_law_due" (spDue91 PT) [] := by
  refine calT_of DT sc_l_due (fun vs H Q E h => ?_) (fun f cQ A outer s H vs Q E TB hr h => ?_)
  · obtain ⟨z, rfl, _⟩ := h
    rfl
  · obtain ⟨z, rfl, tx, tb, kk⟩ := h
    have hT1 : (PT, (cxOf CX0 P w K mg base N_l_due "_law_due" (defScope s_l_due) f (.ref cQ) A outer s H E).nox.env.qual ++ ("<lambda>" : Str)) ∈ [(PT, qLam91)] := List.mem_singleton.mpr rfl
    have hT2 : ∀ p ∈ [(PT, qLam91)], p.1 = PT → p.2 = (cxOf CX0 P w K mg base N_l_due "_law_due" (defScope s_l_due) f (.ref cQ) A outer s H E).nox.env.qual ++ ("<lambda>" : Str) := fun p hp _ => by
      rw [List.mem_singleton.mp hp]
      rfl
    refine ⟨_, (pss_cons (ps_set (i := 1) sc_l_due.nd rfl (Or.inl rfl) (pe_lst pa_nil))
    (C8.pss_cut (ps_for PassesOwn.never rfl (pi_list (pe_ifExp (pt_cmpR op_ne (pv 0) pe_str (nomark _)) (pe_bm PySem.F.plainAttrs_str PySem.F.slot_str_split PySem.F.type_str_split mt_split (pv 0) (pa_cons pe_str pa_nil)) (pe_lst pa_nil))) (pg_name (i := 2) sc_l_due.nd rfl (Or.inl rfl))
      (pss_cons (ps_expr (pe_bm PySem.F.plainAttrs_list PySem.F.slot_list_append PySem.F.type_list_append mt_append (pv 1) (pa_cons (C8.pe_c c_l_entry_in hr (by decide) (by rfl) (pa_cons (pe_bm PySem.F.plainAttrs_str PySem.F.slot_str_split PySem.F.type_str_split mt_split (pv 2) (pa_cons pe_str pa_nil)) pa_nil)) pa_nil)))
    (pss_one (ps_if (pt_cmpR op_isN (pe_ix (r := rIxL K) ix_list (pv 1) (pe_un un_neg pe_int) (fun _ _ => rfl)) pe_non (nomark _))
      (pss_one (ps_ret (pe_tup (pa_cons pe_str (pa_cons (pv 2) pa_nil)))))
      pss_nil))))
    (pss_cons (ps_setLc (i := 3) (own := [("_law_entry", 5)]) (g := (gName 5)) (by rfl) sc_l_due.nd rfl rfl (sw_true rfl rfl rfl (by decide +kernel)) (pi_list (pv 1)) (blkOk_by (own := [("_law_entry", 5)]) (N := N_l_due) (sc := defScope s_l_due) (by decide +kernel)) (fun _ _ _ _ _ => (pg_name (i := 5) sc_l_due.nd rfl (Or.inl rfl))) (fun _ _ _ _ _ => pts_nil) (fun _ _ _ _ _ => (pe_ix (r := rIxT K) ix_tup (pv 5) pe_int (fun _ _ => rfl))))
    (pss_cons (ps_for PassesOwn.never rfl (pi_range1 rfl B.range_ (pa_cons (pe_callB (call_len_seq) (by rfl) B.len_ bt_len (pa_cons (pv 3) pa_nil)) pa_nil)) (pg_name (i := 4) sc_l_due.nd rfl (Or.inl rfl))
      (pss_one (ps_if (pt_cmpR op_in_seq (pe_ix (r := rIxL K) ix_list (pv 3) (pv 4) (fun _ _ => rfl)) (pe_slice sl_list (pv 3) po_none (po_some (pv 4))) rfl)
      (pss_one (ps_ret (pe_tup (pa_cons pe_str (pa_cons (pe_ix (r := rIxL K) ix_list (pv 3) (pv 4) (fun _ _ => rfl)) pa_nil)))))
      pss_nil)))
    (pss_one (ps_ret (pe_tup (pa_cons pe_str (pa_cons (pe_sortF (T := [(PT, qLam91)]) (pa_cons (pv 1) pa_nil) (by rfl) B.sorted_ (hr.mono (by decide)) TB rfl hT1 hT2 rfl (fun _ _ _ _ _ => rfl) ⟨rfl, rfl, rfl, by decide +kernel, by decide +kernel, by decide +kernel⟩ (by decide)) pa_nil))))))))), ?_⟩
    obtain ⟨tsh, tn, tl'⟩ := tx
    have lz : z.length ≤ 1000000 := tsh.1
    have fz : z.length + 2 ≤ sizeLine := by
      rw [sizeLine_eq]
      omega
    obtain ⟨ls, hls⟩ : ∃ ls, linesO z = ls := ⟨_, rfl⟩
    rw [hls] at tn tl' kk
    refine ⟨len10 (by simp), fun L nL => ?_⟩
    have zL := sm_upd (o := .lst []) nL
    have eL := upd_same (H := H) (a := L) (o := .lst [])
    generalize upd H L (.lst []) = H1 at zL eL ⊢
    refine ⟨fun σ' H' => ∃ (y2 : Option V) (vs : List V) (es : List En), σ' = [some (.str z), some (.ref L), y2, none, none, none] ∧ Same H H' ∧ H' L = some (.lst vs) ∧ EnL H' vs es ∧ ls.map (fun l => readE (splS l)) = es.map some, ?_, ?_⟩
    · refine it_lines2 rfl fz fun A H2 nA s2 eA => ⟨A, rfl, ⟨_, SqL.of eA⟩, ?_⟩
      rw [hls] at eA
      have AL : A ≠ L := fun e => by
        rw [e, eL] at nA
        cases nA
      have eL2 := s2 _ _ eL
      have s12 := zL.trans s2
      refine for_list (K := K) (a := A) (xs := ls.map V.str) (fun i σ' H' => ∃ (y2 : Option V) (vs : List V) (es : List En), σ' = [some (.str z), some (.ref L), y2, none, none, none] ∧ Same H H' ∧ H' A = some (.lst (ls.map V.str)) ∧ H' L = some (.lst vs) ∧ EnL H' vs es ∧ es.length = i ∧ (ls.take i).map (fun l => readE (splS l)) = es.map some) ⟨_, [], [], rfl, s12, eA, eL2, .nil, rfl, rfl⟩ ?_ ?_ ?_
      · rintro i σ' H' _ ⟨_, _, _, _, _, e, _⟩
        exact SqL.of e
      · rintro i x σ' H3 hx ⟨y2, vs, es, rfl, s3, eA3, eL3, hE, le, hm⟩
        rw [List.getElem?_map, Option.map_eq_some_iff] at hx
        obtain ⟨l, hl, rfl⟩ := hx
        have hi := (List.getElem?_eq_some_iff.mp hl).1
        obtain ⟨l1, l2, l3⟩ := tl' l (List.mem_of_getElem? hl)
        have sl : shT 40000 (.str l) := ⟨l1, l3⟩
        have lv := hE.len
        have ein : entIn (splS l) = readE (splS l) := (ent_in fun w hw => splS_free hw).symm
        have ne1 : 1 ≤ (splS l).length := by
          cases h : splS l with
          | nil => exact absurd h (splS_ne l)
          | cons a r => exact Nat.succ_le_succ (Nat.zero_le _)
        refine ⟨_, rfl, .inl ⟨rfl, _, SqL.of eL3⟩, _, rfl, rfl, l, _, rfl, rfl, by decide +kernel, by rw [sizeLine_eq]; omega, fun W nW => ?_⟩
        have zW := sm_upd (o := .lst ((splS l).map V.str)) nW
        have nL0 : ∀ b o, H b = some o → b ≠ L := fun b o e => ne_of_none e nL
        refine ⟨W, splS l, rfl, upd_same, ne1, wordsO_num sl, wordsO_ok sl, fun hn H5 s5 => ?_, fun e he T H5 s5 hT => ?_⟩
        · have zz := zW.trans s5
          rw [ein] at hn
          have sH : Same H (upd H5 L (.lst (vs ++ [.non]))) := fun b o eb => by
            rw [upd_ne (nL0 _ _ eb)]
            exact zz _ _ (s3 _ _ eb)
          refine ⟨L, _, _, rfl, rfl, zz _ _ eL3, small1000 (by omega), ?_⟩
          refine ⟨_, rfl, _, rfl, L, _, _, _, rfl, rfl, SqL.of upd_same, atI_last _ _, rfl, _, rfl, iteD rfl ?_⟩
          refine ⟨_, rfl, len10 (by simp), fun T nT => ?_⟩
          have zT := sm_upd (o := .tup [.str "parse", .str l]) nT
          refine kk _ _ _ (ext_same (sH.trans zT)) (tabs_same tb (sH.trans zT)) (.bad i l hl (fun u hu hno => ?_) hn) (.tup upd_same (.cons (.str _) (.cons (.str _) .nil)))
          have : (none : Option En) ∈ es.map some := by
            rw [← hm, ← hno]
            exact List.mem_map_of_mem hu
          obtain ⟨_, _, h⟩ := List.mem_map.mp this
          cases h
        · have zz := zW.trans s5
          rw [ein] at he
          have tk : TupKp H5 (upd H5 L (.lst (vs ++ [.ref T]))) := fun b xs eb => by
            rw [upd_ne (fun z => by rw [z, zz _ _ eL3] at eb; cases eb)]
            exact eb
          refine ⟨L, _, _, rfl, rfl, zz _ _ eL3, small1000 (by omega), ?_⟩
          refine ⟨_, rfl, _, rfl, L, _, _, _, rfl, rfl, SqL.of upd_same, atI_last _ _, rfl, _, rfl, iteDn (fun z => nomatch z) ?_⟩
          refine ⟨_, vs ++ [.ref T], es ++ [e], rfl, fun b o eb => ?_, ?_, upd_same, ((hE.kp (.same zz)).kp tk).snoc (hT.kp tk), by rw [List.length_append, le]; rfl, ?_⟩
          · rw [upd_ne (nL0 _ _ eb)]
            exact zz _ _ (s3 _ _ eb)
          · rw [upd_ne AL]
            exact zz _ _ eA3
          · rw [List.take_add_one, hl, List.map_append, List.map_append, hm]
            show _ ++ [readE (splS l)] = _ ++ [some e]
            rw [he]
      · rintro σ' H3 ⟨y2, vs, es, rfl, s3, eA3, eL3, hE, le, hm⟩
        rw [List.length_map, List.take_length] at hm
        exact ⟨_, vs, es, rfl, s3, eL3, hE, hm⟩
    clear zL eL
    rintro σ' H2 ⟨y2, vs, es, rfl, s2, eL2, hE, hm⟩
    have lv := hE.len
    have hle : es.length ≤ 400 := by
      have := congrArg List.length hm
      rw [List.length_map, List.length_map] at this
      omega
    -- the moments
    refine ⟨_, rfl, L, rfl, ⟨_, SqL.of eL2⟩, fun Y nY => ?_⟩
    refine lc_list (K := K) (a := L) (xs := vs) (fun i H' => Same H2 H' ∧ H' Y = some (.lst (((es.take i).map (·.m)).map V.int))) ⟨sm_upd nY, upd_same⟩ ?_ ?_ ?_
    · rintro i H' _ ⟨s', _⟩
      exact SqL.of (s' _ _ eL2)
    · rintro i y H' hy ⟨s', eY⟩
      obtain ⟨r, e, rfl, ⟨v, er, _⟩, hi⟩ := (hE.kp (.same s')).at hy
      have hi' := (List.getElem?_eq_some_iff.mp hi).1
      refine ⟨rfl, _, rfl, r, _, _, _, rfl, rfl, SqT.of er, atI_nat (j := 0) rfl, _, eY, ?_, ?_, ?_⟩
      · rw [List.length_map, List.length_map, List.length_take]
        exact small1000 (by omega)
      · intro b o eb
        rw [upd_ne (ne_of_none eb nY)]
        exact s' _ _ eb
      · rw [upd_same, List.take_add_one, hi, List.map_append, List.map_append]
        rfl
    rintro H3 ⟨s3, eY⟩
    rw [lv, List.take_length] at eY
    have lY : ((es.map (·.m)).map V.int).length = es.length := by rw [List.length_map, List.length_map]
    have eL3 := s3 _ _ eL2
    have hE3 := hE.kp (.same s3)
    have s03 := s2.trans s3
    refine ⟨_, rfl, Y, _, rfl, .inl (SqL.of eY), _, rfl, by omega, by omega, ?_⟩
    refine for_range (lo := 0) (n := ((((es.map (·.m)).map V.int).length : Int)).toNat) (fun k σ' H' => ∃ (y4 : Option V), σ' = [some (.str z), some (.ref L), y2, some (.ref Y), y4, none] ∧ Same H3 H' ∧ ((es.take k).map (·.m)).Nodup) ⟨_, rfl, Same.refl _, by simp⟩ ?_ ?_
    · rintro k σ' H4 hk ⟨y4, rfl, s4, nd⟩
      have hk : k < es.length := by omega
      obtain ⟨e, he⟩ : ∃ e, es[k]? = some e := ⟨_, List.getElem?_eq_getElem hk⟩
      have hat : ((es.map (·.m)).map V.int)[k]? = some (.int e.m) := by
        rw [List.getElem?_map, List.getElem?_map, he]
        rfl
      have eY4 := s4 _ _ eY
      refine ⟨_, rfl, _, rfl, Y, _, _, _, rfl, rfl, SqL.of eY4, by rw [Int.zero_add]; exact atI_nat hat, _, rfl, _, rfl, (0 + (k : Int)), rfl, Y, _, rfl, SqL.of eY4, fun S nS => ?_⟩
      rw [show cutV ((es.map (·.m)).map V.int) none (some (0 + (k : Int))) = ((es.take k).map (·.m)).map V.int by rw [Int.zero_add, cutV_take, List.map_take, List.map_take]]
      have zS := sm_upd (o := .lst (((es.take k).map (·.m)).map V.int)) nS
      refine ⟨S, _, rfl, .inl (SqL.of upd_same), rfl, flat_is _, _, rfl, ?_⟩
      show if (inV (V.int e.m) (((es.take k).map (·.m)).map V.int)) = true then _ else _
      rw [inV_ints]
      by_cases c : e.m ∈ (es.take k).map (·.m)
      · refine iteD c ⟨_, rfl, _, rfl, Y, _, _, _, rfl, rfl, SqL.of (zS _ _ eY4), by rw [Int.zero_add]; exact atI_nat hat, len10 (by simp), fun T nT => ?_⟩
        have zT := sm_upd (o := .tup [.str "duplicate", .int e.m]) nT
        have sz := s03.trans (s4.trans (zS.trans zT))
        exact kk _ _ _ (ext_same sz) (tabs_same tb sz) (.dup es hm k e he nd c) (.tup upd_same (.cons (.str _) (.cons (.int _) .nil)))
      · refine iteDn c ⟨_, rfl, s4.trans zS, ?_⟩
        rw [List.take_add_one, he, List.map_append, List.nodup_append]
        exact ⟨nd, by simp, fun a ha b hb => by
          have hb : b ∈ [e.m] := hb
          rw [List.mem_singleton.mp hb]
          intro z
          rw [z] at ha
          exact c ha⟩
    · rintro σ' H4 ⟨y4, rfl, s4, nd⟩
      rw [show ((((es.map (·.m)).map V.int).length : Int)).toNat = es.length by omega, List.take_length] at nd
      have hE4 := hE3.kp (.same s4)
      have s04 := s03.trans s4
      refine ⟨_, rfl, L, vs, gM H4, rfl, s4 _ _ eL3, hE4.fst, tabs_same tb s04, fun p H5 ys e5 t5 eP pm srt => ?_⟩
      obtain ⟨fs, pf, hF⟩ := EnL.perm pm hE4
      have sf : (fs.map (·.m)).Pairwise (· ≤ ·) := by
        rw [← hF.gm, List.pairwise_map]
        exact srt
      refine ⟨len10 (by simp), fun T nT => ?_⟩
      have zT := sm_upd (o := .tup [.str "parsed", .ref p]) nT
      have hF5 := hF.kp (fun b xs e => e5 _ _ e (fun _ z => by cases z))
      exact kk _ _ _ ((ext_same s04).trans (e5.trans (ext_same zT))) (tabs_same t5 zT) (.ok es fs hm nd pf sf) (.tup upd_same (.cons (.str _) (.cons (.lst (zT _ _ eP) (da_ens (hF5.kp (.same zT)))) .nil)))
end
end Lf
namespace Lf
open PySem PySem.Spec PyProof.Rows L2 TL
section
variable {P : Program} {w : World} {K : PySem.W.Frag} {mg : Str → Option Value} {base : Heap} {C CP CD : Addr}
/-- entries that the laws make -/
structure EnS (e : En) : Prop where
  w : WitW e.w
  m0 : 0 ≤ e.m
  m1 : e.m ≤ 2 ^ 44
  b : WtB e.x
theorem log_lt {x : Int} {k : Nat} (h : x.natAbs < 2 ^ k) (hk : 0 < k) : x.natAbs.log2 < k := by
  by_cases z : x.natAbs = 0
  · rw [z]
    exact hk
  · exact (Nat.log2_lt z).mpr h
theorem kbbr : kitB "bool" "bool" = some true := by decide +kernel
theorem ktbr : kitB "tuple" "bool" = some false := by decide +kernel
theorem num_300 {x : Int} (h : Bd 300 x) : (numL x.natAbs).length ≤ 200 := by
  have h : x.natAbs < 2 ^ 300 := h
  exact Nat.le_trans (numL_len (k := 91) (by decide) (Nat.lt_of_lt_of_le h (by decide +kernel))) (by decide)
theorem EnS.enb {e : En} (h : EnS e) : EnB e := ⟨h.w, h.m0, by
    refine num_300 ?_
    have h0 := h.m0
    have h1 := h.m1
    exact Nat.lt_of_le_of_lt (show e.m.natAbs ≤ 2 ^ 44 by omega) (by decide +kernel), fun d hd => by
    have hb := h.b
    rw [hd] at hb
    obtain ⟨b1, b2⟩ : Bd 300 d.t ∧ Bd 300 d.n := hb
    exact ⟨num_300 b1, num_300 b2⟩⟩
theorem atB (b : Bool) : atI [V.str "distrusted", V.str "trusted"] (if b = true then 1 else 0) = some (V.str (trW b)) := by
  cases b
  · exact atI_nat (j := 0) rfl
  · exact atI_nat (j := 1) rfl
/-! ### _law_row -/
def spRow : Sp := fun vs H Q _ => ∃ (r : Addr) (e : En), vs = [.ref r] ∧ EnAt H r e ∧ EnS e ∧ ∀ z H', Same H H' → tl z = entL e → Q (.str z) H'
abbrev s_l_row : Stmt := topS 42
abbrev N_l_row : List Str := ["_law_entry", "_law_moment", "_law_word", "_law_what", "_law_head"]
abbrev P_l_row : List Str := ["_law_entry"]
theorem sc_l_row : FnScope N_l_row P_l_row (defScope s_l_row) := ⟨rfl, rfl, rfl, by decide +kernel, rfl, by decide +kernel, by decide +kernel⟩
theorem ok_l_row (D : Df K mg "_law_row" s_l_row P_l_row) (B : Bi mg) : C8.Cal P w K mg base 1 "_law_row" spRow [] := by
  refine cal_of D sc_l_row (fun vs H Q E h => ?_) (fun f cdv A outer s H vs Q E hr h => ?_)
  · obtain ⟨r, e, rfl, _⟩ := h
    rfl
  · obtain ⟨r, e, rfl, hE, hb, kk⟩ := h
    refine ⟨_, (pss_cons (ps_asg (pv 0) (pg_tup rfl (pgs_cons (pg_name (i := 1) sc_l_row.nd rfl (Or.inl rfl)) (pgs_cons (pg_name (i := 2) sc_l_row.nd rfl (Or.inl rfl)) (pgs_cons (pg_name (i := 3) sc_l_row.nd rfl (Or.inl rfl)) pgs_nil)))))
    (pss_cons (ps_if (pt_val (pe_callB (call_isi) (by rfl) B.isinstance_ bt_isinstance (pa_cons (pv 3) (pa_cons (pe_bltn (v := .ty "bool") (by rfl) B.bool_ bt_bool rfl) pa_nil))))
      (pss_one (ps_ret (pe_op op_add_str (pe_op op_add_str (pe_op op_add_str (pe_op op_add_str (pe_callTy (call_str_int) (by rfl) B.str_ bt_str (pa_cons (pv 1) pa_nil)) pe_str) (pv 2)) pe_str) (pe_ix (r := rIxL K) ix_list (pe_lst (pa_cons pe_str (pa_cons pe_str pa_nil))) (pe_callTy (call_int1) (by rfl) B.int_ bt_int (pa_cons (pv 3) pa_nil)) (fun _ _ => rfl)))))
      pss_nil)
    (pss_cons (ps_set (i := 4) sc_l_row.nd rfl (Or.inl rfl) (pe_op op_add_str (pe_op op_add_str (pe_op op_add_str (pe_callTy (call_str_int) (by rfl) B.str_ bt_str (pa_cons (pv 1) pa_nil)) pe_str) (pv 2)) pe_str))
    (pss_one (ps_ret (pe_op op_add_str (pe_op op_add_str (pe_op op_add_str (pe_op op_add_str (pe_op op_add_str (pv 4) (pe_ix (r := rIxT K) ix_tup (pv 3) pe_int (fun _ _ => rfl))) pe_str) (pe_callTy (call_str_int) (by rfl) B.str_ bt_str (pa_cons (pe_ix (r := rIxT K) ix_tup (pv 3) pe_int (fun _ _ => rfl)) pa_nil))) pe_str) (pe_callTy (call_str_int) (by rfl) B.str_ bt_str (pa_cons (pe_ix (r := rIxT K) ix_tup (pv 3) pe_int (fun _ _ => rfl)) pa_nil)))))))), ?_⟩
    have hB := hb.enb
    obtain ⟨v, et, hx⟩ := hE
    have fitS : ∀ {n : Nat}, n ≤ 100000 → n ≤ sizeLine := fun h => by
      rw [sizeLine_eq]
      omega
    have ap : ∀ a b : Str, (a ++ b).length = a.length + b.length := fun a b => by
      rw [len_tl, tl_append, List.length_append, ← len_tl, ← len_tl]
    have c1 : (Str.ofString " ").length = 1 := by decide +kernel
    have c2 : (Str.ofString " is ").length = 4 := by decide +kernel
    have c3 : (Str.ofString " reports ").length = 9 := by decide +kernel
    have c4 : (Str.ofString " at ").length = 4 := by decide +kernel
    obtain ⟨m, w, x⟩ := e
    have l1 : (strS m).length ≤ 201 := len_strS hB.lm
    have l2 : w.length ≤ 12 := hB.w.2.1
    have lg : m.natAbs.log2 < 1920 := by
      refine Nat.lt_trans (log_lt (k := 45) ?_ (by decide)) (by decide)
      have h0 : 0 ≤ m := hb.m0
      have h1 : m ≤ 2 ^ 44 := hb.m1
      omega
    refine ⟨_, rfl, r, _, rfl, SqT.of et, rfl, _, _, rfl, _, _, rfl, _, _, rfl, rfl, ?_⟩
    cases x with
    | tr b =>
      obtain rfl : v = .bl b := hx
      refine ⟨_, rfl, _, _, _, _, true, rfl, .ty "bool", .base (.bl b), kit_ty kbbr, true, rfl, iteT ?_⟩
      refine ⟨_, rfl, m, rfl, lg, _, _, rfl, rfl, fitS (by rw [c1]; show (strS m).length + 1 ≤ _; omega), _, rfl, _, _, rfl, rfl, fitS (by rw [ap, c1]; show (strS m).length + 1 + w.length ≤ _; omega), _, _, rfl, rfl, fitS (by rw [ap, ap, c1, c2]; show (strS m).length + 1 + w.length + 4 ≤ _; omega), len10 (by simp), fun O nO => ⟨_, rfl, .inr ⟨b, rfl, ?_⟩⟩⟩
      have zO := sm_upd (o := .lst [.str "distrusted", .str "trusted"]) nO
      refine ⟨O, _, _, _, rfl, rfl, SqL.of upd_same, atB b, ?_⟩
      have lt2 : (trW b).length ≤ 10 := by cases b <;> decide +kernel
      refine ⟨_, _, rfl, rfl, fitS (by rw [ap, ap, ap, c1, c2]; show (strS m).length + 1 + w.length + 4 + (trW b).length ≤ _; omega), kk _ _ zO ?_⟩
      show tl (strS m ++ Str.ofString " " ++ w ++ Str.ofString " is " ++ trW b) = decL m ++ [32] ++ tl w ++ (tl (Str.ofString " is ") ++ tl (trW b))
      simp only [tl_append, tl_strS, tl_sp, List.append_assoc]
    | rd d =>
      obtain ⟨ra, rfl, ea⟩ := hx
      obtain ⟨bt, bn⟩ : Bd 300 d.t ∧ Bd 300 d.n := hb.b
      have ld : (strS d.t).length ≤ 201 ∧ (strS d.n).length ≤ 201 := ⟨len_strS (hB.lr d rfl).1, len_strS (hB.lr d rfl).2⟩
      have lgt : d.t.natAbs.log2 < 1920 := Nat.lt_trans (log_lt (k := 300) bt (by decide)) (by decide)
      have lgn : d.n.natAbs.log2 < 1920 := Nat.lt_trans (log_lt (k := 300) bn (by decide)) (by decide)
      have cw : (wd d.lo).length ≤ 8 := by cases d.lo <;> decide +kernel
      refine ⟨_, rfl, _, _, _, _, false, rfl, .ty "bool", .base (.tup ea), kit_ty ktbr, false, rfl, iteF ?_⟩
      refine ⟨_, rfl, m, rfl, lg, _, _, rfl, rfl, fitS (by rw [c1]; show (strS m).length + 1 ≤ _; omega), _, rfl, _, _, rfl, rfl, fitS (by rw [ap, c1]; show (strS m).length + 1 + w.length ≤ _; omega), _, _, rfl, rfl, fitS (by rw [ap, ap, c1, c3]; show (strS m).length + 1 + w.length + 9 ≤ _; omega), ?_⟩
      have lh : (strS m ++ Str.ofString " " ++ w ++ Str.ofString " reports ").length ≤ 223 := by rw [ap, ap, ap, c1, c3]; omega
      refine ⟨_, rfl, _, rfl, ra, _, _, _, rfl, rfl, SqT.of ea, atI_nat (j := 0) rfl, _, _, rfl, rfl, fitS (Nat.le_trans (Nat.add_le_add lh cw) (by decide)), ?_⟩
      have lh2 : (strS m ++ Str.ofString " " ++ w ++ Str.ofString " reports " ++ wd d.lo).length ≤ 231 := by rw [ap]; omega
      refine ⟨_, _, rfl, rfl, fitS (Nat.le_trans (Nat.add_le_add lh2 (Nat.le_of_eq c1)) (by decide)), ?_⟩
      have lh3 : (strS m ++ Str.ofString " " ++ w ++ Str.ofString " reports " ++ wd d.lo ++ Str.ofString " ").length ≤ 232 := by rw [ap]; omega
      refine ⟨_, rfl, ra, _, _, _, rfl, rfl, SqT.of ea, atI_nat (j := 2) rfl, d.n, rfl, lgn, _, _, rfl, rfl, fitS (Nat.le_trans (Nat.add_le_add lh3 ld.2) (by decide)), ?_⟩
      have lh4 : (strS m ++ Str.ofString " " ++ w ++ Str.ofString " reports " ++ wd d.lo ++ Str.ofString " " ++ strS d.n).length ≤ 433 := by rw [ap]; omega
      refine ⟨_, _, rfl, rfl, fitS (Nat.le_trans (Nat.add_le_add lh4 (Nat.le_of_eq c4)) (by decide)), ?_⟩
      have lh5 : (strS m ++ Str.ofString " " ++ w ++ Str.ofString " reports " ++ wd d.lo ++ Str.ofString " " ++ strS d.n ++ Str.ofString " at ").length ≤ 437 := by rw [ap]; omega
      refine ⟨_, rfl, ra, _, _, _, rfl, rfl, SqT.of ea, atI_nat (j := 1) rfl, d.t, rfl, lgt, _, _, rfl, rfl, fitS (Nat.le_trans (Nat.add_le_add lh5 ld.1) (by decide)), kk _ _ (Same.refl _) ?_⟩
      show tl (strS m ++ Str.ofString " " ++ w ++ Str.ofString " reports " ++ wd d.lo ++ Str.ofString " " ++ strS d.n ++ Str.ofString " at " ++ strS d.t) = decL m ++ [32] ++ tl w ++ (tl (Str.ofString " reports ") ++ (tl (wd d.lo) ++ [32] ++ decL d.n ++ tl (Str.ofString " at ") ++ decL d.t))
      simp only [tl_append, tl_strS, tl_sp, List.append_assoc]
/-! ### a text of rows -/
theorem ent_ok {e : En} (hb : EnB e) : ∀ c ∈ entL e, c < 0x110000 := fun c h => by
  have h1 : ∀ y ∈ tl (Str.ofString " is "), y < 0x110000 := by decide +kernel
  have h2 : ∀ y ∈ tl (Str.ofString " reports "), y < 0x110000 := by decide +kernel
  have h4 : ∀ b, ∀ y ∈ tl (trW b), y < 0x110000 := fun b => by cases b <;> decide +kernel
  unfold entL at h
  obtain ⟨m, w, x⟩ := e
  rcases List.mem_append.mp h with h | h
  · simp only [List.mem_append, List.mem_singleton] at h
    rcases h with (h | h) | h
    · exact decL_ok _ c h
    · omega
    · have := hb.w.2.2 c h
      omega
  · cases x with
    | tr b =>
      rcases List.mem_append.mp h with h | h
      · exact h1 _ h
      · exact h4 _ _ h
    | rd d =>
      rcases List.mem_append.mp h with h | h
      · exact h2 _ h
      · exact recL_ok d c h
theorem ent_ne (e : En) : entL e ≠ [] := fun h => by
  unfold entL at h
  have h := (List.append_eq_nil_iff.mp (List.append_eq_nil_iff.mp h).1).1
  have h := (List.append_eq_nil_iff.mp h).2
  cases h
structure RowsOk (rows : List Str) (es : List En) : Prop where
  t : rows.map tl = es.map entL
  b : ∀ e ∈ es, EnB e
  n : es.length ≤ 40
theorem RowsOk.len {rows : List Str} {es : List En} (h : RowsOk rows es) : rows.length = es.length := by
  have := congrArg List.length h.t
  rwa [List.length_map, List.length_map] at this
theorem RowsOk.row {rows : List Str} {es : List En} (h : RowsOk rows es) {z : Str} (hz : z ∈ rows) : ∃ e ∈ es, tl z = entL e ∧ EnB e := by
  have : tl z ∈ es.map entL := by
    rw [← h.t]
    exact List.mem_map_of_mem hz
  obtain ⟨e, he, hq⟩ := List.mem_map.mp this
  exact ⟨e, he, hq.symm, h.b e he⟩
theorem RowsOk.sum {rows : List Str} {es : List En} (h : RowsOk rows es) : (rows.map (·.length)).sum ≤ 900 * rows.length := by
  have : ∀ l : List Str, (∀ z ∈ l, z.length ≤ 900) → (l.map (·.length)).sum ≤ 900 * l.length := fun l => by
    induction l with
    | nil => exact fun _ => Nat.le_refl _
    | cons a l ih =>
      intro h
      rw [List.map_cons, List.sum_cons, List.length_cons]
      have := h a List.mem_cons_self
      have := ih fun z hz => h z (List.mem_cons_of_mem _ hz)
      omega
  refine this rows fun z hz => ?_
  obtain ⟨e, _, hq, hb⟩ := h.row hz
  rw [len_tl, hq]
  exact entL_len hb
theorem RowsOk.read {rows : List Str} {es : List En} (h : RowsOk rows es) : rows.map (fun l => readE (splS l)) = es.map some := by
  obtain ⟨t, b, n⟩ := h
  induction rows generalizing es with
  | nil =>
    cases es with
    | nil => rfl
    | cons e es => cases t
  | cons z rows ih =>
    cases es with
    | nil => cases t
    | cons e es =>
      rw [List.map_cons, List.map_cons, List.cons.injEq] at t
      rw [List.map_cons, List.map_cons, ent_text t.1 (b e List.mem_cons_self), ih t.2 (fun e he => b e (List.mem_cons_of_mem _ he)) (Nat.le_of_succ_le n)]
theorem RowsOk.lines {rows : List Str} {es : List En} (h : RowsOk rows es) (ne : rows ≠ []) : linesO (Txt.join (Str.ofString "\n") rows) = rows := by
  refine lines_join ne (fun z hz e => ?_) (fun z hz => ?_)
  · obtain ⟨e', _, hq, _⟩ := h.row hz
    rw [e] at hq
    exact ent_ne e' hq.symm
  · obtain ⟨e', _, hq, hb⟩ := h.row hz
    rw [hq]
    exact ent_no hb (by decide)
theorem joinL_mem10 {c : Nat} : ∀ {ps : List (List Nat)}, c ∈ joinL [10] ps → c = 10 ∨ ∃ p ∈ ps, c ∈ p
  | [], h => nomatch h
  | [p], h => .inr ⟨p, List.mem_cons_self, h⟩
  | p :: q :: ps, h => by
    have h : c ∈ p ++ ([10] ++ joinL [10] (q :: ps)) := h
    rcases List.mem_append.mp h with h | h
    · exact .inr ⟨p, List.mem_cons_self, h⟩
    · rcases List.mem_append.mp h with h | h
      · exact .inl (List.mem_singleton.mp h)
      · rcases joinL_mem10 h with h | ⟨u, hu, h⟩
        · exact .inl h
        · exact .inr ⟨u, List.mem_cons_of_mem _ hu, h⟩
theorem joinL_len10 : ∀ ps : List (List Nat), (joinL [10] ps).length ≤ (ps.map List.length).sum + ps.length
  | [] => Nat.le_refl _
  | [p] => by
    show p.length ≤ p.length + 0 + 1
    omega
  | p :: q :: ps => by
    have ih := joinL_len10 (q :: ps)
    have e : (joinL [10] (p :: q :: ps)).length = p.length + (1 + (joinL [10] (q :: ps)).length) := by
      show (p ++ ([10] ++ joinL [10] (q :: ps))).length = _
      rw [List.length_append, List.length_append]
      rfl
    rw [e, List.map_cons, List.sum_cons, List.length_cons]
    omega
theorem RowsOk.text {rows : List Str} {es : List En} (h : RowsOk rows es) : shT 1000000 (.str (Txt.join (Str.ofString "\n") rows)) := by
  have ht : tl (Txt.join (Str.ofString "\n") rows) = joinL [10] (rows.map tl) := by rw [join_eq, tl_join, tl_nl]
  constructor
  · rw [len_tl, ht]
    refine Nat.le_trans (joinL_len10 _) ?_
    have e : (rows.map tl).map List.length = rows.map (·.length) := by
      rw [List.map_map]
      exact List.map_congr_left fun z _ => (len_tl z).symm
    have := h.sum
    have := h.len
    have := h.n
    rw [e, List.length_map]
    omega
  · rw [strOk_tl, ht]
    intro c hc
    rcases joinL_mem10 hc with rfl | ⟨p, hp, hc⟩
    · decide
    · obtain ⟨z, hz, rfl⟩ := List.mem_map.mp hp
      obtain ⟨e, _, hq, hb⟩ := h.row hz
      rw [hq] at hc
      exact ent_ok hb c hc
theorem RowsOk.spec {rows : List Str} {es : List En} (h : RowsOk rows es) {J : Str} (hJ : linesO J = rows) (sh : shT 1000000 (.str J)) {H : Hp} {Q : VK} {E : XK}
    (k1 : (es.map (·.m)).Nodup → ∀ o D H', Same H H' → H D = none → LogAt C H' o D es → Q (.ref o) H')
    (k2 : ∀ (j : Nat) e, es[j]? = some e → ((es.take j).map (·.m)).Nodup → e.m ∈ (es.take j).map (·.m) → ∀ H', Same H H' → Out CD (.int e.m) H' E) : spPLog C CP CD [.str J] H Q E := by
  have el : linesD (.str J) = rows := hJ
  refine ⟨.str J, .str J, rfl, .str J, sh, fun h => (nomatch h), fun _ => ?_⟩
  rw [el]
  have hn := h.n
  have hl := h.len
  refine ⟨by omega, fun l hlr => ?_, fun j l hlj _ hno => ?_, fun es' he => ?_⟩
  · obtain ⟨e, he, hq, hb⟩ := h.row hlr
    have le : l.length ≤ 900 := by
      rw [len_tl, hq]
      exact entL_len hb
    refine ⟨by omega, ?_, strOk_tl.mpr (by rw [hq]; exact ent_ok hb)⟩
    have hw := ent_words hq hb
    rw [hw]
    have : e.w.length ≤ 40000 := Nat.le_trans hb.w.2.1 (by decide)
    obtain ⟨m, w, x⟩ := e
    cases x <;> exact this
  · have := h.read
    have h2 : (rows.map (fun l => readE (splS l)))[j]? = some none := by
      rw [List.getElem?_map, hlj]
      show some (readE (splS l)) = _
      rw [hno]
    rw [this, List.getElem?_map] at h2
    cases hx : es[j]? with
    | none => rw [hx] at h2; cases h2
    | some e => rw [hx] at h2; cases h2
  · rw [h.read] at he
    have : es = es' := by
      have := congrArg (List.filterMap id) he
      simpa [List.filterMap_map] using this
    subst this
    exact ⟨k1, k2⟩
def spTwo : Sp := fun vs H Q _ => ∃ (R : Addr) (rows : List Str) (es : List En), vs = [.ref R] ∧ H R = some (.lst (rows.map V.str)) ∧ RowsOk rows es ∧ es ≠ [] ∧ es.length ≤ 30 ∧ (es.map (·.m)).Nodup ∧ ∀ H', Same H H' → Q (.bl true) H'
theorem int_strS {n : Int} (h : (numL n.natAbs).length ≤ 200) : intText? (strS n) = some n := by
  have e := readI_strS h
  unfold readI at e
  by_cases c : ReadOk (tl (strS n))
  · rw [if_pos c] at e
    rw [intText_read c]
    exact e
  · rw [if_neg c] at e
    cases e
def tbTwo (K : PySem.W.Frag) (C CP CD : Addr) (W : WX) : TS := tDrop (tCallS (spPLog C CP CD) (WE W) (tCons (tBM K "str" (fun x xs H Q => ∃ a p ys, x = V.str a ∧ xs = [V.ref p] ∧ (SqL K H p (List.map V.str ys) ∨ SqT K H p (List.map V.str ys)) ∧ (List.map (fun x => x.length) ys).sum + ys.length * a.length ≤ 16777216 ∧ Q (V.str (Txt.join a ys)) H) (tC (V.str "\n"))
  (tCons (tOp rCat (tVar 0) (tLst (tCons (tOp (fun x y H Q => ∃ i j, x = V.str i ∧ y = V.str j ∧ i.length + j.length ≤ sizeLine ∧ Q (V.str (i ++ j)) H) (tOp (rIxL K) (tBM K "str" (fun x xs H Q => ∃ a b, x = V.str a ∧ xs = [V.str b] ∧ (b.length == 0) = false ∧ a.length + 2 ≤ sizeLine ∧ rNewStrs (Txt.split a b) H Q) (tOp (rIxL K) (tVar 0) (tC (V.int 0))) (tCons (tC (V.str " ")) tNil)) (tC (V.int 0))) (tC (V.str " zzz is trusted"))) tNil))) tNil)) tNil))
theorem zzz_wit : WitW (Str.ofString "zzz") := (wit_iff _).mp (by decide +kernel)
end
end Lf
namespace Lf
open PySem PySem.Spec PyProof.Rows L2 TL
/-! ### plain lines, and how many newlines they hold -/
def nl (z : Str) : Nat := (tl z).count 10
structure Ln (n k : Nat) (z : Str) : Prop where
  l : Lin n z
  c : nl z ≤ k
theorem Ln.mono {n m k j : Nat} {z : Str} (h : Ln n k z) (e : n ≤ m) (f : k ≤ j) : Ln m j z := ⟨h.l.mono e, Nat.le_trans h.c f⟩
theorem Ln.app {n m k j : Nat} {a b : Str} (ha : Ln n k a) (hb : Ln m j b) : Ln (n + m) (k + j) (a ++ b) := by
  refine ⟨ha.l.app hb.l, ?_⟩
  have h1 := ha.c
  have h2 := hb.c
  unfold nl at *
  rw [tl_append, List.count_append]
  omega
theorem Ln.cut {n k : Nat} {z : Str} (h : Ln n k z) (lo hi : Option Int) : Ln n k (cutS z lo hi) := by
  refine ⟨h.l.cut lo hi, Nat.le_trans ?_ h.c⟩
  show ((((tl z).drop (HT.sIx z.length 0 lo)).take (HT.sIx z.length z.length hi - HT.sIx z.length 0 lo)).toArray.toList).count 10 ≤ _
  rw [List.toList_toArray]
  exact ((List.take_sublist _ _).trans (List.drop_sublist _ _)).count_le 10
theorem Ln.of {n k : Nat} {z : Str} (h : (decide (z.length ≤ n) && (z.cps.toList.all (fun c => decide (c < 128)) && decide (nl z ≤ k))) = true) : Ln n k z := by
  rw [Bool.and_eq_true, Bool.and_eq_true] at h
  exact ⟨Lin.of (by rw [Bool.and_eq_true]; exact ⟨h.1, h.2.1⟩), of_decide_eq_true h.2.2⟩
theorem Ln.up {n k : Nat} {z : Str} (h : Ln n k z) : Ln (3 * n) k (Txt.upper z) := by
  refine ⟨h.l.up, Nat.le_trans (Nat.le_of_eq ?_) h.c⟩
  unfold nl
  rw [upper_ascii (x := z) h.l.asc]
  show ((z.cps.map up1).toList).count 10 = (z.cps.toList).count 10
  rw [Array.toList_map]
  have : ∀ l : List Nat, (∀ c ∈ l, c < 128) → (l.map up1).count 10 = l.count 10 := fun l => by
    induction l with
    | nil => exact fun _ => rfl
    | cons a r ih =>
      intro hl
      have ha := hl a List.mem_cons_self
      have hu : ∀ c, c < 128 → ((up1 c == 10) = (c == 10)) := by decide +kernel
      rw [List.map_cons, List.count_cons, List.count_cons, ih fun c hc => hl c (List.mem_cons_of_mem _ hc), hu a ha]
  exact this _ h.l.asc
theorem spl_cnt : ∀ (l acc : List Nat), ((spl [32] 0 acc l).map (List.count 10)).sum = acc.count 10 + l.count 10
  | [], acc => by
    rw [spl_nil]
    simp
  | c :: r, acc => by
    by_cases hc : pre [32] (c :: r) = true
    · rw [spl_hit hc, List.map_cons, List.sum_cons]
      have := spl_cnt r []
      show acc.count 10 + ((spl [32] 0 [] r).map (List.count 10)).sum = _
      have e : c = 32 := by
        have h : (c == 32 && pre [] r) = true := by simpa [pre] using hc
        rw [Bool.and_eq_true] at h
        exact eq_of_beq h.1
      rw [this, e, List.count_cons]
      simp
    · rw [spl_miss (by simpa using hc)]
      have := spl_cnt r (acc ++ [c])
      rw [this, List.count_append, List.count_cons, List.count_cons]
      simp
      omega
theorem splS_cnt (z : Str) : ((splS z).map nl).sum = nl z := by
  have := spl_cnt (tl z) []
  rw [← tl_splS, List.map_map] at this
  have e : (splS z).map nl = (splS z).map (List.count 10 ∘ tl) := rfl
  rw [e, this]
  simp [nl]
theorem joinL_cnt : ∀ ps : List (List Nat), (joinL [32] ps).count 10 = (ps.map (List.count 10)).sum
  | [] => rfl
  | [p] => by
    show p.count 10 = _
    simp
  | p :: q :: r => by
    have := joinL_cnt (q :: r)
    show (p ++ ([32] ++ joinL [32] (q :: r))).count 10 = _
    rw [List.count_append, List.count_append, this, List.map_cons (a := p), List.sum_cons]
    simp
theorem Ln.join {n s k : Nat} {ws : List Str} (h : ∀ w ∈ ws, Lin n w) (hs : (ws.map (·.length)).sum ≤ s) (hc : (ws.map nl).sum ≤ k) : Ln (s + ws.length) k (Txt.join (Str.ofString " ") ws) := by
  refine ⟨Lin.join h hs, Nat.le_trans (Nat.le_of_eq ?_) hc⟩
  unfold nl
  rw [join_eq, tl_join, tl_sp, joinL_cnt, List.map_map]
  rfl
theorem sum_takeF {α : Type} (f : α → Nat) (l : List α) (k : Nat) : ((l.take k).map f).sum ≤ (l.map f).sum := by
  have := sum_drop (l := l.map f) k
  rw [List.map_take]
  omega
theorem sum_dropF {α : Type} (f : α → Nat) (l : List α) (k : Nat) : ((l.drop k).map f).sum ≤ (l.map f).sum := by
  have := sum_drop (l := l.map f) k
  rw [List.map_drop]
  omega
/-! ### the lines of joined rows -/
theorem spl_app : ∀ (a acc b : List Nat), spl [10] 0 acc (a ++ 10 :: b) = spl [10] 0 acc a ++ spl [10] 0 [] b
  | [], acc, b => by
    rw [spl_nil]
    show spl [10] 0 acc (10 :: b) = _
    rw [spl_hit (by rfl)]
    rfl
  | x :: a, acc, b => by
    show spl [10] 0 acc (x :: (a ++ 10 :: b)) = _
    by_cases hx : x = 10
    · subst hx
      rw [spl_hit (by rfl), spl_hit (by rfl)]
      show acc :: spl [10] 0 [] (a ++ 10 :: b) = _
      rw [spl_app a [] b]
      rfl
    · have n1 : ∀ r, pre [10] (x :: r) = false := fun r => by
        have : (x == 10) = false := by simpa using hx
        simp [pre, this]
      rw [spl_miss (n1 _), spl_miss (n1 _)]
      exact spl_app a (acc ++ [x]) b
theorem spl_num10 : ∀ (l acc : List Nat), (spl [10] 0 acc l).length = l.count 10 + 1
  | [], acc => by
    rw [spl_nil]
    rfl
  | x :: r, acc => by
    by_cases hx : x = 10
    · subst hx
      rw [spl_hit (by rfl)]
      show (acc :: spl [10] 0 [] r).length = _
      rw [List.length_cons, spl_num10 r [], List.count_cons]
      simp
    · have n1 : pre [10] (x :: r) = false := by
        have : (x == 10) = false := by simpa using hx
        simp [pre, this]
      rw [spl_miss n1, spl_num10 r (acc ++ [x]), List.count_cons]
      simp [hx]
theorem spl_mem10 : ∀ (l acc : List Nat), ∀ p ∈ spl [10] 0 acc l, p.length ≤ acc.length + l.length ∧ ∀ c ∈ p, c ∈ acc ∨ c ∈ l
  | [], acc, p, h => by
    rw [spl_nil, List.mem_singleton] at h
    rw [h]
    exact ⟨Nat.le_add_right _ _, fun c hc => .inl hc⟩
  | x :: r, acc, p, h => by
    by_cases hx : pre [10] (x :: r) = true
    · rw [spl_hit hx] at h
      rcases List.mem_cons.mp h with rfl | h
      · exact ⟨Nat.le_add_right _ _, fun c hc => .inl hc⟩
      · have h : p ∈ spl [10] 0 [] r := h
        obtain ⟨h1, h2⟩ := spl_mem10 r [] p h
        refine ⟨by simp at h1 ⊢; omega, fun c hc => ?_⟩
        rcases h2 c hc with q | q
        · cases q
        · exact .inr (List.mem_cons_of_mem _ q)
    · rw [spl_miss (by simpa using hx)] at h
      obtain ⟨h1, h2⟩ := spl_mem10 r (acc ++ [x]) p h
      refine ⟨by simp at h1 ⊢; omega, fun c hc => ?_⟩
      rcases h2 c hc with q | q
      · rcases List.mem_append.mp q with q | q
        · exact .inl q
        · exact .inr (by rw [List.mem_singleton.mp q]; exact List.mem_cons_self)
      · exact .inr (List.mem_cons_of_mem _ q)
/-- the lines of joined rows: as many as newlines, each no longer than a row -/
theorem join_lines {n k : Nat} : ∀ {ps : List (List Nat)}, ps ≠ [] → (∀ p ∈ ps, p.length ≤ n ∧ (∀ c ∈ p, c < 128) ∧ p.count 10 ≤ k) → (spl [10] 0 [] (joinL [10] ps)).length ≤ ps.length * (k + 1) ∧ ∀ q ∈ spl [10] 0 [] (joinL [10] ps), q.length ≤ n ∧ ∀ c ∈ q, c < 128
  | [], h, _ => absurd rfl h
  | [p], _, hp => by
    obtain ⟨h1, h2, h3⟩ := hp p List.mem_cons_self
    show (spl [10] 0 [] p).length ≤ 1 * (k + 1) ∧ ∀ q ∈ spl [10] 0 [] p, _
    refine ⟨by rw [spl_num10]; omega, fun q hq => ?_⟩
    obtain ⟨g1, g2⟩ := spl_mem10 p [] q hq
    refine ⟨by simp at g1; omega, fun c hc => ?_⟩
    rcases g2 c hc with g | g
    · cases g
    · exact h2 c g
  | p :: q :: r, _, hp => by
    obtain ⟨h1, h2, h3⟩ := hp p List.mem_cons_self
    obtain ⟨i1, i2⟩ := join_lines (ps := q :: r) (by simp) fun u hu => hp u (List.mem_cons_of_mem _ hu)
    have e : joinL [10] (p :: q :: r) = p ++ 10 :: joinL [10] (q :: r) := rfl
    rw [e, spl_app]
    refine ⟨?_, fun u hu => ?_⟩
    · rw [List.length_append, spl_num10, List.length_cons (a := p), Nat.succ_mul]
      omega
    · rcases List.mem_append.mp hu with hu | hu
      · obtain ⟨g1, g2⟩ := spl_mem10 p [] u hu
        refine ⟨by simp at g1; omega, fun c hc => ?_⟩
        rcases g2 c hc with g | g
        · cases g
        · exact h2 c g
      · exact i2 u hu
theorem lines_tl {z : Str} (h : z ≠ Str.empty) : (linesO z).map tl = spl [10] 0 [] (tl z) := by
  unfold linesO
  rw [if_neg h]
  have := split_spl z (Str.ofString "\n") (by rw [tl_nl]; simp) (kind_ok (by decide +kernel))
  rw [tl_nl] at this
  exact this
theorem txt_of {n k : Nat} {zs : List Str} (hn : n ≤ 40000) (hz : ∀ z ∈ zs, Ln n k z) (ne : zs ≠ []) (hk : zs.length * (k + 1) ≤ 400) (hl : zs.length ≤ 20) : TxtOk (Txt.join (Str.ofString "\n") zs) := by
  have et : tl (Txt.join (Str.ofString "\n") zs) = joinL [10] (zs.map tl) := by rw [join_eq, tl_join, tl_nl]
  have ps : ∀ p ∈ zs.map tl, p.length ≤ n ∧ (∀ c ∈ p, c < 128) ∧ p.count 10 ≤ k := fun p hp => by
    obtain ⟨z, hz', rfl⟩ := List.mem_map.mp hp
    have h := hz z hz'
    exact ⟨by rw [← len_tl]; exact h.l.len, h.l.asc, h.c⟩
  obtain ⟨j1, j2⟩ := join_lines (n := n) (k := k) (by simpa using ne) ps
  rw [List.length_map] at j1
  have hlen : (joinL [10] (zs.map tl)).length ≤ 1000000 := by
    have : ∀ ps : List (List Nat), (∀ p ∈ ps, p.length ≤ 40000) → (joinL [10] ps).length ≤ 40001 * ps.length := fun ps => by
      induction ps with
      | nil => exact fun _ => Nat.le_refl _
      | cons p r ih =>
        intro h
        have hp := h p List.mem_cons_self
        have ih := ih fun q hq => h q (List.mem_cons_of_mem _ hq)
        cases r with
        | nil =>
          show p.length ≤ 40001 * 1
          omega
        | cons q r =>
          show (p ++ ([10] ++ joinL [10] (q :: r))).length ≤ _
          rw [List.length_append, List.length_append, List.length_cons (a := p), Nat.mul_succ]
          simp only [List.length_cons, List.length_nil] at ih ⊢
          omega
    have := this (zs.map tl) fun p hp => Nat.le_trans (ps p hp).1 hn
    rw [List.length_map] at this
    omega
  have hasc : ∀ c ∈ joinL [10] (zs.map tl), c < 128 := by
    have : ∀ ps : List (List Nat), (∀ p ∈ ps, ∀ c ∈ p, c < 128) → ∀ c ∈ joinL [10] ps, c < 128 := fun ps => by
      induction ps with
      | nil => exact fun _ c hc => nomatch hc
      | cons p r ih =>
        intro h c hc
        cases r with
        | nil => exact h p List.mem_cons_self c hc
        | cons q r =>
          have hc : c ∈ p ++ ([10] ++ joinL [10] (q :: r)) := hc
          rcases List.mem_append.mp hc with hc | hc
          · exact h p List.mem_cons_self c hc
          · rcases List.mem_append.mp hc with hc | hc
            · have := List.mem_singleton.mp hc
              omega
            · exact ih (fun q hq => h q (List.mem_cons_of_mem _ hq)) c hc
    exact this _ fun p hp => (ps p hp).2.1
  refine ⟨⟨by rw [len_tl, et]; exact hlen, strOk_tl.mpr fun c hc => by rw [et] at hc; have := hasc c hc; omega⟩, ?_, fun l hlm => ?_⟩
  · by_cases h0 : Txt.join (Str.ofString "\n") zs = Str.empty
    · rw [h0]
      exact Nat.zero_le _
    · have := congrArg List.length (lines_tl h0)
      rw [List.length_map, et] at this
      omega
  · by_cases h0 : Txt.join (Str.ofString "\n") zs = Str.empty
    · rw [h0] at hlm
      cases hlm
    · have m : tl l ∈ (linesO (Txt.join (Str.ofString "\n") zs)).map tl := List.mem_map_of_mem hlm
      rw [lines_tl h0, et] at m
      obtain ⟨g1, g2⟩ := j2 _ m
      have ll : Lin n l := ⟨by rw [len_tl]; exact g1, g2⟩
      refine ⟨Nat.le_trans ll.len hn, ?_, ll.ok⟩
      rw [List.getD_eq_getElem?_getD]
      cases h : (splS l)[1]? with
      | none => exact Nat.zero_le _
      | some u => exact Nat.le_trans (splS_lin ll (List.mem_of_getElem? h)).len hn
end Lf
namespace Lf
open PySem PySem.Spec PyProof.Rows L2 TL
section
variable {P : Program} {w : World} {K : PySem.W.Frag} {mg : Str → Option Value} {base : Heap}
/-! ### _law_changed -/
def LinL (n : Nat) (zs : List Str) : Prop := ∀ z ∈ zs, Lin n z
theorem LinL.app {n : Nat} {a b : List Str} (ha : LinL n a) (hb : LinL n b) : LinL n (a ++ b) := fun z hz => (List.mem_append.mp hz).elim (ha z) (hb z)
theorem mem_cnt {w : Str} : ∀ {ws : List Str}, w ∈ ws → nl w ≤ (ws.map nl).sum
  | a :: r, h => by
    rw [List.map_cons, List.sum_cons]
    rcases List.mem_cons.mp h with rfl | h
    · exact Nat.le_add_right _ _
    · exact Nat.le_trans (mem_cnt h) (Nat.le_add_left _ _)
def LnL (n k : Nat) (zs : List Str) : Prop := ∀ z ∈ zs, Ln n k z
theorem LnL.app {n k : Nat} {a b : List Str} (ha : LnL n k a) (hb : LnL n k b) : LnL n k (a ++ b) := fun z hz => (List.mem_append.mp hz).elim (ha z) (hb z)
theorem sum_take_le (l : List Str) (k : Nat) : ((l.take k).map (·.length)).sum ≤ (l.map (·.length)).sum := by
  have := sum_drop (l := l.map (·.length)) k
  rw [List.map_take]
  omega
theorem sum_drop_le (l : List Str) (k : Nat) : ((l.drop k).map (·.length)).sum ≤ (l.map (·.length)).sum := by
  have := sum_drop (l := l.map (·.length)) k
  rw [List.map_drop]
  omega
/-- a list made in the body: not at an address of what stood before -/
structure Ap (H : Hp) (a : PA) (O : Addr) : Prop where
  f : ∀ b o, H b = some o → (∀ x : Addr × Int × Int, o ≠ .dK (penD x.1 x.2.1 x.2.2)) → b ≠ O
  l : a.l ≠ O
theorem Ap.of {H H' : Hp} {a : PA} {O : Addr} {n : Nat} (f : Fr H H') (p : Pen H' a n) (h : H' O = none) : Ap H a O := by
  obtain ⟨cs, t, r, h1, h2, h3⟩ := p.ex
  exact ⟨fun b o e z => ne_of_none (f.k _ _ e z) h, ne_of_none h2 h⟩
theorem Ap.fr {H H' : Hp} {a : PA} {O : Addr} {o : HO} (A : Ap H a O) (f : Fr H H') : Fr H (upd H' O o) :=
  ⟨fun b o e n => by rw [upd_ne (A.f _ _ e n)]; exact f.k _ _ e n⟩
theorem Ap.pen {H H' : Hp} {a : PA} {O : Addr} {o : HO} {n : Nat} {xs : List V} (A : Ap H a O) (p : Pen H' a n) (e : H' O = some (.lst xs)) : Pen (upd H' O o) a n := by
  obtain ⟨cs, t, r, h1, h2, h3⟩ := p.ex
  exact ⟨cs, t, r, by rw [upd_ne (ne_of h1 e (by intro z; cases z))]; exact h1, by rw [upd_ne A.l]; exact h2, h3⟩
def spChgd : Sp := fun vs H Q _ => ∃ (a : PA) (n u q : Nat) (z : Str), vs = [.ref a, .str z] ∧ Pen H a n ∧ n < 2 ^ 38 ∧ u ≤ 8700 ∧ Ln u q z ∧ ∀ y H', Ln (4 * u + 5100) (2 * q + 1) y → Pen H' a (n + 10) → Fr H H' → Q (.str y) H'
abbrev s_l_changed : Stmt := topS 47
abbrev N_l_changed : List Str := ["_law_state", "_law_line", "_law_words_here", "_law_at", "_law_spot", "_law_signs", "_law_sign", "_law_some", "_law_word"]
abbrev P_l_changed : List Str := ["_law_state", "_law_line"]
theorem sc_l_changed : FnScope N_l_changed P_l_changed (defScope s_l_changed) := ⟨rfl, rfl, rfl, by decide +kernel, rfl, by decide +kernel, by decide +kernel⟩
theorem ok_l_changed (D : Df K mg "_law_changed" s_l_changed P_l_changed) (B : Bi mg) (c_l_draw : C8.Cal P w K mg base 1 "_law_draw" spDraw []) : C8.Cal P w K mg base 2 "_law_changed" spChgd [] := by
  refine cal_of D sc_l_changed (fun vs H Q E h => ?_) (fun f cdv A outer s H vs Q E hr h => ?_)
  · obtain ⟨a, n, u, q, z, rfl, _⟩ := h
    rfl
  · obtain ⟨a, n, u, q, z, rfl, hP, hn, hu6, hz2, kk⟩ := h
    have hz := hz2.l
    have hcz := splS_cnt z
    have hzq := hz2.c
    have dB : ∀ x : Int, 0 < x → x < 2 ^ 36 → Bd 9000 x := fun x h0 h => Bd.small 40 (by omega) (by decide)
    refine ⟨_, (pss_cons (ps_par (i := 2) (j := 3) rfl sc_l_changed.nd rfl rfl (by decide) rfl rfl (pa_cons (pe_bm PySem.F.plainAttrs_str PySem.F.slot_str_split PySem.F.type_str_split mt_split (pv 1) (pa_cons pe_str pa_nil)) (pa_cons (C8.pe_c c_l_draw hr (by decide) (by rfl) (pa_cons (pv 0) (pa_cons (pe_op op_add (pe_callB (call_len_str) (by rfl) B.len_ bt_len (pa_cons (pv 1) pa_nil)) pe_int) pa_nil))) pa_nil)) rfl)
    (pss_cons (ps_par (i := 4) (j := 5) rfl sc_l_changed.nd rfl rfl (by decide) rfl rfl (pa_cons (C8.pe_c c_l_draw hr (by decide) (by rfl) (pa_cons (pv 0) (pa_cons (pe_callB (call_len_seq) (by rfl) B.len_ bt_len (pa_cons (pv 2) pa_nil)) pa_nil))) (pa_cons pe_str pa_nil)) rfl)
    (pss_cons (ps_set (i := 6) sc_l_changed.nd rfl (Or.inl rfl) (pe_ix ix_str (pv 5) (C8.pe_c c_l_draw hr (by decide) (by rfl) (pa_cons (pv 0) (pa_cons (pe_callB (call_len_str) (by rfl) B.len_ bt_len (pa_cons (pv 5) pa_nil)) pa_nil))) (fun _ _ => rfl)))
    (C8.pss_cut (ps_set (i := 7) sc_l_changed.nd rfl (Or.inl rfl) (pe_lst (pa_cons (pe_op op_add_str (pe_op op_add_str (pe_slice sl_str (pv 1) po_none (po_some (pv 3))) (pv 6)) (pe_slice sl_str (pv 1) (po_some (pv 3)) po_none)) (pa_cons (pe_op op_add_str (pe_slice sl_str (pv 1) po_none (po_some (pv 3))) (pe_slice sl_str (pv 1) (po_some (pe_op op_add (pv 3) pe_int)) po_none)) (pa_cons (pe_op op_add_str (pe_op op_add_str (pe_slice sl_str (pv 1) po_none (po_some (pv 3))) (pv 6)) (pe_slice sl_str (pv 1) (po_some (pe_op op_add (pv 3) pe_int)) po_none)) pa_nil)))))
    (C8.pss_cut (ps_set (i := 7) sc_l_changed.nd rfl (Or.inl rfl) (pe_op op_cat (pv 7) (pe_lst (pa_cons (pe_op op_add_str (pv 1) pe_str) (pa_cons (pe_op op_add_str pe_str (pv 1)) (pa_cons pe_str (pa_cons (pe_bm PySem.F.plainAttrs_str PySem.F.slot_str_join PySem.F.type_str_join mt_join pe_str (pa_cons (pe_op op_cat (pe_slice sl_list (pv 2) po_none (po_some (pv 4))) (pe_slice sl_list (pv 2) (po_some (pe_op op_add (pv 4) pe_int)) po_none)) pa_nil)) (pa_cons (pe_op op_add_str (pv 1) pe_str) (pa_cons (pe_bm0 PySem.F.plainAttrs_str PySem.F.slot_str_upper PySem.F.type_str_upper mt_upper (pv 1)) pa_nil)))))))))
    (C8.pss_cut (ps_set (i := 7) sc_l_changed.nd rfl (Or.inl rfl) (pe_op op_cat (pv 7) (pe_lst (pa_cons (pe_bm PySem.F.plainAttrs_str PySem.F.slot_str_join PySem.F.type_str_join mt_join pe_str (pa_cons (pe_op op_cat (pe_slice sl_list (pv 2) po_none (po_some (pe_op op_add (pv 4) pe_int))) (pe_slice sl_list (pv 2) (po_some (pv 4)) po_none)) pa_nil)) (pa_cons (pe_ix (r := rIxL K) ix_list (pv 2) pe_int (fun _ _ => rfl)) (pa_cons (pe_op op_add_str pe_str (pv 1)) (pa_cons (pe_op op_add_str pe_str (pv 1)) (pa_cons (pe_op op_add_str (pv 1) pe_str) pa_nil))))))))
    (C8.pss_cut (ps_set (i := 8) sc_l_changed.nd rfl (Or.inl rfl) (pe_ix (r := rIxL K) ix_list (pe_lst (pa_cons pe_str (pa_cons pe_str (pa_cons pe_str (pa_cons pe_str (pa_cons (pe_op op_mulS pe_str pe_int) (pa_cons (pe_op op_add_str pe_str (pe_op op_mulS pe_str pe_int)) (pa_cons (pe_op op_mulS pe_str pe_int) (pa_cons (pe_op op_mulS pe_str pe_int) pa_nil))))))))) (C8.pe_c c_l_draw hr (by decide) (by rfl) (pa_cons (pv 0) (pa_cons pe_int pa_nil))) (fun _ _ => rfl)))
    (pss_cons (ps_expr (pe_bm PySem.F.plainAttrs_list PySem.F.slot_list_append PySem.F.type_list_append mt_append (pv 7) (pa_cons (pe_bm PySem.F.plainAttrs_str PySem.F.slot_str_join PySem.F.type_str_join mt_join pe_str (pa_cons (pe_op op_cat (pe_op op_cat (pe_slice sl_list (pv 2) po_none (po_some (pv 4))) (pe_lst (pa_cons (pv 8) pa_nil))) (pe_slice sl_list (pv 2) (po_some (pe_op op_add (pv 4) pe_int)) po_none)) pa_nil)) pa_nil)))
    (pss_one (ps_ret (pe_ix (r := rIxL K) ix_list (pv 7) (C8.pe_c c_l_draw hr (by decide) (by rfl) (pa_cons (pv 0) (pa_cons pe_int pa_nil))) (fun _ _ => rfl)))))))))))), ?_⟩
    have fitS : ∀ {n : Nat}, n ≤ 100000 → n ≤ sizeLine := fun h => by
      rw [sizeLine_eq]
      omega
    have zl := hz.len
    have w1 := splS_ne z
    have w2' := splS_num z
    have w3 := splS_sum z
    have w4 : LinL u (splS z) := fun w hw => splS_lin hz hw
    refine ⟨_, rfl, rfl, z, _, rfl, rfl, by decide +kernel, by rw [sizeLine_eq]; omega, fun W nW => ?_⟩
    have zW := sm_upd (o := .lst ((splS z).map V.str)) nW
    have eW := upd_same (H := H) (a := W) (o := .lst ((splS z).map V.str))
    have hP0 := hP.same zW
    obtain ⟨ws, hws⟩ : ∃ ws, splS z = ws := ⟨_, rfl⟩
    have eq : Txt.split z (Str.ofString " ") = ws := hws
    rw [eq]
    rw [hws] at w1 w2' w3 w4 zW eW hP0 hcz
    have fW := Fr.same zW
    generalize upd H W (.lst (ws.map V.str)) = H0 at eW hP0 fW ⊢
    have lmap : (ws.map V.str).length = ws.length := List.length_map _
    have w1 : 1 ≤ ws.length := by
      cases ws with
      | nil => exact absurd rfl w1
      | cons x r => exact Nat.succ_le_succ (Nat.zero_le _)
    refine ⟨_, rfl, _, rfl, z, rfl, fitS (by omega), _, _, rfl, rfl, a, _, _, rfl, hP0, by omega, by omega, Bd.small 20 (by omega) (by decide), fun at_ H1 at0 at1 hP1 f1 => ⟨_, _, rfl, ?_⟩⟩
    refine ⟨_, rfl, _, rfl, W, _, rfl, .inl (SqL.of (f1.l _ _ eW)), a, _, _, rfl, hP1, by omega, by omega, Bd.small 20 (by omega) (by decide), fun sp H2 sp0 sp1 hP2 f2 => ⟨_, _, rfl, ?_⟩⟩
    have lsg : Lin 32 (Str.ofString "0123456789 abtmostleasrpuiT-+_.\t") := Lin.of (by decide +kernel)
    have lsl : (Str.ofString "0123456789 abtmostleasrpuiT-+_.\t").length = 32 := by decide +kernel
    generalize Str.ofString "0123456789 abtmostleasrpuiT-+_.\t" = sg at lsg lsl ⊢
    refine ⟨_, rfl, _, rfl, _, rfl, sg, rfl, fitS (by omega), a, _, _, rfl, hP2, by omega, by omega, Bd.small 20 (by omega) (by decide), fun ds H3 ds0 ds1 hP3 f3 => ?_⟩
    obtain ⟨j, rfl⟩ := Int.eq_ofNat_of_zero_le ds0
    have hj : j < sg.cps.toList.length := by
      have : sg.cps.toList.length = sg.length := by
        rw [Array.length_toList]
        rfl
      omega
    obtain ⟨c, hc⟩ : ∃ c, sg.cps.toList[j]? = some c := ⟨_, List.getElem?_eq_getElem hj⟩
    have lc0 : Lin 1 ⟨#[c]⟩ := ⟨Nat.le_refl _, fun x hx => by
      have hx : x ∈ [c] := hx
      rw [List.mem_singleton.mp hx]
      exact lsg.asc c (List.mem_of_getElem? hc)⟩
    have lc : Ln 1 1 ⟨#[c]⟩ := ⟨lc0, List.count_le_length⟩
    refine ⟨sg, _, c, rfl, rfl, fitS (by omega), atI_nat hc, ?_⟩
    have f03 := fW.trans (f1.trans (f2.trans f3))
    have eW3 := (f1.trans (f2.trans f3)).l _ _ eW
    have lcl : (⟨#[c]⟩ : Str).length = 1 := rfl
    have cl : ∀ lo hi, (cutS z lo hi).length ≤ u := fun lo hi => Nat.le_trans (cutS_length z lo hi) zl
    clear f1 f2 f3 eW hP0 hP1 hP2 fW hc hj ds1
    obtain ⟨k, rfl⟩ := Int.eq_ofNat_of_zero_le sp0
    have hk : k < ws.length := by omega
    have sl1 : (Str.ofString " ").length = 1 := by decide +kernel
    -- three lines
    refine ⟨fun σ' H' => ∃ (O : Addr) (zs : List Str), σ' = [some (.ref a), some (.str z), some (.ref W), some (.int at_), some (.int (k : Int)), some (.str sg), some (.str ⟨#[c]⟩), some (.ref O), none] ∧ H' O = some (.lst (zs.map V.str)) ∧ zs.length = 3 ∧ LnL (4 * u + 5100) (2 * q + 1) zs ∧ H' W = some (.lst (ws.map V.str)) ∧ Pen H' a (n + 3) ∧ Fr H H', ?_, ?_⟩
    · refine ⟨_, rfl, _, rfl, at_, rfl, z, rfl, fitS (by omega), _, rfl, _, _, rfl, rfl, fitS (by have := cl none (some at_); omega), _, rfl, _, rfl, at_, rfl, z, rfl, fitS (by omega), _, _, rfl, rfl, fitS (by rw [len_apN]; have := cl none (some at_); have := cl (some at_) none; omega), ?_⟩
      refine ⟨_, rfl, _, rfl, at_, rfl, z, rfl, fitS (by omega), _, rfl, _, rfl, _, _, rfl, rfl, _, rfl, z, rfl, fitS (by omega), _, _, rfl, rfl, fitS (by have := cl none (some at_); have := cl (some (at_ + 1)) none; show (cutS z none (some at_)).length + (cutS z (some (at_ + 1)) none).length ≤ _; omega), ?_⟩
      refine ⟨_, rfl, _, rfl, at_, rfl, z, rfl, fitS (by omega), _, rfl, _, _, rfl, rfl, fitS (by have := cl none (some at_); omega), _, rfl, _, rfl, _, _, rfl, rfl, _, rfl, z, rfl, fitS (by omega), _, _, rfl, rfl, fitS (by rw [len_apN]; have := cl none (some at_); have := cl (some (at_ + 1)) none; show (cutS z none (some at_)).length + (⟨#[c]⟩ : Str).length + (cutS z (some (at_ + 1)) none).length ≤ _; omega), len10 (by simp), fun O nO => ?_⟩
      have zO := sm_upd (o := .lst ([cutS z none (some at_) ++ ⟨#[c]⟩ ++ cutS z (some at_) none, cutS z none (some at_) ++ cutS z (some (at_ + 1)) none, cutS z none (some at_) ++ ⟨#[c]⟩ ++ cutS z (some (at_ + 1)) none].map V.str)) nO
      refine ⟨O, [cutS z none (some at_) ++ ⟨#[c]⟩ ++ cutS z (some at_) none, cutS z none (some at_) ++ cutS z (some (at_ + 1)) none, cutS z none (some at_) ++ ⟨#[c]⟩ ++ cutS z (some (at_ + 1)) none], rfl, upd_same, rfl, fun y hy => ?_, zO _ _ eW3, hP3.same zO, f03.trans (Fr.same zO)⟩
      simp only [List.mem_cons, List.not_mem_nil, or_false] at hy
      rcases hy with rfl | rfl | rfl
      · exact (((hz2.cut _ _).app lc).app (hz2.cut _ _)).mono (by omega) (by omega)
      · exact ((hz2.cut _ _).app (hz2.cut _ _)).mono (by omega) (by omega)
      · exact (((hz2.cut _ _).app lc).app (hz2.cut _ _)).mono (by omega) (by omega)
    clear hP3 eW3 f03
    rintro σ' H4 ⟨O, zs, rfl, eO, l3, lz, eW4, hP4, f4⟩
    -- the words cut at the spot
    have cutT : ∀ j : Nat, cutV (ws.map V.str) none (some (j : Int)) = (ws.take j).map V.str := fun j => by rw [cutV_take, List.map_take]
    have cutD : ∀ j : Nat, cutV (ws.map V.str) (some (j : Int)) none = (ws.drop j).map V.str := fun j => by rw [cutV_drop, List.map_drop]
    have lt1 : ∀ j : Nat, (ws.take j).length ≤ u + 1 := fun j => by
      rw [List.length_take]
      omega
    have ld1 : ∀ j : Nat, (ws.drop j).length ≤ u + 1 := fun j => by
      rw [List.length_drop]
      omega
    have linT : ∀ j : Nat, LinL u (ws.take j) := fun j x hx => w4 x (List.mem_of_mem_take hx)
    have linD : ∀ j : Nat, LinL u (ws.drop j) := fun j x hx => w4 x (List.mem_of_mem_drop hx)
    have cntT := fun j => sum_takeF nl ws j
    have cntD := fun j => sum_dropF nl ws j
    have sumT := fun j => sum_take_le ws j
    have sumD := fun j => sum_drop_le ws j
    refine ⟨fun σ' H' => ∃ (O : Addr) (zs : List Str), σ' = [some (.ref a), some (.str z), some (.ref W), some (.int at_), some (.int (k : Int)), some (.str sg), some (.str ⟨#[c]⟩), some (.ref O), none] ∧ H' O = some (.lst (zs.map V.str)) ∧ zs.length = 9 ∧ LnL (4 * u + 5100) (2 * q + 1) zs ∧ H' W = some (.lst (ws.map V.str)) ∧ Pen H' a (n + 3) ∧ Fr H H', ?_, ?_⟩
    · refine ⟨_, rfl, _, rfl, _, _, rfl, rfl, fitS (by omega), _, rfl, _, _, rfl, rfl, fitS (by omega), ?_⟩
      refine ⟨rfl, _, rfl, _, rfl, (k : Int), rfl, W, _, rfl, SqL.of eW4, fun S1 nS1 => ?_⟩
      rw [cutT k]
      have z1 := sm_upd (o := .lst ((ws.take k).map V.str)) nS1
      refine ⟨_, rfl, _, rfl, _, _, rfl, rfl, _, rfl, W, _, rfl, SqL.of (z1 _ _ eW4), fun S2 nS2 => ?_⟩
      rw [show cutV (ws.map V.str) (some ((k : Int) + 1)) none = (ws.drop (k + 1)).map V.str from cutD (k + 1)]
      have z2 := sm_upd (o := .lst ((ws.drop (k + 1)).map V.str)) nS2
      refine ⟨S1, S2, _, _, rfl, rfl, z2 _ _ upd_same, upd_same, fitS (by rw [List.length_map, List.length_map]; have := lt1 k; have := ld1 (k + 1); omega), fun S3 nS3 => ?_⟩
      have z3 := sm_upd (o := .lst ((ws.take k).map V.str ++ (ws.drop (k + 1)).map V.str)) nS3
      have z123 := z1.trans (z2.trans z3)
      have sj : ((ws.take k ++ ws.drop (k + 1)).map (·.length)).sum ≤ 2 * u := by
        rw [List.map_append, List.sum_append]
        have := sumT k
        have := sumD (k + 1)
        omega
      have lj : (ws.take k ++ ws.drop (k + 1)).length ≤ 2 * u + 2 := by
        rw [List.length_append]
        have := lt1 k
        have := ld1 (k + 1)
        omega
      refine ⟨_, S3, ws.take k ++ ws.drop (k + 1), rfl, rfl, .inl (SqL.of (by rw [upd_same, List.map_append])), by rw [sl1]; omega, ?_⟩
      have ljn := (Ln.join ((linT k).app (linD (k + 1))) sj (k := 2 * q) (by rw [List.map_append, List.sum_append]; have := cntT k; have := cntD (k + 1); omega)).mono (m := 4 * u + 2) (j := 2 * q) (by omega) (by omega)
      generalize Txt.join (Str.ofString " ") (ws.take k ++ ws.drop (k + 1)) = j1 at ljn ⊢
      have eO3 := z123 _ _ eO
      have eW5 := z123 _ _ eW4
      have hP5 := hP4.same z123
      have f5 := f4.trans (Fr.same z123)
      generalize upd (upd (upd H4 S1 (.lst ((ws.take k).map V.str))) S2 (.lst ((ws.drop (k + 1)).map V.str))) S3 (.lst ((ws.take k).map V.str ++ (ws.drop (k + 1)).map V.str)) = H5 at eO3 eW5 hP5 f5 ⊢
      have s1l : (Str.ofString " 1").length = 2 := by decide +kernel
      refine ⟨_, rfl, _, _, rfl, rfl, fitS (by omega), _, rfl, rfl, z, rfl, rfl, by omega, len10 (by simp), fun O2 nO2 => ?_⟩
      have zO2 := sm_upd (o := .lst ([z ++ Str.ofString " ", Str.ofString " " ++ z, Str.ofString "", j1, z ++ Str.ofString " 1", Txt.upper z].map V.str)) nO2
      refine ⟨O, O2, zs.map V.str, _, rfl, rfl, zO2 _ _ eO3, upd_same, fitS (by rw [List.length_map, l3]; show 3 + 6 ≤ _; decide), fun O3 nO3 => ?_⟩
      have zO3 := sm_upd (o := .lst (zs.map V.str ++ [z ++ Str.ofString " ", Str.ofString " " ++ z, Str.ofString "", j1, z ++ Str.ofString " 1", Txt.upper z].map V.str)) nO3
      have zz := zO2.trans zO3
      refine ⟨O3, zs ++ [z ++ Str.ofString " ", Str.ofString " " ++ z, Str.ofString "", j1, z ++ Str.ofString " 1", Txt.upper z], rfl, by rw [List.map_append]; exact upd_same, by rw [List.length_append, l3]; rfl, lz.app fun y hy => ?_, zz _ _ eW5, hP5.same zz, f5.trans (Fr.same zz)⟩
      simp only [List.mem_cons, List.not_mem_nil, or_false] at hy
      have c1 : Ln 1 0 (Str.ofString " ") := Ln.of (by decide +kernel)
      rcases hy with rfl | rfl | rfl | rfl | rfl | rfl
      · exact (hz2.app c1).mono (by omega) (by omega)
      · exact (c1.app hz2).mono (by omega) (by omega)
      · exact (Ln.of (n := 100) (k := 0) (by decide +kernel)).mono (by omega) (by omega)
      · exact ljn.mono (by omega) (by omega)
      · exact (hz2.app (Ln.of (n := 2) (k := 0) (by decide +kernel))).mono (by omega) (by omega)
      · exact hz2.up.mono (by omega) (by omega)
    clear hP4 eW4 f4 eO l3 lz
    rintro σ' H5 ⟨O, zs, rfl, eO, l9, lz, eW5, hP5, f5⟩
    refine ⟨fun σ' H' => ∃ (O : Addr) (zs : List Str), σ' = [some (.ref a), some (.str z), some (.ref W), some (.int at_), some (.int (k : Int)), some (.str sg), some (.str ⟨#[c]⟩), some (.ref O), none] ∧ H' O = some (.lst (zs.map V.str)) ∧ zs.length = 14 ∧ LnL (4 * u + 5100) (2 * q + 1) zs ∧ Ap H a O ∧ H' W = some (.lst (ws.map V.str)) ∧ Pen H' a (n + 3) ∧ Fr H H', ?_, ?_⟩
    · refine ⟨_, rfl, rfl, _, rfl, _, rfl, _, _, rfl, rfl, _, rfl, W, _, rfl, SqL.of eW5, fun S1 nS1 => ?_⟩
      rw [show cutV (ws.map V.str) none (some ((k : Int) + 1)) = (ws.take (k + 1)).map V.str from cutT (k + 1)]
      have z1 := sm_upd (o := .lst ((ws.take (k + 1)).map V.str)) nS1
      refine ⟨_, rfl, _, rfl, (k : Int), rfl, W, _, rfl, SqL.of (z1 _ _ eW5), fun S2 nS2 => ?_⟩
      rw [cutD k]
      have z2 := sm_upd (o := .lst ((ws.drop k).map V.str)) nS2
      refine ⟨S1, S2, _, _, rfl, rfl, z2 _ _ upd_same, upd_same, fitS (by rw [List.length_map, List.length_map]; have := lt1 (k + 1); have := ld1 k; omega), fun S3 nS3 => ?_⟩
      have z3 := sm_upd (o := .lst ((ws.take (k + 1)).map V.str ++ (ws.drop k).map V.str)) nS3
      have z123 := z1.trans (z2.trans z3)
      have sj : ((ws.take (k + 1) ++ ws.drop k).map (·.length)).sum ≤ 2 * u := by
        rw [List.map_append, List.sum_append]
        have := sumT (k + 1)
        have := sumD k
        omega
      have lj : (ws.take (k + 1) ++ ws.drop k).length ≤ 2 * u + 2 := by
        rw [List.length_append]
        have := lt1 (k + 1)
        have := ld1 k
        omega
      refine ⟨_, S3, ws.take (k + 1) ++ ws.drop k, rfl, rfl, .inl (SqL.of (by rw [upd_same, List.map_append])), by rw [sl1]; omega, ?_⟩
      have ljn := (Ln.join ((linT (k + 1)).app (linD k)) sj (k := 2 * q) (by rw [List.map_append, List.sum_append]; have := cntT (k + 1); have := cntD k; omega)).mono (m := 4 * u + 2) (j := 2 * q) (by omega) (by omega)
      generalize Txt.join (Str.ofString " ") (ws.take (k + 1) ++ ws.drop k) = j1 at ljn ⊢
      have eO3 := z123 _ _ eO
      have eW6 := z123 _ _ eW5
      have hP6 := hP5.same z123
      have f6 := f5.trans (Fr.same z123)
      generalize upd (upd (upd H5 S1 (.lst ((ws.take (k + 1)).map V.str))) S2 (.lst ((ws.drop k).map V.str))) S3 (.lst ((ws.take (k + 1)).map V.str ++ (ws.drop k).map V.str)) = H6 at eO3 eW6 hP6 f6 ⊢
      obtain ⟨w0, hw0⟩ : ∃ w0, ws[0]? = some w0 := ⟨_, List.getElem?_eq_getElem (show 0 < ws.length by omega)⟩
      have d1 : (Str.ofString "0").length = 1 := by decide +kernel
      have d2 : (Str.ofString "-").length = 1 := by decide +kernel
      have d3 : (Str.ofString "\n").length = 1 := by decide +kernel
      refine ⟨_, rfl, W, _, _, _, rfl, rfl, SqL.of eW6, atI_nat (j := 0) (by rw [List.getElem?_map, hw0]; rfl), _, rfl, _, _, rfl, rfl, fitS (by omega), _, rfl, _, _, rfl, rfl, fitS (by omega), _, rfl, _, _, rfl, rfl, fitS (by omega), len10 (by simp), fun O2 nO2 => ?_⟩
      have zO2 := sm_upd (o := .lst ([j1, w0, Str.ofString "0" ++ z, Str.ofString "-" ++ z, z ++ Str.ofString "\n"].map V.str)) nO2
      refine ⟨O, O2, zs.map V.str, _, rfl, rfl, zO2 _ _ eO3, upd_same, fitS (by rw [List.length_map, l9]; show 9 + 5 ≤ _; decide), fun O3 nO3 => ?_⟩
      have zO3 := sm_upd (o := .lst (zs.map V.str ++ [j1, w0, Str.ofString "0" ++ z, Str.ofString "-" ++ z, z ++ Str.ofString "\n"].map V.str)) nO3
      have zz := zO2.trans zO3
      refine ⟨O3, zs ++ [j1, w0, Str.ofString "0" ++ z, Str.ofString "-" ++ z, z ++ Str.ofString "\n"], rfl, by rw [List.map_append]; exact upd_same, by rw [List.length_append, l9]; rfl, lz.app fun y hy => ?_, Ap.of (f6.trans (Fr.same zO2)) (hP6.same zO2) nO3, zz _ _ eW6, hP6.same zz, f6.trans (Fr.same zz)⟩
      simp only [List.mem_cons, List.not_mem_nil, or_false] at hy
      rcases hy with rfl | rfl | rfl | rfl | rfl
      · exact ljn.mono (by omega) (by omega)
      · exact (Ln.mk (w4 _ (List.mem_of_getElem? hw0)) (k := q) (by have := mem_cnt (List.mem_of_getElem? hw0); omega)).mono (by omega) (by omega)
      · exact ((Ln.of (n := 1) (k := 0) (by decide +kernel)).app hz2).mono (by omega) (by omega)
      · exact ((Ln.of (n := 1) (k := 0) (by decide +kernel)).app hz2).mono (by omega) (by omega)
      · exact (hz2.app (Ln.of (n := 1) (k := 1) (by decide +kernel))).mono (by omega) (by omega)
    clear hP5 eW5 f5 eO l9 lz
    rintro σ' H6 ⟨O, zs, rfl, eO, l14, lz, AO, eW6, hP6, f6⟩
    -- a word
    refine ⟨fun σ' H' => ∃ wd' : Str, σ' = [some (.ref a), some (.str z), some (.ref W), some (.int at_), some (.int (k : Int)), some (.str sg), some (.str ⟨#[c]⟩), some (.ref O), some (.str wd')] ∧ Ln 5000 0 wd' ∧ H' O = some (.lst (zs.map V.str)) ∧ H' W = some (.lst (ws.map V.str)) ∧ Pen H' a (n + 4) ∧ Fr H H', ?_, ?_⟩
    · have l9 : (Str.ofString "9").length ≤ 1 := by decide +kernel
      have d2 : (Str.ofString "-").length = 1 := by decide +kernel
      have n2 : Ln 200 0 (Txt.mul (Str.ofString "9") 200) := ⟨Lin.nines (i := 200) (by decide) (n := 200) (by decide), by decide +kernel⟩
      have n3 : Ln 201 0 (Txt.mul (Str.ofString "9") 201) := ⟨Lin.nines (i := 201) (by decide) (n := 201) (by decide), by decide +kernel⟩
      have n4 : Ln 5000 0 (Txt.mul (Str.ofString "9") 5000) := ⟨Lin.nines (i := 5000) (by decide) (n := 5000) (by decide), by decide +kernel⟩
      have m2 := n2.l.len
      refine ⟨_, _, rfl, rfl, l9, by decide, by decide, ?_⟩
      refine ⟨_, _, rfl, rfl, l9, by decide, by decide, _, _, rfl, rfl, fitS (by omega), ?_⟩
      refine ⟨_, _, rfl, rfl, l9, by decide, by decide, ?_⟩
      refine ⟨_, _, rfl, rfl, l9, by decide, by decide, len10 (by simp), fun O2 nO2 => ?_⟩
      generalize Txt.mul (Str.ofString "9") 200 = x2 at n2 m2 ⊢
      generalize Txt.mul (Str.ofString "9") 201 = x3 at n3 ⊢
      generalize Txt.mul (Str.ofString "9") 5000 = x4 at n4 ⊢
      have zO2 := sm_upd (o := .lst [.str "1", .str "0", .str "-0", .str "+7", .str x2, .str (Str.ofString "-" ++ x2), .str x3, .str x4]) nO2
      have eO2 := upd_same (H := H6) (a := O2) (o := .lst [.str "1", .str "0", .str "-0", .str "+7", .str x2, .str (Str.ofString "-" ++ x2), .str x3, .str x4])
      refine ⟨_, rfl, a, _, _, rfl, hP6.same zO2, by omega, by decide, dB _ (by decide) (by decide), fun d H7 d0 d1 hP7 f7 => ?_⟩
      obtain ⟨y, hy, my⟩ := at_in (xs := [.str "1", .str "0", .str "-0", .str "+7", .str x2, .str (Str.ofString "-" ++ x2), .str x3, .str x4]) d0 (by show d < 8; omega)
      refine ⟨O2, _, _, _, rfl, rfl, SqL.of (f7.l _ _ eO2), hy, ?_⟩
      have fz := (Fr.same zO2).trans f7
      have e1 := fz.l _ _ eO
      have e2 := fz.l _ _ eW6
      have f8 := f6.trans fz
      simp only [List.mem_cons, List.not_mem_nil, or_false] at my
      rcases my with rfl | rfl | rfl | rfl | rfl | rfl | rfl | rfl
      · exact ⟨_, rfl, Ln.of (by decide +kernel), e1, e2, hP7, f8⟩
      · exact ⟨_, rfl, Ln.of (by decide +kernel), e1, e2, hP7, f8⟩
      · exact ⟨_, rfl, Ln.of (by decide +kernel), e1, e2, hP7, f8⟩
      · exact ⟨_, rfl, Ln.of (by decide +kernel), e1, e2, hP7, f8⟩
      · exact ⟨_, rfl, n2.mono (by omega) (by omega), e1, e2, hP7, f8⟩
      · exact ⟨_, rfl, ((Ln.of (n := 1) (k := 0) (by decide +kernel)).app n2).mono (by omega) (by omega), e1, e2, hP7, f8⟩
      · exact ⟨_, rfl, n3.mono (by omega) (by omega), e1, e2, hP7, f8⟩
      · exact ⟨_, rfl, n4.mono (by omega) (by omega), e1, e2, hP7, f8⟩
    clear hP6 eW6 f6 eO
    rintro σ' H7 ⟨wd', rfl, lw, eO, eW7, hP7, f7⟩
    refine ⟨_, rfl, .inl ⟨rfl, _, SqL.of eO⟩, rfl, _, rfl, _, rfl, (k : Int), rfl, W, _, rfl, SqL.of eW7, fun S1 nS1 => ?_⟩
    rw [cutT k]
    have z1 := sm_upd (o := .lst ((ws.take k).map V.str)) nS1
    refine ⟨_, rfl, len10 (by simp), fun S2 nS2 => ?_⟩
    have z2 := sm_upd (o := .lst ([V.str wd'])) nS2
    refine ⟨S1, S2, _, _, rfl, rfl, z2 _ _ upd_same, upd_same, fitS (by rw [List.length_map]; have := lt1 k; show _ + 1 ≤ _; omega), fun S3 nS3 => ?_⟩
    have z3 := sm_upd (o := .lst ((ws.take k).map V.str ++ [V.str wd'])) nS3
    refine ⟨_, rfl, _, rfl, _, _, rfl, rfl, _, rfl, W, _, rfl, SqL.of (z3 _ _ (z2 _ _ (z1 _ _ eW7))), fun S4 nS4 => ?_⟩
    rw [show cutV (ws.map V.str) (some ((k : Int) + 1)) none = (ws.drop (k + 1)).map V.str from cutD (k + 1)]
    have z4 := sm_upd (o := .lst ((ws.drop (k + 1)).map V.str)) nS4
    refine ⟨S3, S4, _, _, rfl, rfl, z4 _ _ upd_same, upd_same, fitS (by rw [List.length_append, List.length_map, List.length_map]; have := lt1 k; have := ld1 (k + 1); show _ + 1 + _ ≤ _; omega), fun S5 nS5 => ?_⟩
    have z5 := sm_upd (o := .lst ((ws.take k).map V.str ++ [V.str wd'] ++ (ws.drop (k + 1)).map V.str)) nS5
    have zA := z1.trans (z2.trans (z3.trans (z4.trans z5)))
    have lw1 := lw.l.len
    have sj : ((ws.take k ++ [wd'] ++ ws.drop (k + 1)).map (·.length)).sum ≤ 2 * u + 5000 := by
      rw [List.map_append, List.sum_append, List.map_append, List.sum_append]
      have := sumT k
      have := sumD (k + 1)
      show _ + (wd'.length + 0) + _ ≤ _
      omega
    have lj : (ws.take k ++ [wd'] ++ ws.drop (k + 1)).length ≤ 2 * u + 3 := by
      rw [List.length_append, List.length_append]
      have := lt1 k
      have := ld1 (k + 1)
      show _ + 1 + _ ≤ _
      omega
    have hl3 : LinL 9000 (ws.take k ++ [wd'] ++ ws.drop (k + 1)) := LinL.app (LinL.app (fun x hx => (linT k x hx).mono (by omega)) (fun x hx => by rw [List.mem_singleton.mp hx]; exact lw.l.mono (by omega))) (fun x hx => (linD (k + 1) x hx).mono (by omega))
    refine ⟨_, S5, ws.take k ++ [wd'] ++ ws.drop (k + 1), rfl, rfl, .inl (SqL.of (by rw [upd_same, List.map_append, List.map_append]; rfl)), by rw [sl1]; omega, ?_⟩
    have ljn := (Ln.join hl3 sj (k := 2 * q) (by rw [List.map_append, List.sum_append, List.map_append, List.sum_append]; have := cntT k; have := cntD (k + 1); have := lw.c; show _ + (nl wd' + 0) + _ ≤ _; omega)).mono (m := 4 * u + 5100) (j := 2 * q + 1) (by omega) (by omega)
    generalize Txt.join (Str.ofString " ") (ws.take k ++ [wd'] ++ ws.drop (k + 1)) = j1 at ljn ⊢
    have eO8 := zA _ _ eO
    have hP8 := hP7.same zA
    have f8 := f7.trans (Fr.same zA)
    generalize upd (upd (upd (upd (upd H7 S1 (.lst ((ws.take k).map V.str))) S2 (.lst ([V.str wd']))) S3 (.lst ((ws.take k).map V.str ++ [V.str wd']))) S4 (.lst ((ws.drop (k + 1)).map V.str))) S5 (.lst ((ws.take k).map V.str ++ [V.str wd'] ++ (ws.drop (k + 1)).map V.str)) = H8 at eO8 hP8 f8 ⊢
    refine ⟨O, _, _, rfl, rfl, eO8, fitS (by rw [List.length_map, l14]; decide), ?_⟩
    have hP9 := AO.pen (o := .lst (zs.map V.str ++ [V.str j1])) hP8 eO8
    have f9 := AO.fr (o := .lst (zs.map V.str ++ [V.str j1])) f8
    have e9 : upd H8 O (.lst (zs.map V.str ++ [V.str j1])) O = some (.lst ((zs ++ [j1]).map V.str)) := by rw [upd_same, List.map_append]; rfl
    generalize upd H8 O (.lst (zs.map V.str ++ [V.str j1])) = H9 at hP9 f9 e9 ⊢
    refine ⟨_, rfl, _, rfl, a, _, _, rfl, hP9, by omega, by decide, dB _ (by decide) (by decide), fun d H10 d0 d1 hPA fA => ?_⟩
    have lz2 : LnL (4 * u + 5100) (2 * q + 1) (zs ++ [j1]) := lz.app fun x hx => by rw [List.mem_singleton.mp hx]; exact ljn
    have l15 : (zs ++ [j1]).length = 15 := by rw [List.length_append, l14]; rfl
    obtain ⟨y, hy, my⟩ := at_in (xs := (zs ++ [j1]).map V.str) d0 (by rw [List.length_map, l15]; omega)
    obtain ⟨y1, hy1, rfl⟩ := List.mem_map.mp my
    exact ⟨O, _, _, _, rfl, rfl, SqL.of (fA.l _ _ e9), hy, kk y1 _ (lz2 _ hy1) (hPA.mono (by omega)) (f9.trans fA)⟩
end
end Lf
namespace Lf
open PySem PySem.Spec PyProof.Rows L2 TL
theorem tabs_upd91 {T : List (Addr × Str)} {H : Hp} {S : Addr} {xs : List V} {o : HO} (t : LamX.Tabs T H) (e : H S = some (.lst xs)) : LamX.Tabs T (upd H S o) := fun p hp => by
  obtain ⟨ps, h1, h2, h3⟩ := t p hp
  refine ⟨ps, by rw [upd_ne (ne_of h1 e (fun z => by cases z))]; exact h1, h2, fun pos cv hc => ?_⟩
  obtain ⟨c, e1, e2⟩ := h3 pos cv hc
  exact ⟨c, e1, by rw [upd_ne (ne_of e2 e (fun z => by unfold LamX.CodeO at z; cases z))]; exact e2⟩
theorem pen_set {H : Hp} {a : PA} {n : Nat} {Y : Addr} {xs ys : List V} (p : Pen H a n) (h : a.l ≠ Y) (e : H Y = some (.lst xs)) : Pen (upd H Y (.lst ys)) a n := by
  obtain ⟨cs, t, r, h1, h2, h3⟩ := p.ex
  exact ⟨cs, t, r, by rw [upd_ne (ne_of h1 e (by intro z; cases z))]; exact h1, by rw [upd_ne h]; exact h2, h3⟩
theorem sum_ln {n : Nat} : ∀ {l : List Str}, (∀ z ∈ l, z.length ≤ n) → (l.map fun x => x.length).sum ≤ n * l.length
  | [], _ => Nat.le_refl _
  | a :: l, h => by
    rw [List.map_cons, List.sum_cons, List.length_cons, Nat.mul_succ]
    have := h a List.mem_cons_self
    have := sum_ln (l := l) fun z hz => h z (List.mem_cons_of_mem _ hz)
    omega
theorem mn9 (x : Int) (h : 0 ≤ x) : 0 ≤ (if x < 9 then x else 9) ∧ (if x < 9 then x else 9) ≤ 9 := by
  by_cases z : x < 9
  · rw [if_pos z]
    omega
  · rw [if_neg z]
    omega
theorem decL_asc (n : Int) : ∀ c ∈ decL n, c < 128 := fun c hc => by
  cases n with
  | ofNat n =>
    have := numL_digits n c hc
    omega
  | negSucc n =>
    rcases List.mem_cons.mp hc with e | hm
    · omega
    · have := numL_digits (n + 1) c hm
      omega
theorem ent_asc {e : En} (hb : EnB e) : ∀ c ∈ entL e, c < 128 := fun c h => by
  have h1 : ∀ y ∈ tl (Str.ofString " is "), y < 128 := by decide +kernel
  have h2 : ∀ y ∈ tl (Str.ofString " reports "), y < 128 := by decide +kernel
  have h3 : ∀ y ∈ tl (Str.ofString " at "), y < 128 := by decide +kernel
  have h4 : ∀ b, ∀ y ∈ tl (trW b), y < 128 := fun b => by cases b <;> decide +kernel
  have h5 : ∀ b, ∀ y ∈ tl (wd b), y < 128 := fun b => by cases b <;> decide +kernel
  unfold entL at h
  obtain ⟨m, w, x⟩ := e
  rcases List.mem_append.mp h with h | h
  · simp only [List.mem_append, List.mem_singleton] at h
    rcases h with (h | h) | h
    · exact decL_asc _ c h
    · omega
    · have := hb.w.2.2 c h
      omega
  · cases x with
    | tr b =>
      rcases List.mem_append.mp h with h | h
      · exact h1 _ h
      · exact h4 _ _ h
    | rd d =>
      rcases List.mem_append.mp h with h | h
      · exact h2 _ h
      · unfold recL at h
        simp only [List.mem_append, List.mem_singleton] at h
        rcases h with (((h | h) | h) | h) | h
        · exact h5 _ _ h
        · omega
        · exact decL_asc _ c h
        · exact h3 _ h
        · exact decL_asc _ c h
theorem row_ln {e : En} (hb : EnB e) {z : Str} (hz : tl z = entL e) : Ln 900 0 z := by
  refine ⟨⟨by rw [len_tl, hz]; exact entL_len hb, by rw [hz]; exact ent_asc hb⟩, Nat.le_of_eq ?_⟩
  unfold nl
  rw [hz]
  exact List.count_eq_zero.mpr (ent_no hb (by decide))
def uB (k : Nat) : Nat := if k = 0 then 900 else if k = 1 then 8700 else 39900
def qB (k : Nat) : Nat := if k = 0 then 0 else if k = 1 then 1 else 3
theorem DueP.shp {z : Str} (t : TxtOk z) {d : PyData} (h : DueP (linesO z) d) : Shp 5 d := by
  have s1 : Shp 0 (.str "parse") := shp_str (by decide +kernel)
  have s2 : Shp 0 (.str "duplicate") := shp_str (by decide +kernel)
  have s3 : Shp 0 (.str "parsed") := shp_str (by decide +kernel)
  cases h with
  | bad j l h1 h2 h3 =>
    refine shp_tup (n := 4) fun d hd => ?_
    simp only [List.mem_cons, List.not_mem_nil, or_false] at hd
    rcases hd with rfl | rfl
    · exact s1.mono (by decide)
    · exact (shp_str (t.l l (List.mem_of_getElem? h1)).2.2).mono (by decide)
  | dup es h j e h1 h2 h3 =>
    refine shp_tup (n := 4) fun d hd => ?_
    simp only [List.mem_cons, List.not_mem_nil, or_false] at hd
    rcases hd with rfl | rfl
    · exact s2.mono (by decide)
    · exact (shp_int _).mono (by decide)
  | ok es fs h nd p s =>
    refine shp_tup (n := 4) fun d hd => ?_
    simp only [List.mem_cons, List.not_mem_nil, or_false] at hd
    rcases hd with rfl | rfl
    · exact s3.mono (by decide)
    · refine (shp_list (n := 2) fun d hd => ?_).mono (by decide)
      obtain ⟨e, he, rfl⟩ := List.mem_map.mp hd
      refine shp_en ?_
      have he' := p.mem_iff.mp he
      have : some e ∈ (linesO z).map (fun l => readE (splS l)) := by
        rw [h]
        exact List.mem_map_of_mem he'
      obtain ⟨l, _, hl⟩ := List.mem_map.mp this
      have hl : readE (splS l) = some e := hl
      unfold readE at hl
      cases hm : momZ ((splS l).getD 0 Str.empty) with
      | none => rw [hm] at hl; cases hl
      | some m =>
        rw [hm] at hl
        have hl : (if 4 ≤ (splS l).length ∧ witB (.str ((splS l).getD 1 Str.empty)) = true then (whatE (splS l)).map fun x => (⟨m, (splS l).getD 1 Str.empty, x⟩ : En) else none) = some e := hl
        by_cases c : 4 ≤ (splS l).length ∧ witB (.str ((splS l).getD 1 Str.empty)) = true
        · rw [if_pos c] at hl
          cases hx : whatE (splS l) with
          | none => rw [hx] at hl; cases hl
          | some x =>
            rw [hx] at hl
            cases hl
            exact (wit_iff _).mp c.2
        · rw [if_neg c] at hl
          cases hl
/-- the values that are no strings -/
def xs91 (L1 T1 D : Addr) : List V := [.non, .int 5, .ref L1, .ref T1, .ref D, .bl true]
structure F91 (L1 T1 D Tq : Addr) (H : Hp) : Prop where
  m : L1 ≠ 1
  eL : H L1 = some (.lst [.str "1 a is trusted"])
  eT : H T1 = some (.tup [.str "1 a is trusted"])
  eD : H D = some (.dK [])
  eQ : H Tq = some (.tup (xs91 L1 T1 D))
theorem F91.same {L1 T1 D Tq : Addr} {H H' : Hp} (h : F91 L1 T1 D Tq H) (s : Same H H') : F91 L1 T1 D Tq H' := ⟨h.m, s _ _ h.eL, s _ _ h.eT, s _ _ h.eD, s _ _ h.eQ⟩
theorem F91.dv {L1 T1 D Tq : Addr} {H : Hp} {x : V} (h : F91 L1 T1 D Tq H) (hx : x ∈ xs91 L1 T1 D) : SmI [.str "parse", x] ∧ ∃ d, Dv H x d ∧ isSt d = false := by
  have sm : (flatB x = true ∨ ∃ c, x = .ref c) → SmI [.str "parse", x] := fun hh z hz => by
    simp only [List.mem_cons, List.not_mem_nil, or_false] at hz
    rcases hz with rfl | rfl
    · exact .inl rfl
    · exact hh
  simp only [xs91, List.mem_cons, List.not_mem_nil, or_false] at hx
  rcases hx with rfl | rfl | rfl | rfl | rfl | rfl
  · exact ⟨sm (.inl rfl), _, .non, rfl⟩
  · exact ⟨sm (.inl rfl), _, .int _, rfl⟩
  · exact ⟨sm (.inr ⟨_, rfl⟩), _, .lst h.m h.eL (.cons (.str _) .nil), rfl⟩
  · exact ⟨sm (.inr ⟨_, rfl⟩), _, .tup h.eT (.cons (.str _) .nil), rfl⟩
  · exact ⟨sm (.inr ⟨_, rfl⟩), _, .dk0 h.eD, rfl⟩
  · exact ⟨sm (.inl rfl), _, .bl _, rfl⟩
section
variable {P : Program} {w : World} {K : PySem.W.Frag} {mg : Str → Option Value} {base : Heap} {PT : Addr}
abbrev s_law : Stmt := topS 50
abbrev N_law : List Str := ["_law_script", "_law_state", "_law_turn", "_law_rows", "_law_step", "_law_at", "_law_text", "_law_value", "_law_entry"]
abbrev P_law : List Str := ["_law_script"]
theorem sc_law : FnScope N_law P_law (defScope s_law) := ⟨rfl, rfl, rfl, by decide +kernel, rfl, by decide +kernel, by decide +kernel⟩
theorem ok_law {f : Addr} {fd : FuncData} (F : Fun K "law" "law" s_law f fd) (B : Bi mg) (c_l_start : C8.Cal P w K mg base 1 "_law_start" (spStart K) []) (c_l_draw : C8.Cal P w K mg base 1 "_law_draw" spDraw []) (c_l_rule : C8.Cal P w K mg base 2 "_law_rule" spRule01 []) (c_l_entries : C8.Cal P w K mg base 3 "_law_entries" spEn81 []) (c_l_mixed : C8.Cal P w K mg base 2 "_law_mixed" spMix []) (c_l_row : C8.Cal P w K mg base 1 "_law_row" spRow []) (c_l_changed : C8.Cal P w K mg base 2 "_law_changed" spChgd [])
    (c_l_parsed : C8.Cal P w K mg base 7 "_law_parsed" spPd []) (c_l_due : C8.Cal P w K mg base 4 "_law_due" (spDue91 PT) []) : FnG P w K mg base 9 f fd P_law (spLawT K PT) := by
  refine fnG_of F sc_law (fun vs H Q E h => ?_) (fun cdv A outer s H vs Q E hr gd h => ?_)
  · obtain ⟨a, ns, rfl, _⟩ := h
    rfl
  · obtain ⟨sc, ns, rfl, hS, hlen, hPT, kk⟩ := h
    have hu64 : (A.deeper (envOfC "law" (defScope s_law) s.heap.objs.size f cdv)).units + 64 < cLine := by
      have := hr.un
      omega
    refine ⟨_, (pss_cons (ps_set (i := 1) sc_law.nd rfl (Or.inl rfl) (C8.pe_c c_l_start hr (by decide) (by rfl) (pa_cons (pv 0) pa_nil)))
    (pss_cons (ps_for PassesOwn.never rfl (pi_range1 rfl B.range_ (pa_cons (pe_op op_add pe_int (pe_callB (call_min2 rfl) (by rfl) B.min_ bt_min (pa_cons pe_int (pa_cons (pe_callB (call_len_seq) (by rfl) B.len_ bt_len (pa_cons (pv 0) pa_nil)) pa_nil)))) pa_nil)) (pg_name (i := 2) sc_law.nd rfl (Or.inl rfl))
      (pss_cons (ps_setLc (i := 3) (own := [("_law_entry", 8)]) (g := (gName 8)) (by rfl) sc_law.nd rfl rfl (sw_true rfl rfl rfl (by decide +kernel)) (pi_list (C8.pe_c c_l_entries hr (by decide) (by rfl) (pa_cons (pv 1) (pa_cons (C8.pe_c c_l_rule hr (by decide) (by rfl) (pa_cons (pv 1) pa_nil)) (pa_cons (pe_op op_add pe_int (C8.pe_c c_l_draw hr (by decide) (by rfl) (pa_cons (pv 1) (pa_cons pe_int pa_nil)))) pa_nil))))) (blkOk_by (own := [("_law_entry", 8)]) (N := N_law) (sc := defScope s_law) (by decide +kernel)) (fun _ _ _ _ _ => (pg_name (i := 8) sc_law.nd rfl (Or.inl rfl))) (fun _ _ _ _ _ => pts_nil) (fun _ _ _ _ _ => (C8.pe_c c_l_row hr (by decide) (by rfl) (pa_cons (pv 8) pa_nil))))
    (C8.pss_cut (ps_for PassesOwn.never rfl (pi_range1 rfl B.range_ (pa_cons (pe_op op_add pe_int (C8.pe_c c_l_draw hr (by decide) (by rfl) (pa_cons (pv 1) (pa_cons pe_int pa_nil)))) pa_nil)) (pg_name (i := 4) sc_law.nd rfl (Or.inl rfl))
      (pss_cons (ps_set (i := 5) sc_law.nd rfl (Or.inl rfl) (C8.pe_c c_l_draw hr (by decide) (by rfl) (pa_cons (pv 1) (pa_cons (pe_callB (call_len_seq) (by rfl) B.len_ bt_len (pa_cons (pv 3) pa_nil)) pa_nil))))
    (pss_one (ps_asg (C8.pe_c c_l_changed hr (by decide) (by rfl) (pa_cons (pv 1) (pa_cons (pe_ix (r := rIxL K) ix_list (pv 3) (pv 5) (fun _ _ => rfl)) pa_nil))) (pg_sub (pv 3) (pv 5) set_list)))))
    (C8.pss_cut (ps_if (pt_cmpR op_eq (C8.pe_c c_l_draw hr (by decide) (by rfl) (pa_cons (pv 1) (pa_cons pe_int pa_nil))) pe_int (nomark _))
      (pss_one (ps_set (i := 3) sc_law.nd rfl (Or.inl rfl) (pe_op op_cat (pv 3) (pe_lst1 (pa_cons (pe_ix (r := rIxL K) ix_list (pv 3) (C8.pe_c c_l_draw hr (by decide) (by rfl) (pa_cons (pv 1) (pa_cons (pe_callB (call_len_seq) (by rfl) B.len_ bt_len (pa_cons (pv 3) pa_nil)) pa_nil))) (fun _ _ => rfl)) pa_nil)))))
      pss_nil)
    (pss_cons (ps_set (i := 6) sc_law.nd rfl (Or.inl rfl) (pe_bm PySem.F.plainAttrs_str PySem.F.slot_str_join PySem.F.type_str_join mt_join pe_str (pa_cons (C8.pe_c c_l_mixed hr (by decide) (by rfl) (pa_cons (pv 1) (pa_cons (pv 3) pa_nil))) pa_nil)))
    (pss_one (ps_if (pt_cmpR (op_neD hr.units) (C8.pe_c c_l_parsed hr (by decide) (by rfl) (pa_cons (pv 6) pa_nil)) (C8.pe_c c_l_due hr (by decide) (by rfl) (pa_cons (pv 6) pa_nil)) (nomark _))
      (pss_one (ps_ret pe_bl))
      pss_nil)))))))
    (pss_cons (ps_for PassesOwn.never rfl (pi_tup (pe_tup (pa_cons pe_non (pa_cons pe_int (pa_cons (pe_lst1 (pa_cons pe_str pa_nil)) (pa_cons (pe_tup (pa_cons pe_str pa_nil)) (pa_cons pe_dnewK (pa_cons pe_bl pa_nil)))))))) (pg_name (i := 7) sc_law.nd rfl (Or.inl rfl))
      (pss_one (ps_if (pt_cmpR (op_neT hu64) (C8.pe_c c_l_parsed hr (by decide) (by rfl) (pa_cons (pv 7) pa_nil)) (pe_tup (pa_cons pe_str (pa_cons (pv 7) pa_nil))) (nomark _))
      (pss_one (ps_ret pe_bl))
      pss_nil)))
    (pss_one (ps_ret pe_bl))))), ?_⟩
    refine ⟨_, rfl, sc, ns, rfl, hS, fun a H0 hP0 s0 => ?_⟩
    have t0 : LamX.Tabs [(PT, qLam91)] H0 := fun p hp => by
      rw [List.mem_singleton.mp hp]
      exact LamX.TabS.nil (s0 _ _ hPT)
    refine ⟨_, rfl, sc, _, rfl, .inl (s0.seq hS), _, _, rfl, _, _, rfl, rfl, _, rfl, ?_⟩
    obtain ⟨m2, m3⟩ := mn9 ((ns.map V.int).length : Int) (by omega)
    refine ⟨by omega, by omega, ?_⟩
    generalize hmm : (3 + (if ((ns.map V.int).length : Int) < 9 then ((ns.map V.int).length : Int) else 9)) = mm
    have hm12 : mm.toNat ≤ 12 := by omega
    refine for_range (lo := 0) (n := mm.toNat) (fun i σ H' => ∃ (y2 y3 y4 y5 y6 : Option V), σ = [some (.ref sc), some (.ref a), y2, y3, y4, y5, y6, none, none] ∧ Pen H' a (20000 * i) ∧ LamX.Tabs [(PT, qLam91)] H') ⟨_, _, _, _, _, rfl, hP0, t0⟩ ?_ ?_
    · rintro i σ H1 hi ⟨y2, y3, y4, y5, y6, rfl, hP1, t1⟩
      have hi : i < 12 := by omega
      have dB : ∀ x : Int, 0 < x → x < 2 ^ 36 → Bd 9000 x := fun x h0 h => Bd.small 40 (by omega) (by decide)
      refine ⟨_, rfl, _, rfl, a, _, rfl, hP1, by omega, fun r H2 p q c R er hP2 f2 => ?_⟩
      refine ⟨_, rfl, a, _, _, rfl, hP2, by omega, by decide, dB _ (by decide) (by decide), fun d H3 d0 d1 hP3 f3 => ⟨_, _, rfl, rfl, ?_⟩⟩
      refine ⟨a, _, r, p, q, c, 1 + d, rfl, hP3, by omega, f3.t _ _ er, R, by omega, by omega, fun EV H4 ve es eE hE le pwE hb hP4 f4 => ?_⟩
      have lx := hE.len
      have t4 := tabs_fr (tabs_fr (tabs_fr t1 f2) f3) f4
      have hS' : ∀ e ∈ es, EnS e := fun e he => ⟨(hb e he).2.2.1, (hb e he).1, (hb e he).2.1, (hb e he).2.2.2⟩
      refine ⟨EV, rfl, ⟨_, SqL.of eE⟩, fun Y nY => ?_⟩
      refine lc_list (K := K) (a := EV) (xs := ve) (fun i H' => Same H4 H' ∧ ∃ zs : List Str, H' Y = some (.lst (zs.map V.str)) ∧ zs.length = i ∧ LnL 900 0 zs) ⟨sm_upd nY, [], upd_same, rfl, fun z hz => (nomatch hz)⟩ ?_ ?_ ?_
      · rintro i H' _ ⟨s', _⟩
        exact SqL.of (s' _ _ eE)
      · rintro i y H' hy ⟨s', zs, eY, lz, hz⟩
        obtain ⟨r, e, rfl, he, hi⟩ := (hE.kp (.same s')).at hy
        have hi' := (List.getElem?_eq_some_iff.mp hi).1
        have heS := hS' e (List.mem_of_getElem? hi)
        refine ⟨rfl, _, rfl, r, e, rfl, he, heS, fun z H2 s2 hz2 => ?_⟩
        refine ⟨_, s2 _ _ eY, ?_, ?_, zs ++ [z], ?_, ?_, hz.app fun u hu => ?_⟩
        · rw [List.length_map]
          exact ltS (by omega)
        · intro b o eb
          rw [upd_ne (ne_of_none eb nY)]
          exact s2 _ _ (s' _ _ eb)
        · rw [upd_same, List.map_append]
          rfl
        · rw [List.length_append, lz]
          rfl
        · rw [List.mem_singleton.mp hu]
          exact row_ln heS.enb hz2
      rintro H5 ⟨s5, zs, eY, lz, hz⟩
      have hP5 := hP4.same s5
      have t5 := tabs_same t4 s5
      have aY : a.l ≠ Y := by
        obtain ⟨cs, t, r, h1, h2, h3⟩ := hP4.ex
        exact ne_of_none h2 nY
      have lz8 : zs.length ≤ 8 := by omega
      have lz1 : 1 ≤ zs.length := by omega
      clear hP1 hP2 hP3 hP4 f2 f3 f4 t1 t4 eE hE er s5 nY
      -- one change or two
      refine ⟨fun σ' H' => ∃ (y4 y5 : Option V) (zs : List Str), σ' = [some (.ref sc), some (.ref a), some (.int (0 + (i : Int))), some (.ref Y), y4, y5, y6, none, none] ∧ H' Y = some (.lst (zs.map V.str)) ∧ 1 ≤ zs.length ∧ zs.length ≤ 8 ∧ LnL 39900 3 zs ∧ Pen H' a (20000 * i + 5000) ∧ LamX.Tabs [(PT, qLam91)] H', ?_, ?_⟩
      · refine ⟨_, rfl, a, _, _, rfl, hP5, by omega, by decide, dB _ (by decide) (by decide), fun d2 H6 d20 d21 hP6 f6 => ⟨_, _, rfl, rfl, _, rfl, by omega, by omega, ?_⟩⟩
        have t6 := tabs_fr t5 f6
        have eY6 := f6.l _ _ eY
        have hn2 : (1 + d2).toNat ≤ 2 := by omega
        refine for_range (lo := 0) (n := (1 + d2).toNat) (fun j σ' H' => ∃ (y4 y5 : Option V) (zs : List Str), σ' = [some (.ref sc), some (.ref a), some (.int (0 + (i : Int))), some (.ref Y), y4, y5, y6, none, none] ∧ H' Y = some (.lst (zs.map V.str)) ∧ 1 ≤ zs.length ∧ zs.length ≤ 8 ∧ LnL (uB j) (qB j) zs ∧ Pen H' a (20000 * i + 4000 + 100 * j) ∧ LamX.Tabs [(PT, qLam91)] H') ⟨_, _, zs, rfl, eY6, lz1, lz8, hz, hP6.mono (by omega), t6⟩ ?_ ?_
        · rintro j σ' H7 hj ⟨y4, y5, zs, rfl, eY7, lz1, lz8, hz, hP7, t7⟩
          have hj : j < 2 := by omega
          refine ⟨_, rfl, _, rfl, Y, _, rfl, .inl (SqL.of eY7), a, _, _, rfl, hP7, by omega, by rw [List.length_map]; omega, Bd.small 20 (by rw [List.length_map]; omega) (by decide), fun d3 H8 d30 d31 hP8 f8 => ?_⟩
          rw [List.length_map] at d31
          obtain ⟨jj, rfl⟩ := Int.eq_ofNat_of_zero_le d30
          have hjj : jj < zs.length := by omega
          obtain ⟨z, hzj⟩ : ∃ z, zs[jj]? = some z := ⟨_, List.getElem?_eq_getElem hjj⟩
          have eY8 := f8.l _ _ eY7
          have hzm := List.mem_of_getElem? hzj
          refine ⟨_, rfl, _, rfl, _, rfl, Y, _, _, _, rfl, rfl, SqL.of eY8, atI_nat (j := jj) (by rw [List.getElem?_map, hzj]; rfl), a, _, uB j, qB j, z, rfl, hP8, by omega, by unfold uB; match j, hj with | 0, _ => decide | 1, _ => decide, hz z hzm, fun y H9 ly hP9 f9 => ?_⟩
          have eY9 := f9.l _ _ eY8
          refine ⟨_, rfl, _, rfl, Y, _, (jj : Int), jj, rfl, rfl, eY9, by unfold ixN; rw [List.length_map, if_pos (by omega), if_pos (by omega)]; simp, ?_⟩
          have em : (zs.map V.str).set jj (.str y) = (zs.set jj y).map V.str := by rw [List.map_set]
          rw [em]
          refine ⟨_, _, zs.set jj y, rfl, upd_same, by rw [List.length_set]; exact lz1, by rw [List.length_set]; exact lz8, fun u hu => ?_, (pen_set hP9 aY eY9).mono (by omega), tabs_upd91 (tabs_fr (tabs_fr t7 f8) f9) eY9⟩
          rcases List.mem_or_eq_of_mem_set hu with hu | rfl
          · refine (hz u hu).mono ?_ ?_
            · match j, hj with
              | 0, _ => decide
              | 1, _ => decide
            · match j, hj with
              | 0, _ => decide
              | 1, _ => decide
          · refine ly.mono ?_ ?_
            · match j, hj with
              | 0, _ => decide
              | 1, _ => decide
            · match j, hj with
              | 0, _ => decide
              | 1, _ => decide
        · rintro σ' H7 ⟨y4, y5, zs, rfl, eY7, lz1, lz8, hz, hP7, t7⟩
          refine ⟨_, _, zs, rfl, eY7, lz1, lz8, fun u hu => (hz u hu).mono ?_ ?_, hP7.mono (by omega), t7⟩
          · unfold uB
            split
            · decide
            · split <;> decide
          · unfold qB
            split
            · decide
            · split <;> decide
      clear hP5 t5 eY hz lz lz8 lz1
      rintro σ' H6 ⟨y4', y5', zs, rfl, eY6, lz1, lz8, hz, hP6, t6⟩
      -- a row twice, or not
      refine ⟨fun σ' H' => ∃ (Y' : Addr) (zs : List Str), σ' = [some (.ref sc), some (.ref a), some (.int (0 + (i : Int))), some (.ref Y'), y4', y5', y6, none, none] ∧ H' Y' = some (.lst (zs.map V.str)) ∧ 1 ≤ zs.length ∧ zs.length ≤ 9 ∧ LnL 39900 3 zs ∧ Pen H' a (20000 * i + 6000) ∧ LamX.Tabs [(PT, qLam91)] H', ?_, ?_⟩
      · refine ⟨_, rfl, a, _, _, rfl, hP6, by omega, by decide, dB _ (by decide) (by decide), fun d4 H7 d40 d41 hP7 f7 => ⟨rfl, _, rfl, ?_⟩⟩
        have eY7 := f7.l _ _ eY6
        have t7 := tabs_fr t6 f7
        by_cases c : V.int d4 = V.int 0
        · refine iteD c ⟨_, rfl, _, rfl, _, rfl, _, rfl, Y, _, rfl, .inl (SqL.of eY7), a, _, _, rfl, hP7, by omega, by rw [List.length_map]; omega, Bd.small 20 (by rw [List.length_map]; omega) (by decide), fun d5 H8 d50 d51 hP8 f8 => ?_⟩
          rw [List.length_map] at d51
          obtain ⟨jj, rfl⟩ := Int.eq_ofNat_of_zero_le d50
          have hjj : jj < zs.length := by omega
          obtain ⟨z, hzj⟩ : ∃ z, zs[jj]? = some z := ⟨_, List.getElem?_eq_getElem hjj⟩
          have eY8 := f8.l _ _ eY7
          refine ⟨Y, _, _, _, rfl, rfl, SqL.of eY8, atI_nat (j := jj) (by rw [List.getElem?_map, hzj]; rfl), len10 (by simp), fun M nM mM => ?_⟩
          have zM := sm_upd (o := .lst [.str z]) nM
          refine ⟨Y, M, _, _, rfl, rfl, zM _ _ eY8, upd_same, by rw [List.length_map, sizeLine_eq]; show _ + 1 ≤ _; omega, fun S nS => ?_⟩
          have zS := sm_upd (o := .lst (zs.map V.str ++ [.str z])) nS
          have zz := zM.trans zS
          refine ⟨S, zs ++ [z], rfl, by rw [upd_same, List.map_append]; rfl, by rw [List.length_append]; omega, by rw [List.length_append]; show zs.length + 1 ≤ 9; omega, hz.app fun u hu => by rw [List.mem_singleton.mp hu]; exact hz z (List.mem_of_getElem? hzj), (hP8.same zz).mono (by omega), tabs_same (tabs_fr t7 f8) zz⟩
        · exact iteDn c ⟨Y, zs, rfl, eY7, lz1, by omega, hz, hP7.mono (by omega), t7⟩
      clear eY6 lz8 lz1 hz hP6 t6
      rintro σ' H7 ⟨Y', zs, rfl, eY7, lz1, lz9, hz, hP7, t7⟩
      have nl1 : (Str.ofString "\n").length = 1 := by decide +kernel
      refine ⟨rfl, _, rfl, _, rfl, a, _, Y', zs.map V.str, rfl, hP7, by omega, eY7, by rw [List.length_map]; omega, fun M H8 ys nM eM pm hP8 f8 => ?_⟩
      obtain ⟨zs2, pz, e2⟩ := perm_lift V.str pm rfl
      subst e2
      have hz2 : ∀ z ∈ zs2, Ln 39900 3 z := fun z h => hz z (pz.mem_iff.mp h)
      have l2 := pz.length_eq
      have hsum := sum_ln (n := 39900) (l := zs2) fun z h => (hz2 z h).l.len
      refine ⟨_, M, zs2, rfl, rfl, .inl (SqL.of eM), by rw [nl1]; omega, ?_⟩
      have tx := txt_of (by decide) hz2 (fun h => by rw [h] at l2; simp at l2; omega) (by omega) (by omega)
      generalize Txt.join (Str.ofString "\n") zs2 = J at tx ⊢
      have t8 := tabs_fr t7 f8
      refine ⟨_, rfl, .str J, .str J, rfl, .str J, tx.sh, fun h => (nomatch h), fun z hz => ?_⟩
      cases hz
      refine ⟨tx, fun T g H9 s9 hd da => ?_⟩
      refine ⟨_, rfl, J, rfl, tx, tabs_same t8 s9, fun v g2 H10 e10 t10 hd2 da2 => ?_⟩
      obtain rfl := DueP.uniq hd hd2
      refine ne_da (Da.kp (LtK.ext e10) _ _ da) da2 (hd.shp tx) (by decide) ⟨_, rfl, iteFs rfl ?_⟩
      refine ⟨_, _, _, _, _, rfl, ((hP8.same s9).extN e10).mono (by rw [List.length_map]; omega), t10⟩
    · rintro σ H1 ⟨y2, y3, y4, y5, y6, rfl, hP1, t1⟩
      refine ⟨len10 (by simp), fun L1 nL1 mL1 => ⟨len10 (by simp), fun T1 nT1 => fun D nD => ⟨len10 (by simp), fun Tq nTq => ⟨Tq, rfl, ⟨_, SqT.of upd_same⟩, ?_⟩⟩⟩⟩
      have z1 := sm_upd (o := .lst [.str "1 a is trusted"]) nL1
      have z2 := sm_upd (o := .tup [.str "1 a is trusted"]) nT1
      have z3 := sm_upd (o := .dK []) nD
      have z4 := sm_upd (o := .tup (xs91 L1 T1 D)) nTq
      have F : F91 L1 T1 D Tq (upd (upd (upd (upd H1 L1 (.lst [.str "1 a is trusted"])) T1 (.tup [.str "1 a is trusted"])) D (.dK [])) Tq (.tup (xs91 L1 T1 D))) := ⟨mL1, z4 _ _ (z3 _ _ (z2 _ _ upd_same)), z4 _ _ (z3 _ _ upd_same), z4 _ _ upd_same, upd_same⟩
      refine for_tup (K := K) (a := Tq) (xs := xs91 L1 T1 D) (fun k σ H' => ∃ (y7 : Option V), σ = [some (.ref sc), some (.ref a), y2, y3, y4, y5, y6, y7, none] ∧ F91 L1 T1 D Tq H') ⟨_, rfl, F⟩ ?_ ?_ ?_
      · rintro k σ H' _ ⟨_, _, F⟩
        exact SqT.of F.eQ
      · rintro k x σ H2 hx ⟨y7, rfl, F⟩
        have hm := List.mem_of_getElem? hx
        obtain ⟨si, d, dv, ns⟩ := F.dv hm
        have sh : shT 1000000 d := by
          cases d <;> first | exact trivial | cases ns
        refine ⟨_, rfl, x, d, rfl, dv, sh, fun _ T H3 s3 eT => ⟨_, rfl, len10 (by simp), fun T2 nT2 => ?_⟩, fun z hz => ?_⟩
        · have y3' := sm_upd (o := .tup [.str "parse", x]) nT2
          exact ⟨T, T2, _, rfl, rfl, SqT.of (y3' _ _ eT), SqT.of upd_same, si, _, rfl, iteFs rfl ⟨_, rfl, F.same (s3.trans y3')⟩⟩
        · rw [hz] at ns
          cases ns
      · rintro σ H2 ⟨y7, rfl, F⟩
        exact kk _
end
/-! ### what the top has written -/
abbrev sI_ParseError : Stmt := (C8.clsBody (topS 4)).getD 0 (.Pass ⟨0, 0, 0, 0⟩)
theorem iniT_ParseError : IniT "line" (defArgs sI_ParseError) (defBody sI_ParseError) (defScope sI_ParseError) := ⟨⟨_, rfl, rfl⟩, ⟨_, _, _, _, _, _, _, _, _, _, _, _, rfl, _, fun env => rfl⟩, rfl, rfl, rfl, rfl, by decide +kernel, by decide +kernel, rfl, rfl, rfl, by decide +kernel, by decide +kernel, by decide +kernel⟩
abbrev sI_DuplicateMoment : Stmt := (C8.clsBody (topS 3)).getD 0 (.Pass ⟨0, 0, 0, 0⟩)
theorem iniT_DuplicateMoment : IniT "value" (defArgs sI_DuplicateMoment) (defBody sI_DuplicateMoment) (defScope sI_DuplicateMoment) := ⟨⟨_, rfl, rfl⟩, ⟨_, _, _, _, _, _, _, _, _, _, _, _, rfl, _, fun env => rfl⟩, rfl, rfl, rfl, rfl, by decide +kernel, by decide +kernel, rfl, rfl, rfl, by decide +kernel, by decide +kernel, by decide +kernel⟩

theorem all_mk {l : PySem.W.OpenLaw} {w : World} {K : PySem.W.Frag} {h : Heap} {mg : Str → Option Value} {fa : Addr} (X : K.In h) (G : h.Ns mainGlobals mg) (hfa : mg "law" = some (.ref fa))
    {f0 f1 f2 f3 f4 f5 f6 f7 f8 f9 f10 f11 f12 f13 f14 f15 f16 f17 f18 f19 f20 f21 f22 f23 f24 f25 f26 f27 f28 : Addr} {od0 an0 od1 an1 od2 an2 od3 an3 od4 an4 od5 an5 od6 an6 od7 an7 od8 an8 od9 an9 od10 an10 od11 an11 od12 an12 od13 an13 od14 an14 od15 an15 od16 an16 od17 an17 od18 an18 od19 an19 od20 an20 od21 an21 od22 an22 od23 an23 od24 an24 od25 an25 od26 an26 od27 an27 od28 an28 : Option Addr} {sl0 sl1 sl2 sl3 sl4 sl5 sl6 sl7 sl8 sl9 sl10 sl11 sl12 sl13 sl14 sl15 sl16 sl17 sl18 sl19 sl20 sl21 sl22 sl23 sl24 sl25 sl26 sl27 sl28 : Array (Option Value)} {oc0 kV0 dc0 pm0 cd0 ct0 oc1 kV1 dc1 pm1 cd1 ct1 oc2 kV2 dc2 pm2 cd2 ct2 oc3 kV3 dc3 pm3 cd3 ct3 oc4 kV4 dc4 pm4 cd4 ct4 oc5 kV5 dc5 pm5 cd5 ct5 oc6 kV6 dc6 pm6 cd6 ct6 oc7 kV7 dc7 pm7 cd7 ct7 oc8 kV8 dc8 pm8 cd8 ct8 oc9 kV9 dc9 pm9 cd9 ct9 oc10 kV10 dc10 pm10 cd10 ct10 oc11 kV11 dc11 pm11 cd11 ct11 oc12 kV12 dc12 pm12 cd12 ct12 oc13 kV13 dc13 pm13 cd13 ct13 oc14 kV14 dc14 pm14 cd14 ct14 oc15 kV15 dc15 pm15 cd15 ct15 oc16 kV16 dc16 pm16 cd16 ct16 oc17 kV17 dc17 pm17 cd17 ct17 oc18 kV18 dc18 pm18 cd18 ct18 oc19 kV19 dc19 pm19 cd19 ct19 oc20 kV20 dc20 pm20 cd20 ct20 oc21 kV21 dc21 pm21 cd21 ct21 oc22 kV22 dc22 pm22 cd22 ct22 oc23 kV23 dc23 pm23 cd23 ct23 oc24 kV24 dc24 pm24 cd24 ct24 oc25 kV25 dc25 pm25 cd25 ct25 oc26 kV26 dc26 pm26 cd26 ct26 oc27 kV27 dc27 pm27 cd27 ct27 oc28 kV28 dc28 pm28 cd28 ct28 : Value}
    (a0 : PySem.W.nsIn K mainGlobals "_law_start" = some (some (.ref f0))) (l0 : K.lookup f0 = some ⟨oc0, od0, .func (PySem.W.fnOf "_law_start" "_law_start" (defArgs s_l_start) (defBody s_l_start) (defScope s_l_start) .none kV0 dc0 pm0 an0 cd0 ct0), sl0⟩) (c0 : PySem.W.codeIn K cd0 "_law_start" = true) (k0 : PySem.W.keepIn K (.ref f0) = true)
    (a1 : PySem.W.nsIn K mainGlobals "_law_draw" = some (some (.ref f1))) (l1 : K.lookup f1 = some ⟨oc1, od1, .func (PySem.W.fnOf "_law_draw" "_law_draw" (defArgs s_l_draw) (defBody s_l_draw) (defScope s_l_draw) .none kV1 dc1 pm1 an1 cd1 ct1), sl1⟩) (c1 : PySem.W.codeIn K cd1 "_law_draw" = true) (k1 : PySem.W.keepIn K (.ref f1) = true)
    (a2 : PySem.W.nsIn K mainGlobals "is_integer" = some (some (.ref f2))) (l2 : K.lookup f2 = some ⟨oc2, od2, .func (PySem.W.fnOf "is_integer" "is_integer" (defArgs s_is_integer) (defBody s_is_integer) (defScope s_is_integer) .none kV2 dc2 pm2 an2 cd2 ct2), sl2⟩) (c2 : PySem.W.codeIn K cd2 "is_integer" = true) (k2 : PySem.W.keepIn K (.ref f2) = true)
    (a3 : PySem.W.nsIn K mainGlobals "gcd" = some (some (.ref f3))) (l3 : K.lookup f3 = some ⟨oc3, od3, .func (PySem.W.fnOf "gcd" "gcd" (defArgs s_gcd) (defBody s_gcd) (defScope s_gcd) .none kV3 dc3 pm3 an3 cd3 ct3), sl3⟩) (c3 : PySem.W.codeIn K cd3 "gcd" = true) (k3 : PySem.W.keepIn K (.ref f3) = true)
    (a4 : PySem.W.nsIn K mainGlobals "is_record" = some (some (.ref f4))) (l4 : K.lookup f4 = some ⟨oc4, od4, .func (PySem.W.fnOf "is_record" "is_record" (defArgs s_is_record) (defBody s_is_record) (defScope s_is_record) .none kV4 dc4 pm4 an4 cd4 ct4), sl4⟩) (c4 : PySem.W.codeIn K cd4 "is_record" = true) (k4 : PySem.W.keepIn K (.ref f4) = true)
    (a5 : PySem.W.nsIn K mainGlobals "split_records" = some (some (.ref f5))) (l5 : K.lookup f5 = some ⟨oc5, od5, .func (PySem.W.fnOf "split_records" "split_records" (defArgs s_split_records) (defBody s_split_records) (defScope s_split_records) .none kV5 dc5 pm5 an5 cd5 ct5), sl5⟩) (c5 : PySem.W.codeIn K cd5 "split_records" = true) (k5 : PySem.W.keepIn K (.ref f5) = true)
    (a6 : PySem.W.nsIn K mainGlobals "_law_divisor" = some (some (.ref f6))) (l6 : K.lookup f6 = some ⟨oc6, od6, .func (PySem.W.fnOf "_law_divisor" "_law_divisor" (defArgs s_l_divisor) (defBody s_l_divisor) (defScope s_l_divisor) .none kV6 dc6 pm6 an6 cd6 ct6), sl6⟩) (c6 : PySem.W.codeIn K cd6 "_law_divisor" = true) (k6 : PySem.W.keepIn K (.ref f6) = true)
    (a7 : PySem.W.nsIn K mainGlobals "_law_rule" = some (some (.ref f7))) (l7 : K.lookup f7 = some ⟨oc7, od7, .func (PySem.W.fnOf "_law_rule" "_law_rule" (defArgs s_l_rule) (defBody s_l_rule) (defScope s_l_rule) .none kV7 dc7 pm7 an7 cd7 ct7), sl7⟩) (c7 : PySem.W.codeIn K cd7 "_law_rule" = true) (k7 : PySem.W.keepIn K (.ref f7) = true)
    (a8 : PySem.W.nsIn K mainGlobals "_law_count" = some (some (.ref f8))) (l8 : K.lookup f8 = some ⟨oc8, od8, .func (PySem.W.fnOf "_law_count" "_law_count" (defArgs s_l_count) (defBody s_l_count) (defScope s_l_count) .none kV8 dc8 pm8 an8 cd8 ct8), sl8⟩) (c8 : PySem.W.codeIn K cd8 "_law_count" = true) (k8 : PySem.W.keepIn K (.ref f8) = true)
    (a9 : PySem.W.nsIn K mainGlobals "is_witness" = some (some (.ref f9))) (l9 : K.lookup f9 = some ⟨oc9, od9, .func (PySem.W.fnOf "is_witness" "is_witness" (defArgs s_is_witness) (defBody s_is_witness) (defScope s_is_witness) .none kV9 dc9 pm9 an9 cd9 ct9), sl9⟩) (c9 : PySem.W.codeIn K cd9 "is_witness" = true) (k9 : PySem.W.keepIn K (.ref f9) = true)
    (a10 : PySem.W.nsIn K mainGlobals "_law_record" = some (some (.ref f10))) (l10 : K.lookup f10 = some ⟨oc10, od10, .func (PySem.W.fnOf "_law_record" "_law_record" (defArgs s_l_record) (defBody s_l_record) (defScope s_l_record) .none kV10 dc10 pm10 an10 cd10 ct10), sl10⟩) (c10 : PySem.W.codeIn K cd10 "_law_record" = true) (k10 : PySem.W.keepIn K (.ref f10) = true)
    (a11 : PySem.W.nsIn K mainGlobals "_law_words" = some (some (.ref f11))) (l11 : K.lookup f11 = some ⟨oc11, od11, .func (PySem.W.fnOf "_law_words" "_law_words" (defArgs s_l_words) (defBody s_l_words) (defScope s_l_words) .none kV11 dc11 pm11 an11 cd11 ct11), sl11⟩) (c11 : PySem.W.codeIn K cd11 "_law_words" = true) (k11 : PySem.W.keepIn K (.ref f11) = true)
    (a12 : PySem.W.nsIn K mainGlobals "_law_entries" = some (some (.ref f12))) (l12 : K.lookup f12 = some ⟨oc12, od12, .func (PySem.W.fnOf "_law_entries" "_law_entries" (defArgs s_l_entries) (defBody s_l_entries) (defScope s_l_entries) .none kV12 dc12 pm12 an12 cd12 ct12), sl12⟩) (c12 : PySem.W.codeIn K cd12 "_law_entries" = true) (k12 : PySem.W.keepIn K (.ref f12) = true)
    (a13 : PySem.W.nsIn K mainGlobals "_law_mixed" = some (some (.ref f13))) (l13 : K.lookup f13 = some ⟨oc13, od13, .func (PySem.W.fnOf "_law_mixed" "_law_mixed" (defArgs s_l_mixed) (defBody s_l_mixed) (defScope s_l_mixed) .none kV13 dc13 pm13 an13 cd13 ct13), sl13⟩) (c13 : PySem.W.codeIn K cd13 "_law_mixed" = true) (k13 : PySem.W.keepIn K (.ref f13) = true)
    (a14 : PySem.W.nsIn K mainGlobals "words_of" = some (some (.ref f14))) (l14 : K.lookup f14 = some ⟨oc14, od14, .func (PySem.W.fnOf "words_of" "words_of" (defArgs s_words_of) (defBody s_words_of) (defScope s_words_of) .none kV14 dc14 pm14 an14 cd14 ct14), sl14⟩) (c14 : PySem.W.codeIn K cd14 "words_of" = true) (k14 : PySem.W.keepIn K (.ref f14) = true)
    (a15 : PySem.W.nsIn K mainGlobals "read_integer" = some (some (.ref f15))) (l15 : K.lookup f15 = some ⟨oc15, od15, .func (PySem.W.fnOf "read_integer" "read_integer" (defArgs s_read_integer) (defBody s_read_integer) (defScope s_read_integer) .none kV15 dc15 pm15 an15 cd15 ct15), sl15⟩) (c15 : PySem.W.codeIn K cd15 "read_integer" = true) (k15 : PySem.W.keepIn K (.ref f15) = true)
    (a16 : PySem.W.nsIn K mainGlobals "read_record" = some (some (.ref f16))) (l16 : K.lookup f16 = some ⟨oc16, od16, .func (PySem.W.fnOf "read_record" "read_record" (defArgs s_read_record) (defBody s_read_record) (defScope s_read_record) .none kV16 dc16 pm16 an16 cd16 ct16), sl16⟩) (c16 : PySem.W.codeIn K cd16 "read_record" = true) (k16 : PySem.W.keepIn K (.ref f16) = true)
    (a17 : PySem.W.nsIn K mainGlobals "read_moment" = some (some (.ref f17))) (l17 : K.lookup f17 = some ⟨oc17, od17, .func (PySem.W.fnOf "read_moment" "read_moment" (defArgs s_read_moment) (defBody s_read_moment) (defScope s_read_moment) .none kV17 dc17 pm17 an17 cd17 ct17), sl17⟩) (c17 : PySem.W.codeIn K cd17 "read_moment" = true) (k17 : PySem.W.keepIn K (.ref f17) = true)
    (a18 : PySem.W.nsIn K mainGlobals "read_entry" = some (some (.ref f18))) (l18 : K.lookup f18 = some ⟨oc18, od18, .func (PySem.W.fnOf "read_entry" "read_entry" (defArgs s_read_entry) (defBody s_read_entry) (defScope s_read_entry) .none kV18 dc18 pm18 an18 cd18 ct18), sl18⟩) (c18 : PySem.W.codeIn K cd18 "read_entry" = true) (k18 : PySem.W.keepIn K (.ref f18) = true)
    (a19 : PySem.W.nsIn K mainGlobals "parse_log" = some (some (.ref f19))) (l19 : K.lookup f19 = some ⟨oc19, od19, .func (PySem.W.fnOf "parse_log" "parse_log" (defArgs s_parse_log) (defBody s_parse_log) (defScope s_parse_log) .none kV19 dc19 pm19 an19 cd19 ct19), sl19⟩) (c19 : PySem.W.codeIn K cd19 "parse_log" = true) (k19 : PySem.W.keepIn K (.ref f19) = true)
    (a20 : PySem.W.nsIn K mainGlobals "_law_integer" = some (some (.ref f20))) (l20 : K.lookup f20 = some ⟨oc20, od20, .func (PySem.W.fnOf "_law_integer" "_law_integer" (defArgs s_l_integer) (defBody s_l_integer) (defScope s_l_integer) .none kV20 dc20 pm20 an20 cd20 ct20), sl20⟩) (c20 : PySem.W.codeIn K cd20 "_law_integer" = true) (k20 : PySem.W.keepIn K (.ref f20) = true)
    (a21 : PySem.W.nsIn K mainGlobals "_law_record_in" = some (some (.ref f21))) (l21 : K.lookup f21 = some ⟨oc21, od21, .func (PySem.W.fnOf "_law_record_in" "_law_record_in" (defArgs s_l_record_in) (defBody s_l_record_in) (defScope s_l_record_in) .none kV21 dc21 pm21 an21 cd21 ct21), sl21⟩) (c21 : PySem.W.codeIn K cd21 "_law_record_in" = true) (k21 : PySem.W.keepIn K (.ref f21) = true)
    (a22 : PySem.W.nsIn K mainGlobals "_law_is_word" = some (some (.ref f22))) (l22 : K.lookup f22 = some ⟨oc22, od22, .func (PySem.W.fnOf "_law_is_word" "_law_is_word" (defArgs s_l_is_word) (defBody s_l_is_word) (defScope s_l_is_word) .none kV22 dc22 pm22 an22 cd22 ct22), sl22⟩) (c22 : PySem.W.codeIn K cd22 "_law_is_word" = true) (k22 : PySem.W.keepIn K (.ref f22) = true)
    (a23 : PySem.W.nsIn K mainGlobals "_law_entry_in" = some (some (.ref f23))) (l23 : K.lookup f23 = some ⟨oc23, od23, .func (PySem.W.fnOf "_law_entry_in" "_law_entry_in" (defArgs s_l_entry_in) (defBody s_l_entry_in) (defScope s_l_entry_in) .none kV23 dc23 pm23 an23 cd23 ct23), sl23⟩) (c23 : PySem.W.codeIn K cd23 "_law_entry_in" = true) (k23 : PySem.W.keepIn K (.ref f23) = true)
    (a24 : PySem.W.nsIn K mainGlobals "_law_parsed" = some (some (.ref f24))) (l24 : K.lookup f24 = some ⟨oc24, od24, .func (PySem.W.fnOf "_law_parsed" "_law_parsed" (defArgs s_l_parsed) (defBody s_l_parsed) (defScope s_l_parsed) .none kV24 dc24 pm24 an24 cd24 ct24), sl24⟩) (c24 : PySem.W.codeIn K cd24 "_law_parsed" = true) (k24 : PySem.W.keepIn K (.ref f24) = true)
    (a25 : PySem.W.nsIn K mainGlobals "_law_due" = some (some (.ref f25))) (l25 : K.lookup f25 = some ⟨oc25, od25, .func (PySem.W.fnOf "_law_due" "_law_due" (defArgs s_l_due) (defBody s_l_due) (defScope s_l_due) .none kV25 dc25 pm25 an25 cd25 ct25), sl25⟩) (c25 : PySem.W.codeIn K cd25 "_law_due" = true) (k25 : PySem.W.keepIn K (.ref f25) = true)
    (a26 : PySem.W.nsIn K mainGlobals "_law_row" = some (some (.ref f26))) (l26 : K.lookup f26 = some ⟨oc26, od26, .func (PySem.W.fnOf "_law_row" "_law_row" (defArgs s_l_row) (defBody s_l_row) (defScope s_l_row) .none kV26 dc26 pm26 an26 cd26 ct26), sl26⟩) (c26 : PySem.W.codeIn K cd26 "_law_row" = true) (k26 : PySem.W.keepIn K (.ref f26) = true)
    (a27 : PySem.W.nsIn K mainGlobals "_law_changed" = some (some (.ref f27))) (l27 : K.lookup f27 = some ⟨oc27, od27, .func (PySem.W.fnOf "_law_changed" "_law_changed" (defArgs s_l_changed) (defBody s_l_changed) (defScope s_l_changed) .none kV27 dc27 pm27 an27 cd27 ct27), sl27⟩) (c27 : PySem.W.codeIn K cd27 "_law_changed" = true) (k27 : PySem.W.keepIn K (.ref f27) = true)
    (a28 : PySem.W.nsIn K mainGlobals "law" = some (some (.ref f28))) (l28 : K.lookup f28 = some ⟨oc28, od28, .func (PySem.W.fnOf "law" "law" (defArgs s_law) (defBody s_law) (defScope s_law) .none kV28 dc28 pm28 an28 cd28 ct28), sl28⟩) (c28 : PySem.W.codeIn K cd28 "law" = true) (k28 : PySem.W.keepIn K (.ref f28) = true)
    (z0 : PySem.W.nsIn K mainGlobals "len" = some none) (z1 : PySem.W.nsIn K mainGlobals "abs" = some none) (z2 : PySem.W.nsIn K mainGlobals "list" = some none) (z3 : PySem.W.nsIn K mainGlobals "range" = some none) (z4 : PySem.W.nsIn K mainGlobals "sum" = some none) (z5 : PySem.W.nsIn K mainGlobals "repr" = some none) (z6 : PySem.W.nsIn K mainGlobals "max" = some none) (z7 : PySem.W.nsIn K mainGlobals "min" = some none) (z8 : PySem.W.nsIn K mainGlobals "reversed" = some none) (z9 : PySem.W.nsIn K mainGlobals "divmod" = some none) (z10 : PySem.W.nsIn K mainGlobals "isinstance" = some none) (z11 : PySem.W.nsIn K mainGlobals "all" = some none) (z12 : PySem.W.nsIn K mainGlobals "int" = some none) (z13 : PySem.W.nsIn K mainGlobals "bool" = some none) (z14 : PySem.W.nsIn K mainGlobals "tuple" = some none) (z15 : PySem.W.nsIn K mainGlobals "sorted" = some none) (z16 : PySem.W.nsIn K mainGlobals "zip" = some none) (z17 : PySem.W.nsIn K mainGlobals "enumerate" = some none) (z18 : PySem.W.nsIn K mainGlobals "set" = some none) (z19 : PySem.W.nsIn K mainGlobals "str" = some none)
    {vC0 vI0 vD0 vX0 vN0 : Addr} {vnm0 vqn0 : Str} {vbs0 vbm0 vsb0 : List Value} {vsn0 : List Str} {vab0 : Bool} {vcl0 : Option Bool} {vdd0 von0 vcd0 vce0 van0 : Option Addr} {vk00 vk10 vk20 vk30 vk50 : Option Value} {voc0 vkV0 vdc0 vpm0 vct0 vcc0 vce20 : Value} {vsl0 vcs0 vcs20 : Array (Option Value)} {vvs0 : Array Value} {vfl0 : Str} {vtf0 : Tok} (v0_0 : PySem.W.nsIn K mainGlobals "ParseError" = some (some (.ref vC0))) (v0_1 : K.lookup vC0 = some (excClassObj vnm0 vqn0 vC0 vN0 vbs0 vbm0 true vsn0 vsb0 vab0 vcl0 vdd0 vk00 vk10 vk20 vk30 vk50 "ValueError.__new__")) (v0_2 : PySem.HandSPX.refsVE vbm0 = true) (v0_3 : PySem.W.findIn K (.ref vC0) "__setattr__" = some (some (.builtin "object.__setattr__"))) (v0_4 : PySem.W.subIn K (.ref vC0) (.type "BaseException") = some true) (v0_5 : PySem.W.typeIn K (.ref vC0) = some (.type "type")) (v0_6 : PySem.W.keepIn K (.ref vC0) = true) (v0_7 : PySem.W.findIn K (.ref vC0) "__init__" = some (some (.ref vI0))) (v0_8 : K.lookup vI0 = some ⟨voc0, von0, .func (PySem.W.ksFn "__init__" "ParseError.__init__" (defArgs sI_ParseError) (defBody sI_ParseError) (defScope sI_ParseError) .none vkV0 vdc0 vpm0 van0 (.ref vD0) vct0 vX0), vsl0⟩) (v0_9 : PySem.W.codeIn K (.ref vD0) "ParseError.__init__" = true) (v0_10 : K.lookup vD0 = some ⟨vcc0, vcd0, .fields vvs0, vcs0⟩) (v0_11 : vvs0[2]? = some (.str vfl0 vtf0)) (v0_12 : ((l.prog.main.file : Str) == vfl0) = true) (v0_13 : K.lookup vX0 = some ⟨vce20, vce0, .cell (some (.ref vC0)), vcs20⟩) (v0_14 : PySem.W.mroIn K vC0 (.ref vC0) = some true) (v0_15 : PySem.W.ks_superIn K vC0 vC0 "__init__" = some (some (.builtin "ValueError.__init__"))) (v0_16 : PySem.W.subIn K (.ref vC0) (.type "ValueError") = some true) (v0_17 : PySem.W.findIn K (.ref vC0) "line" = some none) (v0_18 : PySem.W.typeIn K (.ref vI0) = some (.type "function")) (v0_19 : PySem.W.findIn K (.ref vC0) "__getattribute__" = some (some (.builtin "BaseException.__getattribute__"))) (v0_20 : PySem.W.findIn K (.ref vC0) "__getattr__" = some none) (v0_21 : PySem.W.hasDictIn K vC0 = true) (v0_22 : PySem.W.findIn K (.ref vC0) "__class__" = some (some (.builtin "object.__class__"))) (v0_23 : PySem.W.mroIn K vC0 (.type "object") = some true) (v0_24 : PySem.W.subIn K (.ref vC0) (.ref vC0) = some true) {vC1 vI1 vD1 vX1 vN1 : Addr} {vnm1 vqn1 : Str} {vbs1 vbm1 vsb1 : List Value} {vsn1 : List Str} {vab1 : Bool} {vcl1 : Option Bool} {vdd1 von1 vcd1 vce1 van1 : Option Addr} {vk01 vk11 vk21 vk31 vk51 : Option Value} {voc1 vkV1 vdc1 vpm1 vct1 vcc1 vce21 : Value} {vsl1 vcs1 vcs21 : Array (Option Value)} {vvs1 : Array Value} {vfl1 : Str} {vtf1 : Tok} (v1_0 : PySem.W.nsIn K mainGlobals "DuplicateMoment" = some (some (.ref vC1))) (v1_1 : K.lookup vC1 = some (excClassObj vnm1 vqn1 vC1 vN1 vbs1 vbm1 true vsn1 vsb1 vab1 vcl1 vdd1 vk01 vk11 vk21 vk31 vk51 "ValueError.__new__")) (v1_2 : PySem.HandSPX.refsVE vbm1 = true) (v1_3 : PySem.W.findIn K (.ref vC1) "__setattr__" = some (some (.builtin "object.__setattr__"))) (v1_4 : PySem.W.subIn K (.ref vC1) (.type "BaseException") = some true) (v1_5 : PySem.W.typeIn K (.ref vC1) = some (.type "type")) (v1_6 : PySem.W.keepIn K (.ref vC1) = true) (v1_7 : PySem.W.findIn K (.ref vC1) "__init__" = some (some (.ref vI1))) (v1_8 : K.lookup vI1 = some ⟨voc1, von1, .func (PySem.W.ksFn "__init__" "DuplicateMoment.__init__" (defArgs sI_DuplicateMoment) (defBody sI_DuplicateMoment) (defScope sI_DuplicateMoment) .none vkV1 vdc1 vpm1 van1 (.ref vD1) vct1 vX1), vsl1⟩) (v1_9 : PySem.W.codeIn K (.ref vD1) "DuplicateMoment.__init__" = true) (v1_10 : K.lookup vD1 = some ⟨vcc1, vcd1, .fields vvs1, vcs1⟩) (v1_11 : vvs1[2]? = some (.str vfl1 vtf1)) (v1_12 : ((l.prog.main.file : Str) == vfl1) = true) (v1_13 : K.lookup vX1 = some ⟨vce21, vce1, .cell (some (.ref vC1)), vcs21⟩) (v1_14 : PySem.W.mroIn K vC1 (.ref vC1) = some true) (v1_15 : PySem.W.ks_superIn K vC1 vC1 "__init__" = some (some (.builtin "ValueError.__init__"))) (v1_16 : PySem.W.subIn K (.ref vC1) (.type "ValueError") = some true) (v1_17 : PySem.W.findIn K (.ref vC1) "value" = some none) (v1_18 : PySem.W.typeIn K (.ref vI1) = some (.type "function")) (v1_19 : PySem.W.findIn K (.ref vC1) "__getattribute__" = some (some (.builtin "BaseException.__getattribute__"))) (v1_20 : PySem.W.findIn K (.ref vC1) "__getattr__" = some none) (v1_21 : PySem.W.hasDictIn K vC1 = true) (v1_22 : PySem.W.findIn K (.ref vC1) "__class__" = some (some (.builtin "object.__class__"))) (v1_23 : PySem.W.mroIn K vC1 (.type "object") = some true) (v1_24 : PySem.W.subIn K (.ref vC1) (.ref vC1) = some true) (vu0 : PySem.W.nsIn K cStatics "thirdparty.any" = some none) (vu1 : PySem.W.specialIn K (.builtin "object.__class__") "__get__" = some (some (.builtin "getset_descriptor.__get__"))) (vu2 : PySem.W.takesIn K (.builtin "object.__class__") = some true) (vu3 : (l.prog.main.scope.names.lookup ("super" : Str)).isSome = false) (vu4 : PySem.W.nsIn K mainGlobals "super" = some none)
    {kC0 : Addr} (w0_0 : PySem.W.nsIn K mainGlobals "Log" = some (some (.ref kC0))) (w0_1 : PySem.W.plainGet K kC0 Str.empty = true) (w0_2 : PySem.W.hasDictIn K kC0 = true) (w0_3 : PySem.W.plainOver K kC0 = true) (w0_4 : PySem.W.findIn K (.ref kC0) "__setattr__" = some (some (.builtin "object.__setattr__"))) (w0_5 : PySem.W.makesIn K kC0 = true) (w0_6 : PySem.W.keepIn K (.ref kC0) = true) (w0_7 : PySem.W.findIn K (.ref kC0) "held" = some none) {kf0_0 : Addr} {kod0_0 kan0_0 : Option Addr} {ksl0_0 : Array (Option Value)} {koc0_0 kkV0_0 kdc0_0 kpm0_0 kcd0_0 kct0_0 : Value} (w0_0_0 : PySem.W.findIn K (.ref kC0) "__init__" = some (some (.ref kf0_0))) (w0_0_1 : PySem.W.isFn K (.ref kf0_0) = true) (w0_0_2 : K.lookup kf0_0 = some ⟨koc0_0, kod0_0, .func (PySem.W.fnOf "__init__" "Log.__init__" (defArgs s_Log_init) (defBody s_Log_init) (defScope s_Log_init) .none kkV0_0 kdc0_0 kpm0_0 kan0_0 kcd0_0 kct0_0), ksl0_0⟩) (w0_0_3 : PySem.W.codeIn K kcd0_0 "Log.__init__" = true) (w0_0_4 : PySem.W.keepIn K (.ref kf0_0) = true) {kf0_1 : Addr} {kod0_1 kan0_1 : Option Addr} {ksl0_1 : Array (Option Value)} {koc0_1 kkV0_1 kdc0_1 kpm0_1 kcd0_1 kct0_1 : Value} (w0_1_0 : PySem.W.findIn K (.ref kC0) "enter" = some (some (.ref kf0_1))) (w0_1_1 : PySem.W.isFn K (.ref kf0_1) = true) (w0_1_2 : K.lookup kf0_1 = some ⟨koc0_1, kod0_1, .func (PySem.W.fnOf "enter" "Log.enter" (defArgs s_Log_enter) (defBody s_Log_enter) (defScope s_Log_enter) .none kkV0_1 kdc0_1 kpm0_1 kan0_1 kcd0_1 kct0_1), ksl0_1⟩) (w0_1_3 : PySem.W.codeIn K kcd0_1 "Log.enter" = true) (w0_1_4 : PySem.W.keepIn K (.ref kf0_1) = true) {kf0_2 : Addr} {kod0_2 kan0_2 : Option Addr} {ksl0_2 : Array (Option Value)} {koc0_2 kkV0_2 kdc0_2 kpm0_2 kcd0_2 kct0_2 : Value} (w0_2_0 : PySem.W.findIn K (.ref kC0) "report" = some (some (.ref kf0_2))) (w0_2_1 : PySem.W.isFn K (.ref kf0_2) = true) (w0_2_2 : K.lookup kf0_2 = some ⟨koc0_2, kod0_2, .func (PySem.W.fnOf "report" "Log.report" (defArgs s_Log_report) (defBody s_Log_report) (defScope s_Log_report) .none kkV0_2 kdc0_2 kpm0_2 kan0_2 kcd0_2 kct0_2), ksl0_2⟩) (w0_2_3 : PySem.W.codeIn K kcd0_2 "Log.report" = true) (w0_2_4 : PySem.W.keepIn K (.ref kf0_2) = true) {kf0_3 : Addr} {kod0_3 kan0_3 : Option Addr} {ksl0_3 : Array (Option Value)} {koc0_3 kkV0_3 kdc0_3 kpm0_3 kcd0_3 kct0_3 : Value} (w0_3_0 : PySem.W.findIn K (.ref kC0) "trust" = some (some (.ref kf0_3))) (w0_3_1 : PySem.W.isFn K (.ref kf0_3) = true) (w0_3_2 : K.lookup kf0_3 = some ⟨koc0_3, kod0_3, .func (PySem.W.fnOf "trust" "Log.trust" (defArgs s_Log_trust) (defBody s_Log_trust) (defScope s_Log_trust) .none kkV0_3 kdc0_3 kpm0_3 kan0_3 kcd0_3 kct0_3), ksl0_3⟩) (w0_3_3 : PySem.W.codeIn K kcd0_3 "Log.trust" = true) (w0_3_4 : PySem.W.keepIn K (.ref kf0_3) = true) {kf0_4 : Addr} {kod0_4 kan0_4 : Option Addr} {ksl0_4 : Array (Option Value)} {koc0_4 kkV0_4 kdc0_4 kpm0_4 kcd0_4 kct0_4 : Value} (w0_4_0 : PySem.W.findIn K (.ref kC0) "distrust" = some (some (.ref kf0_4))) (w0_4_1 : PySem.W.isFn K (.ref kf0_4) = true) (w0_4_2 : K.lookup kf0_4 = some ⟨koc0_4, kod0_4, .func (PySem.W.fnOf "distrust" "Log.distrust" (defArgs s_Log_distrust) (defBody s_Log_distrust) (defScope s_Log_distrust) .none kkV0_4 kdc0_4 kpm0_4 kan0_4 kcd0_4 kct0_4), ksl0_4⟩) (w0_4_3 : PySem.W.codeIn K kcd0_4 "Log.distrust" = true) (w0_4_4 : PySem.W.keepIn K (.ref kf0_4) = true) {kf0_5 : Addr} {kod0_5 kan0_5 : Option Addr} {ksl0_5 : Array (Option Value)} {koc0_5 kkV0_5 kdc0_5 kpm0_5 kcd0_5 kct0_5 : Value} {kDR0_5 : Addr} (w0_5_0 : PySem.W.findIn K (.ref kC0) "entries" = some (some (.ref kf0_5))) (w0_5_1 : PySem.W.isFn K (.ref kf0_5) = true) (w0_5_2 : K.lookup kf0_5 = some ⟨koc0_5, kod0_5, .func (PySem.W.fnOf "entries" "Log.entries" (defArgs s_Log_entries) (defBody s_Log_entries) (defScope s_Log_entries) .none kkV0_5 kdc0_5 kpm0_5 kan0_5 kcd0_5 kct0_5), ksl0_5⟩) (w0_5_3 : PySem.W.codeIn K kcd0_5 "Log.entries" = true) (w0_5_4 : PySem.W.keepIn K (.ref kf0_5) = true) (w0_5_5 : kkV0_5 = .ref kDR0_5) (w0_5_6 : PySem.W.nsIn K kDR0_5 "until" = some (some .none)) {kf0_6 : Addr} {kod0_6 kan0_6 : Option Addr} {ksl0_6 : Array (Option Value)} {koc0_6 kkV0_6 kdc0_6 kpm0_6 kcd0_6 kct0_6 : Value} (w0_6_0 : PySem.W.findIn K (.ref kC0) "reports" = some (some (.ref kf0_6))) (w0_6_1 : PySem.W.isFn K (.ref kf0_6) = true) (w0_6_2 : K.lookup kf0_6 = some ⟨koc0_6, kod0_6, .func (PySem.W.fnOf "reports" "Log.reports" (defArgs s_Log_reports) (defBody s_Log_reports) (defScope s_Log_reports) .none kkV0_6 kdc0_6 kpm0_6 kan0_6 kcd0_6 kct0_6), ksl0_6⟩) (w0_6_3 : PySem.W.codeIn K kcd0_6 "Log.reports" = true) (w0_6_4 : PySem.W.keepIn K (.ref kf0_6) = true) {kf0_7 : Addr} {kod0_7 kan0_7 : Option Addr} {ksl0_7 : Array (Option Value)} {koc0_7 kkV0_7 kdc0_7 kpm0_7 kcd0_7 kct0_7 : Value} {kDR0_7 : Addr} (w0_7_0 : PySem.W.findIn K (.ref kC0) "records" = some (some (.ref kf0_7))) (w0_7_1 : PySem.W.isFn K (.ref kf0_7) = true) (w0_7_2 : K.lookup kf0_7 = some ⟨koc0_7, kod0_7, .func (PySem.W.fnOf "records" "Log.records" (defArgs s_Log_records) (defBody s_Log_records) (defScope s_Log_records) .none kkV0_7 kdc0_7 kpm0_7 kan0_7 kcd0_7 kct0_7), ksl0_7⟩) (w0_7_3 : PySem.W.codeIn K kcd0_7 "Log.records" = true) (w0_7_4 : PySem.W.keepIn K (.ref kf0_7) = true) (w0_7_5 : kkV0_7 = .ref kDR0_7) (w0_7_6 : PySem.W.nsIn K kDR0_7 "until" = some (some .none)) {kf0_8 : Addr} {kod0_8 kan0_8 : Option Addr} {ksl0_8 : Array (Option Value)} {koc0_8 kkV0_8 kdc0_8 kpm0_8 kcd0_8 kct0_8 : Value} (w0_8_0 : PySem.W.findIn K (.ref kC0) "delete" = some (some (.ref kf0_8))) (w0_8_1 : PySem.W.isFn K (.ref kf0_8) = true) (w0_8_2 : K.lookup kf0_8 = some ⟨koc0_8, kod0_8, .func (PySem.W.fnOf "delete" "Log.delete" (defArgs s_Log_delete) (defBody s_Log_delete) (defScope s_Log_delete) .none kkV0_8 kdc0_8 kpm0_8 kan0_8 kcd0_8 kct0_8), ksl0_8⟩) (w0_8_3 : PySem.W.codeIn K kcd0_8 "Log.delete" = true) (w0_8_4 : PySem.W.keepIn K (.ref kf0_8) = true) {kf0_9 : Addr} {kod0_9 kan0_9 : Option Addr} {ksl0_9 : Array (Option Value)} {koc0_9 kkV0_9 kdc0_9 kpm0_9 kcd0_9 kct0_9 : Value} (w0_9_0 : PySem.W.findIn K (.ref kC0) "__len__" = some (some (.ref kf0_9))) (w0_9_1 : PySem.W.isFn K (.ref kf0_9) = true) (w0_9_2 : K.lookup kf0_9 = some ⟨koc0_9, kod0_9, .func (PySem.W.fnOf "__len__" "Log.__len__" (defArgs s_Log___len__) (defBody s_Log___len__) (defScope s_Log___len__) .none kkV0_9 kdc0_9 kpm0_9 kan0_9 kcd0_9 kct0_9), ksl0_9⟩) (w0_9_3 : PySem.W.codeIn K kcd0_9 "Log.__len__" = true) (w0_9_4 : PySem.W.keepIn K (.ref kf0_9) = true)
    {cL PT : Addr} {eL : Value} {dL : Option Addr} {vL : Array Value} {sL : Array (Option Value)}
    {tL : Tok} (xL : PySem.W.nsIn K mainGlobals "LETTERS" = some (some (.str "abcdefghijklmnopqrstuvwxyz" tL)))
    {tM : Tok} (xM : PySem.W.nsIn K mainGlobals "MOST_LETTERS" = some (some (.int 12 tM)))
    {tD : Tok} (xD : PySem.W.nsIn K mainGlobals "DIGITS" = some (some (.str "0123456789" tD)))
    {tN : Tok} (xN : PySem.W.nsIn K mainGlobals "MOST_DIGITS" = some (some (.int 200 tN)))
    (xA : PySem.W.exmOne K (.ref vC1) (.ref vC0) = some false)
    (v0 : cd25 = .ref cL) (v1 : K.lookup cL = some ⟨eL, dL, .fields vL, sL⟩) (v2 : vL[11]? = some (.ref PT)) (v3 : K.lookup PT = none) (v4 : PySem.W.codeHdIn K cL PT = true) (v5 : h.get? PT = some { cls := .none, data := .fields #[] }) :
    LawGTn l w K 9 "_law_script" mg fa h := by
  have e := hfa.symm.trans (PySem.W.mg_of X G a28)
  cases e
  subst v0
  have B : Bi mg := ⟨PySem.W.mg_none_of X G z0, PySem.W.mg_none_of X G z1, PySem.W.mg_none_of X G z2, PySem.W.mg_none_of X G z3, PySem.W.mg_none_of X G z4, PySem.W.mg_none_of X G z5, PySem.W.mg_none_of X G z6, PySem.W.mg_none_of X G z7, PySem.W.mg_none_of X G z8, PySem.W.mg_none_of X G z9, PySem.W.mg_none_of X G z10, PySem.W.mg_none_of X G z11, PySem.W.mg_none_of X G z12, PySem.W.mg_none_of X G z13, PySem.W.mg_none_of X G z14, PySem.W.mg_none_of X G z15, PySem.W.mg_none_of X G z16, PySem.W.mg_none_of X G z17, PySem.W.mg_none_of X G z18, PySem.W.mg_none_of X G z19⟩
  have UE : Bw mg := ⟨⟨tL, PySem.W.mg_of X G xL⟩, ⟨tM, PySem.W.mg_of X G xM⟩⟩
  have UD : Bm mg := ⟨⟨tD, PySem.W.mg_of X G xD⟩, ⟨tN, PySem.W.mg_of X G xN⟩⟩
  have V_ParseError : ValC l.prog K mg vC0 "ParseError" "line" := ⟨PySem.W.mg_of X G v0_0, ⟨vI0, vD0, vX0, "ParseError.__init__", defArgs sI_ParseError, defBody sI_ParseError, defScope sI_ParseError, vkV0, vdc0, vpm0, vct0, voc0, van0, von0, vsl0, v0_8, v0_9, iniT_ParseError, ⟨⟨⟨vnm0, vqn0, vN0, vbs0, vbm0, vsn0, vsb0, vab0, vcl0, vdd0, vk00, vk10, vk20, vk30, vk50, v0_1, v0_2⟩, v0_3, v0_4, v0_5, v0_6⟩, ⟨_, _, _, _, _, _, v0_10, v0_11, v0_12⟩, ⟨_, _, _, v0_13⟩, v0_14, vu0, v0_15, v0_16, v0_17, vu3⟩, v0_7, v0_18, .all fun us hl => match us, hl with | [_, _], _ => rfl⟩, PySem.W.mg_none_of X G vu4, ⟨v0_19, v0_20, v0_4, v0_21, v0_22, vu1, vu2, v0_23⟩, v0_24⟩
  have V_DuplicateMoment : ValC l.prog K mg vC1 "DuplicateMoment" "value" := ⟨PySem.W.mg_of X G v1_0, ⟨vI1, vD1, vX1, "DuplicateMoment.__init__", defArgs sI_DuplicateMoment, defBody sI_DuplicateMoment, defScope sI_DuplicateMoment, vkV1, vdc1, vpm1, vct1, voc1, van1, von1, vsl1, v1_8, v1_9, iniT_DuplicateMoment, ⟨⟨⟨vnm1, vqn1, vN1, vbs1, vbm1, vsn1, vsb1, vab1, vcl1, vdd1, vk01, vk11, vk21, vk31, vk51, v1_1, v1_2⟩, v1_3, v1_4, v1_5, v1_6⟩, ⟨_, _, _, _, _, _, v1_10, v1_11, v1_12⟩, ⟨_, _, _, v1_13⟩, v1_14, vu0, v1_15, v1_16, v1_17, vu3⟩, v1_7, v1_18, .all fun us hl => match us, hl with | [_, _], _ => rfl⟩, PySem.W.mg_none_of X G vu4, ⟨v1_19, v1_20, v1_4, v1_21, v1_22, vu1, vu2, v1_23⟩, v1_24⟩
  have UM : (ValC l.prog K mg vC0 "ParseError" "line" ∧ ValC l.prog K mg vC1 "DuplicateMoment" "value") ∧ PySem.W.exmOne K (.ref vC1) (.ref vC0) = some false := ⟨⟨V_ParseError, V_DuplicateMoment⟩, xA⟩
  have F0 := fun_mk (st := s_l_start) l0 c0 k0
  have D_l_start : Df K mg "_law_start" s_l_start P_l_start := ⟨f0, _, F0, PySem.W.mg_of X G a0, F0.binds fun _ _ _ _ _ _ us hl => match us, hl with | [_], _ => rfl⟩
  have F1 := fun_mk (st := s_l_draw) l1 c1 k1
  have D_l_draw : Df K mg "_law_draw" s_l_draw P_l_draw := ⟨f1, _, F1, PySem.W.mg_of X G a1, F1.binds fun _ _ _ _ _ _ us hl => match us, hl with | [_, _], _ => rfl⟩
  have F2 := fun_mk (st := s_is_integer) l2 c2 k2
  have D_is_integer : Df K mg "is_integer" s_is_integer P_is_integer := ⟨f2, _, F2, PySem.W.mg_of X G a2, F2.binds fun _ _ _ _ _ _ us hl => match us, hl with | [_], _ => rfl⟩
  have F3 := fun_mk (st := s_gcd) l3 c3 k3
  have D_gcd : Df K mg "gcd" s_gcd P_gcd := ⟨f3, _, F3, PySem.W.mg_of X G a3, F3.binds fun _ _ _ _ _ _ us hl => match us, hl with | [_, _], _ => rfl⟩
  have F4 := fun_mk (st := s_is_record) l4 c4 k4
  have D_is_record : Df K mg "is_record" s_is_record P_is_record := ⟨f4, _, F4, PySem.W.mg_of X G a4, F4.binds fun _ _ _ _ _ _ us hl => match us, hl with | [_], _ => rfl⟩
  have F5 := fun_mk (st := s_split_records) l5 c5 k5
  have D_split_records : Df K mg "split_records" s_split_records P_split_records := ⟨f5, _, F5, PySem.W.mg_of X G a5, F5.binds fun _ _ _ _ _ _ us hl => match us, hl with | [_], _ => rfl⟩
  have F6 := fun_mk (st := s_l_divisor) l6 c6 k6
  have D_l_divisor : Df K mg "_law_divisor" s_l_divisor P_l_divisor := ⟨f6, _, F6, PySem.W.mg_of X G a6, F6.binds fun _ _ _ _ _ _ us hl => match us, hl with | [_, _], _ => rfl⟩
  have F7 := fun_mk (st := s_l_rule) l7 c7 k7
  have D_l_rule : Df K mg "_law_rule" s_l_rule P_l_rule := ⟨f7, _, F7, PySem.W.mg_of X G a7, F7.binds fun _ _ _ _ _ _ us hl => match us, hl with | [_], _ => rfl⟩
  have F8 := fun_mk (st := s_l_count) l8 c8 k8
  have D_l_count : Df K mg "_law_count" s_l_count P_l_count := ⟨f8, _, F8, PySem.W.mg_of X G a8, F8.binds fun _ _ _ _ _ _ us hl => match us, hl with | [_, _], _ => rfl⟩
  have F9 := fun_mk (st := s_is_witness) l9 c9 k9
  have D_is_witness : Df K mg "is_witness" s_is_witness P_is_witness := ⟨f9, _, F9, PySem.W.mg_of X G a9, F9.binds fun _ _ _ _ _ _ us hl => match us, hl with | [_], _ => rfl⟩
  have F10 := fun_mk (st := s_l_record) l10 c10 k10
  have D_l_record : Df K mg "_law_record" s_l_record P_l_record := ⟨f10, _, F10, PySem.W.mg_of X G a10, F10.binds fun _ _ _ _ _ _ us hl => match us, hl with | [_, _], _ => rfl⟩
  have F11 := fun_mk (st := s_l_words) l11 c11 k11
  have D_l_words : Df K mg "_law_words" s_l_words P_l_words := ⟨f11, _, F11, PySem.W.mg_of X G a11, F11.binds fun _ _ _ _ _ _ us hl => match us, hl with | [_, _], _ => rfl⟩
  have F12 := fun_mk (st := s_l_entries) l12 c12 k12
  have D_l_entries : Df K mg "_law_entries" s_l_entries P_l_entries := ⟨f12, _, F12, PySem.W.mg_of X G a12, F12.binds fun _ _ _ _ _ _ us hl => match us, hl with | [_, _, _], _ => rfl⟩
  have F13 := fun_mk (st := s_l_mixed) l13 c13 k13
  have D_l_mixed : Df K mg "_law_mixed" s_l_mixed P_l_mixed := ⟨f13, _, F13, PySem.W.mg_of X G a13, F13.binds fun _ _ _ _ _ _ us hl => match us, hl with | [_, _], _ => rfl⟩
  have F14 := fun_mk (st := s_words_of) l14 c14 k14
  have D_words_of : Df K mg "words_of" s_words_of P_words_of := ⟨f14, _, F14, PySem.W.mg_of X G a14, F14.binds fun _ _ _ _ _ _ us hl => match us, hl with | [_], _ => rfl⟩
  have F15 := fun_mk (st := s_read_integer) l15 c15 k15
  have D_read_integer : Df K mg "read_integer" s_read_integer P_read_integer := ⟨f15, _, F15, PySem.W.mg_of X G a15, F15.binds fun _ _ _ _ _ _ us hl => match us, hl with | [_], _ => rfl⟩
  have F16 := fun_mk (st := s_read_record) l16 c16 k16
  have D_read_record : Df K mg "read_record" s_read_record P_read_record := ⟨f16, _, F16, PySem.W.mg_of X G a16, F16.binds fun _ _ _ _ _ _ us hl => match us, hl with | [_], _ => rfl⟩
  have F17 := fun_mk (st := s_read_moment) l17 c17 k17
  have D_read_moment : Df K mg "read_moment" s_read_moment P_read_moment := ⟨f17, _, F17, PySem.W.mg_of X G a17, F17.binds fun _ _ _ _ _ _ us hl => match us, hl with | [_], _ => rfl⟩
  have F18 := fun_mk (st := s_read_entry) l18 c18 k18
  have D_read_entry : Df K mg "read_entry" s_read_entry P_read_entry := ⟨f18, _, F18, PySem.W.mg_of X G a18, F18.binds fun _ _ _ _ _ _ us hl => match us, hl with | [_], _ => rfl⟩
  have F19 := fun_mk (st := s_parse_log) l19 c19 k19
  have D_parse_log : Df K mg "parse_log" s_parse_log P_parse_log := ⟨f19, _, F19, PySem.W.mg_of X G a19, F19.binds fun _ _ _ _ _ _ us hl => match us, hl with | [_], _ => rfl⟩
  have F20 := fun_mk (st := s_l_integer) l20 c20 k20
  have D_l_integer : Df K mg "_law_integer" s_l_integer P_l_integer := ⟨f20, _, F20, PySem.W.mg_of X G a20, F20.binds fun _ _ _ _ _ _ us hl => match us, hl with | [_], _ => rfl⟩
  have F21 := fun_mk (st := s_l_record_in) l21 c21 k21
  have D_l_record_in : Df K mg "_law_record_in" s_l_record_in P_l_record_in := ⟨f21, _, F21, PySem.W.mg_of X G a21, F21.binds fun _ _ _ _ _ _ us hl => match us, hl with | [_], _ => rfl⟩
  have F22 := fun_mk (st := s_l_is_word) l22 c22 k22
  have D_l_is_word : Df K mg "_law_is_word" s_l_is_word P_l_is_word := ⟨f22, _, F22, PySem.W.mg_of X G a22, F22.binds fun _ _ _ _ _ _ us hl => match us, hl with | [_], _ => rfl⟩
  have F23 := fun_mk (st := s_l_entry_in) l23 c23 k23
  have D_l_entry_in : Df K mg "_law_entry_in" s_l_entry_in P_l_entry_in := ⟨f23, _, F23, PySem.W.mg_of X G a23, F23.binds fun _ _ _ _ _ _ us hl => match us, hl with | [_], _ => rfl⟩
  have F24 := fun_mk (st := s_l_parsed) l24 c24 k24
  have D_l_parsed : Df K mg "_law_parsed" s_l_parsed P_l_parsed := ⟨f24, _, F24, PySem.W.mg_of X G a24, F24.binds fun _ _ _ _ _ _ us hl => match us, hl with | [_], _ => rfl⟩
  have F25 := fun_mk (st := s_l_due) l25 c25 k25
  have D_l_due : Df K mg "_law_due" s_l_due P_l_due := ⟨f25, _, F25, PySem.W.mg_of X G a25, F25.binds fun _ _ _ _ _ _ us hl => match us, hl with | [_], _ => rfl⟩
  have F26 := fun_mk (st := s_l_row) l26 c26 k26
  have D_l_row : Df K mg "_law_row" s_l_row P_l_row := ⟨f26, _, F26, PySem.W.mg_of X G a26, F26.binds fun _ _ _ _ _ _ us hl => match us, hl with | [_], _ => rfl⟩
  have F27 := fun_mk (st := s_l_changed) l27 c27 k27
  have D_l_changed : Df K mg "_law_changed" s_l_changed P_l_changed := ⟨f27, _, F27, PySem.W.mg_of X G a27, F27.binds fun _ _ _ _ _ _ us hl => match us, hl with | [_, _], _ => rfl⟩
  have F28 := fun_mk (st := s_law) l28 c28 k28
  have T_Log : ClsT K mg "Log" kC0 := ⟨⟨w0_1, w0_2, w0_3, w0_4⟩, w0_5, w0_6, PySem.W.mg_of X G w0_0⟩
  have NO_Log : NoAttr K kC0 "held" := w0_7
  have FM_Log_init := fun_mk (st := s_Log_init) w0_0_2 w0_0_3 w0_0_4
  have D_Log_init : Dm K kC0 "__init__" "Log.__init__" s_Log_init P_Log_init := ⟨kf0_0, _, FM_Log_init, ⟨w0_0_0, w0_0_1, w0_0_4⟩, FM_Log_init.binds fun _ _ _ _ _ _ us hl => match us, hl with | [_], _ => rfl⟩
  have FM_Log_enter := fun_mk (st := s_Log_enter) w0_1_2 w0_1_3 w0_1_4
  have D_Log_enter : Dm K kC0 "enter" "Log.enter" s_Log_enter P_Log_enter := ⟨kf0_1, _, FM_Log_enter, ⟨w0_1_0, w0_1_1, w0_1_4⟩, FM_Log_enter.binds fun _ _ _ _ _ _ us hl => match us, hl with | [_, _], _ => rfl⟩
  have FM_Log_report := fun_mk (st := s_Log_report) w0_2_2 w0_2_3 w0_2_4
  have D_Log_report : Dm K kC0 "report" "Log.report" s_Log_report P_Log_report := ⟨kf0_2, _, FM_Log_report, ⟨w0_2_0, w0_2_1, w0_2_4⟩, FM_Log_report.binds fun _ _ _ _ _ _ us hl => match us, hl with | [_, _, _, _], _ => rfl⟩
  have FM_Log_trust := fun_mk (st := s_Log_trust) w0_3_2 w0_3_3 w0_3_4
  have D_Log_trust : Dm K kC0 "trust" "Log.trust" s_Log_trust P_Log_trust := ⟨kf0_3, _, FM_Log_trust, ⟨w0_3_0, w0_3_1, w0_3_4⟩, FM_Log_trust.binds fun _ _ _ _ _ _ us hl => match us, hl with | [_, _, _], _ => rfl⟩
  have FM_Log_distrust := fun_mk (st := s_Log_distrust) w0_4_2 w0_4_3 w0_4_4
  have D_Log_distrust : Dm K kC0 "distrust" "Log.distrust" s_Log_distrust P_Log_distrust := ⟨kf0_4, _, FM_Log_distrust, ⟨w0_4_0, w0_4_1, w0_4_4⟩, FM_Log_distrust.binds fun _ _ _ _ _ _ us hl => match us, hl with | [_, _, _], _ => rfl⟩
  subst w0_5_5
  have FM_Log_entries := fun_mk (st := s_Log_entries) w0_5_2 w0_5_3 w0_5_4
  have D_Log_entries : DmO K kC0 "entries" "Log.entries" s_Log_entries P_Log_entries 1 "until" := dmo_mk w0_5_2 FM_Log_entries ⟨w0_5_0, w0_5_1, w0_5_4⟩ w0_5_3 w0_5_6 rfl (fun D doc pm an cdv ct us ks h1 h2 => match us, h1, ks, h2 with | [_], _, [_], _ => ⟨_, _, _, _, _, _, rfl, rfl, rfl⟩) (fun us ws h1 h2 => match us, h1, ws, h2 with | [_], _, [_], _ => rfl)
  have FM_Log_reports := fun_mk (st := s_Log_reports) w0_6_2 w0_6_3 w0_6_4
  have D_Log_reports : Dm K kC0 "reports" "Log.reports" s_Log_reports P_Log_reports := ⟨kf0_6, _, FM_Log_reports, ⟨w0_6_0, w0_6_1, w0_6_4⟩, FM_Log_reports.binds fun _ _ _ _ _ _ us hl => match us, hl with | [_, _], _ => rfl⟩
  subst w0_7_5
  have FM_Log_records := fun_mk (st := s_Log_records) w0_7_2 w0_7_3 w0_7_4
  have D_Log_records : DmO K kC0 "records" "Log.records" s_Log_records P_Log_records 1 "until" := dmo_mk w0_7_2 FM_Log_records ⟨w0_7_0, w0_7_1, w0_7_4⟩ w0_7_3 w0_7_6 rfl (fun D doc pm an cdv ct us ks h1 h2 => match us, h1, ks, h2 with | [_], _, [_], _ => ⟨_, _, _, _, _, _, rfl, rfl, rfl⟩) (fun us ws h1 h2 => match us, h1, ws, h2 with | [_], _, [_], _ => rfl)
  have FM_Log_delete := fun_mk (st := s_Log_delete) w0_8_2 w0_8_3 w0_8_4
  have D_Log_delete : Dm K kC0 "delete" "Log.delete" s_Log_delete P_Log_delete := ⟨kf0_8, _, FM_Log_delete, ⟨w0_8_0, w0_8_1, w0_8_4⟩, FM_Log_delete.binds fun _ _ _ _ _ _ us hl => match us, hl with | [_, _], _ => rfl⟩
  have FM_Log___len__ := fun_mk (st := s_Log___len__) w0_9_2 w0_9_3 w0_9_4
  have D_Log___len__ : Dm K kC0 "__len__" "Log.__len__" s_Log___len__ P_Log___len__ := ⟨kf0_9, _, FM_Log___len__, ⟨w0_9_0, w0_9_1, w0_9_4⟩, FM_Log___len__.binds fun _ _ _ _ _ _ us hl => match us, hl with | [_], _ => rfl⟩
  have TK : LgT K mg kC0 := ⟨T_Log, NO_Log⟩
  have al : ∀ {p : Addr × Addr → Prop}, p (cL, PT) → ∀ q ∈ [(cL, PT)], p q := fun h1 q hq => by
    rw [List.mem_singleton.mp hq]
    exact h1
  refine ⟨PySem.W.fnOf "law" "law" (defArgs s_law) (defBody s_law) (defScope s_law) .none kV28 dc28 pm28 an28 cd28 ct28, [(cL, PT)], spLawT K PT, al v5, al v3, al (PySem.W.codeHd_of_K X v4), fun s v => .of_eq rfl, fun H a ns hl ht hS => ⟨a, ns, rfl, hS, hl, ht _ List.mem_cons_self, fun _ => rfl⟩, fun base _ _ o1 TBs => ?_⟩
  have DT_l_due : DfT K mg base "_law_due" s_l_due P_l_due PT := ⟨_, cL, _, _, _, _, _, _, _, _, l25, c25, k25, PySem.W.mg_of X G a25, F25.binds fun _ _ _ _ _ _ us hl => match us, hl with | [_], _ => rfl, TBs _ List.mem_cons_self⟩
  have c_l_start := ok_l_start (P := l.prog) (w := w) (base := base) D_l_start B
  have c_l_draw := ok_l_draw (P := l.prog) (w := w) (base := base) D_l_draw B
  have cA_is_integer := okA_is_integer (P := l.prog) (w := w) (base := base) D_is_integer B
  have c_is_integer := ok_is_integer (P := l.prog) (w := w) (base := base) D_is_integer B
  have c_gcd := ok_gcd (P := l.prog) (w := w) (base := base) D_gcd
  have cA_is_record := okA_is_record (P := l.prog) (w := w) (base := base) D_is_record B cA_is_integer
  have c_is_record := ok_is_record (P := l.prog) (w := w) (base := base) D_is_record B c_is_integer
  have c_split_records := ok_split_records (P := l.prog) (w := w) (base := base) D_split_records B
  have c_l_divisor := ok_l_divisor (P := l.prog) (w := w) (base := base) D_l_divisor
  have c_l_rule := ok_l_rule (P := l.prog) (w := w) (base := base) D_l_rule B c_l_draw c_l_divisor
  have c_l_count := ok_l_count (P := l.prog) (w := w) (base := base) D_l_count
  have c_Log := okM_Log_init (P := l.prog) (w := w) (base := base) TK D_Log_init
  have c_Log_enter := okM_Log_enter (P := l.prog) (w := w) (base := base) TK D_Log_enter
  have cX_Log_enter := okX_Log_enter (P := l.prog) (w := w) (base := base) TK D_Log_enter V_DuplicateMoment
  have cA_is_witness := okA_is_witness (P := l.prog) (w := w) (base := base) D_is_witness B UE
  have c_is_witness := ok_is_witness (P := l.prog) (w := w) (base := base) D_is_witness B UE
  have cO0_Log_entries := okO_Log_entries (P := l.prog) (w := w) (base := base) TK D_Log_entries B
  have c_Log_entries := cO0_Log_entries.1
  have cO_Log_entries := cO0_Log_entries.2
  have c_Log_reports := okM_Log_reports (P := l.prog) (w := w) (base := base) TK D_Log_reports B cO_Log_entries
  have cO0_Log_records := okO_Log_records (P := l.prog) (w := w) (base := base) TK D_Log_records B c_Log_reports
  have c_Log_records := cO0_Log_records.1
  have cO_Log_records := cO0_Log_records.2
  have c_l_record := ok_l_record (P := l.prog) (w := w) (base := base) D_l_record B c_l_draw c_l_count
  have c_l_words := ok_l_words (P := l.prog) (w := w) (base := base) D_l_words B c_l_draw
  have c_l_entries := ok_l_entries (P := l.prog) (w := w) (base := base) D_l_entries B c_l_draw c_l_words c_l_record
  have c_l_mixed := ok_l_mixed (P := l.prog) (w := w) (base := base) D_l_mixed B c_l_draw
  have c_Log___len__ := okM_Log___len__ (P := l.prog) (w := w) (base := base) TK D_Log___len__ B
  have c_words_of := ok_words_of (P := l.prog) (w := w) (base := base) D_words_of B
  have c_read_integer := ok_read_integer (P := l.prog) (w := w) (base := base) D_read_integer UD B
  have c_read_record := ok_read_record (P := l.prog) (w := w) (base := base) D_read_record B c_read_integer cA_is_record
  have c_read_moment := ok_read_moment (P := l.prog) (w := w) (base := base) D_read_moment c_read_integer
  have c_read_entry := ok_read_entry (P := l.prog) (w := w) (base := base) D_read_entry B c_read_moment cA_is_witness c_read_record
  have cx_parse_log := okx_parse_log (P := l.prog) (w := w) (base := base) D_parse_log B TK V_ParseError c_words_of c_read_entry c_Log cX_Log_enter
  have c_l_integer := ok_l_integer (P := l.prog) (w := w) (base := base) D_l_integer B
  have c_l_record_in := ok_l_record_in (P := l.prog) (w := w) (base := base) D_l_record_in B c_l_integer
  have c_l_is_word := ok_l_is_word (P := l.prog) (w := w) (base := base) D_l_is_word B
  have c_l_entry_in := ok_l_entry_in (P := l.prog) (w := w) (base := base) D_l_entry_in B c_l_integer c_l_is_word c_l_record_in
  have c_l_parsed := ok_l_parsed (P := l.prog) (w := w) (base := base) D_l_parsed TK UM cx_parse_log c_Log_entries
  have c_l_due := ok_l_due (P := l.prog) (w := w) (base := base) DT_l_due B c_l_entry_in
  have c_l_row := ok_l_row (P := l.prog) (w := w) (base := base) D_l_row B
  have c_l_changed := ok_l_changed (P := l.prog) (w := w) (base := base) D_l_changed B c_l_draw
  exact ok_law (P := l.prog) (w := w) (base := base) F28 B c_l_start c_l_draw c_l_rule c_l_entries c_l_mixed c_l_row c_l_changed c_l_parsed c_l_due
end Lf
open PySem PySem.W PyProof.Rows
set_option maxRecDepth 100000 in
set_option maxHeartbeats 0 in
theorem PySem.Challenge.cw_leapfit_k91_whole_changed_log_texts_holds : PySem.Challenge.rw_leapfit_k91_whole_changed_log_texts.Holds := by
  w_on; o_law; k_head; (case hw => w_witness2)
  k_fill
  refine Lf.walkGTn (l := PySem.Challenge.rw_leapfit_k91_whole_changed_log_texts) (k := 9) (x := "_law_script") rfl rfl rfl ⟨rfl, by decide, by decide⟩ (fun w h Y => PySem.W.km_in_of Y) ?F
  case F =>
    intro w mg fa h Y KX G hmg
    refine' Lf.all_mk KX G hmg ?a0 ?l0 ?c0 ?k0 ?a1 ?l1 ?c1 ?k1 ?a2 ?l2 ?c2 ?k2 ?a3 ?l3 ?c3 ?k3 ?a4 ?l4 ?c4 ?k4 ?a5 ?l5 ?c5 ?k5 ?a6 ?l6 ?c6 ?k6 ?a7 ?l7 ?c7 ?k7 ?a8 ?l8 ?c8 ?k8 ?a9 ?l9 ?c9 ?k9 ?a10 ?l10 ?c10 ?k10 ?a11 ?l11 ?c11 ?k11 ?a12 ?l12 ?c12 ?k12 ?a13 ?l13 ?c13 ?k13 ?a14 ?l14 ?c14 ?k14 ?a15 ?l15 ?c15 ?k15 ?a16 ?l16 ?c16 ?k16 ?a17 ?l17 ?c17 ?k17 ?a18 ?l18 ?c18 ?k18 ?a19 ?l19 ?c19 ?k19 ?a20 ?l20 ?c20 ?k20 ?a21 ?l21 ?c21 ?k21 ?a22 ?l22 ?c22 ?k22 ?a23 ?l23 ?c23 ?k23 ?a24 ?l24 ?c24 ?k24 ?a25 ?l25 ?c25 ?k25 ?a26 ?l26 ?c26 ?k26 ?a27 ?l27 ?c27 ?k27 ?a28 ?l28 ?c28 ?k28 ?z0 ?z1 ?z2 ?z3 ?z4 ?z5 ?z6 ?z7 ?z8 ?z9 ?z10 ?z11 ?z12 ?z13 ?z14 ?z15 ?z16 ?z17 ?z18 ?z19 ?v0_0 ?v0_1 ?v0_2 ?v0_3 ?v0_4 ?v0_5 ?v0_6 ?v0_7 ?v0_8 ?v0_9 ?v0_10 ?v0_11 ?v0_12 ?v0_13 ?v0_14 ?v0_15 ?v0_16 ?v0_17 ?v0_18 ?v0_19 ?v0_20 ?v0_21 ?v0_22 ?v0_23 ?v0_24 ?v1_0 ?v1_1 ?v1_2 ?v1_3 ?v1_4 ?v1_5 ?v1_6 ?v1_7 ?v1_8 ?v1_9 ?v1_10 ?v1_11 ?v1_12 ?v1_13 ?v1_14 ?v1_15 ?v1_16 ?v1_17 ?v1_18 ?v1_19 ?v1_20 ?v1_21 ?v1_22 ?v1_23 ?v1_24 ?vu0 ?vu1 ?vu2 ?vu3 ?vu4 ?w0_0 ?w0_1 ?w0_2 ?w0_3 ?w0_4 ?w0_5 ?w0_6 ?w0_7 ?w0_0_0 ?w0_0_1 ?w0_0_2 ?w0_0_3 ?w0_0_4 ?w0_1_0 ?w0_1_1 ?w0_1_2 ?w0_1_3 ?w0_1_4 ?w0_2_0 ?w0_2_1 ?w0_2_2 ?w0_2_3 ?w0_2_4 ?w0_3_0 ?w0_3_1 ?w0_3_2 ?w0_3_3 ?w0_3_4 ?w0_4_0 ?w0_4_1 ?w0_4_2 ?w0_4_3 ?w0_4_4 ?w0_5_0 ?w0_5_1 ?w0_5_2 ?w0_5_3 ?w0_5_4 ?w0_5_5 ?w0_5_6 ?w0_6_0 ?w0_6_1 ?w0_6_2 ?w0_6_3 ?w0_6_4 ?w0_7_0 ?w0_7_1 ?w0_7_2 ?w0_7_3 ?w0_7_4 ?w0_7_5 ?w0_7_6 ?w0_8_0 ?w0_8_1 ?w0_8_2 ?w0_8_3 ?w0_8_4 ?w0_9_0 ?w0_9_1 ?w0_9_2 ?w0_9_3 ?w0_9_4 ?xL ?xM ?xD ?xN ?xA ?v0 ?v1 ?v2 ?v3 ?v4 ?v5
    (case a0 => k_is); (case l0 => k_is); (case c0 => k_is); (case k0 => k_is)
    (case a1 => k_is); (case l1 => k_is); (case c1 => k_is); (case k1 => k_is)
    (case a2 => k_is); (case l2 => k_is); (case c2 => k_is); (case k2 => k_is)
    (case a3 => k_is); (case l3 => k_is); (case c3 => k_is); (case k3 => k_is)
    (case a4 => k_is); (case l4 => k_is); (case c4 => k_is); (case k4 => k_is)
    (case a5 => k_is); (case l5 => k_is); (case c5 => k_is); (case k5 => k_is)
    (case a6 => k_is); (case l6 => k_is); (case c6 => k_is); (case k6 => k_is)
    (case a7 => k_is); (case l7 => k_is); (case c7 => k_is); (case k7 => k_is)
    (case a8 => k_is); (case l8 => k_is); (case c8 => k_is); (case k8 => k_is)
    (case a9 => k_is); (case l9 => k_is); (case c9 => k_is); (case k9 => k_is)
    (case a10 => k_is); (case l10 => k_is); (case c10 => k_is); (case k10 => k_is)
    (case a11 => k_is); (case l11 => k_is); (case c11 => k_is); (case k11 => k_is)
    (case a12 => k_is); (case l12 => k_is); (case c12 => k_is); (case k12 => k_is)
    (case a13 => k_is); (case l13 => k_is); (case c13 => k_is); (case k13 => k_is)
    (case a14 => k_is); (case l14 => k_is); (case c14 => k_is); (case k14 => k_is)
    (case a15 => k_is); (case l15 => k_is); (case c15 => k_is); (case k15 => k_is)
    (case a16 => k_is); (case l16 => k_is); (case c16 => k_is); (case k16 => k_is)
    (case a17 => k_is); (case l17 => k_is); (case c17 => k_is); (case k17 => k_is)
    (case a18 => k_is); (case l18 => k_is); (case c18 => k_is); (case k18 => k_is)
    (case a19 => k_is); (case l19 => k_is); (case c19 => k_is); (case k19 => k_is)
    (case a20 => k_is); (case l20 => k_is); (case c20 => k_is); (case k20 => k_is)
    (case a21 => k_is); (case l21 => k_is); (case c21 => k_is); (case k21 => k_is)
    (case a22 => k_is); (case l22 => k_is); (case c22 => k_is); (case k22 => k_is)
    (case a23 => k_is); (case l23 => k_is); (case c23 => k_is); (case k23 => k_is)
    (case a24 => k_is); (case l24 => k_is); (case c24 => k_is); (case k24 => k_is)
    (case a25 => k_is); (case l25 => k_is); (case c25 => k_is); (case k25 => k_is)
    (case a26 => k_is); (case l26 => k_is); (case c26 => k_is); (case k26 => k_is)
    (case a27 => k_is); (case l27 => k_is); (case c27 => k_is); (case k27 => k_is)
    (case a28 => k_is); (case l28 => k_is); (case c28 => k_is); (case k28 => k_is)
    (case z0 => k_is); (case z1 => k_is); (case z2 => k_is); (case z3 => k_is); (case z4 => k_is); (case z5 => k_is); (case z6 => k_is); (case z7 => k_is); (case z8 => k_is); (case z9 => k_is); (case z10 => k_is); (case z11 => k_is); (case z12 => k_is); (case z13 => k_is); (case z14 => k_is); (case z15 => k_is); (case z16 => k_is); (case z17 => k_is); (case z18 => k_is); (case z19 => k_is)
    (case v0_0 => k_is)
    (case v0_1 => k_is)
    (case v0_2 => first | rfl | decide +kernel)
    (case v0_3 => k_is)
    (case v0_4 => k_is)
    (case v0_5 => k_is)
    (case v0_6 => k_is)
    (case v0_7 => k_is)
    (case v0_8 => k_is)
    (case v0_9 => k_is)
    (case v0_10 => k_is)
    (case v0_11 => first | rfl | k_is)
    (case v0_12 => first | rfl | decide +kernel)
    (case v0_13 => k_is)
    (case v0_14 => first | k_is | kernel_rfl)
    (case v0_15 => kernel_rfl)
    (case v0_16 => k_is)
    (case v0_17 => k_is)
    (case v0_18 => k_is)
    (case v0_19 => k_is)
    (case v0_20 => k_is)
    (case v0_21 => k_is)
    (case v0_22 => k_is)
    (case v0_23 => k_is)
    (case v0_24 => first | rfl | k_is)
    (case v1_0 => k_is)
    (case v1_1 => k_is)
    (case v1_2 => first | rfl | decide +kernel)
    (case v1_3 => k_is)
    (case v1_4 => k_is)
    (case v1_5 => k_is)
    (case v1_6 => k_is)
    (case v1_7 => k_is)
    (case v1_8 => k_is)
    (case v1_9 => k_is)
    (case v1_10 => k_is)
    (case v1_11 => first | rfl | k_is)
    (case v1_12 => first | rfl | decide +kernel)
    (case v1_13 => k_is)
    (case v1_14 => first | k_is | kernel_rfl)
    (case v1_15 => kernel_rfl)
    (case v1_16 => k_is)
    (case v1_17 => k_is)
    (case v1_18 => k_is)
    (case v1_19 => k_is)
    (case v1_20 => k_is)
    (case v1_21 => k_is)
    (case v1_22 => k_is)
    (case v1_23 => k_is)
    (case v1_24 => first | rfl | k_is)
    (case vu0 => k_is)
    (case vu1 => k_is)
    (case vu2 => k_is)
    (case vu3 => first | rfl | decide +kernel)
    (case vu4 => k_is)
    (case w0_0 => k_is)
    (case w0_1 => k_is)
    (case w0_2 => k_is)
    (case w0_3 => k_is)
    (case w0_4 => k_is)
    (case w0_5 => k_is)
    (case w0_6 => k_is)
    (case w0_7 => k_is)
    (case w0_0_0 => k_is)
    (case w0_0_1 => k_is)
    (case w0_0_2 => k_is)
    (case w0_0_3 => k_is)
    (case w0_0_4 => k_is)
    (case w0_1_0 => k_is)
    (case w0_1_1 => k_is)
    (case w0_1_2 => k_is)
    (case w0_1_3 => k_is)
    (case w0_1_4 => k_is)
    (case w0_2_0 => k_is)
    (case w0_2_1 => k_is)
    (case w0_2_2 => k_is)
    (case w0_2_3 => k_is)
    (case w0_2_4 => k_is)
    (case w0_3_0 => k_is)
    (case w0_3_1 => k_is)
    (case w0_3_2 => k_is)
    (case w0_3_3 => k_is)
    (case w0_3_4 => k_is)
    (case w0_4_0 => k_is)
    (case w0_4_1 => k_is)
    (case w0_4_2 => k_is)
    (case w0_4_3 => k_is)
    (case w0_4_4 => k_is)
    (case w0_5_0 => k_is)
    (case w0_5_1 => k_is)
    (case w0_5_2 => k_is)
    (case w0_5_3 => k_is)
    (case w0_5_4 => k_is)
    (case w0_5_5 => first | rfl | k_is)
    (case w0_5_6 => k_is)
    (case w0_6_0 => k_is)
    (case w0_6_1 => k_is)
    (case w0_6_2 => k_is)
    (case w0_6_3 => k_is)
    (case w0_6_4 => k_is)
    (case w0_7_0 => k_is)
    (case w0_7_1 => k_is)
    (case w0_7_2 => k_is)
    (case w0_7_3 => k_is)
    (case w0_7_4 => k_is)
    (case w0_7_5 => first | rfl | k_is)
    (case w0_7_6 => k_is)
    (case w0_8_0 => k_is)
    (case w0_8_1 => k_is)
    (case w0_8_2 => k_is)
    (case w0_8_3 => k_is)
    (case w0_8_4 => k_is)
    (case w0_9_0 => k_is)
    (case w0_9_1 => k_is)
    (case w0_9_2 => k_is)
    (case w0_9_3 => k_is)
    (case w0_9_4 => k_is)
    (case xL => k_is); (case xM => k_is); (case xD => k_is); (case xN => k_is); (case xA => kernel_rfl)
    (case v0 => first | rfl | k_is); (case v1 => k_is); (case v2 => first | rfl | k_is); (case v3 => kernel_rfl); (case v4 => kernel_rfl); (case v5 => exact PySem.W.km_tabs_of Y _ (by decide))
