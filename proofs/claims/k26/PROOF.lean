import PyProof.Rows.All
import Wide.All
import OpenK.AllK
import Wide.FinOn
import HandS.ForMost
import HandS.Codes
import HandS.Wide
import HandS.WideBits
import HandS.IsInst
import HandS.RaiseMore
import HandS.Style
import HandS.NoneIn
import HandS.TupMul
import HandS.TupAny
import HandS.Walk
import HandS.SetFor
import HandS.Strs
import KE.LtSeq
import HandS.Conv
import HandS.Exc
import HandS.TryOnly
import HandS.ExcOwn
import HandS.ExcIs
import HandS.WordsExc
import HandS.Lambda
import HandS.EndTab
import HandS.EndOwn
import KE.KNestM
import HandS.ExcInit
import HandS.ExcField
import KE.KExcSuper
import KE.KExcIs
import HandS.Defaults
import KE.DatumOrd
import KE.SortData
import KE.SortKeyHeap
import KE.KSortKey
import KE.GoesMore
import HandS.SortInts
import HandS.Deep
import HandS.Evl
import HandS.SortKw
import HandS.RevRange
import HandS.TupLe
import KE.KDictZip
import PyProof.ListNew
import PySem.Challenge.RW_leapfit_k26_whole_leads_and_agreements
set_option Elab.async false
set_option linter.all false
set_option maxRecDepth 100000
set_option maxHeartbeats 4000000
set_option linter.all false
namespace Lf
/-! ### sums of rounded quotients -/
def fs : Nat → Int → Int → Int → Int
  | 0, _, _, _ => 0
  | n + 1, a, b, m => fs n a b m + (a * n + b) / m
def tri (n : Int) : Int := n * (n - 1) / 2
theorem tri_succ (n : Int) : tri (n + 1) = tri n + n := by
  unfold tri
  rw [show (n + 1) * (n + 1 - 1) = n * (n - 1) + n * 2 by
    rw [Int.add_sub_cancel, Int.mul_sub, Int.add_mul]; omega]
  rw [Int.add_mul_ediv_right _ _ (by decide)]
theorem tri_zero : tri 0 = 0 := rfl
theorem div_shift (x k m : Int) (h : 0 < m) : (x + m * k) / m = x / m + k := by
  rw [Int.add_mul_ediv_left _ _ (by omega)]
theorem fs_red (n : Nat) (a b m : Int) (h : 0 < m) : fs n a b m = fs n (a % m) b m + a / m * tri n := by
  induction n with
  | zero => simp [fs, tri_zero]
  | succ n ih =>
    show fs n a b m + (a * n + b) / m = fs n (a % m) b m + (a % m * n + b) / m + a / m * tri ((n + 1 : Nat) : Int)
    have e : a * n + b = (a % m * n + b) + m * (a / m * n) := by
      have q := Int.emod_add_mul_ediv a m
      have q2 : a * n = (a % m + m * (a / m)) * n := by rw [q]
      rw [q2, Int.add_mul, Int.mul_assoc]; omega
    rw [e, div_shift _ _ _ h, ih, Int.natCast_add, Int.natCast_one, tri_succ, Int.mul_add]
    omega
theorem fs_redb (n : Nat) (a b m : Int) (h : 0 < m) : fs n a b m = fs n a (b % m) m + b / m * n := by
  induction n with
  | zero => simp [fs]
  | succ n ih =>
    show fs n a b m + (a * n + b) / m = fs n a (b % m) m + (a * n + b % m) / m + b / m * ((n + 1 : Nat) : Int)
    have e : a * n + b = (a * n + b % m) + m * (b / m) := by
      have q := Int.emod_add_mul_ediv b m
      omega
    rw [e, div_shift _ _ _ h, ih, Int.natCast_add, Int.natCast_one, Int.mul_add, Int.mul_one]
    omega
/-- each term of the second sum grows by one when its offset grows by its divisor -/
theorem fs_up (n : Nat) (a b m : Int) (h : 0 < m) : fs n a (b + m) m = fs n a b m + n := by
  induction n with
  | zero => simp [fs]
  | succ n ih =>
    show fs n a (b + m) m + (a * n + (b + m)) / m = fs n a b m + (a * n + b) / m + ((n + 1 : Nat) : Int)
    rw [show a * n + (b + m) = (a * n + b) + m * 1 by omega, div_shift _ _ _ h, ih]
    omega
/-- the first term apart -/
theorem fs_first (n : Nat) (a b m : Int) : fs (n + 1) a b m = b / m + fs n a (b + a) m := by
  induction n with
  | zero => show 0 + (a * ((0 : Nat) : Int) + b) / m = b / m + 0; simp
  | succ n ih =>
    show fs (n + 1) a b m + (a * ((n + 1 : Nat) : Int) + b) / m = b / m + (fs n a (b + a) m + (a * n + (b + a)) / m)
    rw [ih, show a * ((n + 1 : Nat) : Int) + b = a * n + (b + a) by
      rw [Int.natCast_add, Int.natCast_one, Int.mul_add]; omega]
    omega
theorem fs_swap (n : Nat) (a b m : Int) (ha : 0 < a) (ham : a < m) (hb : 0 ≤ b) (hbm : b < m) :
    fs n a b m = fs ((a * n + b) / m).toNat m ((a * n + b) % m) a := by
  induction n with
  | zero =>
    have e : (a * ((0 : Nat) : Int) + b) / m = 0 := by
      rw [show a * ((0 : Nat) : Int) + b = b by simp]
      exact Int.ediv_eq_zero_of_lt hb hbm
    rw [e]; rfl
  | succ n ih =>
    show fs n a b m + (a * n + b) / m = fs ((a * ((n + 1 : Nat) : Int) + b) / m).toNat m ((a * ((n + 1 : Nat) : Int) + b) % m) a
    rw [ih]
    have hm : 0 < m := by omega
    have hy : 0 ≤ a * n + b := by
      have := Int.mul_nonneg (Int.le_of_lt ha) (Int.natCast_nonneg n); omega
    generalize hyd : a * (n : Int) + b = y at hy
    have e : a * ((n + 1 : Nat) : Int) + b = y + a := by
      rw [Int.natCast_add, Int.natCast_one, Int.mul_add]; omega
    rw [e]
    have hq : 0 ≤ y / m := Int.ediv_nonneg hy (by omega)
    have hr0 : 0 ≤ y % m := Int.emod_nonneg _ (by omega)
    have hr1 : y % m < m := Int.emod_lt_of_pos _ hm
    have hd := Int.emod_add_mul_ediv y m
    generalize y / m = q at *
    generalize y % m = r at *
    by_cases hc : r + a < m
    · have e1 : (y + a) / m = q := by
        rw [show y + a = (r + a) + m * q by omega, div_shift _ _ _ hm, Int.ediv_eq_zero_of_lt (by omega) hc]
        omega
      have e2 : (y + a) % m = r + a := by
        have := Int.emod_add_mul_ediv (y + a) m
        rw [e1] at this
        omega
      rw [e1, e2, fs_up _ _ _ _ ha]
      omega
    · have e1 : (y + a) / m = q + 1 := by
        rw [show y + a = (r + a - m) + m * (q + 1) by rw [Int.mul_add]; omega, div_shift _ _ _ hm, Int.ediv_eq_zero_of_lt (by omega) (by omega)]
        omega
      have e2 : (y + a) % m = r + a - m := by
        have := Int.emod_add_mul_ediv (y + a) m
        rw [e1, Int.mul_add] at this
        omega
      rw [e1, e2, show (q + 1).toNat = q.toNat + 1 by omega, fs_first, Int.ediv_eq_zero_of_lt (by omega) (by omega), show r + a - m + m = r + a by omega, fs_up _ _ _ _ ha]
      omega
/-- a whole turn of the loop -/
theorem fs_turn (n a b m : Int) (hn : 0 ≤ n) (hm : 0 < m) :
    fs n.toNat a b m = a / m * tri n + b / m * n + fs ((a % m * n + b % m) / m).toNat m ((a % m * n + b % m) % m) (a % m) := by
  have h1 := fs_red n.toNat a b m hm
  have h2 := fs_redb n.toNat (a % m) b m hm
  have en : ((n.toNat : Nat) : Int) = n := by omega
  rw [en] at h1 h2
  have ha0 : 0 ≤ a % m := Int.emod_nonneg _ (by omega)
  have ha1 : a % m < m := Int.emod_lt_of_pos _ hm
  have hb0 : 0 ≤ b % m := Int.emod_nonneg _ (by omega)
  have hb1 : b % m < m := Int.emod_lt_of_pos _ hm
  by_cases hz : a % m = 0
  · have e0 : (a % m * n + b % m) / m = 0 := by
      rw [hz, Int.zero_mul, Int.zero_add]
      exact Int.ediv_eq_zero_of_lt hb0 hb1
    have z : fs n.toNat (a % m) (b % m) m = 0 := by
      rw [hz]
      have : ∀ k : Nat, fs k 0 (b % m) m = 0 := fun k => by
        induction k with
        | zero => rfl
        | succ k ih =>
          show fs k 0 (b % m) m + (0 * (k : Int) + b % m) / m = 0
          rw [ih, Int.zero_mul, Int.zero_add, Int.zero_add]
          exact Int.ediv_eq_zero_of_lt hb0 hb1
      exact this _
    rw [e0]
    show _ = _ + fs 0 m _ _
    have e3 : fs 0 m ((a % m * n + b % m) % m) (a % m) = 0 := rfl
    have e4 : (0 : Int).toNat = 0 := rfl
    rw [e3, h1, h2, z]
    omega
  · have h3 := fs_swap n.toNat (a % m) (b % m) m (by omega) ha1 hb0 hb1
    rw [en] at h3
    rw [h1, h2, h3]
    omega
theorem turn_le (n a b m : Int) (hn : 0 < n) (hm : 0 < m) : (a % m * n + b % m) / m ≤ n ∧ 0 ≤ (a % m * n + b % m) / m := by
  have ha0 : 0 ≤ a % m := Int.emod_nonneg _ (by omega)
  have ha1 : a % m < m := Int.emod_lt_of_pos _ hm
  have hb0 : 0 ≤ b % m := Int.emod_nonneg _ (by omega)
  have hb1 : b % m < m := Int.emod_lt_of_pos _ hm
  have h0 : 0 ≤ a % m * n := Int.mul_nonneg ha0 (by omega)
  refine ⟨?_, Int.ediv_nonneg (by omega) (by omega)⟩
  have h1 : a % m * n ≤ (m - 1) * n := Int.mul_le_mul_of_nonneg_right (by omega) (by omega)
  rw [Int.sub_mul, Int.one_mul] at h1
  have h2 : (a % m * n + b % m) / m < n + 1 := by
    apply Int.ediv_lt_of_lt_mul hm
    rw [Int.add_mul, Int.one_mul, Int.mul_comm n m]
    omega
  omega
theorem turn_zero (n a b m : Int) (hm : 0 < m) (hz : a % m = 0) : (a % m * n + b % m) / m = 0 := by
  rw [hz, Int.zero_mul, Int.zero_add]
  exact Int.ediv_eq_zero_of_lt (Int.emod_nonneg _ (by omega)) (Int.emod_lt_of_pos _ hm)
/-! ### sizes -/
def Bd (k : Nat) (i : Int) : Prop := i.natAbs < 2 ^ k
theorem Bd.mono {k j : Nat} {i : Int} (h : Bd k i) (e : k ≤ j) : Bd j i := Nat.lt_of_lt_of_le h (Nat.pow_le_pow_right (by decide) e)
theorem Bd.le {k : Nat} {i j : Int} (h : Bd k j) (e : i.natAbs ≤ j.natAbs) : Bd k i := Nat.lt_of_le_of_lt e h
theorem Bd.mul {k j : Nat} {x y : Int} (h : Bd k x) (h2 : Bd j y) : Bd (k + j) (x * y) := by
  unfold Bd
  rw [Int.natAbs_mul, Nat.pow_add]
  exact Nat.mul_lt_mul'' h h2
theorem Bd.add {k : Nat} {x y : Int} (h : Bd k x) (h2 : Bd k y) : Bd (k + 1) (x + y) := by
  unfold Bd at *
  rw [Nat.pow_succ]
  omega
theorem Bd.sub {k : Nat} {x y : Int} (h : Bd k x) (h2 : Bd k y) : Bd (k + 1) (x - y) := by
  unfold Bd at *
  rw [Nat.pow_succ]
  omega
theorem Bd.neg {k : Nat} {x : Int} (h : Bd k x) : Bd k (-x) := by
  unfold Bd at *
  omega
theorem Bd.ediv {k : Nat} {x m : Int} (h : Bd k x) (hm : 0 < m) : Bd k (x / m) := by
  refine h.le ?_
  rcases Int.lt_or_le x 0 with hx | hx
  · have h1 : x / m < 0 := Int.ediv_neg_of_neg_of_pos hx hm
    have h2 : x ≤ x / m := by
      apply Int.le_ediv_of_mul_le hm
      have : (-x) * 1 ≤ (-x) * m := Int.mul_le_mul_of_nonneg_left (by omega) (by omega)
      rw [Int.neg_mul, Int.neg_mul, Int.mul_one] at this
      omega
    omega
  · have h1 : 0 ≤ x / m := Int.ediv_nonneg hx (by omega)
    have h2 : x / m ≤ x := Int.ediv_le_self _ hx
    omega
theorem Bd.emod {k : Nat} {x m : Int} (h : Bd k m) (hm : 0 < m) : Bd k (x % m) := by
  refine h.le ?_
  have := Int.emod_nonneg x (show m ≠ 0 by omega)
  have := Int.emod_lt_of_pos x hm
  omega
theorem Bd.log {k : Nat} {i : Int} (h : Bd k i) (hk : 0 < k) : i.natAbs.log2 < k := by
  by_cases e : i.natAbs = 0
  · rw [e]; exact hk
  · exact (Nat.log2_lt e).mpr h
theorem Bd.small {k : Nat} {i : Int} (c : Nat) (h : i.natAbs < 2 ^ c) (e : c ≤ k) : Bd k i := Bd.mono (k := c) h e
theorem Bd.between {k : Nat} {x y : Int} (h : Bd k y) (h0 : 0 ≤ x) (h1 : x ≤ y) : Bd k x := h.le (by omega)
/-! ### the greatest common divisor -/
theorem gcd_turn (x y : Int) (hx : 0 ≤ x) (hy : 0 < y) : Int.gcd y (x % y) = Int.gcd x y := by
  unfold Int.gcd
  rw [show (x % y).natAbs = x.natAbs % y.natAbs by
    obtain ⟨a, rfl⟩ := Int.eq_ofNat_of_zero_le hx
    obtain ⟨b, rfl⟩ := Int.eq_ofNat_of_zero_le (Int.le_of_lt hy)
    rfl]
  rw [Nat.gcd_comm, ← Nat.gcd_rec, Nat.gcd_comm]
end Lf
namespace Lf
theorem nab_ediv {x m : Int} (hm : 0 < m) : (x / m).natAbs ≤ x.natAbs := by
  rcases Int.lt_or_le x 0 with hx | hx
  · have h1 : x / m < 0 := Int.ediv_neg_of_neg_of_pos hx hm
    have h2 : x ≤ x / m := by
      apply Int.le_ediv_of_mul_le hm
      have : (-x) * 1 ≤ (-x) * m := Int.mul_le_mul_of_nonneg_left (by omega) (by omega)
      rw [Int.neg_mul, Int.neg_mul, Int.mul_one] at this
      omega
    omega
  · have h1 : 0 ≤ x / m := Int.ediv_nonneg hx (by omega)
    have h2 : x / m ≤ x := Int.ediv_le_self _ hx
    omega
theorem fs_nab (n : Nat) (a b m : Int) (hm : 0 < m) : (fs n a b m).natAbs ≤ n * (a.natAbs * n + b.natAbs) := by
  induction n with
  | zero => show (0 : Int).natAbs ≤ _; simp
  | succ n ih =>
    show (fs n a b m + (a * n + b) / m).natAbs ≤ (n + 1) * (a.natAbs * (n + 1) + b.natAbs)
    have h1 := nab_ediv (x := a * n + b) hm
    have h2 := Int.natAbs_add_le (a * n) b
    have h3 := Int.natAbs_add_le (fs n a b m) ((a * n + b) / m)
    have h4 : (a * (n : Int)).natAbs = a.natAbs * n := by rw [Int.natAbs_mul]; rfl
    rw [h4] at h2
    have h5 : n * (a.natAbs * n + b.natAbs) ≤ n * (a.natAbs * (n + 1) + b.natAbs) := Nat.mul_le_mul_left _ (Nat.add_le_add_right (Nat.mul_le_mul_left _ (by omega)) _)
    have h6 : a.natAbs * n ≤ a.natAbs * (n + 1) := Nat.mul_le_mul_left _ (by omega)
    rw [Nat.add_mul, Nat.one_mul]
    omega
theorem fs_bd {n k j : Nat} {a b m : Int} (hm : 0 < m) (hn : n < 2 ^ j) (ha : Bd k a) (hb : Bd k b) : Bd (j + (k + j + 1)) (fs n a b m) := by
  unfold Bd at *
  have h := fs_nab n a b m hm
  refine Nat.lt_of_le_of_lt h ?_
  rw [Nat.pow_add 2 j]
  have h1 : a.natAbs * n + b.natAbs < 2 ^ (k + j + 1) := by
    have e : a.natAbs * n ≤ 2 ^ k * 2 ^ j := Nat.mul_le_mul (Nat.le_of_lt ha) (Nat.le_of_lt hn)
    have e2 : 2 ^ k ≤ 2 ^ k * 2 ^ j := Nat.le_mul_of_pos_right _ (Nat.pow_pos (by decide))
    rw [Nat.pow_succ, Nat.pow_add]
    omega
  exact Nat.mul_lt_mul'' hn h1
def trm (p q c s : Int) (i : Nat) : Int := (p * (s + i) + c) / q
theorem trm_sum (p q c s : Int) (n : Nat) : ((List.range n).map (trm p q c s)).sum = fs n p (p * s + c) q := by
  induction n with
  | zero => rfl
  | succ n ih =>
    rw [List.range_succ, List.map_append, List.sum_append, ih]
    show _ + (trm p q c s n + 0) = fs n p (p * s + c) q + (p * n + (p * s + c)) / q
    unfold trm
    rw [show p * (s + (n : Int)) + c = p * n + (p * s + c) by rw [Int.mul_add]; omega]
    omega
end Lf
namespace Lf
/-! ### triples in lowest terms -/
def gg (p q : Int) : Int := (Int.gcd p q : Int)
theorem gg_pos {p q : Int} (h : 1 ≤ q) : 0 < gg p q := by
  have : 0 < Int.gcd p q := Int.gcd_pos_of_ne_zero_right _ (by omega)
  unfold gg
  omega
theorem gg_p (p q : Int) : p = gg p q * (p / gg p q) := (Int.mul_ediv_cancel' (Int.gcd_dvd_left ..)).symm
theorem gg_q (p q : Int) : q = gg p q * (q / gg p q) := (Int.mul_ediv_cancel' (Int.gcd_dvd_right ..)).symm
theorem gg_mul (g x y : Int) (h : 0 ≤ g) : gg (g * x) (g * y) = g * gg x y := by
  unfold gg
  rw [Int.gcd_mul_left, Int.natCast_mul, Int.natAbs_of_nonneg h]
/-- reduced, multiplied, reduced again -/
theorem gg_twice (p q u v : Int) (h : 1 ≤ q) : gg (u * p) (v * q) = gg p q * gg (u * (p / gg p q)) (v * (q / gg p q)) := by
  have hg := gg_pos (p := p) h
  rw [← gg_mul _ _ _ (Int.le_of_lt hg)]
  congr 1
  · rw [Int.mul_left_comm, ← gg_p]
  · rw [Int.mul_left_comm, ← gg_q]
theorem red_p (p q u v : Int) (h : 1 ≤ q) (hv : 1 ≤ v) : u * (p / gg p q) / gg (u * (p / gg p q)) (v * (q / gg p q)) = u * p / gg (u * p) (v * q) := by
  have hg := gg_pos (p := p) h
  have e := gg_twice p q u v h
  rw [e]
  have e2 : u * p = gg p q * (u * (p / gg p q)) := by rw [Int.mul_left_comm, ← gg_p]
  rw [e2, Int.mul_ediv_mul_of_pos _ _ hg]
theorem red_q (p q u v : Int) (h : 1 ≤ q) (hv : 1 ≤ v) : v * (q / gg p q) / gg (u * (p / gg p q)) (v * (q / gg p q)) = v * q / gg (u * p) (v * q) := by
  have hg := gg_pos (p := p) h
  have e := gg_twice p q u v h
  rw [e]
  have e2 : v * q = gg p q * (v * (q / gg p q)) := by rw [Int.mul_left_comm, ← gg_q]
  rw [e2, Int.mul_ediv_mul_of_pos _ _ hg]
theorem red_c (p q u v c : Int) (h : 1 ≤ q) (hv : 1 ≤ v) : c / gg p q / gg (u * (p / gg p q)) (v * (q / gg p q)) = c / gg (u * p) (v * q) := by
  have hg := gg_pos (p := p) h
  rw [gg_twice p q u v h, Int.ediv_ediv_of_nonneg (Int.le_of_lt hg)]
theorem red_shift (p q a b c : Int) (h : 1 ≤ q) : (p * a + q * b + c) / gg p q = p / gg p q * a + q / gg p q * b + c / gg p q := by
  have hg := gg_pos (p := p) h
  have e : p * a + q * b + c = c + gg p q * (p / gg p q * a + q / gg p q * b) := by
    rw [Int.mul_add, ← Int.mul_assoc, ← Int.mul_assoc, ← gg_p, ← gg_q]
    omega
  rw [e, div_shift _ _ _ hg]
  omega
theorem div_neg1 (c g : Int) (hg : 0 < g) : (-1 - c) / g = -1 - c / g := by
  have e := Int.emod_add_mul_ediv c g
  have h0 := Int.emod_nonneg c (show g ≠ 0 by omega)
  have h1 := Int.emod_lt_of_pos c hg
  have e2 : -1 - c = (g - 1 - c % g) + g * (-1 - c / g) := by
    rw [Int.mul_sub]
    omega
  rw [e2, div_shift _ _ _ hg, Int.ediv_eq_zero_of_lt (by omega) (by omega)]
  omega
theorem red_mirror (p q c : Int) (h : 1 ≤ q) : (q - 1 - c) / gg p q = q / gg p q - 1 - c / gg p q := by
  have hg := gg_pos (p := p) h
  have e : q - 1 - c = (-1 - c) + gg p q * (q / gg p q) := by
    rw [← gg_q]
    omega
  rw [e, div_shift _ _ _ hg, div_neg1 _ _ hg]
  omega
end Lf
namespace Lf
theorem gg1 {p q : Int} (h : Int.gcd p q = 1) : gg p q = 1 := by
  unfold gg
  rw [h]
  rfl
theorem thin2 (p q c j k : Int) (h : 1 ≤ q * j) (hk : 1 ≤ k) :
    p / gg p (q * j) / gg (p / gg p (q * j)) (q * j / gg p (q * j) * k) = p / gg p (q * (j * k)) ∧
    q * j / gg p (q * j) * k / gg (p / gg p (q * j)) (q * j / gg p (q * j) * k) = q * (j * k) / gg p (q * (j * k)) ∧
    c / gg p (q * j) / gg (p / gg p (q * j)) (q * j / gg p (q * j) * k) = c / gg p (q * (j * k)) := by
  have e : q * (j * k) = k * (q * j) := by rw [← Int.mul_assoc, Int.mul_comm]
  have h1 := red_p p (q * j) 1 k h hk
  have h2 := red_q p (q * j) 1 k h hk
  have h3 := red_c p (q * j) 1 k c h hk
  simp only [Int.one_mul] at h1 h2 h3
  rw [Int.mul_comm (q * j / gg p (q * j)) k, e]
  exact ⟨h1, h2, h3⟩
theorem sample2 (p q c j k : Int) (h : 1 ≤ q) :
    p * j / gg (p * j) q * k / gg (p * j / gg (p * j) q * k) (q / gg (p * j) q) = p * (j * k) / gg (p * (j * k)) q ∧
    q / gg (p * j) q / gg (p * j / gg (p * j) q * k) (q / gg (p * j) q) = q / gg (p * (j * k)) q ∧
    c / gg (p * j) q / gg (p * j / gg (p * j) q * k) (q / gg (p * j) q) = c / gg (p * (j * k)) q := by
  have e : p * (j * k) = k * (p * j) := by rw [← Int.mul_assoc, Int.mul_comm]
  have h1 := red_p (p * j) q k 1 h (by decide)
  have h2 := red_q (p * j) q k 1 h (by decide)
  have h3 := red_c (p * j) q k 1 c h (by decide)
  simp only [Int.one_mul] at h1 h2 h3
  rw [Int.mul_comm (p * j / gg (p * j) q) k, e]
  exact ⟨h1, h2, h3⟩
theorem both2 (p q c k : Int) (h : 1 ≤ q) (hk : 1 ≤ k) :
    p * k / gg (p * k) q / gg (p * k / gg (p * k) q) (q / gg (p * k) q * k) = k * p / gg (k * p) (k * q) ∧
    q / gg (p * k) q * k / gg (p * k / gg (p * k) q) (q / gg (p * k) q * k) = k * q / gg (k * p) (k * q) ∧
    c / gg (p * k) q / gg (p * k / gg (p * k) q) (q / gg (p * k) q * k) = c / gg (k * p) (k * q) := by
  have h1 := red_p (p * k) q 1 k h hk
  have h2 := red_q (p * k) q 1 k h hk
  have h3 := red_c (p * k) q 1 k c h hk
  simp only [Int.one_mul] at h1 h2 h3
  rw [Int.mul_comm (q / gg (p * k) q) k, Int.mul_comm k p]
  exact ⟨h1, h2, h3⟩
theorem one_le_mul {x y : Int} (h : 1 ≤ x) (h2 : 1 ≤ y) : 1 ≤ x * y := by
  have := Int.mul_le_mul h h2 (by decide) (by omega)
  omega
end Lf
namespace Lf
/-! ### sums over ranges -/
theorem fs_add (n m : Nat) (a b q : Int) : fs (n + m) a b q = fs n a b q + fs m a (a * n + b) q := by
  induction m with
  | zero => show fs n a b q = fs n a b q + 0; omega
  | succ m ih =>
    show fs (n + m) a b q + (a * ((n + m : Nat) : Int) + b) / q = fs n a b q + (fs m a (a * n + b) q + (a * m + (a * n + b)) / q)
    rw [ih, show a * ((n + m : Nat) : Int) + b = a * m + (a * n + b) by rw [Int.natCast_add, Int.mul_add]; omega]
    omega
/-- two neighbouring ranges -/
theorem fs_split (p q c s m e : Int) (h1 : s ≤ m) (h2 : m ≤ e) : fs (m - s).toNat p (p * s + c) q + fs (e - m).toNat p (p * m + c) q = fs (e - s).toNat p (p * s + c) q := by
  have e1 : (e - s).toNat = (m - s).toNat + (e - m).toNat := by omega
  rw [e1, fs_add, show ((m - s).toNat : Int) = m - s by omega, show p * (m - s) + (p * s + c) = p * m + c by rw [Int.mul_sub]; omega]
theorem fs_one (p b q : Int) : fs 1 p b q = b / q := by
  show 0 + (p * ((0 : Nat) : Int) + b) / q = b / q
  simp
/-- one step of the offset: a term grows by one exactly where the divisor divides -/
theorem step_div (x q : Int) (h : 0 < q) : (x + 1) / q = x / q + (if (x + 1) % q = 0 then 1 else 0) := by
  have e := Int.emod_add_mul_ediv x q
  have h0 := Int.emod_nonneg x (show q ≠ 0 by omega)
  have h1 := Int.emod_lt_of_pos x h
  by_cases hc : x % q + 1 = q
  · have e2 : x + 1 = 0 + q * (x / q + 1) := by rw [Int.mul_add]; omega
    have e3 : (x + 1) % q = 0 := by rw [e2, Int.zero_add, Int.mul_emod_right]
    rw [if_pos e3, e2, div_shift _ _ _ h, Int.zero_ediv]
    omega
  · have e2 : x + 1 = (x % q + 1) + q * (x / q) := by omega
    have e3 : (x + 1) % q = x % q + 1 := by
      rw [e2, Int.add_mul_emod_self_left]
      exact Int.emod_eq_of_lt (by omega) (by omega)
    rw [if_neg (by omega)]
    rw [e2, div_shift _ _ _ h, Int.ediv_eq_zero_of_lt (by omega) (by omega)]
    omega
theorem hit_once (p q b : Int) (hg : Int.gcd p q = 1) (i j : Int) (hi : 0 ≤ i) (hij : i < j) (hj : j < q) (h1 : (p * i + b) % q = 0) (h2 : (p * j + b) % q = 0) : False := by
  have d1 := Int.dvd_of_emod_eq_zero h1
  have d2 := Int.dvd_of_emod_eq_zero h2
  have d3 : q ∣ p * (j - i) := by
    have := Int.dvd_sub d2 d1
    rw [show p * j + b - (p * i + b) = p * (j - i) by rw [Int.mul_sub]; omega] at this
    exact this
  have d4 : q ∣ j - i := by
    have n1 : q.natAbs ∣ p.natAbs * (j - i).natAbs := by
      rw [← Int.natAbs_mul]
      exact Int.natAbs_dvd_natAbs.mpr d3
    have n2 : Nat.Coprime q.natAbs p.natAbs := by
      unfold Nat.Coprime
      rw [Nat.gcd_comm]
      exact hg
    exact Int.natAbs_dvd_natAbs.mp (Nat.Coprime.dvd_of_dvd_mul_left n2 n1)
  have := Int.le_of_dvd (by omega) d4
  omega
theorem fs_step_le (p q b : Int) (hq : 0 < q) (hg : Int.gcd p q = 1) (n : Nat) (hn : (n : Int) ≤ q) :
    fs n p (b + 1) q - fs n p b q = 0 ∧ (∀ i : Nat, i < n → (p * i + (b + 1)) % q ≠ 0) ∨ fs n p (b + 1) q - fs n p b q = 1 ∧ (∃ i : Nat, i < n ∧ (p * i + (b + 1)) % q = 0) := by
  induction n with
  | zero => exact .inl ⟨rfl, fun i h => absurd h (by omega)⟩
  | succ n ih =>
    have e : fs (n + 1) p (b + 1) q - fs (n + 1) p b q = (fs n p (b + 1) q - fs n p b q) + ((p * n + (b + 1)) / q - (p * n + b) / q) := by
      show fs n p (b + 1) q + (p * n + (b + 1)) / q - (fs n p b q + (p * n + b) / q) = _
      omega
    have s := step_div (p * n + b) q hq
    rw [show p * (n : Int) + b + 1 = p * n + (b + 1) by omega] at s
    rw [e]
    rcases ih (by omega) with ⟨h1, h2⟩ | ⟨h1, i, hi, h2⟩
    · by_cases hc : (p * (n : Int) + (b + 1)) % q = 0
      · rw [if_pos hc] at s
        exact .inr ⟨by omega, n, by omega, hc⟩
      · rw [if_neg hc] at s
        refine .inl ⟨by omega, fun i hi => ?_⟩
        by_cases hin : i = n
        · subst hin; exact hc
        · exact h2 i (by omega)
    · have hc : ¬ (p * (n : Int) + (b + 1)) % q = 0 := fun z => hit_once p q (b + 1) hg i n (by omega) (by omega) (by omega) h2 z
      rw [if_neg hc] at s
      exact .inr ⟨by omega, i, by omega, h2⟩
theorem fs_step (p q b : Int) (hq : 0 < q) (hg : Int.gcd p q = 1) : fs q.toNat p (b + 1) q = fs q.toNat p b q + 1 := by
  have hle : ∀ b, fs q.toNat p (b + 1) q - fs q.toNat p b q ≤ 1 := fun b => by
    rcases fs_step_le p q b hq hg q.toNat (by omega) with ⟨h, _⟩ | ⟨h, _⟩ <;> omega
  have many : ∀ (k : Nat) (b : Int), fs q.toNat p (b + k) q - fs q.toNat p b q ≤ k := fun k => by
    induction k with
    | zero => intro b; simp
    | succ k ih =>
      intro b
      have h1 := ih b
      have h2 := hle (b + k)
      rw [show b + ((k + 1 : Nat) : Int) = b + k + 1 by omega]
      omega
  have up := fs_up q.toNat p b q hq
  have h1 := many (q.toNat - 1) (b + 1)
  rw [show b + 1 + ((q.toNat - 1 : Nat) : Int) = b + q by omega] at h1
  have h2 := hle b
  omega
theorem fs_from (p q : Int) (hq : 0 < q) (hg : Int.gcd p q = 1) (k : Nat) (b : Int) : fs q.toNat p (b + k) q = fs q.toNat p b q + k := by
  induction k with
  | zero => simp
  | succ k ih =>
    rw [show b + ((k + 1 : Nat) : Int) = b + k + 1 by omega, fs_step p q _ hq hg, ih]
    omega
theorem fs_any (p q b : Int) (hq : 0 < q) (hg : Int.gcd p q = 1) : fs q.toNat p b q = fs q.toNat p 0 q + b := by
  rcases Int.lt_or_le b 0 with h | h
  · have := fs_from p q hq hg (-b).toNat b
    rw [show b + ((-b).toNat : Int) = 0 by omega] at this
    omega
  · have := fs_from p q hq hg b.toNat 0
    rw [show 0 + (b.toNat : Int) = b by omega] at this
    omega
/-- terms in reverse order -/
theorem fs_rev (n : Nat) (a b q : Int) : fs n a b q = fs n (-a) (a * (n - 1) + b) q := by
  induction n with
  | zero => rfl
  | succ n ih =>
    rw [fs_first n (-a)]
    show fs n a b q + (a * n + b) / q = _
    rw [ih, show a * (((n + 1 : Nat) : Int) - 1) + b = a * n + b by rw [show ((n + 1 : Nat) : Int) - 1 = n by omega],
      show a * (n : Int) + b + -a = a * (n - 1) + b by rw [Int.mul_sub]; omega]
    omega
/-- negated terms -/
theorem fs_neg (n : Nat) (a b q : Int) (hq : 0 < q) : fs n (-a) (-b) q = - fs n a (b + q - 1) q := by
  induction n with
  | zero => rfl
  | succ n ih =>
    show fs n (-a) (-b) q + (-a * n + -b) / q = - (fs n a (b + q - 1) q + (a * n + (b + q - 1)) / q)
    rw [ih]
    have h1 := div_neg1 (a * n + (b - 1)) q hq
    have h2 := div_shift (a * n + (b - 1)) 1 q hq
    rw [show -1 - (a * (n : Int) + (b - 1)) = -a * n + -b by rw [Int.neg_mul]; omega] at h1
    rw [show a * (n : Int) + (b - 1) + q * 1 = a * n + (b + q - 1) by omega] at h2
    omega
theorem fs_cycle (p q b : Int) (hq : 0 < q) (hg : Int.gcd p q = 1) : fs q.toNat p b q = b + (p - 1) * (q - 1) / 2 := by
  have h0 := fs_any p q b hq hg
  have r := fs_rev q.toNat p 0 q
  have ng := fs_neg q.toNat p (-(p * (q - 1))) q hq
  rw [show ((q.toNat : Nat) : Int) = q by omega, Int.add_zero] at r
  rw [Int.neg_neg] at ng
  have h2 := fs_any p q (-(p * (q - 1)) + q - 1) hq hg
  have key : 2 * fs q.toNat p 0 q = (p - 1) * (q - 1) := by
    have e : (p - 1) * (q - 1) = p * (q - 1) - (q - 1) := by rw [Int.sub_mul, Int.one_mul]
    omega
  have : (p - 1) * (q - 1) / 2 = fs q.toNat p 0 q := by
    rw [← key, Int.mul_ediv_cancel_left _ (by decide)]
  omega
/-- Hermite's identity -/
theorem fs_hermite (k y : Int) (hk : 0 < k) : fs k.toNat 1 y k = y := by
  have := fs_cycle 1 k y hk (by simp [Int.gcd])
  rw [this]
  simp
/-- mirrored -/
theorem fs_mirror (n : Nat) (p q c s : Int) (hq : 0 < q) : fs n p (p * (1 - (s + n)) + (q - 1 - c)) q = - fs n p (p * s + c) q := by
  induction n with
  | zero => rfl
  | succ n ih =>
    rw [fs_first]
    show _ = -(fs n p (p * s + c) q + (p * n + (p * s + c)) / q)
    have e1 : p * (1 - (s + ((n + 1 : Nat) : Int))) + (q - 1 - c) + p = p * (1 - (s + n)) + (q - 1 - c) := by
      rw [show (1 - (s + ((n + 1 : Nat) : Int))) = (1 - (s + n)) - 1 by omega, Int.mul_sub p _ 1]
      omega
    rw [e1, ih]
    have h1 := div_neg1 (p * n + (p * s + c)) q hq
    have h2 := div_shift (-1 - (p * n + (p * s + c))) 1 q hq
    rw [show -1 - (p * (n : Int) + (p * s + c)) + q * 1 = p * (1 - (s + ((n + 1 : Nat) : Int))) + (q - 1 - c) by
      rw [show (1 - (s + ((n + 1 : Nat) : Int))) = -(n : Int) - s by omega, Int.mul_sub, Int.mul_neg]; omega] at h2
    omega
theorem fs_lowest (n : Nat) (p q c s : Int) (hq : 1 ≤ q) : fs n (p / gg p q) (p / gg p q * s + c / gg p q) (q / gg p q) = fs n p (p * s + c) q := by
  have hg := gg_pos (p := p) hq
  induction n with
  | zero => rfl
  | succ n ih =>
    show fs n (p / gg p q) (p / gg p q * s + c / gg p q) (q / gg p q) + (p / gg p q * n + (p / gg p q * s + c / gg p q)) / (q / gg p q) = fs n p (p * s + c) q + (p * n + (p * s + c)) / q
    rw [ih]
    have e1 : p / gg p q * n + (p / gg p q * s + c / gg p q) = (p * n + (p * s + c)) / gg p q := by
      have : p * n + (p * s + c) = c + gg p q * (p / gg p q * n + p / gg p q * s) := by
        rw [Int.mul_add, ← Int.mul_assoc, ← Int.mul_assoc, ← gg_p]
        omega
      rw [this, div_shift _ _ _ hg]
      omega
    have e2 : (p * n + (p * s + c)) / gg p q / (q / gg p q) = (p * n + (p * s + c)) / q := by
      rw [Int.ediv_ediv_of_nonneg (Int.le_of_lt hg), ← gg_q]
    rw [e1, e2]
theorem sum_map_add {α : Type} (l : List α) (f g : α → Int) : (l.map fun x => f x + g x).sum = (l.map f).sum + (l.map g).sum := by
  induction l with
  | nil => rfl
  | cons x r ih => simp only [List.map_cons, List.sum_cons, ih]; omega
theorem range_fs (k : Nat) (a b q : Int) : ((List.range k).map fun (j : Nat) => (a * j + b) / q).sum = fs k a b q := by
  induction k with
  | zero => rfl
  | succ k ih =>
    rw [List.range_succ, List.map_append, List.sum_append, ih]
    show _ + ((a * k + b) / q + 0) = fs k a b q + (a * k + b) / q
    omega
theorem fs_thin (n : Nat) (p q b k : Int) (hq : 0 < q) (hk : 0 < k) : ((List.range k.toNat).map fun (j : Nat) => fs n p (b + q * j) (q * k)).sum = fs n p b q := by
  induction n with
  | zero =>
    show ((List.range k.toNat).map fun _ => (0 : Int)).sum = 0
    induction k.toNat with
    | zero => rfl
    | succ m ih => rw [List.range_succ, List.map_append, List.sum_append, ih]; rfl
  | succ n ih =>
    have e : (List.range k.toNat).map (fun (j : Nat) => fs (n + 1) p (b + q * j) (q * k)) = (List.range k.toNat).map (fun (j : Nat) => fs n p (b + q * j) (q * k) + (1 * (j : Int) + (p * n + b) / q) / k) := by
      apply List.map_congr_left
      intro j _
      show fs n p (b + q * j) (q * k) + (p * n + (b + q * j)) / (q * k) = _
      rw [← Int.ediv_ediv_of_nonneg (Int.le_of_lt hq), show p * (n : Int) + (b + q * j) = (p * n + b) + q * j by omega, div_shift _ _ _ hq, Int.one_mul, Int.add_comm]
      rw [Int.add_comm (j : Int)]
      omega
    rw [e, sum_map_add, ih, range_fs, fs_hermite _ _ hk]
    rfl
theorem fs_sample (n : Nat) (p q b k : Int) (hk : 0 ≤ k) : ((List.range k.toNat).map fun (j : Nat) => fs n (p * k) (b + p * j) q).sum = fs (k.toNat * n) p b q := by
  induction n with
  | zero =>
    show ((List.range k.toNat).map fun _ => (0 : Int)).sum = 0
    induction k.toNat with
    | zero => rfl
    | succ m ih => rw [List.range_succ, List.map_append, List.sum_append, ih]; rfl
  | succ n ih =>
    have e : (List.range k.toNat).map (fun (j : Nat) => fs (n + 1) (p * k) (b + p * j) q) = (List.range k.toNat).map (fun (j : Nat) => fs n (p * k) (b + p * j) q + (p * (j : Int) + (p * ((k.toNat * n : Nat) : Int) + b)) / q) := by
      apply List.map_congr_left
      intro j _
      show fs n (p * k) (b + p * j) q + (p * k * n + (b + p * j)) / q = _
      rw [Int.natCast_mul, show ((k.toNat : Nat) : Int) = k by omega, ← Int.mul_assoc]
      rw [show p * k * (n : Int) + (b + p * j) = p * j + (p * k * n + b) by omega]
    rw [e, sum_map_add, ih, range_fs, Nat.mul_succ, fs_add]
end Lf
namespace Lf
theorem fs_lin (n : Nat) (a b m i j : Int) (hm : 0 < m) : fs n (a + i * m) (b + j * m) m = fs n a b m + i * tri n + j * n := by
  induction n with
  | zero => simp [fs, tri_zero]
  | succ n ih =>
    show fs n (a + i * m) (b + j * m) m + ((a + i * m) * n + (b + j * m)) / m = fs n a b m + (a * n + b) / m + i * tri ((n + 1 : Nat) : Int) + j * ((n + 1 : Nat) : Int)
    rw [ih, show (a + i * m) * (n : Int) + (b + j * m) = (a * n + b) + m * (i * n + j) by
      rw [Int.add_mul, Int.mul_add, Int.mul_comm i m, Int.mul_assoc, Int.mul_comm j m]; omega, div_shift _ _ _ hm, Int.natCast_add, Int.natCast_one, tri_succ, Int.mul_add, Int.mul_add]
    omega
theorem fs_scale (n : Nat) (a b m k : Int) (hk : 0 < k) : fs n (a * k) (b * k) (m * k) = fs n a b m := by
  induction n with
  | zero => rfl
  | succ n ih =>
    show fs n (a * k) (b * k) (m * k) + (a * k * n + b * k) / (m * k) = fs n a b m + (a * n + b) / m
    rw [ih, show a * k * (n : Int) + b * k = (a * n + b) * k by rw [Int.add_mul, Int.mul_right_comm], Int.mul_ediv_mul_of_pos_left _ _ hk]
theorem fs_last (n a b m : Int) (hn : 0 < n) : fs n.toNat a b m - fs (n - 1).toNat a b m = (a * (n - 1) + b) / m := by
  have e : n.toNat = (n - 1).toNat + 1 := by omega
  rw [e]
  show fs (n - 1).toNat a b m + (a * ((n - 1).toNat : Int) + b) / m - fs (n - 1).toNat a b m = _
  rw [show ((n - 1).toNat : Int) = n - 1 by omega]
  omega
theorem fs_part (n k a b m : Int) (h0 : 0 ≤ k) (h1 : k ≤ n) : fs k.toNat a b m + fs (n - k).toNat a (a * k + b) m = fs n.toNat a b m := by
  rw [show n.toNat = k.toNat + (n - k).toNat by omega, fs_add, show ((k.toNat : Nat) : Int) = k by omega]
theorem Bd.grow3 {k : Nat} {r d : Int} (h0 : 0 ≤ r) (h : Bd k r) (d0 : 0 ≤ d) (d1 : d < 1000) : Bd (k + 10) (1000 * r + d) := by
  unfold Bd at *
  have e : (2 : Nat) ^ (k + 10) = 2 ^ k * 1024 := by rw [Nat.pow_add]
  rw [e]
  generalize (2 : Nat) ^ k = m at h
  omega
theorem Bd.grow1 {k : Nat} {r d : Int} (h0 : 0 ≤ r) (h : Bd k r) (d0 : 0 ≤ d) (d1 : d < 10) : Bd (k + 4) (10 * r + d) := by
  unfold Bd at *
  have e : (2 : Nat) ^ (k + 4) = 2 ^ k * 16 := by rw [Nat.pow_add]
  rw [e]
  generalize (2 : Nat) ^ k = m at h
  omega
end Lf
namespace Lf
/-! ### events -/
theorem gal {p q : Int} (c m t : Int) (hp : 1 ≤ p) (hq : 1 ≤ q) : m ≤ (p * t + c) / q ↔ (q * m + (p - 1 - c)) / p ≤ t := by
  rw [Int.le_ediv_iff_mul_le (by omega), ← Int.lt_add_one_iff (a := (q * m + (p - 1 - c)) / p), Int.ediv_lt_iff_lt_mul (by omega), Int.mul_comm m q, Int.add_mul, Int.one_mul, Int.mul_comm t p]
  omega
theorem ct_mono {p q c s t : Int} (hp : 0 ≤ p) (hq : 1 ≤ q) (h : s ≤ t) : (p * s + c) / q ≤ (p * t + c) / q := by
  apply Int.ediv_le_ediv (by omega)
  have := Int.mul_le_mul_of_nonneg_left h hp
  omega
theorem ev_at {p q c m t : Int} (hp : 1 ≤ p) (hq : 1 ≤ q) (h1 : (p * (t - 1) + c) / q < m) (h2 : m ≤ (p * t + c) / q) : (q * m + (p - 1 - c)) / p = t := by
  have a := (gal c m t hp hq).mp h2
  have b : ¬ (q * m + (p - 1 - c)) / p ≤ t - 1 := fun h => by
    have := (gal c m (t - 1) hp hq).mpr h
    omega
  omega
theorem fs_const (k : Nat) (a b m v : Int) (h : ∀ i : Nat, i < k → (a * i + b) / m = v) : fs k a b m = k * v := by
  induction k with
  | zero => simp [fs]
  | succ k ih =>
    show fs k a b m + (a * k + b) / m = ((k + 1 : Nat) : Int) * v
    rw [ih (fun i hi => h i (by omega)), h k (by omega), Int.natCast_add, Int.natCast_one, Int.add_mul]
    omega
/-- the sum of the counts of a range by the times of its events -/
theorem fs_dual (p q c s : Int) (hp : 1 ≤ p) (hq : 1 ≤ q) (n : Nat) :
    fs n p (p * s + c) q = n * ((p * (s - 1) + c) / q) + ((p * (s + n - 1) + c) / q - (p * (s - 1) + c) / q) * (s + n) - fs ((p * (s + n - 1) + c) / q - (p * (s - 1) + c) / q).toNat q (q * ((p * (s - 1) + c) / q + 1) + (p - 1 - c)) p := by
  induction n with
  | zero =>
    rw [show s + ((0 : Nat) : Int) - 1 = s - 1 by omega, Int.sub_self]
    simp [fs]
  | succ n ih =>
    show fs n p (p * s + c) q + (p * n + (p * s + c)) / q = _
    rw [ih]
    have e0 : p * (n : Int) + (p * s + c) = p * (s + ((n + 1 : Nat) : Int) - 1) + c := by
      rw [show s + ((n + 1 : Nat) : Int) - 1 = s + n by omega, Int.mul_add]
      omega
    rw [e0]
    have m1 : (p * (s - 1) + c) / q ≤ (p * (s + n - 1) + c) / q := ct_mono (by omega) hq (by omega)
    have m2 : (p * (s + n - 1) + c) / q ≤ (p * (s + ((n + 1 : Nat) : Int) - 1) + c) / q := ct_mono (by omega) hq (by omega)
    have key : ∀ i : Nat, (i : Int) < (p * (s + ((n + 1 : Nat) : Int) - 1) + c) / q - (p * (s + n - 1) + c) / q → (q * ((p * (s + n - 1) + c) / q + 1 + i) + (p - 1 - c)) / p = s + n := fun i hi => by
      apply ev_at hp hq
      · show (p * (s + n - 1) + c) / q < _
        omega
      · rw [show s + (n : Int) = s + ((n + 1 : Nat) : Int) - 1 by omega] at *
        omega
    generalize hl : (p * (s - 1) + c) / q = low at *
    generalize hh : (p * (s + n - 1) + c) / q = hi at *
    generalize hh2 : (p * (s + ((n + 1 : Nat) : Int) - 1) + c) / q = hi2 at *
    rw [show (hi2 - low).toNat = (hi - low).toNat + (hi2 - hi).toNat by omega, fs_add, show ((hi - low).toNat : Int) = hi - low by omega]
    have fc := fs_const (hi2 - hi).toNat q (q * (hi - low) + (q * (low + 1) + (p - 1 - c))) p (s + n) (fun i h => by
      have := key i (by omega)
      rw [show q * (i : Int) + (q * (hi - low) + (q * (low + 1) + (p - 1 - c))) = q * (hi + 1 + i) + (p - 1 - c) by
        have : q * (hi + 1 + i) = q * i + q * (hi - low) + q * (low + 1) := by rw [← Int.mul_add, ← Int.mul_add]; congr 1; omega
        omega]
      exact this)
    rw [fc, show ((hi2 - hi).toNat : Int) = hi2 - hi by omega]
    rw [show s + ((n + 1 : Nat) : Int) = s + n + 1 by omega, show ((n + 1 : Nat) : Int) = n + 1 by omega]
    generalize s + (n : Int) = x
    have e3 : (hi2 - low) * (x + 1) = hi2 * x - low * x + hi2 - low := by rw [Int.mul_add, Int.sub_mul]; omega
    have e4 : (hi - low) * x = hi * x - low * x := by rw [Int.sub_mul]
    have e5 : (hi2 - hi) * x = hi2 * x - hi * x := by rw [Int.sub_mul]
    have e6 : ((n : Int) + 1) * low = n * low + low := by rw [Int.add_mul, Int.one_mul]
    rw [e3, e4, e5, e6]
    omega
theorem ct_fast {p q c s : Int} (hq : 1 ≤ q) (h : q ≤ p) (n : Nat) : (n : Int) ≤ (p * (s + n) + c) / q - (p * s + c) / q := by
  induction n with
  | zero => simp
  | succ n ih =>
    have : (p * (s + n) + c) / q + 1 ≤ (p * (s + ((n + 1 : Nat) : Int)) + c) / q := by
      have e := div_shift (p * (s + n) + c) 1 q (by omega)
      rw [← e]
      apply Int.ediv_le_ediv (by omega)
      rw [show s + ((n + 1 : Nat) : Int) = s + n + 1 by omega, Int.mul_add p (s + n) 1]
      omega
    omega
theorem ct_slow {p q c s : Int} (hq : 1 ≤ q) (h : p ≤ q) (n : Nat) : (p * (s + n) + c) / q - (p * s + c) / q ≤ n := by
  induction n with
  | zero => simp
  | succ n ih =>
    have : (p * (s + ((n + 1 : Nat) : Int)) + c) / q ≤ (p * (s + n) + c) / q + 1 := by
      have e := div_shift (p * (s + n) + c) 1 q (by omega)
      rw [← e]
      apply Int.ediv_le_ediv (by omega)
      rw [show s + ((n + 1 : Nat) : Int) = s + n + 1 by omega, Int.mul_add p (s + n) 1]
      omega
    omega
end Lf

namespace Lf
open PySem PySem.Spec PyProof.Rows L2
def topS (i : Nat) : Stmt := PySem.Challenge.pw_leapfit_k26_whole_leads_and_agreements.main.body.getD i (.Pass ⟨0, 0, 0, 0⟩)
/-! ### heaps -/
theorem len10 {n : Nat} (h : n ≤ 1000) : n ≤ sizeLine := Nat.le_of_lt (small1000 h)
def penD (l : Addr) (t r : Int) : List (Key × V) := [(Sum.inr "cells", .ref l), (Sum.inr "turn", .int t), (Sum.inr "rest", .int r)]
/-- all but the source's own dict stays -/
structure Fr (H H' : Hp) : Prop where
  k : ∀ b o, H b = some o → (∀ x : Addr × Int × Int, o ≠ .dK (penD x.1 x.2.1 x.2.2)) → H' b = some o
theorem Fr.t {H H' : Hp} (f : Fr H H') (b : Addr) (xs : List V) (h : H b = some (.tup xs)) : H' b = some (.tup xs) := f.k b _ h fun _ z => by cases z
theorem Fr.l {H H' : Hp} (f : Fr H H') (b : Addr) (xs : List V) (h : H b = some (.lst xs)) : H' b = some (.lst xs) := f.k b _ h fun _ z => by cases z
theorem Fr.refl (H : Hp) : Fr H H := ⟨fun _ _ h _ => h⟩
theorem Fr.trans {H H1 H2 : Hp} (a : Fr H H1) (b : Fr H1 H2) : Fr H H2 := ⟨fun c o h n => b.k c o (a.k c o h n) n⟩
theorem Fr.same {H H1 : Hp} (a : Same H H1) : Fr H H1 := ⟨fun c o h _ => a c _ h⟩
theorem sm_upd {H : Hp} {p : Addr} {o : HO} (h : H p = none) : Same H (upd H p o) := fun b x e => by
  rw [upd_ne (ne_of_none e h)]
  exact e
theorem Fr.new {H : Hp} {p : Addr} {o : HO} (h : H p = none) : Fr H (upd H p o) := Fr.same (sm_upd h)
theorem Fr.dict {H : Hp} {p l : Addr} {t r : Int} {o : HO} (h : H p = some (.dK (penD l t r))) : Fr H (upd H p o) :=
  ⟨fun b o e n => by rw [upd_ne (ne_of e h (n (l, t, r)))]; exact e⟩
theorem Fr.d0 {H H' : Hp} (f : Fr H H') (b : Addr) (h : H b = some (.dK [])) : H' b = some (.dK []) := f.k b _ h fun _ z => by cases z
/-! ### the source of numbers -/
theorem sct : ¬ ("cells" : Str) = "turn" := by decide +kernel
theorem scr : ¬ ("cells" : Str) = "rest" := by decide +kernel
theorem str_ : ¬ ("turn" : Str) = "rest" := by decide +kernel
theorem srt : ¬ ("rest" : Str) = "turn" := by decide +kernel
theorem kct : ¬ (Sum.inr ("cells" : Str) : Key) = Sum.inr ("turn" : Str) := fun h => sct (Sum.inr.inj h)
theorem kcr : ¬ (Sum.inr ("cells" : Str) : Key) = Sum.inr ("rest" : Str) := fun h => scr (Sum.inr.inj h)
theorem ktr : ¬ (Sum.inr ("turn" : Str) : Key) = Sum.inr ("rest" : Str) := fun h => str_ (Sum.inr.inj h)
theorem krt : ¬ (Sum.inr ("rest" : Str) : Key) = Sum.inr ("turn" : Str) := fun h => srt (Sum.inr.inj h)
theorem dg_rest {H : Hp} {a l : Addr} {t r : Int} (h : H a = some (.dK (penD l t r))) : DGet H a (.str "rest") (some (.int r)) := by
  have e : valV (penD l t r) (Sum.inr "rest" : Key) = some (.int r) := by
    unfold penD
    rw [valV_neg kcr, valV_neg ktr, valV_pos rfl]
  rw [← e]
  exact DGet.k (k := Sum.inr "rest") h
theorem dg_turn {H : Hp} {a l : Addr} {t r : Int} (h : H a = some (.dK (penD l t r))) : DGet H a (.str "turn") (some (.int t)) := by
  have e : valV (penD l t r) (Sum.inr "turn" : Key) = some (.int t) := by
    unfold penD
    rw [valV_neg kct, valV_pos rfl]
  rw [← e]
  exact DGet.k (k := Sum.inr "turn") h
theorem dg_cells {H : Hp} {a l : Addr} {t r : Int} (h : H a = some (.dK (penD l t r))) : DGet H a (.str "cells") (some (.ref l)) := by
  have e : valV (penD l t r) (Sum.inr "cells" : Key) = some (.ref l) := by
    unfold penD
    rw [valV_pos rfl]
  rw [← e]
  exact DGet.k (k := Sum.inr "cells") h
theorem dp_rest {H : Hp} {a l : Addr} {t r y : Int} (h : H a = some (.dK (penD l t r))) : DPut H a (.str "rest") (.int y) (upd H a (.dK (penD l t y))) := by
  have e : putK (penD l t r) (Sum.inr "rest" : Key) (.int y) = penD l t y := by
    simp [putK, penD, scr, str_]
  rw [← e]
  exact DPut.k (k := Sum.inr "rest") h (by show 3 < sizeLine; exact small1000 (by decide))
theorem dp_turn {H : Hp} {a l : Addr} {t r y : Int} (h : H a = some (.dK (penD l t r))) : DPut H a (.str "turn") (.int y) (upd H a (.dK (penD l y r))) := by
  have e : putK (penD l t r) (Sum.inr "turn" : Key) (.int y) = penD l y r := by
    simp [putK, penD, sct, srt]
  rw [← e]
  exact DPut.k (k := Sum.inr "turn") h (by show 3 < sizeLine; exact small1000 (by decide))
/-- where the source stands: its dict, its list of cells -/
structure PA where
  d : Addr
  l : Addr
instance : Coe PA Addr := ⟨PA.d⟩
structure Pen (H : Hp) (a : PA) (n : Nat) : Prop where
  ex : ∃ (cs : List Int) (t r : Int), H a.d = some (.dK (penD a.l t r)) ∧ H a.l = some (.lst (cs.map V.int)) ∧ cs.length ≤ 63 ∧ 0 ≤ t ∧ t ≤ n ∧ 0 ≤ r
theorem Pen.same {H H' : Hp} {a : PA} {n : Nat} (p : Pen H a n) (s : Same H H') : Pen H' a n := by
  obtain ⟨cs, t, r, h1, h2, h3⟩ := p.ex
  exact ⟨cs, t, r, s _ _ h1, s _ _ h2, h3⟩
theorem Pen.new {H : Hp} {a : PA} {p : Addr} {n : Nat} {o : HO} (q : Pen H a n) (h : H p = none) : Pen (upd H p o) a n := q.same (sm_upd h)
theorem Pen.mono {H : Hp} {a : PA} {n m : Nat} (p : Pen H a n) (h : n ≤ m) : Pen H a m := by
  obtain ⟨cs, t, r, h1, h2, h3, h4, h5, h6⟩ := p.ex
  exact ⟨cs, t, r, h1, h2, h3, h4, by omega, h6⟩
theorem Pen.put {H : Hp} {a l : Addr} {cs : List Int} {t r : Int} {n : Nat} {kvs : List (Key × V)} (ha : H a = some (.dK kvs)) (hl : H l = some (.lst (cs.map V.int))) (h1 : cs.length ≤ 63) (h2 : 0 ≤ t) (h3 : t ≤ n) (h4 : 0 ≤ r) :
    Pen (upd H a (.dK (penD l t r))) ⟨a, l⟩ n :=
  ⟨cs, t, r, upd_same, by show upd H a _ l = _; rw [upd_ne (ne_of hl ha (by intro z; cases z))]; exact hl, h1, h2, h3, h4⟩
/-- an address that was free when the source stood already -/
theorem Pen.over {H H' : Hp} {a : PA} {L : Addr} {n m : Nat} {o : HO} (p0 : Pen H a m) (hL : H L = none) (p : Pen H' a n) : Pen (upd H' L o) a n := by
  obtain ⟨_, _, _, g1, g2, _⟩ := p0.ex
  obtain ⟨cs, t, r, h1, h2, h3⟩ := p.ex
  exact ⟨cs, t, r, by rw [upd_ne (ne_of_none g1 hL)]; exact h1, by rw [upd_ne (ne_of_none g2 hL)]; exact h2, h3⟩
theorem Fr.over {H H' : Hp} {L : Addr} {o : HO} (f : Fr H H') (hL : H L = none) : Fr H (upd H' L o) :=
  ⟨fun b o e n => by rw [upd_ne (ne_of_none e hL)]; exact f.k _ _ e n⟩
/-! ### defs by their names -/
def Df (K : PySem.W.Frag) (mg : Str → Option Value) (x : Str) (st : Stmt) (ps : List Str) : Prop := ∃ f fd, Fun K x x st f fd ∧ mg x = some (.ref f) ∧ Binds K fd ps []
structure Bi (mg : Str → Option Value) : Prop where
  len_ : mg "len" = none
  abs_ : mg "abs" = none
  list_ : mg "list" = none
  range_ : mg "range" = none
  sum_ : mg "sum" = none
  repr_ : mg "repr" = none
  max_ : mg "max" = none
  min_ : mg "min" = none
  reversed_ : mg "reversed" = none
  divmod_ : mg "divmod" = none
  isinstance_ : mg "isinstance" = none
  all_ : mg "all" = none
  int_ : mg "int" = none
  bool_ : mg "bool" = none
  tuple_ : mg "tuple" = none
  sorted_ : mg "sorted" = none
  zip_ : mg "zip" = none
  enumerate_ : mg "enumerate" = none
  set_ : mg "set" = none
  str_ : mg "str" = none
theorem bt_len : bootBuiltins ("len" : Str) = Option.some (Value.builtin "len") := by decide +kernel
theorem bt_abs : bootBuiltins ("abs" : Str) = Option.some (Value.builtin "abs") := by decide +kernel
theorem bt_sum : bootBuiltins ("sum" : Str) = Option.some (Value.builtin "sum") := by decide +kernel
theorem bt_repr : bootBuiltins ("repr" : Str) = Option.some (Value.builtin "repr") := by decide +kernel
theorem bt_max : bootBuiltins ("max" : Str) = Option.some (Value.builtin "max") := by decide +kernel
theorem bt_min : bootBuiltins ("min" : Str) = Option.some (Value.builtin "min") := by decide +kernel
theorem bt_divmod : bootBuiltins ("divmod" : Str) = Option.some (Value.builtin "divmod") := by decide +kernel
theorem bt_isinstance : bootBuiltins ("isinstance" : Str) = Option.some (Value.builtin "isinstance") := by decide +kernel
theorem bt_all : bootBuiltins ("all" : Str) = Option.some (Value.builtin "all") := by decide +kernel
theorem bt_set : bootBuiltins ("set" : Str) = Option.some (Value.type "set") := by decide +kernel
theorem bt_str : bootBuiltins ("str" : Str) = Option.some (Value.type "str") := by decide +kernel
theorem bt_sorted : bootBuiltins ("sorted" : Str) = Option.some (Value.builtin "sorted") := by decide +kernel
theorem bt_list : bootBuiltins ("list" : Str) = Option.some (Value.type "list") := by decide +kernel
theorem bt_int : bootBuiltins ("int" : Str) = Option.some (Value.type "int") := by decide +kernel
theorem bt_bool : bootBuiltins ("bool" : Str) = Option.some (Value.type "bool") := by decide +kernel
theorem bt_tuple : bootBuiltins ("tuple" : Str) = Option.some (Value.type "tuple") := by decide +kernel
section
variable {P : Program} {w : World} {K : PySem.W.Frag} {mg : Str → Option Value} {base : Heap}
theorem cal_of {x : Str} {st : Stmt} {N ps : List Str} {k : Nat} {sp : Sp} (D : Df K mg x st ps) (S : FnScope N ps (defScope st)) (len : ∀ vs H Q E, sp vs H Q E → vs.length = ps.length)
    (hb : ∀ (f : Addr) (cdv : Value) (A : Around) (outer : List Env) (s : Shared) (H : Hp) (vs : List V) (Q : VK) (E : XK), Room k (A.deeper (envOfC x (defScope st) s.heap.objs.size f cdv)) → sp vs H Q E →
      ∃ t, PSs (cxOf CX0 P w K mg base N x (defScope st) f cdv A outer s H E).nox (defBody st) t ∧ t { nx := fun _ H' => Q .non H', rt := Q } (start N vs) H) : C8.Cal P w K mg base (k + 1) x sp [] := by
  obtain ⟨f, fd, F, hm, b⟩ := D
  exact ⟨⟨f, fd, ps, [], F.ok S len (fun cdv A outer s H vs Q E hr h => hb f cdv A outer s H vs Q E hr h), hm, F.kp, b, .nil⟩⟩
/-- the same, its own row known (for calls with keywords) -/
def CalF (P : Program) (w : World) (K : PySem.W.Frag) (mg : Str → Option Value) (base : Heap) (k : Nat) (x : Str) (st : Stmt) (ps : List Str) (sp : Sp) : Prop :=
  ∃ f fd, Fun K x x st f fd ∧ mg x = some (.ref f) ∧ FnOk P w K mg base CX0 k f fd ps sp ∧ Binds K fd ps []
theorem calF_of {x : Str} {st : Stmt} {N ps : List Str} {k : Nat} {sp : Sp} (D : Df K mg x st ps) (S : FnScope N ps (defScope st)) (len : ∀ vs H Q E, sp vs H Q E → vs.length = ps.length)
    (hb : ∀ (f : Addr) (cdv : Value) (A : Around) (outer : List Env) (s : Shared) (H : Hp) (vs : List V) (Q : VK) (E : XK), Room k (A.deeper (envOfC x (defScope st) s.heap.objs.size f cdv)) → sp vs H Q E →
      ∃ t, PSs (cxOf CX0 P w K mg base N x (defScope st) f cdv A outer s H E).nox (defBody st) t ∧ t { nx := fun _ H' => Q .non H', rt := Q } (start N vs) H) : CalF P w K mg base (k + 1) x st ps sp := by
  obtain ⟨f, fd, F, hm, b⟩ := D
  exact ⟨f, fd, F, hm, F.ok S len (fun cdv A outer s H vs Q E hr h => hb f cdv A outer s H vs Q E hr h), b⟩
theorem CalF.cal {x : Str} {st : Stmt} {ps : List Str} {k : Nat} {sp : Sp} (c : CalF P w K mg base k x st ps sp) : C8.Cal P w K mg base k x sp [] := by
  obtain ⟨f, fd, F, hm, G, b⟩ := c
  exact ⟨⟨f, fd, ps, [], G, hm, F.kp, b, .nil⟩⟩
/-! ### _law_pen -/
theorem cut_ints (ns : List Int) : ∃ cs : List Int, cutV (ns.map V.int) none (some 63) = cs.map V.int ∧ cs.length ≤ 63 := by
  refine ⟨ns.take 63, ?_, by rw [List.length_take]; omega⟩
  unfold cutV
  rw [HT.sIx_none, show HT.sIx (ns.map V.int).length (ns.map V.int).length (some 63) = min 63 (ns.map V.int).length from HT.sIx_nat _ _ 63]
  rw [List.drop_zero, Nat.sub_zero, List.map_take, List.length_map]
  by_cases h : 63 ≤ ns.length
  · rw [Nat.min_eq_left h]
  · rw [Nat.min_eq_right (by omega), List.take_of_length_le (by rw [List.length_map]; omega), List.take_of_length_le (by rw [List.length_map]; omega)]
def spPen (K : PySem.W.Frag) : Sp := fun vs H Q _ => ∃ (s : Addr) (ns : List Int), vs = [.ref s] ∧ SqL K H s (ns.map V.int) ∧ ∀ (a : PA) H', Pen H' a 0 → Same H H' → Q (.ref a) H'
abbrev s_l_pen : Stmt := topS 45
abbrev N_l_pen : List Str := ["_law_script"]
abbrev P_l_pen : List Str := ["_law_script"]
theorem sc_l_pen : FnScope N_l_pen P_l_pen (defScope s_l_pen) := ⟨rfl, rfl, rfl, by decide +kernel, rfl, by decide +kernel, by decide +kernel⟩
theorem ok_l_pen (D : Df K mg "_law_pen" s_l_pen P_l_pen) (B : Bi mg) : C8.Cal P w K mg base 1 "_law_pen" (spPen K) [] := by
  refine cal_of D sc_l_pen (fun vs H Q E h => ?_) (fun f cdv A outer s H vs Q E hr h => ?_)
  · obtain ⟨a, ns, rfl, _⟩ := h
    rfl
  · obtain ⟨a, ns, rfl, hS, q⟩ := h
    refine ⟨_, (pss_one (ps_ret (pe_disp (pps_cons pe_str (pe_callTy (call_list_of) (by rfl) B.list_ bt_list (pa_cons (pe_slice sl_list (pv 0) po_none (po_some pe_int)) pa_nil)) (pps_cons pe_str pe_int (pps_cons pe_str pe_int pps_nil))) (by rfl) (by rfl) (fun z => by cases z) (by decide)))), ?_⟩
    refine fun p np => ?_
    have s1 : Same H (upd H p (.dK [])) := sm_upd np
    refine ⟨_, rfl, 63, rfl, a, _, rfl, s1.seq hS, fun c nc => ?_⟩
    obtain ⟨cs, ec, hc⟩ := cut_ints ns
    rw [ec]
    refine ⟨c, _, rfl, .inl (SqL.of upd_same), fun l nl => ?_⟩
    have ncp : p ≠ c := ne_of_none upd_same nc
    have nlc : c ≠ l := ne_of_none upd_same nl
    have nlp : p ≠ l := ne_of_none (by rw [upd_ne ncp]; exact upd_same) nl
    refine ⟨by rw [upd_ne nlp, upd_ne ncp, upd_same], penD l 0 0, rfl, by show 3 ≤ 15; decide, ?_⟩
    have e : mergeK [] (penD l 0 0) = penD l 0 0 := by
      simp [mergeK, penD, putK, sct, scr, str_]
    rw [e]
    refine q ⟨p, l⟩ _ ⟨cs, 0, 0, upd_same, ?_, hc, by omega, by omega, by omega⟩ ?_
    · show upd _ p _ l = _
      rw [upd_ne nlp.symm, upd_same]
    · intro b o eb
      have nb : b ≠ p := ne_of_none eb np
      have nb2 : b ≠ c := ne_of_none (s1 _ _ eb) nc
      have nb3 : b ≠ l := ne_of_none (sm_upd nc _ _ (s1 _ _ eb)) nl
      rw [upd_ne nb, upd_ne nb3, upd_ne nb2, upd_ne nb]
      exact eb
end
end Lf
namespace Lf
open PySem PySem.Spec PyProof.Rows L2
/-! ### a try that catches, and keeps the exception in a name -/
abbrev dead : Ends := { nx := fun _ _ => False, rt := fun _ _ => False }
/-- the wish: the clause's class; then the suite; then, with the exception known, what follows -/
def wKeep (K : PySem.W.Frag) (c : Value) (i : Nat) (ts : Addr → TS) (go : Addr → Value → Option Addr → L2.St → Hp → Prop) : WX := fun cls d σ H =>
  PySem.W.exmOne K cls c = some true ∧ ∀ a, H a = none → ts a { nx := fun σ' H' => go a cls d (σ'.set i none) H', rt := fun _ _ => False } (σ.set i (some (.ref a))) H
/-- slots are as many as names -/
theorem takes_len {X : Cx} {W : WX} (t : Takes X W) : Takes X (fun cls d σ H => σ.length = X.N.length → W cls d σ H) := fun u s' ⟨a, B, sI, pins, σ, H, cls, d, e, I, nb, up, sky, na, os, ag, ww⟩ =>
  t u s' ⟨a, B, sI, pins, σ, H, cls, d, e, I, nb, up, sky, na, os, ag, ww I.len⟩
section
variable {X : Cx} {pins : List (Addr × Obj)} {σ : L2.St} {H : Hp} {s : Shared}
/-- an exception's object, known from now on -/
theorem pin_in (J : Inv X pins σ H s) {a : Addr} {oe : Obj} {vs : Array Value} (ge : s.heap.get? a = some oe) (dt : oe.data = .fields vs) (na : H a = none) (n1 : a ≠ X.env.locals) (n2 : a ∉ X.fs) : Inv (X.tr ((a, oe) :: (X.pn ++ pins)) X.xe) [] σ H s := by
  refine ⟨J.ok.toTry _ _, J.os, J.bare, J.base, J.loc, J.cell, J.free, J.freeC, fun p hp => ?_, J.hok, J.len⟩
  rw [List.append_nil] at hp
  rcases List.mem_cons.mp hp with rfl | hp
  · refine ⟨ge, na, n1, n2, fun v z => ?_⟩
    have z : oe.data = .cell v := z
    rw [dt] at z
    cases z
  · exact J.pin p hp
theorem pin_out {a : Addr} {oe : Obj} {pn : List (Addr × Obj)} (ok : X.Ok) (J : Inv (X.tr ((a, oe) :: (X.pn ++ pins)) X.xe) pn σ H s) : Inv X pins σ H s :=
  ⟨ok, J.os, J.bare, J.base, J.loc, J.cell, J.free, J.freeC, fun p hp => J.pin p (List.mem_append.mpr (.inl (List.mem_cons_of_mem _ hp))), J.hok, J.len⟩
theorem out_suite {a : Addr} {oe : Obj} {pn : List (Addr × Obj)} (ok : X.Ok) (J : Inv (X.suite a ((a, oe) :: (X.pn ++ pins))) pn σ H s) : Inv (X.tr ((a, oe) :: (X.pn ++ pins)) X.xe) [] σ H s :=
  ⟨ok.toTry _ _, J.os, J.bare, J.base, J.loc, J.cell, J.free, J.freeC, fun p hp => J.pin p (List.mem_append.mpr (.inl (by rw [List.append_nil] at hp; exact hp))), J.hok, J.len⟩
end
section
variable {X : Cx} {x n : Str} {c : Value} {i : Nat} {body suite rest : List Stmt} {b0 : Stmt} {np po pq : Pos} {tb : WX → TS} {ts : Addr → TS} {tr : Addr → Value → Option Addr → TS}
theorem pss_keep (stk : X.stack = X.env :: X.outer) (fr : X.env.frame = some X.env.locals) (nd : X.N.Nodup) (ni : X.N[i]? = some n) (kn : X.env.kindOf n = some .local) (hc : Names X x c)
    (hb : ∀ (W : WX) (pn : List (Addr × Obj)) (xe : Value → Shared → Prop), Takes (X.tr pn xe) W → PSs (X.tr pn xe) body (tb W))
    (hsu : ∀ (a : Addr) (oe : Obj) (pn : List (Addr × Obj)), PSs (X.suite a ((a, oe) :: pn)) (b0 :: suite) (ts a))
    (hre : ∀ (a : Addr) (oe : Obj) (cls : Value) (d : Option Addr) (pn : List (Addr × Obj)), Zc cls d oe → (∃ vs, oe.data = .fields vs) → PSs (X.tr ((a, oe) :: pn) X.xe) rest (tr a cls d)) :
    PSs X (.Try body [.ExceptHandler (some (.Name x np)) (some n) (b0 :: suite) pq] [] [] po :: rest) (fun D σ H => tb (wKeep X.K c i ts (fun a cls d σ' H' => tr a cls d D σ' H')) dead σ H) := by
  refine ⟨fun pins s σ H D I h => wpAny_execs_cons (wpAny_Try_except ?_)⟩
  have ok := I.ok
  have frm : X.A.frames = some (X.env :: X.outer) := by rw [ok.frames, stk]
  refine wpAny_mono ((hb (wKeep X.K c i ts (fun a cls d σ' H' => tr a cls d D σ' H')) (X.pn ++ pins) _ (fun u s' air => ?_)).run [] s σ H dead (I.toTry _) h) (fun f s1 z => ?_) (fun e s1 he => he)
  · obtain ⟨a, B, sI, pins', σ1, H1, cls, d, rfl, J0, nb, up, sky, na, os, ag, em, go⟩ := air
    have J : Inv X pins σ1 H1 sI := J0.ofTry ok
    rw [stk] at sky
    refine Sky.land Zc.steady frm fr sky fun h3 f3 u3 => ?_
    have J3 : Inv X pins σ1 H1 { s' with heap := h3 } := J.landed nb f3.1 (up.trans u3) os ag
    obtain ⟨o3, v3, g3, z3, d3⟩ := f3.there
    have nf : a ∉ frs (X.env :: X.outer) := fun hm => by
      obtain ⟨_, o', e', hn⟩ := f3.2.2.1.mem hm
      rw [g3] at e'
      cases e'
      exact hn _ d3
    have n1 : a ≠ X.env.locals := fun z => nf (List.mem_filterMap.mpr ⟨X.env, List.mem_cons_self, by rw [fr, z]⟩)
    have n2 : a ∉ X.fs := fun hm => by
      obtain ⟨e, he, q⟩ := List.mem_filterMap.mp hm
      exact nf (List.mem_filterMap.mpr ⟨e, List.mem_cons_of_mem _ he, q⟩)
    have S3 := J3.suite g3 d3 na n1 n2
    refine wpAny_handleBy_cons (codeAny_handlers_test ?_) (by intro q; cases q)
    have lt : PySem.W.Looks (model X.prog X.w) h3 (typeOf (.ref a)) cls := fun A Q E s k q => wpAny_typeOf_ref (k _ _ g3) (by rw [z3.1]; exact q)
    have lm := PySem.W.exm_one (M := model X.prog X.w) J3.kIn lt em
    have seen : ∀ {Q : Value → Shared → Prop} {E : Value → Shared → Prop}, Q c { s' with heap := h3 } → wpAny (model X.prog X.w) (X.A.mark (some (.ref a))) (eval (.Name x np) X.env) Q E { s' with heap := h3 } := fun {Q E} q => by
      obtain ⟨hg, hd, hm | ⟨hm, hv, hw⟩⟩ := hc
      · exact ld_glob S3 hg hm q hd
      · exact ld_blt S3 hg hm hv q hw hd
    refine seen (lm.here (codeAny_handlers_suite_as (HandSPX.lands_againZ f3 fun h4 f4 u4 => ?_)))
    have J4 : Inv X pins σ1 H1 { s' with heap := h4 } := J.landed nb f4.1 ((up.trans u3).trans u4) os ag
    obtain ⟨o4, v4, g4, z4, d4⟩ := f4.there
    have S4 := J4.suite g4 d4 na n1 n2
    refine store_ok (X := X.suite a ((a, o4) :: (X.pn ++ pins))) (v := .ref a) S4 nd ni (.inl kn) rfl (fun s5 S5 => ?_) (.inr kn)
    refine wpAny_mono ((hsu a o4 (X.pn ++ pins)).run [] s5 _ H1 _ S5 (go a na)) (fun f s6 q => ?_) (fun _ _ z => False.elim z)
    cases f with
    | next =>
      obtain ⟨σ6, H6, S6, q6⟩ := q
      refine gone_ok (X := X.tr ((a, o4) :: (X.pn ++ pins)) X.xe) (out_suite ok S6) nd ni kn fun s7 J7 => ?_
      refine wpAny_mono ((hre a o4 cls d (X.pn ++ pins) z4 ⟨_, d4⟩).run [] s7 _ H6 D J7 q6) (fun f s8 r => ?_) (fun _ _ z => z)
      cases f with
      | next =>
        obtain ⟨σ8, H8, J8, q8⟩ := r
        exact ⟨σ8, H8, pin_out ok J8, q8⟩
      | brk =>
        obtain ⟨σ8, H8, J8, q8⟩ := r
        exact ⟨σ8, H8, pin_out ok J8, q8⟩
      | cont =>
        obtain ⟨σ8, H8, J8, q8⟩ := r
        exact ⟨σ8, H8, pin_out ok J8, q8⟩
      | ret u =>
        obtain ⟨v8, σ8, H8, J8, r8, q8⟩ := r
        exact ⟨v8, σ8, H8, pin_out ok J8, r8, q8⟩
    | brk =>
      obtain ⟨_, _, _, q6⟩ := q
      exact False.elim q6
    | cont =>
      obtain ⟨_, _, _, q6⟩ := q
      exact False.elim q6
    | ret u =>
      obtain ⟨_, _, _, _, _, q6⟩ := q
      exact False.elim q6
  · cases f with
    | next =>
      obtain ⟨_, _, _, q6⟩ := z
      exact False.elim q6
    | brk =>
      obtain ⟨_, _, _, q6⟩ := z
      exact False.elim q6
    | cont =>
      obtain ⟨_, _, _, q6⟩ := z
      exact False.elim q6
    | ret u =>
      obtain ⟨_, _, _, _, _, q6⟩ := z
      exact False.elim q6
end
/-! ### isinstance of a known exception -/
/-- by one class, or by a tuple of classes -/
def rIsK (K : PySem.W.Frag) (D a : Addr) : List V → Hp → VK → Prop := fun xs H Q => ∃ (y : V) (b : Bool), xs = [.ref a, y] ∧ Q (.bl b) H ∧
  ((∃ cv, (∀ u, RelV y u → u = cv) ∧ PySem.W.kitOne K (.ref D) cv = some b) ∨ ∃ (tp : Addr) (cs : List Addr), y = .ref tp ∧ SqT K H tp (cs.map V.ref) ∧ PySem.W.kitAny K (.ref D) (cs.map Value.ref) = some b)
theorem vals_refs : ∀ {cs : List Addr} {us : List Value}, Vals (cs.map V.ref) us → us = cs.map Value.ref
  | [], _, r => by cases r; rfl
  | c :: cs, _, r => by
    cases r with
    | cons r1 r2 =>
      rw [vals_refs r2]
      cases r1
      rfl
theorem call_isK {X : Cx} {a D : Addr} {oe : Obj} {pn : List (Addr × Obj)} {xe : Value → Shared → Prop} (C : ExcC X.K D) (hz : Zc (.ref D) none oe) (hf : ∃ vs, oe.data = .fields vs) : CallR (X.tr ((a, oe) :: pn) xe) (.builtin "isinstance") (rIsK X.K D a) := by
  intro pins s σ H xs us Q I r h
  obtain ⟨y, b, rfl, q, h⟩ := h
  cases r with
  | cons rx rr =>
    cases rr with
    | cons rt rr =>
      cases rr
      cases rx
      obtain ⟨ge, _⟩ := I.pin (a, oe) (List.mem_append.mpr (.inl List.mem_cons_self))
      obtain ⟨vs, hv⟩ := hf
      have J : PySem.W.InstAt s.heap a oe D none := by
        obtain ⟨oc, od, oda, osl⟩ := oe
        obtain ⟨h1, h2⟩ := hz
        dsimp only at h1 h2 hv
        subst h1 h2 hv
        exact ⟨ge, rfl, rfl, trivial⟩
      have kx := PySem.W.handS_kitx_exc (x := a) (ox := oe) C.hg C.hk C.hs C.hd C.ha C.hn C.ht C.hm
      rcases h with ⟨cv, hcv, e⟩ | ⟨tp, cs, rfl, hT, e⟩
      · have ec := hcv _ rt
        subst ec
        exact PySem.W.kia_one kx I.kIn J e (fun z => nomatch z) fun tk => ⟨.bl b, H, I.kept (t' := tk) fun _ _ z => z, rfl, q⟩
      · obtain ⟨its, rv, ⟨o, e1, e2, nn, e3⟩, _⟩ := I.tuple hT
        have ei := vals_refs rv
        subst ei
        cases rt
        obtain ⟨oc, od, oda, osl⟩ := o
        dsimp only at e2 e3
        subst e2 e3
        exact PySem.W.kia_tup kx I.kIn J e1 e (fun z => nomatch z) fun tk => ⟨.bl b, H, I.kept (t' := tk) fun _ _ z => z, rfl, q⟩
/-! ### an own exception without arguments, made -/
theorem pmk_none {X : Cx} {C : Addr} {bmB : List Value} {B newId initId : String} {x : Str} {p po : Pos} (F : ExcBaseFacts B newId initId bmB) (q : PySem.W.excIn X.K C bmB newId = true) (gC : X.mg x = some (.ref C)) (kC : PySem.W.keepIn X.K (.ref C) = true) (r : Raises X (.ref C)) (hg : Gl X x)
    (hdb : (x == ("__debug__" : Str)) = false := by decide) : PMk X (.Call (.Name x p) [] [] po) (fun _ H Q => Q (.ref C) none H) := by
  intro pins s σ H Q I h
  refine wpAny_Call_Name_kw (ld_glob I hg gC ?_ hdb)
  refine PySem.W.callWith_K0 I.kIn kC ?_
  show wpAny _ _ (call (.ref C) []) _ _ _
  obtain ⟨bm, N, nm, qn, bs, hdct, sn, sub, ab, col, dd, k0, k1, k2, k3, k5, mN, hC, hN, hni, T⟩ := exc_obj I.kIn q
  refine wpAny_call_exc_subT F T hC hN hni (fun h' e hm => ?_) (by show 0 ≤ sizeLine; omega)
  exact mk_of I hm r h (I.hok.gone hm.new)
/-! ### what the top tells of the class NoEvents, at C, and of the classes beside it -/
structure NoEv (K : PySem.W.Frag) (mg : Str → Option Value) (C : Addr) : Prop where
  gC : mg "NoEvents" = some (.ref C)
  kC : PySem.W.keepIn K (.ref C) = true
  xi : PySem.W.excIn K C [.type "ValueError", .type "Exception", .type "BaseException", .type "object"] "ValueError.__new__" = true
  ex : ExcC K C
  ty : PySem.W.typeIn K (.ref C) = some (.type "type")
  sf : PySem.W.subIn K (.ref C) (.ref C) = some true
structure NoEvB (K : PySem.W.Frag) (mg : Str → Option Value) (C L N R E I : Addr) : Prop where
  gL : mg "LeapfitError" = some (.ref L)
  gN : mg "InvalidNumber" = some (.ref N)
  gR : mg "InvalidRule" = some (.ref R)
  gE : mg "NoRule" = some (.ref E)
  gI : mg "InvalidCounts" = some (.ref I)
  bV : mg "ValueError" = none
  oL : PySem.W.kitOne K (.ref C) (.ref L) = some true
  oV : PySem.W.kitOne K (.ref C) (.type "ValueError") = some true
  oN : PySem.W.kitAny K (.ref C) [.ref N, .ref R, .ref E, .ref I] = some false
theorem NoEv.raises {X : Cx} {C : Addr} (T : NoEv X.K X.mg C) : Raises X (.ref C) := raises_own T.ex.hs T.ty
theorem NoEv.meets {K : PySem.W.Frag} {mg : Str → Option Value} {C : Addr} (T : NoEv K mg C) : PySem.W.exmOne K (.ref C) (.ref C) = some true := PySem.W.exm_ref T.ex.hs T.ex.hd T.ty T.sf
/-- a def that raises, by its name -/
def CalX (P : Program) (w : World) (K : PySem.W.Frag) (mg : Str → Option Value) (base : Heap) (k : Nat) (x : Str) (sp : Sp) : Prop :=
  ∃ f fd ps, FnOk P w K mg base (L2.CX P w) k f fd ps sp ∧ mg x = some (.ref f) ∧ PySem.W.keepIn K (.ref f) = true ∧ Binds K fd ps []
theorem calx_of {P : Program} {w : World} {K : PySem.W.Frag} {mg : Str → Option Value} {base : Heap} {x : Str} {st : Stmt} {N ps : List Str} {k : Nat} {sp : Sp} (D : Df K mg x st ps) (S : FnScope N ps (defScope st)) (len : ∀ vs H Q E, sp vs H Q E → vs.length = ps.length)
    (hb : ∀ (f : Addr) (cdv : Value) (A : Around) (outer : List Env) (s : Shared) (H : Hp) (vs : List V) (Q : VK) (E : XK), Room k (A.deeper (envOfC x (defScope st) s.heap.objs.size f cdv)) → sp vs H Q E →
      ∃ t, PSs (cxOf (L2.CX P w) P w K mg base N x (defScope st) f cdv A outer s H E) (defBody st) t ∧ t { nx := fun _ H' => Q .non H', rt := Q } (start N vs) H) : CalX P w K mg base (k + 1) x sp := by
  obtain ⟨f, fd, F, hm, b⟩ := D
  exact ⟨f, fd, ps, F.okX S len (fun cdv A outer s H vs Q E hr h => hb f cdv A outer s H vs Q E hr h), hm, F.kp, b⟩
section
variable {X : Cx} {x : Str} {sp : Sp} {W : WX} {j k : Nat} {e : Expr} {es : List Expr} {t : TA} {p po : Pos}
/-- it is called where what it raises is taken -/
theorem pe_cx (c : CalX X.prog X.w X.K X.mg X.base k x sp) (hr : Room j X.A) (hk : k ≤ j) (tk : Takes X W) (hg : Gl X x) (ha : L2.PA X (e :: es) t)
    (hdb : (x == ("__debug__" : Str)) = false := by decide) (he : starEach (e :: es) X.env = (false, eval e X.env) :: starEach es X.env := by rfl) (hpl : (backTo po (starEach es X.env)).any (·.1) = false := by rfl) :
    PE X (.Call (.Name x p) (e :: es) [] po) (tCallS sp (WE W) t) := by
  obtain ⟨f, fd, ps, F, hm, kp, b⟩ := c
  exact pe_callS F (hr.mono hk) hg hm kp b (fun σ => passAt tk σ) ha hdb he hpl
end
end Lf
namespace Lf
open PySem PySem.Spec PyProof.Rows L2
section
variable {P : Program} {w : World} {K : PySem.W.Frag} {mg : Str → Option Value} {base : Heap}
/-! ### _law_draw -/
theorem at_mod (cs : List Int) (t : Int) (h : cs ≠ []) : ∃ c, atI (cs.map V.int) (t % ((cs.map V.int).length : Int)) = some (.int c) := by
  have hl : 0 < cs.length := List.length_pos_iff.mpr h
  rw [List.length_map]
  have h0 := Int.emod_nonneg t (show (cs.length : Int) ≠ 0 by omega)
  have h1 := Int.emod_lt_of_pos t (show (0 : Int) < cs.length by omega)
  generalize t % (cs.length : Int) = i at h0 h1
  obtain ⟨j, rfl⟩ := Int.eq_ofNat_of_zero_le h0
  have hj : j < cs.length := by omega
  refine ⟨cs[j], atI_nat ?_⟩
  rw [List.getElem?_map, List.getElem?_eq_getElem hj]
  rfl
theorem dp_ints {K : PySem.W.Frag} {H : Hp} : ∀ cs : List Int, DpAll K H (cs.map V.int) (cs.map PyData.int)
  | [] => .nil
  | c :: r => .cons (.int c) (dp_ints r)
theorem sh_ints (cs : List Int) : SeqAt.shaped (.list (cs.map PyData.int)) = true := by
  have h : ∀ cs : List Int, PyData.canLayAll0 (cs.map PyData.int) = true ∧ PyData.depthAll (cs.map PyData.int) = 0 := by
    intro cs
    induction cs with
    | nil => exact ⟨rfl, rfl⟩
    | cons c r ih => exact ⟨by simpa [PyData.canLayAll0, PyData.canLay0] using ih.1, by simpa [PyData.depthAll, PyData.depth] using ih.2⟩
  simp [SeqAt.shaped, PyData.canLay0, PyData.depth, (h cs).1, (h cs).2]
def spDraw : Sp := fun vs H Q _ => ∃ (a : PA) (n : Nat) (many : Int), vs = [.ref a, .int many] ∧ Pen H a n ∧ n < 2 ^ 40 ∧ 0 < many ∧ Bd 9000 many ∧
  ∀ d H', 0 ≤ d → d < many → Pen H' a (n + 1) → Fr H H' → Q (.int d) H'
end
end Lf
namespace Lf
open PySem PySem.Spec PyProof.Rows L2
section
variable {P : Program} {w : World} {K : PySem.W.Frag} {mg : Str → Option Value} {base : Heap}
theorem at_primes (t : Int) : ∃ pr : Int, atI ([.int 2147483647, .int 2147483629, .int 2147483587, .int 2147483579, .int 2147483563] : List V) (t % 5) = some (V.int pr) ∧ 0 < pr ∧ pr < 2147483648 := by
  have h0 := Int.emod_nonneg t (show (5 : Int) ≠ 0 by decide)
  have h1 := Int.emod_lt_of_pos t (show (0 : Int) < 5 by decide)
  generalize t % 5 = i at h0 h1
  obtain ⟨j, rfl⟩ := Int.eq_ofNat_of_zero_le h0
  have hj : j < 5 := by omega
  match j, hj with
  | 0, _ => exact ⟨_, atI_nat (j := 0) rfl, by decide, by decide⟩
  | 1, _ => exact ⟨_, atI_nat (j := 1) rfl, by decide, by decide⟩
  | 2, _ => exact ⟨_, atI_nat (j := 2) rfl, by decide, by decide⟩
  | 3, _ => exact ⟨_, atI_nat (j := 3) rfl, by decide, by decide⟩
  | 4, _ => exact ⟨_, atI_nat (j := 4) rfl, by decide, by decide⟩
abbrev s_l_draw : Stmt := topS 46
abbrev N_l_draw : List Str := ["_law_pen_here", "_law_many", "_law_digit", "_law_turn", "_law_cell", "_law_primes", "_law_prime", "_law_drawn"]
abbrev P_l_draw : List Str := ["_law_pen_here", "_law_many"]
theorem sc_l_draw : FnScope N_l_draw P_l_draw (defScope s_l_draw) := ⟨rfl, rfl, rfl, by decide +kernel, rfl, by decide +kernel, by decide +kernel⟩
theorem ok_l_draw (D : Df K mg "_law_draw" s_l_draw P_l_draw) (B : Bi mg) : C8.Cal P w K mg base 1 "_law_draw" spDraw [] := by
  refine cal_of D sc_l_draw (fun vs H Q E h => ?_) (fun f cdv A outer s H vs Q E hr h => ?_)
  · obtain ⟨a, n, many, rfl, _⟩ := h
    rfl
  · obtain ⟨⟨a, l⟩, n, many, rfl, hP, hn, h0, hb, q⟩ := h
    have hu := hu_of hr
    have hd : CDivW 0 many := ⟨h0, hb.log (by decide)⟩
    obtain ⟨cs, t, r, ea, el, hl, ht0, htn, hr0⟩ := hP.ex
    have ea : H a = some (.dK (penD l t r)) := ea
    have el : H l = some (.lst (cs.map V.int)) := el
    refine ⟨_, (pss_cons (ps_if (pt_cmpR op_gt (pe_dget hu (pv 0) pe_str (fun _ _ => rfl)) pe_int (nomark _))
      (pss_cons (ps_set (i := 2) sc_l_draw.nd rfl (Or.inl rfl) (pe_op op_mod (pe_dget hu (pv 0) pe_str (fun _ _ => rfl)) (pv 1)))
    (pss_cons (ps_dput hu (pv 0) pe_str (pe_op op_fdivW (pe_dget hu (pv 0) pe_str (fun _ _ => rfl)) (pv 1)) rfl)
    (pss_one (ps_ret (pv 2)))))
      pss_nil)
    (pss_cons (ps_set (i := 3) sc_l_draw.nd rfl (Or.inl rfl) (pe_dget hu (pv 0) pe_str (fun _ _ => rfl)))
    (pss_cons (ps_dput hu (pv 0) pe_str (pe_op op_add (pv 3) pe_int) rfl)
    (pss_cons (ps_set (i := 4) sc_l_draw.nd rfl (Or.inl rfl) (pe_op op_add (pe_op op_mul pe_int (pv 3)) pe_int))
    (C8.pss_cut (ps_if (pt_cmpR (op_neD hr.units) (pe_dget hu (pv 0) pe_str (fun _ _ => rfl)) (pe_lst pa_nil) (nomark _))
      (pss_one (ps_set (i := 4) sc_l_draw.nd rfl (Or.inl rfl) (pe_ix (r := rIxL K) ix_list (pe_dget hu (pv 0) pe_str (fun _ _ => rfl)) (pe_op op_mod (pv 3) (pe_callB (call_len_seq) (by rfl) B.len_ bt_len (pa_cons (pe_dget hu (pv 0) pe_str (fun _ _ => rfl)) pa_nil))) (fun _ _ => rfl))))
      pss_nil)
    (C8.pss_cut (ps_if (PW.pt (pw_and (pt_cmpR op_lt (pv 3) (pe_callB (call_len_seq) (by rfl) B.len_ bt_len (pa_cons (pe_dget hu (pv 0) pe_str (fun _ _ => rfl)) pa_nil)) (nomark _)) (pw_and1 (pt_cmpR op_ge (pe_callB (call_abs) (by rfl) B.abs_ bt_abs (pa_cons (pv 4) pa_nil)) (pe_op op_pow pe_int pe_int) (nomark _)))))
      (pss_cons (ps_dput hu (pv 0) pe_str (pe_op op_fdivW (pe_op op_sub (pe_callB (call_abs) (by rfl) B.abs_ bt_abs (pa_cons (pv 4) pa_nil)) (pe_op op_pow pe_int pe_int)) (pv 1)) rfl)
    (pss_one (ps_ret (pe_op op_mod (pe_op op_sub (pe_callB (call_abs) (by rfl) B.abs_ bt_abs (pa_cons (pv 4) pa_nil)) (pe_op op_pow pe_int pe_int)) (pv 1)))))
      pss_nil)
    (pss_cons (ps_set (i := 5) sc_l_draw.nd rfl (Or.inl rfl) (pe_lst (pa_cons pe_int (pa_cons pe_int (pa_cons pe_int (pa_cons pe_int (pa_cons pe_int pa_nil)))))))
    (pss_cons (ps_set (i := 6) sc_l_draw.nd rfl (Or.inl rfl) (pe_ix (r := rIxL K) ix_list (pv 5) (pe_op op_mod (pv 3) pe_int) (fun _ _ => rfl)))
    (pss_cons (ps_set (i := 7) sc_l_draw.nd rfl (Or.inl rfl) (pe_op op_mod (pe_op op_add (pe_op op_add (pe_op op_mul (pe_op op_mod (pv 4) (pv 6)) pe_int) (pe_op op_mul (pe_op op_mul pe_int (pv 3)) (pv 3))) pe_int) (pv 6)))
    (pss_cons (ps_set (i := 7) sc_l_draw.nd rfl (Or.inl rfl) (pe_op op_mod (pe_op op_mul (pv 7) (pe_op op_add (pv 7) pe_int)) (pe_ix (r := rIxL K) ix_list (pv 5) (pe_op op_mod (pe_op op_add (pv 3) pe_int) pe_int) (fun _ _ => rfl))))
    (pss_one (ps_ret (pe_op op_mod (pe_op op_fdiv (pe_op op_mod (pe_op op_mul (pv 7) (pv 7)) pe_int) pe_int) (pv 1)))))))))))))), ?_⟩
    -- rest > 0
    refine ⟨_, rfl, a, _, rfl, dg_rest ea, _, _, rfl, rfl, _, rfl, ite2 (fun e => ?_) (fun e => ?_)⟩
    · refine ⟨_, rfl, a, _, rfl, dg_rest ea, _, rfl, _, _, rfl, rfl, h0, ?_⟩
      refine ⟨_, rfl, a, _, rfl, dg_rest ea, _, rfl, _, _, rfl, rfl, hd, _, rfl, a, _, rfl, dp_rest ea, ?_⟩
      refine ⟨_, rfl, ?_⟩
      exact q _ _ (Int.emod_nonneg _ (by omega)) (Int.emod_lt_of_pos _ h0) (Pen.put ea el hl ht0 (by omega) (Int.ediv_nonneg hr0 (by omega))) (Fr.dict ea)
    · -- turn = ..; turn + 1; 43 * turn + 19
      refine ⟨_, rfl, a, _, rfl, dg_turn ea, ?_⟩
      refine ⟨_, rfl, _, _, rfl, rfl, _, rfl, a, _, rfl, dp_turn ea, ?_⟩
      have ea1 : upd H a (.dK (penD l (t + 1) r)) a = some (.dK (penD l (t + 1) r)) := upd_same
      have nla : l ≠ a := ne_of el ea (by intro z; cases z)
      have el1 : upd H a (.dK (penD l (t + 1) r)) l = some (.lst (cs.map V.int)) := by rw [upd_ne nla]; exact el
      have f1 : Fr H (upd H a (.dK (penD l (t + 1) r))) := Fr.dict ea
      generalize upd H a (.dK (penD l (t + 1) r)) = H1 at ea1 el1 f1
      refine ⟨_, rfl, _, _, rfl, rfl, .inl ⟨by decide, by decide⟩, _, _, rfl, rfl, ?_⟩
      refine ⟨fun σ' H' => ∃ c : Int, σ' = [some (.ref a), some (.int many), none, some (.int t), some (.int c), none, none, none] ∧ Same H1 H', ?_, ?_⟩
      · refine ⟨_, rfl, a, _, rfl, dg_cells ea1, Nat.zero_le _, fun p np => ?_⟩
        have s1 : Same H1 (upd H1 p (.lst [])) := sm_upd np
        refine ⟨.list (cs.map PyData.int), .list [], Dp.lst (SqL.of (s1 _ _ el1)) (dp_ints cs), Dp.lst (SqL.of upd_same) .nil, sh_ints cs, rfl, _, rfl, ?_⟩
        by_cases hc : cs = []
        · subst hc
          refine iteF ?_
          exact ⟨_, rfl, s1⟩
        · obtain ⟨c, r', rfl⟩ : ∃ c r', cs = c :: r' := by
            cases cs with
            | nil => exact absurd rfl hc
            | cons c r' => exact ⟨c, r', rfl⟩
          refine iteT ?_
          obtain ⟨v, hv⟩ := at_mod (c :: r') t hc
          refine ⟨_, rfl, a, _, rfl, dg_cells (s1 _ _ ea1), _, rfl, _, rfl, a, _, rfl, dg_cells (s1 _ _ ea1), l, _, rfl, .inl (SqL.of (s1 _ _ el1)), _, _, rfl, rfl, ?_, l, _, _, _, rfl, rfl, SqL.of (s1 _ _ el1), hv, ?_⟩
          · show (0 : Int) < (((c :: r').map V.int).length : Int)
            rw [List.length_map, List.length_cons]
            omega
          · exact ⟨v, rfl, s1⟩
      · rintro σ' H2 ⟨c, rfl, s2⟩
        have ea2 := s2 _ _ ea1
        have el2 := s2 _ _ el1
        have f2 : Fr H H2 := f1.trans (Fr.same s2)
        refine ⟨fun σ' H' => σ' = [some (.ref a), some (.int many), none, some (.int t), some (.int c), none, none, none] ∧ H' = H2, ?_, ?_⟩
        · refine ⟨_, rfl, _, rfl, a, _, rfl, dg_cells ea2, l, _, rfl, .inl (SqL.of el2), _, _, rfl, rfl, _, rfl, ite2 (fun e1 => ?_) (fun e1 => ?_)⟩
          · refine ⟨_, rfl, _, rfl, _, _, rfl, rfl, ⟨by decide, by decide, by decide⟩, _, _, rfl, rfl, _, rfl, ite2 (fun e2 => ?_) (fun e2 => ?_)⟩
            · have e3 := of_decide_eq_true e2
              refine ⟨_, rfl, _, rfl, _, _, rfl, rfl, ⟨by decide, by decide, by decide⟩, _, _, rfl, rfl, _, rfl, _, _, rfl, rfl, hd, _, rfl, a, _, rfl, dp_rest ea2, ?_⟩
              refine ⟨_, rfl, _, rfl, _, _, rfl, rfl, ⟨by decide, by decide, by decide⟩, _, _, rfl, rfl, _, rfl, _, _, rfl, rfl, h0, ?_⟩
              exact q _ _ (Int.emod_nonneg _ (by omega)) (Int.emod_lt_of_pos _ h0) (Pen.put ea2 el2 hl (by omega) (by omega) (Int.ediv_nonneg (by omega) (by omega))) (f2.trans (Fr.dict ea2))
            · exact ⟨rfl, rfl⟩
          · exact iteF ⟨rfl, rfl⟩
        · rintro σ' H' ⟨rfl, rfl⟩
          refine ⟨by show 5 ≤ sizeLine; exact Nat.le_of_lt (small1000 (by decide)), fun p np => ?_⟩
          have s3 := sm_upd (o := .lst [.int 2147483647, .int 2147483629, .int 2147483587, .int 2147483579, .int 2147483563]) np
          obtain ⟨pr, hp, hp0, hp1⟩ := at_primes t
          obtain ⟨pr2, hp2, hp20, hp21⟩ := at_primes (t + 2)
          refine ⟨_, rfl, _, rfl, _, _, rfl, rfl, (by show (0 : Int) < 5; decide), p, _, _, _, rfl, rfl, SqL.of upd_same, hp, ?_⟩
          refine ⟨_, rfl, _, rfl, _, _, rfl, rfl, hp0, _, _, rfl, rfl, .inr ⟨by decide, by decide⟩, _, rfl, _, _, rfl, rfl, .inl ⟨by decide, by decide⟩, _, rfl, _, _, rfl, rfl, .inr ⟨by omega, by omega⟩, _, _, rfl, rfl, _, _, rfl, rfl, _, rfl, _, _, rfl, rfl, hp0, ?_⟩
          have d0 := Int.emod_nonneg (c % pr * 48271 + 40609 * t * t + 23) (show pr ≠ 0 by omega)
          have d1 := Int.emod_lt_of_pos (c % pr * 48271 + 40609 * t * t + 23) hp0
          refine ⟨_, rfl, _, rfl, _, _, rfl, rfl, _, _, rfl, rfl, .inl ⟨by omega, by omega⟩, _, rfl, _, rfl, _, _, rfl, rfl, _, _, rfl, rfl, (by show (0 : Int) < 5; decide), p, _, _, _, rfl, rfl, SqL.of upd_same, hp2, _, _, rfl, rfl, hp20, ?_⟩
          have d20 := Int.emod_nonneg ((c % pr * 48271 + 40609 * t * t + 23) % pr * ((c % pr * 48271 + 40609 * t * t + 23) % pr + 69621)) (show pr2 ≠ 0 by omega)
          have d21 := Int.emod_lt_of_pos ((c % pr * 48271 + 40609 * t * t + 23) % pr * ((c % pr * 48271 + 40609 * t * t + 23) % pr + 69621)) hp20
          refine ⟨_, rfl, _, rfl, _, _, rfl, rfl, .inl ⟨by omega, by omega⟩, _, _, rfl, rfl, (by show (0 : Int) < 2147483549; decide), _, _, rfl, rfl, ⟨by decide, by decide⟩, _, rfl, _, _, rfl, rfl, h0, ?_⟩
          have hP2 : Pen H' ⟨a, l⟩ (n + 1) := ⟨cs, t + 1, r, ea2, el2, hl, by omega, by omega, hr0⟩
          exact q _ _ (Int.emod_nonneg _ (by omega)) (Int.emod_lt_of_pos _ h0) (hP2.new np) (f2.trans (Fr.new np))
end
end Lf
namespace Lf
open PySem PySem.Spec PyProof.Rows L2
section
variable {P : Program} {w : World} {K : PySem.W.Frag} {mg : Str → Option Value} {base : Heap}
/-! ### _law_pick -/
def spPick : Sp := fun vs H Q _ => ∃ (a : PA) (l : Addr) (n : Nat) (xs : List V), vs = [.ref a, .ref l] ∧ Pen H a n ∧ n < 2 ^ 40 ∧ H l = some (.lst xs) ∧ xs ≠ [] ∧ xs.length ≤ 1000 ∧
  ∀ x H', x ∈ xs → Pen H' a (n + 1) → Fr H H' → Q x H'
abbrev s_l_pick : Stmt := topS 47
abbrev N_l_pick : List Str := ["_law_pen_here", "_law_options"]
abbrev P_l_pick : List Str := ["_law_pen_here", "_law_options"]
theorem sc_l_pick : FnScope N_l_pick P_l_pick (defScope s_l_pick) := ⟨rfl, rfl, rfl, by decide +kernel, rfl, by decide +kernel, by decide +kernel⟩
theorem ok_l_pick (D : Df K mg "_law_pick" s_l_pick P_l_pick) (B : Bi mg) (c_l_draw : C8.Cal P w K mg base 1 "_law_draw" spDraw []) : C8.Cal P w K mg base 2 "_law_pick" spPick [] := by
  refine cal_of D sc_l_pick (fun vs H Q E h => ?_) (fun f cdv A outer s H vs Q E hr h => ?_)
  · obtain ⟨a, l, n, xs, rfl, _⟩ := h
    rfl
  · obtain ⟨a, l, n, xs, rfl, hP, hn, el, hx, hxl, q⟩ := h
    have hu := hu_of hr
    refine ⟨_, (pss_one (ps_ret (pe_ix (r := rIxL K) ix_list (pv 1) (C8.pe_c c_l_draw hr (by decide) (by rfl) (pa_cons (pv 0) (pa_cons (pe_callB (call_len_seq) (by rfl) B.len_ bt_len (pa_cons (pv 1) pa_nil)) pa_nil))) (fun _ _ => rfl)))), ?_⟩
    have hl : 0 < xs.length := List.length_pos_iff.mpr hx
    refine ⟨_, rfl, _, rfl, _, rfl, l, _, rfl, .inl (SqL.of el), a, n, _, rfl, hP, hn, by omega, Bd.small 20 (by omega) (by decide), fun d H' d0 d1 hP' f' => ?_⟩
    obtain ⟨j, rfl⟩ := Int.eq_ofNat_of_zero_le d0
    have hj : j < xs.length := by omega
    refine ⟨l, _, _, _, rfl, rfl, SqL.of (f'.l _ _ el), atI_nat (List.getElem?_eq_getElem hj), ?_⟩
    exact q _ _ (List.getElem_mem hj) hP' f'
end
end Lf
namespace Lf
open PySem PySem.Spec PyProof.Rows L2
theorem Bd.grow {k : Nat} {r d : Int} (h0 : 0 ≤ r) (h : Bd k r) (d0 : 0 ≤ d) (d1 : d < 10 ^ 6) : Bd (k + 20) (r * 10 ^ 6 + d) := by
  unfold Bd at *
  have e : (2 : Nat) ^ (k + 20) = 2 ^ k * 1048576 := by rw [Nat.pow_add]
  rw [e]
  generalize (2 : Nat) ^ k = m at h
  omega
/-- a rule, its numbers within k bits -/
structure RuleB (k : Nat) (p q c : Int) : Prop where
  p0 : 0 ≤ p
  q1 : 1 ≤ q
  g : Int.gcd p q = 1
  bp : Bd k p
  bq : Bd k q
  bc : Bd k c
theorem RuleB.mono {k j : Nat} {p q c : Int} (h : RuleB k p q c) (e : k ≤ j) : RuleB j p q c := ⟨h.p0, h.q1, h.g, h.bp.mono e, h.bq.mono e, h.bc.mono e⟩
theorem gcd_pos {p q : Int} (h : 1 ≤ q) : 0 < (Int.gcd p q : Int) := by
  have : 0 < Int.gcd p q := Int.gcd_pos_of_ne_zero_right _ (by omega)
  omega
theorem gcd_le {p q : Int} (h : 1 ≤ q) : (Int.gcd p q : Int) ≤ q := Int.le_of_dvd (by omega) (Int.gcd_dvd_right ..)
theorem low_rule {k : Nat} {p q c : Int} (h0 : 0 ≤ p) (h1 : 1 ≤ q) (bp : Bd k p) (bq : Bd k q) (bc : Bd k c) : RuleB k (p / (Int.gcd p q : Int)) (q / (Int.gcd p q : Int)) (c / (Int.gcd p q : Int)) := by
  have hg := gcd_pos (p := p) h1
  refine ⟨Int.ediv_nonneg h0 (by omega), ?_, ?_, bp.ediv hg, bq.ediv hg, bc.ediv hg⟩
  · exact Int.le_ediv_of_mul_le hg (by rw [Int.one_mul]; exact gcd_le h1)
  · have : 0 < Int.gcd p q := by omega
    exact Int.gcd_ediv_gcd_ediv_gcd this
/-- a new rule stands at r -/
abbrev tup3 (p q c : Int) : HO := .tup [.int p, .int q, .int c]
theorem low_rule' {k : Nat} {p q c : Int} (h0 : 0 ≤ p) (h1 : 1 ≤ q) (bp : Bd k p) (bq : Bd k q) (bc : Bd k c) : RuleB k (p / gg p q) (q / gg p q) (c / gg p q) := low_rule h0 h1 bp bq bc
theorem low_le {p q : Int} (h1 : 1 ≤ q) : q / (Int.gcd p q : Int) ≤ q := Int.ediv_le_self _ (by omega)
section
variable {P : Program} {w : World} {K : PySem.W.Frag} {mg : Str → Option Value} {base : Heap}
/-! ### _law_great -/
def spGreat : Sp := fun vs H Q _ => ∃ (a : PA) (n : Nat) (d : Int), vs = [.ref a, .int d] ∧ Pen H a n ∧ n < 2 ^ 39 ∧ 6 ≤ d ∧ d ≤ 1200 ∧
  ∀ g H', 0 ≤ g → Bd (20 * (d / 6).toNat) g → Pen H' a (n + 1 + (d / 6).toNat) → Fr H H' → Q (.int g) H'
abbrev s_l_great : Stmt := topS 48
abbrev N_l_great : List Str := ["_law_pen_here", "_law_digits", "_law_result", "_law_k"]
abbrev P_l_great : List Str := ["_law_pen_here", "_law_digits"]
theorem sc_l_great : FnScope N_l_great P_l_great (defScope s_l_great) := ⟨rfl, rfl, rfl, by decide +kernel, rfl, by decide +kernel, by decide +kernel⟩
theorem ok_l_great (D : Df K mg "_law_great" s_l_great P_l_great) (B : Bi mg) (c_l_draw : C8.Cal P w K mg base 1 "_law_draw" spDraw []) : C8.Cal P w K mg base 2 "_law_great" spGreat [] := by
  refine cal_of D sc_l_great (fun vs H Q E h => ?_) (fun f cdv A outer s H vs Q E hr h => ?_)
  · obtain ⟨a, n, d, rfl, _⟩ := h
    rfl
  · obtain ⟨a, n, d, rfl, hP, hn, h6, h12, q⟩ := h
    refine ⟨_, (pss_cons (ps_set (i := 2) sc_l_great.nd rfl (Or.inl rfl) pe_int)
    (pss_cons (ps_for PassesOwn.never rfl (pi_range1 rfl B.range_ (pa_cons (pe_op op_add pe_int (C8.pe_c c_l_draw hr (by decide) (by rfl) (pa_cons (pv 0) (pa_cons (pe_op op_fdiv (pv 1) pe_int) pa_nil)))) pa_nil)) (pg_name (i := 3) sc_l_great.nd rfl (Or.inl rfl))
      (pss_one (ps_set (i := 2) sc_l_great.nd rfl (Or.inl rfl) (pe_op op_add (pe_op op_mul (pv 2) (pe_op op_pow pe_int pe_int)) (C8.pe_c c_l_draw hr (by decide) (by rfl) (pa_cons (pv 0) (pa_cons (pe_op op_pow pe_int pe_int) pa_nil)))))))
    (pss_one (ps_ret (pv 2))))), ?_⟩
    refine ⟨_, rfl, _, rfl, _, _, rfl, rfl, ⟨by decide, by decide⟩, a, n, _, rfl, hP, by omega, by omega, Bd.small 20 (by omega) (by decide), fun dd H1 d0 d1 hP1 f1 => ?_⟩
    refine ⟨_, _, rfl, rfl, _, rfl, by omega, by omega, ?_⟩
    refine for_range (lo := 0) (n := (1 + dd).toNat) (fun i σ H2 => ∃ (r : Int) (y : Option V), σ = [some (.ref a), some (.int d), some (.int r), y] ∧ 0 ≤ r ∧ Bd (20 * i) r ∧ Pen H2 a (n + 1 + i) ∧ Fr H H2) ?_ ?_ ?_
    · exact ⟨0, none, rfl, by omega, by show (0 : Int).natAbs < 2 ^ 0; decide, hP1, f1⟩
    · rintro i σ H2 hi ⟨r, y, rfl, r0, rb, hP2, f2⟩
      refine ⟨_, rfl, _, _, rfl, rfl, ⟨by decide, by decide, by decide⟩, _, _, rfl, rfl, .inr ⟨by decide, by decide⟩, _, rfl, _, _, rfl, rfl, ⟨by decide, by decide, by decide⟩, a, _, _, rfl, hP2, by omega, by decide, Bd.small 20 (by decide) (by decide), fun e H3 e0 e1 hP3 f3 => ?_⟩
      refine ⟨_, _, rfl, rfl, ?_⟩
      refine ⟨_, _, rfl, ?_, ?_, hP3, f2.trans f3⟩
      · have : (0 : Int) ≤ 10 ^ (6 : Int).toNat := by decide
        have := Int.mul_nonneg r0 this
        omega
      · exact Bd.grow r0 rb e0 e1
    · rintro σ H2 ⟨r, y, rfl, r0, rb, hP2, f2⟩
      have h3 : (1 + dd).toNat ≤ (d / 6).toNat := by omega
      refine ⟨_, rfl, ?_⟩
      exact q _ _ r0 (rb.mono (by omega)) (hP2.mono (by omega)) f2
/-! ### _law_signed -/
def spSigned : Sp := fun vs H Q _ => ∃ (a : PA) (n : Nat) (d : Int), vs = [.ref a, .int d] ∧ Pen H a n ∧ n < 2 ^ 38 ∧ 6 ≤ d ∧ d ≤ 1200 ∧
  ∀ g H', Bd (20 * (d / 6).toNat) g → Pen H' a (n + 5 + (d / 6).toNat) → Fr H H' → Q (.int g) H'
abbrev s_l_signed : Stmt := topS 49
abbrev N_l_signed : List Str := ["_law_pen_here", "_law_digits"]
abbrev P_l_signed : List Str := ["_law_pen_here", "_law_digits"]
theorem sc_l_signed : FnScope N_l_signed P_l_signed (defScope s_l_signed) := ⟨rfl, rfl, rfl, by decide +kernel, rfl, by decide +kernel, by decide +kernel⟩
theorem ok_l_signed (D : Df K mg "_law_signed" s_l_signed P_l_signed) (B : Bi mg) (c_l_draw : C8.Cal P w K mg base 1 "_law_draw" spDraw []) (c_l_pick : C8.Cal P w K mg base 2 "_law_pick" spPick []) (c_l_great : C8.Cal P w K mg base 2 "_law_great" spGreat []) : C8.Cal P w K mg base 3 "_law_signed" spSigned [] := by
  refine cal_of D sc_l_signed (fun vs H Q E h => ?_) (fun f cdv A outer s H vs Q E hr h => ?_)
  · obtain ⟨a, n, d, rfl, _⟩ := h
    rfl
  · obtain ⟨a, n, d, rfl, hP, hn, h6, h12, q⟩ := h
    refine ⟨_, (pss_one (ps_ret (pe_op op_mul (C8.pe_c c_l_pick hr (by decide) (by rfl) (pa_cons (pv 0) (pa_cons (pe_lst (pa_cons pe_int (pa_cons (pe_un un_neg pe_int) pa_nil))) pa_nil))) (C8.pe_c c_l_pick hr (by decide) (by rfl) (pa_cons (pv 0) (pa_cons (pe_lst (pa_cons (C8.pe_c c_l_draw hr (by decide) (by rfl) (pa_cons (pv 0) (pa_cons pe_int pa_nil))) (pa_cons (C8.pe_c c_l_draw hr (by decide) (by rfl) (pa_cons (pv 0) (pa_cons pe_int pa_nil))) (pa_cons (C8.pe_c c_l_great hr (by decide) (by rfl) (pa_cons (pv 0) (pa_cons (pv 1) pa_nil))) pa_nil)))) pa_nil)))))), ?_⟩
    refine ⟨_, rfl, 1, rfl, len10 (by simp), fun p np => ?_⟩
    refine ⟨a, p, n, _, rfl, hP.new np, by omega, upd_same, by simp, by simp, fun x H1 hx hP1 f1 => ?_⟩
    have f1' : Fr H H1 := (Fr.new np).trans f1
    refine ⟨_, rfl, _, rfl, a, _, _, rfl, hP1, by omega, by decide, Bd.small 20 (by decide) (by decide), fun d1 H2 d10 d11 hP2 f2 => ?_⟩
    refine ⟨_, rfl, a, _, _, rfl, hP2, by omega, by decide, Bd.small 20 (by decide) (by decide), fun d2 H3 d20 d21 hP3 f3 => ?_⟩
    refine ⟨_, rfl, _, rfl, a, _, _, rfl, hP3, by omega, h6, h12, fun g H4 g0 gb hP4 f4 => ?_⟩
    refine ⟨len10 (by simp), fun p2 np2 => ?_⟩
    refine ⟨a, p2, _, _, rfl, hP4.new np2, by omega, upd_same, by simp, by simp, fun y H5 hy hP5 f5 => ?_⟩
    have hk : 20 ≤ 20 * (d / 6).toNat := by omega
    obtain ⟨v, rfl, bv⟩ : ∃ v, y = V.int v ∧ Bd (20 * (d / 6).toNat) v := by
      simp only [List.mem_cons, List.not_mem_nil, or_false] at hy
      rcases hy with rfl | rfl | rfl
      · exact ⟨_, rfl, Bd.small 20 (by omega) hk⟩
      · exact ⟨_, rfl, Bd.small 20 (by omega) hk⟩
      · exact ⟨_, rfl, gb⟩
    have hPF : Pen H5 a (n + 5 + (d / 6).toNat) := hP5.mono (by omega)
    have fF : Fr H H5 := f1'.trans (f2.trans (f3.trans (f4.trans ((Fr.new np2).trans f5))))
    simp only [List.mem_cons, List.not_mem_nil, or_false] at hx
    rcases hx with rfl | rfl
    · refine ⟨_, _, rfl, rfl, .inl ⟨by decide, by decide⟩, ?_⟩
      show Q (V.int (1 * v)) H5
      rw [Int.one_mul]
      exact q _ _ bv hPF fF
    · refine ⟨_, _, rfl, rfl, .inl ⟨by decide, by decide⟩, ?_⟩
      show Q (V.int (-1 * v)) H5
      rw [Int.neg_mul, Int.one_mul]
      exact q _ _ bv.neg hPF fF
/-! ### _law_gcd, _law_lowest -/
def spGcd : Sp := fun vs H Q _ => ∃ (x y : Int), vs = [.int x, .int y] ∧ 0 ≤ x ∧ 0 ≤ y ∧ Q (.int (Int.gcd x y : Int)) H
def mu1 : L2.St → Hp → Nat := fun σ _ => match σ with
  | _ :: some (.int v) :: _ => v.toNat
  | _ => 0
abbrev s_l_gcd : Stmt := topS 50
abbrev N_l_gcd : List Str := ["_law_one", "_law_other"]
abbrev P_l_gcd : List Str := ["_law_one", "_law_other"]
theorem sc_l_gcd : FnScope N_l_gcd P_l_gcd (defScope s_l_gcd) := ⟨rfl, rfl, rfl, by decide +kernel, rfl, by decide +kernel, by decide +kernel⟩
theorem ok_l_gcd (D : Df K mg "_law_gcd" s_l_gcd P_l_gcd) : C8.Cal P w K mg base 1 "_law_gcd" spGcd [] := by
  refine cal_of D sc_l_gcd (fun vs H Q E h => ?_) (fun f cdv A outer s H vs Q E hr h => ?_)
  · obtain ⟨x, y, rfl, _⟩ := h
    rfl
  · obtain ⟨x, y, rfl, hx, hy, q⟩ := h
    refine ⟨_, (pss_cons (ps_while PassesOwn.never (pt_cmpR op_gt (pv 1) pe_int (nomark _))
      (pss_one (ps_par (i := 0) (j := 1) rfl sc_l_gcd.nd rfl rfl (by decide) rfl rfl (pa_cons (pv 1) (pa_cons (pe_op op_mod (pv 0) (pv 1)) pa_nil)) rfl)))
    (pss_one (ps_ret (pv 0)))), ?_⟩
    refine while_by (fun σ H' => ∃ u v : Int, σ = [some (.int u), some (.int v)] ∧ 0 ≤ u ∧ 0 ≤ v ∧ Int.gcd u v = Int.gcd x y ∧ H' = H) mu1 ⟨x, y, rfl, hx, hy, rfl, rfl⟩ ?_ ?_
    · rintro σ H' ⟨u, v, rfl, hu, hv, e, rfl⟩
      refine ⟨_, rfl, _, _, rfl, rfl, _, rfl, ite2 (fun c => ?_) (fun c => ?_)⟩
      · have hv0 : 0 < v := of_decide_eq_true c
        refine ⟨_, rfl, _, rfl, _, rfl, _, _, rfl, rfl, hv0, _, _, rfl, ⟨v, u % v, rfl, hv, Int.emod_nonneg _ (by omega), ?_, rfl⟩, ?_⟩
        · rw [gcd_turn u v hu hv0]; exact e
        · show (u % v).toNat < v.toNat
          have := Int.emod_lt_of_pos u hv0
          omega
      · have hv0 : v = 0 := by
          have : ¬ 0 < v := fun z => c (decide_eq_true z)
          omega
        subst hv0
        refine ⟨_, rfl, ?_⟩
        have e2 : (Int.gcd x y : Int) = u := by
          rw [← e, Int.gcd_zero_right]
          omega
        rw [← e2]
        exact q
    · rintro σ H' Q1 Q2 hQ ⟨v, h1, i, j, h2, h3, b, h4, h5⟩
      exact ⟨v, h1, i, j, h2, h3, b, h4, hQ _ _ h5⟩
def spLowest : Sp := fun vs H Q _ => ∃ (p q c : Int), vs = [.int p, .int q, .int c] ∧ 0 ≤ p ∧ 1 ≤ q ∧ Bd 9000 q ∧
  ∀ r H', Same H H' → H' r = some (.tup [.int (p / (Int.gcd p q : Int)), .int (q / (Int.gcd p q : Int)), .int (c / (Int.gcd p q : Int))]) → Q (.ref r) H'
abbrev s_l_lowest : Stmt := topS 51
abbrev N_l_lowest : List Str := ["_law_p", "_law_q", "_law_c", "_law_both"]
abbrev P_l_lowest : List Str := ["_law_p", "_law_q", "_law_c"]
theorem sc_l_lowest : FnScope N_l_lowest P_l_lowest (defScope s_l_lowest) := ⟨rfl, rfl, rfl, by decide +kernel, rfl, by decide +kernel, by decide +kernel⟩
theorem ok_l_lowest (D : Df K mg "_law_lowest" s_l_lowest P_l_lowest) (c_l_gcd : C8.Cal P w K mg base 1 "_law_gcd" spGcd []) : C8.Cal P w K mg base 2 "_law_lowest" spLowest [] := by
  refine cal_of D sc_l_lowest (fun vs H Q E h => ?_) (fun f cdv A outer s H vs Q E hr h => ?_)
  · obtain ⟨p, q, c, rfl, _⟩ := h
    rfl
  · obtain ⟨p, q, c, rfl, hp, hq, hb, k⟩ := h
    refine ⟨_, (pss_cons (ps_set (i := 3) sc_l_lowest.nd rfl (Or.inl rfl) (C8.pe_c c_l_gcd hr (by decide) (by rfl) (pa_cons (pv 0) (pa_cons (pv 1) pa_nil))))
    (pss_one (ps_ret (pe_tup (pa_cons (pe_op op_fdivW (pv 0) (pv 3)) (pa_cons (pe_op op_fdivW (pv 1) (pv 3)) (pa_cons (pe_op op_fdivW (pv 2) (pv 3)) pa_nil))))))), ?_⟩
    have hg := gcd_pos (p := p) hq
    have hd : CDivW 0 (Int.gcd p q : Int) := ⟨hg, (hb.between (by omega) (gcd_le hq)).log (by decide)⟩
    refine ⟨_, rfl, _, rfl, p, q, rfl, hp, by omega, ?_⟩
    refine ⟨_, rfl, _, rfl, _, _, rfl, rfl, hd, _, rfl, _, rfl, _, _, rfl, rfl, hd, _, rfl, _, rfl, _, _, rfl, rfl, hd, len10 (by simp), fun r nr => ?_⟩
    exact k r _ (sm_upd nr) upd_same
/-! ### _law_rule, _law_far_rule -/
def spRule : Sp := fun vs H Q _ => ∃ (a : PA) (n : Nat) (m : Int), vs = [.ref a, .int m] ∧ Pen H a n ∧ n < 2 ^ 38 ∧ 1 ≤ m ∧ m ≤ 1048576 ∧
  ∀ r p q c H', RuleB 24 p q c → q ≤ m → p ≤ 3 * m → H' r = some (.tup [.int p, .int q, .int c]) → Pen H' a (n + 8) → Fr H H' → Q (.ref r) H'
abbrev s_l_rule : Stmt := topS 52
abbrev N_l_rule : List Str := ["_law_pen_here", "_law_most", "_law_q", "_law_p"]
abbrev P_l_rule : List Str := ["_law_pen_here", "_law_most"]
theorem sc_l_rule : FnScope N_l_rule P_l_rule (defScope s_l_rule) := ⟨rfl, rfl, rfl, by decide +kernel, rfl, by decide +kernel, by decide +kernel⟩
theorem ok_l_rule (D : Df K mg "_law_rule" s_l_rule P_l_rule) (B : Bi mg) (c_l_draw : C8.Cal P w K mg base 1 "_law_draw" spDraw []) (c_l_pick : C8.Cal P w K mg base 2 "_law_pick" spPick []) (c_l_lowest : C8.Cal P w K mg base 2 "_law_lowest" spLowest []) : C8.Cal P w K mg base 3 "_law_rule" spRule [] := by
  refine cal_of D sc_l_rule (fun vs H Q E h => ?_) (fun f cdv A outer s H vs Q E hr h => ?_)
  · obtain ⟨a, n, d, rfl, _⟩ := h
    rfl
  · obtain ⟨a, n, m, rfl, hP, hn, hm1, hm2, k⟩ := h
    refine ⟨_, (pss_cons (ps_set (i := 2) sc_l_rule.nd rfl (Or.inl rfl) (pe_op op_add pe_int (C8.pe_c c_l_draw hr (by decide) (by rfl) (pa_cons (pv 0) (pa_cons (pv 1) pa_nil)))))
    (pss_cons (ps_set (i := 3) sc_l_rule.nd rfl (Or.inl rfl) (C8.pe_c c_l_pick hr (by decide) (by rfl) (pa_cons (pv 0) (pa_cons (pe_lst (pa_cons pe_int (pa_cons pe_int (pa_cons (C8.pe_c c_l_draw hr (by decide) (by rfl) (pa_cons (pv 0) (pa_cons (pe_op op_add (pv 2) pe_int) pa_nil))) (pa_cons (C8.pe_c c_l_draw hr (by decide) (by rfl) (pa_cons (pv 0) (pa_cons (pe_op op_add (pv 2) pe_int) pa_nil))) (pa_cons (C8.pe_c c_l_draw hr (by decide) (by rfl) (pa_cons (pv 0) (pa_cons (pe_op op_mul pe_int (pv 2)) pa_nil))) (pa_cons (pe_op op_add (pv 2) pe_int) pa_nil))))))) pa_nil))))
    (pss_one (ps_ret (C8.pe_c c_l_lowest hr (by decide) (by rfl) (pa_cons (pv 3) (pa_cons (pv 2) (pa_cons (C8.pe_c c_l_pick hr (by decide) (by rfl) (pa_cons (pv 0) (pa_cons (pe_lst (pa_cons pe_int (pa_cons (C8.pe_c c_l_draw hr (by decide) (by rfl) (pa_cons (pv 0) (pa_cons (pv 2) pa_nil))) (pa_cons (pe_op op_sub (C8.pe_c c_l_draw hr (by decide) (by rfl) (pa_cons (pv 0) (pa_cons (pe_op op_mul pe_int (pv 2)) pa_nil))) (pe_op op_mul pe_int (pv 2))) pa_nil)))) pa_nil))) pa_nil)))))))), ?_⟩
    refine ⟨_, rfl, _, rfl, a, n, _, rfl, hP, by omega, by omega, Bd.small 21 (by omega) (by decide), fun d H1 d0 d1 hP1 f1 => ?_⟩
    refine ⟨_, _, rfl, rfl, ?_⟩
    -- p
    refine ⟨_, rfl, _, rfl, _, rfl, _, _, rfl, rfl, a, _, _, rfl, hP1, by omega, by omega, Bd.small 22 (by omega) (by decide), fun p1 H2 p10 p11 hP2 f2 => ?_⟩
    refine ⟨_, rfl, _, rfl, _, _, rfl, rfl, a, _, _, rfl, hP2, by omega, by omega, Bd.small 22 (by omega) (by decide), fun p2 H3 p20 p21 hP3 f3 => ?_⟩
    refine ⟨_, rfl, _, rfl, _, _, rfl, rfl, .inl ⟨by decide, by decide⟩, a, _, _, rfl, hP3, by omega, by omega, Bd.small 24 (by omega) (by decide), fun p3 H4 p30 p31 hP4 f4 => ?_⟩
    refine ⟨_, rfl, _, _, rfl, rfl, len10 (by simp), fun l nl => ?_⟩
    refine ⟨a, l, _, _, rfl, hP4.new nl, by omega, upd_same, by simp, by simp, fun x H5 hx hP5 f5 => ?_⟩
    obtain ⟨p, rfl, hp0, hp3⟩ : ∃ p, x = V.int p ∧ 0 ≤ p ∧ p ≤ 3 * m := by
      simp only [List.mem_cons, List.not_mem_nil, or_false] at hx
      rcases hx with rfl | rfl | rfl | rfl | rfl | rfl <;> exact ⟨_, rfl, by omega, by omega⟩
    -- c
    refine ⟨_, rfl, _, rfl, _, rfl, _, rfl, _, rfl, a, _, _, rfl, hP5, by omega, by omega, Bd.small 22 (by omega) (by decide), fun c1 H6 c10 c11 hP6 f6 => ?_⟩
    refine ⟨_, rfl, _, rfl, _, _, rfl, rfl, .inl ⟨by decide, by decide⟩, a, _, _, rfl, hP6, by omega, by omega, Bd.small 24 (by omega) (by decide), fun c2 H7 c20 c21 hP7 f7 => ?_⟩
    refine ⟨_, rfl, _, _, rfl, rfl, .inl ⟨by decide, by decide⟩, _, _, rfl, rfl, len10 (by simp), fun l2 nl2 => ?_⟩
    refine ⟨a, l2, _, _, rfl, hP7.new nl2, by omega, upd_same, by simp, by simp, fun y H8 hy hP8 f8 => ?_⟩
    obtain ⟨c, rfl, bc⟩ : ∃ c, y = V.int c ∧ Bd 24 c := by
      simp only [List.mem_cons, List.not_mem_nil, or_false] at hy
      rcases hy with rfl | rfl | rfl
      · exact ⟨_, rfl, Bd.small 22 (by decide) (by decide)⟩
      · exact ⟨_, rfl, Bd.small 22 (by omega) (by decide)⟩
      · exact ⟨_, rfl, Bd.small 24 (by omega) (by decide)⟩
    refine ⟨p, 1 + d, c, rfl, hp0, by omega, Bd.small 22 (by omega) (by decide), fun r H9 s9 er => ?_⟩
    have hq1 : (1 : Int) ≤ 1 + d := by omega
    have R := low_rule (k := 24) (c := c) hp0 hq1 (Bd.small 24 (by omega) (by decide)) (Bd.small 24 (by omega) (by decide)) bc
    refine k r _ _ _ H9 R ?_ ?_ er ((hP8.same s9).mono (by omega)) ?_
    · have := low_le (p := p) hq1
      omega
    · have := Int.ediv_le_self (Int.gcd p (1 + d) : Int) hp0
      omega
    · exact f1.trans (f2.trans (f3.trans (f4.trans ((Fr.new nl).trans (f5.trans (f6.trans (f7.trans ((Fr.new nl2).trans (f8.trans (Fr.same s9))))))))))
end
end Lf
namespace Lf
open PySem PySem.Spec PyProof.Rows L2
section
variable {P : Program} {w : World} {K : PySem.W.Frag} {mg : Str → Option Value} {base : Heap}
def spFar : Sp := fun vs H Q _ => ∃ (a : PA) (n : Nat) (d : Int), vs = [.ref a, .int d] ∧ Pen H a n ∧ n < 2 ^ 37 ∧ 6 ≤ d ∧ d ≤ 1200 ∧
  ∀ r p q c H', RuleB (20 * (d / 6).toNat + 2) p q c → H' r = some (.tup [.int p, .int q, .int c]) → Pen H' a (n + 9 + 4 * (d / 6).toNat) → Fr H H' → Q (.ref r) H'
abbrev s_l_far_rule : Stmt := topS 53
abbrev N_l_far_rule : List Str := ["_law_pen_here", "_law_digits", "_law_q", "_law_p"]
abbrev P_l_far_rule : List Str := ["_law_pen_here", "_law_digits"]
theorem sc_l_far_rule : FnScope N_l_far_rule P_l_far_rule (defScope s_l_far_rule) := ⟨rfl, rfl, rfl, by decide +kernel, rfl, by decide +kernel, by decide +kernel⟩
theorem ok_l_far_rule (D : Df K mg "_law_far_rule" s_l_far_rule P_l_far_rule) (B : Bi mg) (c_l_pick : C8.Cal P w K mg base 2 "_law_pick" spPick []) (c_l_great : C8.Cal P w K mg base 2 "_law_great" spGreat []) (c_l_signed : C8.Cal P w K mg base 3 "_law_signed" spSigned []) (c_l_lowest : C8.Cal P w K mg base 2 "_law_lowest" spLowest []) : C8.Cal P w K mg base 4 "_law_far_rule" spFar [] := by
  refine cal_of D sc_l_far_rule (fun vs H Q E h => ?_) (fun f cdv A outer s H vs Q E hr h => ?_)
  · obtain ⟨a, n, d, rfl, _⟩ := h
    rfl
  · obtain ⟨a, n, d, rfl, hP, hn, h6, h12, k⟩ := h
    refine ⟨_, (pss_cons (ps_set (i := 2) sc_l_far_rule.nd rfl (Or.inl rfl) (pe_op op_add pe_int (C8.pe_c c_l_great hr (by decide) (by rfl) (pa_cons (pv 0) (pa_cons (pv 1) pa_nil)))))
    (pss_cons (ps_set (i := 3) sc_l_far_rule.nd rfl (Or.inl rfl) (C8.pe_c c_l_pick hr (by decide) (by rfl) (pa_cons (pv 0) (pa_cons (pe_lst (pa_cons (C8.pe_c c_l_great hr (by decide) (by rfl) (pa_cons (pv 0) (pa_cons (pv 1) pa_nil))) (pa_cons (pe_op op_mod (C8.pe_c c_l_great hr (by decide) (by rfl) (pa_cons (pv 0) (pa_cons (pv 1) pa_nil))) (pe_op op_add (pv 2) pe_int)) (pa_cons pe_int (pa_cons (pe_op op_add (pv 2) pe_int) (pa_cons pe_int pa_nil)))))) pa_nil))))
    (pss_one (ps_ret (C8.pe_c c_l_lowest hr (by decide) (by rfl) (pa_cons (pv 3) (pa_cons (pv 2) (pa_cons (C8.pe_c c_l_signed hr (by decide) (by rfl) (pa_cons (pv 0) (pa_cons (pv 1) pa_nil))) pa_nil)))))))), ?_⟩
    refine ⟨_, rfl, _, rfl, a, n, d, rfl, hP, by omega, h6, h12, fun g H1 g0 gb hP1 f1 => ?_⟩
    refine ⟨_, _, rfl, rfl, ?_⟩
    refine ⟨_, rfl, _, rfl, _, rfl, a, _, d, rfl, hP1, by omega, h6, h12, fun g1 H2 g10 gb1 hP2 f2 => ?_⟩
    refine ⟨_, rfl, _, rfl, a, _, d, rfl, hP2, by omega, h6, h12, fun g2 H3 g20 gb2 hP3 f3 => ?_⟩
    refine ⟨_, rfl, _, _, rfl, rfl, _, _, rfl, rfl, (by show (0 : Int) < 1 + g + 1; omega), ?_⟩
    refine ⟨_, rfl, _, _, rfl, rfl, len10 (by simp), fun l nl => ?_⟩
    refine ⟨a, l, _, _, rfl, hP3.new nl, by omega, upd_same, by simp, by simp, fun x H4 hx hP4 f4 => ?_⟩
    have one : ∀ j : Nat, Bd (j + 1) 1 := fun j => Bd.small 1 (by decide) (by omega)
    have bq : Bd (20 * (d / 6).toNat + 1) (1 + g) := Bd.add (Bd.small 1 (by decide) (by omega)) gb
    have bq1 : Bd (20 * (d / 6).toNat + 2) (1 + g + 1) := Bd.add bq (Bd.small 1 (by decide) (by omega))
    obtain ⟨p, rfl, hp0, bp⟩ : ∃ p, x = V.int p ∧ 0 ≤ p ∧ Bd (20 * (d / 6).toNat + 2) p := by
      simp only [List.mem_cons, List.not_mem_nil, or_false] at hx
      rcases hx with rfl | rfl | rfl | rfl | rfl
      · exact ⟨_, rfl, g10, gb1.mono (by omega)⟩
      · exact ⟨_, rfl, Int.emod_nonneg _ (by omega), bq1.emod (by omega)⟩
      · exact ⟨_, rfl, by omega, Bd.small 1 (by decide) (by omega)⟩
      · exact ⟨_, rfl, by omega, bq1⟩
      · exact ⟨_, rfl, by omega, Bd.small 1 (by decide) (by omega)⟩
    refine ⟨_, rfl, _, rfl, _, rfl, _, rfl, a, _, d, rfl, hP4, by omega, h6, h12, fun c H5 cb hP5 f5 => ?_⟩
    refine ⟨p, 1 + g, c, rfl, hp0, by omega, bq.mono (by omega), fun r H9 s9 er => ?_⟩
    have hq1 : (1 : Int) ≤ 1 + g := by omega
    have R := low_rule (k := 20 * (d / 6).toNat + 2) hp0 hq1 bp (bq.mono (by omega)) (cb.mono (by omega))
    exact k r _ _ _ H9 R er ((hP5.same s9).mono (by omega)) (f1.trans (f2.trans (f3.trans ((Fr.new nl).trans (f4.trans (f5.trans (Fr.same s9)))))))
end
end Lf
namespace Lf
/-! ### the least multiple in an arc -/
def dvu (x s : Int) : Int := -(-x / s)
theorem dvu_le {x s n : Int} (hs : 0 < s) : dvu x s ≤ n ↔ x ≤ s * n := by
  unfold dvu
  have := Int.le_ediv_iff_mul_le (a := -n) (b := -x) hs
  rw [Int.neg_mul, Int.mul_comm n s] at this
  omega
theorem dvu_ge {x s : Int} (hs : 0 < s) : x ≤ s * dvu x s := (dvu_le hs).mp (Int.le_refl _)
theorem dvu_lt {x s : Int} (hs : 0 < s) : s * dvu x s < x + s := by
  have h : ¬ dvu x s ≤ dvu x s - 1 := by omega
  rw [dvu_le hs, Int.mul_sub, Int.mul_one] at h
  omega
def HitM (s m lo hi n : Int) : Prop := lo ≤ s * n % m ∧ s * n % m ≤ hi
def Lst (P : Int → Prop) (n : Int) : Prop := 0 ≤ n ∧ P n ∧ ∀ k, 0 ≤ k → k < n → ¬ P k
def NoM (P : Int → Prop) : Prop := ∀ n, 0 ≤ n → ¬ P n
theorem mod_of {x m r k : Int} (h0 : 0 ≤ r) (h1 : r < m) (e : x = r + m * k) : x % m = r := by
  rw [e, Int.add_mul_emod_self_left]
  exact Int.emod_eq_of_lt h0 h1
theorem hit_flip {s m lo hi n : Int} (h0 : 0 < lo) (h1 : lo ≤ hi) (h2 : hi < m) : HitM (m - s) m (m - hi) (m - lo) n ↔ HitM s m lo hi n := by
  have hm : 0 < m := by omega
  have e := Int.emod_add_mul_ediv (s * n) m
  have r0 := Int.emod_nonneg (s * n) (show m ≠ 0 by omega)
  have r1 := Int.emod_lt_of_pos (s * n) hm
  unfold HitM
  by_cases hz : s * n % m = 0
  · have : (m - s) * n % m = 0 := mod_of (k := n - s * n / m) (by omega) hm (by rw [Int.sub_mul, Int.mul_sub]; omega)
    rw [this, hz]
    omega
  · have : (m - s) * n % m = m - s * n % m := mod_of (k := n - s * n / m - 1) (by omega) (by omega) (by rw [Int.sub_mul, Int.mul_sub, Int.mul_sub]; omega)
    rw [this]
    omega
theorem lst_iff {P Q : Int → Prop} (h : ∀ n, P n ↔ Q n) (n : Int) : Lst P n ↔ Lst Q n := by
  unfold Lst
  rw [h n]
  constructor
  · rintro ⟨a, b, c⟩
    exact ⟨a, b, fun k h0 h1 z => c k h0 h1 ((h k).mpr z)⟩
  · rintro ⟨a, b, c⟩
    exact ⟨a, b, fun k h0 h1 z => c k h0 h1 ((h k).mp z)⟩
theorem lst_lt {s m lo hi n : Int} (hm : 0 < m) (h : Lst (HitM s m lo hi) n) : n < m := by
  obtain ⟨h0, h1, h2⟩ := h
  rcases Int.lt_or_le n m with z | z
  · exact z
  · refine absurd ?_ (h2 (n - m) (by omega) (by omega))
    unfold HitM at *
    rw [show s * (n - m) = s * n + m * (-s) by rw [Int.mul_sub, Int.mul_neg, Int.mul_comm m s]; omega, Int.add_mul_emod_self_left]
    exact h1
theorem hit_base {s m lo hi : Int} (hs : 0 < s) (h0 : 0 < lo) (h2 : hi < m) (h : s * dvu lo s ≤ hi) : Lst (HitM s m lo hi) (dvu lo s) := by
  have g := dvu_ge (x := lo) hs
  have pos : 0 ≤ dvu lo s := by
    rcases Int.lt_or_le (dvu lo s) 0 with z | z
    · have := Int.mul_le_mul_of_nonneg_left (show dvu lo s ≤ 0 by omega) (Int.le_of_lt hs)
      rw [Int.mul_zero] at this
      omega
    · exact z
  refine ⟨pos, ?_, fun k k0 k1 => ?_⟩
  · unfold HitM
    rw [Int.emod_eq_of_lt (by omega) (by omega)]
    omega
  · have : ¬ lo ≤ s * k := fun z => by
      have := (dvu_le hs).mpr z
      omega
    have p := Int.mul_nonneg (Int.le_of_lt hs) k0
    unfold HitM
    rw [Int.emod_eq_of_lt (by omega) (by omega)]
    omega
/-- the facts of one step down -/
theorem down_facts {s lo hi : Int} (hs : 0 < s) (h1 : lo ≤ hi) (h : hi < s * dvu lo s) : 0 < lo % s ∧ hi / s = lo / s ∧ lo % s ≤ hi % s := by
  have l := dvu_lt (x := lo) hs
  have g := dvu_ge (x := lo) hs
  have el := Int.emod_add_mul_ediv lo s
  have eh := Int.emod_add_mul_ediv hi s
  have l0 := Int.emod_nonneg lo (show s ≠ 0 by omega)
  have l1 := Int.emod_lt_of_pos lo hs
  have hq0 := Int.emod_nonneg hi (show s ≠ 0 by omega)
  have hq1 := Int.emod_lt_of_pos hi hs
  generalize dvu lo s = d at *
  have hd : lo / s = d - 1 := by
    have a1 : s * (lo / s) < s * d := by omega
    have a2 := Int.lt_of_mul_lt_mul_left a1 (Int.le_of_lt hs)
    have a3 : s * (d - 1) < s * (lo / s + 1) := by rw [Int.mul_sub, Int.mul_add]; omega
    have a4 := Int.lt_of_mul_lt_mul_left a3 (Int.le_of_lt hs)
    omega
  have hh : hi / s = d - 1 := by
    have a1 : s * (hi / s) < s * d := by omega
    have a2 := Int.lt_of_mul_lt_mul_left a1 (Int.le_of_lt hs)
    have a3 : s * (d - 1) < s * (hi / s + 1) := by rw [Int.mul_sub, Int.mul_add]; omega
    have a4 := Int.lt_of_mul_lt_mul_left a3 (Int.le_of_lt hs)
    omega
  rw [hd, Int.mul_sub] at el
  rw [hh, Int.mul_sub] at eh
  omega
theorem down_iff {s m lo hi k : Int} (hs : 0 < s) (h1 : lo ≤ hi) (h : hi < s * dvu lo s) :
    HitM (-m % s) s (lo % s) (hi % s) k ↔ (lo ≤ s * dvu (lo + m * k) s - m * k ∧ s * dvu (lo + m * k) s - m * k ≤ hi) := by
  obtain ⟨d1, d2, d3⟩ := down_facts hs h1 h
  have el := Int.emod_add_mul_ediv lo s
  have eh := Int.emod_add_mul_ediv hi s
  have hq1 := Int.emod_lt_of_pos hi hs
  have g := dvu_ge (x := lo + m * k) hs
  have l := dvu_lt (x := lo + m * k) hs
  have em : -m % s * k % s = (s * dvu (lo + m * k) s - m * k) % s := by
    have e1 := Int.emod_add_mul_ediv (-m) s
    rw [show s * dvu (lo + m * k) s - m * k = -m % s * k + s * (dvu (lo + m * k) s + -m / s * k) by
      have : (-m % s + s * (-m / s)) * k = -m * k := by rw [e1]
      rw [Int.add_mul, Int.neg_mul] at this
      rw [Int.mul_add, ← Int.mul_assoc]
      omega, Int.add_mul_emod_self_left]
  unfold HitM
  rw [em]
  have hx0 : lo ≤ s * dvu (lo + m * k) s - m * k := by omega
  have hx1 : s * dvu (lo + m * k) s - m * k < lo + s := by omega
  clear em g l
  generalize s * dvu (lo + m * k) s - m * k = x at hx0 hx1 ⊢
  have ex := Int.emod_add_mul_ediv x s
  have r0 := Int.emod_nonneg x (show s ≠ 0 by omega)
  have r1 := Int.emod_lt_of_pos x hs
  have hx : x / s = lo / s ∨ x / s = lo / s + 1 := by
    have a1 : s * (lo / s) < s * (x / s + 1) := by rw [Int.mul_add]; omega
    have a2 := Int.lt_of_mul_lt_mul_left a1 (Int.le_of_lt hs)
    have a3 : s * (x / s) < s * (lo / s + 2) := by rw [Int.mul_add]; omega
    have a4 := Int.lt_of_mul_lt_mul_left a3 (Int.le_of_lt hs)
    omega
  rcases hx with z | z
  · rw [z] at ex
    rw [d2] at eh
    omega
  · rw [z, Int.mul_add] at ex
    rw [d2] at eh
    omega
theorem down_hit {s m lo hi n : Int} (hs : 0 < s) (hm : 0 < m) (h0 : 0 < lo) (h1 : lo ≤ hi) (h : hi < s * dvu lo s) (n0 : 0 ≤ n) (hn : HitM s m lo hi n) :
    0 ≤ s * n / m ∧ HitM (-m % s) s (lo % s) (hi % s) (s * n / m) ∧ dvu (lo + m * (s * n / m)) s ≤ n := by
  have e := Int.emod_add_mul_ediv (s * n) m
  have hk : 0 ≤ s * n / m := Int.ediv_nonneg (Int.mul_nonneg (Int.le_of_lt hs) n0) (by omega)
  obtain ⟨a, b⟩ := hn
  have hle : dvu (lo + m * (s * n / m)) s ≤ n := (dvu_le hs).mpr (by omega)
  refine ⟨hk, (down_iff hs h1 h).mpr ?_, hle⟩
  have g := dvu_ge (x := lo + m * (s * n / m)) hs
  have := Int.mul_le_mul_of_nonneg_left hle (Int.le_of_lt hs)
  omega
theorem down_lst {s m lo hi k : Int} (hs : 0 < s) (hm : 0 < m) (h0 : 0 < lo) (h1 : lo ≤ hi) (h2 : hi < m) (h : hi < s * dvu lo s) (hk : Lst (HitM (-m % s) s (lo % s) (hi % s)) k) : Lst (HitM s m lo hi) (dvu (lo + m * k) s) := by
  obtain ⟨k0, k1, k2⟩ := hk
  have c := (down_iff hs h1 h).mp k1
  have g := dvu_ge (x := lo + m * k) hs
  have pmk := Int.mul_nonneg (Int.le_of_lt hm) k0
  have pos : 0 ≤ dvu (lo + m * k) s := by
    rcases Int.lt_or_le (dvu (lo + m * k) s) 0 with z | z
    · have := Int.mul_le_mul_of_nonneg_left (show dvu (lo + m * k) s ≤ 0 by omega) (Int.le_of_lt hs)
      rw [Int.mul_zero] at this
      omega
    · exact z
  refine ⟨pos, ?_, fun n n0 n1 hn => ?_⟩
  · unfold HitM
    rw [mod_of (x := s * dvu (lo + m * k) s) (r := s * dvu (lo + m * k) s - m * k) (k := k) (by omega) (by omega) (by omega)]
    exact c
  · obtain ⟨b0, b1, b2⟩ := down_hit hs hm h0 h1 h n0 hn
    have hkk : k ≤ s * n / m := by
      rcases Int.lt_or_le (s * n / m) k with z | z
      · exact absurd b1 (k2 _ b0 z)
      · exact z
    have hmk := Int.mul_le_mul_of_nonneg_left hkk (Int.le_of_lt hm)
    have : dvu (lo + m * k) s ≤ dvu (lo + m * (s * n / m)) s := by
      rw [dvu_le hs]
      have := dvu_ge (x := lo + m * (s * n / m)) hs
      omega
    omega
theorem down_none {s m lo hi : Int} (hs : 0 < s) (hm : 0 < m) (h0 : 0 < lo) (h1 : lo ≤ hi) (h : hi < s * dvu lo s) (hk : NoM (HitM (-m % s) s (lo % s) (hi % s))) : NoM (HitM s m lo hi) := fun n n0 hn => by
  obtain ⟨b0, b1, _⟩ := down_hit hs hm h0 h1 h n0 hn
  exact hk _ b0 b1
/-! ### the levels -/
def unw : List (Int × Int × Int) → Int → Int
  | [], n => n
  | (s, m, l) :: r, n => dvu (l + m * unw r n) s
theorem unw_snoc : ∀ (L : List (Int × Int × Int)) (s m l n : Int), unw (L ++ [(s, m, l)]) n = unw L (dvu (l + m * n) s)
  | [], _, _, _, _ => rfl
  | (s', m', l') :: r, s, m, l, n => by
    show dvu (l' + m' * unw (r ++ [(s, m, l)]) n) s' = dvu (l' + m' * unw r (dvu (l + m * n) s)) s'
    rw [unw_snoc r]
structure FM (s0 m0 lo0 hi0 : Int) (L : List (Int × Int × Int)) (s m lo hi : Int) : Prop where
  s0' : 0 ≤ s
  sm : s < m
  l0 : 0 < lo
  lh : lo ≤ hi
  hm : hi < m
  mm : m ≤ m0
  a : ∀ n, Lst (HitM s m lo hi) n → Lst (HitM s0 m0 lo0 hi0) (unw L n)
  b : NoM (HitM s m lo hi) → NoM (HitM s0 m0 lo0 hi0)
  c : ∀ L1 L2, L = L1 ++ L2 → ∀ n, Lst (HitM s m lo hi) n → 0 ≤ unw L2 n ∧ unw L2 n ≤ m0
  d : ∀ e ∈ L, 0 < e.1 ∧ e.1 ≤ m0 ∧ 0 ≤ e.2.1 ∧ e.2.1 ≤ m0 ∧ 0 ≤ e.2.2 ∧ e.2.2 ≤ m0
theorem FM.init {s m lo hi : Int} (h0 : 0 ≤ s) (h1 : s < m) (h2 : 0 < lo) (h3 : lo ≤ hi) (h4 : hi < m) : FM s m lo hi [] s m lo hi :=
  ⟨h0, h1, h2, h3, h4, Int.le_refl _, fun _ h => h, fun h => h, fun L1 L2 e n hn => by
    have : L2 = [] := (List.append_eq_nil_iff.mp e.symm).2
    subst this
    have := lst_lt (by omega) hn
    exact ⟨hn.1, by show n ≤ m; omega⟩, by simp⟩
theorem FM.flip {s0 m0 lo0 hi0 s m lo hi : Int} {L : List (Int × Int × Int)} (F : FM s0 m0 lo0 hi0 L s m lo hi) (h : 0 < s) : FM s0 m0 lo0 hi0 L (m - s) m (m - hi) (m - lo) := by
  have l0 := F.l0
  have lh := F.lh
  have hm := F.hm
  have sm := F.sm
  have fl : ∀ n, HitM (m - s) m (m - hi) (m - lo) n ↔ HitM s m lo hi n := fun n => hit_flip l0 lh hm
  exact ⟨by omega, by omega, by omega, by omega, by omega, F.mm, fun n hn => F.a n ((lst_iff fl n).mp hn), fun hn => F.b fun n n0 z => hn n n0 ((fl n).mpr z),
    fun L1 L2 e n hn => F.c L1 L2 e n ((lst_iff fl n).mp hn), F.d⟩
theorem FM.down {s0 m0 lo0 hi0 s m lo hi : Int} {L : List (Int × Int × Int)} (F : FM s0 m0 lo0 hi0 L s m lo hi) (hs : 0 < s) (h : hi < s * dvu lo s) : FM s0 m0 lo0 hi0 (L ++ [(s, m, lo)]) (-m % s) s (lo % s) (hi % s) := by
  have l0 := F.l0
  have lh := F.lh
  have hm := F.hm
  have sm := F.sm
  have mm := F.mm
  obtain ⟨d1, d2, d3⟩ := down_facts hs lh h
  refine ⟨Int.emod_nonneg _ (by omega), Int.emod_lt_of_pos _ hs, d1, d3, Int.emod_lt_of_pos _ hs, by omega, fun n hn => ?_, fun hn => F.b (down_none hs (by omega) l0 lh h hn), fun L1 L2 e n hn => ?_, fun e he => ?_⟩
  · rw [unw_snoc]
    exact F.a _ (down_lst hs (by omega) l0 lh hm h hn)
  · have hd := down_lst hs (by omega) l0 lh hm h hn
    rcases List.eq_nil_or_concat L2 with z | ⟨L3, x, z⟩
    · subst z
      have := lst_lt hs hn
      exact ⟨hn.1, by show n ≤ m0; omega⟩
    · have z2 : L2 = L3 ++ [x] := by simpa using z
      subst z2
      have e' : L ++ [(s, m, lo)] = (L1 ++ L3) ++ [x] := by rw [List.append_assoc]; exact e
      obtain ⟨e1, e2⟩ := List.append_inj' e' rfl
      have e3 : (s, m, lo) = x := by simpa using e2
      rw [← e3, unw_snoc]
      exact F.c L1 L3 e1 _ hd
  · rcases List.mem_append.mp he with z | z
    · exact F.d e z
    · rw [List.mem_singleton.mp z]
      exact ⟨hs, by show s ≤ m0; omega, by show 0 ≤ m; omega, mm, by show 0 ≤ lo; omega, by show lo ≤ m0; omega⟩
end Lf
namespace Lf
def HitP (pl s m lo hi n : Int) : Prop := lo ≤ (pl + s * n) % m ∧ (pl + s * n) % m ≤ hi
theorem hitp_zero {pl s m lo hi : Int} (h : lo ≤ pl % m ∧ pl % m ≤ hi) : Lst (HitP pl s m lo hi) 0 := by
  refine ⟨Int.le_refl _, ?_, fun k h0 h1 => by omega⟩
  unfold HitP
  rw [Int.mul_zero, Int.add_zero]
  exact h
theorem near_facts {pl m lo hi : Int} (h0 : 0 ≤ lo) (h1 : lo ≤ hi) (h2 : hi < m) (h : ¬ (lo ≤ pl % m ∧ pl % m ≤ hi)) :
    ((lo - pl) % m = lo - pl % m ∧ pl % m < lo) ∨ ((lo - pl) % m = lo - pl % m + m ∧ hi < pl % m) := by
  have hm : 0 < m := by omega
  have e := Int.emod_add_mul_ediv pl m
  have r0 := Int.emod_nonneg pl (show m ≠ 0 by omega)
  have r1 := Int.emod_lt_of_pos pl hm
  rcases Int.lt_or_le (pl % m) lo with z | z
  · exact .inl ⟨mod_of (k := -(pl / m)) (by omega) (by omega) (by rw [Int.mul_neg]; omega), z⟩
  · exact .inr ⟨mod_of (k := -(pl / m) - 1) (by omega) (by omega) (by rw [Int.mul_sub, Int.mul_neg]; omega), by omega⟩
theorem hitp_iff {pl s m lo hi n : Int} (h0 : 0 ≤ lo) (h1 : lo ≤ hi) (h2 : hi < m) (h : ¬ (lo ≤ pl % m ∧ pl % m ≤ hi)) :
    HitP pl s m lo hi n ↔ HitM (s % m) m ((lo - pl) % m) ((lo - pl) % m + hi - lo) n := by
  have hm : 0 < m := by omega
  have e := Int.emod_add_mul_ediv pl m
  have r0 := Int.emod_nonneg pl (show m ≠ 0 by omega)
  have r1 := Int.emod_lt_of_pos pl hm
  have ey := Int.emod_add_mul_ediv (s * n) m
  have y0 := Int.emod_nonneg (s * n) (show m ≠ 0 by omega)
  have y1 := Int.emod_lt_of_pos (s * n) hm
  have em : s % m * n % m = s * n % m := by
    have es := Int.emod_add_mul_ediv s m
    have : s * n = s % m * n + m * (s / m * n) := by
      rw [← Int.mul_assoc, ← Int.add_mul, es]
    rw [this, Int.add_mul_emod_self_left]
  have nf := near_facts h0 h1 h2 h
  unfold HitP HitM
  rw [em]
  by_cases hc : pl % m + s * n % m < m
  · rw [mod_of (x := pl + s * n) (r := pl % m + s * n % m) (k := pl / m + s * n / m) (by omega) hc (by rw [Int.mul_add]; omega)]
    rcases nf with ⟨nf, z⟩ | ⟨nf, z⟩ <;> rw [nf] <;> omega
  · rw [mod_of (x := pl + s * n) (r := pl % m + s * n % m - m) (k := pl / m + s * n / m + 1) (by omega) (by omega) (by rw [Int.mul_add, Int.mul_add]; omega)]
    rcases nf with ⟨nf, z⟩ | ⟨nf, z⟩ <;> rw [nf] <;> omega
/-! ### how often -/
def ch (N : Nat) (s pl m lo hi : Int) : Int := fs N s (pl - lo) m - fs N s (pl - hi - 1) m
theorem hit_term {x m lo hi : Int} (h0 : 0 ≤ lo) (h1 : lo ≤ hi) (h2 : hi < m) (h : ¬ (lo ≤ x % m ∧ x % m ≤ hi)) : (x - lo) / m = (x - hi - 1) / m := by
  have hm : 0 < m := by omega
  have e := Int.emod_add_mul_ediv x m
  have r0 := Int.emod_nonneg x (show m ≠ 0 by omega)
  have r1 := Int.emod_lt_of_pos x hm
  rcases Int.lt_or_le (x % m) lo with z | z
  · have a := div_shift (x % m - lo + m) (x / m - 1) m hm
    have b := div_shift (x % m - hi - 1 + m) (x / m - 1) m hm
    have qa : (x % m - lo + m) / m = 0 := Int.ediv_eq_zero_of_lt (by omega) (by omega)
    have qb : (x % m - hi - 1 + m) / m = 0 := Int.ediv_eq_zero_of_lt (by omega) (by omega)
    rw [Int.mul_sub, qa] at a
    rw [Int.mul_sub, qb] at b
    rw [show x - lo = x % m - lo + m + (m * (x / m) - m * 1) by omega, show x - hi - 1 = x % m - hi - 1 + m + (m * (x / m) - m * 1) by omega, a, b]
  · have a := div_shift (x % m - lo) (x / m) m hm
    have b := div_shift (x % m - hi - 1) (x / m) m hm
    have qa : (x % m - lo) / m = 0 := Int.ediv_eq_zero_of_lt (by omega) (by omega)
    have qb : (x % m - hi - 1) / m = 0 := Int.ediv_eq_zero_of_lt (by omega) (by omega)
    rw [qa] at a
    rw [qb] at b
    rw [show x - lo = x % m - lo + m * (x / m) by omega, show x - hi - 1 = x % m - hi - 1 + m * (x / m) by omega, a, b]
theorem ch_zero {N : Nat} {s pl m lo hi : Int} (h0 : 0 ≤ lo) (h1 : lo ≤ hi) (h2 : hi < m) (h : ∀ n : Nat, n < N → ¬ HitP pl s m lo hi n) : ch N s pl m lo hi = 0 := by
  unfold ch
  induction N with
  | zero => rfl
  | succ N ih =>
    show fs N s (pl - lo) m + (s * N + (pl - lo)) / m - (fs N s (pl - hi - 1) m + (s * N + (pl - hi - 1)) / m) = 0
    have ih := ih fun n hn => h n (by omega)
    have t := hit_term (x := pl + s * N) h0 h1 h2 (h N (by omega))
    rw [show pl + s * (N : Int) - lo = s * N + (pl - lo) by omega, show pl + s * (N : Int) - hi - 1 = s * N + (pl - hi - 1) by omega] at t
    omega
theorem res_of_hit {x q k r : Int} (hq : 0 < q) (hk : 0 < k) (h0 : 0 ≤ r) (h1 : r < k) (h : q * r ≤ x % (k * q) ∧ x % (k * q) ≤ q * (r + 1) - 1) : x / q % k = r := by
  have e := Int.emod_add_mul_ediv x (k * q)
  have hy : x / q = r + k * (x / (k * q)) := by
    have : x = (x % (k * q) - q * r) + q * (r + k * (x / (k * q))) := by
      rw [Int.mul_add, ← Int.mul_assoc, Int.mul_comm q k]
      omega
    rw [this, div_shift _ _ _ hq, Int.ediv_eq_zero_of_lt (by omega) (by rw [Int.mul_add] at h; omega)]
    rw [← this]
    omega
  exact mod_of h0 h1 hy
end Lf
namespace Lf
theorem lstp_lt {pl s m lo hi n : Int} (hm : 0 < m) (h : Lst (HitP pl s m lo hi) n) : n < m := by
  obtain ⟨h0, h1, h2⟩ := h
  rcases Int.lt_or_le n m with z | z
  · exact z
  · refine absurd ?_ (h2 (n - m) (by omega) (by omega))
    unfold HitP at *
    rw [show pl + s * (n - m) = pl + s * n + m * (-s) by rw [Int.mul_sub, Int.mul_neg, Int.mul_comm m s]; omega, Int.add_mul_emod_self_left]
    exact h1
theorem lst_unique {P : Int → Prop} {n n' : Int} (h : Lst P n) (h' : Lst P n') : n = n' := by
  obtain ⟨a, b, c⟩ := h
  obtain ⟨a', b', c'⟩ := h'
  rcases Int.lt_trichotomy n n' with z | z | z
  · exact absurd b (c' n a z)
  · exact z
  · exact absurd b' (c n' a' z)
theorem hitp_period {p t c M lo hi n : Int} : HitP (p * (t + M) + c) p M lo hi n ↔ HitP (p * t + c) p M lo hi n := by
  unfold HitP
  rw [show p * (t + M) + c + p * n = p * t + c + p * n + M * p by rw [Int.mul_add, Int.mul_comm M p]; omega, Int.add_mul_emod_self_left]
theorem ch_arc (N : Nat) (p b M q r : Int) : ch N p b M (q * r) (q * (r + 1) - 1) = fs N p (b - q * r) M - fs N p (b - q * (r + 1)) M := by
  unfold ch
  rw [show b - (q * (r + 1) - 1) - 1 = b - q * (r + 1) by omega]
theorem sum_ch (N : Nat) (p b M q : Int) (j : Nat) : ((List.range j).map fun (r : Nat) => ch N p b M (q * r) (q * (r + 1) - 1)).sum = fs N p b M - fs N p (b - q * j) M := by
  induction j with
  | zero => simp
  | succ j ih =>
    rw [List.range_succ, List.map_append, List.sum_append, ih]
    show _ + (ch N p b M (q * j) (q * (j + 1) - 1) + 0) = _
    rw [ch_arc, show ((j + 1 : Nat) : Int) = j + 1 by omega]
    omega
theorem sum_ch_all (N : Nat) (p b q k : Int) (hk : 1 ≤ k) (hq : 1 ≤ q) : ((List.range k.toNat).map fun (r : Nat) => ch N p b (k * q) (q * r) (q * (r + 1) - 1)).sum = N := by
  have hm : 0 < k * q := by
    have := one_le_mul hk hq
    omega
  rw [sum_ch, show ((k.toNat : Nat) : Int) = k by omega, Int.mul_comm q k]
  have := fs_up N p (b - k * q) (k * q) hm
  rw [show b - k * q + k * q = b by omega] at this
  omega
theorem ch_split (p c M lo hi s m e : Int) (h1 : s ≤ m) (h2 : m ≤ e) : ch (m - s).toNat p (p * s + c) M lo hi + ch (e - m).toNat p (p * m + c) M lo hi = ch (e - s).toNat p (p * s + c) M lo hi := by
  unfold ch
  have a := fs_split p M (c - lo) s m e h1 h2
  have b := fs_split p M (c - hi - 1) s m e h1 h2
  rw [show p * s + (c - lo) = p * s + c - lo by omega, show p * m + (c - lo) = p * m + c - lo by omega] at a
  rw [show p * s + (c - hi - 1) = p * s + c - hi - 1 by omega, show p * m + (c - hi - 1) = p * m + c - hi - 1 by omega] at b
  omega
end Lf
namespace Lf
/-! ### windows -/
theorem dvu_cases {x q : Int} (hq : 0 < q) : (x % q = 0 ∧ dvu x q = x / q) ∨ (0 < x % q ∧ dvu x q = x / q + 1) := by
  have e := Int.emod_add_mul_ediv x q
  have r0 := Int.emod_nonneg x (show q ≠ 0 by omega)
  have r1 := Int.emod_lt_of_pos x hq
  have g := dvu_ge (x := x) hq
  have l := dvu_lt (x := x) hq
  rcases Int.lt_or_eq_of_le r0 with z | z
  · refine .inr ⟨z, ?_⟩
    have a1 : q * (x / q) < q * dvu x q := by omega
    have a2 := Int.lt_of_mul_lt_mul_left a1 (Int.le_of_lt hq)
    have a3 : q * dvu x q < q * (x / q + 2) := by rw [Int.mul_add]; omega
    have a4 := Int.lt_of_mul_lt_mul_left a3 (Int.le_of_lt hq)
    omega
  · refine .inl ⟨z.symm, ?_⟩
    have a1 : q * (x / q) < q * (dvu x q + 1) := by rw [Int.mul_add]; omega
    have a2 := Int.lt_of_mul_lt_mul_left a1 (Int.le_of_lt hq)
    have a3 : q * dvu x q < q * (x / q + 1) := by rw [Int.mul_add]; omega
    have a4 := Int.lt_of_mul_lt_mul_left a3 (Int.le_of_lt hq)
    omega
/-- the arc of the full windows -/
theorem farc {x q : Int} (hq : 0 < q) : 0 ≤ q * dvu x q - x ∧ q * dvu x q - x ≤ q - 1 := by
  have g := dvu_ge (x := x) hq
  have l := dvu_lt (x := x) hq
  omega
/-- the events of a window -/
theorem win_ev {p q c w t : Int} (hq : 0 < q) : (p * (t + w) + c) / q - (p * t + c) / q = if q * dvu (p * w) q - p * w ≤ (p * t + c) % q then dvu (p * w) q else p * w / q := by
  have e := Int.emod_add_mul_ediv (p * t + c) q
  have r0 := Int.emod_nonneg (p * t + c) (show q ≠ 0 by omega)
  have r1 := Int.emod_lt_of_pos (p * t + c) hq
  have ew := Int.emod_add_mul_ediv (p * w) q
  have w0 := Int.emod_nonneg (p * w) (show q ≠ 0 by omega)
  have w1 := Int.emod_lt_of_pos (p * w) hq
  have ex : p * (t + w) + c = ((p * t + c) % q + p * w % q) + q * ((p * t + c) / q + p * w / q) := by
    rw [Int.mul_add, Int.mul_add]
    omega
  rw [ex, div_shift _ _ _ hq]
  rcases dvu_cases (x := p * w) hq with ⟨h1, h2⟩ | ⟨h1, h2⟩
  · rw [h2, if_pos (by omega), Int.ediv_eq_zero_of_lt (by omega) (by omega)]
    omega
  · rw [h2]
    by_cases hc : q * (p * w / q + 1) - p * w ≤ (p * t + c) % q
    · rw [if_pos hc]
      rw [Int.mul_add, Int.mul_one] at hc
      have := div_shift ((p * t + c) % q + p * w % q - q) 1 q hq
      have qz : ((p * t + c) % q + p * w % q - q) / q = 0 := Int.ediv_eq_zero_of_lt (by omega) (by omega)
      rw [qz, show (p * t + c) % q + p * w % q - q + q * 1 = (p * t + c) % q + p * w % q by omega] at this
      omega
    · rw [if_neg hc]
      rw [Int.mul_add, Int.mul_one] at hc
      rw [Int.ediv_eq_zero_of_lt (by omega) (by omega)]
      omega
/-- every remainder occurs -/
theorem hit_some {p q x lo : Int} (hq : 0 < q) (hg : Int.gcd p q = 1) (h1 : lo ≤ q - 1) : ¬ NoM (HitP x p q lo (q - 1)) := fun hno => by
  have st := fs_step p q x hq hg
  rcases fs_step_le p q x hq hg q.toNat (by omega) with ⟨h, _⟩ | ⟨_, i, _, hi⟩
  · omega
  · refine hno i (by omega) ?_
    unfold HitP
    have e := Int.emod_add_mul_ediv (p * i + (x + 1)) q
    rw [mod_of (x := x + p * i) (r := q - 1) (k := (p * i + (x + 1)) / q - 1) (by omega) (by omega) (by rw [Int.mul_sub]; omega)]
    omega
theorem ch_cycle {p q x lo : Int} (hq : 0 < q) (hg : Int.gcd p q = 1) : ch q.toNat p x q lo (q - 1) = q - lo := by
  unfold ch
  rw [fs_any p q (x - lo) hq hg, fs_any p q (x - (q - 1) - 1) hq hg]
  omega
theorem fs_ups (N : Nat) (a b q j : Int) (hq : 0 < q) : fs N a (b + j * q) q = fs N a b q + j * N := by
  have := fs_lin N a b q 0 j hq
  rw [Int.zero_mul, Int.add_zero, Int.zero_mul] at this
  omega
/-- sums over windows -/
theorem win_sum {N : Nat} {p q c w s : Int} (hq : 0 < q) (h : 0 < p * w % q) : fs N p (p * (s + w) + c) q - fs N p (p * s + c) q = N * (p * w / q) + ch N p (p * s + c) q (q * dvu (p * w) q - p * w) (q - 1) := by
  have ew := Int.emod_add_mul_ediv (p * w) q
  rcases dvu_cases (x := p * w) hq with ⟨h1, h2⟩ | ⟨h1, h2⟩
  · omega
  · unfold ch
    have a := fs_ups N p (p * s + c + p * w % q) q (p * w / q) hq
    have b := fs_ups N p (p * s + c + p * w % q) q (-1) hq
    have d := fs_ups N p (p * s + c) q (-1) hq
    rw [show p * s + c + p * w % q + p * w / q * q = p * (s + w) + c by rw [Int.mul_add, Int.mul_comm (p * w / q) q]; omega, Int.mul_comm _ (N : Int)] at a
    rw [show p * s + c + p * w % q + -1 * q = p * s + c - (q * dvu (p * w) q - p * w) by rw [h2, Int.mul_add]; omega] at b
    rw [show p * s + c + -1 * q = p * s + c - (q - 1) - 1 by omega] at d
    omega
theorem win_sum0 {N : Nat} {p q c w s : Int} (hq : 0 < q) (h : p * w % q = 0) : fs N p (p * (s + w) + c) q - fs N p (p * s + c) q = N * (p * w / q) := by
  have ew := Int.emod_add_mul_ediv (p * w) q
  have a := fs_ups N p (p * s + c) q (p * w / q) hq
  rw [show p * s + c + p * w / q * q = p * (s + w) + c by rw [Int.mul_add, Int.mul_comm (p * w / q) q]; omega, Int.mul_comm _ (N : Int)] at a
  omega
/-- widths w and q - w together -/
theorem win_pair {N : Nat} {p q c w s : Int} (hq : 0 < q) (h : 0 < p * w % q) : ch N p (p * s + c) q (q * dvu (p * w) q - p * w) (q - 1) + ch N p (p * (s + w) + c) q (q * dvu (p * (q - w)) q - p * (q - w)) (q - 1) = N := by
  have ew := Int.emod_add_mul_ediv (p * w) q
  have w1 := Int.emod_lt_of_pos (p * w) hq
  have e2 : p * (q - w) % q = q - p * w % q := mod_of (k := p - p * w / q - 1) (by omega) (by omega) (by rw [Int.mul_sub, Int.mul_sub, Int.mul_sub, Int.mul_comm q p]; omega)
  have ew2 := Int.emod_add_mul_ediv (p * (q - w)) q
  have ws := win_sum (N := N) (c := c) (s := s) hq h
  have ws2 := win_sum (N := N) (p := p) (c := c) (s := s + w) (w := q - w) hq (by omega)
  rw [show s + w + (q - w) = s + q by omega] at ws2
  have u := fs_ups N p (p * s + c) q p hq
  rw [show p * s + c + p * q = p * (s + q) + c by rw [Int.mul_add]; omega, Int.mul_comm p (N : Int)] at u
  have hs : p * w / q + p * (q - w) / q = p - 1 := by
    have : q * (p * w / q + p * (q - w) / q) = q * (p - 1) := by
      rw [Int.mul_add, Int.mul_sub q p 1, Int.mul_comm q p]
      rw [Int.mul_sub p q w] at ew2 e2
      rw [Int.mul_sub p q w]
      omega
    exact Int.eq_of_mul_eq_mul_left (by omega) this
  have hn : (N : Int) * (p * w / q) + N * (p * (q - w) / q) = N * p - N := by
    rw [← Int.mul_add, hs, Int.mul_sub, Int.mul_one]
  omega
end Lf
namespace Lf
theorem hit_of_res {x q k r : Int} (hq : 0 < q) (h0 : 0 ≤ r) (h1 : r < k) (h : x / q % k = r) : q * r ≤ x % (k * q) ∧ x % (k * q) ≤ q * (r + 1) - 1 := by
  have e := Int.emod_add_mul_ediv x q
  have r0 := Int.emod_nonneg x (show q ≠ 0 by omega)
  have r1 := Int.emod_lt_of_pos x hq
  have e2 := Int.emod_add_mul_ediv (x / q) k
  rw [h] at e2
  have b := Int.mul_le_mul_of_nonneg_left (show r + 1 ≤ k by omega) (show 0 ≤ q by omega)
  rw [Int.mul_comm q k, Int.mul_add] at b
  have p := Int.mul_nonneg (show 0 ≤ q by omega) h0
  rw [mod_of (x := x) (r := q * r + x % q) (k := x / q / k) (by omega) (by omega) (by
    rw [show k * q * (x / q / k) = q * (k * (x / q / k)) by rw [Int.mul_comm k q, Int.mul_assoc], show k * (x / q / k) = x / q - r by omega, Int.mul_sub]
    omega), Int.mul_add]
  omega
theorem hit_term1 {x m lo hi : Int} (h2 : hi < m) (h0 : 0 ≤ lo) (h : lo ≤ x % m ∧ x % m ≤ hi) : (x - lo) / m = (x - hi - 1) / m + 1 := by
  have hm : 0 < m := by omega
  have e := Int.emod_add_mul_ediv x m
  have r1 := Int.emod_lt_of_pos x hm
  have a := div_shift (x % m - lo) (x / m) m hm
  have b := div_shift (x % m - hi - 1 + m) (x / m - 1) m hm
  have qa : (x % m - lo) / m = 0 := Int.ediv_eq_zero_of_lt (by omega) (by omega)
  have qb : (x % m - hi - 1 + m) / m = 0 := Int.ediv_eq_zero_of_lt (by omega) (by omega)
  rw [qa] at a
  rw [Int.mul_sub, qb] at b
  rw [show x - lo = x % m - lo + m * (x / m) by omega, show x - hi - 1 = x % m - hi - 1 + m + (m * (x / m) - m * 1) by omega, a, b]
  omega
theorem ch_count {p q c s k r : Int} (N : Nat) (hq : 1 ≤ q) (h0 : 0 ≤ r) (h1 : r < k) : ch N p (p * s + c) (k * q) (q * r) (q * (r + 1) - 1) = (((List.range N).map fun j => trm p q c s j % k).count r : Nat) := by
  have a1 : 0 ≤ q * r := Int.mul_nonneg (by omega) h0
  have b := Int.mul_le_mul_of_nonneg_left (show r + 1 ≤ k by omega) (show 0 ≤ q by omega)
  rw [Int.mul_comm q k] at b
  have a2 : q * r ≤ q * (r + 1) - 1 := by rw [Int.mul_add]; omega
  unfold ch
  induction N with
  | zero => rfl
  | succ N ih =>
    rw [List.range_succ, List.map_append, List.count_append, Int.natCast_add, ← ih]
    show fs N p (p * s + c - q * r) (k * q) + (p * N + (p * s + c - q * r)) / (k * q) - (fs N p (p * s + c - (q * (r + 1) - 1) - 1) (k * q) + (p * N + (p * s + c - (q * (r + 1) - 1) - 1)) / (k * q)) = _ + (([trm p q c s N % k].count r : Nat) : Int)
    have ex : trm p q c s N = (p * (s + N) + c) / q := rfl
    by_cases hc : trm p q c s N % k = r
    · have t := hit_term1 (x := p * (s + N) + c) (m := k * q) (lo := q * r) (hi := q * (r + 1) - 1) (by omega) a1 (hit_of_res (by omega) h0 h1 (by rw [← ex]; exact hc))
      rw [hc, List.count_singleton_self]
      rw [show p * (s + (N : Int)) + c - q * r = p * N + (p * s + c - q * r) by rw [Int.mul_add]; omega, show p * (s + (N : Int)) + c - (q * (r + 1) - 1) - 1 = p * N + (p * s + c - (q * (r + 1) - 1) - 1) by rw [Int.mul_add p s]; omega] at t
      omega
    · have t := hit_term (x := p * (s + N) + c) (m := k * q) (lo := q * r) (hi := q * (r + 1) - 1) a1 a2 (by omega) (fun z => hc (by rw [ex]; exact res_of_hit (by omega) (by omega) h0 h1 z))
      rw [List.count_eq_zero.mpr (by simpa using fun z => hc z.symm)]
      rw [show p * (s + (N : Int)) + c - q * r = p * N + (p * s + c - q * r) by rw [Int.mul_add]; omega, show p * (s + (N : Int)) + c - (q * (r + 1) - 1) - 1 = p * N + (p * s + c - (q * (r + 1) - 1) - 1) by rw [Int.mul_add p s]; omega] at t
      omega
theorem least_of {P : Nat → Prop} : ∀ (M : Nat), (∃ n, n < M ∧ P n) → ∃ n, n < M ∧ P n ∧ ∀ m, m < n → ¬ P m
  | 0, ⟨n, h, _⟩ => absurd h (by omega)
  | M + 1, ⟨n, h, hp⟩ => by
    by_cases hm : ∃ n, n < M ∧ P n
    · obtain ⟨a, b, c, d⟩ := least_of M hm
      exact ⟨a, by omega, c, d⟩
    · refine ⟨n, h, hp, fun m hmn hpm => hm ⟨m, by omega, hpm⟩⟩
theorem hitp_res {p q c s k r : Int} {n : Nat} (hq : 1 ≤ q) (h0 : 0 ≤ r) (h1 : r < k) : HitP (p * s + c) p (k * q) (q * r) (q * (r + 1) - 1) n ↔ trm p q c s n % k = r := by
  unfold HitP trm
  rw [show p * s + c + p * (n : Int) = p * (s + n) + c by rw [Int.mul_add]; omega]
  exact ⟨fun h => res_of_hit (by omega) (by omega) h0 h1 h, fun h => hit_of_res (by omega) h0 h1 h⟩
end Lf
namespace Lf
def wev (p q c w s : Int) (n : Nat) : Int := (p * (s + n + w) + c) / q - (p * (s + n) + c) / q
theorem wev_hit {p q c w s : Int} (hq : 0 < q) (n : Nat) : wev p q c w s n = dvu (p * w) q ↔ HitP (p * s + c) p q (q * dvu (p * w) q - p * w) (q - 1) n := by
  unfold wev HitP
  have r1 := Int.emod_lt_of_pos (p * (s + n) + c) hq
  have r0 := Int.emod_nonneg (p * (s + n) + c) (show q ≠ 0 by omega)
  rw [win_ev hq, show p * s + c + p * (n : Int) = p * (s + n) + c by rw [Int.mul_add]; omega]
  by_cases hc : q * dvu (p * w) q - p * w ≤ (p * (s + n) + c) % q
  · rw [if_pos hc]
    exact ⟨fun _ => ⟨hc, by omega⟩, fun _ => rfl⟩
  · rw [if_neg hc]
    refine ⟨fun h => ?_, fun h => absurd h.1 hc⟩
    have ew := Int.emod_add_mul_ediv (p * w) q
    rcases dvu_cases (x := p * w) hq with ⟨h1, h2⟩ | ⟨h1, h2⟩
    · rw [h2] at hc
      omega
    · omega
theorem wev_two {p q c w s : Int} (hq : 0 < q) (n : Nat) : p * w / q ≤ wev p q c w s n ∧ wev p q c w s n ≤ dvu (p * w) q := by
  unfold wev
  rw [win_ev hq]
  have hle : p * w / q ≤ dvu (p * w) q := by
    rcases dvu_cases (x := p * w) hq with ⟨_, h2⟩ | ⟨_, h2⟩ <;> omega
  by_cases hc : q * dvu (p * w) q - p * w ≤ (p * (s + n) + c) % q
  · rw [if_pos hc]; omega
  · rw [if_neg hc]; omega
theorem hit_turn {pl p q lo hi m : Int} (h : HitP pl p q lo hi m) : HitP pl p q lo hi (m % q) := by
  have em := Int.emod_add_mul_ediv m q
  unfold HitP at h ⊢
  rw [show pl + p * m = pl + p * (m % q) + q * (p * (m / q)) by
    have : p * (m % q + q * (m / q)) = p * m := by rw [em]
    rw [Int.mul_add] at this
    rw [Int.mul_left_comm q p]
    omega, Int.add_mul_emod_self_left] at h
  exact h
theorem wev_max {p q c w s : Int} (hq : 0 < q) (hg : Int.gcd p q = 1) : ∃ n : Nat, (n : Int) < q ∧ wev p q c w s n = dvu (p * w) q := by
  have hs := hit_some (p := p) (q := q) (x := p * s + c) (lo := q * dvu (p * w) q - p * w) hq hg (farc hq).2
  have : ∃ m, 0 ≤ m ∧ HitP (p * s + c) p q (q * dvu (p * w) q - p * w) (q - 1) m := by
    apply Classical.byContradiction
    intro hn
    exact hs fun m m0 hm => hn ⟨m, m0, hm⟩
  obtain ⟨m, m0, hm⟩ := this
  have h2 := hit_turn hm
  have r0 := Int.emod_nonneg m (show q ≠ 0 by omega)
  have r1 := Int.emod_lt_of_pos m hq
  obtain ⟨n, hn⟩ := Int.eq_ofNat_of_zero_le r0
  rw [hn] at h2 r1
  exact ⟨n, r1, (wev_hit hq n).mpr h2⟩
theorem wev_min {p q c w s : Int} (hq : 0 < q) (hg : Int.gcd p q = 1) : ∃ n : Nat, (n : Int) < q ∧ wev p q c w s n = p * w / q := by
  rcases dvu_cases (x := p * w) hq with ⟨h1, h2⟩ | ⟨h1, h2⟩
  · obtain ⟨n, hn, e⟩ := wev_max (c := c) (w := w) (s := s) hq hg
    exact ⟨n, hn, by rw [e, h2]⟩
  · have st := fs_step p q (p * s + c - 1) hq hg
    rcases fs_step_le p q (p * s + c - 1) hq hg q.toNat (by omega) with ⟨h, _⟩ | ⟨_, i, hi, hz⟩
    · omega
    · refine ⟨i, by omega, ?_⟩
      unfold wev
      have ew := Int.emod_add_mul_ediv (p * w) q
      have w1 := Int.emod_lt_of_pos (p * w) hq
      rw [win_ev hq, show p * (s + (i : Int)) + c = p * i + (p * s + c - 1 + 1) by rw [Int.mul_add]; omega, hz, if_neg (by rw [h2, Int.mul_add]; omega)]
theorem ch_wcount {p q c w s : Int} (hq : 0 < q) (N : Nat) : ch N p (p * s + c) q (q * dvu (p * w) q - p * w) (q - 1) = (((List.range N).map (wev p q c w s)).count (dvu (p * w) q) : Nat) := by
  obtain ⟨a1, a2⟩ := farc (x := p * w) hq
  unfold ch
  induction N with
  | zero => rfl
  | succ N ih =>
    rw [List.range_succ, List.map_append, List.count_append, Int.natCast_add, ← ih]
    show fs N p (p * s + c - (q * dvu (p * w) q - p * w)) q + (p * N + (p * s + c - (q * dvu (p * w) q - p * w))) / q - (fs N p (p * s + c - (q - 1) - 1) q + (p * N + (p * s + c - (q - 1) - 1)) / q) = _ + (([wev p q c w s N].count (dvu (p * w) q) : Nat) : Int)
    have hx : p * s + c + p * (N : Int) = p * (s + N) + c := by rw [Int.mul_add]; omega
    by_cases hc : wev p q c w s N = dvu (p * w) q
    · have hh := (wev_hit hq N).mp hc
      unfold HitP at hh
      have t := hit_term1 (x := p * s + c + p * N) (m := q) (lo := q * dvu (p * w) q - p * w) (hi := q - 1) (by omega) a1 hh
      rw [hc, List.count_singleton_self]
      rw [show p * s + c + p * (N : Int) - (q * dvu (p * w) q - p * w) = p * N + (p * s + c - (q * dvu (p * w) q - p * w)) by omega, show p * s + c + p * (N : Int) - (q - 1) - 1 = p * N + (p * s + c - (q - 1) - 1) by omega] at t
      omega
    · have t := hit_term (x := p * s + c + p * N) (m := q) (lo := q * dvu (p * w) q - p * w) (hi := q - 1) a1 a2 (by omega) (fun z => hc ((wev_hit hq N).mpr z))
      rw [List.count_eq_zero.mpr (by simpa using fun z => hc z.symm)]
      rw [show p * s + c + p * (N : Int) - (q * dvu (p * w) q - p * w) = p * N + (p * s + c - (q * dvu (p * w) q - p * w)) by omega, show p * s + c + p * (N : Int) - (q - 1) - 1 = p * N + (p * s + c - (q - 1) - 1) by omega] at t
      omega
end Lf

namespace Lf
open PySem PySem.Spec PyProof.Rows L2
theorem iteD {c A B : Prop} [Decidable c] (hc : c) (h : A) : if decide c = true then A else B := by
  rw [if_pos (decide_eq_true hc)]
  exact h
theorem iteDn {c A B : Prop} [Decidable c] (hc : ¬ c) (h : B) : if decide c = true then A else B := by
  rw [if_neg (fun z => hc (of_decide_eq_true z))]
  exact h
theorem iteTs {b : Bool} {A B : Prop} (h : b = true) (hA : A) : if b = true then A else B := by
  rw [h, if_pos rfl]
  exact hA
theorem iteFz {b : Bool} {A B : Prop} (h : b = false) (hB : B) : if b = true then A else B := by
  rw [h, if_neg Bool.false_ne_true]
  exact hB
theorem bool_f {b : Bool} (h : ¬ b = true) : b = false := by
  cases b
  · rfl
  · exact absurd rfl h
theorem lenS {n : Nat} (h : n ≤ 100000) : n ≤ sizeLine := by
  rw [sizeLine_eq]
  omega
theorem ltS {n : Nat} (h : n ≤ 100000) : n < sizeLine := by
  rw [sizeLine_eq]
  omega
theorem flat_is (ns : List Int) : (ns.map V.int).all flatV = true := by
  induction ns with
  | nil => rfl
  | cons n r ih => simpa [flatV] using ih
theorem mulW {a b : Nat} {x y : Int} (h : Bd a x) (h2 : Bd b y) (ha : 0 < a) (hb : 0 < b) (hab : a + b ≤ 1000000) : CMulW x y := wide_mul h h2 ha hb hab
theorem divW {b : Nat} {x y : Int} (h0 : 0 < y) (h : Bd b y) (hb : b ≤ 9000) : CDivW x y := ⟨h0, (h.mono hb).log (by decide)⟩
theorem divP {b : Nat} {x y : Int} (h0 : 0 < y) (h : Bd b y) (hb : b ≤ 9000) : CDivP x y := ⟨h0, PyProof.noPylong_of_log2 ((h.mono hb).log (by decide))⟩
theorem kii : kitB "int" "int" = some true := by decide +kernel
theorem kib : kitB "int" "bool" = some false := by decide +kernel
theorem ktt : kitB "tuple" "tuple" = some true := by decide +kernel
section
variable {P : Program} {w : World} {K : PySem.W.Frag} {mg : Str → Option Value} {base : Heap}
/-! ### integers -/
def spIsInt : Sp := fun vs H Q _ => ∃ i : Int, vs = [.int i] ∧ Q (.bl true) H
abbrev s_is_integer : Stmt := topS 5
abbrev N_is_integer : List Str := ["value"]
abbrev P_is_integer : List Str := ["value"]
theorem sc_is_integer : FnScope N_is_integer P_is_integer (defScope s_is_integer) := ⟨rfl, rfl, rfl, by decide +kernel, rfl, by decide +kernel, by decide +kernel⟩
theorem ok_is_integer (D : Df K mg "is_integer" s_is_integer P_is_integer) (B : Bi mg) : C8.Cal P w K mg base 1 "is_integer" spIsInt [] := by
  refine cal_of D sc_is_integer (fun vs H Q E h => ?_) (fun f cdv A outer s H vs Q E hr h => ?_)
  · obtain ⟨i, rfl, _⟩ := h
    rfl
  · obtain ⟨i, rfl, q⟩ := h
    refine ⟨_, (pss_one (ps_ret (pe_and (pe_callB (call_isi) (by rfl) B.isinstance_ bt_isinstance (pa_cons (pv 0) (pa_cons (pe_bltn (v := .ty "int") (by rfl) B.int_ bt_int rfl) pa_nil))) (pe_one (pe_not (pe_callB (call_isi) (by rfl) B.isinstance_ bt_isinstance (pa_cons (pv 0) (pa_cons (pe_bltn (v := .ty "bool") (by rfl) B.bool_ bt_bool rfl) pa_nil)))))))), ?_⟩
    refine ⟨_, rfl, _, _, _, _, true, rfl, .ty "int", .base (.int i), kit_ty kii, true, rfl, iteT ?_⟩
    exact ⟨_, rfl, _, _, _, _, false, rfl, .ty "bool", .base (.int i), kit_ty kib, false, rfl, q⟩
def spCheckInt : Sp := fun vs H Q _ => ∃ i : Int, vs = [.int i] ∧ Q .non H
abbrev s_check_integer : Stmt := topS 6
abbrev N_check_integer : List Str := ["value"]
abbrev P_check_integer : List Str := ["value"]
theorem sc_check_integer : FnScope N_check_integer P_check_integer (defScope s_check_integer) := ⟨rfl, rfl, rfl, by decide +kernel, rfl, by decide +kernel, by decide +kernel⟩
theorem ok_check_integer (D : Df K mg "check_integer" s_check_integer P_check_integer) (c_is_integer : C8.Cal P w K mg base 1 "is_integer" spIsInt []) : C8.Cal P w K mg base 2 "check_integer" spCheckInt [] := by
  refine cal_of D sc_check_integer (fun vs H Q E h => ?_) (fun f cdv A outer s H vs Q E hr h => ?_)
  · obtain ⟨i, rfl, _⟩ := h
    rfl
  · obtain ⟨i, rfl, q⟩ := h
    refine ⟨_, (pss_one (ps_if (pt_not (pt_val (C8.pe_c c_is_integer hr (by decide) (by rfl) (pa_cons (pv 0) pa_nil))))
      (pss_one ps_never)
      pss_nil)), ?_⟩
    exact ⟨_, rfl, i, rfl, true, rfl, iteF q⟩
end
end Lf
namespace Lf
open PySem PySem.Spec PyProof.Rows L2
section
variable {P : Program} {w : World} {K : PySem.W.Frag} {mg : Str → Option Value} {base : Heap}
def spCheckAL : Sp := fun vs H Q _ => ∃ v l : Int, vs = [.int v, .int l] ∧ l ≤ v ∧ Q .non H
abbrev s_check_at_least : Stmt := topS 7
abbrev N_check_at_least : List Str := ["value", "least"]
abbrev P_check_at_least : List Str := ["value", "least"]
theorem sc_check_at_least : FnScope N_check_at_least P_check_at_least (defScope s_check_at_least) := ⟨rfl, rfl, rfl, by decide +kernel, rfl, by decide +kernel, by decide +kernel⟩
theorem ok_check_at_least (D : Df K mg "check_at_least" s_check_at_least P_check_at_least) (c_is_integer : C8.Cal P w K mg base 1 "is_integer" spIsInt []) : C8.Cal P w K mg base 2 "check_at_least" spCheckAL [] := by
  refine cal_of D sc_check_at_least (fun vs H Q E h => ?_) (fun f cdv A outer s H vs Q E hr h => ?_)
  · obtain ⟨v, l, rfl, _⟩ := h
    rfl
  · obtain ⟨v, l, rfl, hl, q⟩ := h
    refine ⟨_, (pss_one (ps_if (PW.pt (pw_or (pt_not (pt_val (C8.pe_c c_is_integer hr (by decide) (by rfl) (pa_cons (pv 0) pa_nil)))) (pw_or1 (pt_cmpR op_lt (pv 0) (pv 1) (nomark _)))))
      (pss_one ps_never)
      pss_nil)), ?_⟩
    refine ⟨_, rfl, v, rfl, true, rfl, iteF ?_⟩
    exact ⟨_, rfl, _, rfl, _, _, rfl, rfl, _, rfl, iteDn (by omega) q⟩
end
end Lf
namespace Lf
open PySem PySem.Spec PyProof.Rows L2
section
variable {P : Program} {w : World} {K : PySem.W.Frag} {mg : Str → Option Value} {base : Heap}
def spCheckRange : Sp := fun vs H Q _ => ∃ x y : Int, vs = [.int x, .int y] ∧ Q .non H
abbrev s_check_range : Stmt := topS 8
abbrev N_check_range : List Str := ["start", "stop"]
abbrev P_check_range : List Str := ["start", "stop"]
theorem sc_check_range : FnScope N_check_range P_check_range (defScope s_check_range) := ⟨rfl, rfl, rfl, by decide +kernel, rfl, by decide +kernel, by decide +kernel⟩
theorem ok_check_range (D : Df K mg "check_range" s_check_range P_check_range) (c_check_integer : C8.Cal P w K mg base 2 "check_integer" spCheckInt []) : C8.Cal P w K mg base 3 "check_range" spCheckRange [] := by
  refine cal_of D sc_check_range (fun vs H Q E h => ?_) (fun f cdv A outer s H vs Q E hr h => ?_)
  · obtain ⟨v, l, rfl, _⟩ := h
    rfl
  · obtain ⟨v, l, rfl, q⟩ := h
    refine ⟨_, (pss_cons (ps_expr (C8.pe_c c_check_integer hr (by decide) (by rfl) (pa_cons (pv 0) pa_nil)))
    (pss_one (ps_expr (C8.pe_c c_check_integer hr (by decide) (by rfl) (pa_cons (pv 1) pa_nil))))), ?_⟩
    exact ⟨_, rfl, _, rfl, _, rfl, _, rfl, q⟩
end
end Lf
namespace Lf
open PySem PySem.Spec PyProof.Rows L2
section
variable {P : Program} {w : World} {K : PySem.W.Frag} {mg : Str → Option Value} {base : Heap}
abbrev s_gcd : Stmt := topS 9
abbrev N_gcd : List Str := ["first", "second"]
abbrev P_gcd : List Str := ["first", "second"]
theorem sc_gcd : FnScope N_gcd P_gcd (defScope s_gcd) := ⟨rfl, rfl, rfl, by decide +kernel, rfl, by decide +kernel, by decide +kernel⟩
theorem ok_gcd (D : Df K mg "gcd" s_gcd P_gcd) : C8.Cal P w K mg base 1 "gcd" spGcd [] := by
  refine cal_of D sc_gcd (fun vs H Q E h => ?_) (fun f cdv A outer s H vs Q E hr h => ?_)
  · obtain ⟨x, y, rfl, _⟩ := h
    rfl
  · obtain ⟨x, y, rfl, hx, hy, q⟩ := h
    refine ⟨_, (pss_cons (ps_while PassesOwn.never (pt_truth (pv 1) (fun _ => rfl))
      (pss_one (ps_par (i := 0) (j := 1) rfl sc_gcd.nd rfl rfl (by decide) rfl rfl (pa_cons (pv 1) (pa_cons (pe_op op_mod (pv 0) (pv 1)) pa_nil)) rfl)))
    (pss_one (ps_ret (pv 0)))), ?_⟩
    refine while_by (fun σ H' => ∃ u v : Int, σ = [some (.int u), some (.int v)] ∧ 0 ≤ u ∧ 0 ≤ v ∧ Int.gcd u v = Int.gcd x y ∧ H' = H) mu1 ⟨x, y, rfl, hx, hy, rfl, rfl⟩ ?_ ?_
    · rintro σ H' ⟨u, v, rfl, hu, hv, e, rfl⟩
      refine ⟨_, rfl, _, rfl, ite2 (fun c => ?_) (fun c => ?_)⟩
      · have hv0 : 0 < v := by
          have : v ≠ 0 := by simpa using c
          omega
        refine ⟨_, rfl, _, rfl, _, rfl, _, _, rfl, rfl, hv0, _, _, rfl, ⟨v, u % v, rfl, hv, Int.emod_nonneg _ (by omega), ?_, rfl⟩, ?_⟩
        · rw [gcd_turn u v hu hv0]; exact e
        · show (u % v).toNat < v.toNat
          have := Int.emod_lt_of_pos u hv0
          omega
      · have hv0 : v = 0 := by simpa using c
        subst hv0
        refine ⟨_, rfl, ?_⟩
        have e2 : (Int.gcd x y : Int) = u := by
          rw [← e, Int.gcd_zero_right]
          omega
        rw [← e2]
        exact q
    · rintro σ H' Q1 Q2 hQ ⟨v, h1, b, h4, h5⟩
      exact ⟨v, h1, b, h4, hQ _ _ h5⟩
/-! ### rules -/
def spIsRule : Sp := fun vs H Q _ => ∃ (r : Addr) (p q c : Int) (k : Nat), vs = [.ref r] ∧ H r = some (.tup [.int p, .int q, .int c]) ∧ RuleB k p q c ∧ ∀ H', Same H H' → Q (.bl true) H'
abbrev s_is_rule : Stmt := topS 18
abbrev N_is_rule : List Str := ["value", "item"]
abbrev P_is_rule : List Str := ["value"]
theorem sc_is_rule : FnScope N_is_rule P_is_rule (defScope s_is_rule) := ⟨rfl, rfl, rfl, by decide +kernel, rfl, by decide +kernel, by decide +kernel⟩
theorem ok_is_rule (D : Df K mg "is_rule" s_is_rule P_is_rule) (B : Bi mg) (c_is_integer : C8.Cal P w K mg base 1 "is_integer" spIsInt []) (c_gcd : C8.Cal P w K mg base 1 "gcd" spGcd []) : C8.Cal P w K mg base 2 "is_rule" spIsRule [] := by
  refine cal_of D sc_is_rule (fun vs H Q E h => ?_) (fun f cdv A outer s H vs Q E hr h => ?_)
  · obtain ⟨r, p, q, c, k, rfl, _⟩ := h
    rfl
  · obtain ⟨r, p, q, c, k, rfl, er, R, kk⟩ := h
    refine ⟨_, (pss_cons (ps_if (PW.pt (pw_or (pt_not (pt_val (pe_callB (call_isi) (by rfl) B.isinstance_ bt_isinstance (pa_cons (pv 0) (pa_cons (pe_bltn (v := .ty "tuple") (by rfl) B.tuple_ bt_tuple rfl) pa_nil))))) (pw_or1 (pt_cmpR op_ne (pe_callB (call_len_seq) (by rfl) B.len_ bt_len (pa_cons (pv 0) pa_nil)) pe_int (nomark _)))))
      (pss_one (ps_ret pe_bl))
      pss_nil)
    (pss_cons (ps_if (pt_not (pt_val (pe_callB (cr_all rfl) (by rfl) B.all_ bt_all (pa_cons (pe_lc (own := [("item", 1)]) (g := (gName 1)) (by rfl) sc_is_rule.nd (pi_tup (pv 0)) (blkOk_by (own := [("item", 1)]) (N := N_is_rule) (sc := defScope s_is_rule) (by decide +kernel)) (fun _ _ _ _ _ => (pg_name (i := 1) sc_is_rule.nd rfl (Or.inl rfl))) (fun _ _ _ _ _ => pts_nil) (fun _ _ _ _ _ => (C8.pe_c c_is_integer hr (by decide) (by rfl) (pa_cons (pv 1) pa_nil)))) pa_nil))))
      (pss_one (ps_ret pe_bl))
      pss_nil)
    (pss_one (ps_ret (pe_and (pe_cmpR op_ge (pe_ix (r := rIxT K) ix_tup (pv 0) pe_int (fun _ _ => rfl)) pe_int (nomark _)) (pe_and (pe_cmpR op_ge (pe_ix (r := rIxT K) ix_tup (pv 0) pe_int (fun _ _ => rfl)) pe_int (nomark _)) (pe_one (pe_cmpR op_eq (C8.pe_c c_gcd hr (by decide) (by rfl) (pa_cons (pe_ix (r := rIxT K) ix_tup (pv 0) pe_int (fun _ _ => rfl)) (pa_cons (pe_ix (r := rIxT K) ix_tup (pv 0) pe_int (fun _ _ => rfl)) pa_nil))) pe_int (nomark _))))))))), ?_⟩
    refine ⟨_, rfl, _, _, _, _, true, rfl, .ty "tuple", .base (.tup er), kit_ty ktt, true, rfl, iteF ?_⟩
    refine ⟨_, rfl, r, _, rfl, .inr (SqT.of er), rfl, _, rfl, iteNS rfl ?_⟩
    refine ⟨_, rfl, r, rfl, ⟨_, SqT.of er⟩, fun L nL => ?_⟩
    refine lc_tup (K := K) (a := r) (xs := [.int p, .int q, .int c]) (fun i H' => Same H H' ∧ H' L = some (.lst (List.replicate i (V.bl true)))) ?_ ?_ ?_ ?_
    · exact ⟨sm_upd nL, upd_same⟩
    · rintro i H' hi ⟨s1, _⟩
      exact SqT.of (s1 _ _ er)
    · rintro i x H' hx ⟨s1, eL⟩
      have hi : i < 3 := (List.getElem?_eq_some_iff.mp hx).1
      obtain ⟨z, rfl⟩ : ∃ z, x = V.int z := by
        match i, hi with
        | 0, _ => exact ⟨p, (Option.some.inj hx).symm⟩
        | 1, _ => exact ⟨q, (Option.some.inj hx).symm⟩
        | 2, _ => exact ⟨c, (Option.some.inj hx).symm⟩
      refine ⟨rfl, _, rfl, z, rfl, _, eL, ?_, ?_, ?_⟩
      · rw [List.length_replicate]
        exact small1000 (by omega)
      · intro b o eb
        rw [upd_ne (ne_of_none eb nL)]
        exact s1 _ _ eb
      · rw [upd_same, ← List.replicate_succ']
    · rintro H' ⟨s1, eL⟩
      have eL' : H' L = some (.lst ([true, true, true].map V.bl)) := eL
      refine ⟨L, [true, true, true], rfl, SqL.of eL', true, rfl, iteF ?_⟩
      have er' := s1 _ _ er
      refine ⟨_, rfl, r, _, _, _, rfl, rfl, SqT.of er', atI_nat (j := 0) rfl, _, _, rfl, rfl, _, rfl, iteD R.p0 ?_⟩
      refine ⟨_, rfl, r, _, _, _, rfl, rfl, SqT.of er', atI_nat (j := 1) rfl, _, _, rfl, rfl, _, rfl, iteD R.q1 ?_⟩
      refine ⟨_, rfl, r, _, _, _, rfl, rfl, SqT.of er', atI_nat (j := 0) rfl, _, rfl, r, _, _, _, rfl, rfl, SqT.of er', atI_nat (j := 1) rfl, p, q, rfl, R.p0, by have := R.q1; omega, rfl, ?_⟩
      rw [R.g]
      exact kk _ s1
def spCheckRule : Sp := fun vs H Q _ => ∃ (r : Addr) (p q c : Int) (k : Nat), vs = [.ref r] ∧ H r = some (.tup [.int p, .int q, .int c]) ∧ RuleB k p q c ∧ ∀ H', Same H H' → Q .non H'
abbrev s_check_rule : Stmt := topS 19
abbrev N_check_rule : List Str := ["value"]
abbrev P_check_rule : List Str := ["value"]
theorem sc_check_rule : FnScope N_check_rule P_check_rule (defScope s_check_rule) := ⟨rfl, rfl, rfl, by decide +kernel, rfl, by decide +kernel, by decide +kernel⟩
theorem ok_check_rule (D : Df K mg "check_rule" s_check_rule P_check_rule) (c_is_rule : C8.Cal P w K mg base 2 "is_rule" spIsRule []) : C8.Cal P w K mg base 3 "check_rule" spCheckRule [] := by
  refine cal_of D sc_check_rule (fun vs H Q E h => ?_) (fun f cdv A outer s H vs Q E hr h => ?_)
  · obtain ⟨r, p, q, c, k, rfl, _⟩ := h
    rfl
  · obtain ⟨r, p, q, c, k, rfl, er, R, kk⟩ := h
    refine ⟨_, (pss_one (ps_if (pt_not (pt_val (C8.pe_c c_is_rule hr (by decide) (by rfl) (pa_cons (pv 0) pa_nil))))
      (pss_one ps_never)
      pss_nil)), ?_⟩
    exact ⟨_, rfl, r, p, q, c, k, rfl, er, R, fun H' s1 => ⟨true, rfl, iteF (kk _ s1)⟩⟩
end
end Lf
namespace Lf
open PySem PySem.Spec PyProof.Rows L2
section
variable {P : Program} {w : World} {K : PySem.W.Frag} {mg : Str → Option Value} {base : Heap}
/-! ### floor_sum -/
def spFloor : Sp := fun vs H Q _ => ∃ (n a b m : Int) (k : Nat), vs = [.int n, .int a, .int b, .int m] ∧ 0 ≤ n ∧ 1 ≤ m ∧ Bd k n ∧ Bd k a ∧ Bd k b ∧ Bd k m ∧ 0 < k ∧ k ≤ 8000 ∧ ∀ H', Same H H' → Q (.int (fs n.toNat a b m)) H'
def mu3 : L2.St → Hp → Nat := fun σ _ => match σ with
  | _ :: _ :: _ :: some (.int v) :: _ => v.toNat
  | _ => 0
abbrev s_floor_sum : Stmt := topS 16
abbrev N_floor_sum : List Str := ["number", "slope", "offset", "divisor", "total", "whole"]
abbrev P_floor_sum : List Str := ["number", "slope", "offset", "divisor"]
theorem sc_floor_sum : FnScope N_floor_sum P_floor_sum (defScope s_floor_sum) := ⟨rfl, rfl, rfl, by decide +kernel, rfl, by decide +kernel, by decide +kernel⟩
theorem okF_floor_sum (D : Df K mg "floor_sum" s_floor_sum P_floor_sum) (B : Bi mg) (c_check_integer : C8.Cal P w K mg base 2 "check_integer" spCheckInt []) (c_check_at_least : C8.Cal P w K mg base 2 "check_at_least" spCheckAL []) : CalF P w K mg base 3 "floor_sum" s_floor_sum P_floor_sum spFloor := by
  refine calF_of D sc_floor_sum (fun vs H Q E h => ?_) (fun f cdv A outer s H vs Q E hr h => ?_)
  · obtain ⟨n, a, b, m, k, rfl, _⟩ := h
    rfl
  · obtain ⟨n, a, b, m, k, rfl, hn, hm, bn, ba, bb, bm, k0, k8, q⟩ := h
    refine ⟨_, (pss_cons (ps_expr (C8.pe_c c_check_at_least hr (by decide) (by rfl) (pa_cons (pv 0) (pa_cons pe_int pa_nil))))
    (pss_cons (ps_expr (C8.pe_c c_check_integer hr (by decide) (by rfl) (pa_cons (pv 1) pa_nil)))
    (pss_cons (ps_expr (C8.pe_c c_check_integer hr (by decide) (by rfl) (pa_cons (pv 2) pa_nil)))
    (pss_cons (ps_expr (C8.pe_c c_check_at_least hr (by decide) (by rfl) (pa_cons (pv 3) (pa_cons pe_int pa_nil))))
    (pss_cons (ps_set (i := 4) sc_floor_sum.nd rfl (Or.inl rfl) pe_int)
    (pss_cons (ps_while PassesOwn.never (pt_cmpR op_gt (pv 0) pe_int (nomark _))
      (pss_cons (ps_asg (pe_callB (call_divmodW) (by rfl) B.divmod_ bt_divmod (pa_cons (pv 1) (pa_cons (pv 3) pa_nil))) (pg_tup rfl (pgs_cons (pg_name (i := 5) sc_floor_sum.nd rfl (Or.inl rfl)) (pgs_cons (pg_name (i := 1) sc_floor_sum.nd rfl (Or.inl rfl)) pgs_nil))))
    (pss_cons (ps_aug (i := 4) sc_floor_sum.nd rfl (Or.inl rfl) (pe_op op_mulW (pv 5) (pe_op op_fdiv (pe_op op_mulW (pv 0) (pe_op op_sub (pv 0) pe_int)) pe_int)) ip_add)
    (pss_cons (ps_asg (pe_callB (call_divmodW) (by rfl) B.divmod_ bt_divmod (pa_cons (pv 2) (pa_cons (pv 3) pa_nil))) (pg_tup rfl (pgs_cons (pg_name (i := 5) sc_floor_sum.nd rfl (Or.inl rfl)) (pgs_cons (pg_name (i := 2) sc_floor_sum.nd rfl (Or.inl rfl)) pgs_nil))))
    (pss_cons (ps_aug (i := 4) sc_floor_sum.nd rfl (Or.inl rfl) (pe_op op_mulW (pv 5) (pv 0)) ip_add)
    (pss_cons (ps_asg (pe_callB (call_divmodW) (by rfl) B.divmod_ bt_divmod (pa_cons (pe_op op_add (pe_op op_mulW (pv 1) (pv 0)) (pv 2)) (pa_cons (pv 3) pa_nil))) (pg_tup rfl (pgs_cons (pg_name (i := 0) sc_floor_sum.nd rfl (Or.inl rfl)) (pgs_cons (pg_name (i := 2) sc_floor_sum.nd rfl (Or.inl rfl)) pgs_nil))))
    (pss_one (ps_par (i := 1) (j := 3) rfl sc_floor_sum.nd rfl rfl (by decide) rfl rfl (pa_cons (pv 3) (pa_cons (pv 1) pa_nil)) rfl))))))))
    (pss_one (ps_ret (pv 4))))))))), ?_⟩
    refine ⟨_, rfl, n, 0, rfl, hn, _, rfl, a, rfl, _, rfl, b, rfl, _, rfl, m, 1, rfl, hm, ?_⟩
    refine while_by (fun σ H' => ∃ (N a' b' m' T : Int) (y : Option V), σ = [some (.int N), some (.int a'), some (.int b'), some (.int m'), some (.int T), y] ∧ 0 ≤ N ∧ 0 ≤ m' ∧ (0 < N → 0 < m') ∧ Bd k N ∧ Bd k a' ∧ Bd k b' ∧ Bd k m' ∧
      T + fs N.toNat a' b' m' = fs n.toNat a b m ∧ Same H H') mu3 ⟨n, a, b, m, 0, none, rfl, hn, by omega, fun _ => by omega, bn, ba, bb, bm, by omega, Same.refl _⟩ ?_ ?_
    · rintro σ H' ⟨N, a', b', m', T, y, rfl, hN, hm0, hNm, bN, ba', bb', bm', e, s1⟩
      refine ⟨_, rfl, _, _, rfl, rfl, _, rfl, ite2 (fun c => ?_) (fun c => ?_)⟩
      · have hN0 : 0 < N := of_decide_eq_true c
        have hm1 := hNm hN0
        have w1 := Bd.ediv ba' hm1
        have w2 := Bd.ediv bb' hm1
        have ar : Bd k (a' % m') := bm'.emod hm1
        have br : Bd k (b' % m') := bm'.emod hm1
        have tl := turn_le N a' b' m' hN0 hm1
        have bt : Bd (k + (k + 1)) (N * (N - 1)) := bN.mul (bN.sub (Bd.small 1 (by decide) (by omega)))
        refine ⟨_, rfl, _, rfl, a', m', rfl, divP hm1 bm' (by omega), fun p1 np1 => ?_⟩
        refine ⟨p1, _, rfl, SqT.of upd_same, rfl, _, _, rfl, _, _, rfl, rfl, ?_⟩
        refine ⟨_, rfl, _, rfl, _, rfl, _, rfl, _, _, rfl, rfl, _, _, rfl, rfl, mulW bN (bN.sub (Bd.small 1 (by decide) (by omega))) k0 (by omega) (by omega), _, _, rfl, rfl, ⟨by decide, by decide⟩, _, _, rfl, rfl, mulW w1 (bt.ediv (by decide)) k0 (by omega) (by omega), _, _, rfl, rfl, ?_⟩
        refine ⟨_, rfl, _, rfl, b', m', rfl, divP hm1 bm' (by omega), fun p2 np2 => ?_⟩
        refine ⟨p2, _, rfl, SqT.of upd_same, rfl, _, _, rfl, _, _, rfl, rfl, ?_⟩
        refine ⟨_, rfl, _, rfl, _, rfl, _, _, rfl, rfl, mulW w2 bN k0 k0 (by omega), _, _, rfl, rfl, ?_⟩
        refine ⟨_, rfl, _, rfl, _, _, rfl, rfl, mulW ar bN k0 k0 (by omega), _, rfl, _, _, rfl, rfl, _, rfl, _, m', rfl, divP hm1 bm' (by omega), fun p3 np3 => ?_⟩
        refine ⟨p3, _, rfl, SqT.of upd_same, rfl, _, _, rfl, _, _, rfl, rfl, ?_⟩
        refine ⟨_, rfl, _, rfl, _, _, rfl, ⟨_, _, _, _, _, _, rfl, tl.2, Int.emod_nonneg _ (by omega), ?_, bN.between tl.2 tl.1, bm', ?_, ar, ?_, ?_⟩, ?_⟩
        · intro hz
          have h0 := Int.emod_nonneg a' (show m' ≠ 0 by omega)
          rcases Int.lt_or_eq_of_le h0 with h | h
          · exact h
          · rw [turn_zero N a' b' m' hm1 h.symm] at hz
            omega
        · exact bm'.emod hm1
        · have ft := fs_turn N a' b' m' hN hm1
          unfold tri at ft
          rw [ft] at e
          rw [← e]
          show T + a' / m' * (N * (N - 1) / 2) + b' / m' * N + _ = _
          omega
        · exact ((s1.trans (sm_upd np1)).trans (sm_upd np2)).trans (sm_upd np3)
        · show (a' % m').toNat < m'.toNat
          have := Int.emod_lt_of_pos a' hm1
          have := Int.emod_nonneg a' (show m' ≠ 0 by omega)
          omega
      · have hN0 : N = 0 := by
          have : ¬ 0 < N := fun z => c (decide_eq_true z)
          omega
        subst hN0
        refine ⟨_, rfl, ?_⟩
        have e0 : fs (0 : Int).toNat a' b' m' = 0 := rfl
        rw [e0, Int.add_zero] at e
        rw [e]
        exact q _ s1
    · rintro σ H' Q1 Q2 hQ ⟨v, h1, i, j, h2, h3, b, h4, h5⟩
      exact ⟨v, h1, i, j, h2, h3, b, h4, hQ _ _ h5⟩
theorem ok_floor_sum (D : Df K mg "floor_sum" s_floor_sum P_floor_sum) (B : Bi mg) (c_check_integer : C8.Cal P w K mg base 2 "check_integer" spCheckInt []) (c_check_at_least : C8.Cal P w K mg base 2 "check_at_least" spCheckAL []) : C8.Cal P w K mg base 3 "floor_sum" spFloor [] := by
  exact (okF_floor_sum D B c_check_integer c_check_at_least).cal
end
end Lf
namespace Lf
open PySem PySem.Spec PyProof.Rows L2
section
variable {P : Program} {w : World} {K : PySem.W.Frag} {mg : Str → Option Value} {base : Heap}
/-! ### count_sum -/
def spCountSum : Sp := fun vs H Q _ => ∃ (r : Addr) (p q c x y : Int) (k : Nat), vs = [.ref r, .int x, .int y] ∧ H r = some (.tup [.int p, .int q, .int c]) ∧ RuleB k p q c ∧ Bd k x ∧ Bd k y ∧ 0 < k ∧ k ≤ 3000 ∧
  ∀ H', Same H H' → Q (.int (fs (y - x).toNat p (p * x + c) q)) H'
abbrev s_count_sum : Stmt := topS 21
abbrev N_count_sum : List Str := ["rule", "start", "stop", "p", "q", "c"]
abbrev P_count_sum : List Str := ["rule", "start", "stop"]
theorem sc_count_sum : FnScope N_count_sum P_count_sum (defScope s_count_sum) := ⟨rfl, rfl, rfl, by decide +kernel, rfl, by decide +kernel, by decide +kernel⟩
theorem ok_count_sum (D : Df K mg "count_sum" s_count_sum P_count_sum) (B : Bi mg) (c_check_rule : C8.Cal P w K mg base 3 "check_rule" spCheckRule []) (c_check_range : C8.Cal P w K mg base 3 "check_range" spCheckRange []) (c_floor_sum : C8.Cal P w K mg base 3 "floor_sum" spFloor []) : C8.Cal P w K mg base 4 "count_sum" spCountSum [] := by
  refine cal_of D sc_count_sum (fun vs H Q E h => ?_) (fun f cdv A outer s H vs Q E hr h => ?_)
  · obtain ⟨r, p, q, c, x, y, k, rfl, _⟩ := h
    rfl
  · obtain ⟨r, p, q, c, x, y, k, rfl, er, R, bx, byy, k0, k3, kk⟩ := h
    refine ⟨_, (pss_cons (ps_expr (C8.pe_c c_check_rule hr (by decide) (by rfl) (pa_cons (pv 0) pa_nil)))
    (pss_cons (ps_expr (C8.pe_c c_check_range hr (by decide) (by rfl) (pa_cons (pv 1) (pa_cons (pv 2) pa_nil))))
    (pss_cons (ps_asg (pv 0) (pg_tup rfl (pgs_cons (pg_name (i := 3) sc_count_sum.nd rfl (Or.inl rfl)) (pgs_cons (pg_name (i := 4) sc_count_sum.nd rfl (Or.inl rfl)) (pgs_cons (pg_name (i := 5) sc_count_sum.nd rfl (Or.inl rfl)) pgs_nil)))))
    (pss_one (ps_ret (C8.pe_c c_floor_sum hr (by decide) (by rfl) (pa_cons (pe_callB (call_max2 rfl) (by rfl) B.max_ bt_max (pa_cons pe_int (pa_cons (pe_op op_sub (pv 2) (pv 1)) pa_nil))) (pa_cons (pv 3) (pa_cons (pe_op op_add (pe_op op_mulW (pv 3) (pv 1)) (pv 5)) (pa_cons (pv 4) pa_nil)))))))))), ?_⟩
    refine ⟨_, rfl, r, p, q, c, k, rfl, er, R, fun H1 s1 => ?_⟩
    refine ⟨_, rfl, _, rfl, _, _, rfl, ?_⟩
    have er1 := s1 _ _ er
    refine ⟨_, rfl, r, _, rfl, SqT.of er1, rfl, _, _, rfl, _, _, rfl, _, _, rfl, rfl, ?_⟩
    have bpx := (R.bp.mul bx)
    refine ⟨_, rfl, _, rfl, _, _, rfl, rfl, _, _, rfl, _, rfl, _, rfl, _, rfl, _, _, rfl, rfl, mulW R.bp bx k0 k0 (by omega), _, rfl, _, _, rfl, rfl, _, rfl, ?_⟩
    have hmx : ∀ z : Int, 0 ≤ (if z > 0 then z else 0) ∧ (if z > 0 then z else 0).toNat = z.toNat ∧ (Bd (k + 1) z → Bd (k + 1) (if z > 0 then z else 0)) := fun z => by
      by_cases hz : z > 0
      · rw [if_pos hz]
        exact ⟨by omega, rfl, id⟩
      · rw [if_neg hz]
        exact ⟨by omega, by omega, fun _ => Bd.small 1 (by decide) (by omega)⟩
    obtain ⟨m0, m1, m2⟩ := hmx (y - x)
    refine ⟨_, p, _, q, k + k + 1, rfl, m0, R.q1, ?_, R.bp.mono (by omega), ?_, R.bq.mono (by omega), by omega, by omega, fun H2 s2 => ?_⟩
    · exact (m2 (Bd.sub byy bx)).mono (by omega)
    · exact Bd.add bpx (R.bc.mono (by omega))
    · rw [m1]
      exact kk _ (s1.trans s2)
end
end Lf
namespace Lf
open PySem PySem.Spec PyProof.Rows L2
section
variable {P : Program} {w : World} {K : PySem.W.Frag} {mg : Str → Option Value} {base : Heap}
/-! ### divide_up -/
def spDivUp : Sp := fun vs H Q _ => ∃ (x s : Int), vs = [.int x, .int s] ∧ 0 < s ∧ Bd 9000 s ∧ Q (.int (dvu x s)) H
abbrev s_divide_up : Stmt := topS 10
abbrev N_divide_up : List Str := ["number", "divisor"]
abbrev P_divide_up : List Str := ["number", "divisor"]
theorem sc_divide_up : FnScope N_divide_up P_divide_up (defScope s_divide_up) := ⟨rfl, rfl, rfl, by decide +kernel, rfl, by decide +kernel, by decide +kernel⟩
theorem ok_divide_up (D : Df K mg "divide_up" s_divide_up P_divide_up) : C8.Cal P w K mg base 1 "divide_up" spDivUp [] := by
  refine cal_of D sc_divide_up (fun vs H Q E h => ?_) (fun f cdv A outer s H vs Q E hr h => ?_)
  · obtain ⟨x, s, rfl, _⟩ := h
    rfl
  · obtain ⟨x, s, rfl, hs, bs, q⟩ := h
    refine ⟨_, (pss_one (ps_ret (pe_un un_neg (pe_op op_fdivW (pe_un un_neg (pv 0)) (pv 1))))), ?_⟩
    exact ⟨_, rfl, _, rfl, _, rfl, _, _, rfl, rfl, divW hs bs (by decide), _, rfl, q⟩
end
end Lf
namespace Lf
/-! ### an integer between two lines -/
def Ib (a b m c d n x : Int) : Prop := ∃ y : Int, a * x + b ≤ m * y ∧ n * y ≤ c * x + d
/-- the whole part of the heights is taken away -/
theorem ib_down {a b m c d n x : Int} (k : Int) : Ib a (b - k * m) m c (d - k * n) n x ↔ Ib a b m c d n x := by
  constructor
  · rintro ⟨y, h1, h2⟩
    exact ⟨y + k, by rw [Int.mul_add, Int.mul_comm m k]; omega, by rw [Int.mul_add, Int.mul_comm n k]; omega⟩
  · rintro ⟨y, h1, h2⟩
    exact ⟨y - k, by rw [Int.mul_sub, Int.mul_comm m k]; omega, by rw [Int.mul_sub, Int.mul_comm n k]; omega⟩
/-- the whole part of the slopes is taken away -/
theorem ib_tilt {a b m c d n x : Int} (k : Int) : Ib (a - k * m) b m (c - k * n) d n x ↔ Ib a b m c d n x := by
  have e1 : ∀ y, m * (y + k * x) = m * y + k * m * x := fun y => by grind
  have e2 : ∀ y, n * (y + k * x) = n * y + k * n * x := fun y => by grind
  have e3 : ∀ y, m * (y - k * x) = m * y - k * m * x := fun y => by grind
  have e4 : ∀ y, n * (y - k * x) = n * y - k * n * x := fun y => by grind
  constructor
  · rintro ⟨y, h1, h2⟩
    rw [Int.sub_mul] at h1 h2
    exact ⟨y + k * x, by rw [e1]; omega, by rw [e2]; omega⟩
  · rintro ⟨y, h1, h2⟩
    refine ⟨y - k * x, ?_, ?_⟩
    · rw [e3, Int.sub_mul]; omega
    · rw [e4, Int.sub_mul]; omega
theorem ib_zero {a b m c d n : Int} (hm : 0 < m) (h : dvu b m * n ≤ d) : Lst (Ib a b m c d n) 0 := by
  refine ⟨Int.le_refl _, ⟨dvu b m, ?_, ?_⟩, fun k h0 h1 => by omega⟩
  · rw [Int.mul_zero, Int.zero_add]
    exact dvu_ge hm
  · rw [Int.mul_zero, Int.zero_add, Int.mul_comm]
    exact h
/-- what is known where no integer lies between the lines at 0 -/
theorem ib_rest {b m d n : Int} (hm : 0 < m) (h : ¬ dvu b m * n ≤ d) : 0 < b - (dvu b m - 1) * m ∧ b - (dvu b m - 1) * m ≤ m ∧ d - (dvu b m - 1) * n < n := by
  have g := dvu_ge (x := b) hm
  have l := dvu_lt (x := b) hm
  rw [Int.sub_mul, Int.sub_mul, Int.mul_comm (dvu b m) m]
  omega
theorem mul_nonneg' {x y : Int} (hx : 0 ≤ x) (hy : 0 ≤ y) : 0 ≤ x * y := Int.mul_nonneg hx hy
/-- the slopes part at an integer -/
theorem ib_exit {f b m r d n x : Int} (hm : 0 < m) (hn : 0 < n) (f0 : 0 ≤ f) (r0 : 0 ≤ r) (b0 : 0 < b) (bm : b ≤ m) (d0 : 0 ≤ d) (dn : d < n) (x0 : 0 ≤ x) : Ib (-f) b m r d n x ↔ (b ≤ f * x ∨ n - d ≤ r * x) := by
  have fx := Int.mul_nonneg f0 x0
  have rx := Int.mul_nonneg r0 x0
  constructor
  · rintro ⟨y, h1, h2⟩
    rw [Int.neg_mul] at h1
    rcases Int.lt_or_le 0 y with z | z
    · right
      have := Int.mul_le_mul_of_nonneg_left (show 1 ≤ y by omega) (show 0 ≤ n by omega)
      omega
    · left
      have := Int.mul_le_mul_of_nonneg_left z (show 0 ≤ m by omega)
      omega
  · rintro (h | h)
    · exact ⟨0, by rw [Int.neg_mul]; omega, by omega⟩
    · exact ⟨1, by rw [Int.neg_mul]; omega, by omega⟩
/-- flat lines of one slope -/
theorem ib_flat {b m d n x : Int} (hm : 0 < m) (hn : 0 < n) (b0 : 0 < b) (dn : d < n) : ¬ Ib 0 b m 0 d n x := by
  rintro ⟨y, h1, h2⟩
  rw [Int.zero_mul, Int.zero_add] at h1 h2
  rcases Int.lt_or_le 0 y with z | z
  · have := Int.mul_le_mul_of_nonneg_left (show 1 ≤ y by omega) (show 0 ≤ n by omega)
    omega
  · have := Int.mul_le_mul_of_nonneg_left z (show 0 ≤ m by omega)
    omega
/-- the lines come together -/
theorem ib_meet {a b m c d n x : Int} (hm : 0 < m) (hn : 0 < n) (a0 : 0 ≤ a) (c0 : c ≤ 0) (b0 : 0 < b) (dn : d < n) (x0 : 0 ≤ x) : ¬ Ib a b m c d n x := by
  rintro ⟨y, h1, h2⟩
  have ax := Int.mul_nonneg a0 x0
  have cx := Int.mul_nonneg (show 0 ≤ -c by omega) x0
  rw [Int.neg_mul] at cx
  rcases Int.lt_or_le 0 y with z | z
  · have := Int.mul_le_mul_of_nonneg_left (show 1 ≤ y by omega) (show 0 ≤ n by omega)
    omega
  · have := Int.mul_le_mul_of_nonneg_left z (show 0 ≤ m by omega)
    omega
/-- the other way round: x for each y -/
theorem ib_turn {a b m c d n x y : Int} (hm : 0 < m) (a0 : 0 < a) (b0 : 0 < b) (x0 : 0 ≤ x) (h1 : a * x + b ≤ m * y) : 0 ≤ y - 1 := by
  have ax := Int.mul_nonneg (Int.le_of_lt a0) x0
  rcases Int.lt_or_le 0 y with z | z
  · omega
  · have := Int.mul_le_mul_of_nonneg_left z (show 0 ≤ m by omega)
    omega
theorem ib_back {a b m c d n k : Int} (hm : 0 < m) (hn : 0 < n) (a0 : 0 < a) (c0 : 0 < c) (cn : c < n) (b0 : 0 < b) (dn : d < n) (h : Lst (Ib n (n - d) c m (m - b) a) k) : Lst (Ib a b m c d n) (dvu (n * k + (n - d)) c) ∧ k ≤ dvu (n * k + (n - d)) c := by
  obtain ⟨k0, ⟨x, g1, g2⟩, lst⟩ := h
  have nk := Int.mul_nonneg (Int.le_of_lt hn) k0
  have gx := (dvu_le c0).mpr g1
  have ge := dvu_ge (x := n * k + (n - d)) c0
  have mn : ∀ j, n * k + (n - d) ≤ c * j → dvu (n * k + (n - d)) c ≤ j := fun j h => (dvu_le c0).mpr h
  have pos : 0 ≤ dvu (n * k + (n - d)) c := by
    rcases Int.lt_or_le (dvu (n * k + (n - d)) c) 0 with z | z
    · have := Int.mul_le_mul_of_nonneg_left (show dvu (n * k + (n - d)) c ≤ 0 by omega) (Int.le_of_lt c0)
      rw [Int.mul_zero] at this
      omega
    · exact z
  generalize dvu (n * k + (n - d)) c = X at *
  refine ⟨⟨pos, ⟨k + 1, ?_, ?_⟩, fun j j0 jX => ?_⟩, ?_⟩
  · have := Int.mul_le_mul_of_nonneg_left gx (Int.le_of_lt a0)
    rw [Int.mul_add]
    omega
  · rw [Int.mul_add]
    omega
  · rintro ⟨y, h1, h2⟩
    have y0 := ib_turn (c := c) (d := d) (n := n) hm a0 b0 j0 h1
    have hk : ¬ y - 1 < k := fun z => lst (y - 1) y0 z ⟨j, by rw [Int.mul_sub]; omega, by rw [Int.mul_sub]; omega⟩
    have h3 := Int.mul_le_mul_of_nonneg_left (show k ≤ y - 1 by omega) (Int.le_of_lt hn)
    rw [Int.mul_sub] at h3
    have h5 := mn j (by omega)
    omega
  · rcases Int.lt_or_le X k with z | z
    · have h3 := Int.mul_le_mul_of_nonneg_left (show X ≤ k by omega) (Int.le_of_lt c0)
      have h4 := Int.mul_le_mul_of_nonneg_right (show c ≤ n by omega) k0
      omega
    · exact z
theorem ib_none {a b m c d n : Int} (hm : 0 < m) (a0 : 0 < a) (b0 : 0 < b) (h : NoM (Ib n (n - d) c m (m - b) a)) : NoM (Ib a b m c d n) := by
  rintro x x0 ⟨y, h1, h2⟩
  have y0 := ib_turn (c := c) (d := d) (n := n) hm a0 b0 x0 h1
  exact h (y - 1) y0 ⟨x, by rw [Int.mul_sub]; omega, by rw [Int.mul_sub]; omega⟩
end Lf
namespace Lf
theorem pos_of_mul0 {a b : Int} (h : 0 < a * b) (hb : 0 ≤ b) : 0 < a := by
  rcases Int.lt_or_le 0 a with z | z
  · exact z
  · have := Int.mul_le_mul_of_nonneg_right z hb
    rw [Int.zero_mul] at this
    omega
theorem lt_of_mulc {x y g : Int} (h : x * g < y * g) (hg : 0 ≤ g) : x < y := by
  have e : (y - x) * g = y * g - x * g := Int.sub_mul ..
  have := pos_of_mul0 (a := y - x) (b := g) (by omega) hg
  omega
theorem lst_iff0 {P Q : Int → Prop} (h : ∀ n, 0 ≤ n → (P n ↔ Q n)) (n : Int) : Lst P n ↔ Lst Q n := by
  unfold Lst
  constructor
  · rintro ⟨a, b, c⟩
    exact ⟨a, (h n a).mp b, fun k h0 h1 z => c k h0 h1 ((h k h0).mpr z)⟩
  · rintro ⟨a, b, c⟩
    exact ⟨a, (h n a).mpr b, fun k h0 h1 z => c k h0 h1 ((h k h0).mp z)⟩
theorem nom_iff0 {P Q : Int → Prop} (h : ∀ n, 0 ≤ n → (P n ↔ Q n)) : NoM P ↔ NoM Q := ⟨fun g n n0 z => g n n0 ((h n n0).mpr z), fun g n n0 z => g n n0 ((h n n0).mp z)⟩
def unv : List (Int × Int × Int) → Int → Int
  | [], n => n
  | (s, o, v) :: r, n => dvu (s * unv r n + o) v
theorem unv_snoc : ∀ (L : List (Int × Int × Int)) (s o v n : Int), unv (L ++ [(s, o, v)]) n = unv L (dvu (s * n + o) v)
  | [], _, _, _, _ => rfl
  | (s', o', v') :: r, s, o, v, n => by
    show dvu (s' * unv (r ++ [(s, o, v)]) n + o') v' = dvu (s' * unv r (dvu (s * n + o) v) + o') v'
    rw [unv_snoc r]
structure FI (j : Nat) (G W M : Int) (P0 : Int → Prop) (L : List (Int × Int × Int)) (a b m c d n : Int) : Prop where
  m1 : 1 ≤ m
  n1 : 1 ≤ n
  w : m * n ≤ W
  r : b * n ≤ d * m ∨ c * m ≤ a * n
  g : b * n - d * m ≤ G + L.length * W
  ba : Bd j a
  bb : Bd j b
  bc : Bd j c
  bd : Bd j d
  A : ∀ x, Lst (Ib a b m c d n) x → Lst P0 (unv L x)
  Bn : NoM (Ib a b m c d n) → NoM P0
  C : ∀ l1 l2, L = l1 ++ l2 → ∀ x, Lst (Ib a b m c d n) x → 0 ≤ unv l2 x ∧ unv l2 x ≤ M
  D : ∀ e ∈ L, 1 ≤ e.2.2 ∧ Bd j e.1 ∧ Bd j e.2.1 ∧ Bd j e.2.2
  l : L = [] ∨ (m < a ∧ (a * n).toNat * 2 ^ L.length ≤ (2 * W).toNat)
theorem FI.init {j : Nat} {M a b m c d n : Int} (m1 : 1 ≤ m) (n1 : 1 ≤ n) (r : b * n ≤ d * m) (ba : Bd j a) (bb : Bd j b) (bc : Bd j c) (bd : Bd j d) (hM : ∀ x, Lst (Ib a b m c d n) x → x ≤ M) : FI j 0 (m * n) M (Ib a b m c d n) [] a b m c d n :=
  ⟨m1, n1, Int.le_refl _, .inl r, by simp; omega, ba, bb, bc, bd, fun _ h => h, fun h => h, fun l1 l2 e x hx => by
    have : l2 = [] := (List.append_eq_nil_iff.mp e.symm).2
    subst this
    exact ⟨hx.1, hM x hx⟩, by simp, .inl rfl⟩
theorem mul_self_le {x y : Int} (hx : 0 ≤ x) (hy : 1 ≤ y) : x ≤ x * y := by
  have := Int.mul_le_mul_of_nonneg_left hy hx
  omega
theorem FI.len {j k : Nat} {G W M a b m c d n : Int} {P0 : Int → Prop} {L : List (Int × Int × Int)} (F : FI j G W M P0 L a b m c d n) (bW : Bd k W) : L.length < k + 2 := by
  rcases F.l with z | ⟨h1, h2⟩
  · rw [z]
    simp
  · have m1 := F.m1
    have p1 := one_le_mul (show 1 ≤ a by omega) F.n1
    have B1 : Bd (k + 1) (2 * W) := by
      rw [show 2 * W = W + W by omega]
      exact Bd.add bW bW
    unfold Bd at B1
    have h3 : 2 ^ L.length ≤ (a * n).toNat * 2 ^ L.length := Nat.le_mul_of_pos_left _ (by omega)
    have h4 : 2 ^ L.length < 2 ^ (k + 1) := by omega
    have := (Nat.pow_lt_pow_iff_right (by decide)).mp h4
    omega
/-- what is known after the whole parts are gone -/
structure Slim (a b m c d n : Int) : Prop where
  a0 : 0 < a
  am : a ≤ m
  b0 : 0 < b
  bm : b ≤ m
  c0 : 0 < c
  cn : c < n
  dn : d < n
theorem FI.next {j : Nat} {G W M Z a b m c d n a' b' c' d' s u : Int} {P0 : Int → Prop} {L : List (Int × Int × Int)} (F : FI j G W M P0 L a b m c d n) (S : Slim a' b' m c' d' n)
    (eb : b' = b - u * m) (ed : d' = d - u * n) (ea : a' = a - (s - 1) * m) (ec : c' = c - (s - 1) * n) (hW : W ≤ Z) (hZ : G + 4097 * W ≤ Z) (bZ : Bd j Z) (hl : L.length < 4096) :
    FI j G W M P0 (L ++ [(n, n - d', c')]) n (n - d') c' m (m - b') a' := by
  have m1 := F.m1
  have n1 := F.n1
  have w := F.w
  have g := F.g
  obtain ⟨a0, am, b0, bm, c0, cn, dn⟩ := S
  have W0 : 1 ≤ W := by
    have := one_le_mul m1 n1
    omega
  have eg : b' * n - d' * m = b * n - d * m := by
    rw [eb, ed]
    grind
  have h1 : n - d' ≤ (n - d') * m := mul_self_le (by omega) m1
  have h2 : (n - d') * a' ≤ (n - d') * m := Int.mul_le_mul_of_nonneg_left am (by omega)
  have h3 : 0 ≤ (m - b') * c' := Int.mul_nonneg (by omega) (by omega)
  have h4 : 0 ≤ b' * n := Int.mul_nonneg (by omega) (by omega)
  have e1 : (n - d') * m = m * n - d' * m := by grind
  have hlw : (L.length : Int) * W ≤ 4096 * W := Int.mul_le_mul_of_nonneg_right (by omega) (by omega)
  have hnm := mul_self_le (show 0 ≤ n by omega) m1
  have hmn := mul_self_le (show 0 ≤ m by omega) n1
  rw [Int.mul_comm n m] at hnm
  have iff : ∀ x, Ib a' b' m c' d' n x ↔ Ib a b m c d n x := fun x => by
    rw [eb, ed, ea, ec]
    exact (ib_tilt (s - 1)).trans (ib_down u)
  have bk : ∀ x, Lst (Ib n (n - d') c' m (m - b') a') x → Lst (Ib a b m c d n) (dvu (n * x + (n - d')) c') ∧ x ≤ dvu (n * x + (n - d')) c' := fun x hx => by
    have := ib_back (show 0 < m by omega) (show 0 < n by omega) a0 c0 cn b0 dn hx
    exact ⟨(lst_iff iff _).mp this.1, this.2⟩
  refine ⟨by omega, by omega, ?_, ?_, ?_, bZ.between (by omega) (by omega), bZ.between (by omega) (by omega), bZ.between (by omega) (by omega), bZ.between (by omega) (by omega), fun x hx => ?_, fun hx => F.Bn fun x x0 z => ib_none (show 0 < m by omega) a0 b0 hx x x0 ((iff x).mpr z), fun l1 l2 e x hx => ?_, fun e he => ?_, .inr ⟨cn, ?_⟩⟩
  · have := Int.mul_le_mul (show c' ≤ n by omega) am (by omega) (by omega)
    rw [Int.mul_comm n m] at this
    omega
  · rcases Int.lt_or_le (a * n) (c * m) with z | z
    · left
      have r := F.r.resolve_right (by omega)
      have g1 : (n - d') * m ≤ (m - b') * n := by
        have : (m - b') * n = m * n - b' * n := Int.sub_mul ..
        omega
      have g2 : a' * n ≤ c' * m := by
        rw [ea, ec]
        have x1 : (a - (s - 1) * m) * n = a * n - (s - 1) * m * n := Int.sub_mul ..
        have x2 : (c - (s - 1) * n) * m = c * m - (s - 1) * m * n := by grind
        omega
      have g3 := Int.mul_le_mul g1 g2 (Int.mul_nonneg (by omega) (by omega)) (Int.mul_nonneg (by omega) (by omega))
      have x1 : (n - d') * m * (a' * n) = (n - d') * a' * (m * n) := by grind
      have x2 : (m - b') * n * (c' * m) = (m - b') * c' * (m * n) := by grind
      rw [x1, x2] at g3
      exact Int.le_of_mul_le_mul_right g3 (by have := one_le_mul m1 n1; omega)
    · right
      rw [ea, ec]
      have x1 : n * (a - (s - 1) * m) = a * n - (s - 1) * m * n := by grind
      have x2 : m * (c - (s - 1) * n) = c * m - (s - 1) * m * n := by grind
      omega
  · rw [List.length_append, List.length_singleton]
    have : ((L.length + 1 : Nat) : Int) * W = L.length * W + W := by
      rw [Int.natCast_add, Int.add_mul]
      omega
    omega
  · rw [unv_snoc]
    exact F.A _ (bk x hx).1
  · rcases List.eq_nil_or_concat l2 with z | ⟨l3, y, z⟩
    · subst z
      have h5 := (F.C L [] (by simp) _ (bk x hx).1).2
      have h6 := (bk x hx).2
      exact ⟨hx.1, Int.le_trans h6 h5⟩
    · have z2 : l2 = l3 ++ [y] := by simpa using z
      subst z2
      have e' : L ++ [(n, n - d', c')] = (l1 ++ l3) ++ [y] := by rw [List.append_assoc]; exact e
      obtain ⟨q1, q2⟩ := List.append_inj' e' rfl
      have q3 : (n, n - d', c') = y := by simpa using q2
      rw [← q3, unv_snoc]
      exact F.C l1 l3 q1 _ (bk x hx).1
  · rcases List.mem_append.mp he with z | z
    · exact F.D e z
    · rw [List.mem_singleton.mp z]
      exact ⟨by show 1 ≤ c'; omega, bZ.between (by show 0 ≤ n; omega) (by show n ≤ Z; omega), bZ.between (by show 0 ≤ n - d'; omega) (by show n - d' ≤ Z; omega), bZ.between (by show 0 ≤ c'; omega) (by show c' ≤ Z; omega)⟩
  · rw [List.length_append, List.length_singleton, Nat.pow_succ]
    rcases F.l with z | ⟨z1, z2⟩
    · rw [z]
      simp only [List.length_nil, Nat.pow_zero, Nat.one_mul]
      have := Int.mul_le_mul_of_nonneg_left am (show 0 ≤ n by omega)
      rw [Int.mul_comm n m] at this
      generalize n * a' = x at *
      omega
    · refine Nat.le_trans ?_ z2
      rw [Nat.mul_comm (2 ^ L.length) 2, ← Nat.mul_assoc]
      refine Nat.mul_le_mul_right _ ?_
      have s2 : 1 ≤ s - 1 := by
        rcases Int.lt_or_le 0 (s - 1) with y | y
        · exact y
        · have := Int.mul_nonneg (show 0 ≤ -(s - 1) by omega) (show 0 ≤ m by omega)
          rw [Int.neg_mul] at this
          omega
      have h7 := Int.mul_le_mul_of_nonneg_right s2 (show 0 ≤ m by omega)
      have h8 := Int.mul_le_mul_of_nonneg_left (show 2 * a' ≤ a by omega) (show 0 ≤ n by omega)
      have e2 : n * (2 * a') = 2 * (n * a') := by grind
      rw [e2, Int.mul_comm n a] at h8
      have := Int.mul_nonneg (show 0 ≤ n by omega) (show 0 ≤ a' by omega)
      generalize n * a' = x at *
      generalize a * n = y at *
      omega
/-- the least time at which one of two ways is covered -/
def Ex (f b r e x : Int) : Prop := b ≤ f * x ∨ e ≤ r * x
theorem ib_ex {a b m c d n s x : Int} (m1 : 1 ≤ m) (n1 : 1 ≤ n) (sa : a ≤ s * m) (sc : s * n ≤ c) (b0 : 0 < b) (bm : b ≤ m) (dn : d < n) (r : b * n ≤ d * m ∨ c * m ≤ a * n) (x0 : 0 ≤ x) : Ib a b m c d n x ↔ Ex (s * m - a) b (c - s * n) (n - d) x := by
  have t := ib_tilt (a := a) (b := b) (m := m) (c := c) (d := d) (n := n) (x := x) s
  rw [← t]
  rcases r with r | r
  · have d0 : 0 ≤ d := by
      have := one_le_mul (show 1 ≤ b by omega) n1
      have := pos_of_mul0 (a := d) (b := m) (by omega) (by omega)
      omega
    rw [show a - s * m = -(s * m - a) by omega]
    exact ib_exit (by omega) (by omega) (by omega) (by omega) b0 bm d0 dn x0
  · have h1 : s * m ≤ a := by
      have := Int.mul_le_mul_of_nonneg_right sc (show 0 ≤ m by omega)
      have e : s * n * m = s * m * n := by grind
      exact Int.le_of_mul_le_mul_right (show s * m * n ≤ a * n by omega) (by omega)
    have h2 : c ≤ s * n := by
      have := Int.mul_le_mul_of_nonneg_right sa (show 0 ≤ n by omega)
      have e : s * m * n = s * n * m := by grind
      exact Int.le_of_mul_le_mul_right (show c * m ≤ s * n * m by omega) (by omega)
    rw [show a - s * m = 0 by omega, show c - s * n = 0 by omega, show s * m - a = 0 by omega]
    refine ⟨fun z => absurd z (ib_flat (by omega) (by omega) b0 dn), fun z => ?_⟩
    rcases z with z | z <;> rw [Int.zero_mul] at z <;> omega
/-- how far the least one may be -/
theorem ib_far {a b m c d n x : Int} (m1 : 1 ≤ m) (n1 : 1 ≤ n) (r : b * n ≤ d * m) (h : Lst (Ib a b m c d n) x) : x ≤ m * n + (d * m - b * n) := by
  obtain ⟨x0, ⟨y, h1, h2⟩, lst⟩ := h
  have mn := one_le_mul m1 n1
  rcases Int.lt_trichotomy (a * n) (c * m) with z | z | z
  · rcases Int.lt_or_le (m * n) x with k | k
    · refine absurd ?_ (lst (m * n) (by omega) k)
      refine ⟨dvu (a * (m * n) + b) m, dvu_ge (by omega), ?_⟩
      have l := dvu_lt (x := a * (m * n) + b) (s := m) (by omega)
      generalize dvu (a * (m * n) + b) m = v at *
      refine Int.le_of_lt_add_one (lt_of_mulc (g := m) ?_ (by omega))
      have l2 := Int.mul_le_mul_of_nonneg_right (show m * v + 1 ≤ a * (m * n) + b + m by omega) (show 0 ≤ n by omega)
      have z2 := Int.mul_le_mul_of_nonneg_right (show a * n + 1 ≤ c * m by omega) (show 0 ≤ m * n by omega)
      have e1 : (m * v + 1) * n = n * v * m + n := by grind
      have e2 : (a * (m * n) + b + m) * n = a * n * (m * n) + b * n + m * n := by grind
      have e3 : (c * (m * n) + d + 1) * m = c * m * (m * n) + d * m + m := by grind
      have e4 : (a * n + 1) * (m * n) = a * n * (m * n) + m * n := by grind
      omega
    · omega
  · rcases Int.lt_or_le x (m * n) with k | k
    · omega
    · refine absurd ?_ (lst (x - m * n) (by omega) (by omega))
      refine ⟨y - a * n, ?_, ?_⟩
      · have e1 : a * (x - m * n) = a * x - m * (a * n) := by grind
        rw [e1, Int.mul_sub]
        omega
      · have e1 : c * (x - m * n) = c * x - n * (c * m) := by grind
        rw [e1, Int.mul_sub, z]
        omega
  · have g1 := Int.mul_le_mul_of_nonneg_right h1 (show 0 ≤ n by omega)
    have g2 := Int.mul_le_mul_of_nonneg_right h2 (show 0 ≤ m by omega)
    have e1 : (a * x + b) * n = a * n * x + b * n := by grind
    have e2 : (c * x + d) * m = c * m * x + d * m := by grind
    have e3 : m * y * n = n * y * m := by grind
    have g3 := Int.mul_le_mul_of_nonneg_right (show c * m + 1 ≤ a * n by omega) x0
    rw [Int.add_mul] at g3
    omega
end Lf
namespace Lf
open PySem PySem.Spec PyProof.Rows L2
/-! ### min(xs, default=None), max(xs, default=None) of a list of ints -/
theorem hold_ints {h : Heap} {xs : List Int} {us : List Value} (r : Vals (xs.map V.int) us) : PySem.W.HoldAll h us xs := by
  suffices h' : ∃ as, ReadsAll h us (xs.map PyData.int) as from h'
  induction xs generalizing us with
  | nil =>
    cases r
    exact ⟨_, .nil⟩
  | cons x xs ih =>
    cases r with
    | cons r1 r =>
      obtain ⟨as, e⟩ := ih r
      obtain ⟨t, rfl⟩ := (show ∃ t, _ = Value.int x t from r1)
      exact ⟨_, .cons (.int x t) e⟩
def minV : List Int → V
  | [] => .non
  | x :: xs => .int (PySem.W.minOf x xs)
def maxV : List Int → V
  | [] => .non
  | x :: xs => .int (PySem.W.maxOf x xs)
def rMinD (K : PySem.W.Frag) : List V → List V → Hp → VK → Prop := fun vs zs H Q => ∃ (a : Addr) (xs : List Int), vs = [V.ref a] ∧ zs = [.non] ∧ SqL K H a (xs.map V.int) ∧ Q (minV xs) H
def rMaxD (K : PySem.W.Frag) : List V → List V → Hp → VK → Prop := fun vs zs H Q => ∃ (a : Addr) (xs : List Int), vs = [V.ref a] ∧ zs = [.non] ∧ SqL K H a (xs.map V.int) ∧ Q (maxV xs) H
theorem cr_minD {X : Cx} (hc : X.calm = true) (hu : X.A.units + 1 < cLine) : CallRK X (.builtin "min") ["default"] (rMinD X.K) := by
  intro pins s σ H vs zs us ws Q I r r2 h
  obtain ⟨a, xs, rfl, rfl, hs, q⟩ := h
  obtain ⟨its, rv, hl, _⟩ := I.list hs
  rw [Vals.ref1 r]
  cases r2 with
  | cons r3 r4 =>
    cases r4
    cases r3
    refine PySem.W.min_list_datum_default (α := Int) (xs := xs) (I.ok.hd hc) hl.isList (hold_ints rv) (by show _ + 1 + 0 < _; omega) (fun e h' tk hk => ?_) fun y ys i v h' tk e hv hh hk => ?_
    · subst e
      exact ⟨.non, H, I.kept hk, rfl, q⟩
    · subst e
      obtain ⟨as, hr⟩ := hh
      obtain ⟨t, rfl⟩ : ∃ t, v = Value.int (PySem.W.minOf y ys) t := by
        cases hr
        exact ⟨_, rfl⟩
      exact ⟨.int _, H, I.kept hk, ⟨_, rfl⟩, q⟩
theorem cr_maxD {X : Cx} (hc : X.calm = true) (hu : X.A.units + 1 < cLine) : CallRK X (.builtin "max") ["default"] (rMaxD X.K) := by
  intro pins s σ H vs zs us ws Q I r r2 h
  obtain ⟨a, xs, rfl, rfl, hs, q⟩ := h
  obtain ⟨its, rv, hl, _⟩ := I.list hs
  rw [Vals.ref1 r]
  cases r2 with
  | cons r3 r4 =>
    cases r4
    cases r3
    refine PySem.W.max_list_datum_default (α := Int) (xs := xs) (I.ok.hd hc) hl.isList (hold_ints rv) (by show _ + 1 + 0 < _; omega) (fun e h' tk hk => ?_) fun y ys i v h' tk e hv hh hk => ?_
    · subst e
      exact ⟨.non, H, I.kept hk, rfl, q⟩
    · subst e
      obtain ⟨as, hr⟩ := hh
      obtain ⟨t, rfl⟩ : ∃ t, v = Value.int (PySem.W.maxOf y ys) t := by
        cases hr
        exact ⟨_, rfl⟩
      exact ⟨.int _, H, I.kept hk, ⟨_, rfl⟩, q⟩
theorem minOf2 (x y : Int) : PySem.W.minOf x [y] = if y < x then y else x := by
  show (if decide (y < x) = true then y else x) = _
  by_cases h : y < x <;> simp [h]
theorem maxOf2 (x y : Int) : PySem.W.maxOf x [y] = if x < y then y else x := by
  show (if decide (x < y) = true then y else x) = _
  by_cases h : x < y <;> simp [h]
end Lf
namespace Lf
open PySem PySem.Spec PyProof.Rows L2
/-- the levels as they lie: the list's items are tuples of three ints -/
structure Lv3 (H : Hp) (ts : List Addr) (L : List (Int × Int × Int)) : Prop where
  len : ts.length = L.length
  at_ : ∀ (i : Nat) (t : Addr) (e : Int × Int × Int), ts[i]? = some t → L[i]? = some e → H t = some (.tup [.int e.1, .int e.2.1, .int e.2.2])
theorem Lv3.same {H H' : Hp} {ts : List Addr} {L : List (Int × Int × Int)} (v : Lv3 H ts L) (f : Fr H H') : Lv3 H' ts L := ⟨v.len, fun i t e h1 h2 => f.t _ _ (v.at_ i t e h1 h2)⟩
theorem Lv3.snoc {H : Hp} {ts : List Addr} {L : List (Int × Int × Int)} {t : Addr} {s m l : Int} (v : Lv3 H ts L) (h : H t = some (.tup [.int s, .int m, .int l])) : Lv3 H (ts ++ [t]) (L ++ [(s, m, l)]) := by
  refine ⟨by rw [List.length_append, List.length_append, v.len]; rfl, fun i t' e h1 h2 => ?_⟩
  by_cases hi : i < ts.length
  · rw [List.getElem?_append_left hi] at h1
    rw [List.getElem?_append_left (by rw [← v.len]; exact hi)] at h2
    exact v.at_ i t' e h1 h2
  · rw [List.getElem?_append_right (by omega)] at h1
    rw [List.getElem?_append_right (by rw [← v.len]; omega)] at h2
    rw [v.len] at h1
    cases hz : i - L.length with
    | zero =>
      rw [hz] at h1 h2
      have e1 : t = t' := Option.some.inj h1
      have e2 : (s, m, l) = e := Option.some.inj h2
      subst e1 e2
      exact h
    | succ z =>
      rw [hz] at h1
      simp at h1
theorem dvu_lst {f b : Int} (hf : 0 < f) (hb : 0 < b) : Lst (fun x => b ≤ f * x) (dvu b f) := by
  have g := dvu_ge (x := b) hf
  refine ⟨?_, g, fun k k0 k1 z => ?_⟩
  · rcases Int.lt_or_le (dvu b f) 0 with z | z
    · have := Int.mul_le_mul_of_nonneg_left (show dvu b f ≤ 0 by omega) (Int.le_of_lt hf)
      rw [Int.mul_zero] at this
      omega
    · exact z
  · have := (dvu_le hf).mpr z
    omega
/-- the least of two -/
theorem ex_two {f b r e : Int} (f0 : 0 < f) (r0 : 0 < r) (b0 : 0 < b) (e0 : 0 < e) : Lst (Ex f b r e) (if dvu e r < dvu b f then dvu e r else dvu b f) := by
  obtain ⟨p1, p2, p3⟩ := dvu_lst f0 b0
  obtain ⟨q1, q2, q3⟩ := dvu_lst r0 e0
  by_cases h : dvu e r < dvu b f
  · rw [if_pos h]
    exact ⟨q1, .inr q2, fun k k0 k1 z => z.elim (p3 k k0 (by omega)) (q3 k k0 k1)⟩
  · rw [if_neg h]
    exact ⟨p1, .inl p2, fun k k0 k1 z => z.elim (p3 k k0 k1) (q3 k k0 (by omega))⟩
theorem ex_one {f b r e : Int} (f0 : 0 < f) (r0 : r = 0) (b0 : 0 < b) (e0 : 0 < e) : Lst (Ex f b r e) (dvu b f) := by
  subst r0
  obtain ⟨p1, p2, p3⟩ := dvu_lst f0 b0
  exact ⟨p1, .inl p2, fun k k0 k1 z => z.elim (p3 k k0 k1) (fun z => by rw [Int.zero_mul] at z; omega)⟩
theorem ex_oth {f b r e : Int} (f0 : f = 0) (r0 : 0 < r) (b0 : 0 < b) (e0 : 0 < e) : Lst (Ex f b r e) (dvu e r) := by
  subst f0
  obtain ⟨p1, p2, p3⟩ := dvu_lst r0 e0
  exact ⟨p1, .inr p2, fun k k0 k1 z => z.elim (fun z => by rw [Int.zero_mul] at z; omega) (p3 k k0 k1)⟩
theorem ex_no {f b r e : Int} (f0 : f = 0) (r0 : r = 0) (b0 : 0 < b) (e0 : 0 < e) : NoM (Ex f b r e) := by
  subst f0 r0
  rintro x x0 (z | z) <;> rw [Int.zero_mul] at z <;> omega
section
variable {P : Program} {w : World} {K : PySem.W.Frag} {mg : Str → Option Value} {base : Heap}
/-! ### first_exit -/
def spExit : Sp := fun vs H Q _ => ∃ (u v : Addr) (f b r e : Int) (k : Nat), vs = [.ref u, .ref v] ∧ H u = some (.tup [.int f, .int b]) ∧ H v = some (.tup [.int r, .int e]) ∧ 0 ≤ f ∧ 0 ≤ r ∧ 0 < b ∧ 0 < e ∧ Bd k f ∧ Bd k r ∧ k ≤ 9000 ∧
  (∀ n H', Same H H' → Lst (Ex f b r e) n → Q (.int n) H') ∧ (NoM (Ex f b r e) → ∀ H', Same H H' → Q .non H')
abbrev s_first_exit : Stmt := topS 14
abbrev N_first_exit : List Str := ["fall", "rise", "times", "speed", "way"]
abbrev P_first_exit : List Str := ["fall", "rise"]
theorem sc_first_exit : FnScope N_first_exit P_first_exit (defScope s_first_exit) := ⟨rfl, rfl, rfl, by decide +kernel, rfl, by decide +kernel, by decide +kernel⟩
theorem ok_first_exit (D : Df K mg "first_exit" s_first_exit P_first_exit) (B : Bi mg) (c_divide_up : C8.Cal P w K mg base 1 "divide_up" spDivUp []) : C8.Cal P w K mg base 2 "first_exit" spExit [] := by
  refine cal_of D sc_first_exit (fun vs H Q E h => ?_) (fun f cdv A outer s H vs Q E hr h => ?_)
  · obtain ⟨u, v, f, b, r, e, k, rfl, _⟩ := h
    rfl
  · obtain ⟨u, v, fl, b, r, e, k, rfl, eu, ev, f0, r0, b0, e0, bf, br, k9, q1, q2⟩ := h
    have hu := hu_of hr
    have hu1 : (A.deeper (envOfC "first_exit" (defScope s_first_exit) s.heap.objs.size f cdv)).units + 1 < cLine := by
      have := hr.un
      omega
    refine ⟨_, (pss_cons (ps_setLc (i := 2) (own := [("speed", 3), ("way", 4)]) (g := (gTup K 2 (gCons (gName 3) (gCons (gName 4) gNil)))) (by rfl) sc_first_exit.nd rfl rfl (sw_true rfl rfl rfl (by decide +kernel)) (pi_tup (pe_tup (pa_cons (pv 0) (pa_cons (pv 1) pa_nil)))) (blkOk_by (own := [("speed", 3), ("way", 4)]) (N := N_first_exit) (sc := defScope s_first_exit) (by decide +kernel)) (fun _ _ _ _ _ => (pg_tup rfl (pgs_cons (pg_name (i := 3) sc_first_exit.nd rfl (Or.inl rfl)) (pgs_cons (pg_name (i := 4) sc_first_exit.nd rfl (Or.inl rfl)) pgs_nil)))) (fun _ _ _ _ _ => (pts_one (pt_cmpR op_gt (pv 3) pe_int (nomark _)))) (fun _ _ _ _ _ => (C8.pe_c c_divide_up hr (by decide) (by rfl) (pa_cons (pv 4) (pa_cons (pv 3) pa_nil)))))
    (pss_one (ps_ret (pe_callBK (cr_minD rfl hu1) (by rfl) B.min_ bt_min (pa_cons (pv 2) pa_nil) (pk_cons pe_non pk_nil))))), ?_⟩
    refine ⟨_, rfl, _, rfl, len10 (by simp), fun tq ntq => ?_⟩
    have s4 := sm_upd (o := .tup [.ref u, .ref v]) ntq
    have e4 : upd H tq (.tup [.ref u, .ref v]) tq = some (.tup [.ref u, .ref v]) := upd_same
    generalize upd H tq (.tup [.ref u, .ref v]) = H4 at s4 e4
    have eu := s4 _ _ eu
    have ev := s4 _ _ ev
    refine ⟨tq, rfl, ⟨_, SqT.of e4⟩, fun L nL => ?_⟩
    refine lc_tup (K := K) (a := tq) (xs := [.ref u, .ref v]) (fun j H' => Same H4 H' ∧ H' L = some (.lst (((if 0 < j ∧ 0 < fl then [dvu b fl] else []) ++ (if 1 < j ∧ 0 < r then [dvu e r] else [])).map V.int))) ⟨sm_upd nL, upd_same⟩ ?_ ?_ ?_
    · rintro j H' _ ⟨s1, _⟩
      exact SqT.of (s1 _ _ e4)
    · rintro j x H' hx ⟨s1, eL⟩
      match j, hx with
      | 0, hx =>
        cases hx
        refine ⟨u, _, rfl, SqT.of (s1 _ _ eu), rfl, _, _, rfl, _, _, rfl, rfl, rfl, ?_⟩
        refine ⟨_, rfl, _, _, rfl, rfl, _, rfl, ite2 (fun c => ?_) (fun c => ?_)⟩
        · have c : 0 < fl := of_decide_eq_true c
          refine ⟨_, rfl, _, rfl, b, fl, rfl, c, bf.mono k9, _, eL, small1000 (by simp), ?_, ?_⟩
          · intro y o ey
            rw [upd_ne (ne_of_none ey nL)]
            exact s1 _ _ ey
          · rw [upd_same]
            simp [c]
        · have c : ¬ 0 < fl := fun z => c (decide_eq_true z)
          refine ⟨s1, ?_⟩
          rw [eL]
          simp [c]
      | 1, hx =>
        cases hx
        refine ⟨v, _, rfl, SqT.of (s1 _ _ ev), rfl, _, _, rfl, _, _, rfl, rfl, rfl, ?_⟩
        refine ⟨_, rfl, _, _, rfl, rfl, _, rfl, ite2 (fun c => ?_) (fun c => ?_)⟩
        · have c : 0 < r := of_decide_eq_true c
          refine ⟨_, rfl, _, rfl, e, r, rfl, c, br.mono k9, _, eL, small1000 (by simp; split <;> simp), ?_, ?_⟩
          · intro y o ey
            rw [upd_ne (ne_of_none ey nL)]
            exact s1 _ _ ey
          · rw [upd_same]
            simp [c]
        · have c : ¬ 0 < r := fun z => c (decide_eq_true z)
          refine ⟨s1, ?_⟩
          rw [eL]
          simp [c]
    rintro H5 ⟨s5, eL⟩
    have s6 := s4.trans s5
    refine ⟨_, rfl, L, _, rfl, rfl, SqL.of eL, ?_⟩
    by_cases cf : 0 < fl
    · by_cases cr : 0 < r
      · have ee : minV ((if 0 < [V.ref u, V.ref v].length ∧ 0 < fl then [dvu b fl] else []) ++ (if 1 < [V.ref u, V.ref v].length ∧ 0 < r then [dvu e r] else [])) = .int (if dvu e r < dvu b fl then dvu e r else dvu b fl) := by
          rw [if_pos ⟨by simp, cf⟩, if_pos ⟨by simp, cr⟩]
          show V.int (PySem.W.minOf (dvu b fl) [dvu e r]) = _
          rw [minOf2]
        rw [ee]
        exact q1 _ _ s6 (ex_two cf cr b0 e0)
      · have ee : minV ((if 0 < [V.ref u, V.ref v].length ∧ 0 < fl then [dvu b fl] else []) ++ (if 1 < [V.ref u, V.ref v].length ∧ 0 < r then [dvu e r] else [])) = .int (dvu b fl) := by
          rw [if_pos ⟨by simp, cf⟩, if_neg (fun z => cr z.2)]
          rfl
        rw [ee]
        exact q1 _ _ s6 (ex_one cf (by omega) b0 e0)
    · by_cases cr : 0 < r
      · have ee : minV ((if 0 < [V.ref u, V.ref v].length ∧ 0 < fl then [dvu b fl] else []) ++ (if 1 < [V.ref u, V.ref v].length ∧ 0 < r then [dvu e r] else [])) = .int (dvu e r) := by
          rw [if_neg (fun z => cf z.2), if_pos ⟨by simp, cr⟩]
          rfl
        rw [ee]
        exact q1 _ _ s6 (ex_oth (by omega) cr b0 e0)
      · have ee : minV ((if 0 < [V.ref u, V.ref v].length ∧ 0 < fl then [dvu b fl] else []) ++ (if 1 < [V.ref u, V.ref v].length ∧ 0 < r then [dvu e r] else [])) = .non := by
          rw [if_neg (fun z => cf z.2), if_neg (fun z => cr z.2)]
          rfl
        rw [ee]
        exact q2 (ex_no (by omega) (by omega) b0 e0) _ s6
end
end Lf
namespace Lf
open PySem PySem.Spec PyProof.Rows L2
theorem nab_dvu {x s : Int} (hs : 0 < s) : (dvu x s).natAbs ≤ x.natAbs := by
  unfold dvu
  have := nab_ediv (x := -x) hs
  omega
theorem Bd.dvu {k : Nat} {x s : Int} (h : Bd k x) (hs : 0 < s) : Bd k (dvu x s) := h.le (nab_dvu hs)
abbrev tp3 (p q c : Int) : HO := .tup [.int p, .int q, .int c]
section
variable {P : Program} {w : World} {K : PySem.W.Frag} {mg : Str → Option Value} {base : Heap}
/-! ### first_inside -/
def spFI : Sp := fun vs H Q _ => ∃ (lw hg : Addr) (a b m c d n : Int) (k : Nat), vs = [.ref lw, .ref hg] ∧ H lw = some (tp3 a b m) ∧ H hg = some (tp3 c d n) ∧ 1 ≤ m ∧ 1 ≤ n ∧ b * n ≤ d * m ∧ Bd k a ∧ Bd k b ∧ Bd k m ∧ Bd k c ∧ Bd k d ∧ Bd k n ∧ 0 < k ∧ k ≤ 2000 ∧
  (∀ x H', Same H H' → Lst (Ib a b m c d n) x → Q (.int x) H') ∧ (NoM (Ib a b m c d n) → ∀ H', Same H H' → Q .non H')
def muB : L2.St → Hp → Nat := fun σ H => match σ with
  | some (.ref l) :: some (.ref h) :: _ => (match H l, H h with
    | some (.tup [_, _, .int m]), some (.tup [_, _, .int n]) => (m + n).toNat
    | _, _ => 0)
  | _ => 0
abbrev s_first_inside : Stmt := topS 13
abbrev N_first_inside : List Str := ["low", "high", "levels", "a", "b", "m", "c", "d", "n", "upper", "x", "slope", "offset", "divisor"]
abbrev P_first_inside : List Str := ["low", "high"]
theorem sc_first_inside : FnScope N_first_inside P_first_inside (defScope s_first_inside) := ⟨rfl, rfl, rfl, by decide +kernel, rfl, by decide +kernel, by decide +kernel⟩
theorem ok_first_inside (D : Df K mg "first_inside" s_first_inside P_first_inside) (B : Bi mg) (c_divide_up : C8.Cal P w K mg base 1 "divide_up" spDivUp []) (c_first_exit : C8.Cal P w K mg base 2 "first_exit" spExit []) : C8.Cal P w K mg base 3 "first_inside" spFI [] := by
  refine cal_of D sc_first_inside (fun vs H Q E h => ?_) (fun f cdv A outer s H vs Q E hr h => ?_)
  · obtain ⟨lw, hg, a, b, m, c, d, n, k, rfl, _⟩ := h
    rfl
  · obtain ⟨lw0, hg0, a0, b0, m0, c0, d0, n0, k, rfl, el0, eh0, m1, n1, r0, ba, bb, bm, bc, bd, bn, k0, k2, q1, q2⟩ := h
    refine ⟨_, (pss_cons (ps_set (i := 2) sc_first_inside.nd rfl (Or.inl rfl) (pe_lst pa_nil))
    (C8.pss_cut (ps_while PassesOwn.never (pt_val pe_bl)
      (pss_cons (ps_asg (pv 0) (pg_tup rfl (pgs_cons (pg_name (i := 3) sc_first_inside.nd rfl (Or.inl rfl)) (pgs_cons (pg_name (i := 4) sc_first_inside.nd rfl (Or.inl rfl)) (pgs_cons (pg_name (i := 5) sc_first_inside.nd rfl (Or.inl rfl)) pgs_nil)))))
    (pss_cons (ps_asg (pv 1) (pg_tup rfl (pgs_cons (pg_name (i := 6) sc_first_inside.nd rfl (Or.inl rfl)) (pgs_cons (pg_name (i := 7) sc_first_inside.nd rfl (Or.inl rfl)) (pgs_cons (pg_name (i := 8) sc_first_inside.nd rfl (Or.inl rfl)) pgs_nil)))))
    (pss_cons (ps_set (i := 9) sc_first_inside.nd rfl (Or.inl rfl) (C8.pe_c c_divide_up hr (by decide) (by rfl) (pa_cons (pv 4) (pa_cons (pv 5) pa_nil))))
    (pss_cons (ps_if (pt_cmpR op_le (pe_op op_mulW (pv 9) (pv 8)) (pv 7) (nomark _))
      (pss_cons (ps_set (i := 10) sc_first_inside.nd rfl (Or.inl rfl) pe_int)
    (pss_one ps_break))
      pss_nil)
    (pss_cons (ps_par (i := 4) (j := 7) rfl sc_first_inside.nd rfl rfl (by decide) rfl rfl (pa_cons (pe_op op_sub (pv 4) (pe_op op_mulW (pe_op op_sub (pv 9) pe_int) (pv 5))) (pa_cons (pe_op op_sub (pv 7) (pe_op op_mulW (pe_op op_sub (pv 9) pe_int) (pv 8))) pa_nil)) rfl)
    (pss_cons (ps_set (i := 11) sc_first_inside.nd rfl (Or.inl rfl) (C8.pe_c c_divide_up hr (by decide) (by rfl) (pa_cons (pv 3) (pa_cons (pv 5) pa_nil))))
    (pss_cons (ps_if (pt_cmpR op_le (pe_op op_mulW (pv 11) (pv 8)) (pv 6) (nomark _))
      (pss_cons (ps_set (i := 10) sc_first_inside.nd rfl (Or.inl rfl) (C8.pe_c c_first_exit hr (by decide) (by rfl) (pa_cons (pe_tup (pa_cons (pe_op op_sub (pe_op op_mulW (pv 11) (pv 5)) (pv 3)) (pa_cons (pv 4) pa_nil))) (pa_cons (pe_tup (pa_cons (pe_op op_sub (pv 6) (pe_op op_mulW (pv 11) (pv 8))) (pa_cons (pe_op op_sub (pv 8) (pv 7)) pa_nil))) pa_nil))))
    (pss_one ps_break))
      pss_nil)
    (pss_cons (ps_if (pt_cmpR op_le (pv 6) (pe_op op_mulW (pe_op op_sub (pv 11) pe_int) (pv 8)) (nomark _))
      (pss_one (ps_ret pe_non))
      pss_nil)
    (pss_cons (ps_set (i := 0) sc_first_inside.nd rfl (Or.inl rfl) (pe_tup (pa_cons (pv 8) (pa_cons (pe_op op_sub (pv 8) (pv 7)) (pa_cons (pe_op op_sub (pv 6) (pe_op op_mulW (pe_op op_sub (pv 11) pe_int) (pv 8))) pa_nil)))))
    (pss_cons (ps_set (i := 1) sc_first_inside.nd rfl (Or.inl rfl) (pe_tup (pa_cons (pv 5) (pa_cons (pe_op op_sub (pv 5) (pv 4)) (pa_cons (pe_op op_sub (pv 3) (pe_op op_mulW (pe_op op_sub (pv 11) pe_int) (pv 5))) pa_nil)))))
    (pss_one (ps_expr (pe_bm PySem.F.plainAttrs_list PySem.F.slot_list_append PySem.F.type_list_append mt_append (pv 2) (pa_cons (pv 0) pa_nil)))))))))))))))
    (pss_cons (ps_if (pt_cmpR op_isN (pv 10) pe_non (nomark _))
      (pss_one (ps_ret pe_non))
      pss_nil)
    (pss_cons (ps_for PassesOwn.never rfl (pi_reversed (by rfl) B.reversed_ (pa_cons (pv 2) pa_nil)) (pg_tup rfl (pgs_cons (pg_name (i := 11) sc_first_inside.nd rfl (Or.inl rfl)) (pgs_cons (pg_name (i := 12) sc_first_inside.nd rfl (Or.inl rfl)) (pgs_cons (pg_name (i := 13) sc_first_inside.nd rfl (Or.inl rfl)) pgs_nil))))
      (pss_one (ps_set (i := 10) sc_first_inside.nd rfl (Or.inl rfl) (C8.pe_c c_divide_up hr (by decide) (by rfl) (pa_cons (pe_op op_add (pe_op op_mulW (pv 11) (pv 10)) (pv 12)) (pa_cons (pv 13) pa_nil))))))
    (pss_one (ps_ret (pv 10))))))), ?_⟩
    have bW : Bd (k + k) (m0 * n0) := Bd.mul bm bn
    have W0 := one_le_mul m1 n1
    have bZ : Bd (2 * k + 16) (4097 * (m0 * n0)) := (Bd.mul (show Bd 13 4097 from Bd.small 13 (by decide) (by decide)) bW).mono (by omega)
    have bM : Bd (2 * k + 16) (m0 * n0 + (d0 * m0 - b0 * n0)) := (Bd.add (k := 2 * k + 1) (bW.mono (by omega)) ((Bd.sub (Bd.mul bd bm) (Bd.mul bb bn)).mono (by omega))).mono (by omega)
    have F0 := FI.init (j := 2 * k + 16) (M := m0 * n0 + (d0 * m0 - b0 * n0)) m1 n1 r0 (ba.mono (by omega)) (bb.mono (by omega)) (bc.mono (by omega)) (bd.mono (by omega)) (fun x hx => ib_far m1 n1 r0 hx)
    generalize m0 * n0 + (d0 * m0 - b0 * n0) = M at bM F0
    generalize m0 * n0 = W at bW W0 bZ F0
    have kj : 2 * k + 16 ≤ 4016 := by omega
    refine ⟨Nat.zero_le _, fun lv nlv => ?_⟩
    refine ⟨fun σ' H' => ∃ (v : V) (z0 z1 z3 z4 z5 z6 z7 z8 z9 z11 z12 z13 : Option V), σ' = [z0, z1, some (.ref lv), z3, z4, z5, z6, z7, z8, z9, some v, z11, z12, z13] ∧ Same H H' ∧ ((v = .non ∧ NoM (Ib a0 b0 m0 c0 d0 n0)) ∨
      ∃ (x a b m c d n : Int) (L : List (Int × Int × Int)) (ts : List Addr), v = .int x ∧ FI (2 * k + 16) 0 W M (Ib a0 b0 m0 c0 d0 n0) L a b m c d n ∧ Lst (Ib a b m c d n) x ∧ H' lv = some (.lst (ts.map V.ref)) ∧ Lv3 H' ts L), ?_, ?_⟩
    · refine while_by (fun σ H' => ∃ (lw hg : Addr) (a b m c d n : Int) (L : List (Int × Int × Int)) (ts : List Addr) (y3 y4 y5 y6 y7 y8 y9 y10 y11 y12 y13 : Option V), σ = [some (.ref lw), some (.ref hg), some (.ref lv), y3, y4, y5, y6, y7, y8, y9, y10, y11, y12, y13] ∧ FI (2 * k + 16) 0 W M (Ib a0 b0 m0 c0 d0 n0) L a b m c d n ∧
        H' lw = some (tp3 a b m) ∧ H' hg = some (tp3 c d n) ∧ Same H H' ∧ H' lv = some (.lst (ts.map V.ref)) ∧ Lv3 H' ts L) muB ⟨lw0, hg0, a0, b0, m0, c0, d0, n0, [], [], _, _, _, _, _, _, _, _, _, _, _, rfl, F0, sm_upd nlv _ _ el0, sm_upd nlv _ _ eh0, sm_upd nlv, upd_same, ⟨rfl, fun i t e h => by simp at h⟩⟩ ?_ ?_
      · rintro σ H1 ⟨lw, hg, a, b, m, c, d, n, L, ts, y3, y4, y5, y6, y7, y8, y9, y10, y11, y12, y13, rfl, F, el, eh, sH, elv, lvs⟩
        have m1 := F.m1
        have n1 := F.n1
        have Bm : Bd (2 * k + 16) m := by
          have h1 := mul_self_le (show 0 ≤ m by omega) n1
          have := F.w
          exact bZ.between (by omega) (by omega)
        have Bn : Bd (2 * k + 16) n := by
          have h1 := mul_self_le (show 0 ≤ n by omega) m1
          have := F.w
          rw [Int.mul_comm n m] at h1
          exact bZ.between (by omega) (by omega)
        have hlen := F.len bW
        generalize hj : 2 * k + 16 = j at *
        have j0 : 0 < j := by omega
        refine ⟨true, rfl, ?_⟩
        refine ⟨_, rfl, lw, _, rfl, SqT.of el, rfl, _, _, rfl, _, _, rfl, _, _, rfl, rfl, ?_⟩
        refine ⟨_, rfl, hg, _, rfl, SqT.of eh, rfl, _, _, rfl, _, _, rfl, _, _, rfl, rfl, ?_⟩
        refine ⟨_, rfl, _, rfl, b, m, rfl, by omega, Bm.mono (by omega), ?_⟩
        have Bu := F.bb.dvu (s := m) (by omega)
        refine ⟨_, rfl, _, rfl, _, _, rfl, rfl, mulW Bu Bn j0 j0 (by omega), _, rfl, _, _, rfl, rfl, _, rfl, ite2 (fun cA => ?_) (fun cA => ?_)⟩
        · have cA : dvu b m * n ≤ d := of_decide_eq_true cA
          have hx := ib_zero (a := a) (c := c) (show 0 < m by omega) cA
          exact ⟨.int 0, _, _, _, _, _, _, _, _, _, _, _, _, rfl, sH, .inr ⟨0, a, b, m, c, d, n, L, ts, rfl, F, hx, elv, lvs⟩⟩
        · have cA : ¬ dvu b m * n ≤ d := fun z => cA (decide_eq_true z)
          obtain ⟨t1, t2, t3⟩ := ib_rest (show 0 < m by omega) cA
          have Bu1 : Bd (j + 1) (dvu b m - 1) := Bd.sub Bu (Bd.small 1 (by decide) (by omega))
          refine ⟨_, rfl, _, rfl, _, _, rfl, rfl, _, rfl, _, _, rfl, rfl, mulW Bu1 Bm (by omega) j0 (by omega), _, _, rfl, rfl, ?_⟩
          refine ⟨_, rfl, _, rfl, _, _, rfl, rfl, _, rfl, _, _, rfl, rfl, mulW Bu1 Bn (by omega) j0 (by omega), _, _, rfl, rfl, _, _, rfl, ?_⟩
          refine ⟨_, rfl, _, rfl, a, m, rfl, by omega, Bm.mono (by omega), ?_⟩
          have Bs := F.ba.dvu (s := m) (by omega)
          have Bs1 : Bd (j + 1) (dvu a m - 1) := Bd.sub Bs (Bd.small 1 (by decide) (by omega))
          have gs := dvu_ge (x := a) (show 0 < m by omega)
          have ls := dvu_lt (x := a) (show 0 < m by omega)
          generalize hs : dvu a m = sl at *
          generalize hu : dvu b m - 1 = u at *
          rw [Int.mul_comm m sl] at gs ls
          have iff : ∀ x, Ib a (b - u * m) m c (d - u * n) n x ↔ Ib a b m c d n x := fun x => ib_down u
          have Bd' : Bd (j + j + 2) (d - u * n) := Bd.sub (F.bd.mono (by omega)) ((Bd.mul Bu1 Bn).mono (by omega))
          have eg : (b - u * m) * n - (d - u * n) * m = b * n - d * m := by grind
          have rr : (b - u * m) * n ≤ (d - u * n) * m ∨ c * m ≤ a * n := by
            rcases F.r with z | z
            · exact .inl (by omega)
            · exact .inr z
          refine ⟨_, rfl, _, rfl, _, _, rfl, rfl, mulW Bs Bn j0 j0 (by omega), _, rfl, _, _, rfl, rfl, _, rfl, ite2 (fun cB => ?_) (fun cB => ?_)⟩
          · have cB : sl * n ≤ c := of_decide_eq_true cB
            have ex : ∀ x, 0 ≤ x → (Ib a b m c d n x ↔ Ex (sl * m - a) (b - u * m) (c - sl * n) (n - (d - u * n)) x) := fun x x0 => (iff x).symm.trans (ib_ex m1 n1 gs cB t1 t2 t3 rr x0)
            have Bf : Bd (j + j + 1) (sl * m - a) := Bd.sub (Bd.mul Bs Bm) (F.ba.mono (by omega))
            have Br : Bd (j + j + 1) (c - sl * n) := Bd.sub (F.bc.mono (by omega)) (Bd.mul Bs Bn)
            refine ⟨_, rfl, _, rfl, _, _, rfl, rfl, mulW Bs Bm j0 j0 (by omega), _, rfl, _, _, rfl, rfl, _, rfl, len10 (by simp), fun p1 np1 => ?_⟩
            have s1 := sm_upd (o := .tup [.int (sl * m - a), .int (b - u * m)]) np1
            refine ⟨_, rfl, _, rfl, _, rfl, _, _, rfl, rfl, mulW Bs Bn j0 j0 (by omega), _, _, rfl, rfl, _, rfl, _, rfl, _, _, rfl, rfl, len10 (by simp), fun p2 np2 => ?_⟩
            have s2 := sm_upd (o := .tup [.int (c - sl * n), .int (n - (d - u * n))]) np2
            have s3 := s1.trans s2
            refine ⟨p1, p2, sl * m - a, (b - u * m), c - sl * n, n - (d - u * n), j + j + 1, rfl, s2 _ _ upd_same, upd_same, by omega, by omega, t1, by omega, Bf, Br, by omega, fun x H2 s4 hx => ?_, fun hx H2 s4 => ?_⟩
            · have s5 := s3.trans s4
              exact ⟨.int x, _, _, _, _, _, _, _, _, _, _, _, _, rfl, sH.trans s5, .inr ⟨x, a, b, m, c, d, n, L, ts, rfl, F, (lst_iff0 ex x).mpr hx, s5 _ _ elv, lvs.same (Fr.same s5)⟩⟩
            · exact ⟨.non, _, _, _, _, _, _, _, _, _, _, _, _, rfl, sH.trans (s3.trans s4), .inl ⟨rfl, F.Bn ((nom_iff0 ex).mpr hx)⟩⟩
          · have cB : ¬ sl * n ≤ c := fun z => cB (decide_eq_true z)
            refine ⟨_, rfl, _, rfl, _, _, rfl, rfl, _, rfl, _, _, rfl, rfl, mulW Bs1 Bn (by omega) j0 (by omega), _, _, rfl, rfl, _, rfl, ite2 (fun cC => ?_) (fun cC => ?_)⟩
            · have cC : c ≤ (sl - 1) * n := of_decide_eq_true cC
              refine q2 (F.Bn fun x x0 z => ?_) _ sH
              have z := (ib_tilt (sl - 1)).mpr ((iff x).mpr z)
              exact ib_meet (by omega) (by omega) (by rw [Int.sub_mul]; omega) (by omega) t1 t3 x0 z
            · have cC : ¬ c ≤ (sl - 1) * n := fun z => cC (decide_eq_true z)
              have S : Slim (a - (sl - 1) * m) (b - u * m) m (c - (sl - 1) * n) (d - u * n) n := by
                have e1 : (sl - 1) * m = sl * m - m := by rw [Int.sub_mul]; omega
                have e2 : (sl - 1) * n = sl * n - n := by rw [Int.sub_mul]; omega
                exact ⟨by omega, by omega, t1, t2, by omega, by omega, t3⟩
              have FN := F.next (Z := 4097 * W) S rfl rfl rfl rfl (by omega) (by omega) bZ (by omega)
              refine ⟨_, rfl, _, rfl, _, rfl, _, _, rfl, rfl, _, rfl, _, rfl, _, _, rfl, rfl, _, rfl, _, _, rfl, rfl, mulW Bs1 Bn (by omega) j0 (by omega), _, _, rfl, rfl, len10 (by simp), fun l1 nl1 => ?_⟩
              have s1 := sm_upd (o := tp3 n (n - (d - u * n)) (c - (sl - 1) * n)) nl1
              refine ⟨_, rfl, _, rfl, _, rfl, _, _, rfl, rfl, _, rfl, _, rfl, _, _, rfl, rfl, _, rfl, _, _, rfl, rfl, mulW Bs1 Bm (by omega) j0 (by omega), _, _, rfl, rfl, len10 (by simp), fun h1 nh1 => ?_⟩
              have s2 := sm_upd (o := tp3 m (m - (b - u * m)) (a - (sl - 1) * m)) nh1
              have elv1 := s1 _ _ elv
              have elv2 := s2 _ _ elv1
              have s3 := s1.trans s2
              have g1 := s2 _ _ (upd_same (H := H1) (a := l1) (o := tp3 n (n - (d - u * n)) (c - (sl - 1) * n)))
              have g2 := upd_same (H := upd H1 l1 (tp3 n (n - (d - u * n)) (c - (sl - 1) * n))) (a := h1) (o := tp3 m (m - (b - u * m)) (a - (sl - 1) * m))
              refine ⟨_, rfl, .inl ⟨rfl, _, SqL.of elv2⟩, _, rfl, lv, _, _, rfl, rfl, elv2, ?_, ?_⟩
              · rw [List.length_map, lvs.len]
                exact Nat.lt_of_lt_of_le (show L.length < 4100 by omega) (by decide)
              · have nl : ∀ (x : Addr) (xs : List V), upd (upd H1 l1 (tp3 n (n - (d - u * n)) (c - (sl - 1) * n))) h1 (tp3 m (m - (b - u * m)) (a - (sl - 1) * m)) x = some (.tup xs) → upd (upd (upd H1 l1 (tp3 n (n - (d - u * n)) (c - (sl - 1) * n))) h1 (tp3 m (m - (b - u * m)) (a - (sl - 1) * m))) lv (.lst (ts.map V.ref ++ [.ref l1])) x = some (.tup xs) := fun x xs e => by
                  rw [upd_ne (ne_of e elv2 (by intro z; cases z))]
                  exact e
                have w1 := nl _ _ g1
                have w2 := nl _ _ g2
                have lvs2 : Lv3 (upd (upd (upd H1 l1 (tp3 n (n - (d - u * n)) (c - (sl - 1) * n))) h1 (tp3 m (m - (b - u * m)) (a - (sl - 1) * m))) lv (.lst (ts.map V.ref ++ [.ref l1]))) ts L := ⟨lvs.len, fun i t' e h1 h2 => nl _ _ (s3 _ _ (lvs.at_ i t' e h1 h2))⟩
                refine ⟨⟨l1, h1, _, _, _, _, _, _, L ++ [(n, n - (d - u * n), c - (sl - 1) * n)], ts ++ [l1], _, _, _, _, _, _, _, _, _, _, _, rfl, FN, w1, w2, ?_, ?_, lvs2.snoc w1⟩, ?_⟩
                · intro x o ex
                  have nx : x ≠ lv := ne_of_none ex nlv
                  rw [upd_ne nx]
                  exact s3 _ _ (sH _ _ ex)
                · rw [upd_same, List.map_append]
                  rfl
                · show muB (some (.ref l1) :: some (.ref h1) :: _) _ < muB (some (.ref lw) :: some (.ref hg) :: _) _
                  unfold muB
                  simp only [w1, w2, el, eh]
                  have := S.am
                  have := S.cn
                  have := S.c0
                  omega
      · rintro σ H' Q1 Q2 hQ ⟨b, h4, h5⟩
        exact ⟨b, h4, hQ _ _ h5⟩
    · rintro σ H1 ⟨v, z0, z1, z3, z4, z5, z6, z7, z8, z9, z11, z12, z13, rfl, sH, ⟨rfl, hn⟩ | ⟨x, a, b, m, c, d, n, L, ts, rfl, F, hx, elv, lvs⟩⟩
      · refine ⟨_, rfl, rfl, _, rfl, iteT ?_⟩
        exact q2 hn _ sH
      · refine ⟨_, rfl, rfl, _, rfl, iteF ?_⟩
        have hlen' := lvs.len
        refine ⟨_, rfl, lv, _, rfl, SqL.of elv, ?_⟩
        refine for_it walk_rev (fun i σ H2 => ∃ (y11 y12 y13 : Option V), σ = [z0, z1, some (.ref lv), z3, z4, z5, z6, z7, z8, z9, some (.int (unv (L.drop (L.length - i)) x)), y11, y12, y13] ∧ H2 = H1) ?_ ?_ ?_ ?_
        · refine ⟨z11, z12, z13, ?_, rfl⟩
          rw [Nat.sub_zero, List.drop_length]
          rfl
        · rintro i σ H2 _ ⟨_, _, _, _, rfl⟩
          exact SqL.of elv
        · rintro i y σ H2 H3 hi ⟨y11, y12, y13, rfl, rfl⟩ ⟨rfl, hy⟩
          rw [List.length_map] at hi hy
          have hj : L.length - 1 - i < L.length := by omega
          have hjt : ts.length - 1 - i < ts.length := by omega
          rw [List.getElem?_map, List.getElem?_eq_getElem hjt] at hy
          have ey : y = V.ref ts[ts.length - 1 - i] := (Option.some.inj hy).symm
          subst ey
          have hl : L[ts.length - 1 - i]? = some L[L.length - 1 - i] := by
            rw [hlen']
            exact List.getElem?_eq_getElem hj
          have et := lvs.at_ _ _ _ (List.getElem?_eq_getElem hjt) hl
          obtain ⟨d1, d2, d3, d4⟩ := F.D _ (List.getElem_mem hj)
          have cc := F.C (L.take (L.length - i)) (L.drop (L.length - i)) (List.take_append_drop _ _).symm x hx
          have ed : L.drop (L.length - (i + 1)) = L[L.length - 1 - i] :: L.drop (L.length - i) := by
            rw [show L.length - (i + 1) = L.length - 1 - i by omega, List.drop_eq_getElem_cons hj, show L.length - 1 - i + 1 = L.length - i by omega]
          generalize L[L.length - 1 - i] = e at *
          obtain ⟨es, eo, ev⟩ := e
          refine ⟨_, _, rfl, SqT.of et, rfl, _, _, rfl, _, _, rfl, _, _, rfl, rfl, ?_⟩
          refine ⟨_, rfl, _, rfl, _, _, rfl, rfl, mulW d2 (bM.between cc.1 cc.2) (by omega) (by omega) (by omega), _, rfl, _, _, rfl, rfl, _, rfl, _, ev, rfl, (by have : 1 ≤ ev := d1; omega), d4.mono (by omega), ?_⟩
          refine ⟨some (.int es), some (.int eo), some (.int ev), ?_, rfl⟩
          rw [ed]
          rfl
        · rintro σ H2 ⟨y11, y12, y13, rfl, rfl⟩
          refine ⟨_, rfl, ?_⟩
          have e0 : L.drop (L.length - (ts.map V.ref).length) = L := by
            rw [List.length_map, hlen', Nat.sub_self]
            rfl
          rw [e0]
          exact q1 _ _ sH (F.A x hx)
end
end Lf
namespace Lf
open PySem PySem.Spec PyProof.Rows L2
theorem hitp_ib {pl s m lo hi n : Int} (h0 : 0 ≤ lo) (h2 : hi < m) : HitP pl s m lo hi n ↔ Ib s (pl - hi) m s (pl - lo) m n := by
  have e := Int.emod_add_mul_ediv (pl + s * n) m
  unfold HitP
  constructor
  · rintro ⟨g1, g2⟩
    exact ⟨(pl + s * n) / m, by omega, by omega⟩
  · rintro ⟨y, g1, g2⟩
    have : (pl + s * n) % m = pl + s * n - m * y := mod_of (k := y) (by omega) (by omega) (by omega)
    omega
/-- nothing before the lines cross -/
theorem ib_gap {a b m c d n x : Int} (m1 : 1 ≤ m) (n1 : 1 ≤ n) (h : Ib a b m c d n x) : b * n - d * m ≤ (c * m - a * n) * x := by
  obtain ⟨y, h1, h2⟩ := h
  have g1 := Int.mul_le_mul_of_nonneg_right h1 (show 0 ≤ n by omega)
  have g2 := Int.mul_le_mul_of_nonneg_right h2 (show 0 ≤ m by omega)
  have e1 : (a * x + b) * n = a * n * x + b * n := by grind
  have e2 : (c * x + d) * m = c * m * x + d * m := by grind
  have e3 : m * y * n = n * y * m := by grind
  rw [Int.sub_mul]
  omega
theorem ib_sure {a b m c d n : Int} (m1 : 1 ≤ m) (n1 : 1 ≤ n) (r : b * n ≤ d * m) (z : a * n < c * m) : Ib a b m c d n (m * n) := by
  have mn := one_le_mul m1 n1
  refine ⟨dvu (a * (m * n) + b) m, dvu_ge (by omega), ?_⟩
  have l := dvu_lt (x := a * (m * n) + b) (s := m) (by omega)
  generalize dvu (a * (m * n) + b) m = v at *
  refine Int.le_of_lt_add_one (lt_of_mulc (g := m) ?_ (by omega))
  have l2 := Int.mul_le_mul_of_nonneg_right (show m * v + 1 ≤ a * (m * n) + b + m by omega) (show 0 ≤ n by omega)
  have z2 := Int.mul_le_mul_of_nonneg_right (show a * n + 1 ≤ c * m by omega) (show 0 ≤ m * n by omega)
  have e1 : (m * v + 1) * n = n * v * m + n := by grind
  have e2 : (a * (m * n) + b + m) * n = a * n * (m * n) + b * n + m * n := by grind
  have e3 : (c * (m * n) + d + 1) * m = c * m * (m * n) + d * m + m := by grind
  have e4 : (a * n + 1) * (m * n) = a * n * (m * n) + m * n := by grind
  omega
theorem ib_from {a b m c d n s x : Int} : Ib a (a * s + b) m c (c * s + d) n x ↔ Ib a b m c d n (s + x) := by
  unfold Ib
  rw [Int.mul_add, Int.mul_add]
  constructor
  · rintro ⟨y, h1, h2⟩
    exact ⟨y, by omega, by omega⟩
  · rintro ⟨y, h1, h2⟩
    exact ⟨y, by omega, by omega⟩
section
variable {P : Program} {w : World} {K : PySem.W.Frag} {mg : Str → Option Value} {base : Heap}
/-! ### line_from, first_between -/
def spLF : Sp := fun vs H Q _ => ∃ (l : Addr) (a b m s : Int) (k : Nat), vs = [.ref l, .int s] ∧ H l = some (tp3 a b m) ∧ Bd k a ∧ Bd k s ∧ 0 < k ∧ k ≤ 9000 ∧ ∀ r, H r = none → Q (.ref r) (upd H r (tp3 a (a * s + b) m))
abbrev s_line_from : Stmt := topS 12
abbrev N_line_from : List Str := ["line", "start", "slope", "offset", "divisor"]
abbrev P_line_from : List Str := ["line", "start"]
theorem sc_line_from : FnScope N_line_from P_line_from (defScope s_line_from) := ⟨rfl, rfl, rfl, by decide +kernel, rfl, by decide +kernel, by decide +kernel⟩
theorem ok_line_from (D : Df K mg "line_from" s_line_from P_line_from) : C8.Cal P w K mg base 1 "line_from" spLF [] := by
  refine cal_of D sc_line_from (fun vs H Q E h => ?_) (fun f cdv A outer s H vs Q E hr h => ?_)
  · obtain ⟨l, a, b, m, s, k, rfl, _⟩ := h
    rfl
  · obtain ⟨l, a, b, m, st, k, rfl, el, ba, bs, k0, k9, q⟩ := h
    refine ⟨_, (pss_cons (ps_asg (pv 0) (pg_tup rfl (pgs_cons (pg_name (i := 2) sc_line_from.nd rfl (Or.inl rfl)) (pgs_cons (pg_name (i := 3) sc_line_from.nd rfl (Or.inl rfl)) (pgs_cons (pg_name (i := 4) sc_line_from.nd rfl (Or.inl rfl)) pgs_nil)))))
    (pss_one (ps_ret (pe_tup (pa_cons (pv 2) (pa_cons (pe_op op_add (pe_op op_mulW (pv 2) (pv 1)) (pv 3)) (pa_cons (pv 4) pa_nil))))))), ?_⟩
    refine ⟨_, rfl, l, _, rfl, SqT.of el, rfl, _, _, rfl, _, _, rfl, _, _, rfl, rfl, ?_⟩
    exact ⟨_, rfl, _, rfl, _, rfl, _, _, rfl, rfl, mulW ba bs k0 k0 (by omega), _, rfl, _, _, rfl, rfl, _, rfl, len10 (by simp), fun r nr => q r nr⟩
def spFB : Sp := fun vs H Q _ => ∃ (lw hg : Addr) (a b m c d n : Int) (k j : Nat), vs = [.ref lw, .ref hg] ∧ H lw = some (tp3 a b m) ∧ H hg = some (tp3 c d n) ∧ 1 ≤ m ∧ 1 ≤ n ∧ Bd k a ∧ Bd j b ∧ Bd k m ∧ Bd k c ∧ Bd j d ∧ Bd k n ∧ 0 < k ∧ k ≤ j ∧ j ≤ 2000 ∧ (b * n ≤ d * m ∨ j + 2 * k + 2 ≤ 2000) ∧
  (∀ x H', Same H H' → Lst (Ib a b m c d n) x → Q (.int x) H') ∧ (NoM (Ib a b m c d n) → ∀ H', Same H H' → Q .non H')
abbrev s_first_between : Stmt := topS 11
abbrev N_first_between : List Str := ["low", "high", "gap", "gain", "start"]
abbrev P_first_between : List Str := ["low", "high"]
theorem sc_first_between : FnScope N_first_between P_first_between (defScope s_first_between) := ⟨rfl, rfl, rfl, by decide +kernel, rfl, by decide +kernel, by decide +kernel⟩
theorem ok_first_between (D : Df K mg "first_between" s_first_between P_first_between) (c_divide_up : C8.Cal P w K mg base 1 "divide_up" spDivUp []) (c_line_from : C8.Cal P w K mg base 1 "line_from" spLF []) (c_first_inside : C8.Cal P w K mg base 3 "first_inside" spFI []) : C8.Cal P w K mg base 4 "first_between" spFB [] := by
  refine cal_of D sc_first_between (fun vs H Q E h => ?_) (fun f cdv A outer s H vs Q E hr h => ?_)
  · obtain ⟨lw, hg, a, b, m, c, d, n, k, j, rfl, _⟩ := h
    rfl
  · obtain ⟨lw, hg, a, b, m, c, d, n, k, j, rfl, el, eh, m1, n1, ba, bb, bm, bc, bd, bn, k0, kj, k2, k6, q1, q2⟩ := h
    refine ⟨_, (pss_cons (ps_set (i := 2) sc_first_between.nd rfl (Or.inl rfl) (pe_op op_sub (pe_op op_mulW (pe_ix (r := rIxT K) ix_tup (pv 0) pe_int (fun _ _ => rfl)) (pe_ix (r := rIxT K) ix_tup (pv 1) pe_int (fun _ _ => rfl))) (pe_op op_mulW (pe_ix (r := rIxT K) ix_tup (pv 1) pe_int (fun _ _ => rfl)) (pe_ix (r := rIxT K) ix_tup (pv 0) pe_int (fun _ _ => rfl)))))
    (pss_cons (ps_set (i := 3) sc_first_between.nd rfl (Or.inl rfl) (pe_op op_sub (pe_op op_mulW (pe_ix (r := rIxT K) ix_tup (pv 1) pe_int (fun _ _ => rfl)) (pe_ix (r := rIxT K) ix_tup (pv 0) pe_int (fun _ _ => rfl))) (pe_op op_mulW (pe_ix (r := rIxT K) ix_tup (pv 0) pe_int (fun _ _ => rfl)) (pe_ix (r := rIxT K) ix_tup (pv 1) pe_int (fun _ _ => rfl)))))
    (pss_cons (ps_if (pt_cmpR op_le (pv 2) pe_int (nomark _))
      (pss_one (ps_ret (C8.pe_c c_first_inside hr (by decide) (by rfl) (pa_cons (pv 0) (pa_cons (pv 1) pa_nil)))))
      pss_nil)
    (pss_cons (ps_if (pt_cmpR op_le (pv 3) pe_int (nomark _))
      (pss_one (ps_ret pe_non))
      pss_nil)
    (pss_cons (ps_set (i := 4) sc_first_between.nd rfl (Or.inl rfl) (C8.pe_c c_divide_up hr (by decide) (by rfl) (pa_cons (pv 2) (pa_cons (pv 3) pa_nil))))
    (pss_one (ps_ret (pe_op op_add (pv 4) (C8.pe_c c_first_inside hr (by decide) (by rfl) (pa_cons (C8.pe_c c_line_from hr (by decide) (by rfl) (pa_cons (pv 0) (pa_cons (pv 4) pa_nil))) (pa_cons (C8.pe_c c_line_from hr (by decide) (by rfl) (pa_cons (pv 1) (pa_cons (pv 4) pa_nil))) pa_nil))))))))))), ?_⟩
    refine ⟨_, rfl, lw, _, _, _, rfl, rfl, SqT.of el, atI_nat (j := 1) rfl, _, rfl, hg, _, _, _, rfl, rfl, SqT.of eh, atI_nat (j := 2) rfl, _, _, rfl, rfl, mulW bb bn (by omega) k0 (by omega), ?_⟩
    refine ⟨_, rfl, hg, _, _, _, rfl, rfl, SqT.of eh, atI_nat (j := 1) rfl, _, rfl, lw, _, _, _, rfl, rfl, SqT.of el, atI_nat (j := 2) rfl, _, _, rfl, rfl, mulW bd bm (by omega) k0 (by omega), _, _, rfl, rfl, ?_⟩
    refine ⟨_, rfl, hg, _, _, _, rfl, rfl, SqT.of eh, atI_nat (j := 0) rfl, _, rfl, lw, _, _, _, rfl, rfl, SqT.of el, atI_nat (j := 2) rfl, _, _, rfl, rfl, mulW bc bm k0 k0 (by omega), ?_⟩
    refine ⟨_, rfl, lw, _, _, _, rfl, rfl, SqT.of el, atI_nat (j := 0) rfl, _, rfl, hg, _, _, _, rfl, rfl, SqT.of eh, atI_nat (j := 2) rfl, _, _, rfl, rfl, mulW ba bn k0 k0 (by omega), _, _, rfl, rfl, ?_⟩
    refine ⟨_, rfl, _, _, rfl, rfl, _, rfl, ite2 (fun cA => ?_) (fun cA => ?_)⟩
    · have cA : b * n - d * m ≤ 0 := of_decide_eq_true cA
      exact ⟨_, rfl, _, rfl, lw, hg, a, b, m, c, d, n, j, rfl, el, eh, m1, n1, by omega, ba.mono kj, bb, bm.mono kj, bc.mono kj, bd, bn.mono kj, by omega, k2, q1, q2⟩
    · have cA : ¬ b * n - d * m ≤ 0 := fun z => cA (decide_eq_true z)
      have k6 : j + 2 * k + 2 ≤ 2000 := k6.resolve_left (by omega)
      refine ⟨_, rfl, _, _, rfl, rfl, _, rfl, ite2 (fun cB => ?_) (fun cB => ?_)⟩
      · have cB : c * m - a * n ≤ 0 := of_decide_eq_true cB
        refine q2 (fun x x0 z => ?_) _ (Same.refl _)
        have h1 := ib_gap m1 n1 z
        have h2 := Int.mul_nonneg (show 0 ≤ -(c * m - a * n) by omega) x0
        rw [Int.neg_mul] at h2
        omega
      · have cB : ¬ c * m - a * n ≤ 0 := fun z => cB (decide_eq_true z)
        have Bg : Bd (j + k + 1) (b * n - d * m) := (Bd.sub (Bd.mul bb bn) (Bd.mul bd bm)).mono (by omega)
        have Bh : Bd (2 * k + 1) (c * m - a * n) := (Bd.sub (Bd.mul bc bm) (Bd.mul ba bn)).mono (by omega)
        refine ⟨_, rfl, _, rfl, _, _, rfl, by omega, Bh.mono (by omega), ?_⟩
        have g1 := dvu_ge (x := b * n - d * m) (s := c * m - a * n) (by omega)
        have mn : ∀ x, b * n - d * m ≤ (c * m - a * n) * x → dvu (b * n - d * m) (c * m - a * n) ≤ x := fun x h => (dvu_le (by omega)).mpr h
        have Bs := Bg.dvu (s := c * m - a * n) (by omega)
        have s0 : 0 ≤ dvu (b * n - d * m) (c * m - a * n) := by
          rcases Int.lt_or_le (dvu (b * n - d * m) (c * m - a * n)) 0 with z | z
          · have := Int.mul_le_mul_of_nonneg_left (show dvu (b * n - d * m) (c * m - a * n) ≤ 0 by omega) (show 0 ≤ c * m - a * n by omega)
            rw [Int.mul_zero] at this
            omega
          · exact z
        generalize dvu (b * n - d * m) (c * m - a * n) = st at *
        refine ⟨_, rfl, _, rfl, _, rfl, lw, a, b, m, st, j + k + 1, rfl, el, ba.mono (by omega), Bs, by omega, by omega, fun l1 nl1 => ?_⟩
        have x1 := sm_upd (o := tp3 a (a * st + b) m) nl1
        refine ⟨_, rfl, _, rfl, hg, c, d, n, st, j + k + 1, rfl, x1 _ _ eh, bc.mono (by omega), Bs, by omega, by omega, fun h1 nh1 => ?_⟩
        have x2 := sm_upd (o := tp3 c (c * st + d) n) nh1
        have x3 := x1.trans x2
        have B1 : Bd (j + 2 * k + 2) (a * st + b) := (Bd.add (Bd.mul ba Bs) (bb.mono (by omega))).mono (by omega)
        have B2 : Bd (j + 2 * k + 2) (c * st + d) := (Bd.add (Bd.mul bc Bs) (bd.mono (by omega))).mono (by omega)
        have rr : (a * st + b) * n ≤ (c * st + d) * m := by
          have e1 : (a * st + b) * n = a * n * st + b * n := by grind
          have e2 : (c * st + d) * m = c * m * st + d * m := by grind
          rw [Int.sub_mul] at g1
          omega
        refine ⟨l1, h1, a, a * st + b, m, c, c * st + d, n, j + 2 * k + 2, rfl, x2 _ _ upd_same, upd_same, m1, n1, rr, ba.mono (by omega), B1, bm.mono (by omega), bc.mono (by omega), B2, bn.mono (by omega), by omega, by omega, fun x H2 s2 hx => ?_, fun hx => ?_⟩
        · refine ⟨_, _, rfl, rfl, ?_⟩
          obtain ⟨x0, xh, xl⟩ := hx
          refine q1 _ _ (x3.trans s2) ⟨by omega, ib_from.mp xh, fun y y0 yl z => ?_⟩
          have := mn y (ib_gap m1 n1 z)
          refine xl (y - st) (by omega) (by omega) (ib_from.mpr ?_)
          rw [show st + (y - st) = y by omega]
          exact z
        · refine absurd (ib_sure (b := a * st + b) (d := c * st + d) m1 n1 rr (by omega)) (hx _ ?_)
          have := one_le_mul m1 n1
          omega
end
end Lf
namespace Lf
open PySem PySem.Spec PyProof.Rows L2
section
variable {P : Program} {w : World} {K : PySem.W.Frag} {mg : Str → Option Value} {base : Heap}
/-! ### reduce_rule -/
def spReduce : Sp := fun vs H Q _ => ∃ (p q c : Int), vs = [.int p, .int q, .int c] ∧ 0 ≤ p ∧ 1 ≤ q ∧ Bd 9000 q ∧
  ∀ r H', Same H H' → H' r = some (tup3 (p / gg p q) (q / gg p q) (c / gg p q)) → Q (.ref r) H'
end
end Lf
namespace Lf
open PySem PySem.Spec PyProof.Rows L2
section
variable {P : Program} {w : World} {K : PySem.W.Frag} {mg : Str → Option Value} {base : Heap}
/-! ### shift_rule -/
def spShift : Sp := fun vs H Q _ => ∃ (r : Addr) (p q c t a : Int) (k : Nat), vs = [.ref r, .int t, .int a] ∧ H r = some (tup3 p q c) ∧ RuleB k p q c ∧ Bd k t ∧ Bd k a ∧ 0 < k ∧ k ≤ 4000 ∧
  ∀ r' H', Same H H' → H' r' = some (tup3 p q (p * t + q * a + c)) → RuleB (2 * k + 2) p q (p * t + q * a + c) → Q (.ref r') H'
abbrev s_shift_rule : Stmt := topS 22
abbrev N_shift_rule : List Str := ["rule", "time", "amount", "p", "q", "c"]
abbrev P_shift_rule : List Str := ["rule", "time", "amount"]
theorem sc_shift_rule : FnScope N_shift_rule P_shift_rule (defScope s_shift_rule) := ⟨rfl, rfl, rfl, by decide +kernel, rfl, by decide +kernel, by decide +kernel⟩
theorem ok_shift_rule (D : Df K mg "shift_rule" s_shift_rule P_shift_rule) (c_check_rule : C8.Cal P w K mg base 3 "check_rule" spCheckRule []) (c_check_integer : C8.Cal P w K mg base 2 "check_integer" spCheckInt []) : C8.Cal P w K mg base 4 "shift_rule" spShift [] := by
  refine cal_of D sc_shift_rule (fun vs H Q E h => ?_) (fun f cdv A outer s H vs Q E hr h => ?_)
  · obtain ⟨r, p, q, c, t, a, k, rfl, _⟩ := h
    rfl
  · obtain ⟨r, p, q, c, t, a, k, rfl, er, R, bt, ba, k0, k3, kk⟩ := h
    refine ⟨_, (pss_cons (ps_expr (C8.pe_c c_check_rule hr (by decide) (by rfl) (pa_cons (pv 0) pa_nil)))
    (pss_cons (ps_expr (C8.pe_c c_check_integer hr (by decide) (by rfl) (pa_cons (pv 1) pa_nil)))
    (pss_cons (ps_expr (C8.pe_c c_check_integer hr (by decide) (by rfl) (pa_cons (pv 2) pa_nil)))
    (pss_cons (ps_asg (pv 0) (pg_tup rfl (pgs_cons (pg_name (i := 3) sc_shift_rule.nd rfl (Or.inl rfl)) (pgs_cons (pg_name (i := 4) sc_shift_rule.nd rfl (Or.inl rfl)) (pgs_cons (pg_name (i := 5) sc_shift_rule.nd rfl (Or.inl rfl)) pgs_nil)))))
    (pss_one (ps_ret (pe_tup (pa_cons (pv 3) (pa_cons (pv 4) (pa_cons (pe_op op_add (pe_op op_add (pe_op op_mulW (pv 3) (pv 1)) (pe_op op_mulW (pv 4) (pv 2))) (pv 5)) pa_nil)))))))))), ?_⟩
    refine ⟨_, rfl, r, p, q, c, k, rfl, er, R, fun H1 s1 => ?_⟩
    refine ⟨_, rfl, t, rfl, _, rfl, a, rfl, ?_⟩
    refine ⟨_, rfl, r, _, rfl, SqT.of (s1 _ _ er), rfl, _, _, rfl, _, _, rfl, _, _, rfl, rfl, ?_⟩
    refine ⟨_, rfl, _, rfl, _, rfl, _, rfl, _, _, rfl, rfl, mulW R.bp bt k0 k0 (by omega), _, rfl, _, rfl, _, _, rfl, rfl, mulW R.bq ba k0 k0 (by omega), _, _, rfl, rfl, _, rfl, _, _, rfl, rfl, len10 (by simp), fun r' nr => ?_⟩
    have bc : Bd (2 * k + 2) (p * t + q * a + c) := Bd.mono (Bd.add (Bd.add (R.bp.mul bt) (R.bq.mul ba)) (R.bc.mono (by omega))) (by omega)
    exact kk r' _ (s1.trans (sm_upd nr)) upd_same ⟨R.p0, R.q1, R.g, R.bp.mono (by omega), R.bq.mono (by omega), bc⟩
end
end Lf
namespace Lf
open PySem PySem.Spec PyProof.Rows L2
section
variable {P : Program} {w : World} {K : PySem.W.Frag} {mg : Str → Option Value} {base : Heap}
/-! ### mirror_rule -/
def spMirror : Sp := fun vs H Q _ => ∃ (r : Addr) (p q c : Int) (k : Nat), vs = [.ref r] ∧ H r = some (tup3 p q c) ∧ RuleB k p q c ∧
  ∀ r' H', Same H H' → H' r' = some (tup3 p q (q - 1 - c)) → RuleB (k + 2) p q (q - 1 - c) → Q (.ref r') H'
abbrev s_mirror_rule : Stmt := topS 23
abbrev N_mirror_rule : List Str := ["rule", "p", "q", "c"]
abbrev P_mirror_rule : List Str := ["rule"]
theorem sc_mirror_rule : FnScope N_mirror_rule P_mirror_rule (defScope s_mirror_rule) := ⟨rfl, rfl, rfl, by decide +kernel, rfl, by decide +kernel, by decide +kernel⟩
theorem ok_mirror_rule (D : Df K mg "mirror_rule" s_mirror_rule P_mirror_rule) (c_check_rule : C8.Cal P w K mg base 3 "check_rule" spCheckRule []) : C8.Cal P w K mg base 4 "mirror_rule" spMirror [] := by
  refine cal_of D sc_mirror_rule (fun vs H Q E h => ?_) (fun f cdv A outer s H vs Q E hr h => ?_)
  · obtain ⟨r, p, q, c, k, rfl, _⟩ := h
    rfl
  · obtain ⟨r, p, q, c, k, rfl, er, R, kk⟩ := h
    refine ⟨_, (pss_cons (ps_expr (C8.pe_c c_check_rule hr (by decide) (by rfl) (pa_cons (pv 0) pa_nil)))
    (pss_cons (ps_asg (pv 0) (pg_tup rfl (pgs_cons (pg_name (i := 1) sc_mirror_rule.nd rfl (Or.inl rfl)) (pgs_cons (pg_name (i := 2) sc_mirror_rule.nd rfl (Or.inl rfl)) (pgs_cons (pg_name (i := 3) sc_mirror_rule.nd rfl (Or.inl rfl)) pgs_nil)))))
    (pss_one (ps_ret (pe_tup (pa_cons (pv 1) (pa_cons (pv 2) (pa_cons (pe_op op_sub (pe_op op_sub (pv 2) pe_int) (pv 3)) pa_nil)))))))), ?_⟩
    refine ⟨_, rfl, r, p, q, c, k, rfl, er, R, fun H1 s1 => ?_⟩
    refine ⟨_, rfl, r, _, rfl, SqT.of (s1 _ _ er), rfl, _, _, rfl, _, _, rfl, _, _, rfl, rfl, ?_⟩
    refine ⟨_, rfl, _, rfl, _, rfl, _, _, rfl, rfl, _, rfl, _, _, rfl, rfl, len10 (by simp), fun r' nr => ?_⟩
    have bc : Bd (k + 2) (q - 1 - c) := Bd.sub (Bd.between (R.bq.mono (by omega)) (by have := R.q1; omega) (by omega)) (R.bc.mono (by omega))
    exact kk r' _ (s1.trans (sm_upd nr)) upd_same ⟨R.p0, R.q1, R.g, R.bp.mono (by omega), R.bq.mono (by omega), bc⟩
end
end Lf
namespace Lf
open PySem PySem.Spec PyProof.Rows L2
section
variable {P : Program} {w : World} {K : PySem.W.Frag} {mg : Str → Option Value} {base : Heap}
/-! ### count -/
def spCount : Sp := fun vs H Q _ => ∃ (r : Addr) (p q c t : Int) (k : Nat), vs = [.ref r, .int t] ∧ H r = some (.tup [.int p, .int q, .int c]) ∧ RuleB k p q c ∧ Bd k t ∧ 0 < k ∧ k ≤ 4000 ∧
  ∀ H', Same H H' → Q (.int ((p * t + c) / q)) H'
abbrev s_count : Stmt := topS 20
abbrev N_count : List Str := ["rule", "time", "p", "q", "c"]
abbrev P_count : List Str := ["rule", "time"]
theorem sc_count : FnScope N_count P_count (defScope s_count) := ⟨rfl, rfl, rfl, by decide +kernel, rfl, by decide +kernel, by decide +kernel⟩
theorem ok_count (D : Df K mg "count" s_count P_count) (c_check_rule : C8.Cal P w K mg base 3 "check_rule" spCheckRule []) (c_check_integer : C8.Cal P w K mg base 2 "check_integer" spCheckInt []) : C8.Cal P w K mg base 4 "count" spCount [] := by
  refine cal_of D sc_count (fun vs H Q E h => ?_) (fun f cdv A outer s H vs Q E hr h => ?_)
  · obtain ⟨r, p, q, c, t, k, rfl, _⟩ := h
    rfl
  · obtain ⟨r, p, q, c, t, k, rfl, er, R, bt, k0, k3, kk⟩ := h
    refine ⟨_, (pss_cons (ps_expr (C8.pe_c c_check_rule hr (by decide) (by rfl) (pa_cons (pv 0) pa_nil)))
    (pss_cons (ps_expr (C8.pe_c c_check_integer hr (by decide) (by rfl) (pa_cons (pv 1) pa_nil)))
    (pss_cons (ps_asg (pv 0) (pg_tup rfl (pgs_cons (pg_name (i := 2) sc_count.nd rfl (Or.inl rfl)) (pgs_cons (pg_name (i := 3) sc_count.nd rfl (Or.inl rfl)) (pgs_cons (pg_name (i := 4) sc_count.nd rfl (Or.inl rfl)) pgs_nil)))))
    (pss_one (ps_ret (pe_op op_fdivW (pe_op op_add (pe_op op_mulW (pv 2) (pv 1)) (pv 4)) (pv 3))))))), ?_⟩
    refine ⟨_, rfl, r, p, q, c, k, rfl, er, R, fun H1 s1 => ?_⟩
    refine ⟨_, rfl, t, rfl, ?_⟩
    refine ⟨_, rfl, r, _, rfl, SqT.of (s1 _ _ er), rfl, _, _, rfl, _, _, rfl, _, _, rfl, rfl, ?_⟩
    refine ⟨_, rfl, _, rfl, _, _, rfl, rfl, mulW R.bp bt k0 k0 (by omega), _, rfl, _, _, rfl, rfl, _, rfl, _, _, rfl, rfl, divW (by have := R.q1; omega) R.bq (by omega), ?_⟩
    exact kk _ s1
end
end Lf
namespace Lf
open PySem PySem.Spec PyProof.Rows L2
/-- repr of an int or of None -/
theorem repr_some {X : Cx} : CallR X (.builtin "repr") (fun xs H Q => (∃ i : Int, xs = [.int i] ∧ i.natAbs.log2 < 1920 ∧ Q (.str (toString i)) H) ∨ (xs = [.non] ∧ Q (.str "None") H)) := by
  intro pins s σ H xs us Q I rel h
  rcases h with h | ⟨rfl, hq⟩
  · exact SkE.call_repr_int pins s σ H xs us Q I rel h
  · obtain ⟨u, hu, ru⟩ := vals1 rel
    subst hu
    have eu : u = Value.none := ru
    subst eu
    exact PySem.P.repr_of_none ⟨.str "None", H, I.tok _, ⟨_, rfl⟩, hq⟩
theorem cut_take (xs : List V) (m : Int) (h : 0 ≤ m) : cutV xs none (some m) = xs.take m.toNat := by
  obtain ⟨n, rfl⟩ := Int.eq_ofNat_of_zero_le h
  unfold cutV
  rw [HT.sIx_none, show HT.sIx xs.length xs.length (some ((n : Nat) : Int)) = min n xs.length from HT.sIx_nat _ _ n, List.drop_zero, Nat.sub_zero]
  show xs.take (min n xs.length) = xs.take n
  by_cases hn : n ≤ xs.length
  · rw [Nat.min_eq_left hn]
  · rw [Nat.min_eq_right (by omega), List.take_of_length_le (Nat.le_refl _), List.take_of_length_le (by omega)]
theorem flat_ints (ns : List Int) : (ns.map V.int).all flatV = true := by
  induction ns with
  | nil => rfl
  | cons n r ih => simpa [flatV] using ih
theorem inV_ints (ns : List Int) (k : Int) : inV (V.int k) (ns.map V.int) = decide (k ∈ ns) := by
  induction ns with
  | nil => rfl
  | cons n r ih =>
    have ih' : ((r.map V.int).any fun y => eqV y (V.int k)) = decide (k ∈ r) := ih
    show (eqV (V.int n) (V.int k) || (r.map V.int).any fun y => eqV y (V.int k)) = decide (k ∈ n :: r)
    rw [ih']
    by_cases h : n = k
    · subst h
      simp [eqV]
    · have h' : ¬ k = n := fun z => h z.symm
      simp [eqV, h, h']
end Lf
namespace Lf
open PySem PySem.Spec PyProof.Rows L2
/-! ### a def called where no repr is under way -/
structure FnG (P : Program) (w : World) (K : PySem.W.Frag) (mg : Str → Option Value) (base : Heap) (k : Nat) (f : Addr) (fd : FuncData) (ps : List Str) (sp : Sp) : Prop where
  lenG : ∀ vs H Q E, sp vs H Q E → vs.length = ps.length
  runG : ∀ (A : Around) (out : List Env) (sh : Shared) (H : Hp) (ar : Args) (us : List Value) (vs : List V) (Q : VK) (E : XK), Room k A → A.guards = some [] → Env0 P w K mg base A out sh H → BindsTo sh fd ar (ps.zip us) → Vals vs us → sp vs H Q E →
    codeAny (model P w) A (.call (.ref f) ar) (CR CX0 out P w H sh Q E) sh
theorem fnG_of {P : Program} {w : World} {K : PySem.W.Frag} {mg : Str → Option Value} {base : Heap} {x qual : Str} {st : Stmt} {f : Addr} {fd : FuncData} {N ps : List Str} {k : Nat} {sp : Sp} (F : Fun K x qual st f fd) (S : FnScope N ps (defScope st)) (ln : ∀ vs H Q E, sp vs H Q E → vs.length = ps.length)
    (bd : ∀ (cdv : Value) (A : Around) (out : List Env) (sh : Shared) (H : Hp) (vs : List V) (Q : VK) (E : XK), Room k (A.deeper (envOfC qual (defScope st) sh.heap.objs.size f cdv)) → A.guards = some [] → sp vs H Q E →
      ∃ t, PSs (cxOf CX0 P w K mg base N qual (defScope st) f cdv A out sh H E).nox (defBody st) t ∧ t { nx := fun _ H' => Q .non H', rt := Q } (start N vs) H) : FnG P w K mg base (k + 1) f fd ps sp := by
  obtain ⟨oc, od, kV, doc, pm, an, cdv, ct, osl, rfl, lkp, cin⟩ := F.ex
  refine ⟨ln, fun A out sh H ar us vs Q E rm gd en bnd rel pr => ?_⟩
  have lv := ln _ _ _ _ pr
  have inK : K.In sh.heap := en.mod.kin.keeps fun b o e => (en.bs b o e).1
  have nol : sh.heap.NoLimit := en.mod.nolimit.keeps fun b o e => (en.bs b o e).1
  have knd : ∀ y ∈ ps.zip us, (defScope st).names.lookup y.1 = some .local ∨ ((defScope st).names.lookup y.1 = some .cell ∧ ((cellsFrom (sh.heap.objs.size + 1) (defScope st).names []).lookup y.1).isSome = true) := fun ⟨n, v⟩ hy => by
    rcases S.par n (List.of_mem_zip hy).1 with z | z
    · exact .inl z
    · exact .inr ⟨z, PySem.W.cellsFrom_some _ _ _ (.inl z)⟩
  refine codeAny_call_function rm.depth (inK _ _ lkp) rfl S.co S.gen rfl (PySem.W.codeRec_of inK cin) (bnd _ _ _ _ ?_)
  refine wpAny_newFunctionEnv_cells S.kind knd fun env he sh1 x1 => ?_
  subst he
  refine ⟨nol.keeps x1.toInCall.keep, codeAny_func ?_⟩
  obtain ⟨t, ht, hq⟩ := bd cdv A out sh H vs Q E (rm.deeper _) gd pr
  have inv := inv_start (CX := CX0) (P := P) (w := w) (K := K) (mg := mg) (base := base) (E := E) (f := f) (cd := cdv) (qual := qual) S rm.hd en lv rel x1
  refine wpAny_mono (ht.nox.run [] sh1 (start N vs) H _ inv hq) (fun fl sh' hs => ?_) fun e sh' hs => hs
  cases fl with
  | ret u =>
    obtain ⟨v, σ', H', J, rv, z⟩ := hs
    exact ⟨v, H', J.os, J.bare, J.base, J.hok, rv, z⟩
  | next =>
    obtain ⟨σ', H', J, z⟩ := hs
    exact ⟨V.non, H', J.os, J.bare, J.base, J.hok, rfl, z⟩
  | brk =>
    obtain ⟨_, _, _, z⟩ := hs
    exact False.elim z
  | cont =>
    obtain ⟨_, _, _, z⟩ := hs
    exact False.elim z
/-- the law called, at the heap behind the top -/
theorem lawG {P : Program} {w : World} {K : PySem.W.Frag} {mg mb : Str → Option Value} {k : Nat} {fa ad : Addr} {fd : FuncData} {x : Str} {sp : Sp} {sh : Shared} {vs : List Value} {ns : List Int}
    (inK : K.In sh.heap) (nsm : sh.heap.Ns mainGlobals mg) (nsb : sh.heap.Ns builtinsNs mb) (bb : ∀ x : Str, x ≠ "__name__" → mb x = bootBuiltins x) (nol : sh.heap.NoLimit) (gn : sh.gens = #[])
    (ga : sh.heap.get? ad = some { cls := .type "list", data := .seq vs.toArray }) (isI : IntsAre vs ns) (len : ns.length ≤ sizeLine) (rm : Room k callerA)
    (F : ∀ base : Heap, K.In base → base.Ns mainGlobals mg → FnG P w K mg base k fa fd [x] sp) (bnd : ∀ (s : Shared) (u : Value), BindsTo s fd ⟨[u], []⟩ [(x, u)])
    (pr : ∀ H : Hp, SqL K H ad (ns.map V.int) → sp [.ref ad] H (fun v _ => v = .bl true) fun _ _ _ => False) :
    codeAny (model P w) callerA (.call (.ref fa) ⟨[.ref ad], []⟩) (fun r sh' => r = .ok (.ret (.bool true)) ∧ OldK sh.heap sh'.heap ∧ sh'.os = sh.os ∧ AllBare sh'.gens) sh := by
  have rel := vals_ints isI
  have lnv := isI.length
  have main : ∀ H : Hp, Only H → SqL K H ad (ns.map V.int) → HOk P w H sh.heap → (∀ b, H b ≠ none → b = ad) → (H ad ≠ none → K.lookup ad = none) →
      codeAny (model P w) callerA (.call (.ref fa) ⟨[.ref ad], []⟩) (fun r sh' => r = .ok (.ret (.bool true)) ∧ OldK sh.heap sh'.heap ∧ sh'.os = sh.os ∧ AllBare sh'.gens) sh := by
    intro H only seq hok one nk
    have lay : ∀ {b : Addr} {o : Obj}, sh.heap.get? b = some o → H b = none → (hidT sh.heap H).get? b = some o := fun e n => hidT_get e n
    have nod : ∀ {b : Addr} {o : Obj} {es : Array DictEntry} {ep : Nat}, sh.heap.get? b = some o → o.data = .dict es ep → H b = none := fun {b o es ep} e d => by
      cases z : H b with
      | none => rfl
      | some u =>
        have eb : b = ad := one b (by rw [z]; simp)
        subst eb
        rw [ga] at e
        cases e
        exact (nomatch (show Data.seq vs.toArray _ = Data.dict es ep from d))
    have nsL : ∀ {b : Addr} {m : Str → Option Value}, sh.heap.Ns b m → (hidT sh.heap H).Ns b m := fun {b m} ⟨o, es, ep, e, d, r⟩ => ⟨o, es, ep, lay e (nod e d), d, r⟩
    have inB : K.In (hidT sh.heap H) := fun b o e => lay (inK b o e) (by
      cases z : H b with
      | none => rfl
      | some u =>
        have eb : b = ad := one b (by rw [z]; simp)
        subst eb
        rw [nk (by rw [z]; simp)] at e
        cases e)
    have md : Mod K mg (hidT sh.heap H) := ⟨inB, nsL nsm, ⟨mb, nsL nsb, bb⟩, let ⟨mc, h1, h2⟩ := nol; ⟨mc, nsL h1, h2⟩⟩
    have en : Env0 P w K mg (hidT sh.heap H) callerA [] sh H := ⟨rfl, md, fun b o e => of_hidT e, Nat.le_of_eq (hidT_size _ _), trivial, fun b hb => absurd (show b ∈ ([] : List Addr) from hb) (by simp), hok, .of_eq gn⟩
    refine codeAny_mono ((F _ inB (nsL nsm)).runG callerA [] sh H ⟨[.ref ad], []⟩ [.ref ad] [.ref ad] _ _ rm rfl en (bnd sh (.ref ad)) (.cons rfl .nil) (pr H seq)) fun r sh' h => ?_
    match r, h with
    | .error e, h => exact (show False from h).elim
    | .ok .next, h => exact False.elim h
    | .ok .brk, h => exact False.elim h
    | .ok .cont, h => exact False.elim h
    | .ok (.ret u), h =>
      obtain ⟨v, H', os, bare, un, hok', rv, z⟩ := h
      have z' : v = .bl true := z
      subst z'
      have eu : u = Value.bool true := rv
      subst eu
      refine ⟨rfl, OldK.of_keep (fun b o e => ?_), os, bare⟩
      cases zb : H b with
      | none => exact un.keep b o e zb (fun z => absurd (show b ∈ ([] : List Addr) from z) (by simp)) (by simp)
      | some u =>
        rcases only b with z | ⟨ob, xs, z⟩
        · rw [zb] at z
          cases z
        · have e1 := (hok b _ z).1
          have e2 := (hok' b _ (un.frzs b ob _ z)).1
          rw [e] at e1
          cases e1
          exact e2
  cases hk : K.lookup ad with
  | some o =>
    have e := inK ad o hk
    rw [ga] at e
    cases e
    exact main (fun _ => none) (fun _ => .inl rfl) (.inr ⟨_, vs.toArray, _, hk, rfl, rfl, rfl, by rw [List.size_toArray, lnv]; exact len, by simpa using rel⟩) (fun b u z => nomatch (show (none : Option HO) = some u from z)) (fun b z => absurd rfl z) (fun z => absurd rfl z)
  | none =>
    refine main (fun b => if b = ad then some (.frz { cls := .type "list", data := .seq vs.toArray } (.lst (ns.map V.int))) else none) (fun b => ?_) (.inl (.inr ⟨{ cls := .type "list", data := .seq vs.toArray }, if_pos rfl⟩)) (fun b u z => ?_) (fun b z => ?_) (fun _ => hk)
    · by_cases eb : b = ad
      · exact .inr ⟨_, _, if_pos eb⟩
      · exact .inl (if_neg eb)
    · by_cases eb : b = ad
      · subst eb
        have z' := (if_pos rfl).symm.trans z
        cases z'
        exact ⟨ga, by rw [List.length_map]; exact len, vs, _, rel, ga⟩
      · exact (nomatch (if_neg eb).symm.trans z)
    · by_cases eb : b = ad
      · exact eb
      · exact absurd (if_neg eb) z
theorem walkG {l : PySem.W.OpenLaw} {n k : Nat} {q : Program} {loose : List Str} {XP : (Str → Option Value) → Heap → Prop} {YP : World → Heap → Prop} {d : DefRec} {K : Params → PySem.W.Frag} {sp : World → Sp} {x : Str}
    (most : l.most = some n) (nsz : n ≤ sizeLine) (nodf : d.params.defaults = []) (rm : Room k callerA) (inY : ∀ (w : World) (h : Heap), YP w h → (K w.params).In h)
    (F : ∀ (w : World) (mg : Str → Option Value) (fa : Addr) (h : Heap), (K w.params).In h → h.Ns mainGlobals mg → mg d.name = some (.ref fa) → ∃ fd : FuncData, (∀ (s : Shared) (u : Value), BindsTo s fd ⟨[u], []⟩ [(x, u)]) ∧ ∀ base : Heap, (K w.params).In base → base.Ns mainGlobals mg → FnG l.prog w (K w.params) mg base k fa fd [x] (sp w))
    (pr : ∀ (w : World) (H : Hp) (a : Addr) (ns : List Int), ns.length ≤ n → SqL (K w.params) H a (ns.map V.int) → sp w [.ref a] H (fun v _ => v = .bl true) fun _ _ _ => False) : PySem.W.WalkO q loose XP YP l.row.toRowW d [] (fun f vs => PySem.call f vs) := by
  refine Att.attach_call most nodf fun w s₀ sh mg mb fa o pm cd doc a vs ns G Y ho hd hcd hmg hobj hints hlen hg => ?_
  have inK := inY w _ Y
  obtain ⟨fd, hb, hF⟩ := F w mg fa _ inK G.T.g hmg
  exact lawG inK G.T.g G.T.b G.T.builtins G.T.nolimit hg hobj hints (Nat.le_trans hlen nsz) rm hF hb (fun H hS => pr w H a ns hlen hS)
/-! ### repr of data -/
theorem repr_data {X : Cx} (gd : X.A.guards = some []) (hu : X.A.units + 70 < cLine) : CallR X (.builtin "repr") (fun xs H Q => ∃ (a : Addr) (d : PyData), xs = [.ref a] ∧ Dp X.K H (.ref a) d ∧ d.showable = true ∧ d.hasDict = false ∧ d.depth ≤ 60 ∧ d.shown.length ≤ sizeLine ∧ Q (.str d.shown) H) := by
  intro pins s σ H xs us Q I rel h
  obtain ⟨a, d, rfl, dp, sw, nd, dd, sz, hq⟩ := h
  obtain ⟨u, hu1, ru⟩ := vals1 rel
  subst hu1
  obtain ⟨as, rd⟩ := Dp.reads I d (.ref a) u dp ru
  have eu : u = Value.ref a := ru
  subst eu
  refine repr_of_reads' rd sw (fun z => by rw [nd] at z; cases z) gd (by omega) (fun _ _ e => e) (fun h' u tk hk => ?_) sz
  exact ⟨.str d.shown, H, I.kept hk, ⟨u, rfl⟩, hq⟩
theorem show_fits (ds : List Int) (hb : ∀ z ∈ ds, Bd 1900 z) (hl : ds.length ≤ 100) : (PyData.tuple (ds.map PyData.int)).showable = true ∧ (PyData.tuple (ds.map PyData.int)).hasDict = false ∧ (PyData.tuple (ds.map PyData.int)).depth ≤ 60 ∧ (PyData.tuple (ds.map PyData.int)).shown.length ≤ sizeLine := by
  have lg : ∀ z ∈ ds, z.natAbs.log2 < 1920 := fun z hz => ((hb z hz).mono (show 1900 ≤ 1920 by decide)).log (by decide)
  have key : ∀ l : List Int, (∀ z ∈ l, z.natAbs.log2 < 1920) → PyData.showableAll (l.map PyData.int) = true ∧ PyData.hasDictAll (l.map PyData.int) = false ∧ PyData.depthAll (l.map PyData.int) = 0 ∧ ((PyData.shownAll (l.map PyData.int)).map (·.length)).sum ≤ 1921 * l.length ∧ (PyData.shownAll (l.map PyData.int)).length = l.length := by
    intro l
    induction l with
    | nil => intro _; exact ⟨rfl, rfl, rfl, by simp [PyData.shownAll], rfl⟩
    | cons z r ih =>
      intro h
      obtain ⟨i1, i2, i3, i4, i5⟩ := ih fun y hy => h y (List.mem_cons_of_mem _ hy)
      have hz := h z (List.mem_cons_self ..)
      refine ⟨?_, ?_, ?_, ?_, ?_⟩
      · simp [PyData.showableAll, PyData.showable, hz, i1]
      · simp [PyData.hasDictAll, PyData.hasDict, i2]
      · simp [PyData.depthAll, PyData.depth, i3]
      · have := PyProof.Rows.int_text_len_1921 hz
        simp only [List.map_cons, PyData.shownAll, PyData.shown, List.sum_cons, List.length_cons]
        omega
      · simp [PyData.shownAll, i5]
  obtain ⟨k1, k2, k3, k4, k5⟩ := key ds lg
  refine ⟨by simpa [PyData.showable] using k1, by simpa [PyData.hasDict] using k2, by simp [PyData.depth, k3], ?_⟩
  have := tupleText_len_le (PyData.shownAll (ds.map PyData.int))
  rw [k5] at this
  show (tupleText (PyData.shownAll (ds.map PyData.int))).length ≤ sizeLine
  rw [sizeLine_eq]
  omega
theorem dpAll_ints {K : PySem.W.Frag} {H : Hp} : ∀ ds : List Int, DpAll K H (ds.map V.int) (ds.map PyData.int)
  | [] => .nil
  | c :: r => .cons (.int c) (dpAll_ints r)
/-- repr of a tuple of ints -/
theorem rp_ints {K : PySem.W.Frag} {H : Hp} {a : Addr} {Q : VK} (ds : List Int) (e : H a = some (.tup (ds.map V.int))) (hb : ∀ z ∈ ds, Bd 1900 z) (hl : ds.length ≤ 100) (h : Q (.str (PyData.tuple (ds.map PyData.int)).shown) H) :
    ∃ (a' : Addr) (d : PyData), [V.ref a] = [.ref a'] ∧ Dp K H (.ref a') d ∧ d.showable = true ∧ d.hasDict = false ∧ d.depth ≤ 60 ∧ d.shown.length ≤ sizeLine ∧ Q (.str d.shown) H := by
  obtain ⟨f1, f2, f3, f4⟩ := show_fits ds hb hl
  exact ⟨a, _, rfl, Dp.tup (SqT.of e) (dpAll_ints ds), f1, f2, f3, f4, h⟩
end Lf
namespace Lf
open PySem PySem.Spec PyProof.Rows L2
/-- two rules that are the same are not different -/
theorem ne3 {K : PySem.W.Frag} {H : Hp} {r1 r2 : Addr} {p q c p' q' c' : Int} {Q : V → Hp → Prop} (e1 : H r1 = some (.tup [.int p, .int q, .int c])) (e2 : H r2 = some (.tup [.int p', .int q', .int c'])) (hp : p = p') (hq : q = q') (hc : c = c') (h : Q (.bl false) H) : rNeD K (.ref r1) (.ref r2) H Q := by
  subst hp hq hc
  refine ⟨.tuple [.int p, .int q, .int c], .tuple [.int p, .int q, .int c], Dp.tup (SqT.of e1) (.cons (.int p) (.cons (.int q) (.cons (.int c) .nil))), Dp.tup (SqT.of e2) (.cons (.int p) (.cons (.int q) (.cons (.int c) .nil))), rfl, rfl, ?_⟩
  rw [SeqAt.eqv_refl _ rfl]
  exact h
theorem logR {k : Nat} {i : Int} (h : Bd k i) (hk : k ≤ 1920) : i.natAbs.log2 < 1920 := (h.mono hk).log (by decide)
def spLaw (K : PySem.W.Frag) : Sp := fun vs H Q _ => ∃ (a : Addr) (ns : List Int), vs = [.ref a] ∧ SqL K H a (ns.map V.int) ∧ ns.length ≤ 63 ∧ ∀ H', Q (.bl true) H'
end Lf
namespace Lf
open PySem PySem.Spec PyProof.Rows L2
theorem lst_ib_bd {a b m c d n x : Int} (m1 : 1 ≤ m) (n1 : 1 ≤ n) (h : Lst (Ib a b m c d n) x) : x ≤ (if b * n ≤ d * m then 0 else b * n - d * m) + m * n := by
  have mn := one_le_mul m1 n1
  obtain ⟨x0, hx, no⟩ := h
  rcases Int.lt_or_le (a * n) (c * m) with z | z
  · generalize hs : (if b * n ≤ d * m then 0 else b * n - d * m) = s
    have s0 : 0 ≤ s ∧ b * n - d * m ≤ s := by
      by_cases c : b * n ≤ d * m
      · rw [if_pos c] at hs; omega
      · rw [if_neg c] at hs; omega
    have r : (a * s + b) * n ≤ (c * s + d) * m := by
      have h1 := Int.mul_le_mul_of_nonneg_right (show a * n + 1 ≤ c * m by omega) s0.1
      rw [Int.add_mul] at h1
      have e1 : (a * s + b) * n = a * n * s + b * n := by grind
      have e2 : (c * s + d) * m = c * m * s + d * m := by grind
      rw [e1, e2]
      omega
    have := ib_from.mp (ib_sure m1 n1 r z)
    rcases Int.lt_or_le (s + m * n) x with g | g
    · exact absurd this (no _ (by omega) g)
    · exact g
  · have s0 : 0 ≤ (if b * n ≤ d * m then 0 else b * n - d * m) := by
      by_cases c : b * n ≤ d * m
      · rw [if_pos c]; omega
      · rw [if_neg c]; omega
    rcases Int.lt_or_le x (m * n) with g | g
    · omega
    · exfalso
      refine no (x - m * n) (by omega) (by omega) ?_
      obtain ⟨y, h1, h2⟩ := hx
      refine ⟨y - a * n, ?_, ?_⟩
      · have e1 : a * (x - m * n) = a * x - m * (a * n) := by grind
        rw [e1, Int.mul_sub]
        omega
      · have e1 : c * (x - m * n) = c * x - n * (c * m) := by grind
        have h3 := Int.mul_le_mul_of_nonneg_left z (show 0 ≤ n by omega)
        rw [e1, Int.mul_sub]
        omega
end Lf
namespace Lf
open PySem PySem.Spec PyProof.Rows L2
/-! ### two rules and their lead -/
structure Rl where
  p : Int
  q : Int
  c : Int
def Rl.at (r : Rl) (t : Int) : Int := (r.p * t + r.c) / r.q
abbrev Rl.o (r : Rl) : HO := tup3 r.p r.q r.c
abbrev Rl.B (k : Nat) (r : Rl) : Prop := RuleB k r.p r.q r.c
def Ld (a b : Rl) (t : Int) : Int := a.at t - b.at t
def Rl.mir (r : Rl) : Rl := ⟨r.p, r.q, r.q - 1 - r.c⟩
def gp (a b : Rl) (t : Int) : Int := (a.p * b.q - b.p * a.q) * t + (a.c * b.q - b.c * a.q)
theorem gp_eq (a b : Rl) (t : Int) : gp a b t = (a.p * t + a.c) * b.q - (b.p * t + b.c) * a.q := by
  unfold gp
  grind
theorem gp_swap (a b : Rl) (t : Int) : gp b a t = -gp a b t := by
  rw [gp_eq, gp_eq]
  omega
theorem ld_swap (a b : Rl) (t : Int) : Ld b a t = -Ld a b t := by
  unfold Ld
  omega
theorem ld_ge {a b : Rl} {t k : Int} (ha : 1 ≤ a.q) (hb : 1 ≤ b.q) (h : k * (a.q * b.q) ≤ gp a b t) : k ≤ Ld a b t := by
  rw [gp_eq] at h
  unfold Ld Rl.at
  have h1 : (b.p * t + b.c) / b.q * b.q ≤ b.p * t + b.c := Int.ediv_mul_le _ (by omega)
  generalize b.p * t + b.c = M at *
  generalize a.p * t + a.c = N at *
  generalize M / b.q = m at *
  have h2 : m * b.q * a.q ≤ M * a.q := Int.mul_le_mul_of_nonneg_right h1 (by omega)
  have h3 : (m + k) * a.q ≤ N := by
    refine Int.le_of_mul_le_mul_right (a := b.q) ?_ (by omega)
    have e1 : (m + k) * a.q * b.q = m * b.q * a.q + k * (a.q * b.q) := by grind
    omega
  have h4 : m + k ≤ N / a.q := Int.le_ediv_of_mul_le (by omega) h3
  omega
theorem ld_le {a b : Rl} {t k : Int} (ha : 1 ≤ a.q) (hb : 1 ≤ b.q) (h : gp a b t ≤ k * (a.q * b.q)) : Ld a b t ≤ k := by
  have := ld_ge (a := b) (b := a) (t := t) (k := -k) hb ha (by
    rw [gp_swap, Int.mul_comm b.q, Int.neg_mul]
    omega)
  rw [ld_swap] at this
  omega
/-- a lead of k needs a gap above k - 1 -/
theorem gp_gt {a b : Rl} {t k : Int} (ha : 1 ≤ a.q) (hb : 1 ≤ b.q) (h : k ≤ Ld a b t) : (k - 1) * (a.q * b.q) < gp a b t := by
  refine Int.not_le.mp fun z => ?_
  have := ld_le ha hb z
  omega
theorem at_per (r : Rl) (h : 1 ≤ r.q) (t j : Int) : r.at (t + r.q * j) = r.at t + r.p * j := by
  unfold Rl.at
  rw [show r.p * (t + r.q * j) + r.c = r.p * t + r.c + r.p * j * r.q by grind, Int.add_mul_ediv_right _ _ (by omega)]
theorem ld_per {a b : Rl} (ha : 1 ≤ a.q) (hb : 1 ≤ b.q) (t j : Int) : Ld a b (t + a.q * b.q * j) = Ld a b t + (a.p * b.q - b.p * a.q) * j := by
  unfold Ld
  rw [show t + a.q * b.q * j = t + a.q * (b.q * j) by grind, at_per a ha, show t + a.q * (b.q * j) = t + b.q * (a.q * j) by grind, at_per b hb]
  grind
theorem mir_at {r : Rl} (h : 1 ≤ r.q) (t : Int) : r.mir.at t = -r.at (-t) := by
  show (r.p * t + (r.q - 1 - r.c)) / r.q = -((r.p * -t + r.c) / r.q)
  have h0 : r.p * -t = -(r.p * t) := by grind
  rw [h0]
  have l1 := Int.mul_ediv_self_le (x := -(r.p * t) + r.c) (k := r.q) (by omega)
  have l2 := Int.lt_mul_ediv_self_add (x := -(r.p * t) + r.c) (k := r.q) (by omega)
  generalize (-(r.p * t) + r.c) / r.q = v at *
  have e : r.p * t + (r.q - 1 - r.c) = (r.p * t - r.c + r.q * v + (r.q - 1)) + (-v) * r.q := by grind
  rw [e, Int.add_mul_ediv_right _ _ (by omega), Int.ediv_eq_zero_of_lt (by omega) (by omega)]
  omega
theorem mir_ld {a b : Rl} (ha : 1 ≤ a.q) (hb : 1 ≤ b.q) (t : Int) : Ld b.mir a.mir t = Ld a b (-t) := by
  unfold Ld
  rw [mir_at hb, mir_at ha]
  omega
theorem mir_gp (a b : Rl) : (b.mir.p * a.mir.q - a.mir.p * b.mir.q) = -(a.p * b.q - b.p * a.q) := by
  show b.p * a.q - a.p * b.q = _
  omega
/-- the lead as integers between two lines -/
theorem ld_ib {a b : Rl} {tm st am x : Int} (ha : 1 ≤ a.q) (hb : 1 ≤ b.q) : am ≤ Ld a b (tm + st * x) ↔ Ib (st * b.p) (b.p * tm + b.c + 1 + (am - 1) * b.q) b.q (st * a.p) (a.p * tm + a.c) a.q x := by
  unfold Ld Rl.at Ib
  have e1 : st * b.p * x + (b.p * tm + b.c + 1 + (am - 1) * b.q) = b.p * (tm + st * x) + b.c + 1 + (am - 1) * b.q := by grind
  have e2 : st * a.p * x + (a.p * tm + a.c) = a.p * (tm + st * x) + a.c := by grind
  rw [e1, e2]
  generalize a.p * (tm + st * x) + a.c = N
  generalize b.p * (tm + st * x) + b.c = M
  constructor
  · intro h
    refine ⟨N / a.q, ?_, Int.mul_ediv_self_le (by omega)⟩
    have l := Int.lt_mul_ediv_self_add (x := M) (k := b.q) (by omega)
    generalize N / a.q = y at *
    generalize M / b.q = m at *
    have := Int.mul_le_mul_of_nonneg_left (show m + 1 ≤ y - am + 1 by omega) (show 0 ≤ b.q by omega)
    have f1 : b.q * (m + 1) = b.q * m + b.q := by grind
    have f2 : b.q * (y - am + 1) = b.q * y - (am - 1) * b.q := by grind
    omega
  · rintro ⟨y, h1, h2⟩
    have g1 : y ≤ N / a.q := Int.le_ediv_of_mul_le (by omega) (by rw [Int.mul_comm]; exact h2)
    have g2 : M / b.q < y - am + 1 := Int.ediv_lt_of_lt_mul (by omega) (by
      have f2 : (y - am + 1) * b.q = b.q * y - (am - 1) * b.q := by grind
      omega)
    omega
/-! ### numbers of times -/
def cB (f : Int → Bool) (t : Int) : Nat → Int
  | 0 => 0
  | n + 1 => cB f t n + if f (t + n) = true then 1 else 0
theorem cB_nn (f : Int → Bool) (t : Int) : ∀ n : Nat, 0 ≤ cB f t n ∧ cB f t n ≤ n
  | 0 => ⟨Int.le_refl _, Int.le_refl _⟩
  | n + 1 => by
    have := cB_nn f t n
    show 0 ≤ cB f t n + _ ∧ cB f t n + _ ≤ ((n + 1 : Nat) : Int)
    split <;> omega
theorem cB_split (f : Int → Bool) (t : Int) (m : Nat) : ∀ n : Nat, cB f t (m + n) = cB f t m + cB f (t + m) n
  | 0 => by
    show cB f t m = cB f t m + 0
    omega
  | n + 1 => by
    show cB f t (m + n) + (if f (t + ((m + n : Nat) : Int)) = true then 1 else 0) = cB f t m + (cB f (t + m) n + if f (t + m + n) = true then 1 else 0)
    rw [cB_split f t m n, show t + ((m + n : Nat) : Int) = t + m + n by omega]
    omega
theorem cB_congr {f g : Int → Bool} {t u : Int} : ∀ {n : Nat}, (∀ i : Nat, i < n → f (t + i) = g (u + i)) → cB f t n = cB g u n
  | 0, _ => rfl
  | n + 1, h => by
    show cB f t n + _ = cB g u n + _
    rw [cB_congr (n := n) fun i hi => h i (by omega), h n (by omega)]
theorem cB_zero {f : Int → Bool} {t : Int} : ∀ {n : Nat}, (∀ i : Nat, i < n → f (t + i) = false) → cB f t n = 0
  | 0, _ => rfl
  | n + 1, h => by
    show cB f t n + _ = 0
    rw [cB_zero (n := n) fun i hi => h i (by omega), h n (by omega)]
    rfl
theorem cB_full {f : Int → Bool} {t : Int} : ∀ {n : Nat}, (∀ i : Nat, i < n → f (t + i) = true) → cB f t n = n
  | 0, _ => rfl
  | n + 1, h => by
    show cB f t n + _ = _
    rw [cB_full (n := n) fun i hi => h i (by omega), h n (by omega)]
    rfl
theorem cB_front (f : Int → Bool) (t : Int) (n : Nat) : cB f t (n + 1) = (if f t = true then 1 else 0) + cB f (t + 1) n := by
  rw [show n + 1 = 1 + n by omega, cB_split]
  show cB f t 0 + (if f (t + ((0 : Nat) : Int)) = true then 1 else 0) + _ = _
  rw [show t + ((0 : Nat) : Int) = t by omega]
  show (0 : Int) + _ + cB f (t + ((1 : Nat) : Int)) n = _
  rw [show t + ((1 : Nat) : Int) = t + 1 by omega]
  omega
theorem cB_rev (f : Int → Bool) : ∀ (n : Nat) (t : Int), cB (fun x => f (-x)) (1 - (t + n)) n = cB f t n
  | 0, _ => rfl
  | n + 1, t => by
    rw [cB_front]
    show _ = cB f t n + _
    have e : -(1 - (t + ((n + 1 : Nat) : Int))) = t + n := by omega
    rw [e, show 1 - (t + ((n + 1 : Nat) : Int)) + 1 = 1 - (t + n) by omega, cB_rev f n t]
    omega
def ldP (a b : Rl) (t : Int) : Bool := decide (0 < Ld a b t)
theorem fs_ld {a b : Rl} {t : Int} : ∀ {n : Nat}, (∀ i : Nat, i < n → 0 ≤ Ld a b (t + i) ∧ Ld a b (t + i) ≤ 1) → fs n a.p (a.p * t + a.c) a.q - fs n b.p (b.p * t + b.c) b.q = cB (ldP a b) t n
  | 0, _ => rfl
  | n + 1, h => by
    show fs n _ _ _ + (a.p * n + (a.p * t + a.c)) / a.q - (fs n _ _ _ + (b.p * n + (b.p * t + b.c)) / b.q) = cB _ _ n + _
    have ih := fs_ld (n := n) fun i hi => h i (by omega)
    obtain ⟨h1, h2⟩ := h n (by omega)
    have e : (a.p * n + (a.p * t + a.c)) / a.q - (b.p * n + (b.p * t + b.c)) / b.q = Ld a b (t + n) := by
      unfold Ld Rl.at
      rw [show a.p * (t + n) + a.c = a.p * n + (a.p * t + a.c) by grind, show b.p * (t + n) + b.c = b.p * n + (b.p * t + b.c) by grind]
    have e2 : (if ldP a b (t + n) = true then (1 : Int) else 0) = Ld a b (t + n) := by
      unfold ldP
      by_cases z : 0 < Ld a b (t + n)
      · rw [decide_eq_true z, if_pos rfl]
        omega
      · rw [decide_eq_false z, if_neg Bool.false_ne_true]
        omega
    omega
/-- the least time of a range from which a rising line is above a level -/
def Rch (s lv st sp r : Int) : Prop := st ≤ r ∧ r ≤ sp ∧ (∀ t, st ≤ t → t < r → s * t < lv) ∧ (∀ t, r ≤ t → t < sp → lv ≤ s * t)
theorem ahead_eq {a b : Rl} {st sp o s : Int} (ha : 1 ≤ a.q) (hb : 1 ≤ b.q) (le : st ≤ sp) (s0 : 0 ≤ a.p * b.q - b.p * a.q)
    (ho : Rch (a.p * b.q - b.p * a.q) (1 - (a.c * b.q - b.c * a.q)) st sp o) (hs : Rch (a.p * b.q - b.p * a.q) (a.q * b.q - (a.c * b.q - b.c * a.q)) st sp s) :
    fs (s - o).toNat a.p (a.p * o + a.c) a.q - fs (s - o).toNat b.p (b.p * o + b.c) b.q + sp - s = cB (ldP a b) st (sp - st).toNat := by
  obtain ⟨o1, o2, o3, o4⟩ := ho
  obtain ⟨s1, s2, s3, s4⟩ := hs
  have d1 : 1 ≤ a.q * b.q := one_le_mul ha hb
  have os : o ≤ s := by
    refine Int.not_lt.mp fun z => ?_
    have h1 := o3 s s1 z
    have h2 := s4 s (Int.le_refl _) (by omega)
    omega
  have g : ∀ t, gp a b t = (a.p * b.q - b.p * a.q) * t + (a.c * b.q - b.c * a.q) := fun t => rfl
  have e1 : (sp - st).toNat = (o - st).toNat + ((s - o).toNat + (sp - s).toNat) := by omega
  rw [e1, cB_split, cB_split, show st + ((o - st).toNat : Int) = o by omega, show o + ((s - o).toNat : Int) = s by omega]
  have z1 : cB (ldP a b) st (o - st).toNat = 0 := cB_zero fun i hi => decide_eq_false (by
    have := o3 (st + i) (by omega) (by omega)
    have := ld_le (k := 0) (t := st + i) ha hb (by rw [g]; omega)
    omega)
  have z2 : cB (ldP a b) s (sp - s).toNat = ((sp - s).toNat : Nat) := cB_full fun i hi => decide_eq_true (by
    have := s4 (s + i) (by omega) (by omega)
    have := ld_ge (k := 1) (t := s + i) ha hb (by rw [g]; omega)
    omega)
  have z3 := fs_ld (a := a) (b := b) (t := o) (n := (s - o).toNat) fun i hi => by
    have := o4 (o + i) (by omega) (by omega)
    have := s3 (o + i) (by omega) (by omega)
    exact ⟨ld_ge ha hb (by rw [g]; omega), ld_le ha hb (by rw [g]; omega)⟩
  rw [z1, z2, z3]
  omega
theorem ahead_mir {a b : Rl} {st sp : Int} (ha : 1 ≤ a.q) (hb : 1 ≤ b.q) (le : st ≤ sp) : cB (ldP b.mir a.mir) (1 - sp) (sp - st).toNat = cB (ldP a b) st (sp - st).toNat := by
  rw [← cB_rev (ldP a b), show st + ((sp - st).toNat : Int) = sp by omega]
  refine cB_congr fun i hi => ?_
  unfold ldP
  rw [mir_ld ha hb]
end Lf
namespace Lf
open PySem PySem.Spec PyProof.Rows L2
theorem Bd.mid {k : Nat} {a x b : Int} (ha : Bd k a) (hb : Bd k b) (h1 : a ≤ x) (h2 : x ≤ b) : Bd k x := by
  unfold Bd at *
  omega
def tNo1 : TE := fun _ _ _ => False
theorem pe_no {X : Cx} {e : Expr} : PE X e tNo1 := ⟨fun _ _ _ _ _ _ h => h.elim⟩
theorem rlB_mono {a : Rl} {k j : Nat} (h : a.B k) (e : k ≤ j) : a.B j := RuleB.mono h e
def oV : Option Int → V
  | none => .non
  | some x => .int x
def BdO (j : Nat) (o : Option Int) : Prop := ∀ x, o = some x → Bd j x
/-- the first of the numbers from 0 on -/
def Fst (T : Int → Prop) : Option Int → Prop
  | some x => Lst T x
  | none => NoM T
theorem Fst.uniq {T : Int → Prop} {a b : Option Int} (h : Fst T a) (g : Fst T b) : a = b := by
  match a, b, h, g with
  | none, none, _, _ => rfl
  | some x, none, ⟨x0, hx, _⟩, g => exact absurd hx (g x x0)
  | none, some x, h, ⟨x0, hx, _⟩ => exact absurd hx (h x x0)
  | some x, some y, ⟨x0, hx, h⟩, ⟨y0, hy, g⟩ =>
    rcases Int.lt_trichotomy x y with l | l | l
    · exact absurd hx (g x x0 l)
    · rw [l]
    · exact absurd hy (h y y0 l)
theorem Fst.iff {T U : Int → Prop} {a : Option Int} (h : Fst T a) (e : ∀ x, 0 ≤ x → (T x ↔ U x)) : Fst U a := by
  match a, h with
  | none, h => exact fun x x0 z => h x x0 ((e x x0).mpr z)
  | some x, ⟨x0, hx, h⟩ => exact ⟨x0, (e x x0).mp hx, fun y y0 yl z => h y y0 yl ((e y y0).mpr z)⟩
section
variable {P : Program} {w : World} {K : PySem.W.Frag} {mg : Str → Option Value} {base : Heap}
/-! ### check_rules, gap_line, reach -/
/-- two rules at two addresses -/
structure Two (k : Nat) (A B : Addr) (a b : Rl) (H : Hp) : Prop where
  ea : H A = some a.o
  eb : H B = some b.o
  ra : a.B k
  rb : b.B k
theorem Two.same {k : Nat} {A B : Addr} {a b : Rl} {H H' : Hp} (h : Two k A B a b H) (s : Same H H') : Two k A B a b H' := ⟨s _ _ h.ea, s _ _ h.eb, h.ra, h.rb⟩
theorem Two.flip {k : Nat} {A B : Addr} {a b : Rl} {H : Hp} (h : Two k A B a b H) : Two k B A b a H := ⟨h.eb, h.ea, h.rb, h.ra⟩
theorem Two.mono {k j : Nat} {A B : Addr} {a b : Rl} {H : Hp} (h : Two k A B a b H) (e : k ≤ j) : Two j A B a b H := ⟨h.ea, h.eb, h.ra.mono e, h.rb.mono e⟩
def spChk2 : Sp := fun vs H Q _ => ∃ (A B : Addr) (a b : Rl) (k : Nat), vs = [.ref A, .ref B] ∧ Two k A B a b H ∧ ∀ H', Same H H' → Q .non H'
abbrev s_check_rules : Stmt := topS 34
abbrev N_check_rules : List Str := ["first", "second"]
abbrev P_check_rules : List Str := ["first", "second"]
theorem sc_check_rules : FnScope N_check_rules P_check_rules (defScope s_check_rules) := ⟨rfl, rfl, rfl, by decide +kernel, rfl, by decide +kernel, by decide +kernel⟩
theorem ok_check_rules (D : Df K mg "check_rules" s_check_rules P_check_rules) (c_check_rule : C8.Cal P w K mg base 3 "check_rule" spCheckRule []) : C8.Cal P w K mg base 4 "check_rules" spChk2 [] := by
  refine cal_of D sc_check_rules (fun vs H Q E h => ?_) (fun f cdv A outer s H vs Q E hr h => ?_)
  · obtain ⟨A, B, a, b, k, rfl, _⟩ := h
    rfl
  · obtain ⟨A1, B1, a, b, k, rfl, T, q⟩ := h
    refine ⟨_, (pss_cons (ps_expr (C8.pe_c c_check_rule hr (by decide) (by rfl) (pa_cons (pv 0) pa_nil)))
    (pss_one (ps_expr (C8.pe_c c_check_rule hr (by decide) (by rfl) (pa_cons (pv 1) pa_nil))))), ?_⟩
    refine ⟨_, rfl, A1, _, _, _, k, rfl, T.ea, T.ra, fun H1 s1 => ?_⟩
    exact ⟨_, rfl, B1, _, _, _, k, rfl, s1 _ _ T.eb, T.rb, fun H2 s2 => q H2 (s1.trans s2)⟩
def spGap : Sp := fun vs H Q _ => ∃ (A B : Addr) (a b : Rl) (k : Nat), vs = [.ref A, .ref B] ∧ Two k A B a b H ∧ 0 < k ∧ k ≤ 4000 ∧
  ∀ r, H r = none → Q (.ref r) (upd H r (tup3 (a.p * b.q - b.p * a.q) (a.c * b.q - b.c * a.q) (a.q * b.q)))
abbrev s_gap_line : Stmt := topS 35
abbrev N_gap_line : List Str := ["first", "second", "p", "q", "c", "other_p", "other_q", "other_c"]
abbrev P_gap_line : List Str := ["first", "second"]
theorem sc_gap_line : FnScope N_gap_line P_gap_line (defScope s_gap_line) := ⟨rfl, rfl, rfl, by decide +kernel, rfl, by decide +kernel, by decide +kernel⟩
theorem ok_gap_line (D : Df K mg "gap_line" s_gap_line P_gap_line) : C8.Cal P w K mg base 1 "gap_line" spGap [] := by
  refine cal_of D sc_gap_line (fun vs H Q E h => ?_) (fun f cdv A outer s H vs Q E hr h => ?_)
  · obtain ⟨A, B, a, b, k, rfl, _⟩ := h
    rfl
  · obtain ⟨A1, B1, a, b, k, rfl, T, k0, k4, q⟩ := h
    refine ⟨_, (pss_cons (ps_asg (pv 0) (pg_tup rfl (pgs_cons (pg_name (i := 2) sc_gap_line.nd rfl (Or.inl rfl)) (pgs_cons (pg_name (i := 3) sc_gap_line.nd rfl (Or.inl rfl)) (pgs_cons (pg_name (i := 4) sc_gap_line.nd rfl (Or.inl rfl)) pgs_nil)))))
    (pss_cons (ps_asg (pv 1) (pg_tup rfl (pgs_cons (pg_name (i := 5) sc_gap_line.nd rfl (Or.inl rfl)) (pgs_cons (pg_name (i := 6) sc_gap_line.nd rfl (Or.inl rfl)) (pgs_cons (pg_name (i := 7) sc_gap_line.nd rfl (Or.inl rfl)) pgs_nil)))))
    (pss_one (ps_ret (pe_tup (pa_cons (pe_op op_sub (pe_op op_mulW (pv 2) (pv 6)) (pe_op op_mulW (pv 5) (pv 3))) (pa_cons (pe_op op_sub (pe_op op_mulW (pv 4) (pv 6)) (pe_op op_mulW (pv 7) (pv 3))) (pa_cons (pe_op op_mulW (pv 3) (pv 6)) pa_nil)))))))), ?_⟩
    refine ⟨_, rfl, A1, _, rfl, SqT.of T.ea, rfl, _, _, rfl, _, _, rfl, _, _, rfl, rfl, ?_⟩
    refine ⟨_, rfl, B1, _, rfl, SqT.of T.eb, rfl, _, _, rfl, _, _, rfl, _, _, rfl, rfl, ?_⟩
    refine ⟨_, rfl, _, rfl, _, _, rfl, rfl, mulW T.ra.bp T.rb.bq k0 k0 (by omega), _, rfl, _, rfl, _, _, rfl, rfl, mulW T.rb.bp T.ra.bq k0 k0 (by omega), _, _, rfl, rfl, ?_⟩
    refine ⟨_, rfl, _, rfl, _, _, rfl, rfl, mulW T.ra.bc T.rb.bq k0 k0 (by omega), _, rfl, _, rfl, _, _, rfl, rfl, mulW T.rb.bc T.ra.bq k0 k0 (by omega), _, _, rfl, rfl, ?_⟩
    exact ⟨_, rfl, _, rfl, _, _, rfl, rfl, mulW T.ra.bq T.rb.bq k0 k0 (by omega), len10 (by simp), fun r nr => q r nr⟩
def spReach : Sp := fun vs H Q _ => ∃ (s lv st sp : Int), vs = [.int s, .int lv, .int st, .int sp] ∧ 0 ≤ s ∧ Bd 9000 s ∧ st ≤ sp ∧ ∀ r, Rch s lv st sp r → Q (.int r) H
abbrev s_reach : Stmt := topS 37
abbrev N_reach : List Str := ["slope", "level", "start", "stop"]
abbrev P_reach : List Str := ["slope", "level", "start", "stop"]
theorem sc_reach : FnScope N_reach P_reach (defScope s_reach) := ⟨rfl, rfl, rfl, by decide +kernel, rfl, by decide +kernel, by decide +kernel⟩
theorem ok_reach (D : Df K mg "reach" s_reach P_reach) (B : Bi mg) (c_divide_up : C8.Cal P w K mg base 1 "divide_up" spDivUp []) : C8.Cal P w K mg base 2 "reach" spReach [] := by
  refine cal_of D sc_reach (fun vs H Q E h => ?_) (fun f cdv A outer s H vs Q E hr h => ?_)
  · obtain ⟨s, lv, st, sp, rfl, _⟩ := h
    rfl
  · obtain ⟨sl, lv, st, sp, rfl, s0, bs, le, q⟩ := h
    refine ⟨_, (pss_cons (ps_if (pt_cmpR op_eq (pv 0) pe_int (nomark _))
      (pss_one (ps_ret (pe_ifExp (pt_cmpR op_le (pv 1) pe_int (nomark _)) (pv 2) (pv 3))))
      pss_nil)
    (pss_one (ps_ret (pe_callB (call_min2 rfl) (by rfl) B.min_ bt_min (pa_cons (pv 3) (pa_cons (pe_callB (call_max2 rfl) (by rfl) B.max_ bt_max (pa_cons (pv 2) (pa_cons (C8.pe_c c_divide_up hr (by decide) (by rfl) (pa_cons (pv 1) (pa_cons (pv 0) pa_nil))) pa_nil))) pa_nil)))))), ?_⟩
    refine ⟨_, rfl, rfl, _, rfl, ite2 (fun c => ?_) (fun c => ?_)⟩
    · have c : sl = 0 := by
        have := of_decide_eq_true c
        cases this
        rfl
      subst c
      refine ⟨_, rfl, _, _, rfl, rfl, _, rfl, ite2 (fun c => ?_) (fun c => ?_)⟩
      · have c : lv ≤ 0 := of_decide_eq_true c
        exact ⟨_, rfl, q st ⟨Int.le_refl _, le, fun t h1 h2 => by omega, fun t h1 h2 => by rw [Int.zero_mul]; exact c⟩⟩
      · have c : ¬ lv ≤ 0 := fun z => c (decide_eq_true z)
        exact ⟨_, rfl, q sp ⟨le, Int.le_refl _, fun t h1 h2 => by rw [Int.zero_mul]; omega, fun t h1 h2 => by omega⟩⟩
    · have c : 0 < sl := by
        have : sl ≠ 0 := fun z => c (by rw [z]; exact decide_eq_true rfl)
        omega
      have d1 := dvu_ge (x := lv) c
      have d2 : ∀ x, lv ≤ sl * x ↔ dvu lv sl ≤ x := fun x => (dvu_le c).symm
      refine ⟨_, rfl, _, rfl, _, rfl, _, rfl, lv, sl, rfl, c, bs, _, _, rfl, _, _, rfl, ?_⟩
      generalize dvu lv sl = v at *
      have mm : ∃ r, r = (if (if v > st then v else st) < sp then (if v > st then v else st) else sp) ∧ st ≤ r ∧ r ≤ sp ∧ (∀ x, st ≤ x → x < r → x < v) ∧ (∀ x, r ≤ x → x < sp → v ≤ x) := by
        refine ⟨_, rfl, ?_⟩
        by_cases c1 : v > st
        · rw [if_pos c1]
          by_cases c2 : v < sp
          · rw [if_pos c2]
            exact ⟨by omega, by omega, fun x _ h => h, fun x h _ => h⟩
          · rw [if_neg c2]
            exact ⟨by omega, by omega, fun x _ h => by omega, fun x h _ => by omega⟩
        · rw [if_neg c1]
          by_cases c2 : st < sp
          · rw [if_pos c2]
            exact ⟨by omega, by omega, fun x _ h => by omega, fun x h _ => by omega⟩
          · rw [if_neg c2]
            exact ⟨by omega, by omega, fun x _ h => by omega, fun x h _ => by omega⟩
      obtain ⟨r, er, r1, r2, r3, r4⟩ := mm
      show Q (.int (if (if v > st then v else st) < sp then (if v > st then v else st) else sp)) H
      rw [← er]
      refine q r ⟨r1, r2, fun t h1 h2 => Int.not_le.mp fun z => ?_, fun t h1 h2 => (d2 t).mpr (r4 t h1 h2)⟩
      have := (d2 t).mp z
      have := r3 t h1 h2
      omega
/-! ### times_ahead -/
def spTA : Sp := fun vs H Q _ => ∃ (A B : Addr) (a b : Rl) (st sp : Int) (k : Nat), vs = [.ref A, .ref B, .int st, .int sp] ∧ Two k A B a b H ∧ Bd k st ∧ Bd k sp ∧ 0 < k ∧ k ≤ 2500 ∧ st ≤ sp ∧ ∀ H', Same H H' → Q (.int (cB (ldP a b) st (sp - st).toNat)) H'
def spTA0 : Sp := fun vs H Q _ => ∃ (A B : Addr) (a b : Rl) (st sp : Int) (k : Nat), vs = [.ref A, .ref B, .int st, .int sp] ∧ Two k A B a b H ∧ Bd k st ∧ Bd k sp ∧ 0 < k ∧ k ≤ 2600 ∧ st ≤ sp ∧ 0 ≤ a.p * b.q - b.p * a.q ∧ ∀ H', Same H H' → Q (.int (cB (ldP a b) st (sp - st).toNat)) H'
abbrev s_times_ahead : Stmt := topS 36
abbrev N_times_ahead : List Str := ["first", "second", "start", "stop", "slope", "offset", "divisor", "open_from", "sure_from"]
abbrev P_times_ahead : List Str := ["first", "second", "start", "stop"]
theorem sc_times_ahead : FnScope N_times_ahead P_times_ahead (defScope s_times_ahead) := ⟨rfl, rfl, rfl, by decide +kernel, rfl, by decide +kernel, by decide +kernel⟩
theorem okA_times_ahead (D : Df K mg "times_ahead" s_times_ahead P_times_ahead) (c_gap_line : C8.Cal P w K mg base 1 "gap_line" spGap []) (c_reach : C8.Cal P w K mg base 2 "reach" spReach []) (c_count_sum : C8.Cal P w K mg base 4 "count_sum" spCountSum []) : C8.Cal P w K mg base 5 "times_ahead" spTA0 [] := by
  refine cal_of D sc_times_ahead (fun vs H Q E h => ?_) (fun f cdv A outer s H vs Q E hr h => ?_)
  · obtain ⟨A, B, a, b, st, sp, k, rfl, _⟩ := h
    rfl
  · obtain ⟨A1, B1, a, b, st, sp, k, rfl, T, bst, bsp, k0, k1, le, s0, q⟩ := h
    refine ⟨_, (pss_cons (ps_asg (C8.pe_c c_gap_line hr (by decide) (by rfl) (pa_cons (pv 0) (pa_cons (pv 1) pa_nil))) (pg_tup rfl (pgs_cons (pg_name (i := 4) sc_times_ahead.nd rfl (Or.inl rfl)) (pgs_cons (pg_name (i := 5) sc_times_ahead.nd rfl (Or.inl rfl)) (pgs_cons (pg_name (i := 6) sc_times_ahead.nd rfl (Or.inl rfl)) pgs_nil)))))
    (pss_cons (ps_if (pt_cmpR op_lt (pv 4) pe_int (nomark _))
      (pss_one (ps_ret pe_no))
      pss_nil)
    (pss_cons (ps_set (i := 7) sc_times_ahead.nd rfl (Or.inl rfl) (C8.pe_c c_reach hr (by decide) (by rfl) (pa_cons (pv 4) (pa_cons (pe_op op_sub pe_int (pv 5)) (pa_cons (pv 2) (pa_cons (pv 3) pa_nil))))))
    (pss_cons (ps_set (i := 8) sc_times_ahead.nd rfl (Or.inl rfl) (C8.pe_c c_reach hr (by decide) (by rfl) (pa_cons (pv 4) (pa_cons (pe_op op_sub (pv 6) (pv 5)) (pa_cons (pv 2) (pa_cons (pv 3) pa_nil))))))
    (pss_one (ps_ret (pe_op op_sub (pe_op op_add (pe_op op_sub (C8.pe_c c_count_sum hr (by decide) (by rfl) (pa_cons (pv 0) (pa_cons (pv 7) (pa_cons (pv 8) pa_nil)))) (C8.pe_c c_count_sum hr (by decide) (by rfl) (pa_cons (pv 1) (pa_cons (pv 7) (pa_cons (pv 8) pa_nil))))) (pv 3)) (pv 8)))))))), ?_⟩
    have aq := T.ra.q1
    have bq := T.rb.q1
    refine ⟨_, rfl, _, rfl, A1, B1, a, b, k, rfl, T, k0, by omega, fun g ng => ?_⟩
    have z1 := sm_upd (o := tup3 (a.p * b.q - b.p * a.q) (a.c * b.q - b.c * a.q) (a.q * b.q)) ng
    refine ⟨g, _, rfl, SqT.of upd_same, rfl, _, _, rfl, _, _, rfl, _, _, rfl, rfl, ?_⟩
    have T1 := T.same z1
    generalize upd H g (tup3 (a.p * b.q - b.p * a.q) (a.c * b.q - b.c * a.q) (a.q * b.q)) = H1 at z1 T1
    have Bs : Bd 9000 (a.p * b.q - b.p * a.q) := (Bd.sub (k := 2 * k) ((Bd.mul T.ra.bp T.rb.bq).mono (by omega)) ((Bd.mul T.rb.bp T.ra.bq).mono (by omega))).mono (by omega)
    refine ⟨_, rfl, _, _, rfl, rfl, _, rfl, iteDn (by omega) ?_⟩
    refine ⟨_, rfl, _, rfl, _, _, rfl, rfl, _, rfl, _, rfl, _, _, _, _, rfl, s0, Bs, le, fun o ho => ?_⟩
    refine ⟨_, rfl, _, rfl, _, rfl, _, _, rfl, rfl, _, rfl, _, rfl, _, _, _, _, rfl, s0, Bs, le, fun sr hs => ?_⟩
    have bo : Bd k o := bst.mid bsp ho.1 ho.2.1
    have bs : Bd k sr := bst.mid bsp hs.1 hs.2.1
    refine ⟨_, rfl, _, rfl, _, rfl, A1, _, _, _, o, sr, k, rfl, T1.ea, T1.ra, bo, bs, k0, by omega, fun H2 s2 => ?_⟩
    have T2 := T1.same s2
    refine ⟨_, rfl, _, rfl, _, rfl, B1, _, _, _, o, sr, k, rfl, T2.eb, T2.rb, bo, bs, k0, by omega, fun H3 s3 => ?_⟩
    refine ⟨_, _, rfl, rfl, _, rfl, _, _, rfl, rfl, _, rfl, _, _, rfl, rfl, ?_⟩
    have := ahead_eq aq bq le s0 ho hs
    show Q (.int (fs (sr - o).toNat a.p (a.p * o + a.c) a.q - fs (sr - o).toNat b.p (b.p * o + b.c) b.q + sp - sr)) H3
    rw [this]
    exact q H3 (z1.trans (s2.trans s3))
theorem ok_times_ahead (D : Df K mg "times_ahead" s_times_ahead P_times_ahead) (c_gap_line : C8.Cal P w K mg base 1 "gap_line" spGap []) (c_reach : C8.Cal P w K mg base 2 "reach" spReach []) (c_count_sum : C8.Cal P w K mg base 4 "count_sum" spCountSum []) (c_mirror_rule : C8.Cal P w K mg base 4 "mirror_rule" spMirror []) (cA_times_ahead : C8.Cal P w K mg base 5 "times_ahead" spTA0 []) : C8.Cal P w K mg base 6 "times_ahead" spTA [] := by
  refine cal_of D sc_times_ahead (fun vs H Q E h => ?_) (fun f cdv A outer s H vs Q E hr h => ?_)
  · obtain ⟨A, B, a, b, st, sp, k, rfl, _⟩ := h
    rfl
  · obtain ⟨A1, B1, a, b, st, sp, k, rfl, T, bst, bsp, k0, k1, le, q⟩ := h
    refine ⟨_, (pss_cons (ps_asg (C8.pe_c c_gap_line hr (by decide) (by rfl) (pa_cons (pv 0) (pa_cons (pv 1) pa_nil))) (pg_tup rfl (pgs_cons (pg_name (i := 4) sc_times_ahead.nd rfl (Or.inl rfl)) (pgs_cons (pg_name (i := 5) sc_times_ahead.nd rfl (Or.inl rfl)) (pgs_cons (pg_name (i := 6) sc_times_ahead.nd rfl (Or.inl rfl)) pgs_nil)))))
    (pss_cons (ps_if (pt_cmpR op_lt (pv 4) pe_int (nomark _))
      (pss_one (ps_ret (C8.pe_c cA_times_ahead hr (by decide) (by rfl) (pa_cons (C8.pe_c c_mirror_rule hr (by decide) (by rfl) (pa_cons (pv 1) pa_nil)) (pa_cons (C8.pe_c c_mirror_rule hr (by decide) (by rfl) (pa_cons (pv 0) pa_nil)) (pa_cons (pe_op op_sub pe_int (pv 3)) (pa_cons (pe_op op_sub pe_int (pv 2)) pa_nil)))))))
      pss_nil)
    (pss_cons (ps_set (i := 7) sc_times_ahead.nd rfl (Or.inl rfl) (C8.pe_c c_reach hr (by decide) (by rfl) (pa_cons (pv 4) (pa_cons (pe_op op_sub pe_int (pv 5)) (pa_cons (pv 2) (pa_cons (pv 3) pa_nil))))))
    (pss_cons (ps_set (i := 8) sc_times_ahead.nd rfl (Or.inl rfl) (C8.pe_c c_reach hr (by decide) (by rfl) (pa_cons (pv 4) (pa_cons (pe_op op_sub (pv 6) (pv 5)) (pa_cons (pv 2) (pa_cons (pv 3) pa_nil))))))
    (pss_one (ps_ret (pe_op op_sub (pe_op op_add (pe_op op_sub (C8.pe_c c_count_sum hr (by decide) (by rfl) (pa_cons (pv 0) (pa_cons (pv 7) (pa_cons (pv 8) pa_nil)))) (C8.pe_c c_count_sum hr (by decide) (by rfl) (pa_cons (pv 1) (pa_cons (pv 7) (pa_cons (pv 8) pa_nil))))) (pv 3)) (pv 8)))))))), ?_⟩
    have aq := T.ra.q1
    have bq := T.rb.q1
    refine ⟨_, rfl, _, rfl, A1, B1, a, b, k, rfl, T, k0, by omega, fun g ng => ?_⟩
    have z1 := sm_upd (o := tup3 (a.p * b.q - b.p * a.q) (a.c * b.q - b.c * a.q) (a.q * b.q)) ng
    refine ⟨g, _, rfl, SqT.of upd_same, rfl, _, _, rfl, _, _, rfl, _, _, rfl, rfl, ?_⟩
    have T1 := T.same z1
    generalize upd H g (tup3 (a.p * b.q - b.p * a.q) (a.c * b.q - b.c * a.q) (a.q * b.q)) = H1 at z1 T1
    refine ⟨_, rfl, _, _, rfl, rfl, _, rfl, ite2 (fun c => ?_) (fun c => ?_)⟩
    · have c : a.p * b.q - b.p * a.q < 0 := of_decide_eq_true c
      refine ⟨_, rfl, B1, _, _, _, k, rfl, T1.eb, T1.rb, fun mb H2 s2 emb rmb => ?_⟩
      have T2 := T1.same s2
      refine ⟨_, rfl, A1, _, _, _, k, rfl, T2.ea, T2.ra, fun ma H3 s3 ema rma => ?_⟩
      have one : Bd (k + 2) (1 : Int) := Bd.small 1 (by decide) (by omega)
      refine ⟨_, rfl, _, _, rfl, rfl, _, rfl, _, _, rfl, rfl, mb, ma, b.mir, a.mir, 1 - sp, 1 - st, k + 3, rfl, ⟨s3 _ _ emb, ema, rmb.mono (by omega), rma.mono (by omega)⟩, Bd.sub one (bsp.mono (by omega)), Bd.sub one (bst.mono (by omega)), by omega, by omega, by omega, ?_, fun H4 s4 => ?_⟩
      · rw [mir_gp]
        omega
      · rw [show (1 - st - (1 - sp)).toNat = (sp - st).toNat by omega, ahead_mir aq bq le]
        exact q H4 (z1.trans (s2.trans (s3.trans s4)))
    have s0 : 0 ≤ a.p * b.q - b.p * a.q := by
      have : ¬ a.p * b.q - b.p * a.q < 0 := fun z => c (decide_eq_true z)
      omega
    have Bs : Bd 9000 (a.p * b.q - b.p * a.q) := (Bd.sub (k := 2 * k) ((Bd.mul T.ra.bp T.rb.bq).mono (by omega)) ((Bd.mul T.rb.bp T.ra.bq).mono (by omega))).mono (by omega)
    refine ⟨_, rfl, _, rfl, _, _, rfl, rfl, _, rfl, _, rfl, _, _, _, _, rfl, s0, Bs, le, fun o ho => ?_⟩
    refine ⟨_, rfl, _, rfl, _, rfl, _, _, rfl, rfl, _, rfl, _, rfl, _, _, _, _, rfl, s0, Bs, le, fun sr hs => ?_⟩
    have bo : Bd k o := bst.mid bsp ho.1 ho.2.1
    have bs : Bd k sr := bst.mid bsp hs.1 hs.2.1
    refine ⟨_, rfl, _, rfl, _, rfl, A1, _, _, _, o, sr, k, rfl, T1.ea, T1.ra, bo, bs, k0, by omega, fun H2 s2 => ?_⟩
    have T2 := T1.same s2
    refine ⟨_, rfl, _, rfl, _, rfl, B1, _, _, _, o, sr, k, rfl, T2.eb, T2.rb, bo, bs, k0, by omega, fun H3 s3 => ?_⟩
    refine ⟨_, _, rfl, rfl, _, rfl, _, _, rfl, rfl, _, rfl, _, _, rfl, rfl, ?_⟩
    have := ahead_eq aq bq le s0 ho hs
    show Q (.int (fs (sr - o).toNat a.p (a.p * o + a.c) a.q - fs (sr - o).toNat b.p (b.p * o + b.c) b.q + sp - sr)) H3
    rw [this]
    exact q H3 (z1.trans (s2.trans s3))
/-! ### compare_counts -/
def spCmp : Sp := fun vs H Q _ => ∃ (A B : Addr) (a b : Rl) (st sp : Int) (k : Nat), vs = [.ref A, .ref B, .int st, .int sp] ∧ Two k A B a b H ∧ Bd k st ∧ Bd k sp ∧ 0 < k ∧ k ≤ 2500 ∧
  ∀ r H', Same H H' → H' r = some (.tup [.int (cB (ldP a b) st (sp - st).toNat), .int ((sp - st).toNat - cB (ldP a b) st (sp - st).toNat - cB (ldP b a) st (sp - st).toNat), .int (cB (ldP b a) st (sp - st).toNat)]) → H r = none → Q (.ref r) H'
abbrev s_compare_counts : Stmt := topS 26
abbrev N_compare_counts : List Str := ["first", "second", "start", "stop", "ahead", "behind"]
abbrev P_compare_counts : List Str := ["first", "second", "start", "stop"]
theorem sc_compare_counts : FnScope N_compare_counts P_compare_counts (defScope s_compare_counts) := ⟨rfl, rfl, rfl, by decide +kernel, rfl, by decide +kernel, by decide +kernel⟩
theorem ok_compare_counts (D : Df K mg "compare_counts" s_compare_counts P_compare_counts) (B : Bi mg) (c_check_rules : C8.Cal P w K mg base 4 "check_rules" spChk2 []) (c_check_range : C8.Cal P w K mg base 3 "check_range" spCheckRange []) (c_times_ahead : C8.Cal P w K mg base 6 "times_ahead" spTA []) : C8.Cal P w K mg base 7 "compare_counts" spCmp [] := by
  refine cal_of D sc_compare_counts (fun vs H Q E h => ?_) (fun f cdv A outer s H vs Q E hr h => ?_)
  · obtain ⟨A, B, a, b, st, sp, k, rfl, _⟩ := h
    rfl
  · obtain ⟨A1, B1, a, b, st, sp, k, rfl, T, bst, bsp, k0, k1, q⟩ := h
    refine ⟨_, (pss_cons (ps_expr (C8.pe_c c_check_rules hr (by decide) (by rfl) (pa_cons (pv 0) (pa_cons (pv 1) pa_nil))))
    (pss_cons (ps_expr (C8.pe_c c_check_range hr (by decide) (by rfl) (pa_cons (pv 2) (pa_cons (pv 3) pa_nil))))
    (pss_cons (ps_set (i := 3) sc_compare_counts.nd rfl (Or.inl rfl) (pe_callB (call_max2 rfl) (by rfl) B.max_ bt_max (pa_cons (pv 2) (pa_cons (pv 3) pa_nil))))
    (pss_cons (ps_set (i := 4) sc_compare_counts.nd rfl (Or.inl rfl) (C8.pe_c c_times_ahead hr (by decide) (by rfl) (pa_cons (pv 0) (pa_cons (pv 1) (pa_cons (pv 2) (pa_cons (pv 3) pa_nil))))))
    (pss_cons (ps_set (i := 5) sc_compare_counts.nd rfl (Or.inl rfl) (C8.pe_c c_times_ahead hr (by decide) (by rfl) (pa_cons (pv 1) (pa_cons (pv 0) (pa_cons (pv 2) (pa_cons (pv 3) pa_nil))))))
    (pss_one (ps_ret (pe_tup (pa_cons (pv 4) (pa_cons (pe_op op_sub (pe_op op_sub (pe_op op_sub (pv 3) (pv 2)) (pv 4)) (pv 5)) (pa_cons (pv 5) pa_nil))))))))))), ?_⟩
    refine ⟨_, rfl, _, rfl, A1, B1, a, b, k, rfl, T, fun H1 s1 => ?_⟩
    have T1 := T.same s1
    refine ⟨_, rfl, _, rfl, st, sp, rfl, ?_⟩
    refine ⟨_, rfl, _, rfl, _, _, rfl, ?_⟩
    have mx : ∃ m : Int, m = (if sp > st then sp else st) ∧ st ≤ m ∧ Bd k m ∧ (m - st).toNat = (sp - st).toNat := by
      by_cases c : sp > st
      · exact ⟨sp, by rw [if_pos c], by omega, bsp, rfl⟩
      · exact ⟨st, by rw [if_neg c], by omega, bst, by omega⟩
    obtain ⟨m, em, m1, bm, mn⟩ := mx
    rw [← em]
    refine ⟨_, rfl, _, rfl, _, rfl, _, rfl, A1, B1, a, b, st, m, k, rfl, T1, bst, bm, k0, k1, m1, fun H2 s2 => ?_⟩
    have T2 := T1.same s2
    refine ⟨_, rfl, _, rfl, _, rfl, _, rfl, B1, A1, b, a, st, m, k, rfl, T2.flip, bst, bm, k0, k1, m1, fun H3 s3 => ?_⟩
    rw [mn]
    refine ⟨_, rfl, _, rfl, _, rfl, _, _, rfl, rfl, _, rfl, _, _, rfl, rfl, _, rfl, _, _, rfl, rfl, _, rfl, len10 (by simp), fun r nr => ?_⟩
    have s13 := s1.trans (s2.trans s3)
    refine q r _ (s13.trans (sm_upd nr)) ?_ ?_
    · rw [upd_same]
      show some (HO.tup [_, .int (m - st - _ - _), _]) = _
      rw [show m - st = ((sp - st).toNat : Int) by omega]
    · cases hh : H r with
      | none => rfl
      | some o =>
        have := s13 _ _ hh
        rw [nr] at this
        cases this
end
end Lf
namespace Lf
open PySem PySem.Spec PyProof.Rows L2
theorem Fst.nn {T : Int → Prop} {x : Int} (h : Fst T (some x)) : 0 ≤ x := h.1
def minO : Option Int → Option Int → Option Int
  | some x, some y => some (if y < x then y else x)
  | some x, none => some x
  | none, o => o
theorem fst_or {T U : Int → Prop} {a b : Option Int} (h : Fst T a) (g : Fst U b) : Fst (fun x => T x ∨ U x) (minO a b) := by
  match a, b, h, g with
  | none, none, h, g => exact fun x x0 z => z.elim (h x x0) (g x x0)
  | some x, none, ⟨x0, hx, h⟩, g => exact ⟨x0, .inl hx, fun y y0 yl z => z.elim (h y y0 yl) (g y y0)⟩
  | none, some x, h, ⟨x0, hx, g⟩ => exact ⟨x0, .inr hx, fun y y0 yl z => z.elim (h y y0) (g y y0 yl)⟩
  | some x, some y, ⟨x0, hx, h⟩, ⟨y0, hy, g⟩ =>
    show Lst (fun x => T x ∨ U x) (if y < x then y else x)
    by_cases c : y < x
    · rw [if_pos c]
      exact ⟨y0, .inr hy, fun z z0 zl k => k.elim (h z z0 (by omega)) (g z z0 zl)⟩
    · rw [if_neg c]
      exact ⟨x0, .inl hx, fun z z0 zl k => k.elim (h z z0 zl) (g z z0 (by omega))⟩
def optL : Option Int → List Int
  | none => []
  | some x => [x]
theorem minV_opt (s : Int) (a b : Option Int) : minV (optL (a.map (s + ·)) ++ optL (b.map (s + ·))) = oV ((minO a b).map (s + ·)) := by
  match a, b with
  | none, none => rfl
  | some x, none => rfl
  | none, some x => rfl
  | some x, some y =>
    show V.int (PySem.W.minOf (s + x) [s + y]) = V.int (s + if y < x then y else x)
    rw [minOf2]
    by_cases c : y < x
    · rw [if_pos (show s + y < s + x by omega), if_pos c]
    · rw [if_neg (show ¬ s + y < s + x by omega), if_neg c]

theorem maxV_opt (s : Int) (a b : Option Int) : maxV (optL (a.map (s - ·)) ++ optL (b.map (s - ·))) = oV ((minO a b).map (s - ·)) := by
  match a, b with
  | none, none => rfl
  | some x, none => rfl
  | none, some x => rfl
  | some x, some y =>
    show V.int (PySem.W.maxOf (s - x) [s - y]) = V.int (s - if y < x then y else x)
    rw [maxOf2]
    by_cases c : y < x
    · rw [if_pos (show s - x < s - y by omega), if_pos c]
    · rw [if_neg (show ¬ s - x < s - y by omega), if_neg c]
theorem ld_ne {a b : Rl} {t : Int} : (1 ≤ Ld a b t ∨ 1 ≤ Ld b a t) ↔ Ld a b t ≠ 0 := by
  rw [ld_swap a b]
  omega
def LeO (a b : Rl) (tm am : Int) (o : Option Int) : Prop := ∀ x, o = some x → x ≤ ((gp a b tm).natAbs : Int) + ((am.natAbs : Int) + 3) * (a.q * b.q)
theorem gap_eq {a b : Rl} {tm am : Int} : (b.p * tm + b.c + 1 + (am - 1) * b.q) * a.q - (a.p * tm + a.c) * b.q = a.q + (am - 1) * (a.q * b.q) - gp a b tm := by
  rw [gp_eq]
  grind
theorem nat_mul {am D : Int} (h : 0 ≤ D) : (am - 1) * D ≤ (am.natAbs : Int) * D := Int.mul_le_mul_of_nonneg_right (by omega) h
section
variable {P : Program} {w : World} {K : PySem.W.Frag} {mg : Str → Option Value} {base : Heap}
/-! ### steps_to_lead -/
def spSteps : Sp := fun vs H Q _ => ∃ (A B : Addr) (a b : Rl) (tm st am : Int) (k j : Nat), vs = [.ref A, .ref B, .int tm, .int st, .int am] ∧ Two k A B a b H ∧ Bd j tm ∧ Bd 1 st ∧ Bd j am ∧ 0 < k ∧ k ≤ j ∧ 3 * k + j ≤ 1980 ∧
  ∀ o H', Same H H' → Fst (fun x => am ≤ Ld a b (tm + st * x)) o → BdO (2 * k + j + 5) o → LeO a b tm am o → Q (oV o) H'
abbrev s_steps_to_lead : Stmt := topS 38
abbrev N_steps_to_lead : List Str := ["first", "second", "time", "step", "amount", "p", "q", "c", "other_p", "other_q", "other_c", "low", "high"]
abbrev P_steps_to_lead : List Str := ["first", "second", "time", "step", "amount"]
theorem sc_steps_to_lead : FnScope N_steps_to_lead P_steps_to_lead (defScope s_steps_to_lead) := ⟨rfl, rfl, rfl, by decide +kernel, rfl, by decide +kernel, by decide +kernel⟩
theorem ok_steps_to_lead (D : Df K mg "steps_to_lead" s_steps_to_lead P_steps_to_lead) (c_first_between : C8.Cal P w K mg base 4 "first_between" spFB []) : C8.Cal P w K mg base 5 "steps_to_lead" spSteps [] := by
  refine cal_of D sc_steps_to_lead (fun vs H Q E h => ?_) (fun f cdv A outer s H vs Q E hr h => ?_)
  · obtain ⟨A, B, a, b, tm, st, am, k, j, rfl, _⟩ := h
    rfl
  · obtain ⟨A1, B1, a, b, tm, st, am, k, j, rfl, T, bt, bst, bam, k0, kj, k1, q⟩ := h
    have j0 : 0 < j := by omega
    refine ⟨_, (pss_cons (ps_asg (pv 0) (pg_tup rfl (pgs_cons (pg_name (i := 5) sc_steps_to_lead.nd rfl (Or.inl rfl)) (pgs_cons (pg_name (i := 6) sc_steps_to_lead.nd rfl (Or.inl rfl)) (pgs_cons (pg_name (i := 7) sc_steps_to_lead.nd rfl (Or.inl rfl)) pgs_nil)))))
    (pss_cons (ps_asg (pv 1) (pg_tup rfl (pgs_cons (pg_name (i := 8) sc_steps_to_lead.nd rfl (Or.inl rfl)) (pgs_cons (pg_name (i := 9) sc_steps_to_lead.nd rfl (Or.inl rfl)) (pgs_cons (pg_name (i := 10) sc_steps_to_lead.nd rfl (Or.inl rfl)) pgs_nil)))))
    (pss_cons (ps_set (i := 11) sc_steps_to_lead.nd rfl (Or.inl rfl) (pe_tup (pa_cons (pe_op op_mulW (pv 3) (pv 8)) (pa_cons (pe_op op_add (pe_op op_add (pe_op op_add (pe_op op_mulW (pv 8) (pv 2)) (pv 10)) pe_int) (pe_op op_mulW (pe_op op_sub (pv 4) pe_int) (pv 9))) (pa_cons (pv 9) pa_nil)))))
    (pss_cons (ps_set (i := 12) sc_steps_to_lead.nd rfl (Or.inl rfl) (pe_tup (pa_cons (pe_op op_mulW (pv 3) (pv 5)) (pa_cons (pe_op op_add (pe_op op_mulW (pv 5) (pv 2)) (pv 7)) (pa_cons (pv 6) pa_nil)))))
    (pss_one (ps_ret (C8.pe_c c_first_between hr (by decide) (by rfl) (pa_cons (pv 11) (pa_cons (pv 12) pa_nil))))))))), ?_⟩
    have aq := T.ra.q1
    have bq := T.rb.q1
    refine ⟨_, rfl, A1, _, rfl, SqT.of T.ea, rfl, _, _, rfl, _, _, rfl, _, _, rfl, rfl, ?_⟩
    refine ⟨_, rfl, B1, _, rfl, SqT.of T.eb, rfl, _, _, rfl, _, _, rfl, _, _, rfl, rfl, ?_⟩
    have am1 : Bd (j + 1) (am - 1) := Bd.sub bam (Bd.small 1 (by decide) j0)
    refine ⟨_, rfl, _, rfl, _, _, rfl, rfl, mulW bst T.rb.bp (by decide) k0 (by omega), _, rfl, _, rfl, _, _, rfl, rfl, mulW T.rb.bp bt k0 j0 (by omega), _, rfl, _, _, rfl, rfl, _, _, rfl, rfl, _, rfl, _, _, rfl, rfl, _, rfl, _, _, rfl, rfl, mulW am1 T.rb.bq (by omega) k0 (by omega), _, _, rfl, rfl, _, rfl, len10 (by simp), fun l1 n1 => ?_⟩
    have x1 := sm_upd (o := tp3 (st * b.p) (b.p * tm + b.c + 1 + (am - 1) * b.q) b.q) n1
    refine ⟨_, rfl, _, rfl, _, _, rfl, rfl, mulW bst T.ra.bp (by decide) k0 (by omega), _, rfl, _, rfl, _, _, rfl, rfl, mulW T.ra.bp bt k0 j0 (by omega), _, rfl, _, _, rfl, rfl, _, rfl, len10 (by simp), fun l2 n2 => ?_⟩
    have x2 := sm_upd (o := tp3 (st * a.p) (a.p * tm + a.c) a.q) n2
    have b1 : Bd (k + 1) (st * b.p) := (Bd.mul bst T.rb.bp).mono (by omega)
    have b2 : Bd (k + 1) (st * a.p) := (Bd.mul bst T.ra.bp).mono (by omega)
    have c1 : Bd (k + j + 3) (b.p * tm + b.c + 1 + (am - 1) * b.q) := Bd.add (k := k + j + 2) (Bd.add (k := k + j + 1) (Bd.add (k := k + j) (Bd.mul T.rb.bp bt) (T.rb.bc.mono (by omega))) (Bd.small 1 (by decide) (by omega))) ((Bd.mul am1 T.rb.bq).mono (by omega))
    have c2 : Bd (k + j + 3) (a.p * tm + a.c) := (Bd.add (k := k + j) (Bd.mul T.ra.bp bt) (T.ra.bc.mono (by omega))).mono (by omega)
    have ii : ∀ x, 0 ≤ x → (Ib (st * b.p) (b.p * tm + b.c + 1 + (am - 1) * b.q) b.q (st * a.p) (a.p * tm + a.c) a.q x ↔ am ≤ Ld a b (tm + st * x)) := fun x _ => (ld_ib aq bq).symm
    have go : ∀ o : Option Int, Fst (Ib (st * b.p) (b.p * tm + b.c + 1 + (am - 1) * b.q) b.q (st * a.p) (a.p * tm + a.c) a.q) o → Fst (fun x => am ≤ Ld a b (tm + st * x)) o ∧ BdO (2 * k + j + 5) o ∧ LeO a b tm am o := fun o h => by
      have ge := gap_eq (a := a) (b := b) (tm := tm) (am := am)
      suffices hs : ∀ x, o = some x → Bd (2 * k + j + 5) x ∧ x ≤ ((gp a b tm).natAbs : Int) + ((am.natAbs : Int) + 3) * (a.q * b.q) from ⟨h.iff ii, fun x e => (hs x e).1, fun x e => (hs x e).2⟩
      intro x e
      subst e
      have lb := lst_ib_bd bq aq h
      have x0 := h.nn
      have g1' : Bd (2 * k + j + 4) ((b.p * tm + b.c + 1 + (am - 1) * b.q) * a.q - (a.p * tm + a.c) * b.q) := Bd.sub (k := 2 * k + j + 3) ((Bd.mul c1 T.ra.bq).mono (by omega)) ((Bd.mul c2 T.rb.bq).mono (by omega))
      have g2 : Bd (2 * k + j + 4) (b.q * a.q) := (Bd.mul T.rb.bq T.ra.bq).mono (by omega)
      have mn := one_le_mul bq aq
      have aD : a.q ≤ b.q * a.q := by
        have := Int.mul_le_mul_of_nonneg_right bq (show 0 ≤ a.q by omega)
        omega
      have am2 := nat_mul (am := am) (D := b.q * a.q) (by omega)
      rw [Int.mul_comm a.q b.q, Int.add_mul]
      rw [ge] at lb g1'
      by_cases z : (b.p * tm + b.c + 1 + (am - 1) * b.q) * a.q ≤ (a.p * tm + a.c) * b.q
      · rw [if_pos z] at lb
        have am0 := Int.mul_nonneg (show 0 ≤ (am.natAbs : Int) by omega) (show 0 ≤ b.q * a.q by omega)
        exact ⟨(g2.between x0 (by omega)).mono (by omega), by omega⟩
      · rw [if_neg z] at lb
        rw [Int.mul_comm a.q b.q] at lb g1'
        refine ⟨(Bd.add g1' g2).between x0 (by omega), ?_⟩
        omega
    refine ⟨_, rfl, _, rfl, l1, l2, st * b.p, b.p * tm + b.c + 1 + (am - 1) * b.q, b.q, st * a.p, a.p * tm + a.c, a.q, k + 1, k + j + 3, rfl, x2 _ _ upd_same, upd_same, bq, aq, b1, c1, T.rb.bq.mono (by omega), b2, c2, T.ra.bq.mono (by omega), by omega, by omega, by omega, .inr (by omega), fun x H2 s2 hx => ?_, fun hx H2 s2 => ?_⟩
    · obtain ⟨h1, h2, h3⟩ := go (some x) hx
      exact q (some x) _ ((x1.trans x2).trans s2) h1 h2 h3
    · obtain ⟨h1, h2, h3⟩ := go none hx
      exact q none _ ((x1.trans x2).trans s2) h1 h2 h3
/-! ### first_lead, last_lead -/
def spFL : Sp := fun vs H Q _ => ∃ (A B : Addr) (a b : Rl) (st am : Int) (k j : Nat), vs = [.ref A, .ref B, .int st, .int am] ∧ Two k A B a b H ∧ Bd j st ∧ Bd j am ∧ 0 < k ∧ k ≤ j ∧ 3 * k + j ≤ 1980 ∧
  ∀ o H', Same H H' → Fst (fun x => am ≤ Ld a b (st + x)) o → BdO (2 * k + j + 5) o → LeO a b st am o → Q (oV (o.map (st + ·))) H'
abbrev s_first_lead : Stmt := topS 27
abbrev N_first_lead : List Str := ["first", "second", "start", "amount", "steps"]
abbrev P_first_lead : List Str := ["first", "second", "start", "amount"]
theorem sc_first_lead : FnScope N_first_lead P_first_lead (defScope s_first_lead) := ⟨rfl, rfl, rfl, by decide +kernel, rfl, by decide +kernel, by decide +kernel⟩
theorem ok_first_lead (D : Df K mg "first_lead" s_first_lead P_first_lead) (c_check_rules : C8.Cal P w K mg base 4 "check_rules" spChk2 []) (c_check_integer : C8.Cal P w K mg base 2 "check_integer" spCheckInt []) (c_steps_to_lead : C8.Cal P w K mg base 5 "steps_to_lead" spSteps []) : C8.Cal P w K mg base 6 "first_lead" spFL [] := by
  refine cal_of D sc_first_lead (fun vs H Q E h => ?_) (fun f cdv A outer s H vs Q E hr h => ?_)
  · obtain ⟨A, B, a, b, st, am, k, j, rfl, _⟩ := h
    rfl
  · obtain ⟨A1, B1, a, b, st, am, k, j, rfl, T, bst, bam, k0, kj, k1, q⟩ := h
    refine ⟨_, (pss_cons (ps_expr (C8.pe_c c_check_rules hr (by decide) (by rfl) (pa_cons (pv 0) (pa_cons (pv 1) pa_nil))))
    (pss_cons (ps_expr (C8.pe_c c_check_integer hr (by decide) (by rfl) (pa_cons (pv 2) pa_nil)))
    (pss_cons (ps_expr (C8.pe_c c_check_integer hr (by decide) (by rfl) (pa_cons (pv 3) pa_nil)))
    (pss_cons (ps_set (i := 4) sc_first_lead.nd rfl (Or.inl rfl) (C8.pe_c c_steps_to_lead hr (by decide) (by rfl) (pa_cons (pv 0) (pa_cons (pv 1) (pa_cons (pv 2) (pa_cons pe_int (pa_cons (pv 3) pa_nil)))))))
    (pss_cons (ps_if (pt_cmpR op_isN (pv 4) pe_non (nomark _))
      (pss_one (ps_ret pe_non))
      pss_nil)
    (pss_one (ps_ret (pe_op op_add (pv 2) (pv 4))))))))), ?_⟩
    refine ⟨_, rfl, _, rfl, A1, B1, a, b, k, rfl, T, fun H1 s1 => ?_⟩
    refine ⟨_, rfl, st, rfl, _, rfl, am, rfl, ?_⟩
    refine ⟨_, rfl, _, rfl, _, rfl, _, rfl, A1, B1, a, b, st, 1, am, k, j, rfl, T.same s1, bst, Bd.small 1 (by decide) (by decide), bam, k0, kj, k1, fun o H2 s2 ho bo le => ?_⟩
    have ho : Fst (fun x => am ≤ Ld a b (st + x)) o := ho.iff fun x _ => by rw [Int.one_mul]
    match o, ho, bo, le with
    | none, ho, bo, le => exact ⟨_, rfl, rfl, _, rfl, iteT (q none _ (s1.trans s2) ho bo le)⟩
    | some x, ho, bo, le => exact ⟨_, rfl, rfl, _, rfl, iteF ⟨_, rfl, _, rfl, _, _, rfl, rfl, q (some x) _ (s1.trans s2) ho bo le⟩⟩
def spLL : Sp := fun vs H Q _ => ∃ (A B : Addr) (a b : Rl) (sp am : Int) (k j : Nat), vs = [.ref A, .ref B, .int sp, .int am] ∧ Two k A B a b H ∧ Bd j sp ∧ Bd j am ∧ 0 < k ∧ k ≤ j ∧ 3 * k + j ≤ 1970 ∧
  ∀ o H', Same H H' → Fst (fun x => am ≤ Ld a b (sp - 1 - x)) o → BdO (2 * k + j + 6) o → Q (oV (o.map (sp - 1 - ·))) H'
abbrev s_last_lead : Stmt := topS 28
abbrev N_last_lead : List Str := ["first", "second", "stop", "amount", "steps"]
abbrev P_last_lead : List Str := ["first", "second", "stop", "amount"]
theorem sc_last_lead : FnScope N_last_lead P_last_lead (defScope s_last_lead) := ⟨rfl, rfl, rfl, by decide +kernel, rfl, by decide +kernel, by decide +kernel⟩
theorem ok_last_lead (D : Df K mg "last_lead" s_last_lead P_last_lead) (c_check_rules : C8.Cal P w K mg base 4 "check_rules" spChk2 []) (c_check_integer : C8.Cal P w K mg base 2 "check_integer" spCheckInt []) (c_steps_to_lead : C8.Cal P w K mg base 5 "steps_to_lead" spSteps []) : C8.Cal P w K mg base 6 "last_lead" spLL [] := by
  refine cal_of D sc_last_lead (fun vs H Q E h => ?_) (fun f cdv A outer s H vs Q E hr h => ?_)
  · obtain ⟨A, B, a, b, sp, am, k, j, rfl, _⟩ := h
    rfl
  · obtain ⟨A1, B1, a, b, sp, am, k, j, rfl, T, bst, bam, k0, kj, k1, q⟩ := h
    refine ⟨_, (pss_cons (ps_expr (C8.pe_c c_check_rules hr (by decide) (by rfl) (pa_cons (pv 0) (pa_cons (pv 1) pa_nil))))
    (pss_cons (ps_expr (C8.pe_c c_check_integer hr (by decide) (by rfl) (pa_cons (pv 2) pa_nil)))
    (pss_cons (ps_expr (C8.pe_c c_check_integer hr (by decide) (by rfl) (pa_cons (pv 3) pa_nil)))
    (pss_cons (ps_set (i := 4) sc_last_lead.nd rfl (Or.inl rfl) (C8.pe_c c_steps_to_lead hr (by decide) (by rfl) (pa_cons (pv 0) (pa_cons (pv 1) (pa_cons (pe_op op_sub (pv 2) pe_int) (pa_cons (pe_un un_neg pe_int) (pa_cons (pv 3) pa_nil)))))))
    (pss_cons (ps_if (pt_cmpR op_isN (pv 4) pe_non (nomark _))
      (pss_one (ps_ret pe_non))
      pss_nil)
    (pss_one (ps_ret (pe_op op_sub (pe_op op_sub (pv 2) pe_int) (pv 4))))))))), ?_⟩
    refine ⟨_, rfl, _, rfl, A1, B1, a, b, k, rfl, T, fun H1 s1 => ?_⟩
    refine ⟨_, rfl, sp, rfl, _, rfl, am, rfl, ?_⟩
    refine ⟨_, rfl, _, rfl, _, rfl, _, _, rfl, rfl, _, rfl, _, rfl, A1, B1, a, b, sp - 1, -1, am, k, j + 1, rfl, T.same s1, Bd.sub bst (Bd.small 1 (by decide) (by omega)), Bd.small 1 (by decide) (by decide), bam.mono (by omega), k0, by omega, by omega, fun o H2 s2 ho bo _ => ?_⟩
    have ho : Fst (fun x => am ≤ Ld a b (sp - 1 - x)) o := ho.iff fun x _ => by rw [show sp - 1 + -1 * x = sp - 1 - x by omega]
    match o, ho, bo with
    | none, ho, bo => exact ⟨_, rfl, rfl, _, rfl, iteT (q none _ (s1.trans s2) ho bo)⟩
    | some x, ho, bo => exact ⟨_, rfl, rfl, _, rfl, iteF ⟨_, rfl, _, _, rfl, rfl, _, rfl, _, _, rfl, rfl, q (some x) _ (s1.trans s2) ho bo⟩⟩
/-! ### first_difference, last_difference -/
def spFD : Sp := fun vs H Q _ => ∃ (A B : Addr) (a b : Rl) (st : Int) (k : Nat), vs = [.ref A, .ref B, .int st] ∧ Two k A B a b H ∧ Bd k st ∧ 0 < k ∧ k ≤ 490 ∧
  ∀ o H', Same H H' → Fst (fun x => Ld a b (st + x) ≠ 0) o → Q (oV (o.map (st + ·))) H'
abbrev s_first_difference : Stmt := topS 30
abbrev N_first_difference : List Str := ["first", "second", "start", "times", "time"]
abbrev P_first_difference : List Str := ["first", "second", "start"]
theorem sc_first_difference : FnScope N_first_difference P_first_difference (defScope s_first_difference) := ⟨rfl, rfl, rfl, by decide +kernel, rfl, by decide +kernel, by decide +kernel⟩
theorem ok_first_difference (D : Df K mg "first_difference" s_first_difference P_first_difference) (B : Bi mg) (c_first_lead : C8.Cal P w K mg base 6 "first_lead" spFL []) : C8.Cal P w K mg base 7 "first_difference" spFD [] := by
  refine cal_of D sc_first_difference (fun vs H Q E h => ?_) (fun f cdv A outer s H vs Q E hr h => ?_)
  · obtain ⟨A, B, a, b, st, k, rfl, _⟩ := h
    rfl
  · obtain ⟨A1, B1, a, b, st, k, rfl, T, bst, k0, k1, q⟩ := h
    have hu := hu_of hr
    have hu1 : (A.deeper (envOfC "first_difference" (defScope s_first_difference) s.heap.objs.size f cdv)).units + 1 < cLine := by
      have := hr.un
      omega
    refine ⟨_, (pss_cons (ps_set (i := 3) sc_first_difference.nd rfl (Or.inl rfl) (pe_lst (pa_cons (C8.pe_c c_first_lead hr (by decide) (by rfl) (pa_cons (pv 0) (pa_cons (pv 1) (pa_cons (pv 2) (pa_cons pe_int pa_nil))))) (pa_cons (C8.pe_c c_first_lead hr (by decide) (by rfl) (pa_cons (pv 1) (pa_cons (pv 0) (pa_cons (pv 2) (pa_cons pe_int pa_nil))))) pa_nil))))
    (pss_one (ps_ret (pe_callBK (cr_minD rfl hu1) (by rfl) B.min_ bt_min (pa_cons (pe_lc (own := [("time", 4)]) (g := (gName 4)) (by rfl) sc_first_difference.nd (pi_list (pv 3)) (blkOk_by (own := [("time", 4)]) (N := N_first_difference) (sc := defScope s_first_difference) (by decide +kernel)) (fun _ _ _ _ _ => (pg_name (i := 4) sc_first_difference.nd rfl (Or.inl rfl))) (fun _ _ _ _ _ => (pts_one (pt_cmpR op_notN (pv 4) pe_non (nomark _)))) (fun _ _ _ _ _ => (pv 4))) pa_nil) (pk_cons pe_non pk_nil))))), ?_⟩
    have b1 : Bd k (1 : Int) := Bd.small 1 (by decide) k0
    refine ⟨_, rfl, _, rfl, _, rfl, A1, B1, a, b, st, 1, k, k, rfl, T, bst, b1, k0, Nat.le_refl _, by omega, fun o1 H1 s1 h1 _ _ => ?_⟩
    refine ⟨_, rfl, _, rfl, _, rfl, B1, A1, b, a, st, 1, k, k, rfl, (T.same s1).flip, bst, b1, k0, Nat.le_refl _, by omega, fun o2 H2 s2 h2 _ _ => ⟨len10 (by simp), fun l nl => ?_⟩⟩
    have z := sm_upd (o := .lst [oV (o1.map (st + ·)), oV (o2.map (st + ·))]) nl
    have el : upd H2 l (.lst [oV (o1.map (st + ·)), oV (o2.map (st + ·))]) l = some (.lst [oV (o1.map (st + ·)), oV (o2.map (st + ·))]) := upd_same
    generalize upd H2 l (.lst [oV (o1.map (st + ·)), oV (o2.map (st + ·))]) = H3 at z el
    refine ⟨_, rfl, l, rfl, ⟨_, SqL.of el⟩, fun L nL => ?_⟩
    have keep : ∀ {H' : Hp}, Same H3 H' → ∀ {b : List V} {i : Int}, Same H3 (upd H' L (.lst (b ++ [.int i]))) := fun s' b i y o ey => by
      rw [upd_ne (ne_of_none ey nL)]
      exact s' _ _ ey
    refine lc_list (K := K) (a := l) (xs := [oV (o1.map (st + ·)), oV (o2.map (st + ·))]) (fun j H' => Same H3 H' ∧ H' L = some (.lst (((if 0 < j then optL (o1.map (st + ·)) else []) ++ (if 1 < j then optL (o2.map (st + ·)) else [])).map V.int))) ⟨sm_upd nL, upd_same⟩ ?_ ?_ ?_
    · rintro j H' _ ⟨s', _⟩
      exact SqL.of (s' _ _ el)
    · rintro j x H' hx ⟨s', eL⟩
      match j, hx with
      | 0, hx =>
        cases hx
        cases o1 with
        | none => exact ⟨rfl, _, rfl, rfl, _, rfl, iteF ⟨s', eL⟩⟩
        | some y => exact ⟨rfl, _, rfl, rfl, _, rfl, iteT ⟨_, rfl, _, eL, small1000 (by simp), keep s', upd_same⟩⟩
      | 1, hx =>
        cases hx
        cases o2 with
        | none => exact ⟨rfl, _, rfl, rfl, _, rfl, iteF ⟨s', eL⟩⟩
        | some y => exact ⟨rfl, _, rfl, rfl, _, rfl, iteT ⟨_, rfl, _, eL, small1000 (by cases o1 <;> simp [optL]), keep s', by rw [upd_same]; cases o1 <;> rfl⟩⟩
    rintro H5 ⟨s5, eL⟩
    have eL : H5 L = some (.lst ((optL (o1.map (st + ·)) ++ optL (o2.map (st + ·))).map V.int)) := eL
    refine ⟨L, _, rfl, rfl, SqL.of eL, ?_⟩
    rw [minV_opt]
    exact q _ _ (s1.trans (s2.trans (z.trans s5))) ((fst_or h1 h2).iff fun x _ => ld_ne)
def spLD : Sp := fun vs H Q _ => ∃ (A B : Addr) (a b : Rl) (st : Int) (k : Nat), vs = [.ref A, .ref B, .int st] ∧ Two k A B a b H ∧ Bd k st ∧ 0 < k ∧ k ≤ 490 ∧
  ∀ o H', Same H H' → Fst (fun x => Ld a b (st - 1 - x) ≠ 0) o → Q (oV (o.map (st - 1 - ·))) H'
abbrev s_last_difference : Stmt := topS 31
abbrev N_last_difference : List Str := ["first", "second", "stop", "times", "time"]
abbrev P_last_difference : List Str := ["first", "second", "stop"]
theorem sc_last_difference : FnScope N_last_difference P_last_difference (defScope s_last_difference) := ⟨rfl, rfl, rfl, by decide +kernel, rfl, by decide +kernel, by decide +kernel⟩
theorem ok_last_difference (D : Df K mg "last_difference" s_last_difference P_last_difference) (B : Bi mg) (c_last_lead : C8.Cal P w K mg base 6 "last_lead" spLL []) : C8.Cal P w K mg base 7 "last_difference" spLD [] := by
  refine cal_of D sc_last_difference (fun vs H Q E h => ?_) (fun f cdv A outer s H vs Q E hr h => ?_)
  · obtain ⟨A, B, a, b, st, k, rfl, _⟩ := h
    rfl
  · obtain ⟨A1, B1, a, b, st, k, rfl, T, bst, k0, k1, q⟩ := h
    have hu := hu_of hr
    have hu1 : (A.deeper (envOfC "last_difference" (defScope s_last_difference) s.heap.objs.size f cdv)).units + 1 < cLine := by
      have := hr.un
      omega
    refine ⟨_, (pss_cons (ps_set (i := 3) sc_last_difference.nd rfl (Or.inl rfl) (pe_lst (pa_cons (C8.pe_c c_last_lead hr (by decide) (by rfl) (pa_cons (pv 0) (pa_cons (pv 1) (pa_cons (pv 2) (pa_cons pe_int pa_nil))))) (pa_cons (C8.pe_c c_last_lead hr (by decide) (by rfl) (pa_cons (pv 1) (pa_cons (pv 0) (pa_cons (pv 2) (pa_cons pe_int pa_nil))))) pa_nil))))
    (pss_one (ps_ret (pe_callBK (cr_maxD rfl hu1) (by rfl) B.max_ bt_max (pa_cons (pe_lc (own := [("time", 4)]) (g := (gName 4)) (by rfl) sc_last_difference.nd (pi_list (pv 3)) (blkOk_by (own := [("time", 4)]) (N := N_last_difference) (sc := defScope s_last_difference) (by decide +kernel)) (fun _ _ _ _ _ => (pg_name (i := 4) sc_last_difference.nd rfl (Or.inl rfl))) (fun _ _ _ _ _ => (pts_one (pt_cmpR op_notN (pv 4) pe_non (nomark _)))) (fun _ _ _ _ _ => (pv 4))) pa_nil) (pk_cons pe_non pk_nil))))), ?_⟩
    have b1 : Bd k (1 : Int) := Bd.small 1 (by decide) k0
    refine ⟨_, rfl, _, rfl, _, rfl, A1, B1, a, b, st, 1, k, k, rfl, T, bst, b1, k0, Nat.le_refl _, by omega, fun o1 H1 s1 h1 _ => ?_⟩
    refine ⟨_, rfl, _, rfl, _, rfl, B1, A1, b, a, st, 1, k, k, rfl, (T.same s1).flip, bst, b1, k0, Nat.le_refl _, by omega, fun o2 H2 s2 h2 _ => ⟨len10 (by simp), fun l nl => ?_⟩⟩
    have z := sm_upd (o := .lst [oV (o1.map (st - 1 - ·)), oV (o2.map (st - 1 - ·))]) nl
    have el : upd H2 l (.lst [oV (o1.map (st - 1 - ·)), oV (o2.map (st - 1 - ·))]) l = some (.lst [oV (o1.map (st - 1 - ·)), oV (o2.map (st - 1 - ·))]) := upd_same
    generalize upd H2 l (.lst [oV (o1.map (st - 1 - ·)), oV (o2.map (st - 1 - ·))]) = H3 at z el
    refine ⟨_, rfl, l, rfl, ⟨_, SqL.of el⟩, fun L nL => ?_⟩
    have keep : ∀ {H' : Hp}, Same H3 H' → ∀ {b : List V} {i : Int}, Same H3 (upd H' L (.lst (b ++ [.int i]))) := fun s' b i y o ey => by
      rw [upd_ne (ne_of_none ey nL)]
      exact s' _ _ ey
    refine lc_list (K := K) (a := l) (xs := [oV (o1.map (st - 1 - ·)), oV (o2.map (st - 1 - ·))]) (fun j H' => Same H3 H' ∧ H' L = some (.lst (((if 0 < j then optL (o1.map (st - 1 - ·)) else []) ++ (if 1 < j then optL (o2.map (st - 1 - ·)) else [])).map V.int))) ⟨sm_upd nL, upd_same⟩ ?_ ?_ ?_
    · rintro j H' _ ⟨s', _⟩
      exact SqL.of (s' _ _ el)
    · rintro j x H' hx ⟨s', eL⟩
      match j, hx with
      | 0, hx =>
        cases hx
        cases o1 with
        | none => exact ⟨rfl, _, rfl, rfl, _, rfl, iteF ⟨s', eL⟩⟩
        | some y => exact ⟨rfl, _, rfl, rfl, _, rfl, iteT ⟨_, rfl, _, eL, small1000 (by simp), keep s', upd_same⟩⟩
      | 1, hx =>
        cases hx
        cases o2 with
        | none => exact ⟨rfl, _, rfl, rfl, _, rfl, iteF ⟨s', eL⟩⟩
        | some y => exact ⟨rfl, _, rfl, rfl, _, rfl, iteT ⟨_, rfl, _, eL, small1000 (by cases o1 <;> simp [optL]), keep s', by rw [upd_same]; cases o1 <;> rfl⟩⟩
    rintro H5 ⟨s5, eL⟩
    have eL : H5 L = some (.lst ((optL (o1.map (st - 1 - ·)) ++ optL (o2.map (st - 1 - ·))).map V.int)) := eL
    refine ⟨L, _, rfl, rfl, SqL.of eL, ?_⟩
    rw [maxV_opt]
    exact q _ _ (s1.trans (s2.trans (z.trans s5))) ((fst_or h1 h2).iff fun x _ => ld_ne)
/-! ### greatest_lead, lead_range -/
def MxL (a b : Rl) (st sp M : Int) : Prop := (∃ t, st ≤ t ∧ t < sp ∧ Ld a b t = M) ∧ ∀ t, st ≤ t → t < sp → Ld a b t ≤ M
theorem top_near {a b : Rl} {st sp top t : Int} (ha : 1 ≤ a.q) (hb : 1 ≤ b.q) (h1 : Ld a b st ≤ top) (h2 : Ld a b (sp - 1) ≤ top) (t1 : st ≤ t) (t2 : t < sp) : Ld a b t ≤ top + 1 := by
  refine Int.not_lt.mp fun z => ?_
  have g := gp_gt ha hb (show top + 2 ≤ Ld a b t by omega)
  have e1 : gp a b st < (top + 1) * (a.q * b.q) := Int.not_le.mp fun y => by
    have := ld_ge ha hb y
    omega
  have e2 : gp a b (sp - 1) < (top + 1) * (a.q * b.q) := Int.not_le.mp fun y => by
    have := ld_ge ha hb y
    omega
  rw [show top + 2 - 1 = top + 1 by omega] at g
  unfold gp at g e1 e2
  rcases Int.lt_or_le (a.p * b.q - b.p * a.q) 0 with y | y
  · have := Int.mul_le_mul_of_nonpos_left (show a.p * b.q - b.p * a.q ≤ 0 by omega) t1
    omega
  · have := Int.mul_le_mul_of_nonneg_left (show t ≤ sp - 1 by omega) y
    omega
def spGL : Sp := fun vs H Q _ => ∃ (A B : Addr) (a b : Rl) (st sp : Int) (k : Nat), vs = [.ref A, .ref B, .int st, .int sp] ∧ Two k A B a b H ∧ Bd k st ∧ Bd k sp ∧ 0 < k ∧ k ≤ 390 ∧ st < sp ∧ ∀ M H', Same H H' → MxL a b st sp M → Q (.int M) H'
abbrev s_greatest_lead : Stmt := topS 39
abbrev N_greatest_lead : List Str := ["first", "second", "start", "stop", "top", "higher", "time"]
abbrev P_greatest_lead : List Str := ["first", "second", "start", "stop"]
theorem sc_greatest_lead : FnScope N_greatest_lead P_greatest_lead (defScope s_greatest_lead) := ⟨rfl, rfl, rfl, by decide +kernel, rfl, by decide +kernel, by decide +kernel⟩
theorem ok_greatest_lead (D : Df K mg "greatest_lead" s_greatest_lead P_greatest_lead) (B : Bi mg) (c_count : C8.Cal P w K mg base 4 "count" spCount []) (c_first_lead : C8.Cal P w K mg base 6 "first_lead" spFL []) : C8.Cal P w K mg base 7 "greatest_lead" spGL [] := by
  refine cal_of D sc_greatest_lead (fun vs H Q E h => ?_) (fun f cdv A outer s H vs Q E hr h => ?_)
  · obtain ⟨A, B, a, b, st, sp, k, rfl, _⟩ := h
    rfl
  · obtain ⟨A1, B1, a, b, st, sp, k, rfl, T, bst, bsp, k0, k1, le, q⟩ := h
    refine ⟨_, (pss_cons (ps_set (i := 4) sc_greatest_lead.nd rfl (Or.inl rfl) (pe_callB (cr_max rfl) (by rfl) B.max_ bt_max (pa_cons (pe_lc (own := [("time", 6)]) (g := (gName 6)) (by rfl) sc_greatest_lead.nd (pi_tup (pe_tup (pa_cons (pv 2) (pa_cons (pe_op op_sub (pv 3) pe_int) pa_nil)))) (blkOk_by (own := [("time", 6)]) (N := N_greatest_lead) (sc := defScope s_greatest_lead) (by decide +kernel)) (fun _ _ _ _ _ => (pg_name (i := 6) sc_greatest_lead.nd rfl (Or.inl rfl))) (fun _ _ _ _ _ => pts_nil) (fun _ _ _ _ _ => (pe_op op_sub (C8.pe_c c_count hr (by decide) (by rfl) (pa_cons (pv 0) (pa_cons (pv 6) pa_nil))) (C8.pe_c c_count hr (by decide) (by rfl) (pa_cons (pv 1) (pa_cons (pv 6) pa_nil)))))) pa_nil)))
    (pss_cons (ps_set (i := 5) sc_greatest_lead.nd rfl (Or.inl rfl) (C8.pe_c c_first_lead hr (by decide) (by rfl) (pa_cons (pv 0) (pa_cons (pv 1) (pa_cons (pv 2) (pa_cons (pe_op op_add (pv 4) pe_int) pa_nil))))))
    (pss_one (ps_ret (pe_ifExp (PW.pt (pw_or (pt_cmpR op_isN (pv 5) pe_non (nomark _)) (pw_or1 (pt_cmpR op_ge (pv 5) (pv 3) (nomark _))))) (pv 4) (pe_op op_add (pv 4) pe_int)))))), ?_⟩
    have aq := T.ra.q1
    have bq := T.rb.q1
    refine ⟨_, rfl, _, rfl, _, _, rfl, rfl, len10 (by simp), fun tq nt => ?_⟩
    have z1 := sm_upd (o := .tup [.int st, .int (sp - 1)]) nt
    have et : upd H tq (.tup [.int st, .int (sp - 1)]) tq = some (.tup [.int st, .int (sp - 1)]) := upd_same
    refine ⟨tq, rfl, ⟨_, SqT.of upd_same⟩, ?_⟩
    generalize upd H tq (.tup [.int st, .int (sp - 1)]) = H1 at z1 et
    have T1 := T.same z1
    refine fun L nL => ?_
    refine lc_tup (K := K) (a := tq) (xs := [.int st, .int (sp - 1)]) (fun j H' => Same H1 H' ∧ H' L = some (.lst ((([Ld a b st, Ld a b (sp - 1)].take j)).map V.int))) ⟨sm_upd nL, upd_same⟩ ?_ ?_ ?_
    · rintro j H' _ ⟨s', _⟩
      exact SqT.of (s' _ _ et)
    · rintro j x H' hx ⟨s', eL⟩
      obtain ⟨u, rfl, bu, hu⟩ : ∃ u, x = .int u ∧ Bd (k + 1) u ∧ [Ld a b st, Ld a b (sp - 1)][j]? = some (Ld a b u) := by
        match j, hx with
        | 0, hx => cases hx; exact ⟨_, rfl, bst.mono (by omega), rfl⟩
        | 1, hx => cases hx; exact ⟨_, rfl, Bd.sub bsp (Bd.small 1 (by decide) k0), rfl⟩
      have T2 := T1.same s'
      refine ⟨rfl, _, rfl, _, rfl, A1, _, _, _, u, k + 1, rfl, T2.ea, T2.ra.mono (by omega), bu, by omega, by omega, fun H3 s3 => ?_⟩
      have T3 := T2.same s3
      refine ⟨_, rfl, _, rfl, B1, _, _, _, u, k + 1, rfl, T3.eb, T3.rb.mono (by omega), bu, by omega, by omega, fun H4 s4 => ?_⟩
      have s34 := s3.trans s4
      refine ⟨_, _, rfl, rfl, _, s34 _ _ eL, small1000 (by rw [List.length_map, List.length_take]; exact Nat.le_trans (Nat.min_le_right _ _) (by simp)), fun y o ey => ?_, ?_⟩
      · rw [upd_ne (ne_of_none ey nL)]
        exact s34 _ _ (s' _ _ ey)
      · rw [upd_same, List.take_add_one, hu, List.map_append]
        rfl
    rintro H5 ⟨s5, eL⟩
    have eL : H5 L = some (.lst ([Ld a b st, Ld a b (sp - 1)].map V.int)) := eL
    refine ⟨L, _, rfl, SqL.of eL, by simp, fun top ht hmx => ?_⟩
    have t1 : Ld a b st ≤ top := hmx _ (by simp)
    have t2 : Ld a b (sp - 1) ≤ top := hmx _ (by simp)
    obtain ⟨e, e1, e2, e3⟩ : ∃ e, st ≤ e ∧ e < sp ∧ Ld a b e = top := by
      simp only [List.mem_cons, List.not_mem_nil, or_false] at ht
      rcases ht with rfl | rfl
      · exact ⟨st, by omega, by omega, rfl⟩
      · exact ⟨sp - 1, by omega, by omega, rfl⟩
    have be : Bd k e := bst.mid bsp e1 (by omega)
    have btop : Bd (2 * k + 2) top := by
      rw [← e3]
      refine Bd.sub (k := 2 * k + 1) (Bd.ediv ?_ (by omega)) (Bd.ediv ?_ (by omega))
      · exact Bd.add (k := 2 * k) ((Bd.mul T.ra.bp be).mono (by omega)) (T.ra.bc.mono (by omega))
      · exact Bd.add (k := 2 * k) ((Bd.mul T.rb.bp be).mono (by omega)) (T.rb.bc.mono (by omega))
    have T5 := T1.same s5
    refine ⟨_, rfl, _, rfl, _, rfl, _, rfl, _, _, rfl, rfl, A1, B1, a, b, st, top + 1, k, 2 * k + 3, rfl, T5, bst.mono (by omega), Bd.add btop (Bd.small 1 (by decide) (by omega)), k0, by omega, by omega, fun o H6 s6 ho _ _ => ?_⟩
    have s16 := z1.trans (s5.trans s6)
    have up : ∀ t, st ≤ t → t < sp → Ld a b t ≤ top + 1 := fun t h1 h2 => top_near aq bq t1 t2 h1 h2
    match o, ho with
    | none, ho =>
      refine ⟨_, rfl, rfl, _, rfl, iteT ⟨_, rfl, q top _ s16 ⟨⟨e, e1, e2, e3⟩, fun t h1 h2 => ?_⟩⟩⟩
      refine Int.not_lt.mp fun z => ho (t - st) (by omega) ?_
      show top + 1 ≤ Ld a b (st + (t - st))
      rw [show st + (t - st) = t by omega]
      omega
    | some x, ⟨x0, hx, hm⟩ =>
      refine ⟨_, rfl, rfl, _, rfl, iteF ⟨_, rfl, _, rfl, _, _, rfl, rfl, _, rfl, ite2 (fun c => ?_) (fun c => ?_)⟩⟩
      · have c : sp ≤ st + x := of_decide_eq_true c
        refine ⟨_, rfl, q top _ s16 ⟨⟨e, e1, e2, e3⟩, fun t h1 h2 => ?_⟩⟩
        refine Int.not_lt.mp fun z => hm (t - st) (by omega) (by omega) ?_
        show top + 1 ≤ Ld a b (st + (t - st))
        rw [show st + (t - st) = t by omega]
        omega
      · have c : ¬ sp ≤ st + x := fun z => c (decide_eq_true z)
        have hx : top + 1 ≤ Ld a b (st + x) := hx
        have := up (st + x) (by omega) (by omega)
        exact ⟨_, rfl, _, _, rfl, rfl, q (top + 1) _ s16 ⟨⟨st + x, by omega, by omega, by omega⟩, up⟩⟩
def spLR : Sp := fun vs H Q _ => ∃ (A B : Addr) (a b : Rl) (st sp : Int) (k : Nat), vs = [.ref A, .ref B, .int st, .int sp] ∧ Two k A B a b H ∧ Bd k st ∧ Bd k sp ∧ 0 < k ∧ k ≤ 390 ∧ st < sp ∧ ∀ m M r H', Same H H' → MxL b a st sp m → MxL a b st sp M → H' r = some (.tup [.int (-m), .int M]) → Q (.ref r) H'
abbrev s_lead_range : Stmt := topS 29
abbrev N_lead_range : List Str := ["first", "second", "start", "stop"]
abbrev P_lead_range : List Str := ["first", "second", "start", "stop"]
theorem sc_lead_range : FnScope N_lead_range P_lead_range (defScope s_lead_range) := ⟨rfl, rfl, rfl, by decide +kernel, rfl, by decide +kernel, by decide +kernel⟩
theorem ok_lead_range (D : Df K mg "lead_range" s_lead_range P_lead_range) (c_check_rules : C8.Cal P w K mg base 4 "check_rules" spChk2 []) (c_check_integer : C8.Cal P w K mg base 2 "check_integer" spCheckInt []) (c_check_at_least : C8.Cal P w K mg base 2 "check_at_least" spCheckAL []) (c_greatest_lead : C8.Cal P w K mg base 7 "greatest_lead" spGL []) : C8.Cal P w K mg base 8 "lead_range" spLR [] := by
  refine cal_of D sc_lead_range (fun vs H Q E h => ?_) (fun f cdv A outer s H vs Q E hr h => ?_)
  · obtain ⟨A, B, a, b, st, sp, k, rfl, _⟩ := h
    rfl
  · obtain ⟨A1, B1, a, b, st, sp, k, rfl, T, bst, bsp, k0, k1, le, q⟩ := h
    refine ⟨_, (pss_cons (ps_expr (C8.pe_c c_check_rules hr (by decide) (by rfl) (pa_cons (pv 0) (pa_cons (pv 1) pa_nil))))
    (pss_cons (ps_expr (C8.pe_c c_check_integer hr (by decide) (by rfl) (pa_cons (pv 2) pa_nil)))
    (pss_cons (ps_expr (C8.pe_c c_check_at_least hr (by decide) (by rfl) (pa_cons (pv 3) (pa_cons (pe_op op_add (pv 2) pe_int) pa_nil))))
    (pss_one (ps_ret (pe_tup (pa_cons (pe_un un_neg (C8.pe_c c_greatest_lead hr (by decide) (by rfl) (pa_cons (pv 1) (pa_cons (pv 0) (pa_cons (pv 2) (pa_cons (pv 3) pa_nil)))))) (pa_cons (C8.pe_c c_greatest_lead hr (by decide) (by rfl) (pa_cons (pv 0) (pa_cons (pv 1) (pa_cons (pv 2) (pa_cons (pv 3) pa_nil))))) pa_nil)))))))), ?_⟩
    refine ⟨_, rfl, _, rfl, A1, B1, a, b, k, rfl, T, fun H1 s1 => ?_⟩
    have T1 := T.same s1
    refine ⟨_, rfl, st, rfl, _, rfl, _, rfl, _, _, rfl, rfl, _, _, rfl, by omega, ?_⟩
    refine ⟨_, rfl, _, rfl, _, rfl, _, rfl, B1, A1, b, a, st, sp, k, rfl, T1.flip, bst, bsp, k0, k1, le, fun m H2 s2 hm => ⟨_, rfl, ?_⟩⟩
    refine ⟨_, rfl, _, rfl, _, rfl, _, rfl, A1, B1, a, b, st, sp, k, rfl, T1.same s2, bst, bsp, k0, k1, le, fun M H3 s3 hM => ⟨len10 (by simp), fun r nr => ?_⟩⟩
    exact q m M r _ (s1.trans (s2.trans (s3.trans (sm_upd nr)))) hm hM upd_same
end
end Lf
namespace Lf
open PySem PySem.Spec PyProof.Rows L2
/-! ### times with equal counts -/
def ldZ (a b : Rl) (t : Int) : Bool := decide (Ld a b t = 0)
theorem cZ_eq (a b : Rl) (t : Int) : ∀ n : Nat, (n : Int) - cB (ldP a b) t n - cB (ldP b a) t n = cB (ldZ a b) t n
  | 0 => rfl
  | n + 1 => by
    have ih := cZ_eq a b t n
    show ((n + 1 : Nat) : Int) - (cB (ldP a b) t n + (if ldP a b (t + n) = true then 1 else 0)) - (cB (ldP b a) t n + (if ldP b a (t + n) = true then 1 else 0)) = cB (ldZ a b) t n + (if ldZ a b (t + n) = true then 1 else 0)
    have sw := ld_swap a b (t + n)
    have e : ∀ v : Int, (if decide (0 < v) = true then (1 : Int) else 0) + (if decide (0 < -v) = true then 1 else 0) + (if decide (v = 0) = true then 1 else 0) = 1 := fun v => by
      rcases Int.lt_trichotomy v 0 with c | c | c
      · rw [if_neg (fun z => by have := of_decide_eq_true z; omega), if_pos (decide_eq_true (by omega)), if_neg (fun z => by have := of_decide_eq_true z; omega)]
        rfl
      · rw [if_neg (fun z => by have := of_decide_eq_true z; omega), if_neg (fun z => by have := of_decide_eq_true z; omega), if_pos (decide_eq_true c)]
        rfl
      · rw [if_pos (decide_eq_true c), if_neg (fun z => by have := of_decide_eq_true z; omega), if_neg (fun z => by have := of_decide_eq_true z; omega)]
        rfl
    have e1 := e (Ld a b (t + n))
    rw [← sw] at e1
    unfold ldP ldZ at *
    omega
theorem cB_pos {f : Int → Bool} {t : Int} : ∀ {n : Nat}, 0 < cB f t n → ∃ i : Nat, i < n ∧ f (t + i) = true
  | 0, h => by
    have h : (0 : Int) < 0 := h
    omega
  | n + 1, h => by
    by_cases c : f (t + n) = true
    · exact ⟨n, by omega, c⟩
    · have h : 0 < cB f t n + (if f (t + n) = true then 1 else 0) := h
      rw [if_neg c] at h
      obtain ⟨i, h1, h2⟩ := cB_pos (f := f) (t := t) (n := n) (by omega)
      exact ⟨i, by omega, h2⟩
theorem cB_mono {f : Int → Bool} {t : Int} {m n : Nat} (h : m ≤ n) : cB f t m ≤ cB f t n := by
  rw [show n = m + (n - m) by omega, cB_split]
  have := cB_nn f (t + m) (n - m)
  omega
/-- the time of the agreement with a number -/
def NthZ (f : Int → Bool) (st k x : Int) : Prop := st ≤ x ∧ f x = true ∧ cB f st (x - st).toNat = k
theorem nth_uniq {f : Int → Bool} {st k x y : Int} (h : NthZ f st k x) (g : NthZ f st k y) : x = y := by
  have key : ∀ {x y : Int}, NthZ f st k x → NthZ f st k y → ¬ x < y := fun {x y} ⟨h1, h2, h3⟩ ⟨g1, g2, g3⟩ l => by
    have e : (y - st).toNat = (x - st).toNat + (1 + (y - x - 1).toNat) := by omega
    rw [e, cB_split, cB_split, h3] at g3
    have p : cB f (st + ((x - st).toNat : Nat)) 1 = 1 := by
      rw [show st + ((x - st).toNat : Int) = x by omega]
      show (0 : Int) + (if f (x + ((0 : Nat) : Int)) = true then 1 else 0) = 1
      rw [show x + ((0 : Nat) : Int) = x by omega, if_pos h2]
      rfl
    rw [p] at g3
    have := cB_nn f (st + ((x - st).toNat : Nat) + (1 : Nat)) (y - x - 1).toNat
    omega
  rcases Int.lt_trichotomy x y with l | l | l
  · exact absurd l (key h g)
  · exact l
  · exact absurd l (key g h)
theorem cB_one {f : Int → Bool} {x : Int} (h : f x = true) : cB f x 1 = 1 := by
  show (0 : Int) + (if f (x + ((0 : Nat) : Int)) = true then 1 else 0) = 1
  rw [show x + ((0 : Nat) : Int) = x by omega, if_pos h]
  rfl
/-- moving the start -/
theorem nth_move {f : Int → Bool} {st md k x c : Int} (le : st ≤ md) (hc : cB f st (md - st).toNat = c) (h : NthZ f md (k - c) x) : NthZ f st k x := by
  obtain ⟨h1, h2, h3⟩ := h
  refine ⟨by omega, h2, ?_⟩
  rw [show (x - st).toNat = (md - st).toNat + (x - md).toNat by omega, cB_split, show st + ((md - st).toNat : Int) = md by omega, hc, h3]
  omega
/-- the first one -/
theorem nth_first {f : Int → Bool} {st x : Int} (h : Fst (fun y => f (st + y) = true) (some x)) : NthZ f st 0 (st + x) := by
  obtain ⟨x0, hx, no⟩ := h
  refine ⟨by omega, hx, ?_⟩
  rw [show (st + x - st).toNat = x.toNat by omega]
  refine cB_zero fun i hi => ?_
  have := no i (by omega) (by omega)
  cases hh : f (st + (i : Int)) with
  | false => rfl
  | true => exact absurd hh this
/-- the next one -/
theorem nth_next {f : Int → Bool} {st k y x : Int} (hy : NthZ f st k y) (h : Fst (fun z => f (y + 1 + z) = true) (some x)) : NthZ f st (k + 1) (y + 1 + x) := by
  obtain ⟨h1, h2, h3⟩ := hy
  obtain ⟨g1, g2, g3⟩ := nth_first h
  refine nth_move (md := y + 1) (c := k + 1) (by omega) ?_ ⟨g1, g2, by rw [g3]; omega⟩
  rw [show (y + 1 - st).toNat = (y - st).toNat + 1 by omega, cB_split, h3, show st + ((y - st).toNat : Int) = y by omega, cB_one h2]
theorem fst_no {f : Int → Bool} {st : Int} {n : Nat} (h : Fst (fun y => f (st + y) = true) none) : cB f st n = 0 := by
  refine cB_zero fun i hi => ?_
  have := h i (by omega)
  cases hh : f (st + (i : Int)) with
  | false => rfl
  | true => exact absurd hh this
/-! ### signs of gap and lead -/
def slp (a b : Rl) : Int := a.p * b.q - b.p * a.q
theorem slp_swap (a b : Rl) : slp b a = -slp a b := by
  unfold slp
  omega
theorem gp_step (a b : Rl) (t x : Int) : gp a b (t + x) = gp a b t + slp a b * x := by
  unfold gp slp
  rw [Int.mul_add]
  omega
theorem gp_neg {a b : Rl} {t : Int} (ha : 1 ≤ a.q) (hb : 1 ≤ b.q) (h : Ld a b t < 0) : gp a b t < 0 := by
  refine Int.not_le.mp fun z => ?_
  have := ld_ge (k := 0) ha hb (by rw [Int.zero_mul]; exact z)
  omega
theorem gp_pos {a b : Rl} {t : Int} (ha : 1 ≤ a.q) (hb : 1 ≤ b.q) (h : 0 < Ld a b t) : 0 < gp a b t := by
  refine Int.not_le.mp fun z => ?_
  have := ld_le (k := 0) ha hb (by rw [Int.zero_mul]; exact z)
  omega
theorem step_up {a b : Rl} {t x : Int} (ha : 1 ≤ a.q) (hb : 1 ≤ b.q) (h : Ld a b t < 0) (g : Fst (fun x => 0 ≤ Ld a b (t + x)) (some x)) : Ld a b (t + x) = 0 ∨ (0 < Ld a b (t + x) ∧ 0 < slp a b ∧ 0 < gp a b (t + x) ∧ gp a b (t + x) ≤ slp a b) := by
  obtain ⟨x0, hx, no⟩ := g
  have hx : 0 ≤ Ld a b (t + x) := hx
  by_cases z : Ld a b (t + x) = 0
  · exact .inl z
  · have x1 : x ≠ 0 := fun e => by
      rw [e, show t + 0 = t by omega] at hx
      omega
    have l1 : Ld a b (t + (x - 1)) < 0 := Int.not_le.mp (no (x - 1) (by omega) (by omega))
    have g1 := gp_neg ha hb l1
    have g2 := gp_pos ha hb (show 0 < Ld a b (t + x) by omega)
    have e := gp_step a b (t + (x - 1)) 1
    rw [show t + (x - 1) + 1 = t + x by omega, Int.mul_one] at e
    exact .inr ⟨by omega, by omega, g2, by omega⟩
theorem step_fin {a b : Rl} {t x : Int} (ha : 1 ≤ a.q) (hb : 1 ≤ b.q) (h : 0 < Ld a b t) (s : 0 ≤ slp a b) (g : Fst (fun x => 0 ≤ Ld b a (t + x)) (some x)) : Ld a b (t + x) = 0 := by
  obtain ⟨x0, hx, no⟩ := g
  have hx : 0 ≤ Ld b a (t + x) := hx
  rw [ld_swap] at hx
  have g1 := gp_pos ha hb h
  have := Int.mul_nonneg s x0
  have e := gp_step a b t x
  have := ld_ge (k := 0) (t := t + x) ha hb (by rw [Int.zero_mul]; omega)
  omega
/-- a zero lies where the gap is small -/
theorem zero_gap {a b : Rl} {t : Int} (ha : 1 ≤ a.q) (hb : 1 ≤ b.q) (h : Ld a b t = 0) : -(a.q * b.q) < gp a b t ∧ gp a b t < a.q * b.q := by
  constructor
  · have := gp_gt (k := 0) (t := t) ha hb (by omega)
    omega
  · have := gp_gt (a := b) (b := a) (k := 0) (t := t) hb ha (by rw [ld_swap]; omega)
    rw [gp_swap, Int.mul_comm b.q] at this
    omega
theorem fst_zero {a b : Rl} {t : Int} {o : Option Int} (h : Ld a b t < 0) (g : Fst (fun x => 0 ≤ Ld a b (t + x)) o) (e : ∀ x, o = some x → Ld a b (t + x) = 0) : Fst (fun x => ldZ a b (t + x) = true) o := by
  match o, g with
  | none, g =>
    intro x x0 z
    have z := of_decide_eq_true z
    exact g x x0 (by show 0 ≤ Ld a b (t + x); omega)
  | some x, ⟨x0, hx, no⟩ =>
    refine ⟨x0, decide_eq_true (e x rfl), fun y y0 yl z => no y y0 yl ?_⟩
    have z := of_decide_eq_true z
    show 0 ≤ Ld a b (t + y)
    omega
/-- the zeros of one cycle -/
theorem per_zero {a b : Rl} {t : Int} (ga : Int.gcd a.p a.q = 1) (ha : 1 ≤ a.q) (ep : a.p = b.p) (eq : a.q = b.q) : cB (ldZ a b) t a.q.toNat = if 0 < a.q - ((a.c - b.c).natAbs : Int) then a.q - ((a.c - b.c).natAbs : Int) else 0 := by
  have hb : 1 ≤ b.q := by omega
  have key : ∀ {a b : Rl}, Int.gcd a.p a.q = 1 → 1 ≤ a.q → a.p = b.p → a.q = b.q → b.c ≤ a.c → cB (ldZ a b) t a.q.toNat = if 0 < a.q - ((a.c - b.c).natAbs : Int) then a.q - ((a.c - b.c).natAbs : Int) else 0 := fun {a b} ga ha ep eq le => by
    have hb : 1 ≤ b.q := by omega
    have gq : ∀ u, gp a b u = (a.c - b.c) * a.q := fun u => by
      unfold gp
      rw [← ep, ← eq, Int.sub_self, Int.zero_mul, Int.sub_mul]
      omega
    have nb : ((a.c - b.c).natAbs : Int) = a.c - b.c := by omega
    rw [nb]
    have l0 : ∀ u, 0 ≤ Ld a b u := fun u => ld_ge ha hb (by
      rw [gq, Int.zero_mul]
      exact Int.mul_nonneg (by omega) (by omega))
    by_cases c : 0 < a.q - (a.c - b.c)
    · rw [if_pos c]
      have l1 : ∀ u, Ld a b u ≤ 1 := fun u => ld_le ha hb (by
        rw [gq, Int.one_mul, ← eq]
        exact Int.mul_le_mul_of_nonneg_right (by omega) (by omega))
      have f := fs_ld (a := a) (b := b) (t := t) (n := a.q.toNat) fun i _ => ⟨l0 _, l1 _⟩
      rw [fs_any _ _ _ (by omega) ga, ← ep, ← eq, fs_any a.p a.q (a.p * t + b.c) (by omega) ga] at f
      have z := cZ_eq a b t a.q.toNat
      have m : cB (ldP b a) t a.q.toNat = 0 := cB_zero fun i hi => decide_eq_false (by
        rw [ld_swap]
        have := l0 (t + i)
        omega)
      omega
    · rw [if_neg c]
      refine cB_zero fun i hi => decide_eq_false ?_
      have := ld_ge (k := 1) (t := t + i) ha hb (by
        rw [gq, Int.one_mul, ← eq]
        exact Int.mul_le_mul_of_nonneg_right (by omega) (by omega))
      omega
  rcases Int.le_total b.c a.c with le | le
  · exact key ga ha ep eq le
  · have h := key (a := b) (b := a) (by rw [← ep, ← eq]; exact ga) hb ep.symm eq.symm le
    rw [eq] 
    rw [show ((a.c - b.c).natAbs : Int) = ((b.c - a.c).natAbs : Int) by omega, ← h]
    refine cB_congr fun i hi => ?_
    unfold ldZ
    rw [ld_swap a b]
    by_cases z : Ld a b (t + i) = 0
    · rw [decide_eq_true z, decide_eq_true (by omega)]
    · rw [decide_eq_false z, decide_eq_false (by omega)]
end Lf
namespace Lf
open PySem PySem.Spec PyProof.Rows L2
structure Bf (mg : Str → Option Value) : Prop where
  few_ : ∃ t, mg "FEW" = some (.int 20 t)
theorem dvd_co {p q n : Int} (h : q ∣ p * n) (g : Int.gcd p q = 1) : q ∣ n := by
  rw [← Int.natAbs_dvd_natAbs] at h ⊢
  rw [Int.natAbs_mul] at h
  have c : Nat.Coprime q.natAbs p.natAbs := by
    rw [Nat.coprime_comm]
    exact g
  exact c.dvd_of_dvd_mul_left h
theorem rate_eq {a b : Rl} {k j : Nat} (ra : a.B k) (rb : b.B j) (h : slp a b = 0) : a.p = b.p ∧ a.q = b.q := by
  have e : a.p * b.q = b.p * a.q := by
    unfold slp at h
    omega
  have d1 : a.q ∣ b.q := by
    have h1 : a.q ∣ a.p * b.q := by rw [e]; exact Int.dvd_mul_left _ _
    exact dvd_co h1 ra.g
  have d2 : b.q ∣ a.q := by
    have h1 : b.q ∣ b.p * a.q := by rw [← e]; exact Int.dvd_mul_left _ _
    exact dvd_co h1 rb.g
  have q1 := ra.q1
  have q2 := rb.q1
  have l1 := Int.le_of_dvd (by omega) d1
  have l2 := Int.le_of_dvd (by omega) d2
  have eq : a.q = b.q := by omega
  rw [eq] at e
  exact ⟨Int.eq_of_mul_eq_mul_right (by omega) e, eq⟩
def muN (a b : Rl) : L2.St → Hp → Nat := fun σ _ => match σ with
  | _ :: _ :: some (.int t) :: _ => if Ld a b t = 0 then 1 else if 0 < slp a b * Ld a b t then 2 else 3
  | _ => 0
section
variable {P : Program} {w : World} {K : PySem.W.Frag} {mg : Str → Option Value} {base : Heap}
/-! ### cycle_agreements, close_times -/
def spCyA : Sp := fun vs H Q _ => ∃ (A B : Addr) (a b : Rl) (k : Nat), vs = [.ref A, .ref B] ∧ Two k A B a b H ∧ Q (.int (if 0 < a.q - ((a.c - b.c).natAbs : Int) then a.q - ((a.c - b.c).natAbs : Int) else 0)) H
abbrev s_cycle_agreements : Stmt := topS 40
abbrev N_cycle_agreements : List Str := ["first", "second"]
abbrev P_cycle_agreements : List Str := ["first", "second"]
theorem sc_cycle_agreements : FnScope N_cycle_agreements P_cycle_agreements (defScope s_cycle_agreements) := ⟨rfl, rfl, rfl, by decide +kernel, rfl, by decide +kernel, by decide +kernel⟩
theorem ok_cycle_agreements (D : Df K mg "cycle_agreements" s_cycle_agreements P_cycle_agreements) (B : Bi mg) : C8.Cal P w K mg base 1 "cycle_agreements" spCyA [] := by
  refine cal_of D sc_cycle_agreements (fun vs H Q E h => ?_) (fun f cdv A outer s H vs Q E hr h => ?_)
  · obtain ⟨A, B, a, b, k, rfl, _⟩ := h
    rfl
  · obtain ⟨A1, B1, a, b, k, rfl, T, q⟩ := h
    refine ⟨_, (pss_one (ps_ret (pe_callB (call_max2 rfl) (by rfl) B.max_ bt_max (pa_cons pe_int (pa_cons (pe_op op_sub (pe_ix (r := rIxT K) ix_tup (pv 0) pe_int (fun _ _ => rfl)) (pe_callB (call_abs) (by rfl) B.abs_ bt_abs (pa_cons (pe_op op_sub (pe_ix (r := rIxT K) ix_tup (pv 0) pe_int (fun _ _ => rfl)) (pe_ix (r := rIxT K) ix_tup (pv 1) pe_int (fun _ _ => rfl))) pa_nil))) pa_nil))))), ?_⟩
    refine ⟨_, rfl, A1, _, _, _, rfl, rfl, SqT.of T.ea, atI_nat (j := 1) rfl, _, rfl, A1, _, _, _, rfl, rfl, SqT.of T.ea, atI_nat (j := 2) rfl, _, rfl, B1, _, _, _, rfl, rfl, SqT.of T.eb, atI_nat (j := 2) rfl, _, _, rfl, rfl, ?_⟩
    refine ⟨_, rfl, _, _, rfl, rfl, _, _, rfl, ?_⟩
    dsimp only
    rw [show (if a.c - b.c < 0 then -(a.c - b.c) else a.c - b.c) = ((a.c - b.c).natAbs : Int) by split <;> omega]
    exact q
/-- the range in which equal counts lie -/
def ClR (a b : Rl) (e1 e2 : Int) : Prop := e1 ≤ e2 ∧ ∀ t, Ld a b t = 0 → e1 ≤ t ∧ t < e2
def spClT : Sp := fun vs H Q _ => ∃ (A B : Addr) (a b : Rl) (k : Nat), vs = [.ref A, .ref B] ∧ Two k A B a b H ∧ 0 < k ∧ k ≤ 4000 ∧ slp a b ≠ 0 ∧
  ∀ r H' e1 e2, Same H H' → H' r = some (.tup [.int e1, .int e2]) → ClR a b e1 e2 → Bd (2 * k + 4) e1 → Bd (2 * k + 4) e2 → Q (.ref r) H'
abbrev s_close_times : Stmt := topS 41
abbrev N_close_times : List Str := ["first", "second", "slope", "offset", "divisor"]
abbrev P_close_times : List Str := ["first", "second"]
theorem sc_close_times : FnScope N_close_times P_close_times (defScope s_close_times) := ⟨rfl, rfl, rfl, by decide +kernel, rfl, by decide +kernel, by decide +kernel⟩
theorem ok_close_times (D : Df K mg "close_times" s_close_times P_close_times) (c_gap_line : C8.Cal P w K mg base 1 "gap_line" spGap []) (c_divide_up : C8.Cal P w K mg base 1 "divide_up" spDivUp []) : C8.Cal P w K mg base 2 "close_times" spClT [] := by
  refine cal_of D sc_close_times (fun vs H Q E h => ?_) (fun f cdv A outer s H vs Q E hr h => ?_)
  · obtain ⟨A, B, a, b, k, rfl, _⟩ := h
    rfl
  · obtain ⟨A1, B1, a, b, k, rfl, T, k0, k4, s0, q⟩ := h
    refine ⟨_, (pss_cons (ps_asg (C8.pe_c c_gap_line hr (by decide) (by rfl) (pa_cons (pv 0) (pa_cons (pv 1) pa_nil))) (pg_tup rfl (pgs_cons (pg_name (i := 2) sc_close_times.nd rfl (Or.inl rfl)) (pgs_cons (pg_name (i := 3) sc_close_times.nd rfl (Or.inl rfl)) (pgs_cons (pg_name (i := 4) sc_close_times.nd rfl (Or.inl rfl)) pgs_nil)))))
    (C8.pss_cut (ps_if (pt_cmpR op_lt (pv 2) pe_int (nomark _))
      (pss_one (ps_par (i := 2) (j := 3) rfl sc_close_times.nd rfl rfl (by decide) rfl rfl (pa_cons (pe_un un_neg (pv 2)) (pa_cons (pe_un un_neg (pv 3)) pa_nil)) rfl))
      pss_nil)
    (pss_one (ps_ret (pe_tup (pa_cons (C8.pe_c c_divide_up hr (by decide) (by rfl) (pa_cons (pe_op op_sub (pe_op op_sub pe_int (pv 4)) (pv 3)) (pa_cons (pv 2) pa_nil))) (pa_cons (C8.pe_c c_divide_up hr (by decide) (by rfl) (pa_cons (pe_op op_sub (pv 4) (pv 3)) (pa_cons (pv 2) pa_nil))) pa_nil))))))), ?_⟩
    have aq := T.ra.q1
    have bq := T.rb.q1
    have D1 := one_le_mul aq bq
    refine ⟨_, rfl, _, rfl, A1, B1, a, b, k, rfl, T, k0, k4, fun g ng => ?_⟩
    have z1 := sm_upd (o := tup3 (a.p * b.q - b.p * a.q) (a.c * b.q - b.c * a.q) (a.q * b.q)) ng
    refine ⟨g, _, rfl, SqT.of upd_same, rfl, _, _, rfl, _, _, rfl, _, _, rfl, rfl, ?_⟩
    have Bs : Bd (2 * k + 1) (a.p * b.q - b.p * a.q) := Bd.sub (k := 2 * k) ((Bd.mul T.ra.bp T.rb.bq).mono (by omega)) ((Bd.mul T.rb.bp T.ra.bq).mono (by omega))
    have Bo : Bd (2 * k + 1) (a.c * b.q - b.c * a.q) := Bd.sub (k := 2 * k) ((Bd.mul T.ra.bc T.rb.bq).mono (by omega)) ((Bd.mul T.rb.bc T.ra.bq).mono (by omega))
    have BD : Bd (2 * k + 1) (a.q * b.q) := (Bd.mul T.ra.bq T.rb.bq).mono (by omega)
    have zg := fun t => zero_gap (a := a) (b := b) (t := t) aq bq
    have gd : ∀ t, gp a b t = slp a b * t + (a.c * b.q - b.c * a.q) := fun t => rfl
    refine ⟨fun σ' H' => ∃ sl of : Int, σ' = [some (.ref A1), some (.ref B1), some (.int sl), some (.int of), some (.int (a.q * b.q))] ∧ Same H H' ∧ 0 < sl ∧ Bd (2 * k + 1) sl ∧ Bd (2 * k + 1) of ∧ ∀ t, Ld a b t = 0 → -(a.q * b.q) < sl * t + of ∧ sl * t + of < a.q * b.q, ?_, ?_⟩
    · refine ⟨_, rfl, _, _, rfl, rfl, _, rfl, ite2 (fun c => ?_) (fun c => ?_)⟩
      · have c : a.p * b.q - b.p * a.q < 0 := of_decide_eq_true c
        refine ⟨_, rfl, _, rfl, _, rfl, _, rfl, _, _, rfl, ?_⟩
        refine ⟨-(a.p * b.q - b.p * a.q), -(a.c * b.q - b.c * a.q), rfl, z1, by omega, Bs.neg, Bo.neg, fun t h => ?_⟩
        have := zg t h
        rw [gd] at this
        unfold slp at this
        rw [Int.neg_mul]
        omega
      · have c : ¬ a.p * b.q - b.p * a.q < 0 := fun z => c (decide_eq_true z)
        unfold slp at s0
        refine ⟨_, _, rfl, z1, by omega, Bs, Bo, fun t h => ?_⟩
        have := zg t h
        rw [gd] at this
        exact this
    rintro σ H1 ⟨sl, of, rfl, s1, sl0, bsl, bof, hz⟩
    have b1 : Bd (2 * k + 3) (1 - a.q * b.q - of) := Bd.sub (k := 2 * k + 2) (Bd.sub (k := 2 * k + 1) (Bd.small 1 (by decide) (by omega)) BD) (bof.mono (by omega))
    have b2 : Bd (2 * k + 3) (a.q * b.q - of) := (Bd.sub BD bof).mono (by omega)
    refine ⟨_, rfl, _, _, rfl, rfl, _, rfl, _, _, rfl, rfl, _, rfl, _, _, rfl, sl0, bsl.mono (by omega), ?_⟩
    refine ⟨_, rfl, _, rfl, _, _, rfl, rfl, _, rfl, _, _, rfl, sl0, bsl.mono (by omega), len10 (by simp), fun r nr => ?_⟩
    have u1 := fun n => dvu_le (x := 1 - a.q * b.q - of) (n := n) sl0
    have u2 := fun n => dvu_le (x := a.q * b.q - of) (n := n) sl0
    have g2 := dvu_ge (x := a.q * b.q - of) sl0
    refine q r _ _ _ (s1.trans (sm_upd nr)) upd_same ⟨?_, fun t h => ?_⟩ ((b1.dvu sl0).mono (by omega)) ((b2.dvu sl0).mono (by omega))
    · exact (u1 _).mpr (by omega)
    · obtain ⟨h1, h2⟩ := hz t h
      refine ⟨(u1 _).mpr (by omega), Int.not_le.mp fun z => ?_⟩
      have := (u2 _).mp z
      omega
/-! ### next_agreement -/
def spNA : Sp := fun vs H Q _ => ∃ (A B : Addr) (a b : Rl) (st : Int) (k j : Nat), vs = [.ref A, .ref B, .int st] ∧ Two k A B a b H ∧ Bd j st ∧ 0 < k ∧ k ≤ j ∧ 5 * k + j ≤ 1970 ∧
  ∀ o H', Same H H' → Fst (fun x => ldZ a b (st + x) = true) o → BdO (2 * k + j + 6) (o.map (st + ·)) → Q (oV (o.map (st + ·))) H'
theorem bd_gp {a b : Rl} {k j : Nat} {t : Int} (ra : a.B k) (rb : b.B k) (bt : Bd j t) (j0 : 0 < j) : Bd (2 * k + j + 2) (gp a b t) := by
  unfold gp
  refine Bd.add (k := 2 * k + j + 1) ((Bd.mul (k := 2 * k + 1) (Bd.sub (k := 2 * k) ((Bd.mul ra.bp rb.bq).mono (by omega)) ((Bd.mul rb.bp ra.bq).mono (by omega))) bt).mono (by omega)) ?_
  exact (Bd.sub (k := 2 * k) ((Bd.mul ra.bc rb.bq).mono (by omega)) ((Bd.mul rb.bc ra.bq).mono (by omega))).mono (by omega)
theorem bd_slp {a b : Rl} {k : Nat} (ra : a.B k) (rb : b.B k) : Bd (2 * k + 1) (slp a b) := Bd.sub (k := 2 * k) ((Bd.mul ra.bp rb.bq).mono (by omega)) ((Bd.mul rb.bp ra.bq).mono (by omega))
/-- what is known of a time on the way -/
def OnW (a b : Rl) (k j : Nat) (st t : Int) : Prop := st ≤ t ∧ (∀ u, st ≤ u → u < t → Ld a b u ≠ 0) ∧
  (t = st ∨ (Ld a b t = 0 ∧ Bd (2 * k + j + 6) t) ∨ (0 < slp a b * Ld a b t ∧ (gp a b t).natAbs ≤ (slp a b).natAbs ∧ Bd (2 * k + j + 4) t))
theorem onw_swap {a b : Rl} {k j : Nat} {st t : Int} (h : OnW a b k j st t) : OnW b a k j st t := by
  obtain ⟨h1, h2, h3⟩ := h
  refine ⟨h1, fun u u1 u2 => by rw [ld_swap]; have := h2 u u1 u2; omega, ?_⟩
  rcases h3 with h3 | ⟨h3, h4⟩ | ⟨h3, h4, h5⟩
  · exact .inl h3
  · exact .inr (.inl ⟨by rw [ld_swap]; omega, h4⟩)
  · refine .inr (.inr ⟨?_, ?_, h5⟩)
    · rw [ld_swap, slp_swap, Int.neg_mul_neg]
      exact h3
    · rw [gp_swap, slp_swap]
      omega
/-- one step of the way -/
theorem onw_step {a b : Rl} {k j : Nat} {st t x : Int} (ra : a.B k) (rb : b.B k) (bst : Bd j st) (j0 : 0 < j) (h : OnW a b k j st t) (neg : Ld a b t < 0) (g : Fst (fun x => 0 ≤ Ld a b (t + x)) (some x)) (le : LeO a b t 0 (some x)) :
    OnW a b k j st (t + x) ∧ muN a b [none, none, some (.int (t + x))] (fun _ => none) < muN a b [none, none, some (.int t)] (fun _ => none) := by
  obtain ⟨h1, h2, h3⟩ := h
  have aq := ra.q1
  have bq := rb.q1
  have su := step_up aq bq neg g
  have hx := le x rfl
  obtain ⟨x0, _, no⟩ := g
  have no : ∀ y, 0 ≤ y → y < x → Ld a b (t + y) < 0 := fun y y0 yl => Int.not_le.mp (no y y0 yl)
  have nz : ∀ u, st ≤ u → u < t + x → Ld a b u ≠ 0 := fun u u0 u1 => by
    rcases Int.lt_or_le u t with l | l
    · exact h2 u u0 l
    · have := no (u - t) (by omega) (by omega)
      rw [show t + (u - t) = u by omega] at this
      omega
  have BD : Bd (2 * k + 2) (3 * (a.q * b.q)) := by
    have := (Bd.mul (show Bd 2 (3 : Int) from Bd.small 2 (by decide) (by decide)) (Bd.mul ra.bq rb.bq))
    exact this.mono (by omega)
  have hx : x ≤ ((gp a b t).natAbs : Int) + 3 * (a.q * b.q) := by
    have e : (((0 : Int).natAbs : Int) + 3) * (a.q * b.q) = 3 * (a.q * b.q) := rfl
    omega
  have abs : ∀ {m : Nat} {z : Int}, Bd m z → Bd m (z.natAbs : Int) := fun h => by
    unfold Bd at *
    omega
  have muT : muN a b [none, none, some (.int t)] (fun _ => none) = if 0 < slp a b * Ld a b t then 2 else 3 := by
    show (if Ld a b t = 0 then 1 else _) = _
    rw [if_neg (by omega)]
  have nt : Ld a b t ≠ 0 := by omega
  rcases su with su | ⟨s1, s2, s3, s4⟩
  · refine ⟨⟨by omega, nz, .inr (.inl ⟨su, ?_⟩)⟩, ?_⟩
    · rcases h3 with h3 | ⟨h3, _⟩ | ⟨_, h4, h5⟩
      · have bg := abs (bd_gp ra rb (t := t) (by rw [h3]; exact bst) j0)
        have bx : Bd (2 * k + j + 3) x := (Bd.add bg (BD.mono (by omega))).between x0 hx
        exact (Bd.add (k := 2 * k + j + 3) (by rw [h3]; exact bst.mono (by omega)) bx).mono (by omega)
      · exact absurd h3 nt
      · have bx : Bd (2 * k + 3) x := (Bd.add (k := 2 * k + 2) ((abs (bd_slp ra rb)).mono (by omega)) BD).between x0 (by omega)
        exact (Bd.add (k := 2 * k + j + 4) h5 (bx.mono (by omega))).mono (by omega)
    · rw [muT]
      show (if Ld a b (t + x) = 0 then 1 else _) < _
      rw [if_pos su]
      split <;> omega
  · have sn : ¬ 0 < slp a b * Ld a b t := fun z => by
      have := Int.mul_le_mul_of_nonneg_left (show Ld a b t ≤ 0 by omega) (show 0 ≤ slp a b by omega)
      rw [Int.mul_zero] at this
      omega
    have sp : 0 < slp a b * Ld a b (t + x) := Int.mul_pos s2 s1
    refine ⟨⟨by omega, nz, .inr (.inr ⟨sp, by omega, ?_⟩)⟩, ?_⟩
    · rcases h3 with h3 | ⟨h3, _⟩ | ⟨h3, _⟩
      · have bg := abs (bd_gp ra rb (t := t) (by rw [h3]; exact bst) j0)
        have bx : Bd (2 * k + j + 3) x := (Bd.add bg (BD.mono (by omega))).between x0 hx
        exact Bd.add (k := 2 * k + j + 3) (by rw [h3]; exact bst.mono (by omega)) bx
      · exact absurd h3 nt
      · exact absurd h3 sn
    · rw [muT, if_neg sn]
      show (if Ld a b (t + x) = 0 then 1 else if 0 < slp a b * Ld a b (t + x) then 2 else 3) < 3
      rw [if_neg (by omega), if_pos sp]
      omega
theorem muN_swap (a b : Rl) (t : Int) : muN b a [none, none, some (.int t)] (fun _ => none) = muN a b [none, none, some (.int t)] (fun _ => none) := by
  show (if Ld b a t = 0 then 1 else if 0 < slp b a * Ld b a t then 2 else 3) = (if Ld a b t = 0 then 1 else if 0 < slp a b * Ld a b t then 2 else 3)
  rw [ld_swap a b, slp_swap a b, Int.neg_mul_neg]
  by_cases z : Ld a b t = 0
  · rw [if_pos z, if_pos (by omega)]
  · rw [if_neg z, if_neg (by omega)]
theorem ldZ_swap (a b : Rl) (t : Int) : ldZ b a t = ldZ a b t := by
  unfold ldZ
  rw [ld_swap a b]
  by_cases z : Ld a b t = 0
  · rw [decide_eq_true z, decide_eq_true (by omega)]
  · rw [decide_eq_false z, decide_eq_false (by omega)]
theorem onw_none {a b : Rl} {k j : Nat} {st t : Int} (h : OnW a b k j st t) (neg : Ld a b t < 0) (g : Fst (fun x => 0 ≤ Ld a b (t + x)) none) : Fst (fun x => ldZ a b (st + x) = true) none := fun x x0 z => by
  have z := of_decide_eq_true z
  obtain ⟨h1, h2, _⟩ := h
  rcases Int.lt_or_le (st + x) t with l | l
  · exact h2 (st + x) (by omega) l z
  · refine g (st + x - t) (by omega) ?_
    show 0 ≤ Ld a b (t + (st + x - t))
    rw [show t + (st + x - t) = st + x by omega]
    omega
abbrev s_next_agreement : Stmt := topS 42
abbrev N_next_agreement : List Str := ["first", "second", "time", "lead"]
abbrev P_next_agreement : List Str := ["first", "second", "time"]
theorem sc_next_agreement : FnScope N_next_agreement P_next_agreement (defScope s_next_agreement) := ⟨rfl, rfl, rfl, by decide +kernel, rfl, by decide +kernel, by decide +kernel⟩
theorem ok_next_agreement (D : Df K mg "next_agreement" s_next_agreement P_next_agreement) (c_count : C8.Cal P w K mg base 4 "count" spCount []) (c_first_lead : C8.Cal P w K mg base 6 "first_lead" spFL []) : C8.Cal P w K mg base 7 "next_agreement" spNA [] := by
  refine cal_of D sc_next_agreement (fun vs H Q E h => ?_) (fun f cdv A outer s H vs Q E hr h => ?_)
  · obtain ⟨A, B, a, b, st, k, j, rfl, _⟩ := h
    rfl
  · obtain ⟨A1, B1, a, b, st, k, j, rfl, T, bst, k0, kj, jj, q⟩ := h
    refine ⟨_, (pss_cons (ps_while PassesOwn.never (pt_cmpR op_notN (pv 2) pe_non (nomark _))
      (pss_cons (ps_set (i := 3) sc_next_agreement.nd rfl (Or.inl rfl) (pe_op op_sub (C8.pe_c c_count hr (by decide) (by rfl) (pa_cons (pv 0) (pa_cons (pv 2) pa_nil))) (C8.pe_c c_count hr (by decide) (by rfl) (pa_cons (pv 1) (pa_cons (pv 2) pa_nil)))))
    (pss_cons (ps_if (pt_cmpR op_eq (pv 3) pe_int (nomark _))
      (pss_one (ps_ret (pv 2)))
      pss_nil)
    (pss_one (ps_if (pt_cmpR op_lt (pv 3) pe_int (nomark _))
      (pss_one (ps_set (i := 2) sc_next_agreement.nd rfl (Or.inl rfl) (C8.pe_c c_first_lead hr (by decide) (by rfl) (pa_cons (pv 0) (pa_cons (pv 1) (pa_cons (pv 2) (pa_cons pe_int pa_nil)))))))
      (pss_one (ps_set (i := 2) sc_next_agreement.nd rfl (Or.inl rfl) (C8.pe_c c_first_lead hr (by decide) (by rfl) (pa_cons (pv 1) (pa_cons (pv 0) (pa_cons (pv 2) (pa_cons pe_int pa_nil))))))))))))
    (pss_one (ps_ret pe_non))), ?_⟩
    have aq := T.ra.q1
    have bq := T.rb.q1
    refine while_by (fun σ H' => Same H H' ∧ ∃ y3 : Option V, (σ = [some (.ref A1), some (.ref B1), some .non, y3] ∧ Fst (fun x => ldZ a b (st + x) = true) none) ∨ ∃ t, σ = [some (.ref A1), some (.ref B1), some (.int t), y3] ∧ OnW a b k j st t) (muN a b) ⟨Same.refl _, none, .inr ⟨st, rfl, Int.le_refl _, fun u u0 u1 => by omega, .inl rfl⟩⟩ ?_ ?_
    · rintro σ H1 ⟨s1, y3, ⟨rfl, no⟩ | ⟨t, rfl, W⟩⟩
      · exact ⟨_, rfl, rfl, _, rfl, iteF (q none H1 s1 no (fun x e => nomatch e))⟩
      · refine ⟨_, rfl, rfl, _, rfl, iteT ?_⟩
        have T1 := T.same s1
        have bt : Bd (2 * k + j + 6) t := by
          obtain ⟨_, _, h | ⟨_, h⟩ | ⟨_, _, h⟩⟩ := W
          · rw [h]
            exact bst.mono (by omega)
          · exact h
          · exact h.mono (by omega)
        refine ⟨_, rfl, _, rfl, A1, _, _, _, t, 2 * k + j + 6, rfl, T1.ea, T1.ra.mono (by omega), bt, by omega, by omega, fun H2 s2 => ?_⟩
        have T2 := T1.same s2
        refine ⟨_, rfl, _, rfl, B1, _, _, _, t, 2 * k + j + 6, rfl, T2.eb, T2.rb.mono (by omega), bt, by omega, by omega, fun H3 s3 => ?_⟩
        have T3 := T2.same s3
        have s13 := s1.trans (s2.trans s3)
        have j0 : 0 < j := by omega
        have muP : 0 < muN a b [some (.ref A1), some (.ref B1), some (.int t), y3] H1 := by
          show 0 < (if Ld a b t = 0 then 1 else if 0 < slp a b * Ld a b t then 2 else 3)
          split
          · omega
          · split <;> omega
        refine ⟨_, _, rfl, rfl, _, rfl, rfl, _, rfl, ite2 (fun c => ?_) (fun c => ?_)⟩
        · have c : Ld a b t = 0 := V.int.inj (of_decide_eq_true c)
          obtain ⟨w1, w2, _⟩ := W
          have e : st + (t - st) = t := by omega
          have := q (some (t - st)) H3 s13 ⟨by omega, by show ldZ a b (st + (t - st)) = true; rw [e]; exact decide_eq_true c, fun y y0 yl z => w2 (st + y) (by omega) (by omega) (of_decide_eq_true z)⟩ (fun x hx => by
            cases hx
            show Bd _ (st + (t - st))
            rw [e]
            exact bt)
          refine ⟨_, rfl, ?_⟩
          have h2 : Q (.int (st + (t - st))) H3 := this
          rw [e] at h2
          exact h2
        · have c : Ld a b t ≠ 0 := fun z => c (decide_eq_true (congrArg V.int z))
          have b0 : Bd (2 * k + j + 4) (0 : Int) := Bd.small 1 (by decide) (by omega)
          have bt4 : Bd (2 * k + j + 4) t := by
            obtain ⟨_, _, h | ⟨h, _⟩ | ⟨_, _, h⟩⟩ := W
            · rw [h]
              exact bst.mono (by omega)
            · exact absurd h c
            · exact h
          refine ⟨_, rfl, _, _, rfl, rfl, _, rfl, ite2 (fun cn => ?_) (fun cn => ?_)⟩
          · have cn : Ld a b t < 0 := of_decide_eq_true cn
            refine ⟨_, rfl, _, rfl, _, rfl, A1, B1, a, b, t, 0, k, 2 * k + j + 4, rfl, T3, bt4, b0, k0, by omega, by omega, fun o H4 s4 ho bo le => ?_⟩
            match o, ho, le with
            | none, ho, le => exact ⟨⟨s13.trans s4, _, .inl ⟨rfl, onw_none W cn ho⟩⟩, muP⟩
            | some x, ho, le =>
              obtain ⟨W', mu'⟩ := onw_step T.ra T.rb bst j0 W cn ho le
              exact ⟨⟨s13.trans s4, _, .inr ⟨_, rfl, W'⟩⟩, mu'⟩
          · have cn : ¬ Ld a b t < 0 := fun z => cn (decide_eq_true z)
            have cp : Ld b a t < 0 := by
              rw [ld_swap]
              omega
            refine ⟨_, rfl, _, rfl, _, rfl, B1, A1, b, a, t, 0, k, 2 * k + j + 4, rfl, T3.flip, bt4, b0, k0, by omega, by omega, fun o H4 s4 ho bo le => ?_⟩
            match o, ho, le with
            | none, ho, le =>
              refine ⟨⟨s13.trans s4, _, .inl ⟨rfl, (onw_none (onw_swap W) cp ho).iff fun x _ => ?_⟩⟩, muP⟩
              rw [ldZ_swap]
            | some x, ho, le =>
              obtain ⟨W', mu'⟩ := onw_step T.rb T.ra bst j0 (onw_swap W) cp ho le
              rw [muN_swap a b (t + x), muN_swap a b t] at mu'
              exact ⟨⟨s13.trans s4, _, .inr ⟨_, rfl, onw_swap W'⟩⟩, mu'⟩
    · rintro σ H1 Q1 Q2 hQ ⟨v, h1, h2, b, h3, h4⟩
      exact ⟨v, h1, h2, b, h3, hQ _ _ h4⟩
end
end Lf
namespace Lf
open PySem PySem.Spec PyProof.Rows L2
def muS : L2.St → Hp → Nat := fun σ _ => match σ with
  | _ :: _ :: some (.int s) :: some (.int e) :: _ => (e - s).toNat
  | _ => 0
theorem nth_in {f : Int → Bool} {st k x sp : Int} (h : NthZ f st k x) (c : k < cB f st (sp - st).toNat) : x < sp := by
  obtain ⟨h1, _, h3⟩ := h
  refine Int.not_le.mp fun z => ?_
  have := cB_mono (f := f) (t := st) (show (sp - st).toNat ≤ (x - st).toNat by omega)
  omega
/-- there is a next one -/
theorem nth_ex {f : Int → Bool} {st k y sp : Int} {o : Option Int} (hy : NthZ f st k y) (c : k + 1 < cB f st (sp - st).toNat) (h : Fst (fun z => f (y + 1 + z) = true) o) : ∃ x, o = some x ∧ NthZ f st (k + 1) (y + 1 + x) ∧ y + 1 + x < sp := by
  have l := nth_in hy (show k < cB f st (sp - st).toNat by omega)
  match o, h with
  | none, h =>
    have z := fst_no (n := (sp - (y + 1)).toNat) h
    obtain ⟨h1, h2, h3⟩ := hy
    have e : (sp - st).toNat = (y - st).toNat + (1 + (sp - (y + 1)).toNat) := by omega
    rw [e, cB_split, cB_split, h3, show st + ((y - st).toNat : Int) = y by omega, cB_one h2] at c
    rw [show y + ((1 : Nat) : Int) = y + 1 by omega, z] at c
    omega
  | some x, h =>
    have n := nth_next hy h
    exact ⟨x, rfl, n, nth_in n c⟩
theorem nth_zero {f : Int → Bool} {st sp : Int} {o : Option Int} (c : 0 < cB f st (sp - st).toNat) (h : Fst (fun z => f (st + z) = true) o) : ∃ x, o = some x ∧ NthZ f st 0 (st + x) ∧ st + x < sp := by
  match o, h with
  | none, h =>
    have z := fst_no (n := (sp - st).toNat) h
    omega
  | some x, h =>
    have n := nth_first h
    exact ⟨x, rfl, n, nth_in n c⟩
section
variable {P : Program} {w : World} {K : PySem.W.Frag} {mg : Str → Option Value} {base : Heap}
/-! ### search_agreement -/
def spSearch : Sp := fun vs H Q _ => ∃ (A B : Addr) (a b : Rl) (st sp nu : Int) (k j : Nat), vs = [.ref A, .ref B, .int st, .int sp, .int nu] ∧ Two k A B a b H ∧ Bd j st ∧ Bd j sp ∧ 0 < k ∧ k ≤ j ∧ 5 * k + j ≤ 1969 ∧ 0 ≤ nu ∧ nu < cB (ldZ a b) st (sp - st).toNat ∧
  ∀ x H', Same H H' → NthZ (ldZ a b) st nu x → x < sp → Q (.int x) H'
abbrev s_search_agreement : Stmt := topS 43
abbrev N_search_agreement : List Str := ["first", "second", "start", "stop", "number", "middle", "found", "time", "step"]
abbrev P_search_agreement : List Str := ["first", "second", "start", "stop", "number"]
theorem sc_search_agreement : FnScope N_search_agreement P_search_agreement (defScope s_search_agreement) := ⟨rfl, rfl, rfl, by decide +kernel, rfl, by decide +kernel, by decide +kernel⟩
theorem ok_search_agreement (D : Df K mg "search_agreement" s_search_agreement P_search_agreement) (B : Bi mg) (U : Bf mg) (c_compare_counts : C8.Cal P w K mg base 7 "compare_counts" spCmp []) (c_next_agreement : C8.Cal P w K mg base 7 "next_agreement" spNA []) : C8.Cal P w K mg base 8 "search_agreement" spSearch [] := by
  refine cal_of D sc_search_agreement (fun vs H Q E h => ?_) (fun f cdv A outer s H vs Q E hr h => ?_)
  · obtain ⟨A, B, a, b, st, sp, nu, k, j, rfl, _⟩ := h
    rfl
  · obtain ⟨A1, B1, a, b, st, sp, nu, k, j, rfl, T, bst, bsp, k0, kj, jj, n0, nc, q⟩ := h
    obtain ⟨tF, hc_FEW⟩ := U.few_
    refine ⟨_, (pss_cons (ps_while PassesOwn.never (pt_cmpR op_gt (pv 4) (pe_glob (v := .int 20) (by rfl) hc_FEW ⟨_, rfl⟩) (nomark _))
      (pss_cons (ps_set (i := 5) sc_search_agreement.nd rfl (Or.inl rfl) (pe_op op_fdiv (pe_op op_add (pv 2) (pv 3)) pe_int))
    (pss_cons (ps_set (i := 6) sc_search_agreement.nd rfl (Or.inl rfl) (pe_ix (r := rIxT K) ix_tup (C8.pe_c c_compare_counts hr (by decide) (by rfl) (pa_cons (pv 0) (pa_cons (pv 1) (pa_cons (pv 2) (pa_cons (pv 5) pa_nil))))) pe_int (fun _ _ => rfl)))
    (pss_one (ps_if (pt_cmpR op_gt (pv 6) (pv 4) (nomark _))
      (pss_one (ps_set (i := 3) sc_search_agreement.nd rfl (Or.inl rfl) (pv 5)))
      (pss_one (ps_par (i := 2) (j := 4) rfl sc_search_agreement.nd rfl rfl (by decide) rfl rfl (pa_cons (pv 5) (pa_cons (pe_op op_sub (pv 4) (pv 6)) pa_nil)) rfl)))))))
    (pss_cons (ps_set (i := 7) sc_search_agreement.nd rfl (Or.inl rfl) (C8.pe_c c_next_agreement hr (by decide) (by rfl) (pa_cons (pv 0) (pa_cons (pv 1) (pa_cons (pv 2) pa_nil)))))
    (pss_cons (ps_for PassesOwn.never rfl (pi_range1 rfl B.range_ (pa_cons (pv 4) pa_nil)) (pg_name (i := 8) sc_search_agreement.nd rfl (Or.inl rfl))
      (pss_one (ps_set (i := 7) sc_search_agreement.nd rfl (Or.inl rfl) (C8.pe_c c_next_agreement hr (by decide) (by rfl) (pa_cons (pv 0) (pa_cons (pv 1) (pa_cons (pe_op op_add (pv 7) pe_int) pa_nil)))))))
    (pss_one (ps_ret (pv 7)))))), ?_⟩
    have aq := T.ra.q1
    have bq := T.rb.q1
    refine while_by (fun σ H' => Same H H' ∧ ∃ (st' sp' nu' : Int) (y5 y6 : Option V), σ = [some (.ref A1), some (.ref B1), some (.int st'), some (.int sp'), some (.int nu'), y5, y6, none, none] ∧ st ≤ st' ∧ sp' ≤ sp ∧ 0 ≤ nu' ∧ nu' < cB (ldZ a b) st' (sp' - st').toNat ∧ ∀ x, NthZ (ldZ a b) st' nu' x → NthZ (ldZ a b) st nu x) muS ⟨Same.refl _, st, sp, nu, none, none, rfl, Int.le_refl _, Int.le_refl _, n0, nc, fun x h => h⟩ ?_ ?_
    · rintro σ H1 ⟨s1, st', sp', nu', y5, y6, rfl, w1, w2, w3, w4, w5⟩
      have T1 := T.same s1
      have len := cB_nn (ldZ a b) st' (sp' - st').toNat
      have bst' : Bd j st' := bst.mid bsp w1 (by omega)
      have bsp' : Bd j sp' := bst.mid bsp (by omega) w2
      refine ⟨_, rfl, _, _, rfl, rfl, _, rfl, ite2 (fun c => ?_) (fun c => ?_)⟩
      · have c : 20 < nu' := of_decide_eq_true c
        refine ⟨_, rfl, _, rfl, _, _, rfl, rfl, _, _, rfl, rfl, ⟨by decide, by decide⟩, ?_⟩
        dsimp only
        obtain ⟨md, hmd⟩ : ∃ m, m = (st' + sp') / 2 := ⟨_, rfl⟩
        rw [← hmd]
        have m1 : st' < md := by omega
        have m2 : md < sp' := by omega
        have bmd : Bd j md := bst'.mid bsp' (by omega) (by omega)
        refine ⟨_, rfl, _, rfl, _, rfl, _, rfl, A1, B1, a, b, st', md, j, rfl, T1.mono kj, bst', bmd, by omega, by omega, fun r H2 s2 er _ => ?_⟩
        refine ⟨r, _, _, _, rfl, rfl, SqT.of er, atI_nat (j := 1) rfl, ?_⟩
        rw [cZ_eq]
        have sp1 := cB_split (ldZ a b) st' (md - st').toNat (sp' - md).toNat
        rw [show (md - st').toNat + (sp' - md).toNat = (sp' - st').toNat by omega, show st' + ((md - st').toNat : Int) = md by omega] at sp1
        obtain ⟨fo, hfo⟩ : ∃ z, z = cB (ldZ a b) st' (md - st').toNat := ⟨_, rfl⟩
        rw [← hfo] at sp1 ⊢
        have fo0 := cB_nn (ldZ a b) st' (md - st').toNat
        refine ⟨_, rfl, _, rfl, _, _, rfl, rfl, _, rfl, ite2 (fun c2 => ?_) (fun c2 => ?_)⟩
        · have c2 : nu' < fo := of_decide_eq_true c2
          refine ⟨_, rfl, ⟨s1.trans s2, st', md, nu', _, _, rfl, w1, by omega, w3, by omega, w5⟩, ?_⟩
          show (md - st').toNat < (sp' - st').toNat
          omega
        · have c2 : ¬ nu' < fo := fun z => c2 (decide_eq_true z)
          refine ⟨_, rfl, _, rfl, _, rfl, _, _, rfl, rfl, _, _, rfl, ⟨s1.trans s2, md, sp', nu' - fo, _, _, rfl, by omega, w2, by omega, by omega, fun x hx => w5 x (nth_move (by omega) hfo.symm hx)⟩, ?_⟩
          show (sp' - md).toNat < (sp' - st').toNat
          omega
      · have c : ¬ 20 < nu' := fun z => c (decide_eq_true z)
        refine ⟨_, rfl, _, rfl, _, rfl, A1, B1, a, b, st', k, j, rfl, T1, bst', k0, kj, by omega, fun o H2 s2 ho _ => ?_⟩
        obtain ⟨x0, rfl, hn0, hl0⟩ := nth_zero (sp := sp') (by omega) ho
        refine ⟨_, rfl, nu', rfl, by omega, by omega, ?_⟩
        refine for_range (lo := 0) (n := nu'.toNat) (fun i σ H' => Same H H' ∧ ∃ (y : Option V) (t : Int), σ = [some (.ref A1), some (.ref B1), some (.int st'), some (.int sp'), some (.int nu'), y5, y6, some (.int t), y] ∧ NthZ (ldZ a b) st' i t ∧ t < sp') ⟨s1.trans s2, _, _, rfl, hn0, hl0⟩ ?_ ?_
        · rintro i σ H3 hi ⟨s3, y, t, rfl, ht, hl⟩
          have bt : Bd (j + 1) (t + 1) := Bd.add (bst'.mid bsp' ht.1 (by omega)) (Bd.small 1 (by decide) (by omega))
          refine ⟨_, rfl, _, rfl, _, rfl, _, _, rfl, rfl, A1, B1, a, b, t + 1, k, j + 1, rfl, T.same s3, bt, k0, by omega, by omega, fun o H4 s4 ho _ => ?_⟩
          obtain ⟨x, rfl, hn, hl'⟩ := nth_ex (sp := sp') ht (by omega) ho
          exact ⟨s3.trans s4, _, _, rfl, hn, hl'⟩
        · rintro σ H3 ⟨s3, y, t, rfl, ht, hl⟩
          refine ⟨_, rfl, q t H3 s3 (w5 t ?_) (by omega)⟩
          rw [show nu' = ((nu'.toNat : Nat) : Int) by omega]
          exact ht
    · rintro σ H1 Q1 Q2 hQ ⟨v, h1, i, j, h2, h3, b, h4, h5⟩
      exact ⟨v, h1, i, j, h2, h3, b, h4, hQ _ _ h5⟩
/-! ### nth_agreement -/
def NthO (f : Int → Bool) (st k : Int) : Option Int → Prop
  | some x => NthZ f st k x
  | none => ∀ n : Nat, cB f st n ≤ k
theorem per_no {a b : Rl} (ga : Int.gcd a.p a.q = 1) (ha : 1 ≤ a.q) (ep : a.p = b.p) (eq : a.q = b.q) (z : ¬ 0 < a.q - ((a.c - b.c).natAbs : Int)) (t : Int) : ldZ a b t = false := by
  have h := per_zero (t := t) ga ha ep eq
  rw [if_neg z] at h
  cases hh : ldZ a b t with
  | false => rfl
  | true =>
    have h1 := cB_one hh
    have h2 := cB_mono (f := ldZ a b) (t := t) (show 1 ≤ a.q.toNat by omega)
    omega
theorem per_many {a b : Rl} (ga : Int.gcd a.p a.q = 1) (ha : 1 ≤ a.q) (ep : a.p = b.p) (eq : a.q = b.q) (t : Int) : ∀ m : Nat, cB (ldZ a b) t (m * a.q.toNat) = m * (if 0 < a.q - ((a.c - b.c).natAbs : Int) then a.q - ((a.c - b.c).natAbs : Int) else 0)
  | 0 => by
    rw [Nat.zero_mul, Int.natCast_zero, Int.zero_mul]
    rfl
  | m + 1 => by
    rw [Nat.succ_mul, cB_split, per_many ga ha ep eq t m, per_zero ga ha ep eq]
    rw [show ((m + 1 : Nat) : Int) = (m : Int) + 1 by omega, Int.add_mul, Int.one_mul]
def spNth : Sp := fun vs H Q _ => ∃ (A B : Addr) (a b : Rl) (st nu : Int) (k j : Nat), vs = [.ref A, .ref B, .int st, .int nu] ∧ Two k A B a b H ∧ Bd j st ∧ Bd j nu ∧ 0 < k ∧ k ≤ j ∧ 7 * k + j ≤ 1950 ∧ 0 ≤ nu ∧
  ∀ o H', Same H H' → NthO (ldZ a b) st nu o → BdO (2 * k + j + 6) o → Q (oV o) H'
abbrev s_nth_agreement : Stmt := topS 32
abbrev N_nth_agreement : List Str := ["first", "second", "start", "number", "each", "begin", "stop"]
abbrev P_nth_agreement : List Str := ["first", "second", "start", "number"]
theorem sc_nth_agreement : FnScope N_nth_agreement P_nth_agreement (defScope s_nth_agreement) := ⟨rfl, rfl, rfl, by decide +kernel, rfl, by decide +kernel, by decide +kernel⟩
theorem ok_nth_agreement (D : Df K mg "nth_agreement" s_nth_agreement P_nth_agreement) (B : Bi mg) (c_check_rules : C8.Cal P w K mg base 4 "check_rules" spChk2 []) (c_check_integer : C8.Cal P w K mg base 2 "check_integer" spCheckInt []) (c_check_at_least : C8.Cal P w K mg base 2 "check_at_least" spCheckAL []) (c_cycle_agreements : C8.Cal P w K mg base 1 "cycle_agreements" spCyA []) (c_close_times : C8.Cal P w K mg base 2 "close_times" spClT []) (c_compare_counts : C8.Cal P w K mg base 7 "compare_counts" spCmp []) (c_search_agreement : C8.Cal P w K mg base 8 "search_agreement" spSearch []) : C8.Cal P w K mg base 9 "nth_agreement" spNth [] := by
  refine cal_of D sc_nth_agreement (fun vs H Q E h => ?_) (fun f cdv A outer s H vs Q E hr h => ?_)
  · obtain ⟨A, B, a, b, st, nu, k, j, rfl, _⟩ := h
    rfl
  · obtain ⟨A1, B1, a, b, st, nu, k, j, rfl, T, bst, bnu, k0, kj, jj, n0, q⟩ := h
    refine ⟨_, (pss_cons (ps_expr (C8.pe_c c_check_rules hr (by decide) (by rfl) (pa_cons (pv 0) (pa_cons (pv 1) pa_nil))))
    (pss_cons (ps_expr (C8.pe_c c_check_integer hr (by decide) (by rfl) (pa_cons (pv 2) pa_nil)))
    (pss_cons (ps_expr (C8.pe_c c_check_at_least hr (by decide) (by rfl) (pa_cons (pv 3) (pa_cons pe_int pa_nil))))
    (pss_cons (ps_if (pt_cmpR (op_eqD hr.units) (pe_slice sl_tup (pv 0) po_none (po_some pe_int)) (pe_slice sl_tup (pv 1) po_none (po_some pe_int)) (nomark _))
      (pss_cons (ps_set (i := 4) sc_nth_agreement.nd rfl (Or.inl rfl) (C8.pe_c c_cycle_agreements hr (by decide) (by rfl) (pa_cons (pv 0) (pa_cons (pv 1) pa_nil))))
    (pss_cons (ps_if (pt_cmpR op_eq (pv 4) pe_int (nomark _))
      (pss_one (ps_ret pe_non))
      pss_nil)
    (pss_cons (ps_aug (i := 2) sc_nth_agreement.nd rfl (Or.inl rfl) (pe_op op_mulW (pe_op op_fdivW (pv 3) (pv 4)) (pe_ix (r := rIxT K) ix_tup (pv 0) pe_int (fun _ _ => rfl))) ip_add)
    (pss_one (ps_ret (C8.pe_c c_search_agreement hr (by decide) (by rfl) (pa_cons (pv 0) (pa_cons (pv 1) (pa_cons (pv 2) (pa_cons (pe_op op_add (pv 2) (pe_ix (r := rIxT K) ix_tup (pv 0) pe_int (fun _ _ => rfl))) (pa_cons (pe_op op_mod (pv 3) (pv 4)) pa_nil)))))))))))
      pss_nil)
    (pss_cons (ps_asg (C8.pe_c c_close_times hr (by decide) (by rfl) (pa_cons (pv 0) (pa_cons (pv 1) pa_nil))) (pg_tup rfl (pgs_cons (pg_name (i := 5) sc_nth_agreement.nd rfl (Or.inl rfl)) (pgs_cons (pg_name (i := 6) sc_nth_agreement.nd rfl (Or.inl rfl)) pgs_nil))))
    (pss_cons (ps_set (i := 2) sc_nth_agreement.nd rfl (Or.inl rfl) (pe_callB (call_max2 rfl) (by rfl) B.max_ bt_max (pa_cons (pv 2) (pa_cons (pv 5) pa_nil))))
    (pss_cons (ps_if (pt_cmpR op_le (pe_ix (r := rIxT K) ix_tup (C8.pe_c c_compare_counts hr (by decide) (by rfl) (pa_cons (pv 0) (pa_cons (pv 1) (pa_cons (pv 2) (pa_cons (pv 6) pa_nil))))) pe_int (fun _ _ => rfl)) (pv 3) (nomark _))
      (pss_one (ps_ret pe_non))
      pss_nil)
    (pss_one (ps_ret (C8.pe_c c_search_agreement hr (by decide) (by rfl) (pa_cons (pv 0) (pa_cons (pv 1) (pa_cons (pv 2) (pa_cons (pv 6) (pa_cons (pv 3) pa_nil))))))))))))))), ?_⟩
    have aq := T.ra.q1
    have bq := T.rb.q1
    refine ⟨_, rfl, _, rfl, A1, B1, a, b, k, rfl, T, fun H1 s1 => ?_⟩
    have T1 := T.same s1
    refine ⟨_, rfl, st, rfl, _, rfl, _, _, rfl, n0, ?_⟩
    refine ⟨_, rfl, 2, rfl, A1, _, rfl, SqT.of T1.ea, (fun z => absurd z.2 (show ¬ HT.sIx 3 3 (some 2) = 3 by decide)), fun t1 n1 => ?_⟩
    have z1 := sm_upd (o := .tup (cutV [V.int a.p, .int a.q, .int a.c] none (some 2))) n1
    have e1 : upd H1 t1 (.tup (cutV [V.int a.p, .int a.q, .int a.c] none (some 2))) t1 = some (.tup ([a.p, a.q].map V.int)) := upd_same
    have T2 := T1.same z1
    generalize upd H1 t1 (.tup (cutV [V.int a.p, .int a.q, .int a.c] none (some 2))) = H2 at z1 e1 T2
    refine ⟨_, rfl, 2, rfl, B1, _, rfl, SqT.of T2.eb, (fun z => absurd z.2 (show ¬ HT.sIx 3 3 (some 2) = 3 by decide)), fun t2 n2 => ?_⟩
    have z2 := sm_upd (o := .tup (cutV [V.int b.p, .int b.q, .int b.c] none (some 2))) n2
    have e2 : upd H2 t2 (.tup (cutV [V.int b.p, .int b.q, .int b.c] none (some 2))) t2 = some (.tup ([b.p, b.q].map V.int)) := upd_same
    have e1 := z2 _ _ e1
    have T3 := T2.same z2
    generalize upd H2 t2 (.tup (cutV [V.int b.p, .int b.q, .int b.c] none (some 2))) = H3 at z2 e1 e2 T3
    have s13 := s1.trans (z1.trans z2)
    refine ⟨.tuple ([a.p, a.q].map PyData.int), .tuple ([b.p, b.q].map PyData.int), Dp.tup (SqT.of e1) (dpAll_ints _), Dp.tup (SqT.of e2) (dpAll_ints _), rfl, rfl, _, rfl, ?_⟩
    have D0 : Bd (j + 2 * k + 5) st := bst.mono (by omega)
    by_cases cs : a.p = b.p ∧ a.q = b.q
    · obtain ⟨ep, eq⟩ := cs
      rw [show PyData.eqv (.tuple ([a.p, a.q].map PyData.int)) (.tuple ([b.p, b.q].map PyData.int)) = true by rw [ep, eq]; exact SeqAt.eqv_refl _ rfl]
      refine iteT ?_
      refine ⟨_, rfl, _, rfl, A1, B1, a, b, k, rfl, T3, ?_⟩
      have pn := fun t => per_no (t := t) T.ra.g aq ep eq
      have pm := fun t m => per_many T.ra.g aq ep eq t m
      have pz := fun t => per_zero (t := t) T.ra.g aq ep eq
      obtain ⟨z, hz⟩ : ∃ z, z = (if 0 < a.q - ((a.c - b.c).natAbs : Int) then a.q - ((a.c - b.c).natAbs : Int) else 0) := ⟨_, rfl⟩
      rw [← hz] at pm pz ⊢
      refine ⟨_, rfl, rfl, _, rfl, ite2 (fun c => ?_) (fun c => ?_)⟩
      · have c : z = 0 := V.int.inj (of_decide_eq_true c)
        have no : ¬ 0 < a.q - ((a.c - b.c).natAbs : Int) := fun y => by
          rw [if_pos y] at hz
          omega
        refine q none H3 s13 (fun n => ?_) (fun x e => nomatch e)
        rw [cB_zero fun i _ => pn _ no]
        exact n0
      · have c : z ≠ 0 := fun y => c (decide_eq_true (congrArg V.int y))
        have z0 : 0 < z := by
          by_cases y : 0 < a.q - ((a.c - b.c).natAbs : Int)
          · rw [if_pos y] at hz
            omega
          · rw [if_neg y] at hz
            exact absurd hz c
        have zq : z ≤ a.q := by
          by_cases y : 0 < a.q - ((a.c - b.c).natAbs : Int)
          · rw [if_pos y] at hz
            omega
          · rw [if_neg y] at hz
            omega
        have bz : Bd k z := T.ra.bq.between (by omega) zq
        have bm : Bd j (nu / z) := bnu.ediv z0
        have m0 : 0 ≤ nu / z := Int.ediv_nonneg n0 (by omega)
        have bmq : Bd (j + k) (nu / z * a.q) := Bd.mul bm T.ra.bq
        refine ⟨_, rfl, _, rfl, _, rfl, _, _, rfl, rfl, divW z0 bz (by omega), _, rfl, A1, _, _, _, rfl, rfl, SqT.of T3.ea, atI_nat (j := 1) rfl, _, _, rfl, rfl, mulW bm T.ra.bq (by omega) k0 (by omega), ?_⟩
        refine ⟨_, _, rfl, rfl, ?_⟩
        obtain ⟨m, hm⟩ : ∃ m : Nat, (m : Int) = nu / z := ⟨(nu / z).toNat, by omega⟩
        have r0 := Int.emod_nonneg nu c
        have r1 := Int.emod_lt_of_pos nu z0
        have re := Int.emod_add_mul_ediv nu z
        have bst' : Bd (j + k + 1) (st + nu / z * a.q) := Bd.add (bst.mono (by omega)) bmq
        have bsp' : Bd (j + k + 2) (st + nu / z * a.q + a.q) := Bd.add bst' (T.ra.bq.mono (by omega))
        have qz : (st + nu / z * a.q + a.q - (st + nu / z * a.q)).toNat = a.q.toNat := by omega
        refine ⟨_, rfl, _, rfl, _, rfl, _, rfl, _, rfl, A1, _, _, _, rfl, rfl, SqT.of T3.ea, atI_nat (j := 1) rfl, _, _, rfl, rfl, _, rfl, _, rfl, _, _, rfl, rfl, z0, A1, B1, a, b, st + nu / z * a.q, st + nu / z * a.q + a.q, nu % z, k, j + k + 2, rfl, T3, bst'.mono (by omega), bsp', k0, by omega, by omega, r0, by rw [qz, pz]; exact r1, fun x H4 s4 hx hl => ?_⟩
        refine q (some x) H4 (s13.trans s4) (nth_move (c := nu / z * z) ?_ ?_ (by rw [show nu - nu / z * z = nu % z by rw [Int.mul_comm]; omega]; exact hx)) (fun y hy => ?_)
        · have := Int.mul_nonneg m0 (show 0 ≤ a.q by omega)
          omega
        · have e : (st + nu / z * a.q - st).toNat = m * a.q.toNat := by
            rw [show st + nu / z * a.q - st = nu / z * a.q by omega, ← hm]
            have : ((m * a.q.toNat : Nat) : Int) = m * a.q := by
              rw [Int.natCast_mul]
              congr 1
              omega
            omega
          rw [e, pm, hm]
        · cases hy
          exact (Bd.mid (k := j + k + 2) (bst'.mono (by omega)) bsp' hx.1 (by omega)).mono (by omega)
    · have s0 : slp a b ≠ 0 := fun z => cs (rate_eq T.ra T.rb z)
      have ef : PyData.eqv (.tuple ([a.p, a.q].map PyData.int)) (.tuple ([b.p, b.q].map PyData.int)) = false := by
        cases hh : PyData.eqv (.tuple ([a.p, a.q].map PyData.int)) (.tuple ([b.p, b.q].map PyData.int)) with
        | false => rfl
        | true =>
          simp only [List.map_cons, List.map_nil, PyData.eqv, PyData.eqvAll, Bool.and_true, Bool.and_eq_true, beq_iff_eq] at hh
          exact absurd hh cs
      rw [ef]
      refine iteF ?_
      refine ⟨_, rfl, _, rfl, A1, B1, a, b, k, rfl, T3, k0, by omega, s0, fun r H4 e1' e2' s4 er cl b1 b2 => ?_⟩
      have T4 := T3.same s4
      refine ⟨r, _, rfl, SqT.of er, rfl, _, _, rfl, _, _, rfl, rfl, ?_⟩
      refine ⟨_, rfl, _, rfl, _, _, rfl, ?_⟩
      have mx : ∃ m : Int, m = (if e1' > st then e1' else st) ∧ st ≤ m ∧ Bd (2 * k + j + 5) m ∧ ∀ t, st ≤ t → Ld a b t = 0 → m ≤ t := by
        by_cases c : e1' > st
        · exact ⟨e1', by rw [if_pos c], by omega, b1.mono (by omega), fun t h1 h2 => (cl.2 t h2).1⟩
        · exact ⟨st, by rw [if_neg c], by omega, bst.mono (by omega), fun t h1 h2 => h1⟩
      obtain ⟨m, em, m1, bm, mm⟩ := mx
      rw [← em]
      have b2' : Bd (2 * k + j + 5) e2' := b2.mono (by omega)
      refine ⟨_, rfl, _, rfl, _, rfl, _, rfl, A1, B1, a, b, m, e2', 2 * k + j + 5, rfl, T4.mono (by omega), bm, b2', by omega, by omega, fun r2 H5 s5 er2 _ => ?_⟩
      refine ⟨r2, _, _, _, rfl, rfl, SqT.of er2, atI_nat (j := 1) rfl, ?_⟩
      rw [cZ_eq]
      have T5 := T4.same s5
      have s15 := s13.trans (s4.trans s5)
      have pre : cB (ldZ a b) st (m - st).toNat = 0 := cB_zero fun i hi => decide_eq_false fun z => by
        have := mm (st + i) (by omega) z
        omega
      refine ⟨_, rfl, _, _, rfl, rfl, _, rfl, ite2 (fun c => ?_) (fun c => ?_)⟩
      · have c : cB (ldZ a b) m (e2' - m).toNat ≤ nu := of_decide_eq_true c
        refine q none H5 s15 (fun n => ?_) (fun x e => nomatch e)
        have h1 : cB (ldZ a b) st n ≤ cB (ldZ a b) st ((m - st).toNat + ((e2' - m).toNat + n)) := cB_mono (by omega)
        rw [cB_split, cB_split, pre, show st + ((m - st).toNat : Int) = m by omega] at h1
        have h2 : cB (ldZ a b) (m + ((e2' - m).toNat : Int)) n = 0 := cB_zero fun i hi => decide_eq_false fun z => by
          have := cl.2 _ z
          omega
        omega
      · have c : ¬ cB (ldZ a b) m (e2' - m).toNat ≤ nu := fun z => c (decide_eq_true z)
        refine ⟨_, rfl, _, rfl, _, rfl, _, rfl, _, rfl, A1, B1, a, b, m, e2', nu, k, 2 * k + j + 5, rfl, T5, bm, b2', k0, by omega, by omega, n0, by omega, fun x H6 s6 hx hl => ?_⟩
        refine q (some x) H6 (s15.trans s6) (nth_move m1 pre (by rw [Int.sub_zero]; exact hx)) (fun y hy => ?_)
        cases hy
        exact (bm.mid b2' hx.1 (by omega)).mono (by omega)
/-! ### all_agreements -/
def perZ (a b : Rl) : Int := if 0 < a.q - ((a.c - b.c).natAbs : Int) then a.q - ((a.c - b.c).natAbs : Int) else 0
def AllA (k : Nat) (a b : Rl) (H : Hp) (r : Addr) : Prop :=
  (a.p = b.p ∧ a.q = b.q ∧ 0 < perZ a b ∧ H r = some (.tup [.str "periodic", .int (perZ a b), .int a.q])) ∨
  ((∀ t, ldZ a b t = false) ∧ H r = some (.tup [.str "none"])) ∨
  (slp a b ≠ 0 ∧ ∃ f l : Int, ldZ a b f = true ∧ ldZ a b l = true ∧ (∀ t, ldZ a b t = true → f ≤ t ∧ t ≤ l) ∧ Bd (2 * k + 4) f ∧ Bd (2 * k + 4) l ∧ H r = some (.tup [.str "finite", .int f, .int l, .int (cB (ldZ a b) f (l + 1 - f).toNat)]))
def spAll : Sp := fun vs H Q _ => ∃ (A B : Addr) (a b : Rl) (k : Nat), vs = [.ref A, .ref B] ∧ Two k A B a b H ∧ 0 < k ∧ k ≤ 270 ∧ ∀ r H', Same H H' → AllA k a b H' r → Q (.ref r) H'
theorem mir_zero {a b : Rl} (ha : 1 ≤ a.q) (hb : 1 ≤ b.q) (t : Int) : ldZ a.mir b.mir t = ldZ a b (-t) := by
  unfold ldZ
  rw [mir_ld hb ha, ld_swap a b]
  by_cases z : Ld a b (-t) = 0
  · rw [decide_eq_true z, decide_eq_true (by omega)]
  · rw [decide_eq_false z, decide_eq_false (by omega)]
abbrev s_all_agreements : Stmt := topS 33
abbrev N_all_agreements : List Str := ["first", "second", "each", "begin", "end", "earliest", "latest"]
abbrev P_all_agreements : List Str := ["first", "second"]
theorem sc_all_agreements : FnScope N_all_agreements P_all_agreements (defScope s_all_agreements) := ⟨rfl, rfl, rfl, by decide +kernel, rfl, by decide +kernel, by decide +kernel⟩
theorem ok_all_agreements (D : Df K mg "all_agreements" s_all_agreements P_all_agreements) (c_check_rules : C8.Cal P w K mg base 4 "check_rules" spChk2 []) (c_mirror_rule : C8.Cal P w K mg base 4 "mirror_rule" spMirror []) (c_cycle_agreements : C8.Cal P w K mg base 1 "cycle_agreements" spCyA []) (c_close_times : C8.Cal P w K mg base 2 "close_times" spClT []) (c_compare_counts : C8.Cal P w K mg base 7 "compare_counts" spCmp []) (c_next_agreement : C8.Cal P w K mg base 7 "next_agreement" spNA []) : C8.Cal P w K mg base 8 "all_agreements" spAll [] := by
  refine cal_of D sc_all_agreements (fun vs H Q E h => ?_) (fun f cdv A outer s H vs Q E hr h => ?_)
  · obtain ⟨A, B, a, b, k, rfl, _⟩ := h
    rfl
  · obtain ⟨A1, B1, a, b, k, rfl, T, k0, k4, q⟩ := h
    refine ⟨_, (pss_cons (ps_expr (C8.pe_c c_check_rules hr (by decide) (by rfl) (pa_cons (pv 0) (pa_cons (pv 1) pa_nil))))
    (pss_cons (ps_if (pt_cmpR (op_eqD hr.units) (pe_slice sl_tup (pv 0) po_none (po_some pe_int)) (pe_slice sl_tup (pv 1) po_none (po_some pe_int)) (nomark _))
      (pss_cons (ps_set (i := 2) sc_all_agreements.nd rfl (Or.inl rfl) (C8.pe_c c_cycle_agreements hr (by decide) (by rfl) (pa_cons (pv 0) (pa_cons (pv 1) pa_nil))))
    (pss_one (ps_ret (pe_ifExp (pt_cmpR op_gt (pv 2) pe_int (nomark _)) (pe_tup (pa_cons pe_str (pa_cons (pv 2) (pa_cons (pe_ix (r := rIxT K) ix_tup (pv 0) pe_int (fun _ _ => rfl)) pa_nil)))) (pe_tup (pa_cons pe_str pa_nil))))))
      pss_nil)
    (pss_cons (ps_asg (C8.pe_c c_close_times hr (by decide) (by rfl) (pa_cons (pv 0) (pa_cons (pv 1) pa_nil))) (pg_tup rfl (pgs_cons (pg_name (i := 3) sc_all_agreements.nd rfl (Or.inl rfl)) (pgs_cons (pg_name (i := 4) sc_all_agreements.nd rfl (Or.inl rfl)) pgs_nil))))
    (pss_cons (ps_set (i := 5) sc_all_agreements.nd rfl (Or.inl rfl) (C8.pe_c c_next_agreement hr (by decide) (by rfl) (pa_cons (pv 0) (pa_cons (pv 1) (pa_cons (pv 3) pa_nil)))))
    (pss_cons (ps_if (pt_cmpR op_isN (pv 5) pe_non (nomark _))
      (pss_one (ps_ret (pe_tup (pa_cons pe_str pa_nil))))
      pss_nil)
    (pss_cons (ps_set (i := 6) sc_all_agreements.nd rfl (Or.inl rfl) (pe_un un_neg (C8.pe_c c_next_agreement hr (by decide) (by rfl) (pa_cons (C8.pe_c c_mirror_rule hr (by decide) (by rfl) (pa_cons (pv 0) pa_nil)) (pa_cons (C8.pe_c c_mirror_rule hr (by decide) (by rfl) (pa_cons (pv 1) pa_nil)) (pa_cons (pe_op op_sub pe_int (pv 4)) pa_nil))))))
    (pss_one (ps_ret (pe_tup (pa_cons pe_str (pa_cons (pv 5) (pa_cons (pv 6) (pa_cons (pe_ix (r := rIxT K) ix_tup (C8.pe_c c_compare_counts hr (by decide) (by rfl) (pa_cons (pv 0) (pa_cons (pv 1) (pa_cons (pv 5) (pa_cons (pe_op op_add (pv 6) pe_int) pa_nil))))) pe_int (fun _ _ => rfl)) pa_nil))))))))))))), ?_⟩
    have aq := T.ra.q1
    have bq := T.rb.q1
    refine ⟨_, rfl, _, rfl, A1, B1, a, b, k, rfl, T, fun H1 s1 => ?_⟩
    have T1 := T.same s1
    refine ⟨_, rfl, 2, rfl, A1, _, rfl, SqT.of T1.ea, (fun z => absurd z.2 (show ¬ HT.sIx 3 3 (some 2) = 3 by decide)), fun t1 n1 => ?_⟩
    have z1 := sm_upd (o := .tup (cutV [V.int a.p, .int a.q, .int a.c] none (some 2))) n1
    have e1 : upd H1 t1 (.tup (cutV [V.int a.p, .int a.q, .int a.c] none (some 2))) t1 = some (.tup ([a.p, a.q].map V.int)) := upd_same
    have T2 := T1.same z1
    generalize upd H1 t1 (.tup (cutV [V.int a.p, .int a.q, .int a.c] none (some 2))) = H2 at z1 e1 T2
    refine ⟨_, rfl, 2, rfl, B1, _, rfl, SqT.of T2.eb, (fun z => absurd z.2 (show ¬ HT.sIx 3 3 (some 2) = 3 by decide)), fun t2 n2 => ?_⟩
    have z2 := sm_upd (o := .tup (cutV [V.int b.p, .int b.q, .int b.c] none (some 2))) n2
    have e2 : upd H2 t2 (.tup (cutV [V.int b.p, .int b.q, .int b.c] none (some 2))) t2 = some (.tup ([b.p, b.q].map V.int)) := upd_same
    have e1 := z2 _ _ e1
    have T3 := T2.same z2
    generalize upd H2 t2 (.tup (cutV [V.int b.p, .int b.q, .int b.c] none (some 2))) = H3 at z2 e1 e2 T3
    have s13 := s1.trans (z1.trans z2)
    refine ⟨.tuple ([a.p, a.q].map PyData.int), .tuple ([b.p, b.q].map PyData.int), Dp.tup (SqT.of e1) (dpAll_ints _), Dp.tup (SqT.of e2) (dpAll_ints _), rfl, rfl, _, rfl, ?_⟩
    by_cases cs : a.p = b.p ∧ a.q = b.q
    · obtain ⟨ep, eq⟩ := cs
      rw [show PyData.eqv (.tuple ([a.p, a.q].map PyData.int)) (.tuple ([b.p, b.q].map PyData.int)) = true by rw [ep, eq]; exact SeqAt.eqv_refl _ rfl]
      refine iteT ?_
      refine ⟨_, rfl, _, rfl, A1, B1, a, b, k, rfl, T3, ?_⟩
      refine ⟨_, rfl, _, _, rfl, rfl, _, rfl, ite2 (fun c => ?_) (fun c => ?_)⟩
      · have c : 0 < perZ a b := of_decide_eq_true c
        refine ⟨_, rfl, _, rfl, A1, _, _, _, rfl, rfl, SqT.of T3.ea, atI_nat (j := 1) rfl, len10 (by simp), fun r nr => ?_⟩
        exact q r _ (s13.trans (sm_upd nr)) (.inl ⟨ep, eq, c, upd_same⟩)
      · have c : ¬ 0 < perZ a b := fun z => c (decide_eq_true z)
        refine ⟨len10 (by simp), fun r nr => q r _ (s13.trans (sm_upd nr)) (.inr (.inl ⟨per_no T.ra.g aq ep eq fun y => c ?_, upd_same⟩))⟩
        unfold perZ
        rw [if_pos y]
        exact y
    · have s0 : slp a b ≠ 0 := fun z => cs (rate_eq T.ra T.rb z)
      have ef : PyData.eqv (.tuple ([a.p, a.q].map PyData.int)) (.tuple ([b.p, b.q].map PyData.int)) = false := by
        cases hh : PyData.eqv (.tuple ([a.p, a.q].map PyData.int)) (.tuple ([b.p, b.q].map PyData.int)) with
        | false => rfl
        | true =>
          simp only [List.map_cons, List.map_nil, PyData.eqv, PyData.eqvAll, Bool.and_true, Bool.and_eq_true, beq_iff_eq] at hh
          exact absurd hh cs
      rw [ef]
      refine iteF ?_
      refine ⟨_, rfl, _, rfl, A1, B1, a, b, k, rfl, T3, k0, by omega, s0, fun r H4 e1' e2' s4 er cl b1 b2 => ?_⟩
      have T4 := T3.same s4
      refine ⟨r, _, rfl, SqT.of er, rfl, _, _, rfl, _, _, rfl, rfl, ?_⟩
      refine ⟨_, rfl, _, rfl, _, rfl, A1, B1, a, b, e1', k, 2 * k + 4, rfl, T4, b1, k0, by omega, by omega, fun o H5 s5 ho _ => ?_⟩
      have T5 := T4.same s5
      have s15 := s13.trans (s4.trans s5)
      match o, ho with
      | none, ho =>
        refine ⟨_, rfl, rfl, _, rfl, iteT ⟨len10 (by simp), fun r nr => q r _ (s15.trans (sm_upd nr)) (.inr (.inl ⟨fun t => ?_, upd_same⟩))⟩⟩
        cases hh : ldZ a b t with
        | false => rfl
        | true =>
          have := cl.2 t (of_decide_eq_true hh)
          refine absurd ?_ (ho (t - e1') (by omega))
          show ldZ a b (e1' + (t - e1')) = true
          rw [show e1' + (t - e1') = t by omega]
          exact hh
      | some x, ⟨x0, hx, no⟩ =>
        have hx : ldZ a b (e1' + x) = true := hx
        refine ⟨_, rfl, rfl, _, rfl, iteF ?_⟩
        refine ⟨_, rfl, A1, _, _, _, k, rfl, T5.ea, T5.ra, fun ma H6 s6 ema rma => ?_⟩
        have T6 := T5.same s6
        refine ⟨_, rfl, B1, _, _, _, k, rfl, T6.eb, T6.rb, fun mb H7 s7 emb rmb => ?_⟩
        have T7 := T6.same s7
        have Tm : Two (k + 2) ma mb a.mir b.mir H7 := ⟨s7 _ _ ema, emb, rma, rmb⟩
        have b3 : Bd (2 * k + 5) (1 - e2') := Bd.sub (Bd.small 1 (by decide) (by omega)) b2
        refine ⟨_, rfl, _, _, rfl, rfl, ma, mb, a.mir, b.mir, 1 - e2', k + 2, 2 * k + 6, rfl, Tm, b3.mono (by omega), by omega, by omega, by omega, fun o2 H8 s8 ho2 _ => ?_⟩
        have lf := cl.2 _ (of_decide_eq_true hx)
        have mz := fun t => mir_zero (a := a) (b := b) aq bq t
        obtain ⟨y, rfl, y0, hy, noy⟩ : ∃ y, o2 = some y ∧ 0 ≤ y ∧ ldZ a b (-(1 - e2' + y)) = true ∧ ∀ u, 0 ≤ u → u < y → ¬ ldZ a b (-(1 - e2' + u)) = true := by
          match o2, ho2 with
          | none, ho2 =>
            refine absurd ?_ (ho2 (e2' - 1 - (e1' + x)) (by omega))
            show ldZ a.mir b.mir (1 - e2' + (e2' - 1 - (e1' + x))) = true
            rw [mz, show -(1 - e2' + (e2' - 1 - (e1' + x))) = e1' + x by omega]
            exact hx
          | some y, ⟨y0, hy, no⟩ =>
            have hy : ldZ a.mir b.mir (1 - e2' + y) = true := hy
            rw [mz] at hy
            refine ⟨y, rfl, y0, hy, fun u u0 u1 z => no u u0 u1 ?_⟩
            show ldZ a.mir b.mir (1 - e2' + u) = true
            rw [mz]
            exact z
        have ll := cl.2 _ (of_decide_eq_true hy)
        have T8 := T7.same s8
        have s18 := s15.trans (s6.trans (s7.trans s8))
        obtain ⟨fs', hfs⟩ : ∃ z, z = e1' + x := ⟨_, rfl⟩
        obtain ⟨ls', hls⟩ : ∃ z, z = -(1 - e2' + y) := ⟨_, rfl⟩
        have bf : Bd (2 * k + 4) fs' := b1.mid b2 (by omega) (by omega)
        have bl : Bd (2 * k + 4) ls' := b1.mid b2 (by omega) (by omega)
        have bl1 : Bd (2 * k + 5) (ls' + 1) := Bd.add bl (Bd.small 1 (by decide) (by omega))
        subst hfs hls
        refine ⟨_, rfl, ?_⟩
        refine ⟨_, rfl, _, rfl, _, rfl, _, rfl, _, rfl, _, rfl, _, _, rfl, rfl, A1, B1, a, b, e1' + x, -(1 - e2' + y) + 1, 2 * k + 5, rfl, T8.mono (by omega), bf.mono (by omega), bl1, by omega, by omega, fun r2 H9 s9 er2 _ => ?_⟩
        refine ⟨r2, _, _, _, rfl, rfl, SqT.of er2, atI_nat (j := 1) rfl, ?_⟩
        rw [cZ_eq]
        refine ⟨len10 (by simp), fun r nr => q r _ ((s18.trans s9).trans (sm_upd nr)) (.inr (.inr ⟨s0, e1' + x, -(1 - e2' + y), hx, hy, fun t ht => ?_, bf, bl, upd_same⟩))⟩
        have ct := cl.2 t (of_decide_eq_true ht)
        constructor
        · refine Int.not_lt.mp fun z => no (t - e1') (by omega) (by omega) ?_
          show ldZ a b (e1' + (t - e1')) = true
          rw [show e1' + (t - e1') = t by omega]
          exact ht
        · refine Int.not_lt.mp fun z => noy (e2' - 1 - t) (by omega) (by omega) ?_
          rw [show -(1 - e2' + (e2' - 1 - t)) = t by omega]
          exact ht
end
end Lf
namespace Lf
open PySem PySem.Spec PyProof.Rows L2
theorem cB_outer {f : Int → Bool} {t : Int} {n : Nat} {x y : Int} (h1 : t ≤ x) (h2 : x ≤ y) (h3 : y < t + n) (all : ∀ u, f u = true → x ≤ u ∧ u ≤ y) : cB f t n = cB f x (y + 1 - x).toNat := by
  have e : n = (x - t).toNat + ((y + 1 - x).toNat + (t + n - (y + 1)).toNat) := by omega
  rw [e, cB_split, cB_split, show t + ((x - t).toNat : Int) = x by omega]
  have no : ∀ u, (u < x ∨ y < u) → f u = false := fun u h => by
    cases hh : f u with
    | false => rfl
    | true => have := all u hh; omega
  rw [cB_zero (t := t) (n := (x - t).toNat) fun i hi => no _ (by omega), cB_zero (t := x + ((y + 1 - x).toNat : Int)) fun i hi => no _ (by omega)]
  omega
theorem nth_before {f : Int → Bool} {t z u : Int} (h : NthZ f t 0 z) (tu : t ≤ u) (hu : f u = true) : z ≤ u := by
  refine Int.not_lt.mp fun l => ?_
  obtain ⟨h1, _, h3⟩ := h
  have m := cB_mono (f := f) (t := t) (show (u - t).toNat + 1 ≤ (z - t).toNat by omega)
  rw [cB_split, show t + ((u - t).toNat : Int) = u by omega, cB_one hu, h3] at m
  have := cB_nn f t (u - t).toNat
  omega
theorem nth_after {f : Int → Bool} {t k z u : Int} {n : Nat} (h : NthZ f t k z) (tn : cB f t n = k + 1) (hu : f u = true) (un : u < t + n) : u ≤ z := by
  refine Int.not_lt.mp fun l => ?_
  obtain ⟨h1, h2, h3⟩ := h
  have m := cB_mono (f := f) (t := t) (show (z - t).toNat + (1 + ((u - z - 1).toNat + 1)) ≤ n by omega)
  rw [cB_split, cB_split, cB_split, h3, show t + ((z - t).toNat : Int) = z by omega, cB_one h2, show z + ((1 : Nat) : Int) + ((u - z - 1).toNat : Int) = u by omega, cB_one hu, tn] at m
  have := cB_nn f (z + ((1 : Nat) : Int)) (u - z - 1).toNat
  omega
theorem ldZ_per {a b : Rl} (ha : 1 ≤ a.q) (ep : a.p = b.p) (eq : a.q = b.q) (t j : Int) : ldZ a b (t + a.q * j) = ldZ a b t := by
  have h : Ld a b (t + a.q * j) = Ld a b t := by
    unfold Ld
    rw [at_per a ha]
    rw [show t + a.q * j = t + b.q * j by rw [eq], at_per b (by omega), ep]
    omega
  unfold ldZ
  rw [h]
theorem nth_per {a b : Rl} {st k z : Int} (ga : Int.gcd a.p a.q = 1) (ha : 1 ≤ a.q) (ep : a.p = b.p) (eq : a.q = b.q) (h : NthZ (ldZ a b) st k z) {w : Int} (w0 : 0 ≤ w) : NthZ (ldZ a b) st (k + perZ a b * w) (z + a.q * w) := by
  obtain ⟨h1, h2, h3⟩ := h
  have qw := Int.mul_nonneg (show 0 ≤ a.q by omega) w0
  refine ⟨by omega, by rw [ldZ_per ha ep eq]; exact h2, ?_⟩
  obtain ⟨m, rfl⟩ := Int.eq_ofNat_of_zero_le w0
  have e : (z + a.q * (m : Int) - st).toNat = (z - st).toNat + m * a.q.toNat := by
    have : ((m * a.q.toNat : Nat) : Int) = a.q * m := by
      rw [Int.natCast_mul, Int.mul_comm]
      congr 1
      omega
    omega
  rw [e, cB_split, h3, show st + ((z - st).toNat : Int) = z by omega, per_many ga ha ep eq]
  show k + (m : Int) * perZ a b = _
  rw [Int.mul_comm]
theorem nthO_uniq {f : Int → Bool} {st k : Int} {a b : Option Int} (h : NthO f st k a) (g : NthO f st k b) : a = b := by
  have key : ∀ {x : Int}, NthZ f st k x → ¬ NthO f st k none := fun {x} ⟨h1, h2, h3⟩ g => by
    have := g ((x - st).toNat + 1)
    rw [cB_split, h3, show st + ((x - st).toNat : Int) = x by omega, cB_one h2] at this
    omega
  match a, b, h, g with
  | none, none, _, _ => rfl
  | some x, none, h, g => exact absurd g (key h)
  | none, some y, h, g => exact absurd h (key g)
  | some x, some y, h, g => rw [nth_uniq h g]
theorem int_eqv {a b : Int} (c : decide (V.int a = V.int b) = true) : a = b := V.int.inj (of_decide_eq_true c)
theorem iteFs {b : Bool} {A B : Prop} (h : b = false) (hB : B) : if b = true then A else B := by
  rw [h]
  exact iteF hB
end Lf
namespace Lf
open PySem PySem.Spec PyProof.Rows L2
/-! ### a rule moved up -/
def Rl.up (x : Int) (r : Rl) : Rl := ⟨r.p, r.q, r.p * 0 + r.q * x + r.c⟩
theorem up_at {r : Rl} (h : 1 ≤ r.q) (x t : Int) : (r.up x).at t = r.at t + x := by
  show (r.p * t + (r.p * 0 + r.q * x + r.c)) / r.q = (r.p * t + r.c) / r.q + x
  rw [show r.p * t + (r.p * 0 + r.q * x + r.c) = r.p * t + r.c + r.q * x by grind, Int.add_mul_ediv_left _ _ (by omega)]
theorem up_ld {a b : Rl} (hb : 1 ≤ b.q) (x t : Int) : Ld a (b.up x) t = Ld a b t - x := by
  unfold Ld
  rw [up_at hb]
  omega
theorem cB_no {f : Int → Bool} {t : Int} {n : Nat} (h : ∀ u, t ≤ u → u < t + n → f u = false) : cB f t n = 0 := cB_zero fun i hi => h _ (by omega) (by omega)
theorem cB_has {f : Int → Bool} {t u : Int} {n : Nat} (h1 : t ≤ u) (h2 : u < t + n) (h : f u = true) : 0 < cB f t n := by
  have m := cB_mono (f := f) (t := t) (show (u - t).toNat + 1 ≤ n by omega)
  rw [cB_split, show t + ((u - t).toNat : Int) = u by omega, cB_one h] at m
  have := cB_nn f t (u - t).toNat
  omega
theorem ld_rise {a b : Rl} (ha : 1 ≤ a.q) (hb : 1 ≤ b.q) (s : 0 < slp a b) (am t : Int) : ∃ x, 0 ≤ x ∧ am ≤ Ld a b (t + x) := by
  obtain ⟨n, hn⟩ : ∃ n : Int, n = am * (a.q * b.q) - gp a b t := ⟨_, rfl⟩
  refine ⟨(n.natAbs : Int), by omega, ld_ge ha hb ?_⟩
  rw [gp_step]
  have := Int.mul_le_mul_of_nonneg_right (show 1 ≤ slp a b by omega) (show (0 : Int) ≤ (n.natAbs : Int) by omega)
  omega
theorem ld_fall {a b : Rl} (ha : 1 ≤ a.q) (hb : 1 ≤ b.q) (s : slp a b < 0) (am t : Int) : ∃ x, 0 ≤ x ∧ am ≤ Ld a b (t - x) := by
  obtain ⟨n, hn⟩ : ∃ n : Int, n = am * (a.q * b.q) - gp a b t := ⟨_, rfl⟩
  refine ⟨(n.natAbs : Int), by omega, ?_⟩
  rw [show t - (n.natAbs : Int) = t + -(n.natAbs : Int) by omega]
  refine ld_ge ha hb ?_
  rw [gp_step, Int.mul_neg]
  have := Int.mul_le_mul_of_nonneg_right (show slp a b ≤ -1 by omega) (show (0 : Int) ≤ (n.natAbs : Int) by omega)
  omega
/-! ### equal rules -/
theorem eq_of_zero {a b : Rl} {k : Nat} (ra : a.B k) (rb : b.B k) (st : Int) (h : ∀ t, st ≤ t → Ld a b t = 0) : a = b := by
  have aq := ra.q1
  have bq := rb.q1
  have s0 : slp a b = 0 := by
    rcases Int.lt_trichotomy (slp a b) 0 with s | s | s
    · obtain ⟨x, x0, hx⟩ := ld_rise (a := b) (b := a) bq aq (by rw [slp_swap]; omega) 1 st
      rw [ld_swap, h _ (by omega)] at hx
      omega
    · exact s
    · obtain ⟨x, x0, hx⟩ := ld_rise aq bq s 1 st
      rw [h _ (by omega)] at hx
      omega
  obtain ⟨ep, eq⟩ := rate_eq ra rb s0
  have z := per_zero (t := st) ra.g aq ep eq
  rw [cB_full fun i hi => decide_eq_true (h _ (by omega))] at z
  have ec : a.c = b.c := by
    split at z <;> omega
  cases a
  cases b
  cases ep
  cases eq
  cases ec
  rfl
theorem eq_of_zero' {a b : Rl} {k : Nat} (ra : a.B k) (rb : b.B k) (sp : Int) (h : ∀ t, t < sp → Ld a b t = 0) : a = b := by
  have aq := ra.q1
  have bq := rb.q1
  have s0 : slp a b = 0 := by
    rcases Int.lt_trichotomy (slp a b) 0 with s | s | s
    · obtain ⟨x, x0, hx⟩ := ld_fall aq bq s 1 (sp - 1)
      rw [h _ (by omega)] at hx
      omega
    · exact s
    · obtain ⟨x, x0, hx⟩ := ld_fall (a := b) (b := a) bq aq (by rw [slp_swap]; omega) 1 (sp - 1)
      rw [ld_swap, h _ (by omega)] at hx
      omega
  obtain ⟨ep, eq⟩ := rate_eq ra rb s0
  have z := per_zero (t := sp - a.q) ra.g aq ep eq
  rw [cB_full fun i hi => decide_eq_true (h _ (by omega))] at z
  have ec : a.c = b.c := by
    split at z <;> omega
  cases a
  cases b
  cases ep
  cases eq
  cases ec
  rfl
theorem ld_self (a : Rl) (t : Int) : Ld a a t = 0 := Int.sub_self _
/-! ### neighbouring rates have as many agreements as the product of the cycles -/
def sLd (a b : Rl) (t : Int) : Nat → Int
  | 0 => 0
  | n + 1 => sLd a b t n + Ld a b (t + n)
theorem sLd_shift {a b : Rl} (ha : 1 ≤ a.q) (hb : 1 ≤ b.q) (t : Int) : ∀ n : Nat, sLd a b (t + a.q * b.q) n = sLd a b t n + slp a b * n
  | 0 => by
    show (0 : Int) = 0 + slp a b * ((0 : Nat) : Int)
    rw [Int.natCast_zero, Int.mul_zero]
    rfl
  | n + 1 => by
    show sLd a b (t + a.q * b.q) n + Ld a b (t + a.q * b.q + n) = sLd a b t n + Ld a b (t + n) + slp a b * ((n + 1 : Nat) : Int)
    have p := ld_per ha hb (t + n) 1
    rw [Int.mul_one, Int.mul_one] at p
    rw [sLd_shift ha hb t n, show t + a.q * b.q + (n : Int) = t + n + a.q * b.q by omega, p, show ((n + 1 : Nat) : Int) = (n : Int) + 1 by omega, Int.mul_add, Int.mul_one]
    unfold slp
    omega
theorem zero_up {a b : Rl} {t : Int} : ∀ {n : Nat}, (∀ i : Nat, i < n → 0 ≤ Ld a b (t + i) ∧ Ld a b (t + i) ≤ 1) → cB (ldZ a b) t n = n - sLd a b t n
  | 0, _ => rfl
  | n + 1, h => by
    have ih := zero_up (n := n) fun i hi => h i (by omega)
    obtain ⟨h1, h2⟩ := h n (by omega)
    show cB (ldZ a b) t n + (if ldZ a b (t + n) = true then 1 else 0) = ((n + 1 : Nat) : Int) - (sLd a b t n + Ld a b (t + n))
    unfold ldZ at *
    by_cases z : Ld a b (t + n) = 0
    · rw [if_pos (decide_eq_true z)]
      omega
    · rw [if_neg fun y => z (of_decide_eq_true y)]
      omega
theorem zero_dn {a b : Rl} {t : Int} : ∀ {n : Nat}, (∀ i : Nat, i < n → -1 ≤ Ld a b (t + i) ∧ Ld a b (t + i) ≤ 0) → cB (ldZ a b) t n = n + sLd a b t n
  | 0, _ => rfl
  | n + 1, h => by
    have ih := zero_dn (n := n) fun i hi => h i (by omega)
    obtain ⟨h1, h2⟩ := h n (by omega)
    show cB (ldZ a b) t n + (if ldZ a b (t + n) = true then 1 else 0) = ((n + 1 : Nat) : Int) + (sLd a b t n + Ld a b (t + n))
    unfold ldZ at *
    by_cases z : Ld a b (t + n) = 0
    · rw [if_pos (decide_eq_true z)]
      omega
    · rw [if_neg fun y => z (of_decide_eq_true y)]
      omega
theorem zeros_one {a b : Rl} (ha : 1 ≤ a.q) (hb : 1 ≤ b.q) (s : slp a b = 1) : ∃ T : Int, cB (ldZ a b) T ((a.q * b.q).toNat + (a.q * b.q).toNat) = a.q * b.q ∧ ∀ t, ldZ a b t = true → T < t ∧ t < T + 2 * (a.q * b.q) := by
  have D1 := one_le_mul ha hb
  have g : ∀ t, gp a b t = t + (a.c * b.q - b.c * a.q) := fun t => by
    have : gp a b t = slp a b * t + (a.c * b.q - b.c * a.q) := rfl
    rw [this, s, Int.one_mul]
  generalize hD : a.q * b.q = D at *
  refine ⟨-D - (a.c * b.q - b.c * a.q), ?_, fun t z => ?_⟩
  · have ge := fun t k => ld_ge (a := a) (b := b) (t := t) (k := k) ha hb
    have le := fun t k => ld_le (a := a) (b := b) (t := t) (k := k) ha hb
    rw [hD] at ge le
    have z1 := zero_dn (a := a) (b := b) (t := -D - (a.c * b.q - b.c * a.q)) (n := D.toNat) fun i hi => ⟨ge _ _ (by rw [g]; omega), le _ _ (by rw [g]; omega)⟩
    have z2 := zero_up (a := a) (b := b) (t := -D - (a.c * b.q - b.c * a.q) + D) (n := D.toNat) fun i hi => ⟨ge _ _ (by rw [g]; omega), le _ _ (by rw [g]; omega)⟩
    have sh := sLd_shift ha hb (-D - (a.c * b.q - b.c * a.q)) D.toNat
    rw [hD, s, Int.one_mul] at sh
    rw [cB_split, show -D - (a.c * b.q - b.c * a.q) + (D.toNat : Int) = -D - (a.c * b.q - b.c * a.q) + D by omega]
    omega
  · have zg := zero_gap ha hb (of_decide_eq_true z)
    rw [g, hD] at zg
    omega
theorem zeros_both {a b : Rl} (ha : 1 ≤ a.q) (hb : 1 ≤ b.q) (s : slp a b = 1 ∨ slp a b = -1) {x y : Int} (hx : ldZ a b x = true) (hy : ldZ a b y = true) (all : ∀ u, ldZ a b u = true → x ≤ u ∧ u ≤ y) : cB (ldZ a b) x (y + 1 - x).toNat = a.q * b.q := by
  have key : ∃ T : Int, cB (ldZ a b) T ((a.q * b.q).toNat + (a.q * b.q).toNat) = a.q * b.q ∧ ∀ t, ldZ a b t = true → T < t ∧ t < T + 2 * (a.q * b.q) := by
    rcases s with s | s
    · exact zeros_one ha hb s
    · obtain ⟨T, h1, h2⟩ := zeros_one (a := b) (b := a) hb ha (by rw [slp_swap]; omega)
      rw [Int.mul_comm b.q] at h1 h2
      exact ⟨T, (cB_congr fun i _ => (ldZ_swap a b _).symm).trans h1, fun t z => h2 t (by rw [ldZ_swap a b]; exact z)⟩
  obtain ⟨T, h1, h2⟩ := key
  have b1 := h2 x hx
  have b2 := h2 y hy
  rw [← cB_outer (t := T) (n := (a.q * b.q).toNat + (a.q * b.q).toNat) (by omega) (all y hy).1 (by omega) all]
  exact h1
theorem zeros_some {a b : Rl} (ha : 1 ≤ a.q) (hb : 1 ≤ b.q) (s : slp a b = 1 ∨ slp a b = -1) (no : ∀ t, ldZ a b t = false) : False := by
  have D1 := one_le_mul ha hb
  rcases s with s | s
  · obtain ⟨T, h1, _⟩ := zeros_one ha hb s
    rw [cB_zero fun i _ => no _] at h1
    omega
  · obtain ⟨T, h1, _⟩ := zeros_one (a := b) (b := a) hb ha (by rw [slp_swap]; omega)
    rw [cB_zero fun i _ => by rw [ldZ_swap a b]; exact no _] at h1
    rw [Int.mul_comm b.q] at h1
    omega
end Lf
namespace Lf
open PySem PySem.Spec PyProof.Rows L2
/-- what stays in the turns -/
structure PrI (q one other u v : Int) : Prop where
  o0 : 0 ≤ one
  t0 : 0 ≤ other
  e : (u.natAbs : Int) * other + (v.natAbs : Int) * one = q
  s : (0 ≤ u ∧ v ≤ 0) ∨ (u ≤ 0 ∧ 0 ≤ v)
  ub : (u.natAbs : Int) ≤ q
  vb : (v.natAbs : Int) ≤ q
theorem PrI.init {p q : Int} (p0 : 0 ≤ p) (q1 : 1 ≤ q) : PrI q p q 1 0 := by
  refine ⟨p0, by omega, ?_, .inl ⟨by decide, by decide⟩, by show (1 : Int) ≤ q; omega, by show (0 : Int) ≤ q; omega⟩
  show (1 : Int) * q + 0 * p = q
  omega
theorem PrI.step {q one other u v : Int} (h : PrI q one other u v) (t : 0 < other) : PrI q other (one % other) v (u - one / other * v) := by
  obtain ⟨o0, t0, e, s, ub, vb⟩ := h
  have d0 := Int.ediv_nonneg o0 t0
  have re := Int.emod_add_mul_ediv one other
  have r0 := Int.emod_nonneg one (show other ≠ 0 by omega)
  generalize one / other = d at *
  generalize one % other = r at *
  have av : ((u - d * v).natAbs : Int) = (u.natAbs : Int) + d * (v.natAbs : Int) := by
    rcases s with ⟨s1, s2⟩ | ⟨s1, s2⟩
    · have e1 : (v.natAbs : Int) = -v := by omega
      have := Int.mul_nonneg d0 (show 0 ≤ -v by omega)
      rw [e1, Int.mul_neg]
      rw [Int.mul_neg] at this
      omega
    · have e1 : (v.natAbs : Int) = v := by omega
      have := Int.mul_nonneg d0 s2
      rw [e1]
      omega
  have e2 : (v.natAbs : Int) * r + ((u - d * v).natAbs : Int) * other = q := by
    rw [av, ← e, ← re]
    grind
  have v0 := Int.mul_nonneg (show 0 ≤ (v.natAbs : Int) by omega) r0
  refine ⟨t0, r0, e2, ?_, vb, ?_⟩
  · rcases s with ⟨s1, s2⟩ | ⟨s1, s2⟩
    · have := Int.mul_nonneg d0 (show 0 ≤ -v by omega)
      rw [Int.mul_neg] at this
      exact .inr ⟨s2, by omega⟩
    · have := Int.mul_nonneg d0 s2
      exact .inl ⟨s2, by omega⟩
  · have := Int.mul_le_mul_of_nonneg_left (show 1 ≤ other by omega) (show 0 ≤ ((u - d * v).natAbs : Int) by omega)
    omega
def muP : L2.St → Hp → Nat := fun σ _ => match σ with
  | _ :: _ :: _ :: _ :: _ :: _ :: some (.int v) :: _ => v.toNat
  | _ => 0
section
variable {P : Program} {w : World} {K : PySem.W.Frag} {mg : Str → Option Value} {base : Heap}
def spPair : Sp := fun vs H Q _ => ∃ (a : PA) (n : Nat), vs = [.ref a] ∧ Pen H a n ∧ n < 2 ^ 36 ∧
  ∀ (t A B : Addr) (x y : Rl) (H' : Hp), H' t = some (.tup [.ref A, .ref B]) → H' A = some x.o → H' B = some y.o → x.B 50 → y.B 50 → Pen H' a (n + 200) → Fr H H' → Q (.ref t) H'
abbrev s_l_pair : Stmt := topS 54
abbrev N_l_pair : List Str := ["_law_pen_here", "_law_road", "_law_p", "_law_q", "_law_c", "_law_one", "_law_other", "_law_u", "_law_v", "_law_k", "_law_near"]
abbrev P_l_pair : List Str := ["_law_pen_here"]
theorem sc_l_pair : FnScope N_l_pair P_l_pair (defScope s_l_pair) := ⟨rfl, rfl, rfl, by decide +kernel, rfl, by decide +kernel, by decide +kernel⟩
theorem ok_l_pair (D : Df K mg "_law_pair" s_l_pair P_l_pair) (B : Bi mg) (c_l_draw : C8.Cal P w K mg base 1 "_law_draw" spDraw []) (c_l_pick : C8.Cal P w K mg base 2 "_law_pick" spPick []) (c_l_signed : C8.Cal P w K mg base 3 "_law_signed" spSigned []) (c_l_lowest : C8.Cal P w K mg base 2 "_law_lowest" spLowest []) (c_l_rule : C8.Cal P w K mg base 3 "_law_rule" spRule []) (c_l_far_rule : C8.Cal P w K mg base 4 "_law_far_rule" spFar []) : C8.Cal P w K mg base 5 "_law_pair" spPair [] := by
  refine cal_of D sc_l_pair (fun vs H Q E h => ?_) (fun f cdv A outer s H vs Q E hr h => ?_)
  · obtain ⟨a, n, rfl, _⟩ := h
    rfl
  · obtain ⟨a, n, rfl, hP, hn, kk⟩ := h
    refine ⟨_, (pss_cons (ps_set (i := 1) sc_l_pair.nd rfl (Or.inl rfl) (C8.pe_c c_l_draw hr (by decide) (by rfl) (pa_cons (pv 0) (pa_cons pe_int pa_nil))))
    (C8.pss_cut (ps_if (pt_cmpR op_eq (pv 1) pe_int (nomark _))
      (pss_one (ps_ret (pe_tup (pa_cons (C8.pe_c c_l_far_rule hr (by decide) (by rfl) (pa_cons (pv 0) (pa_cons pe_int pa_nil))) (pa_cons (C8.pe_c c_l_far_rule hr (by decide) (by rfl) (pa_cons (pv 0) (pa_cons (C8.pe_c c_l_pick hr (by decide) (by rfl) (pa_cons (pv 0) (pa_cons (pe_lst (pa_cons pe_int (pa_cons pe_int (pa_cons pe_int pa_nil)))) pa_nil))) pa_nil))) pa_nil)))))
      pss_nil)
    (pss_cons (ps_asg (C8.pe_c c_l_pick hr (by decide) (by rfl) (pa_cons (pv 0) (pa_cons (pe_lst (pa_cons (C8.pe_c c_l_rule hr (by decide) (by rfl) (pa_cons (pv 0) (pa_cons pe_int pa_nil))) (pa_cons (C8.pe_c c_l_far_rule hr (by decide) (by rfl) (pa_cons (pv 0) (pa_cons (C8.pe_c c_l_pick hr (by decide) (by rfl) (pa_cons (pv 0) (pa_cons (pe_lst (pa_cons pe_int (pa_cons pe_int (pa_cons pe_int pa_nil)))) pa_nil))) pa_nil))) pa_nil))) pa_nil))) (pg_tup rfl (pgs_cons (pg_name (i := 2) sc_l_pair.nd rfl (Or.inl rfl)) (pgs_cons (pg_name (i := 3) sc_l_pair.nd rfl (Or.inl rfl)) (pgs_cons (pg_name (i := 4) sc_l_pair.nd rfl (Or.inl rfl)) pgs_nil)))))
    (C8.pss_cut (ps_if (pt_cmpR op_eq (pv 1) pe_int (nomark _))
      (pss_one (ps_ret (pe_tup (pa_cons (pe_tup (pa_cons (pv 2) (pa_cons (pv 3) (pa_cons (pv 4) pa_nil)))) (pa_cons (pe_tup (pa_cons (pv 2) (pa_cons (pv 3) (pa_cons (pe_op op_add (pv 4) (C8.pe_c c_l_pick hr (by decide) (by rfl) (pa_cons (pv 0) (pa_cons (pe_lst (pa_cons pe_int (pa_cons pe_int (pa_cons (pe_un un_neg pe_int) (pa_cons (C8.pe_c c_l_signed hr (by decide) (by rfl) (pa_cons (pv 0) (pa_cons pe_int pa_nil))) (pa_cons (C8.pe_c c_l_draw hr (by decide) (by rfl) (pa_cons (pv 0) (pa_cons (pv 3) pa_nil))) pa_nil)))))) pa_nil)))) pa_nil)))) pa_nil)))))
      pss_nil)
    (pss_cons (ps_asg (pe_tup (pa_cons (pv 2) (pa_cons (pv 3) (pa_cons pe_int (pa_cons pe_int pa_nil))))) (pg_tup rfl (pgs_cons (pg_name (i := 5) sc_l_pair.nd rfl (Or.inl rfl)) (pgs_cons (pg_name (i := 6) sc_l_pair.nd rfl (Or.inl rfl)) (pgs_cons (pg_name (i := 7) sc_l_pair.nd rfl (Or.inl rfl)) (pgs_cons (pg_name (i := 8) sc_l_pair.nd rfl (Or.inl rfl)) pgs_nil))))))
    (pss_cons (ps_while PassesOwn.never (pt_cmpR op_gt (pv 6) pe_int (nomark _))
      (pss_cons (ps_par (i := 7) (j := 8) rfl sc_l_pair.nd rfl rfl (by decide) rfl rfl (pa_cons (pv 8) (pa_cons (pe_op op_sub (pv 7) (pe_op op_mulW (pe_op op_fdivW (pv 5) (pv 6)) (pv 8))) pa_nil)) rfl)
    (pss_one (ps_par (i := 5) (j := 6) rfl sc_l_pair.nd rfl rfl (by decide) rfl rfl (pa_cons (pv 6) (pa_cons (pe_op op_mod (pv 5) (pv 6)) pa_nil)) rfl))))
    (pss_cons (ps_par (i := 7) (j := 9) rfl sc_l_pair.nd rfl rfl (by decide) rfl rfl (pa_cons (pe_op op_mod (pv 7) (pv 3)) (pa_cons (C8.pe_c c_l_draw hr (by decide) (by rfl) (pa_cons (pv 0) (pa_cons pe_int pa_nil))) pa_nil)) rfl)
    (C8.pss_cut (ps_set (i := 10) sc_l_pair.nd rfl (Or.inl rfl) (pe_ifExp (pt_cmpR op_gt (pe_op op_add (pv 7) (pv 9)) pe_int (nomark _)) (pe_tup (pa_cons (pe_op op_add (pe_op op_fdivW (pe_op op_sub (pe_op op_mulW (pv 2) (pv 7)) pe_int) (pv 3)) (pe_op op_mulW (pv 9) (pv 2))) (pa_cons (pe_op op_add (pv 7) (pe_op op_mulW (pv 9) (pv 3))) pa_nil))) (pe_tup (pa_cons pe_int (pa_cons pe_int pa_nil)))))
    (C8.pss_cut (ps_if (PW.pt (pw_or (pt_cmpR op_eq (pe_ix (r := rIxT K) ix_tup (pv 10) pe_int (fun _ _ => rfl)) pe_int (nomark _)) (pw_or1 (pt_cmpR op_lt (pe_ix (r := rIxT K) ix_tup (pv 10) pe_int (fun _ _ => rfl)) pe_int (nomark _)))))
      (pss_one (ps_set (i := 10) sc_l_pair.nd rfl (Or.inl rfl) (pe_tup (pa_cons pe_int (pa_cons pe_int pa_nil)))))
      pss_nil)
    (pss_one (ps_ret (pe_tup (pa_cons (pe_tup (pa_cons (pv 2) (pa_cons (pv 3) (pa_cons (pv 4) pa_nil)))) (pa_cons (C8.pe_c c_l_lowest hr (by decide) (by rfl) (pa_cons (pe_ix (r := rIxT K) ix_tup (pv 10) pe_int (fun _ _ => rfl)) (pa_cons (pe_ix (r := rIxT K) ix_tup (pv 10) pe_int (fun _ _ => rfl)) (pa_cons (C8.pe_c c_l_signed hr (by decide) (by rfl) (pa_cons (pv 0) (pa_cons pe_int pa_nil))) pa_nil)))) pa_nil)))))))))))))), ?_⟩
    have h6 : ((6 : Int) / 6).toNat = 1 := by decide
    have h12 : ((12 : Int) / 6).toNat = 2 := by decide
    have six : ∀ {x : V}, x ∈ [V.int 6, .int 6, .int 12] → ∃ d : Int, x = .int d ∧ 6 ≤ d ∧ d ≤ 12 ∧ (d / 6).toNat ≤ 2 := fun {x} hx => by
      simp only [List.mem_cons, List.not_mem_nil, or_false] at hx
      rcases hx with rfl | rfl | rfl <;> exact ⟨_, rfl, by decide, by decide, by decide⟩
    refine ⟨_, rfl, a, _, _, rfl, hP, by omega, by decide, Bd.small 20 (by decide) (by decide), fun rd H1 r0 r1 hP1 f1 => ?_⟩
    refine ⟨fun σ' H' => σ' = [some (.ref a), some (.int rd), none, none, none, none, none, none, none, none, none] ∧ H' = H1, ?_, ?_⟩
    · refine ⟨_, rfl, rfl, _, rfl, ite2 (fun _ => ?_) (fun _ => ⟨rfl, rfl⟩)⟩
      refine ⟨_, rfl, a, _, 6, rfl, hP1, by omega, by decide, by decide, fun A0 p q c H2 R1 e1 hP2 f2 => ?_⟩
      rw [h6] at R1 hP2
      refine ⟨_, rfl, _, rfl, len10 (by simp), fun l nl => ?_⟩
      have z1 := sm_upd (o := .lst [.int 6, .int 6, .int 12]) nl
      refine ⟨a, l, _, _, rfl, hP2.same z1, by omega, upd_same, by simp, by simp, fun x H3 hx hP3 f3 => ?_⟩
      obtain ⟨d, rfl, d6, d12, dd⟩ := six hx
      refine ⟨a, _, d, rfl, hP3, by omega, d6, by omega, fun B0 p' q' c' H4 R2 e2 hP4 f4 => ⟨len10 (by simp), fun t nt => ?_⟩⟩
      have f24 := (Fr.same z1).trans (f3.trans f4)
      have u := sm_upd (o := .tup [.ref A0, .ref B0]) nt
      exact kk t A0 B0 ⟨p, q, c⟩ ⟨p', q', c'⟩ _ upd_same (u _ _ (f24.t _ _ e1)) (u _ _ e2) (R1.mono (by decide)) (R2.mono (by omega)) ((hP4.same u).mono (by omega)) (f1.trans (f2.trans (f24.trans (Fr.same u))))
    rintro σ H1' ⟨rfl, rfl⟩
    refine ⟨_, rfl, _, rfl, a, _, 30, rfl, hP1, by omega, by decide, by decide, fun ra p1 q1 c1 H2 R1 _ _ e1 hP2 f2 => ?_⟩
    refine ⟨_, rfl, _, rfl, len10 (by simp), fun l nl => ?_⟩
    have z1 := sm_upd (o := .lst [.int 6, .int 6, .int 12]) nl
    refine ⟨a, l, _, _, rfl, hP2.same z1, by omega, upd_same, by simp, by simp, fun x H3 hx hP3 f3 => ?_⟩
    obtain ⟨d, rfl, d6, d12, dd⟩ := six hx
    refine ⟨a, _, d, rfl, hP3, by omega, d6, by omega, fun rb p2 q2 c2 H4 R2 e2 hP4 f4 => ⟨len10 (by simp), fun l2 nl2 => ?_⟩⟩
    have f24 := (Fr.same z1).trans (f3.trans f4)
    have e1 := f24.t _ _ e1
    have z2 := sm_upd (o := .lst [.ref ra, .ref rb]) nl2
    refine ⟨a, l2, _, _, rfl, hP4.same z2, by omega, upd_same, by simp, by simp, fun x H5 hx5 hP5 f5 => ?_⟩
    have f45 := (Fr.same z2).trans f5
    obtain ⟨r, p, q, c, rfl, er, R⟩ : ∃ r p q c, x = .ref r ∧ H5 r = some (tup3 p q c) ∧ RuleB 42 p q c := by
      simp only [List.mem_cons, List.not_mem_nil, or_false] at hx5
      rcases hx5 with rfl | rfl
      · exact ⟨_, _, _, _, rfl, f45.t _ _ e1, R1.mono (by decide)⟩
      · exact ⟨_, _, _, _, rfl, f45.t _ _ e2, R2.mono (by omega)⟩
    refine ⟨r, _, rfl, SqT.of er, rfl, _, _, rfl, _, _, rfl, _, _, rfl, rfl, ?_⟩
    have fH := f1.trans (f2.trans (f24.trans f45))
    have hP5 : Pen H5 a (n + 50) := hP5.mono (by omega)
    clear f1 f2 f3 f4 f5 f24 f45 z1 z2 e1 e2 R1 R2 hx hx5 nl nl2 hP1 hP2 hP3 hP4 hP
    have q1' := R.q1
    have p0 := R.p0
    refine ⟨fun σ' H' => σ' = [some (.ref a), some (.int rd), some (.int p), some (.int q), some (.int c), none, none, none, none, none, none] ∧ H' = H5, ?_, ?_⟩
    · refine ⟨_, rfl, rfl, _, rfl, ite2 (fun _ => ?_) (fun _ => ⟨rfl, rfl⟩)⟩
      refine ⟨_, rfl, _, rfl, _, rfl, len10 (by simp), fun t1 n1 => ?_⟩
      have z1 := sm_upd (o := tup3 p q c) n1
      have et1 : upd H5 t1 (tup3 p q c) t1 = some (tup3 p q c) := upd_same
      have hP6 := hP5.same z1
      generalize upd H5 t1 (tup3 p q c) = H6 at z1 et1 hP6
      refine ⟨_, rfl, _, rfl, _, rfl, _, rfl, _, rfl, _, rfl, a, _, 12, rfl, hP6, by omega, by decide, by decide, fun g H7 bg hP7 f7 => ?_⟩
      rw [h12] at bg hP7
      refine ⟨_, rfl, _, rfl, a, _, q, rfl, hP7, by omega, by omega, R.bq.mono (by decide), fun d2 H8 d20 d21 hP8 f8 => ⟨len10 (by simp), fun l nl => ?_⟩⟩
      have z2 := sm_upd (o := .lst [.int 0, .int 1, .int (-1), .int g, .int d2]) nl
      refine ⟨a, l, _, _, rfl, hP8.same z2, by omega, upd_same, by simp, by simp, fun x H9 hx hP9 f9 => ?_⟩
      obtain ⟨v, rfl, bv⟩ : ∃ v : Int, x = .int v ∧ Bd 42 v := by
        simp only [List.mem_cons, List.not_mem_nil, or_false] at hx
        rcases hx with rfl | rfl | rfl | rfl | rfl
        · exact ⟨_, rfl, Bd.small 20 (by decide) (by decide)⟩
        · exact ⟨_, rfl, Bd.small 20 (by decide) (by decide)⟩
        · exact ⟨_, rfl, Bd.small 20 (by decide) (by decide)⟩
        · exact ⟨_, rfl, bg.mono (by decide)⟩
        · exact ⟨_, rfl, R.bq.between d20 (by omega)⟩
      refine ⟨_, _, rfl, rfl, len10 (by simp), fun t2 n2 => ⟨len10 (by simp), fun t3 n3 => ?_⟩⟩
      have z3 := sm_upd (o := tup3 p q (c + v)) n2
      have z4 := sm_upd (o := .tup [.ref t1, .ref t2]) n3
      have f69 := f7.trans (f8.trans ((Fr.same z2).trans f9))
      exact kk t3 t1 t2 ⟨p, q, c⟩ ⟨p, q, c + v⟩ _ upd_same (z4 _ _ (z3 _ _ (f69.t _ _ et1))) (z4 _ _ upd_same) (R.mono (by decide)) ⟨p0, q1', R.g, R.bp.mono (by decide), R.bq.mono (by decide), (Bd.add R.bc bv).mono (by decide)⟩ (((hP9.same z3).same z4).mono (by omega)) (fH.trans ((Fr.same z1).trans (f69.trans ((Fr.same z3).trans (Fr.same z4)))))
    rintro σ H5' ⟨rfl, rfl⟩
    refine ⟨_, rfl, _, rfl, len10 (by simp), fun tp np => ?_⟩
    have z1 := sm_upd (o := .tup [.int p, .int q, .int 1, .int 0]) np
    refine ⟨tp, _, rfl, SqT.of upd_same, rfl, _, _, rfl, _, _, rfl, _, _, rfl, _, _, rfl, rfl, ?_⟩
    have hP6 := hP5.same z1
    have fH := fH.trans (Fr.same z1)
    generalize upd H5' tp (.tup [.int p, .int q, .int 1, .int 0]) = H6 at hP6 fH
    clear z1 np er hP5
    refine while_by (fun σ H' => ∃ one other u v : Int, σ = [some (.ref a), some (.int rd), some (.int p), some (.int q), some (.int c), some (.int one), some (.int other), some (.int u), some (.int v), none, none] ∧ H' = H6 ∧ PrI q one other u v ∧ Bd 42 one ∧ Bd 42 other) muP ⟨p, q, 1, 0, rfl, rfl, .init p0 q1', R.bp, R.bq⟩ ?_ ?_
    · rintro σ H' ⟨one, other, u, v, rfl, rfl, I, bo, bt⟩
      have bu : Bd 42 u := R.bq.le (by have := I.ub; omega)
      have bv : Bd 42 v := R.bq.le (by have := I.vb; omega)
      refine ⟨_, rfl, _, _, rfl, rfl, _, rfl, ite2 (fun cc => ?_) (fun _ => ?_)⟩
      · have cc : 0 < other := of_decide_eq_true cc
        have bd := bo.ediv (m := other) cc
        refine ⟨_, rfl, _, rfl, _, rfl, _, rfl, _, _, rfl, rfl, divW cc bt (by decide), _, rfl, _, _, rfl, rfl, mulW bd bv (by decide) (by decide) (by decide), _, _, rfl, rfl, _, _, rfl, ?_⟩
        have r0 := Int.emod_nonneg one (show other ≠ 0 by omega)
        have r1 := Int.emod_lt_of_pos one cc
        refine ⟨_, rfl, _, rfl, _, rfl, _, _, rfl, rfl, cc, _, _, rfl, ⟨_, _, _, _, rfl, rfl, I.step cc, bt, bt.between r0 (by omega)⟩, ?_⟩
        show (one % other).toNat < other.toNat
        omega
      · have um0 := Int.emod_nonneg u (show q ≠ 0 by omega)
        have um1 := Int.emod_lt_of_pos u (show 0 < q by omega)
        refine ⟨_, rfl, _, rfl, _, _, rfl, rfl, by omega, _, rfl, a, _, 4, rfl, hP6, by omega, by decide, Bd.small 20 (by decide) (by decide), fun k H7 k0 k3 hP7 f7 => ⟨_, _, rfl, ?_⟩⟩
        have fH := fH.trans f7
        have bw : Bd 42 (u % q) := R.bq.between um0 (by omega)
        have bk : Bd 2 k := Bd.small 2 (by omega) (by decide)
        have kq := Int.mul_nonneg k0 (show 0 ≤ q by omega)
        have kp := Int.mul_nonneg k0 p0
        have pw0 := Int.mul_nonneg p0 um0
        have pw1 := Int.mul_le_mul_of_nonneg_left (show u % q ≤ q by omega) p0
        have d0 : -1 ≤ (p * (u % q) - 1) / q := Int.le_ediv_of_mul_le (by omega) (by omega)
        have d1 : (p * (u % q) - 1) / q < p + 1 := Int.ediv_lt_of_lt_mul (by omega) (by rw [Int.add_mul]; omega)
        have bd : Bd 43 ((p * (u % q) - 1) / q) := by
          have := R.bp
          unfold Bd at *
          have e : (2 : Nat) ^ 43 = 2 * 2 ^ 42 := by decide
          omega
        have hP7 : Pen H7 a (n + 60) := hP7.mono (by omega)
        refine ⟨fun σ' H' => ∃ (N : Addr) (n0 n1 : Int), σ' = [some (.ref a), some (.int rd), some (.int p), some (.int q), some (.int c), some (.int one), some (.int other), some (.int (u % q)), some (.int v), some (.int k), some (.ref N)] ∧ H' N = some (.tup [.int n0, .int n1]) ∧ Pen H' a (n + 60) ∧ Fr H H' ∧ 1 ≤ n1 ∧ Bd 46 n0 ∧ Bd 46 n1, ?_, ?_⟩
        · refine ⟨_, rfl, _, rfl, _, _, rfl, rfl, _, _, rfl, rfl, _, rfl, ite2 (fun cp => ?_) (fun cp => ?_)⟩
          · have cp : 0 < u % q + k := of_decide_eq_true cp
            refine ⟨_, rfl, _, rfl, _, _, rfl, rfl, mulW R.bp bw (by decide) (by decide) (by decide), _, _, rfl, rfl, _, rfl, _, _, rfl, rfl, divW (by omega) R.bq (by decide), _, rfl, _, rfl, _, _, rfl, rfl, mulW bk R.bp (by decide) (by decide) (by decide), _, _, rfl, rfl, ?_⟩
            refine ⟨_, rfl, _, rfl, _, rfl, _, _, rfl, rfl, mulW bk R.bq (by decide) (by decide) (by decide), _, _, rfl, rfl, len10 (by simp), fun N nN => ?_⟩
            refine ⟨N, _, _, rfl, upd_same, hP7.same (sm_upd nN), fH.trans (Fr.same (sm_upd nN)), ?_, ?_, ?_⟩
            · rcases Int.lt_or_le 0 k with z | z
              · have := Int.mul_le_mul_of_nonneg_right (show 1 ≤ k by omega) (show 0 ≤ q by omega)
                show 1 ≤ u % q + k * q
                omega
              · show 1 ≤ u % q + k * q
                omega
            · exact (Bd.add (k := 44) (bd.mono (by decide)) ((Bd.mul bk R.bp).mono (by decide))).mono (by decide)
            · exact (Bd.add (k := 44) (bw.mono (by decide)) ((Bd.mul bk R.bq).mono (by decide))).mono (by decide)
          · refine ⟨len10 (by simp), fun N nN => ⟨N, 0, 1, rfl, upd_same, hP7.same (sm_upd nN), fH.trans (Fr.same (sm_upd nN)), by decide, Bd.small 20 (by decide) (by decide), Bd.small 20 (by decide) (by decide)⟩⟩
        rintro σ H8 ⟨N, n0, n1, rfl, eN, hP8, f8, g1, b0, b1⟩
        refine ⟨fun σ' H' => ∃ (N : Addr) (n0 n1 : Int), σ' = [some (.ref a), some (.int rd), some (.int p), some (.int q), some (.int c), some (.int one), some (.int other), some (.int (u % q)), some (.int v), some (.int k), some (.ref N)] ∧ H' N = some (.tup [.int n0, .int n1]) ∧ Pen H' a (n + 60) ∧ Fr H H' ∧ 0 ≤ n0 ∧ 1 ≤ n1 ∧ Bd 46 n0 ∧ Bd 46 n1, ?_, ?_⟩
        · refine ⟨_, rfl, N, _, _, _, rfl, rfl, SqT.of eN, atI_nat (j := 1) rfl, rfl, _, rfl, iteFs (decide_eq_false fun z => by have := V.int.inj z; omega) ?_⟩
          refine ⟨_, rfl, N, _, _, _, rfl, rfl, SqT.of eN, atI_nat (j := 0) rfl, _, _, rfl, rfl, _, rfl, ite2 (fun _ => ?_) (fun cn => ?_)⟩
          · exact ⟨len10 (by simp), fun N nN => ⟨N, 0, 1, rfl, upd_same, hP8.same (sm_upd nN), f8.trans (Fr.same (sm_upd nN)), by decide, by decide, Bd.small 20 (by decide) (by decide), Bd.small 20 (by decide) (by decide)⟩⟩
          · have cn : ¬ n0 < 0 := fun z => cn (decide_eq_true z)
            exact ⟨N, n0, n1, rfl, eN, hP8, f8, by omega, g1, b0, b1⟩
        rintro σ H9 ⟨N, n0, n1, rfl, eN, hP9, f9, g0, g1, b0, b1⟩
        refine ⟨_, rfl, _, rfl, _, rfl, len10 (by simp), fun t1 m1 => ?_⟩
        have z1 := sm_upd (o := tup3 p q c) m1
        have et1 : upd H9 t1 (tup3 p q c) t1 = some (tup3 p q c) := upd_same
        have eN10 := z1 _ _ eN
        have hP10 := hP9.same z1
        generalize upd H9 t1 (tup3 p q c) = H10 at z1 et1 eN10 hP10
        refine ⟨_, rfl, N, _, _, _, rfl, rfl, SqT.of eN10, atI_nat (j := 0) rfl, _, rfl, N, _, _, _, rfl, rfl, SqT.of eN10, atI_nat (j := 1) rfl, _, rfl, a, _, 12, rfl, hP10, by omega, by decide, by decide, fun g H11 bg hP11 f11 => ?_⟩
        rw [h12] at bg hP11
        have bg : Bd 46 g := bg.mono (by decide)
        refine ⟨n0, n1, g, rfl, g0, g1, b1.mono (by decide), fun r2 H12 s12 e2 => ⟨len10 (by simp), fun t3 m3 => ?_⟩⟩
        have R2 := low_rule (k := 46) (c := g) g0 g1 b0 b1 bg
        have z3 := sm_upd (o := .tup [.ref t1, .ref r2]) m3
        exact kk t3 t1 r2 ⟨p, q, c⟩ ⟨_, _, _⟩ _ upd_same (z3 _ _ (s12 _ _ (f11.t _ _ et1))) (z3 _ _ e2) (R.mono (by decide)) (RuleB.mono R2 (by decide)) (((hP11.same s12).same z3).mono (by omega)) (f9.trans ((Fr.same z1).trans (f11.trans ((Fr.same s12).trans (Fr.same z3)))))
    · rintro σ H1 Q1 Q2 hQ ⟨v, h1, i, j, h2, h3, b, h4, h5⟩
      exact ⟨v, h1, i, j, h2, h3, b, h4, hQ _ _ h5⟩
end
end Lf
namespace Lf
open PySem PySem.Spec PyProof.Rows L2
section
variable {P : Program} {w : World} {K : PySem.W.Frag} {mg : Str → Option Value} {base : Heap}
def spLdR : Sp := fun vs H Q _ => ∃ (A B : Addr) (a b : Rl) (st sp am : Int), vs = [.ref A, .ref B, .int st, .int sp, .int am] ∧ Two 50 A B a b H ∧ st < sp ∧ Bd 130 st ∧ Bd 130 sp ∧ Bd 130 am ∧ ∀ H', Same H H' → Q (.bl true) H'
abbrev s_l_leads_right : Stmt := topS 55
abbrev N_l_leads_right : List Str := ["_law_one", "_law_two", "_law_start", "_law_stop", "_law_amount", "_law_moved_two", "_law_found", "_law_last", "_law_slope", "_law_least", "_law_greatest", "_law_lead", "_law_high"]
abbrev P_l_leads_right : List Str := ["_law_one", "_law_two", "_law_start", "_law_stop", "_law_amount"]
theorem sc_l_leads_right : FnScope N_l_leads_right P_l_leads_right (defScope s_l_leads_right) := ⟨rfl, rfl, rfl, by decide +kernel, rfl, by decide +kernel, by decide +kernel⟩
theorem ok_l_leads_right (D : Df K mg "_law_leads_right" s_l_leads_right P_l_leads_right) (B : Bi mg) (c_count : C8.Cal P w K mg base 4 "count" spCount []) (c_shift_rule : C8.Cal P w K mg base 4 "shift_rule" spShift []) (c_compare_counts : C8.Cal P w K mg base 7 "compare_counts" spCmp []) (c_first_lead : C8.Cal P w K mg base 6 "first_lead" spFL []) (c_last_lead : C8.Cal P w K mg base 6 "last_lead" spLL []) (c_lead_range : C8.Cal P w K mg base 8 "lead_range" spLR []) : C8.Cal P w K mg base 9 "_law_leads_right" spLdR [] := by
  refine cal_of D sc_l_leads_right (fun vs H Q E h => ?_) (fun f cdv A outer s H vs Q E hr h => ?_)
  · obtain ⟨A, B, a, b, st, sp, am, rfl, _⟩ := h
    rfl
  · obtain ⟨A1, B1, a, b, st, sp, am, rfl, T, ss, bst, bsp, bam, q⟩ := h
    refine ⟨_, (pss_cons (ps_set (i := 5) sc_l_leads_right.nd rfl (Or.inl rfl) (C8.pe_c c_shift_rule hr (by decide) (by rfl) (pa_cons (pv 1) (pa_cons pe_int (pa_cons (pe_op op_sub (pv 4) pe_int) pa_nil)))))
    (pss_cons (ps_par (i := 6) (j := 7) rfl sc_l_leads_right.nd rfl rfl (by decide) rfl rfl (pa_cons (C8.pe_c c_first_lead hr (by decide) (by rfl) (pa_cons (pv 0) (pa_cons (pv 1) (pa_cons (pv 2) (pa_cons (pv 4) pa_nil))))) (pa_cons (C8.pe_c c_last_lead hr (by decide) (by rfl) (pa_cons (pv 0) (pa_cons (pv 1) (pa_cons (pv 3) (pa_cons (pv 4) pa_nil))))) pa_nil)) rfl)
    (pss_cons (ps_set (i := 8) sc_l_leads_right.nd rfl (Or.inl rfl) (pe_op op_sub (pe_op op_mulW (pe_ix (r := rIxT K) ix_tup (pv 0) pe_int (fun _ _ => rfl)) (pe_ix (r := rIxT K) ix_tup (pv 1) pe_int (fun _ _ => rfl))) (pe_op op_mulW (pe_ix (r := rIxT K) ix_tup (pv 1) pe_int (fun _ _ => rfl)) (pe_ix (r := rIxT K) ix_tup (pv 0) pe_int (fun _ _ => rfl)))))
    (C8.pss_cut (ps_if (pt_cmpR op_isN (pv 6) pe_non (nomark _))
      (pss_one (ps_if (PW.pt (pw_or (pt_cmpR op_gt (pv 8) pe_int (nomark _)) (pw_or1 (pt_cmpR op_ne (pe_ix (r := rIxT K) ix_tup (C8.pe_c c_compare_counts hr (by decide) (by rfl) (pa_cons (pv 0) (pa_cons (pv 5) (pa_cons (pv 2) (pa_cons (pe_callB (call_max2 rfl) (by rfl) B.max_ bt_max (pa_cons (pv 2) (pa_cons (pv 3) pa_nil))) pa_nil))))) pe_int (fun _ _ => rfl)) pe_int (nomark _)))))
      (pss_one (ps_ret pe_bl))
      pss_nil))
      (pss_one (ps_if (PW.pt (pw_or (pt_cmpR op_lt (pe_op op_sub (C8.pe_c c_count hr (by decide) (by rfl) (pa_cons (pv 0) (pa_cons (pv 6) pa_nil))) (C8.pe_c c_count hr (by decide) (by rfl) (pa_cons (pv 1) (pa_cons (pv 6) pa_nil)))) (pv 4) (nomark _)) (pw_or1 (pt_cmpR op_ne (pe_ix (r := rIxT K) ix_tup (C8.pe_c c_compare_counts hr (by decide) (by rfl) (pa_cons (pv 0) (pa_cons (pv 5) (pa_cons (pv 2) (pa_cons (pv 6) pa_nil))))) pe_int (fun _ _ => rfl)) pe_int (nomark _)))))
      (pss_one (ps_ret pe_bl))
      pss_nil)))
    (C8.pss_cut (ps_if (pt_cmpR op_notN (pv 7) pe_non (nomark _))
      (pss_one (ps_if (PW.pt (pw_or (pt_cmpR op_lt (pe_op op_sub (C8.pe_c c_count hr (by decide) (by rfl) (pa_cons (pv 0) (pa_cons (pv 7) pa_nil))) (C8.pe_c c_count hr (by decide) (by rfl) (pa_cons (pv 1) (pa_cons (pv 7) pa_nil)))) (pv 4) (nomark _)) (pw_or1 (pt_cmpR op_ne (pe_ix (r := rIxT K) ix_tup (C8.pe_c c_compare_counts hr (by decide) (by rfl) (pa_cons (pv 0) (pa_cons (pv 5) (pa_cons (pe_op op_add (pv 7) pe_int) (pa_cons (pv 3) pa_nil))))) pe_int (fun _ _ => rfl)) pe_int (nomark _)))))
      (pss_one (ps_ret pe_bl))
      pss_nil))
      (pss_one (ps_if (PW.pt (pw_or (pt_cmpR op_lt (pv 8) pe_int (nomark _)) (pw_or1 (pt_cmpR op_ne (pe_ix (r := rIxT K) ix_tup (C8.pe_c c_compare_counts hr (by decide) (by rfl) (pa_cons (pv 0) (pa_cons (pv 5) (pa_cons (pe_callB (call_min2 rfl) (by rfl) B.min_ bt_min (pa_cons (pv 2) (pa_cons (pv 3) pa_nil))) (pa_cons (pv 3) pa_nil))))) pe_int (fun _ _ => rfl)) pe_int (nomark _)))))
      (pss_one (ps_ret pe_bl))
      pss_nil)))
    (pss_cons (ps_asg (C8.pe_c c_lead_range hr (by decide) (by rfl) (pa_cons (pv 0) (pa_cons (pv 1) (pa_cons (pv 2) (pa_cons (pv 3) pa_nil))))) (pg_tup rfl (pgs_cons (pg_name (i := 9) sc_l_leads_right.nd rfl (Or.inl rfl)) (pgs_cons (pg_name (i := 10) sc_l_leads_right.nd rfl (Or.inl rfl)) pgs_nil))))
    (pss_cons (ps_for PassesOwn.never rfl (pi_tup (pe_tup (pa_cons (pv 9) (pa_cons (pv 10) pa_nil)))) (pg_name (i := 11) sc_l_leads_right.nd rfl (Or.inl rfl))
      (pss_one (ps_if (pt_cmpR op_eq (pe_ix (r := rIxT K) ix_tup (C8.pe_c c_compare_counts hr (by decide) (by rfl) (pa_cons (pv 0) (pa_cons (C8.pe_c c_shift_rule hr (by decide) (by rfl) (pa_cons (pv 1) (pa_cons pe_int (pa_cons (pv 11) pa_nil)))) (pa_cons (pv 2) (pa_cons (pv 3) pa_nil))))) pe_int (fun _ _ => rfl)) pe_int (nomark _))
      (pss_one (ps_ret pe_bl))
      pss_nil)))
    (pss_cons (ps_set (i := 12) sc_l_leads_right.nd rfl (Or.inl rfl) (C8.pe_c c_compare_counts hr (by decide) (by rfl) (pa_cons (pv 0) (pa_cons (C8.pe_c c_shift_rule hr (by decide) (by rfl) (pa_cons (pv 1) (pa_cons pe_int (pa_cons (pv 10) pa_nil)))) (pa_cons (pv 2) (pa_cons (pv 3) pa_nil))))))
    (pss_one (ps_ret (pe_and (pe_cmpR op_eq (pe_ix (r := rIxT K) ix_tup (pv 12) pe_int (fun _ _ => rfl)) pe_int (nomark _)) (pe_one (pe_cmpR op_eq (pe_ix (r := rIxT K) ix_tup (C8.pe_c c_compare_counts hr (by decide) (by rfl) (pa_cons (pv 0) (pa_cons (C8.pe_c c_shift_rule hr (by decide) (by rfl) (pa_cons (pv 1) (pa_cons pe_int (pa_cons (pv 9) pa_nil)))) (pa_cons (pv 2) (pa_cons (pv 3) pa_nil))))) pe_int (fun _ _ => rfl)) pe_int (nomark _)))))))))))))), ?_⟩
    have aq := T.ra.q1
    have bq := T.rb.q1
    have bam1 : Bd 131 (am - 1) := Bd.sub bam (Bd.small 1 (by decide) (by decide))
    refine ⟨_, rfl, _, rfl, _, _, rfl, rfl, B1, _, _, _, 0, am - 1, 131, rfl, T.eb, T.rb.mono (by decide), Bd.small 1 (by decide) (by decide), bam1, by decide, by decide, fun M H1 s1 eM RM => ?_⟩
    have T1 := T.same s1
    have TM : Two 264 A1 M a (b.up (am - 1)) H1 := ⟨T1.ea, eM, T1.ra.mono (by decide), RM⟩
    have ul := fun t => up_ld (a := a) (b := b) bq (am - 1) t
    have pu : ∀ t, ldP a (b.up (am - 1)) t = true ↔ am ≤ Ld a b t := fun t => by
      unfold ldP
      rw [ul]
      exact ⟨fun z => by have := of_decide_eq_true z; omega, fun z => decide_eq_true (by omega)⟩
    have pf : ∀ t, Ld a b t < am → ldP a (b.up (am - 1)) t = false := fun t h => by
      cases hh : ldP a (b.up (am - 1)) t with
      | false => rfl
      | true => have := (pu t).mp hh; omega
    refine ⟨_, rfl, _, rfl, _, rfl, _, rfl, A1, B1, a, b, st, am, 50, 130, rfl, T1, bst, bam, by decide, by decide, by decide, fun o1 H2 s2 h1 bo1 _ => ?_⟩
    refine ⟨_, rfl, _, rfl, _, rfl, _, rfl, A1, B1, a, b, sp, am, 50, 130, rfl, T1.same s2, bsp, bam, by decide, by decide, by decide, fun o2 H3 s3 h2 bo2 => ⟨_, _, rfl, ?_⟩⟩
    have s23 := s2.trans s3
    have T3 := T1.same s23
    have TM3 := TM.same s23
    clear T1 TM s2 s3 eM RM
    refine ⟨_, rfl, A1, _, _, _, rfl, rfl, SqT.of T3.ea, atI_nat (j := 0) rfl, _, rfl, B1, _, _, _, rfl, rfl, SqT.of T3.eb, atI_nat (j := 1) rfl, _, _, rfl, rfl, mulW T.ra.bp T.rb.bq (by decide) (by decide) (by decide), ?_⟩
    refine ⟨_, rfl, B1, _, _, _, rfl, rfl, SqT.of T3.eb, atI_nat (j := 0) rfl, _, rfl, A1, _, _, _, rfl, rfl, SqT.of T3.ea, atI_nat (j := 1) rfl, _, _, rfl, rfl, mulW T.rb.bp T.ra.bq (by decide) (by decide) (by decide), _, _, rfl, rfl, ?_⟩
    -- the first one
    refine ⟨fun σ' H' => σ' = [some (.ref A1), some (.ref B1), some (.int st), some (.int sp), some (.int am), some (.ref M), some (oV (o1.map (st + ·))), some (oV (o2.map (sp - 1 - ·))), some (.int (slp a b)), none, none, none, none] ∧ Same H3 H', ?_, ?_⟩
    · match o1, h1, bo1 with
      | none, h1, bo1 =>
        refine ⟨_, rfl, rfl, _, rfl, iteT ?_⟩
        have s0 : ¬ 0 < slp a b := fun z => by
          obtain ⟨x, x0, hx⟩ := ld_rise aq bq z am st
          exact h1 x x0 hx
        refine ⟨_, rfl, _, _, rfl, rfl, _, rfl, iteDn s0 ?_⟩
        refine ⟨_, rfl, _, rfl, _, rfl, _, rfl, _, rfl, _, _, rfl, ?_⟩
        rw [if_pos ss]
        refine ⟨A1, M, a, b.up (am - 1), st, sp, 264, rfl, TM3, bst.mono (by decide), bsp.mono (by decide), by decide, by decide, fun r H4 s4 er _ => ?_⟩
        refine ⟨r, _, _, _, rfl, rfl, SqT.of er, atI_nat (j := 0) rfl, rfl, _, rfl, iteNS (congrArg V.int (cB_no fun u u0 u1 => pf u ?_)) ⟨rfl, s4⟩⟩
        refine Int.not_le.mp fun z => h1 (u - st) (by omega) ?_
        show am ≤ Ld a b (st + (u - st))
        rw [show st + (u - st) = u by omega]
        exact z
      | some x, ⟨x0, hx, no⟩, bo1 =>
        have hx : am ≤ Ld a b (st + x) := hx
        refine ⟨_, rfl, rfl, _, rfl, iteF ?_⟩
        have bx : Bd 240 (st + x) := (Bd.add (k := 235) (bst.mono (by decide)) (bo1 x rfl)).mono (by decide)
        refine ⟨_, rfl, _, rfl, A1, _, _, _, st + x, 240, rfl, T3.ea, T3.ra.mono (by decide), bx, by decide, by decide, fun H4 s4 => ?_⟩
        have T4 := T3.same s4
        refine ⟨_, rfl, _, rfl, B1, _, _, _, st + x, 240, rfl, T4.eb, T4.rb.mono (by decide), bx, by decide, by decide, fun H5 s5 => ?_⟩
        have s45 := s4.trans s5
        refine ⟨_, _, rfl, rfl, _, rfl, _, _, rfl, rfl, _, rfl, iteDn (show ¬ Ld a b (st + x) < am by omega) ?_⟩
        refine ⟨_, rfl, _, rfl, _, rfl, _, rfl, A1, M, a, b.up (am - 1), st, st + x, 264, rfl, TM3.same s45, bst.mono (by decide), bx.mono (by decide), by decide, by decide, fun r H6 s6 er _ => ?_⟩
        refine ⟨r, _, _, _, rfl, rfl, SqT.of er, atI_nat (j := 0) rfl, rfl, _, rfl, iteNS (congrArg V.int (cB_no fun u u0 u1 => pf u ?_)) ⟨rfl, s45.trans s6⟩⟩
        refine Int.not_le.mp fun z => no (u - st) (by omega) (by omega) ?_
        show am ≤ Ld a b (st + (u - st))
        rw [show st + (u - st) = u by omega]
        exact z
    rintro σ H4 ⟨rfl, s4⟩
    have T4 := T3.same s4
    have TM4 := TM3.same s4
    have s14 := s1.trans (s23.trans s4)
    clear T3 TM3 s4 s23 s1 h1 bo1
    refine ⟨fun σ' H' => σ' = [some (.ref A1), some (.ref B1), some (.int st), some (.int sp), some (.int am), some (.ref M), some (oV (o1.map (st + ·))), some (oV (o2.map (sp - 1 - ·))), some (.int (slp a b)), none, none, none, none] ∧ Same H4 H', ?_, ?_⟩
    · match o2, h2, bo2 with
      | none, h2, bo2 =>
        refine ⟨_, rfl, rfl, _, rfl, iteF ?_⟩
        have s0 : ¬ slp a b < 0 := fun z => by
          obtain ⟨x, x0, hx⟩ := ld_fall aq bq z am (sp - 1)
          exact h2 x x0 hx
        refine ⟨_, rfl, _, _, rfl, rfl, _, rfl, iteDn s0 ?_⟩
        refine ⟨_, rfl, _, rfl, _, rfl, _, rfl, _, _, rfl, ?_⟩
        rw [if_neg (show ¬ sp < st by omega)]
        refine ⟨_, rfl, A1, M, a, b.up (am - 1), st, sp, 264, rfl, TM4, bst.mono (by decide), bsp.mono (by decide), by decide, by decide, fun r H5 s5 er _ => ?_⟩
        refine ⟨r, _, _, _, rfl, rfl, SqT.of er, atI_nat (j := 0) rfl, rfl, _, rfl, iteNS (congrArg V.int (cB_no fun u u0 u1 => pf u ?_)) ⟨rfl, s5⟩⟩
        refine Int.not_le.mp fun z => h2 (sp - 1 - u) (by omega) ?_
        show am ≤ Ld a b (sp - 1 - (sp - 1 - u))
        rw [show sp - 1 - (sp - 1 - u) = u by omega]
        exact z
      | some x, ⟨x0, hx, no⟩, bo2 =>
        have hx : am ≤ Ld a b (sp - 1 - x) := hx
        refine ⟨_, rfl, rfl, _, rfl, iteT ?_⟩
        have bx : Bd 240 (sp - 1 - x) := (Bd.sub (k := 236) (Bd.sub (k := 235) (bsp.mono (by decide)) (Bd.small 1 (by decide) (by decide))) (bo2 x rfl)).mono (by decide)
        refine ⟨_, rfl, _, rfl, A1, _, _, _, sp - 1 - x, 240, rfl, T4.ea, T4.ra.mono (by decide), bx, by decide, by decide, fun H5 s5 => ?_⟩
        have T5 := T4.same s5
        refine ⟨_, rfl, _, rfl, B1, _, _, _, sp - 1 - x, 240, rfl, T5.eb, T5.rb.mono (by decide), bx, by decide, by decide, fun H6 s6 => ?_⟩
        have s56 := s5.trans s6
        refine ⟨_, _, rfl, rfl, _, rfl, _, _, rfl, rfl, _, rfl, iteDn (show ¬ Ld a b (sp - 1 - x) < am by omega) ?_⟩
        have bx1 : Bd 241 (sp - 1 - x + 1) := Bd.add bx (Bd.small 1 (by decide) (by decide))
        refine ⟨_, rfl, _, rfl, _, rfl, _, _, rfl, rfl, _, rfl, A1, M, a, b.up (am - 1), sp - 1 - x + 1, sp, 264, rfl, TM4.same s56, bx1.mono (by decide), bsp.mono (by decide), by decide, by decide, fun r H7 s7 er _ => ?_⟩
        refine ⟨r, _, _, _, rfl, rfl, SqT.of er, atI_nat (j := 0) rfl, rfl, _, rfl, iteNS (congrArg V.int (cB_no fun u u0 u1 => pf u ?_)) ⟨rfl, s56.trans s7⟩⟩
        refine Int.not_le.mp fun z => no (sp - 1 - u) (by omega) (by omega) ?_
        show am ≤ Ld a b (sp - 1 - (sp - 1 - u))
        rw [show sp - 1 - (sp - 1 - u) = u by omega]
        exact z
    rintro σ H5 ⟨rfl, s5⟩
    have T5 := T4.same s5
    have s15 := s14.trans s5
    clear T4 TM4 s5 s14 h2 bo2
    -- the range
    refine ⟨_, rfl, _, rfl, _, rfl, _, rfl, A1, B1, a, b, st, sp, 130, rfl, T5.mono (by decide), bst, bsp, by decide, by decide, ss, fun m Mx r H6 s6 hm hM er => ?_⟩
    refine ⟨r, _, rfl, SqT.of er, rfl, _, _, rfl, _, _, rfl, rfl, ?_⟩
    have T6 := T5.same s6
    have s16 := s15.trans s6
    clear T5 s6 s15 er
    have bld : ∀ {t : Int}, st ≤ t → t < sp → Bd 190 (Ld a b t) := fun {t} h1 h2 => by
      have bt : Bd 130 t := bst.mid bsp h1 (by omega)
      refine (Bd.sub (k := 182) (Bd.ediv ?_ (by omega)) (Bd.ediv ?_ (by omega))).mono (by decide)
      · exact (Bd.add (k := 180) (Bd.mul T.ra.bp bt) (T.ra.bc.mono (by decide))).mono (by decide)
      · exact (Bd.add (k := 180) (Bd.mul T.rb.bp bt) (T.rb.bc.mono (by decide))).mono (by decide)
    obtain ⟨⟨tm, tm1, tm2, tm3⟩, hm⟩ := hm
    obtain ⟨⟨tM, tM1, tM2, tM3⟩, hM⟩ := hM
    rw [ld_swap] at tm3
    have ll : ∃ t, st ≤ t ∧ t < sp ∧ Ld a b t = -m := ⟨tm, tm1, tm2, by omega⟩
    have lM : ∃ t, st ≤ t ∧ t < sp ∧ Ld a b t = Mx := ⟨tM, tM1, tM2, tM3⟩
    have bl : Bd 190 (-m) := by
      have := bld tm1 tm2
      rw [show -m = Ld a b tm by omega]
      exact this
    have bM : Bd 190 Mx := by
      have := bld tM1 tM2
      rw [tM3] at this
      exact this
    -- both are leads
    refine ⟨_, rfl, _, rfl, len10 (by simp), fun tq nt => ?_⟩
    have z1 := sm_upd (o := .tup [.int (-m), .int Mx]) nt
    have et : upd H6 tq (.tup [.int (-m), .int Mx]) tq = some (.tup [.int (-m), .int Mx]) := upd_same
    refine ⟨tq, rfl, ⟨_, SqT.of upd_same⟩, ?_⟩
    generalize upd H6 tq (.tup [.int (-m), .int Mx]) = H7 at z1 et
    have T7 := T6.same z1
    refine for_tup (K := K) (a := tq) (xs := [.int (-m), .int Mx]) (fun i σ H' => Same H7 H' ∧ ∃ y : Option V, σ = [some (.ref A1), some (.ref B1), some (.int st), some (.int sp), some (.int am), some (.ref M), some (oV (o1.map (st + ·))), some (oV (o2.map (sp - 1 - ·))), some (.int (slp a b)), some (.int (-m)), some (.int Mx), y, none]) ⟨Same.refl _, _, rfl⟩ ?_ ?_ ?_
    · rintro i σ H' _ ⟨s', _⟩
      exact SqT.of (s' _ _ et)
    · rintro i x σ H' hx ⟨s', y, rfl⟩
      obtain ⟨l, rfl, bl', t, t1, t2, t3⟩ : ∃ l, x = .int l ∧ Bd 190 l ∧ ∃ t, st ≤ t ∧ t < sp ∧ Ld a b t = l := by
        match i, hx with
        | 0, hx => cases hx; exact ⟨_, rfl, bl, ll⟩
        | 1, hx => cases hx; exact ⟨_, rfl, bM, lM⟩
      have T8 := T7.same s'
      refine ⟨_, rfl, _, rfl, _, rfl, B1, _, _, _, 0, l, 190, rfl, T8.eb, T8.rb.mono (by decide), Bd.small 1 (by decide) (by decide), bl', by decide, by decide, fun N H8 s8 eN RN => ?_⟩
      refine ⟨_, rfl, _, rfl, A1, N, a, b.up l, st, sp, 382, rfl, ⟨s8 _ _ T8.ea, eN, T8.ra.mono (by decide), RN⟩, bst.mono (by decide), bsp.mono (by decide), by decide, by decide, fun r H9 s9 er _ => ?_⟩
      refine ⟨r, _, _, _, rfl, rfl, SqT.of er, atI_nat (j := 1) rfl, ?_⟩
      rw [cZ_eq]
      have pos := cB_has (f := ldZ a (b.up l)) (t := st) (u := t) (n := (sp - st).toNat) t1 (by omega) (decide_eq_true (by rw [up_ld bq]; omega))
      exact ⟨rfl, _, rfl, iteFs (decide_eq_false fun z => by have := V.int.inj z; omega) ⟨s'.trans (s8.trans s9), _, rfl⟩⟩
    rintro σ H8 ⟨s8, y, rfl⟩
    have T8 := T7.same s8
    have s18 := s16.trans (z1.trans s8)
    refine ⟨_, rfl, _, rfl, _, rfl, B1, _, _, _, 0, Mx, 190, rfl, T8.eb, T8.rb.mono (by decide), Bd.small 1 (by decide) (by decide), bM, by decide, by decide, fun N H9 s9 eN RN => ?_⟩
    refine ⟨_, rfl, _, rfl, A1, N, a, b.up Mx, st, sp, 382, rfl, ⟨s9 _ _ T8.ea, eN, T8.ra.mono (by decide), RN⟩, bst.mono (by decide), bsp.mono (by decide), by decide, by decide, fun r1 H10 s10 er1 _ => ?_⟩
    have s910 := s9.trans s10
    have T10 := T8.same s910
    have z0 : cB (ldP a (b.up Mx)) st (sp - st).toNat = 0 := cB_no fun u u0 u1 => decide_eq_false (by
      rw [up_ld bq]
      have := hM u u0 (by omega)
      omega)
    rw [z0] at er1
    refine ⟨_, rfl, r1, _, _, _, rfl, rfl, SqT.of er1, atI_nat (j := 0) rfl, ?_⟩
    refine ⟨rfl, _, rfl, iteTs (decide_eq_true rfl) ?_⟩
    refine ⟨_, rfl, _, rfl, _, rfl, B1, _, _, _, 0, -m, 190, rfl, T10.eb, T10.rb.mono (by decide), Bd.small 1 (by decide) (by decide), bl, by decide, by decide, fun N2 H11 s11 eN2 RN2 => ?_⟩
    refine ⟨_, rfl, _, rfl, A1, N2, a, b.up (-m), st, sp, 382, rfl, ⟨s11 _ _ T10.ea, eN2, T10.ra.mono (by decide), RN2⟩, bst.mono (by decide), bsp.mono (by decide), by decide, by decide, fun r2 H12 s12 er2 _ => ?_⟩
    have z2 : cB (ldP (b.up (-m)) a) st (sp - st).toNat = 0 := cB_no fun u u0 u1 => decide_eq_false (by
      rw [ld_swap, up_ld bq]
      have h := hm u u0 (by omega)
      rw [ld_swap] at h
      omega)
    rw [z2] at er2
    refine ⟨r2, _, _, _, rfl, rfl, SqT.of er2, atI_nat (j := 2) rfl, rfl, ?_⟩
    show Q (.bl (decide (V.int 0 = V.int 0))) H12
    rw [decide_eq_true rfl]
    exact q H12 (s18.trans (s910.trans (s11.trans s12)))
end
end Lf
namespace Lf
open PySem PySem.Spec PyProof.Rows L2
def CDivX (_ j : Int) : Prop := j ≠ 0 ∧ j.natAbs.log2 < 9000
theorem op_fdivX {X : Cx} : OpR X (binaryOp .FloorDiv) (rI CDivX fun i j => .int (i.fdiv j)) := opI fun _ _ _ _ _ _ _ hc q => floordiv_int hc.1 q (.inl (PyProof.noPylong_of_log2 hc.2))
theorem Bd.fdiv {k : Nat} {x m : Int} (h : Bd k x) (hm : m ≠ 0) : Bd k (x.fdiv m) := by
  rcases Int.lt_or_le 0 m with z | z
  · rw [Int.fdiv_eq_ediv_of_nonneg x (by omega)]
    exact h.ediv z
  · rw [← Int.neg_fdiv_neg, Int.fdiv_eq_ediv_of_nonneg _ (by omega)]
    exact h.neg.ediv (by omega)
theorem iteNn {c A B : Prop} [Decidable c] (hc : ¬ c) (h : A) : if (!decide c) = true then A else B := by
  rw [decide_eq_false hc]
  exact iteT h
theorem at_eq {a b : Rl} {t : Int} (h : ldZ a b t = true) : (a.p * t + a.c) / a.q = (b.p * t + b.c) / b.q := by
  have z : a.at t - b.at t = 0 := of_decide_eq_true h
  show a.at t = b.at t
  omega
structure Ag (a : PA) (n : Nat) (A B : Addr) (x y : Rl) (r : Addr) (us : List V) (H : Hp) : Prop where
  t : Two 50 A B x y H
  p : Pen H a n
  e : H r = some (.tup us)
theorem Ag.same {a : PA} {n : Nat} {A B : Addr} {x y : Rl} {r : Addr} {us : List V} {H H' : Hp} (h : Ag a n A B x y r us H) (s : Same H H') : Ag a n A B x y r us H' := ⟨h.t.same s, h.p.same s, s _ _ h.e⟩
theorem Ag.fr {a : PA} {n m : Nat} {A B : Addr} {x y : Rl} {r : Addr} {us : List V} {H H' : Hp} (h : Ag a n A B x y r us H) (f : Fr H H') (p : Pen H' a m) : Ag a m A B x y r us H' := ⟨⟨f.t _ _ h.t.ea, f.t _ _ h.t.eb, h.t.ra, h.t.rb⟩, p, f.t _ _ h.e⟩
section
variable {P : Program} {w : World} {K : PySem.W.Frag} {mg : Str → Option Value} {base : Heap}
def spAgR : Sp := fun vs H Q _ => ∃ (a : PA) (n : Nat) (A B : Addr) (x y : Rl), vs = [.ref a, .ref A, .ref B] ∧ Two 50 A B x y H ∧ Pen H a n ∧ n < 2 ^ 36 ∧ ∀ H', Pen H' a (n + 100) → Fr H H' → Q (.bl true) H'
abbrev s_l_agreements_right : Stmt := topS 56
abbrev N_l_agreements_right : List Str := ["_law_pen_here", "_law_one", "_law_two", "_law_found", "_law_slope", "_law_word", "_law_first", "_law_last", "_law_number", "_law_wide", "_law_at", "_law_time", "_law_ends", "_law_start", "_law_span"]
abbrev P_l_agreements_right : List Str := ["_law_pen_here", "_law_one", "_law_two"]
theorem sc_l_agreements_right : FnScope N_l_agreements_right P_l_agreements_right (defScope s_l_agreements_right) := ⟨rfl, rfl, rfl, by decide +kernel, rfl, by decide +kernel, by decide +kernel⟩
theorem ok_l_agreements_right (D : Df K mg "_law_agreements_right" s_l_agreements_right P_l_agreements_right) (B : Bi mg) (c_l_draw : C8.Cal P w K mg base 1 "_law_draw" spDraw []) (c_l_great : C8.Cal P w K mg base 2 "_law_great" spGreat []) (c_l_signed : C8.Cal P w K mg base 3 "_law_signed" spSigned []) (c_count : C8.Cal P w K mg base 4 "count" spCount []) (c_compare_counts : C8.Cal P w K mg base 7 "compare_counts" spCmp []) (c_nth_agreement : C8.Cal P w K mg base 9 "nth_agreement" spNth []) (c_all_agreements : C8.Cal P w K mg base 8 "all_agreements" spAll []) : C8.Cal P w K mg base 10 "_law_agreements_right" spAgR [] := by
  refine cal_of D sc_l_agreements_right (fun vs H Q E h => ?_) (fun f cdv A outer s H vs Q E hr h => ?_)
  · obtain ⟨a, n, A, B, x, y, rfl, _⟩ := h
    rfl
  · obtain ⟨a, n, A1, B1, x, y, rfl, T, hP, hn, q⟩ := h
    refine ⟨_, (pss_cons (ps_par (i := 3) (j := 4) rfl sc_l_agreements_right.nd rfl rfl (by decide) rfl rfl (pa_cons (C8.pe_c c_all_agreements hr (by decide) (by rfl) (pa_cons (pv 1) (pa_cons (pv 2) pa_nil))) (pa_cons (pe_op op_sub (pe_op op_mulW (pe_ix (r := rIxT K) ix_tup (pv 1) pe_int (fun _ _ => rfl)) (pe_ix (r := rIxT K) ix_tup (pv 2) pe_int (fun _ _ => rfl))) (pe_op op_mulW (pe_ix (r := rIxT K) ix_tup (pv 2) pe_int (fun _ _ => rfl)) (pe_ix (r := rIxT K) ix_tup (pv 1) pe_int (fun _ _ => rfl)))) pa_nil)) rfl)
    (C8.pss_cut (ps_if (PW.pt (pw_and (pt_cmpR op_in_seq (pv 4) (pe_tup (pa_cons pe_int (pa_cons (pe_un un_neg pe_int) pa_nil))) rfl) (pw_and1 (PW.pt (pw_or (pt_cmpR op_ne (pe_ix (r := rIxT K) ix_tup (pv 3) pe_int (fun _ _ => rfl)) pe_str (nomark _)) (pw_or1 (pt_cmpR op_ne (pe_ix (r := rIxT K) ix_tup (pv 3) pe_int (fun _ _ => rfl)) (pe_op op_mulW (pe_ix (r := rIxT K) ix_tup (pv 1) pe_int (fun _ _ => rfl)) (pe_ix (r := rIxT K) ix_tup (pv 2) pe_int (fun _ _ => rfl))) (nomark _))))))))
      (pss_one (ps_ret pe_bl))
      pss_nil)
    (pss_cons (ps_if (pt_cmpR op_eq (pe_ix (r := rIxT K) ix_tup (pv 3) pe_int (fun _ _ => rfl)) pe_str (nomark _))
      (pss_cons (ps_asg (pv 3) (pg_tup rfl (pgs_cons (pg_name (i := 5) sc_l_agreements_right.nd rfl (Or.inl rfl)) (pgs_cons (pg_name (i := 6) sc_l_agreements_right.nd rfl (Or.inl rfl)) (pgs_cons (pg_name (i := 7) sc_l_agreements_right.nd rfl (Or.inl rfl)) (pgs_cons (pg_name (i := 8) sc_l_agreements_right.nd rfl (Or.inl rfl)) pgs_nil))))))
    (pss_cons (ps_set (i := 9) sc_l_agreements_right.nd rfl (Or.inl rfl) (C8.pe_c c_l_great hr (by decide) (by rfl) (pa_cons (pv 0) (pa_cons pe_int pa_nil))))
    (pss_cons (ps_if (PW.pt (pw_or (pt_cmpR op_ne (pe_ix (r := rIxT K) ix_tup (C8.pe_c c_compare_counts hr (by decide) (by rfl) (pa_cons (pv 1) (pa_cons (pv 2) (pa_cons (pe_op op_sub (pv 6) (pv 9)) (pa_cons (pe_op op_add (pe_op op_add (pv 7) pe_int) (pv 9)) pa_nil))))) pe_int (fun _ _ => rfl)) (pv 8) (nomark _)) (pw_or1 (pt_cmpR op_eq (pv 4) pe_int (nomark _)))))
      (pss_one (ps_ret pe_bl))
      pss_nil)
    (pss_cons (ps_set (i := 10) sc_l_agreements_right.nd rfl (Or.inl rfl) (C8.pe_c c_l_draw hr (by decide) (by rfl) (pa_cons (pv 0) (pa_cons (pv 8) pa_nil))))
    (pss_cons (ps_set (i := 11) sc_l_agreements_right.nd rfl (Or.inl rfl) (C8.pe_c c_nth_agreement hr (by decide) (by rfl) (pa_cons (pv 1) (pa_cons (pv 2) (pa_cons (pv 6) (pa_cons (pv 10) pa_nil))))))
    (pss_cons (ps_if (PW.pt (pw_or (pt_cmpR op_ne (C8.pe_c c_count hr (by decide) (by rfl) (pa_cons (pv 1) (pa_cons (pv 11) pa_nil))) (C8.pe_c c_count hr (by decide) (by rfl) (pa_cons (pv 2) (pa_cons (pv 11) pa_nil))) (nomark _)) (pw_or1 (pt_cmpR op_ne (pe_ix (r := rIxT K) ix_tup (C8.pe_c c_compare_counts hr (by decide) (by rfl) (pa_cons (pv 1) (pa_cons (pv 2) (pa_cons (pv 6) (pa_cons (pv 11) pa_nil))))) pe_int (fun _ _ => rfl)) (pv 10) (nomark _)))))
      (pss_one (ps_ret pe_bl))
      pss_nil)
    (pss_cons (ps_set (i := 12) sc_l_agreements_right.nd rfl (Or.inl rfl) (pe_lst (pa_cons (C8.pe_c c_nth_agreement hr (by decide) (by rfl) (pa_cons (pv 1) (pa_cons (pv 2) (pa_cons (pe_op op_sub (pv 6) (pv 9)) (pa_cons (pe_op op_sub (pv 8) pe_int) pa_nil))))) (pa_cons (C8.pe_c c_nth_agreement hr (by decide) (by rfl) (pa_cons (pv 1) (pa_cons (pv 2) (pa_cons (pe_op op_add (pv 7) pe_int) (pa_cons pe_int pa_nil))))) pa_nil))))
    (pss_one (ps_ret (pe_and (pe_cmpR (op_eqD hr.units) (pv 12) (pe_lst (pa_cons (pv 7) (pa_cons pe_non pa_nil))) (nomark _)) (pe_one (pe_cmpR op_eq (C8.pe_c c_nth_agreement hr (by decide) (by rfl) (pa_cons (pv 1) (pa_cons (pv 2) (pa_cons (pe_op op_sub (pv 6) (pv 9)) (pa_cons pe_int pa_nil))))) (pv 6) (nomark _)))))))))))))
      pss_nil)
    (pss_cons (ps_if (pt_cmpR op_eq (pe_ix (r := rIxT K) ix_tup (pv 3) pe_int (fun _ _ => rfl)) pe_str (nomark _))
      (pss_cons (ps_par (i := 13) (j := 10) rfl sc_l_agreements_right.nd rfl rfl (by decide) rfl rfl (pa_cons (C8.pe_c c_l_signed hr (by decide) (by rfl) (pa_cons (pv 0) (pa_cons pe_int pa_nil))) (pa_cons (C8.pe_c c_l_draw hr (by decide) (by rfl) (pa_cons (pv 0) (pa_cons (pe_ix (r := rIxT K) ix_tup (pv 3) pe_int (fun _ _ => rfl)) pa_nil))) pa_nil)) rfl)
    (pss_cons (ps_set (i := 11) sc_l_agreements_right.nd rfl (Or.inl rfl) (C8.pe_c c_nth_agreement hr (by decide) (by rfl) (pa_cons (pv 1) (pa_cons (pv 2) (pa_cons (pv 13) (pa_cons (pv 10) pa_nil))))))
    (pss_cons (ps_if (PW.pt (pw_or (pt_cmpR op_ne (C8.pe_c c_count hr (by decide) (by rfl) (pa_cons (pv 1) (pa_cons (pv 11) pa_nil))) (C8.pe_c c_count hr (by decide) (by rfl) (pa_cons (pv 2) (pa_cons (pv 11) pa_nil))) (nomark _)) (pw_or (pt_cmpR op_ne (pe_ix (r := rIxT K) ix_tup (C8.pe_c c_compare_counts hr (by decide) (by rfl) (pa_cons (pv 1) (pa_cons (pv 2) (pa_cons (pv 13) (pa_cons (pv 11) pa_nil))))) pe_int (fun _ _ => rfl)) (pv 10) (nomark _)) (pw_or1 (pt_cmpR op_lt (pv 11) (pv 13) (nomark _))))))
      (pss_one (ps_ret pe_bl))
      pss_nil)
    (pss_cons (ps_if (PW.pt (pw_or (pt_cmpR op_ne (C8.pe_c c_nth_agreement hr (by decide) (by rfl) (pa_cons (pv 1) (pa_cons (pv 2) (pa_cons (pv 13) (pa_cons (pe_op op_add (pv 10) (pe_ix (r := rIxT K) ix_tup (pv 3) pe_int (fun _ _ => rfl))) pa_nil))))) (pe_op op_add (pv 11) (pe_ix (r := rIxT K) ix_tup (pv 1) pe_int (fun _ _ => rfl))) (nomark _)) (pw_or1 (pt_cmpR op_ne (pe_ix (r := rIxT K) ix_tup (pv 3) pe_int (fun _ _ => rfl)) (pe_ix (r := rIxT K) ix_tup (pv 1) pe_int (fun _ _ => rfl)) (nomark _)))))
      (pss_one (ps_ret pe_bl))
      pss_nil)
    (pss_one (ps_ret (pe_and (pe_cmpR op_eq (pv 4) pe_int (nomark _)) (pe_one (pe_cmpR op_eq (pe_ix (r := rIxT K) ix_tup (C8.pe_c c_compare_counts hr (by decide) (by rfl) (pa_cons (pv 1) (pa_cons (pv 2) (pa_cons (pv 13) (pa_cons (pe_op op_add (pv 13) (pe_ix (r := rIxT K) ix_tup (pv 1) pe_int (fun _ _ => rfl))) pa_nil))))) pe_int (fun _ _ => rfl)) (pe_ix (r := rIxT K) ix_tup (pv 3) pe_int (fun _ _ => rfl)) (nomark _))))))))))
      pss_nil)
    (pss_cons (ps_par (i := 13) (j := 14) rfl sc_l_agreements_right.nd rfl rfl (by decide) rfl rfl (pa_cons (C8.pe_c c_l_signed hr (by decide) (by rfl) (pa_cons (pv 0) (pa_cons pe_int pa_nil))) (pa_cons (pe_ix (r := rIxT K) ix_tup (pv 1) pe_int (fun _ _ => rfl)) pa_nil)) rfl)
    (C8.pss_cut (ps_if (pt_cmpR op_ne (pv 4) pe_int (nomark _))
      (pss_cons (ps_set (i := 13) sc_l_agreements_right.nd rfl (Or.inl rfl) (pe_op op_fdivX (pe_op op_sub (pe_op op_mulW (pe_ix (r := rIxT K) ix_tup (pv 2) pe_int (fun _ _ => rfl)) (pe_ix (r := rIxT K) ix_tup (pv 1) pe_int (fun _ _ => rfl))) (pe_op op_mulW (pe_ix (r := rIxT K) ix_tup (pv 1) pe_int (fun _ _ => rfl)) (pe_ix (r := rIxT K) ix_tup (pv 2) pe_int (fun _ _ => rfl)))) (pv 4)))
    (pss_one (ps_set (i := 14) sc_l_agreements_right.nd rfl (Or.inl rfl) (pe_op op_add (pe_op op_fdivW (pe_op op_mulW (pe_ix (r := rIxT K) ix_tup (pv 1) pe_int (fun _ _ => rfl)) (pe_ix (r := rIxT K) ix_tup (pv 2) pe_int (fun _ _ => rfl))) (pe_callB (call_abs) (by rfl) B.abs_ bt_abs (pa_cons (pv 4) pa_nil))) pe_int))))
      pss_nil)
    (pss_cons (ps_if (PW.pt (pw_or (pt_cmpR (op_neD hr.units) (pv 3) (pe_tup (pa_cons pe_str pa_nil)) (nomark _)) (pw_or1 (pt_cmpR op_ne (pe_ix (r := rIxT K) ix_tup (C8.pe_c c_compare_counts hr (by decide) (by rfl) (pa_cons (pv 1) (pa_cons (pv 2) (pa_cons (pe_op op_sub (pv 13) (pv 14)) (pa_cons (pe_op op_add (pv 13) (pv 14)) pa_nil))))) pe_int (fun _ _ => rfl)) pe_int (nomark _)))))
      (pss_one (ps_ret pe_bl))
      pss_nil)
    (pss_one (ps_ret (pe_cmpR op_isN (C8.pe_c c_nth_agreement hr (by decide) (by rfl) (pa_cons (pv 1) (pa_cons (pv 2) (pa_cons (pe_op op_sub (pv 13) (pv 14)) (pa_cons pe_int pa_nil))))) pe_non (nomark _))))))))))), ?_⟩
    have xq := T.ra.q1
    have yq := T.rb.q1
    have h18 : ((18 : Int) / 6).toNat = 3 := by decide
    refine ⟨_, rfl, _, rfl, A1, B1, x, y, 50, rfl, T, by decide, by decide, fun r H1 s1 hA => ?_⟩
    have T1 := T.same s1
    have bs : Bd 101 (slp x y) := bd_slp T.ra T.rb
    refine ⟨_, rfl, A1, _, _, _, rfl, rfl, SqT.of T1.ea, atI_nat (j := 0) rfl, _, rfl, B1, _, _, _, rfl, rfl, SqT.of T1.eb, atI_nat (j := 1) rfl, _, _, rfl, rfl, mulW T.ra.bp T.rb.bq (by decide) (by decide) (by decide), ?_⟩
    refine ⟨_, rfl, B1, _, _, _, rfl, rfl, SqT.of T1.eb, atI_nat (j := 0) rfl, _, rfl, A1, _, _, _, rfl, rfl, SqT.of T1.ea, atI_nat (j := 1) rfl, _, _, rfl, rfl, mulW T.rb.bp T.ra.bq (by decide) (by decide) (by decide), _, _, rfl, rfl, _, _, rfl, ?_⟩
    have cut1 : ∀ H' : Hp, Same H1 H' → True := fun _ _ => trivial
    have su : slp x y = 1 ∨ slp x y = -1 → (∀ u, ldZ x y u = false) → False := fun z => zeros_some xq yq z
    refine ⟨fun σ' H' => σ' = [some (.ref a), some (.ref A1), some (.ref B1), some (.ref r), some (.int (slp x y)), none, none, none, none, none, none, none, none, none, none] ∧ Same H1 H', ?_, ?_⟩
    · refine ⟨_, rfl, _, rfl, len10 (by simp), fun tt nt => ?_⟩
      have z1 := sm_upd (o := .tup [.int 1, .int (-1)]) nt
      refine ⟨tt, _, rfl, .inr (SqT.of upd_same), rfl, rfl, _, rfl, ?_⟩
      have einV : inV (.int (slp x y)) [.int 1, .int (-1)] = decide (slp x y = 1 ∨ slp x y = -1) := by
        show (eqV (.int 1) (.int (slp x y)) || (eqV (.int (-1)) (.int (slp x y)) || false)) = _
        have e : ∀ u v : Int, eqV (.int u) (.int v) = decide (u = v) := fun u v => rfl
        rw [e, e, Bool.or_false]
        by_cases c1 : slp x y = 1
        · rw [c1]
          decide
        · by_cases c2 : slp x y = -1
          · rw [c2]
            decide
          · rw [decide_eq_false (fun z => c1 z.symm), decide_eq_false (fun z => c2 z.symm), decide_eq_false (fun z => z.elim c1 c2)]
            rfl
      show if inV (.int (slp x y)) [.int 1, .int (-1)] = true then _ else _
      rw [einV]
      by_cases c : slp x y = 1 ∨ slp x y = -1
      · refine iteD c ?_
        rcases hA with ⟨h1, h2, _, _⟩ | ⟨h1, _⟩ | ⟨h1, fs', ls', hf, hl, all, _, _, er⟩
        · have : slp x y = 0 := by
            unfold slp
            rw [h1, h2, Int.sub_self]
          omega
        · exact (su c h1).elim
        · have er := z1 _ _ er
          have T2 := T1.same z1
          refine ⟨_, rfl, r, _, _, _, rfl, rfl, SqT.of er, atI_nat (j := 0) rfl, rfl, _, rfl, iteNS rfl ?_⟩
          refine ⟨_, rfl, r, _, _, _, rfl, rfl, SqT.of er, atI_nat (j := 3) rfl, _, rfl, A1, _, _, _, rfl, rfl, SqT.of T2.ea, atI_nat (j := 1) rfl, _, rfl, B1, _, _, _, rfl, rfl, SqT.of T2.eb, atI_nat (j := 1) rfl, _, _, rfl, rfl, mulW T.ra.bq T.rb.bq (by decide) (by decide) (by decide), rfl, _, rfl, iteNS (congrArg V.int (zeros_both xq yq c hf hl all)) ⟨rfl, z1⟩⟩
      · exact iteDn c ⟨rfl, z1⟩
    rintro σ H2 ⟨rfl, s2⟩
    have T2 := T1.same s2
    have hP2 := hP.same (s1.trans s2)
    have f2 : Fr H H2 := Fr.same (s1.trans s2)
    have b101 : ∀ {u : Int}, Bd 104 u → Bd 140 u := fun h => h.mono (by decide)
    rcases hA with ⟨ep, eq, pz, er⟩ | ⟨nz, er⟩ | ⟨sl0, fs, ls, hf, hl, all, bf, bl, er⟩
    -- periodic
    · have er := s2 _ _ er
      have pq : perZ x y ≤ x.q := by
        unfold perZ
        split <;> omega
      have s0 : slp x y = 0 := by
        unfold slp
        rw [ep, eq, Int.sub_self]
      have G : Ag a n A1 B1 x y r _ H2 := ⟨T2, hP2, er⟩
      refine ⟨_, rfl, r, _, _, _, rfl, rfl, SqT.of G.e, atI_nat (j := 0) rfl, rfl, _, rfl, iteFs (decide_eq_false (by decide +kernel)) ?_⟩
      refine ⟨_, rfl, r, _, _, _, rfl, rfl, SqT.of G.e, atI_nat (j := 0) rfl, rfl, _, rfl, iteTs (decide_eq_true rfl) ?_⟩
      refine ⟨_, rfl, a, _, 18, rfl, G.p, by omega, by decide, by decide, fun st H3 bst hP3 f3 => ?_⟩
      rw [h18] at bst hP3
      have G := G.fr f3 hP3
      have bpz : Bd 50 (perZ x y) := T.ra.bq.between (by omega) pq
      refine ⟨_, rfl, _, rfl, r, _, _, _, rfl, rfl, SqT.of G.e, atI_nat (j := 1) rfl, a, _, perZ x y, rfl, G.p, by omega, pz, bpz.mono (by decide), fun k H4 k0 k1 hP4 f4 => ⟨_, _, rfl, ?_⟩⟩
      have G := G.fr f4 hP4
      have f04 := f2.trans (f3.trans f4)
      have bst : Bd 100 st := bst.mono (by decide)
      have bk : Bd 50 k := bpz.between k0 (by omega)
      have per1 := per_zero (t := st) T.ra.g xq ep eq
      have per1 : cB (ldZ x y) st x.q.toNat = perZ x y := per1
      refine ⟨_, rfl, _, rfl, _, rfl, _, rfl, A1, B1, x, y, st, k, 50, 140, rfl, G.t, bst.mono (by decide), bk.mono (by decide), by decide, by decide, by decide, k0, fun o H5 s5 ho bo => ?_⟩
      obtain ⟨tm, rfl, hz⟩ : ∃ tm, o = some tm ∧ NthZ (ldZ x y) st k tm := by
        match o, ho with
        | none, ho =>
          have := ho x.q.toNat
          omega
        | some tm, ho => exact ⟨tm, rfl, ho⟩
      have btm : Bd 246 tm := bo tm rfl
      have G := G.same s5
      refine ⟨_, rfl, _, rfl, A1, _, _, _, tm, 246, rfl, G.t.ea, G.t.ra.mono (by decide), btm, by decide, by decide, fun H6 s6 => ?_⟩
      have G := G.same s6
      refine ⟨_, rfl, _, rfl, B1, _, _, _, tm, 246, rfl, G.t.eb, G.t.rb.mono (by decide), btm, by decide, by decide, fun H7 s7 => ⟨rfl, _, rfl, iteNS (congrArg V.int (at_eq hz.2.1)) ?_⟩⟩
      have G := G.same s7
      refine ⟨_, rfl, _, rfl, _, rfl, _, rfl, A1, B1, x, y, st, tm, 246, rfl, G.t.mono (by decide), bst.mono (by decide), btm, by decide, by decide, fun r2 H8 s8 er2 _ => ?_⟩
      have G := G.same s8
      refine ⟨r2, _, _, _, rfl, rfl, SqT.of er2, atI_nat (j := 1) rfl, ?_⟩
      rw [cZ_eq]
      refine ⟨_, rfl, rfl, _, rfl, iteNS (congrArg V.int hz.2.2) ?_⟩
      have ht := hz.1
      refine ⟨_, rfl, _, rfl, _, _, rfl, rfl, _, rfl, iteDn (show ¬ tm < st by omega) ?_⟩
      -- one cycle later
      have bkp : Bd 51 (k + perZ x y) := Bd.add bk bpz
      refine ⟨_, rfl, _, rfl, _, rfl, _, rfl, _, rfl, r, _, _, _, rfl, rfl, SqT.of G.e, atI_nat (j := 1) rfl, _, _, rfl, rfl, A1, B1, x, y, st, k + perZ x y, 50, 140, rfl, G.t, bst.mono (by decide), bkp.mono (by decide), by decide, by decide, by decide, by omega, fun o2 H9 s9 ho2 bo2 => ?_⟩
      have hz2 := nth_per T.ra.g xq ep eq hz (w := 1) (by decide)
      rw [Int.mul_one, Int.mul_one] at hz2
      rw [nthO_uniq ho2 (show NthO (ldZ x y) st (k + perZ x y) (some (tm + x.q)) from hz2)]
      have G := G.same s9
      refine ⟨_, rfl, _, rfl, A1, _, _, _, rfl, rfl, SqT.of G.t.ea, atI_nat (j := 1) rfl, _, _, rfl, rfl, rfl, _, rfl, iteNS rfl ?_⟩
      refine ⟨_, rfl, r, _, _, _, rfl, rfl, SqT.of G.e, atI_nat (j := 2) rfl, _, rfl, A1, _, _, _, rfl, rfl, SqT.of G.t.ea, atI_nat (j := 1) rfl, rfl, _, rfl, iteNS rfl ?_⟩
      refine ⟨_, rfl, rfl, _, rfl, iteTs (decide_eq_true (congrArg V.int s0)) ?_⟩
      refine ⟨_, rfl, _, rfl, _, rfl, _, rfl, _, rfl, A1, _, _, _, rfl, rfl, SqT.of G.t.ea, atI_nat (j := 1) rfl, _, _, rfl, rfl, A1, B1, x, y, st, st + x.q, 140, rfl, G.t.mono (by decide), bst.mono (by decide), (Bd.add bst (T.ra.bq.mono (by decide))).mono (by decide), by decide, by decide, fun r3 H10 s10 er3 _ => ?_⟩
      have G := G.same s10
      refine ⟨r3, _, _, _, rfl, rfl, SqT.of er3, atI_nat (j := 1) rfl, ?_⟩
      rw [cZ_eq, show (st + x.q - st).toNat = x.q.toNat by omega, per1]
      refine ⟨_, rfl, r, _, _, _, rfl, rfl, SqT.of G.e, atI_nat (j := 1) rfl, rfl, ?_⟩
      show Q (.bl (decide (V.int (perZ x y) = V.int (perZ x y)))) H10
      rw [decide_eq_true rfl]
      exact q H10 (G.p.mono (by omega)) (f04.trans (Fr.same (s5.trans (s6.trans (s7.trans (s8.trans (s9.trans s10)))))))
    -- none
    · have er := s2 _ _ er
      have G : Ag a n A1 B1 x y r _ H2 := ⟨T2, hP2, er⟩
      refine ⟨_, rfl, r, _, _, _, rfl, rfl, SqT.of G.e, atI_nat (j := 0) rfl, rfl, _, rfl, iteFs (decide_eq_false (by decide +kernel)) ?_⟩
      refine ⟨_, rfl, r, _, _, _, rfl, rfl, SqT.of G.e, atI_nat (j := 0) rfl, rfl, _, rfl, iteFs (decide_eq_false (by decide +kernel)) ?_⟩
      refine ⟨_, rfl, a, _, 18, rfl, G.p, by omega, by decide, by decide, fun st H3 bst hP3 f3 => ?_⟩
      rw [h18] at bst hP3
      have G := G.fr f3 hP3
      refine ⟨_, rfl, A1, _, _, _, rfl, rfl, SqT.of G.t.ea, atI_nat (j := 1) rfl, _, _, rfl, ?_⟩
      have f03 := f2.trans f3
      have bx := T.ra
      have by_ := T.rb
      refine ⟨fun σ' H' => ∃ st' sn : Int, σ' = [some (.ref a), some (.ref A1), some (.ref B1), some (.ref r), some (.int (slp x y)), none, none, none, none, none, none, none, none, some (.int st'), some (.int sn)] ∧ Same H3 H' ∧ Bd 110 st' ∧ Bd 110 sn, ?_, ?_⟩
      · by_cases c : slp x y = 0
        · exact ⟨_, rfl, rfl, _, rfl, iteNS (congrArg V.int c) ⟨_, _, rfl, Same.refl _, bst.mono (by decide), bx.bq.mono (by decide)⟩⟩
        · refine ⟨_, rfl, rfl, _, rfl, iteNn (fun z => c (V.int.inj z)) ?_⟩
          have bnum : Bd 101 (y.c * x.q - x.c * y.q) := Bd.sub (k := 100) (Bd.mul by_.bc bx.bq) (Bd.mul bx.bc by_.bq)
          refine ⟨_, rfl, B1, _, _, _, rfl, rfl, SqT.of G.t.eb, atI_nat (j := 2) rfl, _, rfl, A1, _, _, _, rfl, rfl, SqT.of G.t.ea, atI_nat (j := 1) rfl, _, _, rfl, rfl, mulW by_.bc bx.bq (by decide) (by decide) (by decide), ?_⟩
          refine ⟨_, rfl, A1, _, _, _, rfl, rfl, SqT.of G.t.ea, atI_nat (j := 2) rfl, _, rfl, B1, _, _, _, rfl, rfl, SqT.of G.t.eb, atI_nat (j := 1) rfl, _, _, rfl, rfl, mulW bx.bc by_.bq (by decide) (by decide) (by decide), _, _, rfl, rfl, ?_⟩
          refine ⟨_, rfl, _, _, rfl, rfl, ⟨c, (bs.mono (show 101 ≤ 9000 by decide)).log (by decide)⟩, ?_⟩
          refine ⟨_, rfl, A1, _, _, _, rfl, rfl, SqT.of G.t.ea, atI_nat (j := 1) rfl, _, rfl, B1, _, _, _, rfl, rfl, SqT.of G.t.eb, atI_nat (j := 1) rfl, _, _, rfl, rfl, mulW bx.bq by_.bq (by decide) (by decide) (by decide), ?_⟩
          have ab : 0 < (if slp x y < 0 then -slp x y else slp x y) ∧ Bd 101 (if slp x y < 0 then -slp x y else slp x y) := by
            split
            · exact ⟨by omega, bs.neg⟩
            · exact ⟨by omega, bs⟩
          refine ⟨_, rfl, _, rfl, _, _, rfl, rfl, divW ab.1 ab.2 (by decide), _, _, rfl, rfl, ?_⟩
          exact ⟨_, _, rfl, Same.refl _, (bnum.fdiv c).mono (by decide), (Bd.add (k := 100) ((Bd.mul bx.bq by_.bq).ediv ab.1) (Bd.small 20 (by decide) (by decide))).mono (by decide)⟩
      rintro σ H4 ⟨st', sn, rfl, s4, b1, b2⟩
      have G := G.same s4
      have bm : Bd 111 (st' - sn) := Bd.sub b1 b2
      have bp : Bd 111 (st' + sn) := Bd.add b1 b2
      have zero : ∀ (u : Int) (m : Nat), cB (ldZ x y) u m = 0 := fun u m => cB_zero fun i _ => nz _
      refine ⟨_, rfl, len10 (by simp), fun tt nt => ?_⟩
      have z1 := sm_upd (o := .tup [.str "none"]) nt
      have ett : upd H4 tt (.tup [.str "none"]) tt = some (.tup [.str "none"]) := upd_same
      have G := G.same z1
      generalize upd H4 tt (.tup [.str "none"]) = H5 at z1 ett G
      refine ⟨.tuple [.str "none"], .tuple [.str "none"], Dp.tup (SqT.of G.e) (.cons (.str _) .nil), Dp.tup (SqT.of ett) (.cons (.str _) .nil), by decide +kernel, by decide +kernel, _, rfl, ?_⟩
      rw [SeqAt.eqv_refl _ (by decide +kernel)]
      refine iteF ?_
      refine ⟨_, rfl, _, rfl, _, rfl, _, rfl, _, _, rfl, rfl, _, rfl, _, rfl, _, _, rfl, rfl, A1, B1, x, y, st' - sn, st' + sn, 111, rfl, G.t.mono (by decide), bm, bp, by decide, by decide, fun r2 H6 s6 er2 _ => ?_⟩
      have G := G.same s6
      refine ⟨r2, _, _, _, rfl, rfl, SqT.of er2, atI_nat (j := 1) rfl, ?_⟩
      rw [cZ_eq, zero]
      refine ⟨rfl, _, rfl, iteNS rfl ?_⟩
      refine ⟨_, rfl, _, rfl, _, rfl, _, rfl, _, _, rfl, rfl, A1, B1, x, y, st' - sn, 0, 50, 140, rfl, G.t, bm.mono (by decide), Bd.small 1 (by decide) (by decide), by decide, by decide, by decide, Int.le_refl _, fun o H7 s7 ho bo => ?_⟩
      rw [nthO_uniq ho (show NthO (ldZ x y) (st' - sn) 0 none from fun m => by rw [zero]; exact Int.le_refl _)]
      have G := G.same s7
      refine ⟨rfl, ?_⟩
      show Q (.bl (decide (V.non = V.non))) H7
      rw [decide_eq_true rfl]
      exact q H7 (G.p.mono (by omega)) (f03.trans (Fr.same (s4.trans (z1.trans (s6.trans s7)))))
    -- finite
    · have er := s2 _ _ er
      have G : Ag a n A1 B1 x y r _ H2 := ⟨T2, hP2, er⟩
      have fl := (all ls hl).1
      obtain ⟨nu, hnu⟩ : ∃ z, z = cB (ldZ x y) fs (ls + 1 - fs).toNat := ⟨_, rfl⟩
      rw [← hnu] at G
      have nu0 : 0 < nu := by
        rw [hnu]
        exact cB_has (Int.le_refl _) (by omega) hf
      have nuB := cB_nn (ldZ x y) fs (ls + 1 - fs).toNat
      have bl1 : Bd 105 (ls + 1) := Bd.add bl (Bd.small 1 (by decide) (by decide))
      have bnu : Bd 106 nu := (Bd.sub (k := 105) bl1 (bf.mono (by decide))).between (by omega) (by omega)
      refine ⟨_, rfl, r, _, _, _, rfl, rfl, SqT.of G.e, atI_nat (j := 0) rfl, rfl, _, rfl, iteTs (decide_eq_true rfl) ?_⟩
      refine ⟨_, rfl, r, _, rfl, SqT.of G.e, rfl, _, _, rfl, _, _, rfl, _, _, rfl, _, _, rfl, rfl, ?_⟩
      refine ⟨_, rfl, a, _, 18, rfl, G.p, by omega, by decide, by decide, fun wd H3 w0 bw hP3 f3 => ?_⟩
      rw [h18] at bw hP3
      have bw : Bd 60 wd := bw
      have G := G.fr f3 hP3
      have bfw : Bd 105 (fs - wd) := Bd.sub bf (bw.mono (by decide))
      have blw : Bd 106 (ls + 1 + wd) := Bd.add bl1 (bw.mono (by decide))
      -- all of them
      refine ⟨_, rfl, _, rfl, _, rfl, _, rfl, _, _, rfl, rfl, _, rfl, _, _, rfl, rfl, _, rfl, _, _, rfl, rfl, A1, B1, x, y, fs - wd, ls + 1 + wd, 106, rfl, G.t.mono (by decide), bfw.mono (by decide), blw, by decide, by decide, fun r2 H4 s4 er2 _ => ?_⟩
      have G := G.same s4
      refine ⟨r2, _, _, _, rfl, rfl, SqT.of er2, atI_nat (j := 1) rfl, ?_⟩
      rw [cZ_eq, cB_outer (x := fs) (y := ls) (by omega) fl (by omega) all, ← hnu]
      refine ⟨_, rfl, rfl, _, rfl, iteNS rfl ?_⟩
      refine ⟨_, rfl, rfl, _, rfl, iteFs (decide_eq_false fun z => sl0 (V.int.inj z)) ?_⟩
      -- one of them
      refine ⟨_, rfl, _, rfl, a, _, nu, rfl, G.p, by omega, nu0, bnu.mono (by decide), fun k H5 k0 k1 hP5 f5 => ?_⟩
      have G := G.fr f5 hP5
      have bk : Bd 106 k := bnu.between k0 (by omega)
      refine ⟨_, rfl, _, rfl, _, rfl, _, rfl, A1, B1, x, y, fs, k, 50, 140, rfl, G.t, bf.mono (by decide), bk.mono (by decide), by decide, by decide, by decide, k0, fun o H6 s6 ho bo => ?_⟩
      obtain ⟨tm, rfl, hz⟩ : ∃ tm, o = some tm ∧ NthZ (ldZ x y) fs k tm := by
        match o, ho with
        | none, ho =>
          have := ho (ls + 1 - fs).toNat
          omega
        | some tm, ho => exact ⟨tm, rfl, ho⟩
      have btm : Bd 246 tm := bo tm rfl
      have G := G.same s6
      refine ⟨_, rfl, _, rfl, A1, _, _, _, tm, 246, rfl, G.t.ea, G.t.ra.mono (by decide), btm, by decide, by decide, fun H7 s7 => ?_⟩
      have G := G.same s7
      refine ⟨_, rfl, _, rfl, B1, _, _, _, tm, 246, rfl, G.t.eb, G.t.rb.mono (by decide), btm, by decide, by decide, fun H8 s8 => ⟨rfl, _, rfl, iteNS (congrArg V.int (at_eq hz.2.1)) ?_⟩⟩
      have G := G.same s8
      refine ⟨_, rfl, _, rfl, _, rfl, _, rfl, A1, B1, x, y, fs, tm, 246, rfl, G.t.mono (by decide), bf.mono (by decide), btm, by decide, by decide, fun r3 H9 s9 er3 _ => ?_⟩
      have G := G.same s9
      refine ⟨r3, _, _, _, rfl, rfl, SqT.of er3, atI_nat (j := 1) rfl, ?_⟩
      rw [cZ_eq]
      refine ⟨_, rfl, rfl, _, rfl, iteNS (congrArg V.int hz.2.2) ?_⟩
      -- the ends
      have pre : cB (ldZ x y) (fs - wd) (fs - (fs - wd)).toNat = 0 := cB_no fun u u0 u1 => by
        cases hh : ldZ x y u with
        | false => rfl
        | true => have := all u hh; omega
      have e1 : NthO (ldZ x y) (fs - wd) (nu - 1) (some ls) := by
        refine nth_move (md := fs) (c := 0) (by omega) pre ⟨fl, hl, ?_⟩
        have := hnu
        rw [show (ls + 1 - fs).toNat = (ls - fs).toNat + 1 by omega, cB_split, show fs + ((ls - fs).toNat : Int) = ls by omega, cB_one hl] at this
        omega
      have e2 : NthO (ldZ x y) (ls + 1) 0 none := fun m => by
        rw [cB_no fun u u0 u1 => by
          cases hh : ldZ x y u with
          | false => rfl
          | true => have := all u hh; omega]
        exact Int.le_refl _
      have e3 : NthO (ldZ x y) (fs - wd) 0 (some fs) := nth_move (md := fs) (c := 0) (by omega) pre ⟨Int.le_refl _, hf, by rw [Int.sub_self]; rfl⟩
      have bnu1 : Bd 107 (nu - 1) := Bd.sub bnu (Bd.small 1 (by decide) (by decide))
      refine ⟨_, rfl, _, rfl, _, rfl, _, rfl, _, _, rfl, rfl, _, rfl, _, _, rfl, rfl, A1, B1, x, y, fs - wd, nu - 1, 50, 140, rfl, G.t, bfw.mono (by decide), bnu1.mono (by decide), by decide, by decide, by decide, by omega, fun o1 H10 s10 ho1 bo1 => ?_⟩
      have G := G.same s10
      refine ⟨_, rfl, _, rfl, _, rfl, _, _, rfl, rfl, A1, B1, x, y, ls + 1, 0, 50, 140, rfl, G.t, bl1.mono (by decide), Bd.small 1 (by decide) (by decide), by decide, by decide, by decide, Int.le_refl _, fun o2 H11 s11 ho2 bo2 => ⟨len10 (by simp), fun E nE => ?_⟩⟩
      have G := G.same s11
      rw [nthO_uniq ho1 e1, nthO_uniq ho2 e2]
      have z1 := sm_upd (o := .lst [.int ls, .non]) nE
      have eE : upd H11 E (.lst [.int ls, .non]) E = some (.lst [.int ls, .non]) := upd_same
      have G := G.same z1
      refine ⟨_, rfl, _, rfl, len10 (by simp), fun E2 nE2 => ?_⟩
      have z2 := sm_upd (o := .lst [.int ls, .non]) nE2
      have G := G.same z2
      have dd : ∀ {H' : Hp} {e : Addr}, H' e = some (.lst [.int ls, .non]) → Dp K H' (.ref e) (.list [.int ls, .none]) := fun h => Dp.lst (SqL.of h) (.cons (.int _) (.cons .non .nil))
      refine ⟨.list [.int ls, .none], .list [.int ls, .none], dd (z2 _ _ eE), dd upd_same, rfl, rfl, _, rfl, ?_⟩
      rw [SeqAt.eqv_refl _ rfl]
      refine iteT ?_
      refine ⟨_, rfl, _, rfl, _, rfl, _, rfl, _, _, rfl, rfl, A1, B1, x, y, fs - wd, 0, 50, 140, rfl, G.t, bfw.mono (by decide), Bd.small 1 (by decide) (by decide), by decide, by decide, by decide, Int.le_refl _, fun o3 H12 s12 ho3 bo3 => ?_⟩
      rw [nthO_uniq ho3 e3]
      have G := G.same s12
      refine ⟨_, rfl, rfl, ?_⟩
      show Q (.bl (decide (V.int fs = V.int fs))) H12
      rw [decide_eq_true rfl]
      exact q H12 (G.p.mono (by omega)) (f2.trans (f3.trans ((Fr.same s4).trans (f5.trans (Fr.same (s6.trans (s7.trans (s8.trans (s9.trans (s10.trans (s11.trans (z1.trans (z2.trans s12)))))))))))))
end
end Lf
namespace Lf
open PySem PySem.Spec PyProof.Rows L2
theorem bdo_min {m : Nat} {a b : Option Int} (h : BdO m a) (g : BdO m b) : BdO m (minO a b) := by
  match a, b, h, g with
  | none, none, h, g => exact h
  | some x, none, h, g => exact h
  | none, some y, h, g => exact g
  | some x, some y, h, g =>
    intro z e
    have e : (if y < x then y else x) = z := Option.some.inj e
    rw [← e]
    split
    · exact g y rfl
    · exact h x rfl
section
variable {P : Program} {w : World} {K : PySem.W.Frag} {mg : Str → Option Value} {base : Heap}
def spFDb : Sp := fun vs H Q _ => ∃ (A B : Addr) (a b : Rl) (st : Int) (k : Nat), vs = [.ref A, .ref B, .int st] ∧ Two k A B a b H ∧ Bd k st ∧ 0 < k ∧ k ≤ 490 ∧
  ∀ o H', Same H H' → Fst (fun x => Ld a b (st + x) ≠ 0) o → BdO (3 * k + 6) o → Q (oV (o.map (st + ·))) H'
theorem okA_first_difference (D : Df K mg "first_difference" s_first_difference P_first_difference) (B : Bi mg) (c_first_lead : C8.Cal P w K mg base 6 "first_lead" spFL []) : C8.Cal P w K mg base 7 "first_difference" spFDb [] := by
  refine cal_of D sc_first_difference (fun vs H Q E h => ?_) (fun f cdv A outer s H vs Q E hr h => ?_)
  · obtain ⟨A, B, a, b, st, k, rfl, _⟩ := h
    rfl
  · obtain ⟨A1, B1, a, b, st, k, rfl, T, bst, k0, k1, q⟩ := h
    have hu := hu_of hr
    have hu1 : (A.deeper (envOfC "first_difference" (defScope s_first_difference) s.heap.objs.size f cdv)).units + 1 < cLine := by
      have := hr.un
      omega
    refine ⟨_, (pss_cons (ps_set (i := 3) sc_first_difference.nd rfl (Or.inl rfl) (pe_lst (pa_cons (C8.pe_c c_first_lead hr (by decide) (by rfl) (pa_cons (pv 0) (pa_cons (pv 1) (pa_cons (pv 2) (pa_cons pe_int pa_nil))))) (pa_cons (C8.pe_c c_first_lead hr (by decide) (by rfl) (pa_cons (pv 1) (pa_cons (pv 0) (pa_cons (pv 2) (pa_cons pe_int pa_nil))))) pa_nil))))
    (pss_one (ps_ret (pe_callBK (cr_minD rfl hu1) (by rfl) B.min_ bt_min (pa_cons (pe_lc (own := [("time", 4)]) (g := (gName 4)) (by rfl) sc_first_difference.nd (pi_list (pv 3)) (blkOk_by (own := [("time", 4)]) (N := N_first_difference) (sc := defScope s_first_difference) (by decide +kernel)) (fun _ _ _ _ _ => (pg_name (i := 4) sc_first_difference.nd rfl (Or.inl rfl))) (fun _ _ _ _ _ => (pts_one (pt_cmpR op_notN (pv 4) pe_non (nomark _)))) (fun _ _ _ _ _ => (pv 4))) pa_nil) (pk_cons pe_non pk_nil))))), ?_⟩
    have b1 : Bd k (1 : Int) := Bd.small 1 (by decide) k0
    refine ⟨_, rfl, _, rfl, _, rfl, A1, B1, a, b, st, 1, k, k, rfl, T, bst, b1, k0, Nat.le_refl _, by omega, fun o1 H1 s1 h1 bo1 _ => ?_⟩
    refine ⟨_, rfl, _, rfl, _, rfl, B1, A1, b, a, st, 1, k, k, rfl, (T.same s1).flip, bst, b1, k0, Nat.le_refl _, by omega, fun o2 H2 s2 h2 bo2 _ => ⟨len10 (by simp), fun l nl => ?_⟩⟩
    have z := sm_upd (o := .lst [oV (o1.map (st + ·)), oV (o2.map (st + ·))]) nl
    have el : upd H2 l (.lst [oV (o1.map (st + ·)), oV (o2.map (st + ·))]) l = some (.lst [oV (o1.map (st + ·)), oV (o2.map (st + ·))]) := upd_same
    generalize upd H2 l (.lst [oV (o1.map (st + ·)), oV (o2.map (st + ·))]) = H3 at z el
    refine ⟨_, rfl, l, rfl, ⟨_, SqL.of el⟩, fun L nL => ?_⟩
    have keep : ∀ {H' : Hp}, Same H3 H' → ∀ {b : List V} {i : Int}, Same H3 (upd H' L (.lst (b ++ [.int i]))) := fun s' b i y o ey => by
      rw [upd_ne (ne_of_none ey nL)]
      exact s' _ _ ey
    refine lc_list (K := K) (a := l) (xs := [oV (o1.map (st + ·)), oV (o2.map (st + ·))]) (fun j H' => Same H3 H' ∧ H' L = some (.lst (((if 0 < j then optL (o1.map (st + ·)) else []) ++ (if 1 < j then optL (o2.map (st + ·)) else [])).map V.int))) ⟨sm_upd nL, upd_same⟩ ?_ ?_ ?_
    · rintro j H' _ ⟨s', _⟩
      exact SqL.of (s' _ _ el)
    · rintro j x H' hx ⟨s', eL⟩
      match j, hx with
      | 0, hx =>
        cases hx
        cases o1 with
        | none => exact ⟨rfl, _, rfl, rfl, _, rfl, iteF ⟨s', eL⟩⟩
        | some y => exact ⟨rfl, _, rfl, rfl, _, rfl, iteT ⟨_, rfl, _, eL, small1000 (by simp), keep s', upd_same⟩⟩
      | 1, hx =>
        cases hx
        cases o2 with
        | none => exact ⟨rfl, _, rfl, rfl, _, rfl, iteF ⟨s', eL⟩⟩
        | some y => exact ⟨rfl, _, rfl, rfl, _, rfl, iteT ⟨_, rfl, _, eL, small1000 (by cases o1 <;> simp [optL]), keep s', by rw [upd_same]; cases o1 <;> rfl⟩⟩
    rintro H5 ⟨s5, eL⟩
    have eL : H5 L = some (.lst ((optL (o1.map (st + ·)) ++ optL (o2.map (st + ·))).map V.int)) := eL
    refine ⟨L, _, rfl, rfl, SqL.of eL, ?_⟩
    rw [minV_opt]
    exact q _ _ (s1.trans (s2.trans (z.trans s5))) ((fst_or h1 h2).iff fun x _ => ld_ne) (bdo_min (fun x e => (bo1 x e).mono (by omega)) (fun x e => (bo2 x e).mono (by omega)))
def spLDb : Sp := fun vs H Q _ => ∃ (A B : Addr) (a b : Rl) (st : Int) (k : Nat), vs = [.ref A, .ref B, .int st] ∧ Two k A B a b H ∧ Bd k st ∧ 0 < k ∧ k ≤ 490 ∧
  ∀ o H', Same H H' → Fst (fun x => Ld a b (st - 1 - x) ≠ 0) o → BdO (3 * k + 6) o → Q (oV (o.map (st - 1 - ·))) H'
theorem okA_last_difference (D : Df K mg "last_difference" s_last_difference P_last_difference) (B : Bi mg) (c_last_lead : C8.Cal P w K mg base 6 "last_lead" spLL []) : C8.Cal P w K mg base 7 "last_difference" spLDb [] := by
  refine cal_of D sc_last_difference (fun vs H Q E h => ?_) (fun f cdv A outer s H vs Q E hr h => ?_)
  · obtain ⟨A, B, a, b, st, k, rfl, _⟩ := h
    rfl
  · obtain ⟨A1, B1, a, b, st, k, rfl, T, bst, k0, k1, q⟩ := h
    have hu := hu_of hr
    have hu1 : (A.deeper (envOfC "last_difference" (defScope s_last_difference) s.heap.objs.size f cdv)).units + 1 < cLine := by
      have := hr.un
      omega
    refine ⟨_, (pss_cons (ps_set (i := 3) sc_last_difference.nd rfl (Or.inl rfl) (pe_lst (pa_cons (C8.pe_c c_last_lead hr (by decide) (by rfl) (pa_cons (pv 0) (pa_cons (pv 1) (pa_cons (pv 2) (pa_cons pe_int pa_nil))))) (pa_cons (C8.pe_c c_last_lead hr (by decide) (by rfl) (pa_cons (pv 1) (pa_cons (pv 0) (pa_cons (pv 2) (pa_cons pe_int pa_nil))))) pa_nil))))
    (pss_one (ps_ret (pe_callBK (cr_maxD rfl hu1) (by rfl) B.max_ bt_max (pa_cons (pe_lc (own := [("time", 4)]) (g := (gName 4)) (by rfl) sc_last_difference.nd (pi_list (pv 3)) (blkOk_by (own := [("time", 4)]) (N := N_last_difference) (sc := defScope s_last_difference) (by decide +kernel)) (fun _ _ _ _ _ => (pg_name (i := 4) sc_last_difference.nd rfl (Or.inl rfl))) (fun _ _ _ _ _ => (pts_one (pt_cmpR op_notN (pv 4) pe_non (nomark _)))) (fun _ _ _ _ _ => (pv 4))) pa_nil) (pk_cons pe_non pk_nil))))), ?_⟩
    have b1 : Bd k (1 : Int) := Bd.small 1 (by decide) k0
    refine ⟨_, rfl, _, rfl, _, rfl, A1, B1, a, b, st, 1, k, k, rfl, T, bst, b1, k0, Nat.le_refl _, by omega, fun o1 H1 s1 h1 bo1 => ?_⟩
    refine ⟨_, rfl, _, rfl, _, rfl, B1, A1, b, a, st, 1, k, k, rfl, (T.same s1).flip, bst, b1, k0, Nat.le_refl _, by omega, fun o2 H2 s2 h2 bo2 => ⟨len10 (by simp), fun l nl => ?_⟩⟩
    have z := sm_upd (o := .lst [oV (o1.map (st - 1 - ·)), oV (o2.map (st - 1 - ·))]) nl
    have el : upd H2 l (.lst [oV (o1.map (st - 1 - ·)), oV (o2.map (st - 1 - ·))]) l = some (.lst [oV (o1.map (st - 1 - ·)), oV (o2.map (st - 1 - ·))]) := upd_same
    generalize upd H2 l (.lst [oV (o1.map (st - 1 - ·)), oV (o2.map (st - 1 - ·))]) = H3 at z el
    refine ⟨_, rfl, l, rfl, ⟨_, SqL.of el⟩, fun L nL => ?_⟩
    have keep : ∀ {H' : Hp}, Same H3 H' → ∀ {b : List V} {i : Int}, Same H3 (upd H' L (.lst (b ++ [.int i]))) := fun s' b i y o ey => by
      rw [upd_ne (ne_of_none ey nL)]
      exact s' _ _ ey
    refine lc_list (K := K) (a := l) (xs := [oV (o1.map (st - 1 - ·)), oV (o2.map (st - 1 - ·))]) (fun j H' => Same H3 H' ∧ H' L = some (.lst (((if 0 < j then optL (o1.map (st - 1 - ·)) else []) ++ (if 1 < j then optL (o2.map (st - 1 - ·)) else [])).map V.int))) ⟨sm_upd nL, upd_same⟩ ?_ ?_ ?_
    · rintro j H' _ ⟨s', _⟩
      exact SqL.of (s' _ _ el)
    · rintro j x H' hx ⟨s', eL⟩
      match j, hx with
      | 0, hx =>
        cases hx
        cases o1 with
        | none => exact ⟨rfl, _, rfl, rfl, _, rfl, iteF ⟨s', eL⟩⟩
        | some y => exact ⟨rfl, _, rfl, rfl, _, rfl, iteT ⟨_, rfl, _, eL, small1000 (by simp), keep s', upd_same⟩⟩
      | 1, hx =>
        cases hx
        cases o2 with
        | none => exact ⟨rfl, _, rfl, rfl, _, rfl, iteF ⟨s', eL⟩⟩
        | some y => exact ⟨rfl, _, rfl, rfl, _, rfl, iteT ⟨_, rfl, _, eL, small1000 (by cases o1 <;> simp [optL]), keep s', by rw [upd_same]; cases o1 <;> rfl⟩⟩
    rintro H5 ⟨s5, eL⟩
    have eL : H5 L = some (.lst ((optL (o1.map (st - 1 - ·)) ++ optL (o2.map (st - 1 - ·))).map V.int)) := eL
    refine ⟨L, _, rfl, rfl, SqL.of eL, ?_⟩
    rw [maxV_opt]
    exact q _ _ (s1.trans (s2.trans (z.trans s5))) ((fst_or h1 h2).iff fun x _ => ld_ne) (bdo_min (fun x e => (bo1 x e).mono (by omega)) (fun x e => (bo2 x e).mono (by omega)))
end
end Lf
namespace Lf
open PySem PySem.Spec PyProof.Rows L2
def rSumT (K : PySem.W.Frag) : List V → Hp → VK → Prop := fun vs H Q => ∃ (a : Addr) (ns : List Int), vs = [V.ref a] ∧ SqT K H a (ns.map V.int) ∧ Q (.int ns.sum) H
theorem cr_sumT {X : Cx} (hc : X.calm = true) : CallR X (.builtin "sum") (rSumT X.K) := by
  intro pins s σ H vs us Q I r h
  obtain ⟨a, ns, rfl, hs, q⟩ := h
  obtain ⟨its, rv, ht, _⟩ := I.tuple hs
  rw [Vals.ref1 r]
  have hi := rv.ints
  obtain ⟨xs, e⟩ := hi.allInts.items
  have hn : numsOf (intItems xs).toList = ns := by rw [← e]; exact hi.numsOf
  rw [nums_intItems] at hn
  rw [e] at ht
  refine PySem.W.ktm_sumG (I.ok.hd hc) ht fun h' tk t' hk => ?_
  rw [preSum_eq, List.take_of_length_le (by simp), hn]
  exact ⟨.int _, H, I.kept hk, ⟨_, rfl⟩, q⟩
/-- the three numbers -/
def c3 (a b : Rl) (st : Int) (n : Nat) : List Int := [cB (ldP a b) st n, n - cB (ldP a b) st n - cB (ldP b a) st n, cB (ldP b a) st n]
theorem eqv_rules (a b : Rl) : PyData.eqv (.tuple ([a.p, a.q, a.c].map PyData.int)) (.tuple ([b.p, b.q, b.c].map PyData.int)) = true ↔ a = b := by
  constructor
  · intro h
    simp only [List.map_cons, List.map_nil, PyData.eqv, PyData.eqvAll, Bool.and_true, Bool.and_eq_true, beq_iff_eq] at h
    cases a
    cases b
    obtain ⟨h1, h2, h3⟩ := h
    cases h1
    cases h2
    cases h3
    rfl
  · rintro rfl
    exact SeqAt.eqv_refl _ rfl
theorem c3_add (a b : Rl) (st : Int) (m n : Nat) : c3 a b st (m + n) = [cB (ldP a b) st m + cB (ldP a b) (st + m) n, (m - cB (ldP a b) st m - cB (ldP b a) st m) + (n - cB (ldP a b) (st + m) n - cB (ldP b a) (st + m) n), cB (ldP b a) st m + cB (ldP b a) (st + m) n] := by
  unfold c3
  rw [cB_split, cB_split]
  congr 2
  omega
theorem c3_sum (a b : Rl) (st : Int) (n : Nat) : (c3 a b st n).sum = n := by
  show cB (ldP a b) st n + (n - cB (ldP a b) st n - cB (ldP b a) st n + (cB (ldP b a) st n + 0)) = n
  omega
theorem c3_swap (a b : Rl) (st : Int) (n : Nat) : c3 b a st n = [cB (ldP b a) st n, n - cB (ldP a b) st n - cB (ldP b a) st n, cB (ldP a b) st n] := by
  unfold c3
  congr 2
  omega
theorem ne_none {α : Type} {o : Option Int} {g : Int → Int} : decide (oV (o.map g) = V.non) = o.isNone := by
  cases o <;> rfl
section
variable {P : Program} {w : World} {K : PySem.W.Frag} {mg : Str → Option Value} {base : Heap}
abbrev s_law : Stmt := topS 57
abbrev N_law : List Str := ["_law_script", "_law_pen_here", "_law_turn", "_law_one", "_law_two", "_law_far", "_law_start", "_law_middle", "_law_stop", "_law_whole", "_law_parts", "_law_near", "_law_found", "_law_last", "_law_k"]
abbrev P_law : List Str := ["_law_script"]
theorem sc_law : FnScope N_law P_law (defScope s_law) := ⟨rfl, rfl, rfl, by decide +kernel, rfl, by decide +kernel, by decide +kernel⟩
theorem ok_law {f : Addr} {fd : FuncData} (F : Fun K "law" "law" s_law f fd) (B : Bi mg) (c_l_pen : C8.Cal P w K mg base 1 "_law_pen" (spPen K) []) (c_l_draw : C8.Cal P w K mg base 1 "_law_draw" spDraw []) (c_l_pick : C8.Cal P w K mg base 2 "_law_pick" spPick [])
    (c_l_great : C8.Cal P w K mg base 2 "_law_great" spGreat []) (c_l_signed : C8.Cal P w K mg base 3 "_law_signed" spSigned []) (c_l_pair : C8.Cal P w K mg base 5 "_law_pair" spPair []) (c_count : C8.Cal P w K mg base 4 "count" spCount []) (c_compare_counts : C8.Cal P w K mg base 7 "compare_counts" spCmp []) (c_l_leads_right : C8.Cal P w K mg base 9 "_law_leads_right" spLdR []) (c_l_agreements_right : C8.Cal P w K mg base 10 "_law_agreements_right" spAgR []) (cA_first_difference : C8.Cal P w K mg base 7 "first_difference" spFDb []) (cA_last_difference : C8.Cal P w K mg base 7 "last_difference" spLDb []) : FnOk P w K mg base CX0 11 f fd P_law (spLaw K) := by
  have c_first_difference := cA_first_difference
  have c_last_difference := cA_last_difference
  refine F.ok sc_law (fun vs H Q E h => ?_) (fun cdv A outer s H vs Q E hr h => ?_)
  · obtain ⟨a, ns, rfl, _⟩ := h
    rfl
  · obtain ⟨sc, ns, rfl, hS, hlen, kk⟩ := h
    refine ⟨_, (pss_cons (ps_set (i := 1) sc_law.nd rfl (Or.inl rfl) (C8.pe_c c_l_pen hr (by decide) (by rfl) (pa_cons (pv 0) pa_nil)))
    (pss_cons (ps_for PassesOwn.never rfl (pi_range1 rfl B.range_ (pa_cons pe_int pa_nil)) (pg_name (i := 2) sc_law.nd rfl (Or.inl rfl))
      (pss_cons (ps_asg (C8.pe_c c_l_pair hr (by decide) (by rfl) (pa_cons (pv 1) pa_nil)) (pg_tup rfl (pgs_cons (pg_name (i := 3) sc_law.nd rfl (Or.inl rfl)) (pgs_cons (pg_name (i := 4) sc_law.nd rfl (Or.inl rfl)) pgs_nil))))
    (pss_cons (ps_set (i := 5) sc_law.nd rfl (Or.inl rfl) (C8.pe_c c_l_pick hr (by decide) (by rfl) (pa_cons (pv 1) (pa_cons (pe_lst (pa_cons pe_int (pa_cons pe_int (pa_cons pe_int pa_nil)))) pa_nil))))
    (pss_cons (ps_par (i := 6) (j := 7) rfl sc_law.nd rfl rfl (by decide) rfl rfl (pa_cons (C8.pe_c c_l_signed hr (by decide) (by rfl) (pa_cons (pv 1) (pa_cons (pv 5) pa_nil))) (pa_cons (C8.pe_c c_l_great hr (by decide) (by rfl) (pa_cons (pv 1) (pa_cons (pv 5) pa_nil))) pa_nil)) rfl)
    (pss_cons (ps_set (i := 8) sc_law.nd rfl (Or.inl rfl) (pe_op op_add (pe_op op_add (pe_op op_add (pv 6) (pv 7)) pe_int) (C8.pe_c c_l_great hr (by decide) (by rfl) (pa_cons (pv 1) (pa_cons (pv 5) pa_nil)))))
    (pss_cons (ps_set (i := 9) sc_law.nd rfl (Or.inl rfl) (C8.pe_c c_compare_counts hr (by decide) (by rfl) (pa_cons (pv 3) (pa_cons (pv 4) (pa_cons (pv 6) (pa_cons (pv 8) pa_nil))))))
    (pss_cons (ps_set (i := 10) sc_law.nd rfl (Or.inr rfl) (pe_lst (pa_cons (C8.pe_c c_compare_counts hr (by decide) (by rfl) (pa_cons (pv 3) (pa_cons (pv 4) (pa_cons (pv 6) (pa_cons (pe_op op_add (pv 6) (pv 7)) pa_nil))))) (pa_cons (C8.pe_c c_compare_counts hr (by decide) (by rfl) (pa_cons (pv 3) (pa_cons (pv 4) (pa_cons (pe_op op_add (pv 6) (pv 7)) (pa_cons (pv 8) pa_nil))))) pa_nil))))
    (pss_cons (ps_if (PW.pt (pw_or (pt_cmpR (op_neD hr.units) (pe_callTy (call_tuple_of) (by rfl) B.tuple_ bt_tuple (pa_cons (pe_lc (own := [("_law_k", 14)]) (g := (gName 14)) (by rfl) sc_law.nd (pi_range1 rfl B.range_ (pa_cons pe_int pa_nil)) (blkOk_by (own := [("_law_k", 14)]) (N := N_law) (sc := defScope s_law) (by decide +kernel)) (fun _ _ _ _ _ => (pg_name (i := 14) sc_law.nd rfl (Or.inl rfl))) (fun _ _ _ _ _ => pts_nil) (fun _ _ _ _ _ => (pe_op op_add (pe_ix (r := rIxT K) ix_tup (pe_ix (r := rIxL K) ix_list (pv 10) pe_int (fun _ _ => rfl)) (pv 14) (fun _ _ => rfl)) (pe_ix (r := rIxT K) ix_tup (pe_ix (r := rIxL K) ix_list (pv 10) pe_int (fun _ _ => rfl)) (pv 14) (fun _ _ => rfl))))) pa_nil)) (pv 9) (nomark _)) (pw_or1 (pt_cmpR op_ne (pe_callB (cr_sumT rfl) (by rfl) B.sum_ bt_sum (pa_cons (pv 9) pa_nil)) (pe_op op_sub (pv 8) (pv 6)) (nomark _)))))
      (pss_one (ps_ret pe_bl))
      pss_nil)
    (pss_cons (ps_if (pt_cmpR (op_neD hr.units) (C8.pe_c c_compare_counts hr (by decide) (by rfl) (pa_cons (pv 4) (pa_cons (pv 3) (pa_cons (pv 6) (pa_cons (pv 8) pa_nil))))) (pe_tup (pa_cons (pe_ix (r := rIxT K) ix_tup (pv 9) pe_int (fun _ _ => rfl)) (pa_cons (pe_ix (r := rIxT K) ix_tup (pv 9) pe_int (fun _ _ => rfl)) (pa_cons (pe_ix (r := rIxT K) ix_tup (pv 9) pe_int (fun _ _ => rfl)) pa_nil)))) (nomark _))
      (pss_one (ps_ret pe_bl))
      pss_nil)
    (pss_cons (ps_set (i := 11) sc_law.nd rfl (Or.inl rfl) (pe_op op_add (pv 6) (pe_op op_mod (C8.pe_c c_l_great hr (by decide) (by rfl) (pa_cons (pv 1) (pa_cons (pv 5) pa_nil))) (pe_op op_sub (pv 8) (pv 6)))))
    (pss_cons (ps_set (i := 11) sc_law.nd rfl (Or.inl rfl) (pe_op op_sub (pe_op op_add (pe_op op_sub (C8.pe_c c_count hr (by decide) (by rfl) (pa_cons (pv 3) (pa_cons (pv 11) pa_nil))) (C8.pe_c c_count hr (by decide) (by rfl) (pa_cons (pv 4) (pa_cons (pv 11) pa_nil)))) (C8.pe_c c_l_draw hr (by decide) (by rfl) (pa_cons (pv 1) (pa_cons pe_int pa_nil)))) pe_int))
    (pss_cons (ps_if (pt_not (pt_val (C8.pe_c c_l_leads_right hr (by decide) (by rfl) (pa_cons (pv 3) (pa_cons (pv 4) (pa_cons (pv 6) (pa_cons (pv 8) (pa_cons (C8.pe_c c_l_pick hr (by decide) (by rfl) (pa_cons (pv 1) (pa_cons (pe_lst (pa_cons (pe_op op_sub (C8.pe_c c_l_draw hr (by decide) (by rfl) (pa_cons (pv 1) (pa_cons pe_int pa_nil))) pe_int) (pa_cons (pv 11) (pa_cons (pv 11) pa_nil)))) pa_nil))) pa_nil))))))))
      (pss_one (ps_ret pe_bl))
      pss_nil)
    (pss_cons (ps_par (i := 12) (j := 13) rfl sc_law.nd rfl rfl (by decide) rfl rfl (pa_cons (C8.pe_c c_first_difference hr (by decide) (by rfl) (pa_cons (pv 3) (pa_cons (pv 4) (pa_cons (pv 6) pa_nil)))) (pa_cons (C8.pe_c c_last_difference hr (by decide) (by rfl) (pa_cons (pv 3) (pa_cons (pv 4) (pa_cons (pv 8) pa_nil)))) pa_nil)) rfl)
    (pss_cons (ps_if (PW.pt (pw_or (pt_cmpR op_ne (pe_cmpR op_isN (pv 12) pe_non (nomark _)) (pe_cmpR (op_eqD hr.units) (pv 3) (pv 4) (nomark _)) (nomark _)) (pw_or1 (pt_cmpR op_ne (pe_cmpR op_isN (pv 13) pe_non (nomark _)) (pe_cmpR (op_eqD hr.units) (pv 3) (pv 4) (nomark _)) (nomark _)))))
      (pss_one (ps_ret pe_bl))
      pss_nil)
    (C8.pss_cut (ps_if (pt_cmpR op_notN (pv 12) pe_non (nomark _))
      (pss_cons (ps_if (PW.pt (pw_or (pt_cmpR op_eq (C8.pe_c c_count hr (by decide) (by rfl) (pa_cons (pv 3) (pa_cons (pv 12) pa_nil))) (C8.pe_c c_count hr (by decide) (by rfl) (pa_cons (pv 4) (pa_cons (pv 12) pa_nil))) (nomark _)) (pw_or1 (pt_cmpR op_eq (C8.pe_c c_count hr (by decide) (by rfl) (pa_cons (pv 3) (pa_cons (pv 13) pa_nil))) (C8.pe_c c_count hr (by decide) (by rfl) (pa_cons (pv 4) (pa_cons (pv 13) pa_nil))) (nomark _)))))
      (pss_one (ps_ret pe_bl))
      pss_nil)
    (pss_cons (ps_if (PW.pt (pw_or (pt_cmpR op_ne (pe_ix (r := rIxT K) ix_tup (C8.pe_c c_compare_counts hr (by decide) (by rfl) (pa_cons (pv 3) (pa_cons (pv 4) (pa_cons (pv 6) (pa_cons (pv 12) pa_nil))))) pe_int (fun _ _ => rfl)) (pe_op op_sub (pv 12) (pv 6)) (nomark _)) (pw_or (pt_cmpR op_lt (pv 12) (pv 6) (nomark _)) (pw_or1 (pt_cmpR op_ge (pv 13) (pv 8) (nomark _))))))
      (pss_one (ps_ret pe_bl))
      pss_nil)
    (pss_one (ps_if (pt_cmpR op_ne (pe_ix (r := rIxT K) ix_tup (C8.pe_c c_compare_counts hr (by decide) (by rfl) (pa_cons (pv 3) (pa_cons (pv 4) (pa_cons (pe_op op_add (pv 13) pe_int) (pa_cons (pv 8) pa_nil))))) pe_int (fun _ _ => rfl)) (pe_op op_sub (pe_op op_sub (pv 8) (pv 13)) pe_int) (nomark _))
      (pss_one (ps_ret pe_bl))
      pss_nil))))
      pss_nil)
    (pss_one (ps_if (pt_not (pt_val (C8.pe_c c_l_agreements_right hr (by decide) (by rfl) (pa_cons (pv 1) (pa_cons (pv 3) (pa_cons (pv 4) pa_nil))))))
      (pss_one (ps_ret pe_bl))
      pss_nil)))))))))))))))))
    (pss_one (ps_ret pe_bl)))), ?_⟩
    refine ⟨_, rfl, sc, ns, rfl, hS, fun a H0 hP0 s0 => ?_⟩
    refine ⟨2, rfl, by decide, by decide, ?_⟩
    refine for_range (lo := 0) (n := 2) (fun i σ H1 => ∃ (y2 y3 y4 y5 y6 y7 y8 y9 z0 z1 z2 z3 : Option V), σ = [some (.ref sc), some (.ref a), y2, y3, y4, y5, y6, y7, y8, y9, z0, z1, z2, z3, none] ∧ Pen H1 a (1000 * i)) ⟨_, _, _, _, _, _, _, _, _, _, _, _, rfl, hP0⟩ ?_ ?_
    · rintro i σ H1 hi ⟨y2, y3, y4, y5, y6, y7, y8, y9, y10, y11, y12, y13, rfl, hP1⟩
      refine ⟨_, rfl, a, _, rfl, hP1, by omega, fun T A1 B1 x y H2 eT eA eB RA RB hP2 f2 => ?_⟩
      refine ⟨T, _, rfl, SqT.of eT, rfl, _, _, rfl, _, _, rfl, rfl, ?_⟩
      refine ⟨_, rfl, len10 (by simp), fun l1 n1 => ?_⟩
      have u1 := sm_upd (o := .lst [.int 6, .int 12, .int 18]) n1
      refine ⟨a, l1, _, _, rfl, hP2.same u1, by omega, upd_same, by simp, by simp, fun v H3 hv hP3 f3 => ?_⟩
      obtain ⟨d, rfl, d6, d18, dd⟩ : ∃ g : Int, v = .int g ∧ 6 ≤ g ∧ g ≤ 18 ∧ (g / 6).toNat ≤ 3 := by
        simp only [List.mem_cons, List.not_mem_nil, or_false] at hv
        rcases hv with rfl | rfl | rfl <;> exact ⟨_, rfl, by decide, by decide, by decide⟩
      have f23 := (Fr.same u1).trans f3
      have Z : Two 50 A1 B1 x y H3 := ⟨f23.t _ _ eA, f23.t _ _ eB, RA, RB⟩
      clear f2 f3 f23 u1 n1 eT eA eB hP1 hP2 hv
      refine ⟨_, rfl, _, rfl, a, _, d, rfl, hP3, by omega, d6, by omega, fun st H4 bst hP4 f4 => ?_⟩
      refine ⟨_, rfl, _, rfl, a, _, d, rfl, hP4, by omega, d6, by omega, fun md H5 m0 bmd hP5 f5 => ⟨_, _, rfl, ?_⟩⟩
      refine ⟨_, rfl, _, rfl, _, _, rfl, rfl, _, _, rfl, rfl, _, rfl, _, rfl, a, _, d, rfl, hP5, by omega, d6, by omega, fun g H6 g0 bg hP6 f6 => ⟨_, _, rfl, rfl, ?_⟩⟩
      have f36 := f4.trans (f5.trans f6)
      have Z : Two 50 A1 B1 x y H6 := ⟨f36.t _ _ Z.ea, f36.t _ _ Z.eb, RA, RB⟩
      have bst : Bd 60 st := bst.mono (by omega)
      have bmd : Bd 60 md := bmd.mono (by omega)
      have bg : Bd 60 g := bg.mono (by omega)
      have hP6 : Pen H6 a (1000 * i + 300) := hP6.mono (by omega)
      have bsm : Bd 61 (st + md) := Bd.add bst bmd
      have bsp : Bd 63 (st + md + 1 + g) := Bd.add (k := 62) (Bd.add (k := 61) bsm (Bd.small 1 (by decide) (by decide))) (bg.mono (by decide))
      obtain ⟨sp, hsp⟩ : ∃ z, z = st + md + 1 + g := ⟨_, rfl⟩
      dsimp only
      rw [← hsp] at bsp ⊢
      have ss : st < sp := by omega
      have sm : st + md ≤ sp := by omega
      clear f4 f5 f6 f36 hP3 hP4 hP5 hsp
      have Z63 : ∀ {H' : Hp}, Same H6 H' → Two 64 A1 B1 x y H' := fun s => (Z.mono (by decide)).same s
      refine ⟨_, rfl, _, rfl, _, rfl, _, rfl, A1, B1, x, y, st, sp, 64, rfl, Z63 (Same.refl _), bst.mono (by decide), bsp.mono (by decide), by decide, by decide, fun W H7 s7 eW _ => ?_⟩
      refine ⟨_, rfl, _, rfl, _, rfl, _, rfl, _, rfl, _, _, rfl, rfl, A1, B1, x, y, st, st + md, 64, rfl, Z63 s7, bst.mono (by decide), bsm.mono (by decide), by decide, by decide, fun P1 H8 s8 e1 _ => ?_⟩
      refine ⟨_, rfl, _, rfl, _, rfl, _, rfl, _, _, rfl, rfl, _, rfl, A1, B1, x, y, st + md, sp, 64, rfl, Z63 (s7.trans s8), bsm.mono (by decide), bsp.mono (by decide), by decide, by decide, fun P2 H9 s9 e2 _ => ⟨len10 (by simp), fun L nL => ?_⟩⟩
      obtain ⟨n1, hn1⟩ : ∃ z : Nat, z = md.toNat := ⟨_, rfl⟩
      obtain ⟨n2, hn2⟩ : ∃ z : Nat, z = (sp - (st + md)).toNat := ⟨_, rfl⟩
      rw [show (st + md - st).toNat = n1 by omega] at e1
      rw [← hn2] at e2
      rw [show (sp - st).toNat = n1 + n2 by omega] at eW
      have u1 := sm_upd (o := .lst [.ref P1, .ref P2]) nL
      have s79 := s8.trans s9
      have eW : upd H9 L (.lst [.ref P1, .ref P2]) W = some (.tup ((c3 x y st (n1 + n2)).map V.int)) := u1 _ _ (s79 _ _ eW)
      have e1 : upd H9 L (.lst [.ref P1, .ref P2]) P1 = some (.tup ((c3 x y st n1).map V.int)) := u1 _ _ (s9 _ _ e1)
      have e2 : upd H9 L (.lst [.ref P1, .ref P2]) P2 = some (.tup ((c3 x y (st + n1) n2).map V.int)) := by
        rw [show st + (n1 : Int) = st + md by omega]
        exact u1 _ _ e2
      have eL : upd H9 L (.lst [.ref P1, .ref P2]) L = some (.lst [.ref P1, .ref P2]) := upd_same
      have s10 := (s7.trans s79).trans u1
      generalize upd H9 L (.lst [.ref P1, .ref P2]) = H10 at eW e1 e2 eL s10
      clear s7 s8 s9 s79 u1 nL
      -- both parts add up
      refine ⟨3, rfl, by decide, by decide, fun C nC => ?_⟩
      refine lc_range (lo := 0) (n := 3) (fun j H' => Same H10 H' ∧ H' C = some (.lst (((c3 x y st (n1 + n2)).take j).map V.int))) ⟨sm_upd nC, upd_same⟩ ?_ ?_
      · rintro j H' hj ⟨s', eC⟩
        obtain ⟨u, v, hu, hv, hw⟩ : ∃ u v : Int, (c3 x y st n1)[j]? = some u ∧ (c3 x y (st + n1) n2)[j]? = some v ∧ (c3 x y st (n1 + n2))[j]? = some (u + v) := by
          rw [c3_add]
          match j, hj with
          | 0, _ => exact ⟨_, _, rfl, rfl, rfl⟩
          | 1, _ => exact ⟨_, _, rfl, rfl, rfl⟩
          | 2, _ => exact ⟨_, _, rfl, rfl, rfl⟩
        have k1 : atI ((c3 x y st n1).map V.int) (0 + (j : Int)) = some (.int u) := by
          rw [Int.zero_add]
          exact atI_nat (by rw [List.getElem?_map, hu]; rfl)
        have k2 : atI ((c3 x y (st + n1) n2).map V.int) (0 + (j : Int)) = some (.int v) := by
          rw [Int.zero_add]
          exact atI_nat (by rw [List.getElem?_map, hv]; rfl)
        refine ⟨rfl, _, rfl, L, _, _, _, rfl, rfl, SqL.of (s' _ _ eL), atI_nat (j := 0) rfl, _, rfl, P1, _, _, _, rfl, rfl, SqT.of (s' _ _ e1), k1, ?_⟩
        refine ⟨_, rfl, L, _, _, _, rfl, rfl, SqL.of (s' _ _ eL), atI_nat (j := 1) rfl, _, rfl, P2, _, _, _, rfl, rfl, SqT.of (s' _ _ e2), k2, _, _, rfl, rfl, ?_⟩
        refine ⟨_, eC, small1000 (by rw [List.length_map, List.length_take]; exact Nat.le_trans (Nat.min_le_right _ _) (by show 3 ≤ 1000; decide)), fun b o eb => ?_, ?_⟩
        · rw [upd_ne (ne_of_none eb nC)]
          exact s' _ _ eb
        · rw [upd_same, List.take_add_one, hw, List.map_append]
          rfl
      rintro H11 ⟨s11, eC⟩
      have eC : H11 C = some (.lst ((c3 x y st (n1 + n2)).map V.int)) := eC
      refine ⟨C, _, rfl, .inl ⟨SqL.of eC, fun tt ntt => ?_⟩⟩
      have u2 := sm_upd (o := .tup ((c3 x y st (n1 + n2)).map V.int)) ntt
      have s12 := s11.trans u2
      refine ⟨_, rfl, .tuple ((c3 x y st (n1 + n2)).map PyData.int), .tuple ((c3 x y st (n1 + n2)).map PyData.int), Dp.tup (SqT.of upd_same) (dpAll_ints _), Dp.tup (SqT.of (s12 _ _ eW)) (dpAll_ints _), rfl, rfl, _, rfl, ?_⟩
      rw [SeqAt.eqv_refl _ rfl]
      refine iteF ?_
      have eW12 := s12 _ _ eW
      generalize upd H11 tt (.tup ((c3 x y st (n1 + n2)).map V.int)) = H12 at s12 eW12
      refine ⟨_, rfl, W, _, rfl, SqT.of eW12, ?_⟩
      rw [c3_sum]
      refine ⟨_, rfl, _, rfl, _, _, rfl, rfl, rfl, _, rfl, iteNS (congrArg V.int (by omega)) ?_⟩
      -- the other way round
      have s612 := s10.trans s12
      refine ⟨_, rfl, _, rfl, _, rfl, _, rfl, B1, A1, y, x, st, sp, 64, rfl, (Z63 s612).flip, bst.mono (by decide), bsp.mono (by decide), by decide, by decide, fun R H13 s13 eR _ => ?_⟩
      rw [show (sp - st).toNat = n1 + n2 by omega] at eR
      have eR : H13 R = some (.tup ((c3 y x st (n1 + n2)).map V.int)) := eR
      have eW13 := s13 _ _ eW12
      refine ⟨_, rfl, W, _, _, _, rfl, rfl, SqT.of eW13, atI_nat (j := 2) rfl, _, rfl, W, _, _, _, rfl, rfl, SqT.of eW13, atI_nat (j := 1) rfl, _, rfl, W, _, _, _, rfl, rfl, SqT.of eW13, atI_nat (j := 0) rfl, len10 (by simp), fun t3 n3 => ?_⟩
      have u3 := sm_upd (o := .tup [.int (cB (ldP y x) st (n1 + n2)), .int (((n1 + n2 : Nat) : Int) - cB (ldP x y) st (n1 + n2) - cB (ldP y x) st (n1 + n2)), .int (cB (ldP x y) st (n1 + n2))]) n3
      refine ⟨.tuple ((c3 y x st (n1 + n2)).map PyData.int), .tuple ((c3 y x st (n1 + n2)).map PyData.int), Dp.tup (SqT.of (u3 _ _ eR)) (dpAll_ints _), Dp.tup (SqT.of (by rw [c3_swap]; exact upd_same)) (dpAll_ints _), rfl, rfl, _, rfl, ?_⟩
      rw [SeqAt.eqv_refl _ rfl]
      refine iteF ?_
      have s14 := s612.trans (s13.trans u3)
      have Z14 := Z.same s14
      have hP14 := hP6.same s14
      clear s10 s11 s12 s13 s612 eW e1 e2 eL eC eW12 eW13 eR u2 u3 n3 ntt nC Z63 Z hP6
      -- a time and a lead near it
      refine ⟨_, rfl, _, rfl, _, rfl, a, _, d, rfl, hP14, by omega, d6, by omega, fun g2 H15 g20 bg2 hP15 f15 => ?_⟩
      have r0 := Int.emod_nonneg g2 (show sp - st ≠ 0 by omega)
      have r1 := Int.emod_lt_of_pos g2 (show 0 < sp - st by omega)
      refine ⟨_, rfl, _, rfl, _, _, rfl, rfl, _, _, rfl, rfl, by omega, _, _, rfl, rfl, ?_⟩
      have bnr : Bd 64 (st + g2 % (sp - st)) := (Bd.mono bst (by decide : 60 ≤ 64)).mid (bsp.mono (by decide)) (by omega) (by omega)
      have Z15 : Two 50 A1 B1 x y H15 := ⟨f15.t _ _ Z14.ea, f15.t _ _ Z14.eb, Z14.ra, Z14.rb⟩
      refine ⟨_, rfl, _, rfl, A1, _, _, _, _, 64, rfl, Z15.ea, Z15.ra.mono (by decide), bnr, by decide, by decide, fun H16 s16 => ?_⟩
      have Z16 := Z15.same s16
      refine ⟨_, rfl, _, rfl, B1, _, _, _, _, 64, rfl, Z16.eb, Z16.rb.mono (by decide), bnr, by decide, by decide, fun H17 s17 => ⟨_, _, rfl, rfl, ?_⟩⟩
      have Z17 := Z16.same s17
      refine ⟨_, rfl, a, _, _, rfl, (hP15.same s16).same s17, by omega, by decide, Bd.small 20 (by decide) (by decide), fun e H18 e0 e1 hP18 f18 => ⟨_, _, rfl, rfl, _, _, rfl, rfl, ?_⟩⟩
      have Z18 : Two 50 A1 B1 x y H18 := ⟨f18.t _ _ Z17.ea, f18.t _ _ Z17.eb, Z17.ra, Z17.rb⟩
      have bq1 : Bd 115 ((x.p * (st + g2 % (sp - st)) + x.c) / x.q) := Bd.ediv (Bd.add (k := 114) (Bd.mul RA.bp bnr) (RA.bc.mono (by decide))) (by have := RA.q1; omega)
      have bq2 : Bd 115 ((y.p * (st + g2 % (sp - st)) + y.c) / y.q) := Bd.ediv (Bd.add (k := 114) (Bd.mul RB.bp bnr) (RB.bc.mono (by decide))) (by have := RB.q1; omega)
      have bam : Bd 118 ((x.p * (st + g2 % (sp - st)) + x.c) / x.q - (y.p * (st + g2 % (sp - st)) + y.c) / y.q + e - 1) := Bd.sub (k := 117) (Bd.add (k := 116) (Bd.sub bq1 bq2) (Bd.small 20 (by omega) (by decide))) (Bd.small 1 (by decide) (by decide))
      refine ⟨_, rfl, _, rfl, _, rfl, _, rfl, _, rfl, _, rfl, a, _, _, rfl, hP18, by omega, by decide, Bd.small 20 (by decide) (by decide), fun e3 H19 e30 e31 hP19 f19 => ⟨_, _, rfl, rfl, _, rfl, _, rfl, len10 (by simp), fun l2 n2' => ?_⟩⟩
      refine ⟨a, l2, _, _, rfl, hP19.new n2', by omega, upd_same, by simp, by simp, fun v H20 hv hP20 f20 => ?_⟩
      have f1820 := f19.trans ((Fr.new n2').trans f20)
      have Z20 : Two 50 A1 B1 x y H20 := ⟨f1820.t _ _ Z18.ea, f1820.t _ _ Z18.eb, Z18.ra, Z18.rb⟩
      obtain ⟨am, rfl, bam'⟩ : ∃ z : Int, v = .int z ∧ Bd 130 z := by
        simp only [List.mem_cons, List.not_mem_nil, or_false] at hv
        rcases hv with rfl | rfl | rfl
        · exact ⟨_, rfl, Bd.small 20 (by omega) (by decide)⟩
        · exact ⟨_, rfl, bam.mono (by decide)⟩
        · exact ⟨_, rfl, bam.mono (by decide)⟩
      refine ⟨A1, B1, x, y, st, sp, am, rfl, Z20, ss, bst.mono (by decide), bsp.mono (by decide), bam', fun H21 s21 => ⟨true, rfl, iteF ?_⟩⟩
      have Z21 := Z20.same s21
      have hP21 : Pen H21 a (1000 * i + 400) := (hP20.same s21).mono (by omega)
      clear f15 f18 f19 f20 f1820 s16 s17 s21 hP14 hP15 hP18 hP19 hP20 Z14 Z15 Z16 Z17 Z18 Z20 hv bam bam' bq1 bq2 n2' s14
      -- the differences
      refine ⟨_, rfl, _, rfl, _, rfl, A1, B1, x, y, st, 64, rfl, Z21.mono (by decide), bst.mono (by decide), by decide, by decide, fun o1 H22 s22 h1 b1 => ?_⟩
      refine ⟨_, rfl, _, rfl, _, rfl, A1, B1, x, y, sp, 64, rfl, (Z21.mono (by decide)).same s22, bsp.mono (by decide), by decide, by decide, fun o2 H23 s23 h2 b2 => ⟨_, _, rfl, ?_⟩⟩
      have s223 := s22.trans s23
      have Z23 := Z21.same s223
      have hP23 := hP21.same s223
      have d1 : o1.isNone = PyData.eqv (.tuple ([x.p, x.q, x.c].map PyData.int)) (.tuple ([y.p, y.q, y.c].map PyData.int)) := by
        match o1, h1 with
        | none, h1 =>
          rw [(eqv_rules x y).mpr (eq_of_zero RA RB st fun t ht => ?_)]
          · rfl
          · have := h1 (t - st) (by omega)
            have this : ¬ Ld x y (st + (t - st)) ≠ 0 := this
            rw [show st + (t - st) = t by omega] at this
            omega
        | some z, ⟨_, hz, _⟩ =>
          have hz : Ld x y (st + z) ≠ 0 := hz
          cases hh : PyData.eqv (.tuple ([x.p, x.q, x.c].map PyData.int)) (.tuple ([y.p, y.q, y.c].map PyData.int)) with
          | false => rfl
          | true =>
            have := (eqv_rules x y).mp hh
            rw [this, ld_self] at hz
            exact absurd rfl hz
      have d2 : o2.isNone = PyData.eqv (.tuple ([x.p, x.q, x.c].map PyData.int)) (.tuple ([y.p, y.q, y.c].map PyData.int)) := by
        match o2, h2 with
        | none, h2 =>
          rw [(eqv_rules x y).mpr (eq_of_zero' RA RB sp fun t ht => ?_)]
          · rfl
          · have := h2 (sp - 1 - t) (by omega)
            have this : ¬ Ld x y (sp - 1 - (sp - 1 - t)) ≠ 0 := this
            rw [show sp - 1 - (sp - 1 - t) = t by omega] at this
            omega
        | some z, ⟨_, hz, _⟩ =>
          have hz : Ld x y (sp - 1 - z) ≠ 0 := hz
          cases hh : PyData.eqv (.tuple ([x.p, x.q, x.c].map PyData.int)) (.tuple ([y.p, y.q, y.c].map PyData.int)) with
          | false => rfl
          | true =>
            have := (eqv_rules x y).mp hh
            rw [this, ld_self] at hz
            exact absurd rfl hz
      have dA : Dp K H23 (.ref A1) (.tuple ([x.p, x.q, x.c].map PyData.int)) := Dp.tup (SqT.of (xs := [x.p, x.q, x.c].map V.int) Z23.ea) (dpAll_ints _)
      have dB : Dp K H23 (.ref B1) (.tuple ([y.p, y.q, y.c].map PyData.int)) := Dp.tup (SqT.of (xs := [y.p, y.q, y.c].map V.int) Z23.eb) (dpAll_ints _)
      refine ⟨_, rfl, rfl, _, rfl, _, rfl, .tuple ([x.p, x.q, x.c].map PyData.int), .tuple ([y.p, y.q, y.c].map PyData.int), dA, dB, rfl, rfl, rfl, _, rfl, iteNS (congrArg V.bl (by rw [ne_none (α := Int)]; exact d1)) ?_⟩
      refine ⟨_, rfl, rfl, _, rfl, _, rfl, .tuple ([x.p, x.q, x.c].map PyData.int), .tuple ([y.p, y.q, y.c].map PyData.int), dA, dB, rfl, rfl, rfl, _, rfl, iteNS (congrArg V.bl (by rw [ne_none (α := Int)]; exact d2)) ?_⟩
      refine ⟨fun σ' H' => ∃ y2 y5 y6 y7 y8 y9 z0 z1 z2 z3, σ' = [some (.ref sc), some (.ref a), y2, some (.ref A1), some (.ref B1), y5, y6, y7, y8, y9, z0, z1, z2, z3, none] ∧ Same H23 H', ?_, ?_⟩
      · match o1, o2, h1, h2, b1, b2, d1, d2 with
        | none, _, _, _, _, _, _, _ => exact ⟨_, rfl, rfl, _, rfl, iteF ⟨_, _, _, _, _, _, _, _, _, _, rfl, Same.refl _⟩⟩
        | some z, none, _, _, _, _, d1, d2 =>
          rw [← d2] at d1
          cases d1
        | some z1, some z2, ⟨p1, p2, p3⟩, ⟨q1, q2, q3⟩, b1, b2, _, _ =>
          have b1 := b1 _ rfl
          have b2 := b2 _ rfl
          have p2 : Ld x y (st + z1) ≠ 0 := p2
          have q2 : Ld x y (sp - 1 - z2) ≠ 0 := q2
          have f1 : (((st + z1 - st).toNat : Nat) : Int) - cB (ldP x y) st (st + z1 - st).toNat - cB (ldP y x) st (st + z1 - st).toNat = st + z1 - st := by
            rw [cZ_eq, cB_full fun j hj => ?_]
            · omega
            · have := p3 (j : Int) (by omega) (by omega)
              have this : ¬ Ld x y (st + j) ≠ 0 := this
              exact decide_eq_true (by omega)
          have f2 : (((sp - (sp - 1 - z2 + 1)).toNat : Nat) : Int) - cB (ldP x y) (sp - 1 - z2 + 1) (sp - (sp - 1 - z2 + 1)).toNat - cB (ldP y x) (sp - 1 - z2 + 1) (sp - (sp - 1 - z2 + 1)).toNat = sp - (sp - 1 - z2) - 1 := by
            rw [cZ_eq, cB_full fun j hj => ?_]
            · omega
            · have := q3 (z2 - 1 - j) (by omega) (by omega)
              have this : ¬ Ld x y (sp - 1 - (z2 - 1 - j)) ≠ 0 := this
              rw [show sp - 1 - (z2 - 1 - j) = sp - 1 - z2 + 1 + j by omega] at this
              exact decide_eq_true (by omega)
          have bf : Bd 200 (st + z1) := Bd.add (k := 199) (bst.mono (by decide)) (b1.mono (by decide))
          have bl : Bd 200 (sp - 1 - z2) := Bd.sub (k := 199) (Bd.sub (k := 198) (bsp.mono (by decide)) (Bd.small 1 (by decide) (by decide))) (b2.mono (by decide))
          have bl1 : Bd 201 (sp - 1 - z2 + 1) := Bd.add bl (Bd.small 1 (by decide) (by decide))
          refine ⟨_, rfl, rfl, _, rfl, iteT ?_⟩
          refine ⟨_, rfl, _, rfl, A1, _, _, _, _, 200, rfl, Z23.ea, Z23.ra.mono (by decide), bf, by decide, by decide, fun H24 s24 => ?_⟩
          have Z24 := Z23.same s24
          refine ⟨_, rfl, _, rfl, B1, _, _, _, _, 200, rfl, Z24.eb, Z24.rb.mono (by decide), bf, by decide, by decide, fun H25 s25 => ?_⟩
          have Z25 := Z24.same s25
          refine ⟨rfl, _, rfl, iteFs (decide_eq_false fun e => p2 (Int.sub_eq_zero.mpr (V.int.inj e))) ?_⟩
          refine ⟨_, rfl, _, rfl, A1, _, _, _, _, 200, rfl, Z25.ea, Z25.ra.mono (by decide), bl, by decide, by decide, fun H26 s26 => ?_⟩
          have Z26 := Z25.same s26
          refine ⟨_, rfl, _, rfl, B1, _, _, _, _, 200, rfl, Z26.eb, Z26.rb.mono (by decide), bl, by decide, by decide, fun H27 s27 => ?_⟩
          have Z27 := Z26.same s27
          refine ⟨rfl, _, rfl, iteFs (decide_eq_false fun e => q2 (Int.sub_eq_zero.mpr (V.int.inj e))) ?_⟩
          refine ⟨_, rfl, _, rfl, _, rfl, _, rfl, A1, B1, x, y, st, st + z1, 200, rfl, Z27.mono (by decide), bst.mono (by decide), bf, by decide, by decide, fun r H28 s28 er _ => ?_⟩
          have Z28 := Z27.same s28
          refine ⟨r, _, _, _, rfl, rfl, SqT.of er, atI_nat (j := 1) rfl, _, rfl, _, rfl, _, _, rfl, rfl, rfl, _, rfl, iteNS (congrArg V.int f1) ?_⟩
          refine ⟨_, rfl, _, rfl, _, _, rfl, rfl, _, rfl, iteFs (decide_eq_false (show ¬ st + z1 < st by omega)) ?_⟩
          refine ⟨_, rfl, _, rfl, _, _, rfl, rfl, _, rfl, iteFs (decide_eq_false (show ¬ sp ≤ sp - 1 - z2 by omega)) ?_⟩
          refine ⟨_, rfl, _, rfl, _, rfl, _, _, rfl, rfl, _, rfl, A1, B1, x, y, sp - 1 - z2 + 1, sp, 201, rfl, Z28.mono (by decide), bl1, bsp.mono (by decide), by decide, by decide, fun r' H29 s29 er' _ => ?_⟩
          refine ⟨r', _, _, _, rfl, rfl, SqT.of er', atI_nat (j := 1) rfl, _, rfl, _, rfl, _, _, rfl, rfl, _, _, rfl, rfl, rfl, _, rfl, iteNS (congrArg V.int f2) ?_⟩
          exact ⟨_, _, _, _, _, _, _, _, _, _, rfl, s24.trans (s25.trans (s26.trans (s27.trans (s28.trans s29))))⟩
      · rintro σ' H24 ⟨y2, y5, y6, y7, y8, y9, z0, z1, z2, z3, rfl, s24⟩
        refine ⟨_, rfl, _, rfl, _, rfl, a, _, A1, B1, x, y, rfl, Z23.same s24, hP23.same s24, by omega, fun H25 hP25 f25 => ⟨true, rfl, iteF ⟨_, _, _, _, _, _, _, _, _, _, _, _, rfl, hP25.mono (by omega)⟩⟩⟩
    · rintro σ H1 _
      exact kk _
end
/-! ### what the top has written -/
theorem all_mk {l : PySem.W.OpenLaw} {w : World} {K : PySem.W.Frag} {h : Heap} {mg : Str → Option Value} {fa : Addr} (X : K.In h) (G : h.Ns mainGlobals mg) (hfa : mg "law" = some (.ref fa))
    {f0 f1 f2 f3 f4 f5 f6 f7 f8 f9 f10 f11 f12 f13 f14 f15 f16 f17 f18 f19 f20 f21 f22 f23 f24 f25 f26 f27 f28 f29 f30 f31 f32 f33 f34 f35 f36 f37 f38 f39 f40 f41 f42 f43 f44 f45 f46 f47 : Addr} {od0 an0 od1 an1 od2 an2 od3 an3 od4 an4 od5 an5 od6 an6 od7 an7 od8 an8 od9 an9 od10 an10 od11 an11 od12 an12 od13 an13 od14 an14 od15 an15 od16 an16 od17 an17 od18 an18 od19 an19 od20 an20 od21 an21 od22 an22 od23 an23 od24 an24 od25 an25 od26 an26 od27 an27 od28 an28 od29 an29 od30 an30 od31 an31 od32 an32 od33 an33 od34 an34 od35 an35 od36 an36 od37 an37 od38 an38 od39 an39 od40 an40 od41 an41 od42 an42 od43 an43 od44 an44 od45 an45 od46 an46 od47 an47 : Option Addr} {sl0 sl1 sl2 sl3 sl4 sl5 sl6 sl7 sl8 sl9 sl10 sl11 sl12 sl13 sl14 sl15 sl16 sl17 sl18 sl19 sl20 sl21 sl22 sl23 sl24 sl25 sl26 sl27 sl28 sl29 sl30 sl31 sl32 sl33 sl34 sl35 sl36 sl37 sl38 sl39 sl40 sl41 sl42 sl43 sl44 sl45 sl46 sl47 : Array (Option Value)} {oc0 kV0 dc0 pm0 cd0 ct0 oc1 kV1 dc1 pm1 cd1 ct1 oc2 kV2 dc2 pm2 cd2 ct2 oc3 kV3 dc3 pm3 cd3 ct3 oc4 kV4 dc4 pm4 cd4 ct4 oc5 kV5 dc5 pm5 cd5 ct5 oc6 kV6 dc6 pm6 cd6 ct6 oc7 kV7 dc7 pm7 cd7 ct7 oc8 kV8 dc8 pm8 cd8 ct8 oc9 kV9 dc9 pm9 cd9 ct9 oc10 kV10 dc10 pm10 cd10 ct10 oc11 kV11 dc11 pm11 cd11 ct11 oc12 kV12 dc12 pm12 cd12 ct12 oc13 kV13 dc13 pm13 cd13 ct13 oc14 kV14 dc14 pm14 cd14 ct14 oc15 kV15 dc15 pm15 cd15 ct15 oc16 kV16 dc16 pm16 cd16 ct16 oc17 kV17 dc17 pm17 cd17 ct17 oc18 kV18 dc18 pm18 cd18 ct18 oc19 kV19 dc19 pm19 cd19 ct19 oc20 kV20 dc20 pm20 cd20 ct20 oc21 kV21 dc21 pm21 cd21 ct21 oc22 kV22 dc22 pm22 cd22 ct22 oc23 kV23 dc23 pm23 cd23 ct23 oc24 kV24 dc24 pm24 cd24 ct24 oc25 kV25 dc25 pm25 cd25 ct25 oc26 kV26 dc26 pm26 cd26 ct26 oc27 kV27 dc27 pm27 cd27 ct27 oc28 kV28 dc28 pm28 cd28 ct28 oc29 kV29 dc29 pm29 cd29 ct29 oc30 kV30 dc30 pm30 cd30 ct30 oc31 kV31 dc31 pm31 cd31 ct31 oc32 kV32 dc32 pm32 cd32 ct32 oc33 kV33 dc33 pm33 cd33 ct33 oc34 kV34 dc34 pm34 cd34 ct34 oc35 kV35 dc35 pm35 cd35 ct35 oc36 kV36 dc36 pm36 cd36 ct36 oc37 kV37 dc37 pm37 cd37 ct37 oc38 kV38 dc38 pm38 cd38 ct38 oc39 kV39 dc39 pm39 cd39 ct39 oc40 kV40 dc40 pm40 cd40 ct40 oc41 kV41 dc41 pm41 cd41 ct41 oc42 kV42 dc42 pm42 cd42 ct42 oc43 kV43 dc43 pm43 cd43 ct43 oc44 kV44 dc44 pm44 cd44 ct44 oc45 kV45 dc45 pm45 cd45 ct45 oc46 kV46 dc46 pm46 cd46 ct46 oc47 kV47 dc47 pm47 cd47 ct47 : Value}
    (a0 : PySem.W.nsIn K mainGlobals "_law_pen" = some (some (.ref f0))) (l0 : K.lookup f0 = some ⟨oc0, od0, .func (PySem.W.fnOf "_law_pen" "_law_pen" (defArgs s_l_pen) (defBody s_l_pen) (defScope s_l_pen) .none kV0 dc0 pm0 an0 cd0 ct0), sl0⟩) (c0 : PySem.W.codeIn K cd0 "_law_pen" = true) (k0 : PySem.W.keepIn K (.ref f0) = true)
    (a1 : PySem.W.nsIn K mainGlobals "_law_draw" = some (some (.ref f1))) (l1 : K.lookup f1 = some ⟨oc1, od1, .func (PySem.W.fnOf "_law_draw" "_law_draw" (defArgs s_l_draw) (defBody s_l_draw) (defScope s_l_draw) .none kV1 dc1 pm1 an1 cd1 ct1), sl1⟩) (c1 : PySem.W.codeIn K cd1 "_law_draw" = true) (k1 : PySem.W.keepIn K (.ref f1) = true)
    (a2 : PySem.W.nsIn K mainGlobals "_law_pick" = some (some (.ref f2))) (l2 : K.lookup f2 = some ⟨oc2, od2, .func (PySem.W.fnOf "_law_pick" "_law_pick" (defArgs s_l_pick) (defBody s_l_pick) (defScope s_l_pick) .none kV2 dc2 pm2 an2 cd2 ct2), sl2⟩) (c2 : PySem.W.codeIn K cd2 "_law_pick" = true) (k2 : PySem.W.keepIn K (.ref f2) = true)
    (a3 : PySem.W.nsIn K mainGlobals "_law_great" = some (some (.ref f3))) (l3 : K.lookup f3 = some ⟨oc3, od3, .func (PySem.W.fnOf "_law_great" "_law_great" (defArgs s_l_great) (defBody s_l_great) (defScope s_l_great) .none kV3 dc3 pm3 an3 cd3 ct3), sl3⟩) (c3 : PySem.W.codeIn K cd3 "_law_great" = true) (k3 : PySem.W.keepIn K (.ref f3) = true)
    (a4 : PySem.W.nsIn K mainGlobals "_law_signed" = some (some (.ref f4))) (l4 : K.lookup f4 = some ⟨oc4, od4, .func (PySem.W.fnOf "_law_signed" "_law_signed" (defArgs s_l_signed) (defBody s_l_signed) (defScope s_l_signed) .none kV4 dc4 pm4 an4 cd4 ct4), sl4⟩) (c4 : PySem.W.codeIn K cd4 "_law_signed" = true) (k4 : PySem.W.keepIn K (.ref f4) = true)
    (a5 : PySem.W.nsIn K mainGlobals "_law_gcd" = some (some (.ref f5))) (l5 : K.lookup f5 = some ⟨oc5, od5, .func (PySem.W.fnOf "_law_gcd" "_law_gcd" (defArgs s_l_gcd) (defBody s_l_gcd) (defScope s_l_gcd) .none kV5 dc5 pm5 an5 cd5 ct5), sl5⟩) (c5 : PySem.W.codeIn K cd5 "_law_gcd" = true) (k5 : PySem.W.keepIn K (.ref f5) = true)
    (a6 : PySem.W.nsIn K mainGlobals "_law_lowest" = some (some (.ref f6))) (l6 : K.lookup f6 = some ⟨oc6, od6, .func (PySem.W.fnOf "_law_lowest" "_law_lowest" (defArgs s_l_lowest) (defBody s_l_lowest) (defScope s_l_lowest) .none kV6 dc6 pm6 an6 cd6 ct6), sl6⟩) (c6 : PySem.W.codeIn K cd6 "_law_lowest" = true) (k6 : PySem.W.keepIn K (.ref f6) = true)
    (a7 : PySem.W.nsIn K mainGlobals "_law_rule" = some (some (.ref f7))) (l7 : K.lookup f7 = some ⟨oc7, od7, .func (PySem.W.fnOf "_law_rule" "_law_rule" (defArgs s_l_rule) (defBody s_l_rule) (defScope s_l_rule) .none kV7 dc7 pm7 an7 cd7 ct7), sl7⟩) (c7 : PySem.W.codeIn K cd7 "_law_rule" = true) (k7 : PySem.W.keepIn K (.ref f7) = true)
    (a8 : PySem.W.nsIn K mainGlobals "_law_far_rule" = some (some (.ref f8))) (l8 : K.lookup f8 = some ⟨oc8, od8, .func (PySem.W.fnOf "_law_far_rule" "_law_far_rule" (defArgs s_l_far_rule) (defBody s_l_far_rule) (defScope s_l_far_rule) .none kV8 dc8 pm8 an8 cd8 ct8), sl8⟩) (c8 : PySem.W.codeIn K cd8 "_law_far_rule" = true) (k8 : PySem.W.keepIn K (.ref f8) = true)
    (a9 : PySem.W.nsIn K mainGlobals "is_integer" = some (some (.ref f9))) (l9 : K.lookup f9 = some ⟨oc9, od9, .func (PySem.W.fnOf "is_integer" "is_integer" (defArgs s_is_integer) (defBody s_is_integer) (defScope s_is_integer) .none kV9 dc9 pm9 an9 cd9 ct9), sl9⟩) (c9 : PySem.W.codeIn K cd9 "is_integer" = true) (k9 : PySem.W.keepIn K (.ref f9) = true)
    (a10 : PySem.W.nsIn K mainGlobals "check_integer" = some (some (.ref f10))) (l10 : K.lookup f10 = some ⟨oc10, od10, .func (PySem.W.fnOf "check_integer" "check_integer" (defArgs s_check_integer) (defBody s_check_integer) (defScope s_check_integer) .none kV10 dc10 pm10 an10 cd10 ct10), sl10⟩) (c10 : PySem.W.codeIn K cd10 "check_integer" = true) (k10 : PySem.W.keepIn K (.ref f10) = true)
    (a11 : PySem.W.nsIn K mainGlobals "check_at_least" = some (some (.ref f11))) (l11 : K.lookup f11 = some ⟨oc11, od11, .func (PySem.W.fnOf "check_at_least" "check_at_least" (defArgs s_check_at_least) (defBody s_check_at_least) (defScope s_check_at_least) .none kV11 dc11 pm11 an11 cd11 ct11), sl11⟩) (c11 : PySem.W.codeIn K cd11 "check_at_least" = true) (k11 : PySem.W.keepIn K (.ref f11) = true)
    (a12 : PySem.W.nsIn K mainGlobals "check_range" = some (some (.ref f12))) (l12 : K.lookup f12 = some ⟨oc12, od12, .func (PySem.W.fnOf "check_range" "check_range" (defArgs s_check_range) (defBody s_check_range) (defScope s_check_range) .none kV12 dc12 pm12 an12 cd12 ct12), sl12⟩) (c12 : PySem.W.codeIn K cd12 "check_range" = true) (k12 : PySem.W.keepIn K (.ref f12) = true)
    (a13 : PySem.W.nsIn K mainGlobals "gcd" = some (some (.ref f13))) (l13 : K.lookup f13 = some ⟨oc13, od13, .func (PySem.W.fnOf "gcd" "gcd" (defArgs s_gcd) (defBody s_gcd) (defScope s_gcd) .none kV13 dc13 pm13 an13 cd13 ct13), sl13⟩) (c13 : PySem.W.codeIn K cd13 "gcd" = true) (k13 : PySem.W.keepIn K (.ref f13) = true)
    (a14 : PySem.W.nsIn K mainGlobals "is_rule" = some (some (.ref f14))) (l14 : K.lookup f14 = some ⟨oc14, od14, .func (PySem.W.fnOf "is_rule" "is_rule" (defArgs s_is_rule) (defBody s_is_rule) (defScope s_is_rule) .none kV14 dc14 pm14 an14 cd14 ct14), sl14⟩) (c14 : PySem.W.codeIn K cd14 "is_rule" = true) (k14 : PySem.W.keepIn K (.ref f14) = true)
    (a15 : PySem.W.nsIn K mainGlobals "check_rule" = some (some (.ref f15))) (l15 : K.lookup f15 = some ⟨oc15, od15, .func (PySem.W.fnOf "check_rule" "check_rule" (defArgs s_check_rule) (defBody s_check_rule) (defScope s_check_rule) .none kV15 dc15 pm15 an15 cd15 ct15), sl15⟩) (c15 : PySem.W.codeIn K cd15 "check_rule" = true) (k15 : PySem.W.keepIn K (.ref f15) = true)
    (a16 : PySem.W.nsIn K mainGlobals "floor_sum" = some (some (.ref f16))) (l16 : K.lookup f16 = some ⟨oc16, od16, .func (PySem.W.fnOf "floor_sum" "floor_sum" (defArgs s_floor_sum) (defBody s_floor_sum) (defScope s_floor_sum) .none kV16 dc16 pm16 an16 cd16 ct16), sl16⟩) (c16 : PySem.W.codeIn K cd16 "floor_sum" = true) (k16 : PySem.W.keepIn K (.ref f16) = true)
    (a17 : PySem.W.nsIn K mainGlobals "count_sum" = some (some (.ref f17))) (l17 : K.lookup f17 = some ⟨oc17, od17, .func (PySem.W.fnOf "count_sum" "count_sum" (defArgs s_count_sum) (defBody s_count_sum) (defScope s_count_sum) .none kV17 dc17 pm17 an17 cd17 ct17), sl17⟩) (c17 : PySem.W.codeIn K cd17 "count_sum" = true) (k17 : PySem.W.keepIn K (.ref f17) = true)
    (a18 : PySem.W.nsIn K mainGlobals "divide_up" = some (some (.ref f18))) (l18 : K.lookup f18 = some ⟨oc18, od18, .func (PySem.W.fnOf "divide_up" "divide_up" (defArgs s_divide_up) (defBody s_divide_up) (defScope s_divide_up) .none kV18 dc18 pm18 an18 cd18 ct18), sl18⟩) (c18 : PySem.W.codeIn K cd18 "divide_up" = true) (k18 : PySem.W.keepIn K (.ref f18) = true)
    (a19 : PySem.W.nsIn K mainGlobals "first_exit" = some (some (.ref f19))) (l19 : K.lookup f19 = some ⟨oc19, od19, .func (PySem.W.fnOf "first_exit" "first_exit" (defArgs s_first_exit) (defBody s_first_exit) (defScope s_first_exit) .none kV19 dc19 pm19 an19 cd19 ct19), sl19⟩) (c19 : PySem.W.codeIn K cd19 "first_exit" = true) (k19 : PySem.W.keepIn K (.ref f19) = true)
    (a20 : PySem.W.nsIn K mainGlobals "first_inside" = some (some (.ref f20))) (l20 : K.lookup f20 = some ⟨oc20, od20, .func (PySem.W.fnOf "first_inside" "first_inside" (defArgs s_first_inside) (defBody s_first_inside) (defScope s_first_inside) .none kV20 dc20 pm20 an20 cd20 ct20), sl20⟩) (c20 : PySem.W.codeIn K cd20 "first_inside" = true) (k20 : PySem.W.keepIn K (.ref f20) = true)
    (a21 : PySem.W.nsIn K mainGlobals "line_from" = some (some (.ref f21))) (l21 : K.lookup f21 = some ⟨oc21, od21, .func (PySem.W.fnOf "line_from" "line_from" (defArgs s_line_from) (defBody s_line_from) (defScope s_line_from) .none kV21 dc21 pm21 an21 cd21 ct21), sl21⟩) (c21 : PySem.W.codeIn K cd21 "line_from" = true) (k21 : PySem.W.keepIn K (.ref f21) = true)
    (a22 : PySem.W.nsIn K mainGlobals "first_between" = some (some (.ref f22))) (l22 : K.lookup f22 = some ⟨oc22, od22, .func (PySem.W.fnOf "first_between" "first_between" (defArgs s_first_between) (defBody s_first_between) (defScope s_first_between) .none kV22 dc22 pm22 an22 cd22 ct22), sl22⟩) (c22 : PySem.W.codeIn K cd22 "first_between" = true) (k22 : PySem.W.keepIn K (.ref f22) = true)
    (a23 : PySem.W.nsIn K mainGlobals "shift_rule" = some (some (.ref f23))) (l23 : K.lookup f23 = some ⟨oc23, od23, .func (PySem.W.fnOf "shift_rule" "shift_rule" (defArgs s_shift_rule) (defBody s_shift_rule) (defScope s_shift_rule) .none kV23 dc23 pm23 an23 cd23 ct23), sl23⟩) (c23 : PySem.W.codeIn K cd23 "shift_rule" = true) (k23 : PySem.W.keepIn K (.ref f23) = true)
    (a24 : PySem.W.nsIn K mainGlobals "mirror_rule" = some (some (.ref f24))) (l24 : K.lookup f24 = some ⟨oc24, od24, .func (PySem.W.fnOf "mirror_rule" "mirror_rule" (defArgs s_mirror_rule) (defBody s_mirror_rule) (defScope s_mirror_rule) .none kV24 dc24 pm24 an24 cd24 ct24), sl24⟩) (c24 : PySem.W.codeIn K cd24 "mirror_rule" = true) (k24 : PySem.W.keepIn K (.ref f24) = true)
    (a25 : PySem.W.nsIn K mainGlobals "count" = some (some (.ref f25))) (l25 : K.lookup f25 = some ⟨oc25, od25, .func (PySem.W.fnOf "count" "count" (defArgs s_count) (defBody s_count) (defScope s_count) .none kV25 dc25 pm25 an25 cd25 ct25), sl25⟩) (c25 : PySem.W.codeIn K cd25 "count" = true) (k25 : PySem.W.keepIn K (.ref f25) = true)
    (a26 : PySem.W.nsIn K mainGlobals "check_rules" = some (some (.ref f26))) (l26 : K.lookup f26 = some ⟨oc26, od26, .func (PySem.W.fnOf "check_rules" "check_rules" (defArgs s_check_rules) (defBody s_check_rules) (defScope s_check_rules) .none kV26 dc26 pm26 an26 cd26 ct26), sl26⟩) (c26 : PySem.W.codeIn K cd26 "check_rules" = true) (k26 : PySem.W.keepIn K (.ref f26) = true)
    (a27 : PySem.W.nsIn K mainGlobals "gap_line" = some (some (.ref f27))) (l27 : K.lookup f27 = some ⟨oc27, od27, .func (PySem.W.fnOf "gap_line" "gap_line" (defArgs s_gap_line) (defBody s_gap_line) (defScope s_gap_line) .none kV27 dc27 pm27 an27 cd27 ct27), sl27⟩) (c27 : PySem.W.codeIn K cd27 "gap_line" = true) (k27 : PySem.W.keepIn K (.ref f27) = true)
    (a28 : PySem.W.nsIn K mainGlobals "reach" = some (some (.ref f28))) (l28 : K.lookup f28 = some ⟨oc28, od28, .func (PySem.W.fnOf "reach" "reach" (defArgs s_reach) (defBody s_reach) (defScope s_reach) .none kV28 dc28 pm28 an28 cd28 ct28), sl28⟩) (c28 : PySem.W.codeIn K cd28 "reach" = true) (k28 : PySem.W.keepIn K (.ref f28) = true)
    (a29 : PySem.W.nsIn K mainGlobals "times_ahead" = some (some (.ref f29))) (l29 : K.lookup f29 = some ⟨oc29, od29, .func (PySem.W.fnOf "times_ahead" "times_ahead" (defArgs s_times_ahead) (defBody s_times_ahead) (defScope s_times_ahead) .none kV29 dc29 pm29 an29 cd29 ct29), sl29⟩) (c29 : PySem.W.codeIn K cd29 "times_ahead" = true) (k29 : PySem.W.keepIn K (.ref f29) = true)
    (a30 : PySem.W.nsIn K mainGlobals "compare_counts" = some (some (.ref f30))) (l30 : K.lookup f30 = some ⟨oc30, od30, .func (PySem.W.fnOf "compare_counts" "compare_counts" (defArgs s_compare_counts) (defBody s_compare_counts) (defScope s_compare_counts) .none kV30 dc30 pm30 an30 cd30 ct30), sl30⟩) (c30 : PySem.W.codeIn K cd30 "compare_counts" = true) (k30 : PySem.W.keepIn K (.ref f30) = true)
    (a31 : PySem.W.nsIn K mainGlobals "steps_to_lead" = some (some (.ref f31))) (l31 : K.lookup f31 = some ⟨oc31, od31, .func (PySem.W.fnOf "steps_to_lead" "steps_to_lead" (defArgs s_steps_to_lead) (defBody s_steps_to_lead) (defScope s_steps_to_lead) .none kV31 dc31 pm31 an31 cd31 ct31), sl31⟩) (c31 : PySem.W.codeIn K cd31 "steps_to_lead" = true) (k31 : PySem.W.keepIn K (.ref f31) = true)
    (a32 : PySem.W.nsIn K mainGlobals "first_lead" = some (some (.ref f32))) (l32 : K.lookup f32 = some ⟨oc32, od32, .func (PySem.W.fnOf "first_lead" "first_lead" (defArgs s_first_lead) (defBody s_first_lead) (defScope s_first_lead) .none kV32 dc32 pm32 an32 cd32 ct32), sl32⟩) (c32 : PySem.W.codeIn K cd32 "first_lead" = true) (k32 : PySem.W.keepIn K (.ref f32) = true)
    (a33 : PySem.W.nsIn K mainGlobals "last_lead" = some (some (.ref f33))) (l33 : K.lookup f33 = some ⟨oc33, od33, .func (PySem.W.fnOf "last_lead" "last_lead" (defArgs s_last_lead) (defBody s_last_lead) (defScope s_last_lead) .none kV33 dc33 pm33 an33 cd33 ct33), sl33⟩) (c33 : PySem.W.codeIn K cd33 "last_lead" = true) (k33 : PySem.W.keepIn K (.ref f33) = true)
    (a34 : PySem.W.nsIn K mainGlobals "first_difference" = some (some (.ref f34))) (l34 : K.lookup f34 = some ⟨oc34, od34, .func (PySem.W.fnOf "first_difference" "first_difference" (defArgs s_first_difference) (defBody s_first_difference) (defScope s_first_difference) .none kV34 dc34 pm34 an34 cd34 ct34), sl34⟩) (c34 : PySem.W.codeIn K cd34 "first_difference" = true) (k34 : PySem.W.keepIn K (.ref f34) = true)
    (a35 : PySem.W.nsIn K mainGlobals "last_difference" = some (some (.ref f35))) (l35 : K.lookup f35 = some ⟨oc35, od35, .func (PySem.W.fnOf "last_difference" "last_difference" (defArgs s_last_difference) (defBody s_last_difference) (defScope s_last_difference) .none kV35 dc35 pm35 an35 cd35 ct35), sl35⟩) (c35 : PySem.W.codeIn K cd35 "last_difference" = true) (k35 : PySem.W.keepIn K (.ref f35) = true)
    (a36 : PySem.W.nsIn K mainGlobals "greatest_lead" = some (some (.ref f36))) (l36 : K.lookup f36 = some ⟨oc36, od36, .func (PySem.W.fnOf "greatest_lead" "greatest_lead" (defArgs s_greatest_lead) (defBody s_greatest_lead) (defScope s_greatest_lead) .none kV36 dc36 pm36 an36 cd36 ct36), sl36⟩) (c36 : PySem.W.codeIn K cd36 "greatest_lead" = true) (k36 : PySem.W.keepIn K (.ref f36) = true)
    (a37 : PySem.W.nsIn K mainGlobals "lead_range" = some (some (.ref f37))) (l37 : K.lookup f37 = some ⟨oc37, od37, .func (PySem.W.fnOf "lead_range" "lead_range" (defArgs s_lead_range) (defBody s_lead_range) (defScope s_lead_range) .none kV37 dc37 pm37 an37 cd37 ct37), sl37⟩) (c37 : PySem.W.codeIn K cd37 "lead_range" = true) (k37 : PySem.W.keepIn K (.ref f37) = true)
    (a38 : PySem.W.nsIn K mainGlobals "cycle_agreements" = some (some (.ref f38))) (l38 : K.lookup f38 = some ⟨oc38, od38, .func (PySem.W.fnOf "cycle_agreements" "cycle_agreements" (defArgs s_cycle_agreements) (defBody s_cycle_agreements) (defScope s_cycle_agreements) .none kV38 dc38 pm38 an38 cd38 ct38), sl38⟩) (c38 : PySem.W.codeIn K cd38 "cycle_agreements" = true) (k38 : PySem.W.keepIn K (.ref f38) = true)
    (a39 : PySem.W.nsIn K mainGlobals "close_times" = some (some (.ref f39))) (l39 : K.lookup f39 = some ⟨oc39, od39, .func (PySem.W.fnOf "close_times" "close_times" (defArgs s_close_times) (defBody s_close_times) (defScope s_close_times) .none kV39 dc39 pm39 an39 cd39 ct39), sl39⟩) (c39 : PySem.W.codeIn K cd39 "close_times" = true) (k39 : PySem.W.keepIn K (.ref f39) = true)
    (a40 : PySem.W.nsIn K mainGlobals "next_agreement" = some (some (.ref f40))) (l40 : K.lookup f40 = some ⟨oc40, od40, .func (PySem.W.fnOf "next_agreement" "next_agreement" (defArgs s_next_agreement) (defBody s_next_agreement) (defScope s_next_agreement) .none kV40 dc40 pm40 an40 cd40 ct40), sl40⟩) (c40 : PySem.W.codeIn K cd40 "next_agreement" = true) (k40 : PySem.W.keepIn K (.ref f40) = true)
    (a41 : PySem.W.nsIn K mainGlobals "search_agreement" = some (some (.ref f41))) (l41 : K.lookup f41 = some ⟨oc41, od41, .func (PySem.W.fnOf "search_agreement" "search_agreement" (defArgs s_search_agreement) (defBody s_search_agreement) (defScope s_search_agreement) .none kV41 dc41 pm41 an41 cd41 ct41), sl41⟩) (c41 : PySem.W.codeIn K cd41 "search_agreement" = true) (k41 : PySem.W.keepIn K (.ref f41) = true)
    (a42 : PySem.W.nsIn K mainGlobals "nth_agreement" = some (some (.ref f42))) (l42 : K.lookup f42 = some ⟨oc42, od42, .func (PySem.W.fnOf "nth_agreement" "nth_agreement" (defArgs s_nth_agreement) (defBody s_nth_agreement) (defScope s_nth_agreement) .none kV42 dc42 pm42 an42 cd42 ct42), sl42⟩) (c42 : PySem.W.codeIn K cd42 "nth_agreement" = true) (k42 : PySem.W.keepIn K (.ref f42) = true)
    (a43 : PySem.W.nsIn K mainGlobals "all_agreements" = some (some (.ref f43))) (l43 : K.lookup f43 = some ⟨oc43, od43, .func (PySem.W.fnOf "all_agreements" "all_agreements" (defArgs s_all_agreements) (defBody s_all_agreements) (defScope s_all_agreements) .none kV43 dc43 pm43 an43 cd43 ct43), sl43⟩) (c43 : PySem.W.codeIn K cd43 "all_agreements" = true) (k43 : PySem.W.keepIn K (.ref f43) = true)
    (a44 : PySem.W.nsIn K mainGlobals "_law_pair" = some (some (.ref f44))) (l44 : K.lookup f44 = some ⟨oc44, od44, .func (PySem.W.fnOf "_law_pair" "_law_pair" (defArgs s_l_pair) (defBody s_l_pair) (defScope s_l_pair) .none kV44 dc44 pm44 an44 cd44 ct44), sl44⟩) (c44 : PySem.W.codeIn K cd44 "_law_pair" = true) (k44 : PySem.W.keepIn K (.ref f44) = true)
    (a45 : PySem.W.nsIn K mainGlobals "_law_leads_right" = some (some (.ref f45))) (l45 : K.lookup f45 = some ⟨oc45, od45, .func (PySem.W.fnOf "_law_leads_right" "_law_leads_right" (defArgs s_l_leads_right) (defBody s_l_leads_right) (defScope s_l_leads_right) .none kV45 dc45 pm45 an45 cd45 ct45), sl45⟩) (c45 : PySem.W.codeIn K cd45 "_law_leads_right" = true) (k45 : PySem.W.keepIn K (.ref f45) = true)
    (a46 : PySem.W.nsIn K mainGlobals "_law_agreements_right" = some (some (.ref f46))) (l46 : K.lookup f46 = some ⟨oc46, od46, .func (PySem.W.fnOf "_law_agreements_right" "_law_agreements_right" (defArgs s_l_agreements_right) (defBody s_l_agreements_right) (defScope s_l_agreements_right) .none kV46 dc46 pm46 an46 cd46 ct46), sl46⟩) (c46 : PySem.W.codeIn K cd46 "_law_agreements_right" = true) (k46 : PySem.W.keepIn K (.ref f46) = true)
    (a47 : PySem.W.nsIn K mainGlobals "law" = some (some (.ref f47))) (l47 : K.lookup f47 = some ⟨oc47, od47, .func (PySem.W.fnOf "law" "law" (defArgs s_law) (defBody s_law) (defScope s_law) .none kV47 dc47 pm47 an47 cd47 ct47), sl47⟩) (c47 : PySem.W.codeIn K cd47 "law" = true) (k47 : PySem.W.keepIn K (.ref f47) = true)
    (z0 : PySem.W.nsIn K mainGlobals "len" = some none) (z1 : PySem.W.nsIn K mainGlobals "abs" = some none) (z2 : PySem.W.nsIn K mainGlobals "list" = some none) (z3 : PySem.W.nsIn K mainGlobals "range" = some none) (z4 : PySem.W.nsIn K mainGlobals "sum" = some none) (z5 : PySem.W.nsIn K mainGlobals "repr" = some none) (z6 : PySem.W.nsIn K mainGlobals "max" = some none) (z7 : PySem.W.nsIn K mainGlobals "min" = some none) (z8 : PySem.W.nsIn K mainGlobals "reversed" = some none) (z9 : PySem.W.nsIn K mainGlobals "divmod" = some none) (z10 : PySem.W.nsIn K mainGlobals "isinstance" = some none) (z11 : PySem.W.nsIn K mainGlobals "all" = some none) (z12 : PySem.W.nsIn K mainGlobals "int" = some none) (z13 : PySem.W.nsIn K mainGlobals "bool" = some none) (z14 : PySem.W.nsIn K mainGlobals "tuple" = some none) (z15 : PySem.W.nsIn K mainGlobals "sorted" = some none) (z16 : PySem.W.nsIn K mainGlobals "zip" = some none) (z17 : PySem.W.nsIn K mainGlobals "enumerate" = some none) (z18 : PySem.W.nsIn K mainGlobals "set" = some none) (z19 : PySem.W.nsIn K mainGlobals "str" = some none)
    {tM : Tok} (xM : PySem.W.nsIn K mainGlobals "FEW" = some (some (.int 20 tM))) :
    ∃ fd : FuncData, (∀ (s : Shared) (v : Value), BindsTo s fd ⟨[v], []⟩ [("_law_script", v)]) ∧ ∀ base : Heap, K.In base → base.Ns mainGlobals mg → FnOk l.prog w K mg base CX0 11 fa fd ["_law_script"] (spLaw K) := by
  have e := hfa.symm.trans (PySem.W.mg_of X G a47)
  cases e
  have B : Bi mg := ⟨PySem.W.mg_none_of X G z0, PySem.W.mg_none_of X G z1, PySem.W.mg_none_of X G z2, PySem.W.mg_none_of X G z3, PySem.W.mg_none_of X G z4, PySem.W.mg_none_of X G z5, PySem.W.mg_none_of X G z6, PySem.W.mg_none_of X G z7, PySem.W.mg_none_of X G z8, PySem.W.mg_none_of X G z9, PySem.W.mg_none_of X G z10, PySem.W.mg_none_of X G z11, PySem.W.mg_none_of X G z12, PySem.W.mg_none_of X G z13, PySem.W.mg_none_of X G z14, PySem.W.mg_none_of X G z15, PySem.W.mg_none_of X G z16, PySem.W.mg_none_of X G z17, PySem.W.mg_none_of X G z18, PySem.W.mg_none_of X G z19⟩
  have U : Bf mg := ⟨⟨tM, PySem.W.mg_of X G xM⟩⟩
  have F0 := fun_mk (st := s_l_pen) l0 c0 k0
  have D_l_pen : Df K mg "_law_pen" s_l_pen P_l_pen := ⟨f0, _, F0, PySem.W.mg_of X G a0, F0.binds fun _ _ _ _ _ _ us hl => match us, hl with | [_], _ => rfl⟩
  have F1 := fun_mk (st := s_l_draw) l1 c1 k1
  have D_l_draw : Df K mg "_law_draw" s_l_draw P_l_draw := ⟨f1, _, F1, PySem.W.mg_of X G a1, F1.binds fun _ _ _ _ _ _ us hl => match us, hl with | [_, _], _ => rfl⟩
  have F2 := fun_mk (st := s_l_pick) l2 c2 k2
  have D_l_pick : Df K mg "_law_pick" s_l_pick P_l_pick := ⟨f2, _, F2, PySem.W.mg_of X G a2, F2.binds fun _ _ _ _ _ _ us hl => match us, hl with | [_, _], _ => rfl⟩
  have F3 := fun_mk (st := s_l_great) l3 c3 k3
  have D_l_great : Df K mg "_law_great" s_l_great P_l_great := ⟨f3, _, F3, PySem.W.mg_of X G a3, F3.binds fun _ _ _ _ _ _ us hl => match us, hl with | [_, _], _ => rfl⟩
  have F4 := fun_mk (st := s_l_signed) l4 c4 k4
  have D_l_signed : Df K mg "_law_signed" s_l_signed P_l_signed := ⟨f4, _, F4, PySem.W.mg_of X G a4, F4.binds fun _ _ _ _ _ _ us hl => match us, hl with | [_, _], _ => rfl⟩
  have F5 := fun_mk (st := s_l_gcd) l5 c5 k5
  have D_l_gcd : Df K mg "_law_gcd" s_l_gcd P_l_gcd := ⟨f5, _, F5, PySem.W.mg_of X G a5, F5.binds fun _ _ _ _ _ _ us hl => match us, hl with | [_, _], _ => rfl⟩
  have F6 := fun_mk (st := s_l_lowest) l6 c6 k6
  have D_l_lowest : Df K mg "_law_lowest" s_l_lowest P_l_lowest := ⟨f6, _, F6, PySem.W.mg_of X G a6, F6.binds fun _ _ _ _ _ _ us hl => match us, hl with | [_, _, _], _ => rfl⟩
  have F7 := fun_mk (st := s_l_rule) l7 c7 k7
  have D_l_rule : Df K mg "_law_rule" s_l_rule P_l_rule := ⟨f7, _, F7, PySem.W.mg_of X G a7, F7.binds fun _ _ _ _ _ _ us hl => match us, hl with | [_, _], _ => rfl⟩
  have F8 := fun_mk (st := s_l_far_rule) l8 c8 k8
  have D_l_far_rule : Df K mg "_law_far_rule" s_l_far_rule P_l_far_rule := ⟨f8, _, F8, PySem.W.mg_of X G a8, F8.binds fun _ _ _ _ _ _ us hl => match us, hl with | [_, _], _ => rfl⟩
  have F9 := fun_mk (st := s_is_integer) l9 c9 k9
  have D_is_integer : Df K mg "is_integer" s_is_integer P_is_integer := ⟨f9, _, F9, PySem.W.mg_of X G a9, F9.binds fun _ _ _ _ _ _ us hl => match us, hl with | [_], _ => rfl⟩
  have F10 := fun_mk (st := s_check_integer) l10 c10 k10
  have D_check_integer : Df K mg "check_integer" s_check_integer P_check_integer := ⟨f10, _, F10, PySem.W.mg_of X G a10, F10.binds fun _ _ _ _ _ _ us hl => match us, hl with | [_], _ => rfl⟩
  have F11 := fun_mk (st := s_check_at_least) l11 c11 k11
  have D_check_at_least : Df K mg "check_at_least" s_check_at_least P_check_at_least := ⟨f11, _, F11, PySem.W.mg_of X G a11, F11.binds fun _ _ _ _ _ _ us hl => match us, hl with | [_, _], _ => rfl⟩
  have F12 := fun_mk (st := s_check_range) l12 c12 k12
  have D_check_range : Df K mg "check_range" s_check_range P_check_range := ⟨f12, _, F12, PySem.W.mg_of X G a12, F12.binds fun _ _ _ _ _ _ us hl => match us, hl with | [_, _], _ => rfl⟩
  have F13 := fun_mk (st := s_gcd) l13 c13 k13
  have D_gcd : Df K mg "gcd" s_gcd P_gcd := ⟨f13, _, F13, PySem.W.mg_of X G a13, F13.binds fun _ _ _ _ _ _ us hl => match us, hl with | [_, _], _ => rfl⟩
  have F14 := fun_mk (st := s_is_rule) l14 c14 k14
  have D_is_rule : Df K mg "is_rule" s_is_rule P_is_rule := ⟨f14, _, F14, PySem.W.mg_of X G a14, F14.binds fun _ _ _ _ _ _ us hl => match us, hl with | [_], _ => rfl⟩
  have F15 := fun_mk (st := s_check_rule) l15 c15 k15
  have D_check_rule : Df K mg "check_rule" s_check_rule P_check_rule := ⟨f15, _, F15, PySem.W.mg_of X G a15, F15.binds fun _ _ _ _ _ _ us hl => match us, hl with | [_], _ => rfl⟩
  have F16 := fun_mk (st := s_floor_sum) l16 c16 k16
  have D_floor_sum : Df K mg "floor_sum" s_floor_sum P_floor_sum := ⟨f16, _, F16, PySem.W.mg_of X G a16, F16.binds fun _ _ _ _ _ _ us hl => match us, hl with | [_, _, _, _], _ => rfl⟩
  have F17 := fun_mk (st := s_count_sum) l17 c17 k17
  have D_count_sum : Df K mg "count_sum" s_count_sum P_count_sum := ⟨f17, _, F17, PySem.W.mg_of X G a17, F17.binds fun _ _ _ _ _ _ us hl => match us, hl with | [_, _, _], _ => rfl⟩
  have F18 := fun_mk (st := s_divide_up) l18 c18 k18
  have D_divide_up : Df K mg "divide_up" s_divide_up P_divide_up := ⟨f18, _, F18, PySem.W.mg_of X G a18, F18.binds fun _ _ _ _ _ _ us hl => match us, hl with | [_, _], _ => rfl⟩
  have F19 := fun_mk (st := s_first_exit) l19 c19 k19
  have D_first_exit : Df K mg "first_exit" s_first_exit P_first_exit := ⟨f19, _, F19, PySem.W.mg_of X G a19, F19.binds fun _ _ _ _ _ _ us hl => match us, hl with | [_, _], _ => rfl⟩
  have F20 := fun_mk (st := s_first_inside) l20 c20 k20
  have D_first_inside : Df K mg "first_inside" s_first_inside P_first_inside := ⟨f20, _, F20, PySem.W.mg_of X G a20, F20.binds fun _ _ _ _ _ _ us hl => match us, hl with | [_, _], _ => rfl⟩
  have F21 := fun_mk (st := s_line_from) l21 c21 k21
  have D_line_from : Df K mg "line_from" s_line_from P_line_from := ⟨f21, _, F21, PySem.W.mg_of X G a21, F21.binds fun _ _ _ _ _ _ us hl => match us, hl with | [_, _], _ => rfl⟩
  have F22 := fun_mk (st := s_first_between) l22 c22 k22
  have D_first_between : Df K mg "first_between" s_first_between P_first_between := ⟨f22, _, F22, PySem.W.mg_of X G a22, F22.binds fun _ _ _ _ _ _ us hl => match us, hl with | [_, _], _ => rfl⟩
  have F23 := fun_mk (st := s_shift_rule) l23 c23 k23
  have D_shift_rule : Df K mg "shift_rule" s_shift_rule P_shift_rule := ⟨f23, _, F23, PySem.W.mg_of X G a23, F23.binds fun _ _ _ _ _ _ us hl => match us, hl with | [_, _, _], _ => rfl⟩
  have F24 := fun_mk (st := s_mirror_rule) l24 c24 k24
  have D_mirror_rule : Df K mg "mirror_rule" s_mirror_rule P_mirror_rule := ⟨f24, _, F24, PySem.W.mg_of X G a24, F24.binds fun _ _ _ _ _ _ us hl => match us, hl with | [_], _ => rfl⟩
  have F25 := fun_mk (st := s_count) l25 c25 k25
  have D_count : Df K mg "count" s_count P_count := ⟨f25, _, F25, PySem.W.mg_of X G a25, F25.binds fun _ _ _ _ _ _ us hl => match us, hl with | [_, _], _ => rfl⟩
  have F26 := fun_mk (st := s_check_rules) l26 c26 k26
  have D_check_rules : Df K mg "check_rules" s_check_rules P_check_rules := ⟨f26, _, F26, PySem.W.mg_of X G a26, F26.binds fun _ _ _ _ _ _ us hl => match us, hl with | [_, _], _ => rfl⟩
  have F27 := fun_mk (st := s_gap_line) l27 c27 k27
  have D_gap_line : Df K mg "gap_line" s_gap_line P_gap_line := ⟨f27, _, F27, PySem.W.mg_of X G a27, F27.binds fun _ _ _ _ _ _ us hl => match us, hl with | [_, _], _ => rfl⟩
  have F28 := fun_mk (st := s_reach) l28 c28 k28
  have D_reach : Df K mg "reach" s_reach P_reach := ⟨f28, _, F28, PySem.W.mg_of X G a28, F28.binds fun _ _ _ _ _ _ us hl => match us, hl with | [_, _, _, _], _ => rfl⟩
  have F29 := fun_mk (st := s_times_ahead) l29 c29 k29
  have D_times_ahead : Df K mg "times_ahead" s_times_ahead P_times_ahead := ⟨f29, _, F29, PySem.W.mg_of X G a29, F29.binds fun _ _ _ _ _ _ us hl => match us, hl with | [_, _, _, _], _ => rfl⟩
  have F30 := fun_mk (st := s_compare_counts) l30 c30 k30
  have D_compare_counts : Df K mg "compare_counts" s_compare_counts P_compare_counts := ⟨f30, _, F30, PySem.W.mg_of X G a30, F30.binds fun _ _ _ _ _ _ us hl => match us, hl with | [_, _, _, _], _ => rfl⟩
  have F31 := fun_mk (st := s_steps_to_lead) l31 c31 k31
  have D_steps_to_lead : Df K mg "steps_to_lead" s_steps_to_lead P_steps_to_lead := ⟨f31, _, F31, PySem.W.mg_of X G a31, F31.binds fun _ _ _ _ _ _ us hl => match us, hl with | [_, _, _, _, _], _ => rfl⟩
  have F32 := fun_mk (st := s_first_lead) l32 c32 k32
  have D_first_lead : Df K mg "first_lead" s_first_lead P_first_lead := ⟨f32, _, F32, PySem.W.mg_of X G a32, F32.binds fun _ _ _ _ _ _ us hl => match us, hl with | [_, _, _, _], _ => rfl⟩
  have F33 := fun_mk (st := s_last_lead) l33 c33 k33
  have D_last_lead : Df K mg "last_lead" s_last_lead P_last_lead := ⟨f33, _, F33, PySem.W.mg_of X G a33, F33.binds fun _ _ _ _ _ _ us hl => match us, hl with | [_, _, _, _], _ => rfl⟩
  have F34 := fun_mk (st := s_first_difference) l34 c34 k34
  have D_first_difference : Df K mg "first_difference" s_first_difference P_first_difference := ⟨f34, _, F34, PySem.W.mg_of X G a34, F34.binds fun _ _ _ _ _ _ us hl => match us, hl with | [_, _, _], _ => rfl⟩
  have F35 := fun_mk (st := s_last_difference) l35 c35 k35
  have D_last_difference : Df K mg "last_difference" s_last_difference P_last_difference := ⟨f35, _, F35, PySem.W.mg_of X G a35, F35.binds fun _ _ _ _ _ _ us hl => match us, hl with | [_, _, _], _ => rfl⟩
  have F36 := fun_mk (st := s_greatest_lead) l36 c36 k36
  have D_greatest_lead : Df K mg "greatest_lead" s_greatest_lead P_greatest_lead := ⟨f36, _, F36, PySem.W.mg_of X G a36, F36.binds fun _ _ _ _ _ _ us hl => match us, hl with | [_, _, _, _], _ => rfl⟩
  have F37 := fun_mk (st := s_lead_range) l37 c37 k37
  have D_lead_range : Df K mg "lead_range" s_lead_range P_lead_range := ⟨f37, _, F37, PySem.W.mg_of X G a37, F37.binds fun _ _ _ _ _ _ us hl => match us, hl with | [_, _, _, _], _ => rfl⟩
  have F38 := fun_mk (st := s_cycle_agreements) l38 c38 k38
  have D_cycle_agreements : Df K mg "cycle_agreements" s_cycle_agreements P_cycle_agreements := ⟨f38, _, F38, PySem.W.mg_of X G a38, F38.binds fun _ _ _ _ _ _ us hl => match us, hl with | [_, _], _ => rfl⟩
  have F39 := fun_mk (st := s_close_times) l39 c39 k39
  have D_close_times : Df K mg "close_times" s_close_times P_close_times := ⟨f39, _, F39, PySem.W.mg_of X G a39, F39.binds fun _ _ _ _ _ _ us hl => match us, hl with | [_, _], _ => rfl⟩
  have F40 := fun_mk (st := s_next_agreement) l40 c40 k40
  have D_next_agreement : Df K mg "next_agreement" s_next_agreement P_next_agreement := ⟨f40, _, F40, PySem.W.mg_of X G a40, F40.binds fun _ _ _ _ _ _ us hl => match us, hl with | [_, _, _], _ => rfl⟩
  have F41 := fun_mk (st := s_search_agreement) l41 c41 k41
  have D_search_agreement : Df K mg "search_agreement" s_search_agreement P_search_agreement := ⟨f41, _, F41, PySem.W.mg_of X G a41, F41.binds fun _ _ _ _ _ _ us hl => match us, hl with | [_, _, _, _, _], _ => rfl⟩
  have F42 := fun_mk (st := s_nth_agreement) l42 c42 k42
  have D_nth_agreement : Df K mg "nth_agreement" s_nth_agreement P_nth_agreement := ⟨f42, _, F42, PySem.W.mg_of X G a42, F42.binds fun _ _ _ _ _ _ us hl => match us, hl with | [_, _, _, _], _ => rfl⟩
  have F43 := fun_mk (st := s_all_agreements) l43 c43 k43
  have D_all_agreements : Df K mg "all_agreements" s_all_agreements P_all_agreements := ⟨f43, _, F43, PySem.W.mg_of X G a43, F43.binds fun _ _ _ _ _ _ us hl => match us, hl with | [_, _], _ => rfl⟩
  have F44 := fun_mk (st := s_l_pair) l44 c44 k44
  have D_l_pair : Df K mg "_law_pair" s_l_pair P_l_pair := ⟨f44, _, F44, PySem.W.mg_of X G a44, F44.binds fun _ _ _ _ _ _ us hl => match us, hl with | [_], _ => rfl⟩
  have F45 := fun_mk (st := s_l_leads_right) l45 c45 k45
  have D_l_leads_right : Df K mg "_law_leads_right" s_l_leads_right P_l_leads_right := ⟨f45, _, F45, PySem.W.mg_of X G a45, F45.binds fun _ _ _ _ _ _ us hl => match us, hl with | [_, _, _, _, _], _ => rfl⟩
  have F46 := fun_mk (st := s_l_agreements_right) l46 c46 k46
  have D_l_agreements_right : Df K mg "_law_agreements_right" s_l_agreements_right P_l_agreements_right := ⟨f46, _, F46, PySem.W.mg_of X G a46, F46.binds fun _ _ _ _ _ _ us hl => match us, hl with | [_, _, _], _ => rfl⟩
  have F47 := fun_mk (st := s_law) l47 c47 k47
  refine ⟨PySem.W.fnOf "law" "law" (defArgs s_law) (defBody s_law) (defScope s_law) .none kV47 dc47 pm47 an47 cd47 ct47, fun s v => .of_eq rfl, fun base _ _ => ?_⟩
  have c_l_pen := ok_l_pen (P := l.prog) (w := w) (base := base) D_l_pen B
  have c_l_draw := ok_l_draw (P := l.prog) (w := w) (base := base) D_l_draw B
  have c_l_pick := ok_l_pick (P := l.prog) (w := w) (base := base) D_l_pick B c_l_draw
  have c_l_great := ok_l_great (P := l.prog) (w := w) (base := base) D_l_great B c_l_draw
  have c_l_signed := ok_l_signed (P := l.prog) (w := w) (base := base) D_l_signed B c_l_draw c_l_pick c_l_great
  have c_l_gcd := ok_l_gcd (P := l.prog) (w := w) (base := base) D_l_gcd
  have c_l_lowest := ok_l_lowest (P := l.prog) (w := w) (base := base) D_l_lowest c_l_gcd
  have c_l_rule := ok_l_rule (P := l.prog) (w := w) (base := base) D_l_rule B c_l_draw c_l_pick c_l_lowest
  have c_l_far_rule := ok_l_far_rule (P := l.prog) (w := w) (base := base) D_l_far_rule B c_l_pick c_l_great c_l_signed c_l_lowest
  have c_is_integer := ok_is_integer (P := l.prog) (w := w) (base := base) D_is_integer B
  have c_check_integer := ok_check_integer (P := l.prog) (w := w) (base := base) D_check_integer c_is_integer
  have c_check_at_least := ok_check_at_least (P := l.prog) (w := w) (base := base) D_check_at_least c_is_integer
  have c_check_range := ok_check_range (P := l.prog) (w := w) (base := base) D_check_range c_check_integer
  have c_gcd := ok_gcd (P := l.prog) (w := w) (base := base) D_gcd
  have c_is_rule := ok_is_rule (P := l.prog) (w := w) (base := base) D_is_rule B c_is_integer c_gcd
  have c_check_rule := ok_check_rule (P := l.prog) (w := w) (base := base) D_check_rule c_is_rule
  have c_floor_sum := ok_floor_sum (P := l.prog) (w := w) (base := base) D_floor_sum B c_check_integer c_check_at_least
  have c_count_sum := ok_count_sum (P := l.prog) (w := w) (base := base) D_count_sum B c_check_rule c_check_range c_floor_sum
  have c_divide_up := ok_divide_up (P := l.prog) (w := w) (base := base) D_divide_up
  have c_first_exit := ok_first_exit (P := l.prog) (w := w) (base := base) D_first_exit B c_divide_up
  have c_first_inside := ok_first_inside (P := l.prog) (w := w) (base := base) D_first_inside B c_divide_up c_first_exit
  have c_line_from := ok_line_from (P := l.prog) (w := w) (base := base) D_line_from
  have c_first_between := ok_first_between (P := l.prog) (w := w) (base := base) D_first_between c_divide_up c_line_from c_first_inside
  have c_shift_rule := ok_shift_rule (P := l.prog) (w := w) (base := base) D_shift_rule c_check_rule c_check_integer
  have c_mirror_rule := ok_mirror_rule (P := l.prog) (w := w) (base := base) D_mirror_rule c_check_rule
  have c_count := ok_count (P := l.prog) (w := w) (base := base) D_count c_check_rule c_check_integer
  have c_check_rules := ok_check_rules (P := l.prog) (w := w) (base := base) D_check_rules c_check_rule
  have c_gap_line := ok_gap_line (P := l.prog) (w := w) (base := base) D_gap_line
  have c_reach := ok_reach (P := l.prog) (w := w) (base := base) D_reach B c_divide_up
  have cA_times_ahead := okA_times_ahead (P := l.prog) (w := w) (base := base) D_times_ahead c_gap_line c_reach c_count_sum
  have c_times_ahead := ok_times_ahead (P := l.prog) (w := w) (base := base) D_times_ahead c_gap_line c_reach c_count_sum c_mirror_rule cA_times_ahead
  have c_compare_counts := ok_compare_counts (P := l.prog) (w := w) (base := base) D_compare_counts B c_check_rules c_check_range c_times_ahead
  have c_steps_to_lead := ok_steps_to_lead (P := l.prog) (w := w) (base := base) D_steps_to_lead c_first_between
  have c_first_lead := ok_first_lead (P := l.prog) (w := w) (base := base) D_first_lead c_check_rules c_check_integer c_steps_to_lead
  have c_last_lead := ok_last_lead (P := l.prog) (w := w) (base := base) D_last_lead c_check_rules c_check_integer c_steps_to_lead
  have cA_first_difference := okA_first_difference (P := l.prog) (w := w) (base := base) D_first_difference B c_first_lead
  have c_first_difference := ok_first_difference (P := l.prog) (w := w) (base := base) D_first_difference B c_first_lead
  have cA_last_difference := okA_last_difference (P := l.prog) (w := w) (base := base) D_last_difference B c_last_lead
  have c_last_difference := ok_last_difference (P := l.prog) (w := w) (base := base) D_last_difference B c_last_lead
  have c_greatest_lead := ok_greatest_lead (P := l.prog) (w := w) (base := base) D_greatest_lead B c_count c_first_lead
  have c_lead_range := ok_lead_range (P := l.prog) (w := w) (base := base) D_lead_range c_check_rules c_check_integer c_check_at_least c_greatest_lead
  have c_cycle_agreements := ok_cycle_agreements (P := l.prog) (w := w) (base := base) D_cycle_agreements B
  have c_close_times := ok_close_times (P := l.prog) (w := w) (base := base) D_close_times c_gap_line c_divide_up
  have c_next_agreement := ok_next_agreement (P := l.prog) (w := w) (base := base) D_next_agreement c_count c_first_lead
  have c_search_agreement := ok_search_agreement (P := l.prog) (w := w) (base := base) D_search_agreement B U c_compare_counts c_next_agreement
  have c_nth_agreement := ok_nth_agreement (P := l.prog) (w := w) (base := base) D_nth_agreement B c_check_rules c_check_integer c_check_at_least c_cycle_agreements c_close_times c_compare_counts c_search_agreement
  have c_all_agreements := ok_all_agreements (P := l.prog) (w := w) (base := base) D_all_agreements c_check_rules c_mirror_rule c_cycle_agreements c_close_times c_compare_counts c_next_agreement
  have c_l_pair := ok_l_pair (P := l.prog) (w := w) (base := base) D_l_pair B c_l_draw c_l_pick c_l_signed c_l_lowest c_l_rule c_l_far_rule
  have c_l_leads_right := ok_l_leads_right (P := l.prog) (w := w) (base := base) D_l_leads_right B c_count c_shift_rule c_compare_counts c_first_lead c_last_lead c_lead_range
  have c_l_agreements_right := ok_l_agreements_right (P := l.prog) (w := w) (base := base) D_l_agreements_right B c_l_draw c_l_great c_l_signed c_count c_compare_counts c_nth_agreement c_all_agreements
  exact ok_law F47 B c_l_pen c_l_draw c_l_pick c_l_great c_l_signed c_l_pair c_count c_compare_counts c_l_leads_right c_l_agreements_right cA_first_difference cA_last_difference
end Lf
open PySem PySem.W PyProof.Rows
set_option maxRecDepth 100000 in
set_option maxHeartbeats 0 in
theorem PySem.Challenge.cw_leapfit_k26_whole_leads_and_agreements_holds : PySem.Challenge.rw_leapfit_k26_whole_leads_and_agreements.Holds := by
  w_on; o_law; k_head; (case hw => w_witness2)
  k_fill
  refine L2.walk_of (l := PySem.Challenge.rw_leapfit_k26_whole_leads_and_agreements) (n := 63) (k := 11) (x := "_law_script") (CX := fun _ => L2.CX0) (sp := fun w => Lf.spLaw _) rfl (by decide) rfl ⟨rfl, by decide, by decide⟩ (fun w h Y => PySem.W.kIn_of Y) ?F (fun _ _ a ns hl _ hS => ⟨a, ns, rfl, hS, hl, fun _ => rfl⟩) (fun _ _ _ _ _ h => h)
  case F =>
    intro w mg fa h KX G hmg
    refine' Lf.all_mk KX G hmg ?a0 ?l0 ?c0 ?k0 ?a1 ?l1 ?c1 ?k1 ?a2 ?l2 ?c2 ?k2 ?a3 ?l3 ?c3 ?k3 ?a4 ?l4 ?c4 ?k4 ?a5 ?l5 ?c5 ?k5 ?a6 ?l6 ?c6 ?k6 ?a7 ?l7 ?c7 ?k7 ?a8 ?l8 ?c8 ?k8 ?a9 ?l9 ?c9 ?k9 ?a10 ?l10 ?c10 ?k10 ?a11 ?l11 ?c11 ?k11 ?a12 ?l12 ?c12 ?k12 ?a13 ?l13 ?c13 ?k13 ?a14 ?l14 ?c14 ?k14 ?a15 ?l15 ?c15 ?k15 ?a16 ?l16 ?c16 ?k16 ?a17 ?l17 ?c17 ?k17 ?a18 ?l18 ?c18 ?k18 ?a19 ?l19 ?c19 ?k19 ?a20 ?l20 ?c20 ?k20 ?a21 ?l21 ?c21 ?k21 ?a22 ?l22 ?c22 ?k22 ?a23 ?l23 ?c23 ?k23 ?a24 ?l24 ?c24 ?k24 ?a25 ?l25 ?c25 ?k25 ?a26 ?l26 ?c26 ?k26 ?a27 ?l27 ?c27 ?k27 ?a28 ?l28 ?c28 ?k28 ?a29 ?l29 ?c29 ?k29 ?a30 ?l30 ?c30 ?k30 ?a31 ?l31 ?c31 ?k31 ?a32 ?l32 ?c32 ?k32 ?a33 ?l33 ?c33 ?k33 ?a34 ?l34 ?c34 ?k34 ?a35 ?l35 ?c35 ?k35 ?a36 ?l36 ?c36 ?k36 ?a37 ?l37 ?c37 ?k37 ?a38 ?l38 ?c38 ?k38 ?a39 ?l39 ?c39 ?k39 ?a40 ?l40 ?c40 ?k40 ?a41 ?l41 ?c41 ?k41 ?a42 ?l42 ?c42 ?k42 ?a43 ?l43 ?c43 ?k43 ?a44 ?l44 ?c44 ?k44 ?a45 ?l45 ?c45 ?k45 ?a46 ?l46 ?c46 ?k46 ?a47 ?l47 ?c47 ?k47 ?z0 ?z1 ?z2 ?z3 ?z4 ?z5 ?z6 ?z7 ?z8 ?z9 ?z10 ?z11 ?z12 ?z13 ?z14 ?z15 ?z16 ?z17 ?z18 ?z19 ?xM
    (case a0 => k_is); (case l0 => k_is); (case c0 => k_is); (case k0 => k_is)
    (case a1 => k_is); (case l1 => k_is); (case c1 => k_is); (case k1 => k_is)
    (case a2 => k_is); (case l2 => k_is); (case c2 => k_is); (case k2 => k_is)
    (case a3 => k_is); (case l3 => k_is); (case c3 => k_is); (case k3 => k_is)
    (case a4 => k_is); (case l4 => k_is); (case c4 => k_is); (case k4 => k_is)
    (case a5 => k_is); (case l5 => k_is); (case c5 => k_is); (case k5 => k_is)
    (case a6 => k_is); (case l6 => k_is); (case c6 => k_is); (case k6 => k_is)
    (case a7 => k_is); (case l7 => k_is); (case c7 => k_is); (case k7 => k_is)
    (case a8 => k_is); (case l8 => k_is); (case c8 => k_is); (case k8 => k_is)
    (case a9 => k_is); (case l9 => k_is); (case c9 => k_is); (case k9 => k_is)
    (case a10 => k_is); (case l10 => k_is); (case c10 => k_is); (case k10 => k_is)
    (case a11 => k_is); (case l11 => k_is); (case c11 => k_is); (case k11 => k_is)
    (case a12 => k_is); (case l12 => k_is); (case c12 => k_is); (case k12 => k_is)
    (case a13 => k_is); (case l13 => k_is); (case c13 => k_is); (case k13 => k_is)
    (case a14 => k_is); (case l14 => k_is); (case c14 => k_is); (case k14 => k_is)
    (case a15 => k_is); (case l15 => k_is); (case c15 => k_is); (case k15 => k_is)
    (case a16 => k_is); (case l16 => k_is); (case c16 => k_is); (case k16 => k_is)
    (case a17 => k_is); (case l17 => k_is); (case c17 => k_is); (case k17 => k_is)
    (case a18 => k_is); (case l18 => k_is); (case c18 => k_is); (case k18 => k_is)
    (case a19 => k_is); (case l19 => k_is); (case c19 => k_is); (case k19 => k_is)
    (case a20 => k_is); (case l20 => k_is); (case c20 => k_is); (case k20 => k_is)
    (case a21 => k_is); (case l21 => k_is); (case c21 => k_is); (case k21 => k_is)
    (case a22 => k_is); (case l22 => k_is); (case c22 => k_is); (case k22 => k_is)
    (case a23 => k_is); (case l23 => k_is); (case c23 => k_is); (case k23 => k_is)
    (case a24 => k_is); (case l24 => k_is); (case c24 => k_is); (case k24 => k_is)
    (case a25 => k_is); (case l25 => k_is); (case c25 => k_is); (case k25 => k_is)
    (case a26 => k_is); (case l26 => k_is); (case c26 => k_is); (case k26 => k_is)
    (case a27 => k_is); (case l27 => k_is); (case c27 => k_is); (case k27 => k_is)
    (case a28 => k_is); (case l28 => k_is); (case c28 => k_is); (case k28 => k_is)
    (case a29 => k_is); (case l29 => k_is); (case c29 => k_is); (case k29 => k_is)
    (case a30 => k_is); (case l30 => k_is); (case c30 => k_is); (case k30 => k_is)
    (case a31 => k_is); (case l31 => k_is); (case c31 => k_is); (case k31 => k_is)
    (case a32 => k_is); (case l32 => k_is); (case c32 => k_is); (case k32 => k_is)
    (case a33 => k_is); (case l33 => k_is); (case c33 => k_is); (case k33 => k_is)
    (case a34 => k_is); (case l34 => k_is); (case c34 => k_is); (case k34 => k_is)
    (case a35 => k_is); (case l35 => k_is); (case c35 => k_is); (case k35 => k_is)
    (case a36 => k_is); (case l36 => k_is); (case c36 => k_is); (case k36 => k_is)
    (case a37 => k_is); (case l37 => k_is); (case c37 => k_is); (case k37 => k_is)
    (case a38 => k_is); (case l38 => k_is); (case c38 => k_is); (case k38 => k_is)
    (case a39 => k_is); (case l39 => k_is); (case c39 => k_is); (case k39 => k_is)
    (case a40 => k_is); (case l40 => k_is); (case c40 => k_is); (case k40 => k_is)
    (case a41 => k_is); (case l41 => k_is); (case c41 => k_is); (case k41 => k_is)
    (case a42 => k_is); (case l42 => k_is); (case c42 => k_is); (case k42 => k_is)
    (case a43 => k_is); (case l43 => k_is); (case c43 => k_is); (case k43 => k_is)
    (case a44 => k_is); (case l44 => k_is); (case c44 => k_is); (case k44 => k_is)
    (case a45 => k_is); (case l45 => k_is); (case c45 => k_is); (case k45 => k_is)
    (case a46 => k_is); (case l46 => k_is); (case c46 => k_is); (case k46 => k_is)
    (case a47 => k_is); (case l47 => k_is); (case c47 => k_is); (case k47 => k_is)
    (case z0 => k_is); (case z1 => k_is); (case z2 => k_is); (case z3 => k_is); (case z4 => k_is); (case z5 => k_is); (case z6 => k_is); (case z7 => k_is); (case z8 => k_is); (case z9 => k_is); (case z10 => k_is); (case z11 => k_is); (case z12 => k_is); (case z13 => k_is); (case z14 => k_is); (case z15 => k_is); (case z16 => k_is); (case z17 => k_is); (case z18 => k_is); (case z19 => k_is)
    (case xM => k_is)
