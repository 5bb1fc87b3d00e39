import PyProof.Rows.All
import Wide.All
import OpenK.AllK
import Wide.FinOn
import HandS.ForMost
import HandS.Walk
import HandS.ForExc
import HandS.ExcInit
import HandS.ExcIs
import HandS.ExcValue
import HandS.Wide
import HandS.Gcd
import HandS.IsInst
import HandS.Defaults
import HandS.Codes
import HandS.OwnEq
import HandS.Lambda
import KE.KExcIs
import KE.GoesMore
import HandS.Style
import HandS.TryMany
import HandS.EndTab
import HandS.SetFor
import HandS.SortInts
import KE.KSortedM
import HandS.SetFor
import HandS.SortInts
import KE.KSortedM
import HandS.TupAny
import HandS.TupMul
import HandS.OwnEq
import PySem.Challenge.RW_rillweb_k11_what_is_no_course
set_option Elab.async false
set_option linter.all false
set_option maxRecDepth 100000
set_option maxHeartbeats 2000000
set_option exponentiation.threshold 20000
namespace K11
open PySem PySem.Spec PyProof.Rows L2
def top (i : Nat) : Stmt := PySem.Challenge.pw_rillweb_k11_what_is_no_course.main.body.getD i (.Pass ⟨0, 0, 0, 0⟩)
abbrev d_is_whole : Stmt := top 8
abbrev d_is_between : Stmt := top 9
abbrev d_is_day : Stmt := top 10
abbrev d_Share_init : Stmt := inClass (top 12) 0
abbrev d_Share_eq : Stmt := inClass (top 12) 1
abbrev d_least_word : Stmt := top 16
abbrev d_spans_of : Stmt := top 17
abbrev d_number_on : Stmt := top 18
abbrev d_share_on : Stmt := top 19
abbrev d_sooner : Stmt := top 20
abbrev d_beside : Stmt := top 21
abbrev d_Course_init : Stmt := inClass (top 23) 0
abbrev d_Course_eq : Stmt := inClass (top 23) 1
abbrev d_are_stretches : Stmt := top 24
abbrev d_is_stretch : Stmt := top 25
abbrev d_is_word : Stmt := top 26
abbrev d_on : Stmt := top 27
abbrev d_first_unlike : Stmt := top 28
abbrev d_law_cell_at : Stmt := top 30
abbrev d_law_well : Stmt := top 31
abbrev d_law_draw : Stmt := top 32
abbrev d_law_one : Stmt := top 33
abbrev d_law_low : Stmt := top 34
abbrev d_law_pair : Stmt := top 35
abbrev d_law_sum : Stmt := top 36
abbrev d_law_by : Stmt := top 37
abbrev d_law_word : Stmt := top 38
abbrev d_law_stretches : Stmt := top 39
abbrev d_law_course : Stmt := top 40
abbrev d_law_on : Stmt := top 41
abbrev d_law_given : Stmt := top 42
abbrev d_law_amiss : Stmt := top 43
abbrev d_law_is_good : Stmt := top 44
abbrev d_law_made : Stmt := top 45
abbrev d_law_right : Stmt := top 46
abbrev d_law : Stmt := top 47
end K11
namespace K11
/-- the common part of two whole numbers, with the sign of the second -/
def sg (a b : Int) : Int := if b < 0 then -((Nat.gcd a.natAbs b.natAbs : Nat) : Int) else ((Nat.gcd a.natAbs b.natAbs : Nat) : Int)
/-- the top and the bottom in lowest terms -/
def lowT (a b : Int) : Int := a.fdiv (sg a b)
def lowB (a b : Int) : Int := b.fdiv (sg a b)

theorem gcd_pos {a b : Int} (hb : b ≠ 0) : 0 < Nat.gcd a.natAbs b.natAbs := Nat.gcd_pos_of_pos_right _ (by omega)
theorem sg_ne {a b : Int} (hb : b ≠ 0) : sg a b ≠ 0 := by
  have := gcd_pos (a := a) hb
  unfold sg
  split <;> omega
theorem sg_dvd_left (a b : Int) : sg a b ∣ a := by
  have h : ((Nat.gcd a.natAbs b.natAbs : Nat) : Int) ∣ a := Int.ofNat_dvd_left.mpr (Nat.gcd_dvd_left _ _)
  unfold sg
  split
  · exact Int.neg_dvd.mpr h
  · exact h
theorem sg_dvd_right (a b : Int) : sg a b ∣ b := by
  have h : ((Nat.gcd a.natAbs b.natAbs : Nat) : Int) ∣ b := Int.ofNat_dvd_left.mpr (Nat.gcd_dvd_right _ _)
  unfold sg
  split
  · exact Int.neg_dvd.mpr h
  · exact h
theorem lowT_mul (a b : Int) : lowT a b * sg a b = a := Int.fdiv_mul_cancel (sg_dvd_left a b)
theorem lowB_mul (a b : Int) : lowB a b * sg a b = b := Int.fdiv_mul_cancel (sg_dvd_right a b)
theorem lowB_pos {a b : Int} (hb : b ≠ 0) : 0 < lowB a b := by
  have h := lowB_mul a b
  have hg := gcd_pos (a := a) hb
  have hs : (0 < b ∧ 0 < sg a b) ∨ (b < 0 ∧ sg a b < 0) := by
    unfold sg
    split <;> omega
  rcases hs with ⟨h1, h2⟩ | ⟨h1, h2⟩
  · rcases Int.lt_trichotomy (lowB a b) 0 with h3 | h3 | h3
    · have := Int.mul_neg_of_neg_of_pos h3 h2
      omega
    · rw [h3] at h; omega
    · exact h3
  · rcases Int.lt_trichotomy (lowB a b) 0 with h3 | h3 | h3
    · have := Int.mul_pos_of_neg_of_neg h3 h2
      omega
    · rw [h3] at h; omega
    · exact h3
theorem sg_abs (a b : Int) : (sg a b).natAbs = Nat.gcd a.natAbs b.natAbs := by
  unfold sg
  split <;> omega
theorem low_coprime {a b : Int} (hb : b ≠ 0) : Nat.gcd (lowT a b).natAbs (lowB a b).natAbs = 1 := by
  have h1 : (lowT a b).natAbs * (sg a b).natAbs = a.natAbs := by rw [← Int.natAbs_mul, lowT_mul]
  have h2 : (lowB a b).natAbs * (sg a b).natAbs = b.natAbs := by rw [← Int.natAbs_mul, lowB_mul]
  have hg := gcd_pos (a := a) hb
  have h3 : Nat.gcd ((lowT a b).natAbs * (sg a b).natAbs) ((lowB a b).natAbs * (sg a b).natAbs) = (sg a b).natAbs := by
    rw [h1, h2, sg_abs]
  rw [Nat.gcd_mul_right] at h3
  rw [sg_abs] at h3
  exact Nat.eq_of_mul_eq_mul_right hg (by rw [h3, Nat.one_mul])
theorem same_of {t b t' b' : Int} (hb : 0 < b) (hb' : 0 < b') (h : t * b' = t' * b) (c : Nat.gcd t.natAbs b.natAbs = 1) (c' : Nat.gcd t'.natAbs b'.natAbs = 1) : t = t' ∧ b = b' := by
  have e : t.natAbs * b'.natAbs = t'.natAbs * b.natAbs := by rw [← Int.natAbs_mul, ← Int.natAbs_mul, h]
  have d1 : b.natAbs ∣ b'.natAbs := by
    have : b.natAbs ∣ t.natAbs * b'.natAbs := ⟨t'.natAbs, by rw [e, Nat.mul_comm]⟩
    exact Nat.Coprime.dvd_of_dvd_mul_left (by rw [Nat.Coprime, Nat.gcd_comm]; exact c) this
  have d2 : b'.natAbs ∣ b.natAbs := by
    have : b'.natAbs ∣ t'.natAbs * b.natAbs := ⟨t.natAbs, by rw [← e, Nat.mul_comm]⟩
    exact Nat.Coprime.dvd_of_dvd_mul_left (by rw [Nat.Coprime, Nat.gcd_comm]; exact c') this
  have eb : b = b' := by
    have := Nat.dvd_antisymm d1 d2
    omega
  refine ⟨?_, eb⟩
  rw [← eb] at h
  exact Int.eq_of_mul_eq_mul_right (by omega) h
/-- fractions of one number have one form -/
theorem low_eq {p q p' q' : Int} (hq : q ≠ 0) (hq' : q' ≠ 0) (h : p * q' = p' * q) : lowT p q = lowT p' q' ∧ lowB p q = lowB p' q' := by
  refine same_of (lowB_pos hq) (lowB_pos hq') ?_ (low_coprime hq) (low_coprime hq')
  have h1 := lowT_mul p q
  have h2 := lowB_mul p q
  have h3 := lowT_mul p' q'
  have h4 := lowB_mul p' q'
  have g1 := sg_ne (a := p) hq
  have g2 := sg_ne (a := p') hq'
  have e : (lowT p q * lowB p' q') * (sg p q * sg p' q') = (lowT p' q' * lowB p q) * (sg p q * sg p' q') := by
    have e1 : (lowT p q * lowB p' q') * (sg p q * sg p' q') = (lowT p q * sg p q) * (lowB p' q' * sg p' q') := by grind
    have e2 : (lowT p' q' * lowB p q) * (sg p q * sg p' q') = (lowT p' q' * sg p' q') * (lowB p q * sg p q) := by grind
    rw [e1, e2, h1, h2, h3, h4, h]
  exact Int.eq_of_mul_eq_mul_right (Int.mul_ne_zero g1 g2) e
theorem low_iff {p q p' q' : Int} (hq : q ≠ 0) (hq' : q' ≠ 0) : (lowT p q = lowT p' q' ∧ lowB p q = lowB p' q') ↔ p * q' = p' * q := by
  refine ⟨fun ⟨h1, h2⟩ => ?_, low_eq hq hq'⟩
  have e1 := lowT_mul p q
  have e2 := lowB_mul p q
  have e3 := lowT_mul p' q'
  have e4 := lowB_mul p' q'
  rw [h1] at e1
  rw [h2] at e2
  rw [← e1, ← e2]
  rw [show p' * (lowB p' q' * sg p q) = (p' * lowB p' q') * sg p q by grind]
  have e5 : lowT p' q' * q' = p' * lowB p' q' := by
    calc lowT p' q' * q' = lowT p' q' * (lowB p' q' * sg p' q') := by rw [e4]
      _ = (lowT p' q' * sg p' q') * lowB p' q' := by grind
      _ = p' * lowB p' q' := by rw [e3]
  rw [← e5]
  grind
/-- already in lowest terms -/
theorem low_self {t b : Int} (hb : 0 < b) (c : Nat.gcd t.natAbs b.natAbs = 1) : lowT t b = t ∧ lowB t b = b :=
  same_of (lowB_pos (by omega)) hb (by
    have h1 := lowT_mul t b
    have h2 := lowB_mul t b
    have g := sg_ne (a := t) (b := b) (by omega)
    have e : (lowT t b * b) * sg t b = (t * lowB t b) * sg t b := by
      calc (lowT t b * b) * sg t b = (lowT t b * sg t b) * b := by grind
        _ = t * b := by rw [h1]
        _ = t * (lowB t b * sg t b) := by rw [h2]
        _ = (t * lowB t b) * sg t b := by grind
    exact Int.eq_of_mul_eq_mul_right g e) (low_coprime (by omega)) c
/-- what is cross-multiplied by lowest terms -/
theorem low_cross {p q : Int} : lowT p q * q = p * lowB p q := by
  have h1 := lowT_mul p q
  have h2 := lowB_mul p q
  calc lowT p q * q = lowT p q * (lowB p q * sg p q) := by rw [h2]
    _ = (lowT p q * sg p q) * lowB p q := by grind
    _ = p * lowB p q := by rw [h1]
/-- order -/
theorem lt_mul_pos {x y k : Int} (hk : 0 < k) : x * k < y * k ↔ x < y := ⟨fun h => Int.lt_of_mul_lt_mul_right h (Int.le_of_lt hk), fun h => Int.mul_lt_mul_of_pos_right h hk⟩
theorem less_low {p q p' q' : Int} (hq : 0 < q) (hq' : 0 < q') : lowT p q * lowB p' q' < lowT p' q' * lowB p q ↔ p * q' < p' * q := by
  have b1 := lowB_pos (a := p) (b := q) (by omega)
  have b2 := lowB_pos (a := p') (b := q') (by omega)
  have c1 := low_cross (p := p) (q := q)
  have c2 := low_cross (p := p') (q := q')
  have hk : 0 < q * q' := Int.mul_pos hq hq'
  have hl : 0 < lowB p q * lowB p' q' := Int.mul_pos b1 b2
  rw [← lt_mul_pos hk, ← lt_mul_pos (x := p * q') hl]
  have e1 : lowT p q * lowB p' q' * (q * q') = p * q' * (lowB p q * lowB p' q') := by
    calc lowT p q * lowB p' q' * (q * q') = (lowT p q * q) * (lowB p' q' * q') := by grind
      _ = (p * lowB p q) * (lowB p' q' * q') := by rw [c1]
      _ = p * q' * (lowB p q * lowB p' q') := by grind
  have e2 : lowT p' q' * lowB p q * (q * q') = p' * q * (lowB p q * lowB p' q') := by
    calc lowT p' q' * lowB p q * (q * q') = (lowT p' q' * q') * (lowB p q * q) := by grind
      _ = (p' * lowB p' q') * (lowB p q * q) := by rw [c2]
      _ = p' * q * (lowB p q * lowB p' q') := by grind
  rw [e1, e2]
theorem lowT_neg {p q : Int} (hq : q ≠ 0) : lowT p q < 0 ↔ p * q < 0 := by
  have b := lowB_pos (a := p) hq
  have h1 := lowT_mul p q
  have h2 := lowB_mul p q
  have g := sg_ne (a := p) hq
  have hs : 0 < sg p q * sg p q := by
    rcases Int.lt_or_gt_of_ne g with h | h
    · exact Int.mul_pos_of_neg_of_neg h h
    · exact Int.mul_pos h h
  have e : p * q = lowT p q * (lowB p q * (sg p q * sg p q)) := by
    calc p * q = (lowT p q * sg p q) * (lowB p q * sg p q) := by rw [h1, h2]
      _ = _ := by grind
  have hk := Int.mul_pos b hs
  have := lt_mul_pos (x := lowT p q) (y := 0) hk
  rw [Int.zero_mul] at this
  rw [e]
  exact this.symm
theorem lowT_pos {p q : Int} (hq : q ≠ 0) : 0 < lowT p q ↔ 0 < p * q := by
  have b := lowB_pos (a := p) hq
  have h1 := lowT_mul p q
  have h2 := lowB_mul p q
  have g := sg_ne (a := p) hq
  have hs : 0 < sg p q * sg p q := by
    rcases Int.lt_or_gt_of_ne g with h | h
    · exact Int.mul_pos_of_neg_of_neg h h
    · exact Int.mul_pos h h
  have e : p * q = lowT p q * (lowB p q * (sg p q * sg p q)) := by
    calc p * q = (lowT p q * sg p q) * (lowB p q * sg p q) := by rw [h1, h2]
      _ = _ := by grind
  have hk := Int.mul_pos b hs
  have := lt_mul_pos (x := 0) (y := lowT p q) hk
  rw [Int.zero_mul] at this
  rw [e]
  exact this.symm

/-! what the law puts beside what the program tells -/
section
variable {a b c d : Int}
theorem val_plus (hb : b ≠ 0) (hd : d ≠ 0) : lowT (lowT a b * lowB c d + lowT c d * lowB a b) (lowB a b * lowB c d) = lowT (a * d + c * b) (b * d) ∧
    lowB (lowT a b * lowB c d + lowT c d * lowB a b) (lowB a b * lowB c d) = lowB (a * d + c * b) (b * d) := by
  have b1 := lowB_pos (a := a) hb
  have b2 := lowB_pos (a := c) hd
  have c1 := low_cross (p := a) (q := b)
  have c2 := low_cross (p := c) (q := d)
  refine low_eq (Int.mul_ne_zero (by omega) (by omega)) (Int.mul_ne_zero hb hd) ?_
  generalize lowT a b = x at *
  generalize lowB a b = y at *
  generalize lowT c d = z at *
  generalize lowB c d = w at *
  grind
theorem val_minus (hb : b ≠ 0) (hd : d ≠ 0) : lowT (lowT a b * lowB c d - lowT c d * lowB a b) (lowB a b * lowB c d) = lowT (a * d - c * b) (b * d) ∧
    lowB (lowT a b * lowB c d - lowT c d * lowB a b) (lowB a b * lowB c d) = lowB (a * d - c * b) (b * d) := by
  have b1 := lowB_pos (a := a) hb
  have b2 := lowB_pos (a := c) hd
  have c1 := low_cross (p := a) (q := b)
  have c2 := low_cross (p := c) (q := d)
  refine low_eq (Int.mul_ne_zero (by omega) (by omega)) (Int.mul_ne_zero hb hd) ?_
  generalize lowT a b = x at *
  generalize lowB a b = y at *
  generalize lowT c d = z at *
  generalize lowB c d = w at *
  grind
theorem val_times (hb : b ≠ 0) (hd : d ≠ 0) : lowT (lowT a b * lowT c d) (lowB a b * lowB c d) = lowT (a * c) (b * d) ∧
    lowB (lowT a b * lowT c d) (lowB a b * lowB c d) = lowB (a * c) (b * d) := by
  have b1 := lowB_pos (a := a) hb
  have b2 := lowB_pos (a := c) hd
  have c1 := low_cross (p := a) (q := b)
  have c2 := low_cross (p := c) (q := d)
  refine low_eq (Int.mul_ne_zero (by omega) (by omega)) (Int.mul_ne_zero hb hd) ?_
  generalize lowT a b = x at *
  generalize lowB a b = y at *
  generalize lowT c d = z at *
  generalize lowB c d = w at *
  grind
theorem lowT_zero (hd : d ≠ 0) : lowT c d = 0 ↔ c = 0 := by
  have h := lowT_mul c d
  have g := sg_ne (a := c) hd
  constructor
  · intro e
    rw [e, Int.zero_mul] at h
    exact h.symm
  · intro e
    rw [e] at h ⊢
    rw [e] at g
    rcases Int.mul_eq_zero.mp h with z | z
    · exact z
    · exact absurd z g
theorem val_over (hb : b ≠ 0) (hd : d ≠ 0) (hc : c ≠ 0) : lowT (lowT a b * lowB c d) (lowB a b * lowT c d) = lowT (a * d) (b * c) ∧
    lowB (lowT a b * lowB c d) (lowB a b * lowT c d) = lowB (a * d) (b * c) := by
  have b1 := lowB_pos (a := a) hb
  have t2 : lowT c d ≠ 0 := fun e => hc ((lowT_zero hd).mp e)
  have c1 := low_cross (p := a) (q := b)
  have c2 := low_cross (p := c) (q := d)
  refine low_eq (Int.mul_ne_zero (by omega) t2) (Int.mul_ne_zero hb hc) ?_
  generalize lowT a b = x at *
  generalize lowB a b = y at *
  generalize lowT c d = z at *
  generalize lowB c d = w at *
  grind
theorem num_less (hb : b ≠ 0) (hd : d ≠ 0) : ((a * d - c * b) * (b * d) < 0 ↔ lowT a b * lowB c d < lowT c d * lowB a b) ∧ (0 < (a * d - c * b) * (b * d) ↔ lowT c d * lowB a b < lowT a b * lowB c d) := by
  have h := val_minus (a := a) (c := c) hb hd
  have b1 := lowB_pos (a := a) hb
  have b2 := lowB_pos (a := c) hd
  have hk : 0 < lowB a b * lowB c d := Int.mul_pos b1 b2
  have k1 := lowT_neg (p := a * d - c * b) (q := b * d) (Int.mul_ne_zero hb hd)
  have k2 := lowT_pos (p := a * d - c * b) (q := b * d) (Int.mul_ne_zero hb hd)
  have k3 := lowT_neg (p := lowT a b * lowB c d - lowT c d * lowB a b) (q := lowB a b * lowB c d) (by omega)
  have k4 := lowT_pos (p := lowT a b * lowB c d - lowT c d * lowB a b) (q := lowB a b * lowB c d) (by omega)
  have m1 := lt_mul_pos (x := lowT a b * lowB c d - lowT c d * lowB a b) (y := 0) hk
  have m2 := lt_mul_pos (x := 0) (y := lowT a b * lowB c d - lowT c d * lowB a b) hk
  rw [Int.zero_mul] at m1 m2
  rw [← k1, ← k2, ← h.1, k3, k4, m1, m2]
  omega
theorem val_less (hb : b ≠ 0) (hd : d ≠ 0) : (lowT (a * d - c * b) (b * d) < 0 ↔ lowT a b * lowB c d < lowT c d * lowB a b) ∧ (0 < lowT (a * d - c * b) (b * d) ↔ lowT c d * lowB a b < lowT a b * lowB c d) := by
  have k1 := lowT_neg (p := a * d - c * b) (q := b * d) (Int.mul_ne_zero hb hd)
  have k2 := lowT_pos (p := a * d - c * b) (q := b * d) (Int.mul_ne_zero hb hd)
  have := num_less (a := a) (c := c) hb hd
  rw [k1, k2]
  exact this
end
section
variable {t1 b1 t2 b2 t3 b3 : Int}
theorem ord_plus (h1 : 0 < b1) (h2 : 0 < b2) (h3 : 0 < b3) :
    lowT (t1 * b3 + t3 * b1) (b1 * b3) * lowB (t2 * b3 + t3 * b2) (b2 * b3) < lowT (t2 * b3 + t3 * b2) (b2 * b3) * lowB (t1 * b3 + t3 * b1) (b1 * b3) ↔ t1 * b2 < t2 * b1 := by
  rw [less_low (Int.mul_pos h1 h3) (Int.mul_pos h2 h3)]
  have hk : 0 < b3 * b3 := Int.mul_pos h3 h3
  rw [← lt_mul_pos (x := t1 * b2) hk]
  have e : (t1 * b3 + t3 * b1) * (b2 * b3) - t1 * b2 * (b3 * b3) = (t2 * b3 + t3 * b2) * (b1 * b3) - t2 * b1 * (b3 * b3) := by grind
  omega
theorem ord_times (h1 : 0 < b1) (h2 : 0 < b2) (h3 : 0 < b3) (ht : 0 < t3) :
    lowT (t1 * t3) (b1 * b3) * lowB (t2 * t3) (b2 * b3) < lowT (t2 * t3) (b2 * b3) * lowB (t1 * t3) (b1 * b3) ↔ t1 * b2 < t2 * b1 := by
  rw [less_low (Int.mul_pos h1 h3) (Int.mul_pos h2 h3)]
  have hk : 0 < t3 * b3 := Int.mul_pos ht h3
  rw [← lt_mul_pos (x := t1 * b2) hk]
  have e1 : t1 * t3 * (b2 * b3) = t1 * b2 * (t3 * b3) := by grind
  have e2 : t2 * t3 * (b1 * b3) = t2 * b1 * (t3 * b3) := by grind
  rw [e1, e2]
theorem ord_turned (h1 : 0 < b1) (h2 : 0 < b2) (h3 : 0 < b3) (ht : t3 < 0) :
    lowT (t2 * t3) (b2 * b3) * lowB (t1 * t3) (b1 * b3) < lowT (t1 * t3) (b1 * b3) * lowB (t2 * t3) (b2 * b3) ↔ t1 * b2 < t2 * b1 := by
  rw [less_low (Int.mul_pos h2 h3) (Int.mul_pos h1 h3)]
  have hk : 0 < (-t3) * b3 := Int.mul_pos (by omega) h3
  rw [← lt_mul_pos (x := t1 * b2) hk]
  have e1 : t2 * t3 * (b1 * b3) = -(t2 * b1 * (-t3 * b3)) := by grind
  have e2 : t1 * t3 * (b2 * b3) = -(t1 * b2 * (-t3 * b3)) := by grind
  rw [e1, e2]
  omega
theorem ord_none (h1 : 0 < b1) (h2 : 0 < b2) (h3 : 0 < b3) (ht : t3 = 0) : lowT (t1 * t3) (b1 * b3) = lowT (t2 * t3) (b2 * b3) ∧ lowB (t1 * t3) (b1 * b3) = lowB (t2 * t3) (b2 * b3) := by
  subst ht
  refine low_eq ?_ ?_ (by simp)
  · have := Int.mul_pos h1 h3
    omega
  · have := Int.mul_pos h2 h3
    omega
end
theorem lowT_one (a : Int) : lowT a 1 = a := by
  have h := lowT_mul a 1
  have e : sg a 1 = 1 := by unfold sg; simp
  rw [e] at h
  omega
theorem lowB_one (a : Int) : lowB a 1 = 1 := by
  have h := lowB_mul a 1
  have e : sg a 1 = 1 := by unfold sg; simp
  rw [e] at h
  omega
/-! sizes -/
theorem lowT_le {a b : Int} (hb : b ≠ 0) : (lowT a b).natAbs ≤ a.natAbs := by
  have h : (lowT a b).natAbs * (sg a b).natAbs = a.natAbs := by rw [← Int.natAbs_mul, lowT_mul]
  have g : 0 < (sg a b).natAbs := by have := sg_ne (a := a) hb; omega
  exact Nat.le_trans (Nat.le_mul_of_pos_right _ g) (Nat.le_of_eq h)
theorem lowB_le {a b : Int} (hb : b ≠ 0) : (lowB a b).natAbs ≤ b.natAbs := by
  have h : (lowB a b).natAbs * (sg a b).natAbs = b.natAbs := by rw [← Int.natAbs_mul, lowB_mul]
  have g : 0 < (sg a b).natAbs := by have := sg_ne (a := a) hb; omega
  exact Nat.le_trans (Nat.le_mul_of_pos_right _ g) (Nat.le_of_eq h)
theorem sg_le {a b : Int} (hb : b ≠ 0) : (sg a b).natAbs ≤ b.natAbs := by
  rw [sg_abs]
  exact Nat.le_of_dvd (by omega) (Nat.gcd_dvd_right _ _)
end K11
namespace K11
open PySem PySem.Spec PyProof.Rows L2
abbrev sWhole : Stmt := d_is_whole
abbrev sInit : Stmt := d_Share_init
abbrev sEq : Stmt := d_Share_eq
/-! ### a share on the heap -/
theorem tb_ : ¬ (("top" : Str) = "bottom") := by decide +kernel
theorem bt_ : ¬ (("bottom" : Str) = "top") := by decide +kernel
def shf (t b : Int) : List (Str × V) := putF "bottom" (.int b) (putF "top" (.int t) [])
theorem shf_top (t b : Int) : (shf t b).lookup ("top" : Str) = some (.int t) := by
  unfold shf
  rw [lookup_putF, if_neg tb_, lookup_putF, if_pos rfl]
theorem shf_bottom (t b : Int) : (shf t b).lookup ("bottom" : Str) = some (.int b) := by
  unfold shf
  rw [lookup_putF, if_pos rfl]
/-- a share t over b stands at p -/
def ShAt (C : Addr) (H : Hp) (p : Addr) (t b : Int) : Prop := ∃ dx, H p = some (.ins C dx (shf t b))
theorem ShAt.mono {C : Addr} {H H' : Hp} {p : Addr} {t b : Int} (h : ShAt C H p t b) (s : Same H H') : ShAt C H' p t b := by
  obtain ⟨dx, e⟩ := h
  exact ⟨dx, s _ _ e⟩
/-- what the top says of the program's own names -/
structure Txt (K : PySem.W.Frag) (mg : Str → Option Value) (C CN : Addr) : Prop where
  cl : Cls K C
  nT : NoAttr K C "top"
  nB : NoAttr K C "bottom"
  mgC : mg "Share" = some (.ref C)
  gcd : mg "gcd" = some (.builtin "math.gcd")
  isi : mg "isinstance" = none
  int : mg "int" = none
  bool : mg "bool" = none
  gN : mg "NoShare" = some (.ref CN)
  xN : PySem.W.excIn K CN [.type "ValueError", .type "Exception", .type "BaseException", .type "object"] "ValueError.__new__" = true
  kN : PySem.W.keepIn K (.ref CN) = true
  bN : PySem.W.subIn K (.ref CN) (.type "BaseException") = some true
  tN : PySem.W.typeIn K (.ref CN) = some (.type "type")
  eN : PySem.W.exmOne K (.ref CN) (.ref CN) = some true
/-! ### // by a divisor of either sign -/
def CDivX (_ j : Int) : Prop := j ≠ 0 ∧ j.natAbs.log2 < 9000
section
variable {X : Cx}
theorem op_fdivX : OpR X (binaryOp .FloorDiv) (rI CDivX fun i j => .int (i.fdiv j)) := opI fun i j _ _ _ _ _ hc q => floordiv_int hc.1 q (.inl (PyProof.noPylong_of_log2 hc.2))
end
theorem big_div {i j : Int} {b : Nat} (h : j ≠ 0) (hb : j.natAbs < 2 ^ b) (h0 : 0 < b) (h9 : b ≤ 9000) : CDivX i j := ⟨h, Nat.lt_of_lt_of_le (PySem.Flt.log2_lt_of h0 hb) h9⟩
theorem add_lt {i j : Int} {a : Nat} (hi : i.natAbs < 2 ^ a) (hj : j.natAbs < 2 ^ a) : (i + j).natAbs < 2 ^ (a + 1) := by
  have e : 2 ^ (a + 1) = 2 ^ a * 2 := Nat.pow_succ ..
  omega
theorem sub_lt {i j : Int} {a : Nat} (hi : i.natAbs < 2 ^ a) (hj : j.natAbs < 2 ^ a) : (i - j).natAbs < 2 ^ (a + 1) := by
  have e : 2 ^ (a + 1) = 2 ^ a * 2 := Nat.pow_succ ..
  omega
theorem pow_le {i : Int} {a b : Nat} (h : i.natAbs < 2 ^ a) (hab : a ≤ b) : i.natAbs < 2 ^ b := Nat.lt_of_lt_of_le h (Nat.pow_le_pow_right (by omega) hab)
/-! ### promises -/
def spWhole : Sp := fun vs H Q _ => ∃ i : Int, vs = [.int i] ∧ Q (.bl true) H
def spInit (C CN : Addr) : Sp := fun vs H Q E => ∃ (p dx : Addr) (t b : Int), vs = [.ref p, .int t, .int b] ∧ H p = some (.ins C dx []) ∧ t.natAbs < 2 ^ 4000 ∧ b.natAbs < 2 ^ 4000 ∧
  (b = 0 → E (.ref CN) none H) ∧ (b ≠ 0 → ∀ H' : Hp, H' p = some (.ins C dx (shf (lowT t b) (lowB t b))) → (∀ a, a ≠ p → H' a = H a) → Q .non H')
section
variable {P : Program} {w : World} {K : PySem.W.Frag} {mg : Str → Option Value} {base : Heap}
theorem scWhole : FnScope ["thing"] ["thing"] (defScope sWhole) := ⟨rfl, rfl, rfl, by decide +kernel, rfl, by decide +kernel, by decide +kernel⟩
theorem ok_whole {f C CN : Addr} {fd : FuncData} (F : Fun K "is_whole" "is_whole" sWhole f fd) (T : Txt K mg C CN) : FnOk P w K mg base CX0 1 f fd ["thing"] spWhole := by
  refine F.ok scWhole (fun vs H Q E h => ?_) (fun cdv A outer s H vs Q E hr h => ?_)
  · obtain ⟨i, rfl, _⟩ := h
    rfl
  · obtain ⟨i, rfl, k⟩ := h
    refine ⟨_, pss_one (ps_ret (pe_and (pe_callB call_isi (by rfl) T.isi (by decide +kernel) (pa_cons (pv 0) (pa_cons (pe_bltn (v := .ty "int") (by rfl) T.int (by decide +kernel) rfl) pa_nil)))
      (pe_one (pe_not (pe_callB call_isi (by rfl) T.isi (by decide +kernel) (pa_cons (pv 0) (pa_cons (pe_bltn (v := .ty "bool") (by rfl) T.bool (by decide +kernel) rfl) pa_nil))))))), ?_⟩
    refine ⟨_, rfl, _, _, _, _, true, rfl, ClsV.ty _, TyX.base (TyOf.int _), kit_ty (by decide +kernel), true, rfl, iteT ?_⟩
    exact ⟨_, rfl, _, _, _, _, false, rfl, ClsV.ty _, TyX.base (TyOf.int _), kit_ty (by decide +kernel), false, rfl, k⟩

theorem scInit : FnScope ["self", "top", "bottom", "common"] ["self", "top", "bottom"] (defScope sInit) := ⟨rfl, rfl, rfl, by decide +kernel, rfl, by decide +kernel, by decide +kernel⟩
theorem ok_init {f fW C CN : Addr} {fd fdW : FuncData} (F : FunD K "__init__" "Share.__init__" (defArgs sInit) (defBody sInit) (defScope sInit) [.int 1] [] f fd) (T : Txt K mg C CN)
    (GW : FnOk P w K mg base CX0 1 fW fdW ["thing"] spWhole) (mW : mg "is_whole" = some (.ref fW)) (kW : PySem.W.keepIn K (.ref fW) = true) (bW : Binds K fdW ["thing"] []) :
    FnOk P w K mg base (L2.CX P w) 2 f fd ["self", "top", "bottom"] (spInit C CN) := by
  refine FunD.ok (N := ["self", "top", "bottom", "common"]) F scInit (fun vs H Q E h => ?_) (fun cdv A outer s H vs Q E hr h => ?_)
  · obtain ⟨p, dx, t, b, rfl, _⟩ := h
    rfl
  · obtain ⟨p, dx, t, b, rfl, hp, st, sb, ke, kq⟩ := h
    refine ⟨_, pss_cons (ps_if (PW.pt (pw_or (pt_not (pt_val (pe_call GW hr rfl mW kW bW .nil pass0 (pa_cons (pv 1) pa_nil)))) (pw_or (pt_not (pt_val (pe_call GW hr rfl mW kW bW .nil pass0 (pa_cons (pv 2) pa_nil)))) (pw_or1 (pt_cmpR op_eq (pv 2) pe_int (nomark _))))))
        (pss_one (ps_raise rfl (takes_of rfl rfl rfl rfl) (pmk_own PySem.F.excBase_ValueError T.xN T.gN T.kN (raises_own T.bN T.tN) (by exact rfl)))) pss_nil)
      (pss_cons (ps_set (i := 3) scInit.nd rfl (Or.inl rfl) (pe_callBfun cr_gcd rfl T.gcd (pa_cons (pv 1) (pa_cons (pv 2) pa_nil))))
      (pss_cons (ps_if (pt_cmpR op_lt (pv 2) pe_int (nomark _)) (pss_one (ps_set (i := 3) scInit.nd rfl (Or.inl rfl) (pe_un un_neg (pv 3)))) pss_nil)
      (pss_cons (ps_fld (pv 0) (pe_op op_fdivX (pv 1) (pv 3)) rfl)
      (pss_one (ps_fld (pv 0) (pe_op op_fdivX (pv 2) (pv 3)) rfl))))), ?_⟩
    refine ⟨_, rfl, t, rfl, true, rfl, iteF ?_⟩
    refine ⟨_, rfl, b, rfl, true, rfl, iteF ?_⟩
    refine ⟨_, rfl, rfl, _, rfl, ?_⟩
    refine ite2 (fun h0 => ?_) (fun h0 => ?_)
    · exact ke (by simpa using h0)
    · have hb : b ≠ 0 := fun e => h0 (by rw [e]; exact decide_eq_true rfl)
      have gs : (sg t b).natAbs < 2 ^ 4000 := Nat.lt_of_le_of_lt (sg_le hb) sb
      refine ⟨_, rfl, _, rfl, t, b, rfl, ?_⟩
      refine ⟨_, rfl, _, _, rfl, rfl, _, rfl, ?_⟩
      refine ite2 (fun hn => ?_) (fun hn => ?_)
      · have hn : b < 0 := of_decide_eq_true hn
        have e : -((Nat.gcd t.natAbs b.natAbs : Nat) : Int) = sg t b := by unfold sg; rw [if_pos hn]
        have g0 : -((Nat.gcd t.natAbs b.natAbs : Nat) : Int) ≠ 0 := by rw [e]; exact sg_ne hb
        have gd : ∀ i : Int, CDivX i (-((Nat.gcd t.natAbs b.natAbs : Nat) : Int)) := fun i => big_div (b := 4000) g0 (by rw [e]; exact gs) (by decide) (by decide)
        refine ⟨_, rfl, _, rfl, ?_⟩
        refine ⟨_, rfl, _, rfl, _, _, rfl, rfl, gd _, _, rfl, p, C, dx, _, rfl, hp, T.cl, T.nT, (by show 0 < 1000; decide), ?_⟩
        refine ⟨_, rfl, _, rfl, _, _, rfl, rfl, gd _, _, rfl, p, C, dx, _, rfl, upd_same, T.cl, T.nB, (by show 1 < 1000; decide), ?_⟩
        refine kq hb _ (Eq.trans upd_same ?_) (fun a ha => by rw [upd_ne ha, upd_ne ha])
        rw [e]
        rfl
      · have hn : ¬ b < 0 := fun q => hn (decide_eq_true q)
        have e : ((Nat.gcd t.natAbs b.natAbs : Nat) : Int) = sg t b := by unfold sg; rw [if_neg hn]
        have g0 : ((Nat.gcd t.natAbs b.natAbs : Nat) : Int) ≠ 0 := by rw [e]; exact sg_ne hb
        have gd : ∀ i : Int, CDivX i ((Nat.gcd t.natAbs b.natAbs : Nat) : Int) := fun i => big_div (b := 4000) g0 (by rw [e]; exact gs) (by decide) (by decide)
        refine ⟨_, rfl, _, rfl, _, _, rfl, rfl, gd _, _, rfl, p, C, dx, _, rfl, hp, T.cl, T.nT, (by show 0 < 1000; decide), ?_⟩
        refine ⟨_, rfl, _, rfl, _, _, rfl, rfl, gd _, _, rfl, p, C, dx, _, rfl, upd_same, T.cl, T.nB, (by show 1 < 1000; decide), ?_⟩
        refine kq hb _ (Eq.trans upd_same ?_) (fun a ha => by rw [upd_ne ha, upd_ne ha])
        rw [e]
        rfl

/-- what is made stands beside what stood -/
theorem made_same {H H' : Hp} {x dx C : Addr} {o : HO} (nx : H x = none) (nd : H dx = none) (k : ∀ a, a ≠ x → H' a = (upd (upd H dx (.own x)) x o) a) : Same H H' := fun a u e => by
  have a1 : a ≠ x := fun z => by rw [z, nx] at e; cases e
  have a2 : a ≠ dx := fun z => by rw [z, nd] at e; cases e
  rw [k a a1, upd_ne a1, upd_ne a2]
  exact e
end
end K11

namespace K11
open PySem PySem.Spec PyProof.Rows L2
/-! ### two lists side by side -/
structure All2 {α β : Type} (R : α → β → Prop) (as : List α) (bs : List β) : Prop where
  len : as.length = bs.length
  all : ∀ (i : Nat) (a : α) (b : β), as[i]? = some a → bs[i]? = some b → R a b
theorem All2.nil {α β : Type} {R : α → β → Prop} : All2 R [] [] := ⟨rfl, fun i a b h _ => by simp at h⟩
theorem All2.mono {α β : Type} {R S : α → β → Prop} {as : List α} {bs : List β} (h : All2 R as bs) (f : ∀ a b, a ∈ as → b ∈ bs → R a b → S a b) : All2 S as bs :=
  ⟨h.len, fun i a b ha hb => f a b (List.mem_of_getElem? ha) (List.mem_of_getElem? hb) (h.all i a b ha hb)⟩
theorem All2.snoc {α β : Type} {R : α → β → Prop} {as : List α} {bs : List β} {a : α} {b : β} (h : All2 R as bs) (r : R a b) : All2 R (as ++ [a]) (bs ++ [b]) := by
  refine ⟨by rw [List.length_append, List.length_append, h.len]; rfl, fun i x y hx hy => ?_⟩
  by_cases c : i < as.length
  · rw [List.getElem?_append_left c] at hx
    rw [List.getElem?_append_left (by rw [← h.len]; exact c)] at hy
    exact h.all i x y hx hy
  · rw [List.getElem?_append_right (by omega)] at hx
    rw [List.getElem?_append_right (by rw [← h.len]; omega)] at hy
    have c0 : i - as.length = 0 := by
      have := (List.getElem?_eq_some_iff.mp hx).1
      simp at this
      omega
    rw [← h.len, c0] at hy
    rw [c0] at hx
    have e1 : a = x := by simpa using hx
    have e2 : b = y := by simpa using hy
    subst e1 e2
    exact r
theorem All2.one {α β : Type} {R : α → β → Prop} {a : α} {b : β} (r : R a b) : All2 R [a] [b] := All2.nil.snoc r
theorem All2.two {α β : Type} {R : α → β → Prop} {a a' : α} {b b' : β} (r : R a b) (r' : R a' b') : All2 R [a, a'] [b, b'] := (All2.one r).snoc r'
theorem All2.take {α β : Type} {R : α → β → Prop} {as : List α} {bs : List β} (h : All2 R as bs) (n : Nat) : All2 R (as.take n) (bs.take n) :=
  ⟨by rw [List.length_take, List.length_take, h.len], fun i a b ha hb => by
    rw [List.getElem?_take] at ha hb
    split at ha
    · rename_i c
      rw [if_pos c] at hb
      exact h.all i a b ha hb
    · cases ha⟩
theorem All2.rev {α β : Type} {R : α → β → Prop} {as : List α} {bs : List β} (h : All2 R as bs) : All2 R as.reverse bs.reverse :=
  ⟨by rw [List.length_reverse, List.length_reverse, h.len], fun i a b ha hb => by
    have hi : i < as.length := by
      have := (List.getElem?_eq_some_iff.mp ha).1
      simpa using this
    rw [List.getElem?_reverse hi] at ha
    rw [List.getElem?_reverse (by rw [← h.len]; exact hi), ← h.len] at hb
    exact h.all _ a b ha hb⟩
theorem same1 {H : Hp} {p : Addr} {o : HO} (h : H p = none) : Same H (upd H p o) := fun b u e => by rw [upd_ne (ne_of_none e h)]; exact e
theorem Same.tup {K : PySem.W.Frag} {H H' : Hp} {a : Addr} {xs : List V} (e : Same H H') (h : SqT K H a xs) : SqT K H' a xs := SqT.ext h e
theorem at_k {xs : List V} {k : Int} {v : V} (h0 : 0 ≤ k) (h : xs[k.toNat]? = some v) : atI xs k = some v := by
  have e := atI_nat h
  rw [Int.toNat_of_nonneg h0] at e
  exact e
/-- a def at hand: its promise, its name, how it is called -/
structure At (P : Program) (w : World) (K : PySem.W.Frag) (mg : Str → Option Value) (base : Heap) (CX : CXT) (k : Nat) (x : Str) (ps : List Str) (sp : Sp) (f : Addr) (fd : FuncData) : Prop where
  G : FnOk P w K mg base CX k f fd ps sp
  m : mg x = some (.ref f)
  k : PySem.W.keepIn K (.ref f) = true
  b : Binds K fd ps []
end K11

namespace K11
open PySem PySem.Spec PyProof.Rows L2
/-! ### the law's draws: any digit -/
/-- the builtins that the law asks by name -/
structure TxtB (mg : Str → Option Value) : Prop where
  int : mg "int" = none
  len : mg "len" = none
  abs : mg "abs" = none
/-- all but p stays -/
def But (p : Addr) (H H' : Hp) : Prop := ∀ b o, b ≠ p → H b = some o → H' b = some o
/-- a well that may be drawn from z times so far -/
def WellAt (H : Hp) (p : Addr) (z : Int) : Prop := ∃ x y : Int, H p = some (.lst [.int x, .int y, .int z]) ∧ 0 ≤ y ∧ y < 2 ^ 31
def spWell : Sp := fun vs H Q _ => ∃ c : Int, vs = [.int c] ∧ ∀ (p : Addr) (x y : Int), H p = none → 0 ≤ y → y < 2 ^ 31 → Q (.ref p) (upd H p (.lst [.int x, .int y, .int 0]))
def spDraw : Sp := fun vs H Q _ => ∃ (p : Addr) (m z : Int), vs = [.ref p, .int m] ∧ WellAt H p z ∧ 0 < m ∧ m < 2 ^ 62 ∧ 0 ≤ z ∧ z < 2 ^ 30 ∧
  ∀ (H' : Hp) (d z' : Int), But p H H' → WellAt H' p z' → 0 ≤ z' → z' ≤ z + 1 → 0 ≤ d → d < m → Q (.int d) H'
def spOne (K : PySem.W.Frag) : Sp := fun vs H Q _ => ∃ (p l : Addr) (xs : List V) (z : Int), vs = [.ref p, .ref l] ∧ WellAt H p z ∧ 0 ≤ z ∧ z < 2 ^ 30 ∧ H l = some (.lst xs) ∧ l ≠ p ∧ 0 < xs.length ∧ xs.length < 1000 ∧
  ∀ (H' : Hp) (z' : Int) (x : V), But p H H' → WellAt H' p z' → 0 ≤ z' → z' ≤ z + 1 → x ∈ xs → Q x H'
theorem prime_of {z : Int} : ∃ v : Int, atI [V.int 2147483647, V.int 2147483629, V.int 2147483587, V.int 2147483579, V.int 2147483563, V.int 2147483549, V.int 2147483543] (z % 7) = some (V.int v) ∧ 0 < v ∧ v < 2 ^ 31 := by
  have h : z % 7 = 0 ∨ z % 7 = 1 ∨ z % 7 = 2 ∨ z % 7 = 3 ∨ z % 7 = 4 ∨ z % 7 = 5 ∨ z % 7 = 6 := by omega
  rcases h with h | h | h | h | h | h | h <;> rw [h]
  · exact ⟨_, at_k (by decide) rfl, by decide, by decide⟩
  · exact ⟨_, at_k (by decide) rfl, by decide, by decide⟩
  · exact ⟨_, at_k (by decide) rfl, by decide, by decide⟩
  · exact ⟨_, at_k (by decide) rfl, by decide, by decide⟩
  · exact ⟨_, at_k (by decide) rfl, by decide, by decide⟩
  · exact ⟨_, at_k (by decide) rfl, by decide, by decide⟩
  · exact ⟨_, at_k (by decide) rfl, by decide, by decide⟩
section
variable {P : Program} {w : World} {K : PySem.W.Frag} {mg : Str → Option Value} {base : Heap}
theorem scWell : FnScope ["cell"] ["cell"] (defScope d_law_well) := ⟨rfl, rfl, rfl, by decide +kernel, rfl, by decide +kernel, by decide +kernel⟩
theorem ok_well {f : Addr} {fd : FuncData} (F : Fun K "_law_well" "_law_well" d_law_well f fd) (B : TxtB mg) : FnOk P w K mg base CX0 1 f fd ["cell"] spWell := by
  refine F.ok scWell (fun vs H Q E h => ?_) (fun cdv A outer s H vs Q E hr h => ?_)
  · obtain ⟨c, rfl, _⟩ := h
    rfl
  · obtain ⟨c, rfl, kq⟩ := h
    refine ⟨_, pss_one (ps_ret (pe_lst (pa_cons (pe_op op_mul (pv 0) (pe_callTy call_int1 (by rfl) B.int (by decide +kernel) (pa_cons (pe_cmpR op_ge (pv 0) (pe_op op_pow pe_int pe_int) (nomark _)) pa_nil)))
      (pa_cons (pe_op op_mod (pv 0) pe_int) (pa_cons pe_int pa_nil))))), ?_⟩
    refine ⟨_, rfl, _, rfl, _, _, rfl, rfl, ⟨by decide, by decide, by decide⟩, _, _, rfl, rfl, .inr ⟨_, rfl, ?_⟩⟩
    refine ⟨_, _, rfl, rfl, .inr (by split <;> decide), _, rfl, _, _, rfl, rfl, (by show (0 : Int) < 2147483647; decide), (by show 3 ≤ sizeLine; decide), fun p hp => ?_⟩
    exact kq p _ _ hp (Int.emod_nonneg _ (by decide)) (Int.lt_of_lt_of_le (Int.emod_lt_of_pos _ (by decide)) (by decide))
theorem scDraw : FnScope ["well", "many", "digit", "prime", "number"] ["well", "many"] (defScope d_law_draw) := ⟨rfl, rfl, rfl, by decide +kernel, rfl, by decide +kernel, by decide +kernel⟩
theorem ok_draw {f : Addr} {fd : FuncData} (F : Fun K "_law_draw" "_law_draw" d_law_draw f fd) : FnOk P w K mg base CX0 1 f fd ["well", "many"] spDraw := by
  refine F.ok scDraw (fun vs H Q E h => ?_) (fun cdv A outer s H vs Q E hr h => ?_)
  · obtain ⟨p, m, z, rfl, _⟩ := h
    rfl
  · obtain ⟨p, m, z, rfl, ⟨x, y, hp, y0, y1⟩, m0, m1, z0, z1, kq⟩ := h
    refine ⟨_, pss_cons (ps_if (pt_cmpR op_gt (pe_ix ix_list (pv 0) pe_int (fun _ _ => rfl)) pe_int (nomark _))
        (pss_cons (ps_set (i := 2) scDraw.nd rfl (Or.inl rfl) (pe_op op_mod (pe_ix ix_list (pv 0) pe_int (fun _ _ => rfl)) (pv 1)))
        (pss_cons (ps_asg (pe_op op_fdivW (pe_ix ix_list (pv 0) pe_int (fun _ _ => rfl)) (pv 1)) (pg_sub (pv 0) pe_int set_list))
        (pss_one (ps_ret (pv 2))))) pss_nil)
      (pss_cons (ps_asg (pe_op op_add (pe_ix ix_list (pv 0) pe_int (fun _ _ => rfl)) pe_int) (pg_sub (pv 0) pe_int set_list))
      (pss_cons (ps_set (i := 3) scDraw.nd rfl (Or.inl rfl) (pe_ix ix_list (pe_lst (pa_cons pe_int (pa_cons pe_int (pa_cons pe_int (pa_cons pe_int (pa_cons pe_int (pa_cons pe_int (pa_cons pe_int pa_nil)))))))) (pe_op op_mod (pe_ix ix_list (pv 0) pe_int (fun _ _ => rfl)) pe_int) (fun _ _ => rfl)))
      (pss_cons (ps_set (i := 4) scDraw.nd rfl (Or.inl rfl) (pe_op op_mod (pe_op op_pow (pe_op op_add (pe_op op_add (pe_ix ix_list (pv 0) pe_int (fun _ _ => rfl)) (pe_op op_mul pe_int (pe_ix ix_list (pv 0) pe_int (fun _ _ => rfl)))) pe_int) pe_int) (pv 3)))
      (pss_cons (ps_set (i := 4) scDraw.nd rfl (Or.inl rfl) (pe_op op_mod (pe_op op_mul (pe_op op_add (pv 4) (pe_ix ix_list (pv 0) pe_int (fun _ _ => rfl))) (pe_op op_add (pe_op op_fdiv (pv 4) pe_int) pe_int)) (pv 3)))
      (pss_one (ps_ret (pe_op op_mod (pe_op op_fdiv (pv 4) pe_int) (pv 1)))))))), ?_⟩
    refine ⟨_, rfl, p, _, _, _, rfl, rfl, SqL.of hp, at_k (by decide) rfl, _, _, rfl, rfl, _, rfl, ?_⟩
    refine ite2 (fun h => ?_) (fun h => ?_)
    · refine ⟨_, rfl, p, _, _, _, rfl, rfl, SqL.of hp, at_k (by decide) rfl, _, rfl, _, _, rfl, rfl, m0, ?_⟩
      refine ⟨_, rfl, p, _, _, _, rfl, rfl, SqL.of hp, at_k (by decide) rfl, _, rfl, _, _, rfl, rfl, wide_div (b := 62) m0 (by omega) (by decide) (by decide), ?_⟩
      refine ⟨_, rfl, p, _, _, 0, rfl, rfl, hp, rfl, ?_⟩
      exact ⟨_, rfl, kq _ _ _ (fun b o hb e => by rw [upd_ne hb]; exact e) ⟨_, _, upd_same, y0, y1⟩ z0 (by omega) (Int.emod_nonneg _ (by omega)) (Int.emod_lt_of_pos _ m0)⟩
    · refine ⟨_, rfl, p, _, _, _, rfl, rfl, SqL.of hp, at_k (by decide) rfl, _, _, rfl, rfl, ?_⟩
      refine ⟨_, rfl, p, _, _, 2, rfl, rfl, hp, rfl, ?_⟩
      obtain ⟨v, hv, v0, v1⟩ := prime_of (z := z + 1)
      refine ⟨(by show 7 ≤ sizeLine; decide), fun q hq => ?_⟩
      have hqp : p ≠ q := fun e => by rw [← e, upd_same] at hq; cases hq
      have hw : upd (upd H p (.lst [.int x, .int y, .int (z + 1)])) q (.lst [V.int 2147483647, V.int 2147483629, V.int 2147483587, V.int 2147483579, V.int 2147483563, V.int 2147483549, V.int 2147483543]) p = some (.lst [.int x, .int y, .int (z + 1)]) := by rw [upd_ne hqp, upd_same]
      refine ⟨_, rfl, p, _, _, _, rfl, rfl, SqL.of hw, at_k (by decide) rfl, _, _, rfl, rfl, (by show (0 : Int) < 7; decide), ?_⟩
      refine ⟨q, _, _, _, rfl, rfl, SqL.of upd_same, hv, ?_⟩
      refine ⟨_, rfl, p, _, _, _, rfl, rfl, SqL.of hw, at_k (by decide) rfl, _, rfl, p, _, _, _, rfl, rfl, SqL.of hw, at_k (by decide) rfl, _, _, rfl, rfl, .inl ⟨by decide, by decide⟩, _, _, rfl, rfl, _, _, rfl, rfl, _, _, rfl, rfl,
        ⟨by decide, by decide, by omega⟩, _, rfl, _, _, rfl, rfl, v0, ?_⟩
      have n0 := Int.emod_nonneg ((y + 7919 * (z + 1) + 1) ^ (5 : Int).toNat) (show v ≠ 0 by omega)
      have n1 := Int.emod_lt_of_pos ((y + 7919 * (z + 1) + 1) ^ (5 : Int).toNat) v0
      refine ⟨_, rfl, _, rfl, p, _, _, _, rfl, rfl, SqL.of hw, at_k (by decide) rfl, _, _, rfl, rfl, _, rfl, _, _, rfl, rfl, ⟨by decide, by decide⟩, _, _, rfl, rfl, _, _, rfl, rfl, .inl ⟨by omega, by omega⟩, _, rfl, _, _, rfl, rfl, v0, ?_⟩
      refine ⟨_, rfl, _, _, rfl, rfl, ⟨by decide, by decide⟩, _, rfl, _, _, rfl, rfl, m0, ?_⟩
      refine kq _ _ _ (fun b o hb e => ?_) ⟨_, _, hw, y0, y1⟩ (by omega) (by omega) (Int.emod_nonneg _ (by omega)) (Int.emod_lt_of_pos _ m0)
      have e1 : upd H p (.lst [.int x, .int y, .int (z + 1)]) b = some o := by rw [upd_ne hb]; exact e
      rw [upd_ne (ne_of_none e1 hq)]
      exact e1
theorem scOne : FnScope ["well", "some"] ["well", "some"] (defScope d_law_one) := ⟨rfl, rfl, rfl, by decide +kernel, rfl, by decide +kernel, by decide +kernel⟩
theorem ok_one {f fD : Addr} {fd fdD : FuncData} (F : Fun K "_law_one" "_law_one" d_law_one f fd) (B : TxtB mg) (GD : FnOk P w K mg base CX0 1 fD fdD ["well", "many"] spDraw) (mD : mg "_law_draw" = some (.ref fD)) (kD : PySem.W.keepIn K (.ref fD) = true) (bD : Binds K fdD ["well", "many"] []) :
    FnOk P w K mg base CX0 2 f fd ["well", "some"] (spOne K) := by
  refine F.ok scOne (fun vs H Q E h => ?_) (fun cdv A outer s H vs Q E hr h => ?_)
  · obtain ⟨p, l, xs, z, rfl, _⟩ := h
    rfl
  · obtain ⟨p, l, xs, z, rfl, hp, z0, z1, hl, ne, l0, l1, kq⟩ := h
    refine ⟨_, pss_one (ps_ret (pe_ix ix_list (pv 1) (pe_call GD hr rfl mD kD bD .nil pass0 (pa_cons (pv 0) (pa_cons (pe_callB call_len_seq (by rfl) B.len PySem.boot_len (pa_cons (pv 1) pa_nil)) pa_nil))) (fun _ _ => rfl))), ?_⟩
    refine ⟨_, rfl, _, rfl, _, rfl, l, xs, rfl, .inl (SqL.of hl), ?_⟩
    refine ⟨p, _, z, rfl, hp, (by omega), (by omega), z0, z1, fun H' d z' bt hp' z0' z1' d0 d1 => ?_⟩
    have hd : d.toNat < xs.length := by omega
    refine ⟨l, xs, _, xs[d.toNat], rfl, rfl, SqL.of (bt l _ ne hl), at_k d0 (by simp [hd]), ?_⟩
    exact kq H' z' _ bt hp' z0' z1' (List.getElem_mem hd)
end
end K11

namespace K11
open PySem PySem.Spec PyProof.Rows L2
/-! ### in lowest terms, by the law -/
def spLow : Sp := fun vs H Q _ => ∃ a b : Int, vs = [.int a, .int b] ∧ b ≠ 0 ∧ a.natAbs < 2 ^ 4000 ∧ b.natAbs < 2 ^ 4000 ∧
  ∀ p : Addr, H p = none → Q (.ref p) (upd H p (.tup [.int (lowT a b), .int (lowB a b)]))
def leftOf : L2.St → Nat
  | [_, _, _, some (.int l)] => l.toNat
  | _ => 0
theorem absV (i : Int) : (if i < 0 then -i else i) = ((i.natAbs : Nat) : Int) := by split <;> omega
section
variable {P : Program} {w : World} {K : PySem.W.Frag} {mg : Str → Option Value} {base : Heap}
theorem scLow : FnScope ["top", "bottom", "one", "other"] ["top", "bottom"] (defScope d_law_low) := ⟨rfl, rfl, rfl, by decide +kernel, rfl, by decide +kernel, by decide +kernel⟩
theorem ok_low {f : Addr} {fd : FuncData} (F : Fun K "_law_low" "_law_low" d_law_low f fd) (B : TxtB mg) : FnOk P w K mg base CX0 1 f fd ["top", "bottom"] spLow := by
  refine F.ok scLow (fun vs H Q E h => ?_) (fun cdv A outer s H vs Q E hr h => ?_)
  · obtain ⟨a, b, rfl, _⟩ := h
    rfl
  · obtain ⟨a, b, rfl, hb, sa, sb, kq⟩ := h
    refine ⟨_, pss_cons (ps_par (i := 2) (j := 3) rfl scLow.nd rfl rfl (by decide) rfl rfl (pa_cons (pe_callB call_abs (by rfl) B.abs (by decide +kernel) (pa_cons (pv 0) pa_nil)) (pa_cons (pe_callB call_abs (by rfl) B.abs (by decide +kernel) (pa_cons (pv 1) pa_nil)) pa_nil)) (by rfl))
      (pss_cons (ps_while PassesOwn.never (pt_cmpR op_gt (pv 3) pe_int (nomark _)) (pss_one (ps_par (i := 2) (j := 3) rfl scLow.nd rfl rfl (by decide) rfl rfl (pa_cons (pv 3) (pa_cons (pe_op op_mod (pv 2) (pv 3)) pa_nil)) (by rfl))))
      (pss_cons (ps_if (pt_cmpR op_lt (pv 1) pe_int (nomark _)) (pss_one (ps_set (i := 2) scLow.nd rfl (Or.inl rfl) (pe_op op_sub pe_int (pv 2)))) pss_nil)
      (pss_one (ps_ret (pe_tup (pa_cons (pe_op op_fdivX (pv 0) (pv 2)) (pa_cons (pe_op op_fdivX (pv 1) (pv 2)) pa_nil))))))), ?_⟩
    refine ⟨_, rfl, a, rfl, _, rfl, b, rfl, _, _, rfl, ?_⟩
    rw [absV, absV]
    refine while_by (fun σ H' => H' = H ∧ ∃ g l : Nat, σ = [some (.int a), some (.int b), some (.int (g : Int)), some (.int (l : Int))] ∧ Nat.gcd g l = Nat.gcd a.natAbs b.natAbs) (fun σ _ => leftOf σ) ⟨rfl, _, _, rfl, rfl⟩ ?_ ?_
    · rintro σ H' ⟨rfl, g, l, rfl, hg⟩
      refine ⟨_, rfl, _, _, rfl, rfl, _, rfl, ?_⟩
      by_cases hl : l = 0
      · subst hl
        rw [show decide ((0 : Int) < ((0 : Nat) : Int)) = false from by simp]
        refine iteF ?_
        have ge : g = Nat.gcd a.natAbs b.natAbs := by rw [← hg, Nat.gcd_zero_right]
        refine ⟨_, rfl, _, _, rfl, rfl, _, rfl, ?_⟩
        have gs : (sg a b).natAbs < 2 ^ 4000 := Nat.lt_of_le_of_lt (sg_le hb) sb
        refine ite2 (fun hn => ?_) (fun hn => ?_)
        · have hn : b < 0 := of_decide_eq_true hn
          have e : 0 - (g : Int) = sg a b := by unfold sg; rw [if_pos hn, ge]; omega
          have g0 : 0 - (g : Int) ≠ 0 := by rw [e]; exact sg_ne hb
          have gd : ∀ i : Int, CDivX i (0 - (g : Int)) := fun i => big_div (b := 4000) g0 (by rw [e]; exact gs) (by decide) (by decide)
          refine ⟨_, rfl, _, _, rfl, rfl, ?_⟩
          refine ⟨_, rfl, _, rfl, _, _, rfl, rfl, gd _, _, rfl, _, rfl, _, _, rfl, rfl, gd _, (by show 2 ≤ sizeLine; decide), fun p hp => ?_⟩
          have z := kq p hp
          unfold lowT lowB at z
          rw [← e] at z
          exact z
        · have hn : ¬ b < 0 := fun q => hn (decide_eq_true q)
          have e : (g : Int) = sg a b := by unfold sg; rw [if_neg hn, ge]
          have g0 : (g : Int) ≠ 0 := by rw [e]; exact sg_ne hb
          have gd : ∀ i : Int, CDivX i (g : Int) := fun i => big_div (b := 4000) g0 (by rw [e]; exact gs) (by decide) (by decide)
          refine ⟨_, rfl, _, rfl, _, _, rfl, rfl, gd _, _, rfl, _, rfl, _, _, rfl, rfl, gd _, (by show 2 ≤ sizeLine; decide), fun p hp => ?_⟩
          have z := kq p hp
          unfold lowT lowB at z
          rw [← e] at z
          exact z
      · rw [show decide ((0 : Int) < (l : Int)) = true from decide_eq_true (by omega)]
        refine iteT ?_
        refine ⟨_, rfl, _, rfl, _, rfl, _, _, rfl, rfl, (by show (0 : Int) < (l : Int); omega), _, _, rfl, ⟨rfl, l, g % l, ?_, ?_⟩, ?_⟩
        · show [some (V.int a), some (V.int b), some (V.int (l : Int)), some (V.int ((g : Int) % (l : Int)))] = _
          rw [Int.natCast_emod]
        · rw [← hg, Nat.gcd_comm g l, Nat.gcd_rec l g, Nat.gcd_comm]
        · show ((g : Int) % (l : Int)).toNat < ((l : Int)).toNat
          have h1 : (g : Int) % (l : Int) = ((g % l : Nat) : Int) := (Int.natCast_emod g l).symm
          rw [h1, Int.toNat_natCast, Int.toNat_natCast]
          exact Nat.mod_lt _ (by omega)
    · intro σ H' Q1 Q2 m h
      obtain ⟨v, e, i, j, e1, e2, k, ek, q⟩ := h
      exact ⟨v, e, i, j, e1, e2, k, ek, m _ _ q⟩
end
end K11

namespace K11
open PySem PySem.Spec PyProof.Rows PySem.Calls
/-! ### == of two tuples whose items have an own == : both answers -/
section
variable {prog : Program} {w : World} {A : Around} {R : Result → Shared → Prop}
theorem tuple_eqB (l b : Addr) (items items2 : Array Value) (n n2 : Nat) (dd dd2 : Option Addr) (sl sl2 : Array (Option Value)) (I : Nat → Shared → Prop)
    (turn : ∀ i (h1 : i < items.size) (h2 : i < items2.size) s, I i s → wpAny (model prog w) A.in1 (eqBool items[i] items2[i]) (fun r s' => (r = true ∧ I (i + 1) s') ∨ (r = false ∧ R (.ok (.ret (.bool false))) s')) (fun e s' => R (.error e) s') s)
    (fin : ∀ s, I (min items.size items2.size) s → R (.ok (.ret (.bool (items.size == items2.size)))) s) {s : Shared} (hl1 : s.heap.get? l = some { cls := .type "tuple", dict := dd, data := .seq items n, slots := sl }) (hb1 : s.heap.get? b = some { cls := .type "tuple", dict := dd2, data := .seq items2 n2, slots := sl2 }) (h : I 0 s) :
    wpAny (model prog w) A.in1 (Builtin.«tuple.__eq__» ⟨[.ref l, .ref b], []⟩) (GQ.FinOf prog w A R) (fun e s' => R (.error e) s') s := by
  have f2 := AutoSeq1.sub_tuple_tuple
  have hZ : (items.toList.zip items2.toList).length = min items.size items2.size := by simp
  have h0 := h
  obtain ⟨hp, g, d, tk, os⟩ := s
  wp_walk using wpAny_loadPart' hl1, wpAny_loadPart' hb1, wpAny_forIn_list _ (fun rest b s' => b.1 = none ∧ ∃ i, rest = (items.toList.zip items2.toList).drop i ∧ i ≤ min items.size items2.size ∧ I i s') _
  case turn =>
    rintro ⟨y, x⟩ rest b s' ⟨hb', i, hz, hi, hI⟩
    have hlt : i < (items.toList.zip items2.toList).length := by
      rcases Nat.lt_or_ge i (items.toList.zip items2.toList).length with h' | h'
      · exact h'
      · rw [List.drop_of_length_le h'] at hz; cases hz
    have h1 : i < items.size := by omega
    have h2 : i < items2.size := by omega
    rw [List.drop_eq_getElem_cons hlt] at hz
    injection hz with hyx hrest
    have hy : y = items[i] := by have := congrArg Prod.fst hyx; simpa using this
    have hx : x = items2[i] := by have := congrArg Prod.snd hyx; simpa using this
    subst hy hx
    refine wpAny_bind (wpAny_mono (turn i h1 h2 s' hI) (fun r s2 q2 => ?_) fun _ _ x => x)
    rcases q2 with ⟨hr, q2⟩ | ⟨hr, q2⟩
    · subst hr
      wp_walk
      exact ⟨rfl, i + 1, hrest, by omega, q2⟩
    · subst hr
      wp_walk
      exact q2
  case fin =>
    rintro ⟨b1, b2⟩ s' ⟨hb', i, hz, hi, hI⟩
    simp only at hb'
    subst hb'
    have hge : min items.size items2.size ≤ i := by
      rcases Nat.lt_or_ge i (items.toList.zip items2.toList).length with h' | h'
      · rw [List.drop_eq_getElem_cons h'] at hz; cases hz
      · exact hZ ▸ h'
    have hi' : i = min items.size items2.size := by omega
    have hR := fin s' (hi' ▸ hI)
    wp_walk
    simpa [Builtin.Tuple.tupleCompareSizes] using hR
  case h =>
    exact ⟨rfl, 0, rfl, Nat.zero_le _, h0⟩
end
section
variable {prog : Program} {w : World} {A : Around} {E : Value → Shared → Prop} {s : Shared}
theorem rc_tupB {l b : Addr} {items items2 : Array Value} {Q : Value → Shared → Prop} (hu : A.units < cLine) (I : Nat → Shared → Prop)
    (hl : s.heap.IsTuple l items) (hb : s.heap.IsTuple b items2)
    (turn : ∀ i (h1 : i < items.size) (h2 : i < items2.size) s, I i s → wpAny (model prog w) A.in1 (eqBool items[i] items2[i]) (fun r s' => (r = true ∧ I (i + 1) s') ∨ (r = false ∧ Q (.bool false) s')) E s)
    (fin : ∀ s, I (min items.size items2.size) s → Q (.bool (items.size == items2.size)) s) (h : I 0 s) : wpAny (model prog w) A (richCompare .Eq (.ref l) (.ref b)) Q E s := by
  obtain ⟨⟨cls, dd, data, sl⟩, ho, hc, n, hd⟩ := id hl
  obtain ⟨⟨cls2, dd2, data2, sl2⟩, ho2, hc2, n2, hd2⟩ := id hb
  simp only at hc hd hc2 hd2
  subst hc hd hc2 hd2
  refine wpAny_richCompare_same_room (op := .Eq) ⟨_, ho, rfl⟩ ⟨_, ho2, rfl⟩ F.slot_tuple_eq (GQ.call_here F.slot_tuple_eq ⟨_, ho, rfl⟩ F.entry_tuple_eq (F.args_tuple_eq_2 _ _) ?_) hu
  refine tuple_eqB (R := wants (fun v s' => v ≠ .notImplemented ∧ Q v s') E) l b items items2 n n2 dd dd2 sl sl2 I (fun i h1 h2 s' q => wpAny_mono (turn i h1 h2 s' q) (fun r s2 z => ?_) fun _ _ z => z) (fun s' q => ⟨(fun x => nomatch x), fin s' q⟩) ho ho2 h
  rcases z with z | ⟨hr, z⟩
  · exact .inl z
  · exact .inr ⟨hr, (fun x => nomatch x), z⟩
end
end K11

namespace K11
open PySem PySem.Spec PyProof.Rows L2
/-! ### == of a share and anything, by its own __eq__ -/
/-- what isinstance asks of the class, and what the law puts beside a share -/
structure TxtI (K : PySem.W.Frag) (C : Addr) : Prop where
  ha : PySem.W.findIn K (.ref C) "__class__" = some (some (.builtin "object.__class__"))
  hn : PySem.W.specialIn K (.builtin "object.__class__") "__get__" = some (some (.builtin "getset_descriptor.__get__"))
  htk : PySem.W.takesIn K (.builtin "object.__class__") = some true
  hm : PySem.W.mroIn K C (.type "object") = some true
  me : PySem.W.kitOne K (.ref C) (.ref C) = some true
  mt : PySem.W.kitOne K (.type "tuple") (.ref C) = some false
  mi : PySem.W.kitOne K (.type "int") (.ref C) = some false
  mn : PySem.W.kitOne K (.type "NoneType") (.ref C) = some false
/-- either another share, or something that is none -/
def EqTo (K : PySem.W.Frag) (C : Addr) (H : Hp) (v : V) (t1 b1 : Int) (r : Bool) : Prop :=
  (∃ (y : Addr) (t2 b2 : Int), v = .ref y ∧ ShAt C H y t2 b2 ∧ r = (decide (t1 = t2) && decide (b1 = b2))) ∨ (∃ ty, TyX K H v ty ∧ PySem.W.kitOne K ty (.ref C) = some false ∧ r = false)
def spEqS (K : PySem.W.Frag) (C : Addr) : Sp := fun vs H Q _ => ∃ (x : Addr) (v : V) (t1 b1 : Int) (r : Bool), vs = [.ref x, v] ∧ ShAt C H x t1 b1 ∧ EqTo K C H v t1 b1 r ∧ Q (.bl r) H
section
variable {P : Program} {w : World} {K : PySem.W.Frag} {mg : Str → Option Value} {base : Heap}
theorem decI (a b : Int) : decide (V.int a = V.int b) = decide (a = b) := by
  by_cases h : a = b
  · rw [h]; simp
  · simp [h]
theorem scEq : FnScope ["self", "other"] ["self", "other"] (defScope sEq) := ⟨rfl, rfl, rfl, by decide +kernel, rfl, by decide +kernel, by decide +kernel⟩
theorem ok_eq {f C CN : Addr} {fd : FuncData} (F : Fun K "__eq__" "Share.__eq__" sEq f fd) (T : Txt K mg C CN) (TI : TxtI K C) : FnOk P w K mg base CX0 1 f fd ["self", "other"] (spEqS K C) := by
  refine F.ok scEq (fun vs H Q E h => ?_) (fun cdv A outer s H vs Q E hr h => ?_)
  · obtain ⟨x, v, t1, b1, r, rfl, _⟩ := h
    rfl
  · obtain ⟨x, v, t1, b1, r, rfl, ⟨dx, hx⟩, hv, k⟩ := h
    refine ⟨_, pss_one (ps_ret (pe_and (pe_callB call_isi (by rfl) T.isi (by decide +kernel) (pa_cons (pv 1) (pa_cons (pe_glob (v := .ref C) rfl T.mgC rfl) pa_nil)))
      (pe_and (pe_cmpR op_eq (pe_fld (pv 0) rfl) (pe_fld (pv 1) rfl) (nomark _)) (pe_one (pe_cmpR op_eq (pe_fld (pv 0) rfl) (pe_fld (pv 1) rfl) (nomark _)))))), ?_⟩
    rcases hv with ⟨y, t2, b2, rfl, ⟨dy, hy⟩, rfl⟩ | ⟨ty, hty, hk, rfl⟩
    · refine ⟨_, rfl, _, _, _, _, true, rfl, ClsV.own C, TyX.base (TyOf.ins hy T.cl TI.ha TI.hn TI.htk TI.hm), TI.me, true, rfl, iteT ?_⟩
      refine ⟨_, rfl, x, C, dx, _, _, rfl, hx, T.cl, T.nT, shf_top .., _, rfl, y, C, dy, _, _, rfl, hy, T.cl, T.nT, shf_top .., rfl, _, rfl, ?_⟩
      rw [decI]
      by_cases e : t1 = t2
      · rw [decide_eq_true e] at k ⊢
        refine iteT ?_
        refine ⟨_, rfl, x, C, dx, _, _, rfl, hx, T.cl, T.nB, shf_bottom .., _, rfl, y, C, dy, _, _, rfl, hy, T.cl, T.nB, shf_bottom .., rfl, ?_⟩
        rw [decI]
        exact k
      · rw [decide_eq_false e] at k ⊢
        exact iteF k
    · refine ⟨_, rfl, _, _, _, _, false, rfl, ClsV.own C, hty, hk, false, rfl, iteF k⟩
end
end K11
namespace K11
open PySem PySem.Spec PyProof.Rows L2
/-! ### comparisons with a share in them -/
/-- what stands beside a share: another one, or a value of a built-in type that the share's class is no subclass of, and that is none of it -/
structure Odd (K : PySem.W.Frag) (C : Addr) (T : String) : Prop where
  k : PySem.W.kitOne K (.type T) (.ref C) = some false
  l : PySem.W.subIn K (.type T) (.ref C) = some false
  r : PySem.W.subIn K (.ref C) (.type T) = some false
/-- the own == of the class at C stands at f, and keeps its promise -/
structure OwnEq (X : Cx) (n : Nat) (C f : Addr) : Prop where
  fn : ∃ fd ps, FnOk X.prog X.w X.K X.mg X.base CX0 n f fd ps (spEqS X.K C) ∧ Binds X.K fd ps []
  at_ : PySem.W.findIn X.K (.ref C) "__eq__" = some (some (.ref f))
  isf : PySem.W.isFn X.K (.ref f) = true
section
variable {X : Cx} {n : Nat} {C f : Addr} {A : Around} {pins : List (Addr × Obj)} {s : Shared} {σ : L2.St} {H : Hp} {x : Addr} {v : V} {u : Value} {t1 b1 : Int} {r : Bool} {T : String}
/-- the def itself, called -/
theorem run_own (O : OwnEq X n C f) (sb : Sub X n A) (I : Inv X pins σ H s) (rv : RelV v u) (hx : ShAt C H x t1 b1) (hv : EqTo X.K C H v t1 b1 r) :
    wpAny (model X.prog X.w) A (call (.ref f) [.ref x, u]) (fun q s' => q = .bool r ∧ Inv X pins σ H s') X.xe s := by
  obtain ⟨fd, ps, F, hb⟩ := O.fn
  have hsp : spEqS X.K C [.ref x, v] H (fun z H' => z = .bl r ∧ H' = H) E0 := ⟨x, v, t1, b1, r, rfl, hx, hv, rfl, rfl⟩
  have e0 : Env0 X.prog X.w X.K X.mg X.base A X.stack s H := by
    have e := I.env0
    exact ⟨by rw [sb.fr]; exact e.frames, e.mod, e.bs, e.bsz, e.funs, e.frf, e.hok, e.bare⟩
  have hl := F.len _ _ _ _ hsp
  have r2 : Vals [V.ref x, v] [Value.ref x, u] := .cons rfl (.cons rv .nil)
  have bb := hb s [.ref x, u] I.kIn (by simpa using hl)
  rw [List.append_nil] at bb
  refine wpAny_call (codeAny_mono (F.run A X.stack s H ⟨[.ref x, u], []⟩ [.ref x, u] [.ref x, v] _ E0 sb.room e0 bb r2 hsp) fun q s' hq => ?_)
  cases q with
  | error e => exact hq.elim
  | ok fl =>
    cases fl with
    | ret z =>
      obtain ⟨y, H', I', ry, ey, eH⟩ := I.after hq
      subst ey
      subst eH
      cases ry
      exact ⟨rfl, I'⟩
    | next => exact False.elim hq
    | brk => exact False.elim hq
    | cont => exact False.elim hq
theorem ins_at (I : Inv X pins σ H s) (hx : ShAt C H x t1 b1) : ∃ ox od, PySem.W.InstAt s.heap x ox C od := by
  obtain ⟨dx, e⟩ := hx
  obtain ⟨m, J, _⟩ := ins_get I.hok e
  obtain ⟨od, J, _⟩ := J.look
  exact ⟨_, _, J⟩
/-- a share on the left -/
theorem rc_left (O : OwnEq X n C f) (sb : Sub X n A) (I : Inv X pins σ H s) (rv : RelV v u) (hx : ShAt C H x t1 b1) (hv : EqTo X.K C H v t1 b1 r)
    {tb : Value} (ht : PySem.W.Looks (model X.prog X.w) s.heap (typeOf u) tb) (hf : PySem.W.notFirst X.K C tb = true) :
    wpAny (model X.prog X.w) A (richCompare .Eq (.ref x) u) (fun q s' => q = .bool r ∧ Inv X pins σ H s') X.xe s := by
  obtain ⟨ox, od, J⟩ := ins_at I hx
  obtain ⟨m, hF⟩ := I.fr
  refine PySem.W.cmp_K (op := .Eq) (tb := tb) sb.room.units0 hF I.ok.mod.kin J ht hf O.at_ O.isf ?_
  refine wpAny_mono (run_own O sb I rv hx hv) (fun q s' z => ?_) fun _ _ z => z
  obtain ⟨rfl, I'⟩ := z
  exact ⟨rfl, I'⟩
/-- two shares -/
theorem rc_two (O : OwnEq X n C f) (sb : Sub X n A) (I : Inv X pins σ H s) {y : Addr} {t2 b2 : Int} (hx : ShAt C H x t1 b1) (hy : ShAt C H y t2 b2) :
    wpAny (model X.prog X.w) A (richCompare .Eq (.ref x) (.ref y)) (fun q s' => q = .bool (decide (t1 = t2) && decide (b1 = b2)) ∧ Inv X pins σ H s') X.xe s := by
  obtain ⟨oy, od, J⟩ := ins_at I hy
  exact rc_left O sb I (v := .ref y) rfl hx (.inl ⟨y, t2, b2, rfl, hy, rfl⟩) J.type (by simp [PySem.W.notFirst])
/-- a value of a built-in type on the left, a share on the right -/
theorem rc_right (O : OwnEq X n C f) (sb : Sub X n A) (I : Inv X pins σ H s) (rv : RelV v u) (hx : ShAt C H x t1 b1) (ty : TyX X.K H v (.type T)) (D : Odd X.K C T)
    (dec : wpAny (model X.prog X.w) A (tryCompare u "__eq__" (.ref x)) (fun q s' => q = none ∧ s' = s) X.xe s) :
    wpAny (model X.prog X.w) A (richCompare .Eq u (.ref x)) (fun q s' => q = .bool false ∧ Inv X pins σ H s') X.xe s := by
  obtain ⟨ox, od, J⟩ := ins_at I hx
  obtain ⟨Ph, Z, ph, _⟩ := kit_of I rv ty
  have LT := Z.ty (model X.prog X.w) s.heap I.kIn ph
  have nu : oneThing? .Eq u (.ref x) = none := by cases u <;> rfl
  unfold richCompare
  simp only [nu]
  refine wpAny_holding (wpAny_bind (wpAny_cRoomFor sb.room.units0 ?_))
  refine wpAny_bind (LT.here (wpAny_bind (J.type.here ?_)))
  rw [if_pos (show (Value.type T != Value.ref C) = true from rfl)]
  refine wpAny_bind ((PySem.W.looks_subIn I.kIn D.r).here ?_)
  simp only [Bool.false_eq_true, if_false]
  refine wpAny_bind (wpAny_mono dec (fun q s' z => ?_) fun _ _ z => z)
  obtain ⟨rfl, rfl⟩ := z
  simp only [Bool.not_false, if_true]
  refine wpAny_bind (m := tryCompare (.ref x) _ u) ?_
  unfold tryCompare
  refine wpAny_bind (PySem.W.ifBound_K I.kIn J O.at_ O.isf (wpAny_mono (run_own O sb I rv hx (.inr ⟨_, ty, D.k, rfl⟩)) (fun q s' z => ?_) fun _ _ z => z))
  obtain ⟨rfl, I'⟩ := z
  exact wpAny_pure (wpAny_pure ⟨rfl, I'⟩)
end
end K11

namespace K11
open PySem PySem.Spec PyProof.Rows PySem.Calls L2
/-! ### words: tuples of shares, and their == -/
/-- at each of ps stands the share of ws at the same place -/
def ShAll (C : Addr) (H : Hp) (ps : List Addr) (ws : List (Int × Int)) : Prop := ps.length = ws.length ∧ ∀ (i : Nat) (p : Addr) (x : Int × Int), ps[i]? = some p → ws[i]? = some x → ShAt C H p x.1 x.2
theorem ShAll.mono {C : Addr} {H H' : Hp} {ps : List Addr} {ws : List (Int × Int)} (h : ShAll C H ps ws) (s : Same H H') : ShAll C H' ps ws := ⟨h.1, fun i p x a b => (h.2 i p x a b).mono s⟩
theorem ShAll.drop {C : Addr} {H : Hp} {ps : List Addr} {ws : List (Int × Int)} (h : ShAll C H ps ws) (n : Nat) : ShAll C H (ps.drop n) (ws.drop n) :=
  ⟨by rw [List.length_drop, List.length_drop, h.1], fun i p x a b => h.2 (n + i) p x (by rw [← List.getElem?_drop]; exact a) (by rw [← List.getElem?_drop]; exact b)⟩
theorem ShAll.take {C : Addr} {H : Hp} {ps : List Addr} {ws : List (Int × Int)} (h : ShAll C H ps ws) (n : Nat) : ShAll C H (ps.take n) (ws.take n) :=
  ⟨by rw [List.length_take, List.length_take, h.1], fun i p x a b => by
    rw [List.getElem?_take] at a b
    split at a
    · rename_i q
      rw [if_pos q] at b
      exact h.2 i p x a b
    · cases a⟩
section
variable {X : Cx} {n : Nat} {C f : Addr} {A : Around} {pins : List (Addr × Obj)} {s : Shared} {σ : L2.St} {H : Hp}
theorem eqB_two (O : OwnEq X n C f) (sb : Sub X n A) (I : Inv X pins σ H s) {p q : Addr} {x y : Int × Int} (hx : ShAt C H p x.1 x.2) (hy : ShAt C H q y.1 y.2) :
    wpAny (model X.prog X.w) A (eqBool (.ref p) (.ref q)) (fun r s' => r = decide (x = y) ∧ Inv X pins σ H s') X.xe s := by
  by_cases h : p = q
  · subst h
    have e : x = y := by
      obtain ⟨dx, e1⟩ := hx
      obtain ⟨dy, e2⟩ := hy
      have e3 := e1.symm.trans e2
      injection e3 with e3
      injection e3 with _ _ e4
      have a1 := congrArg (fun l => l.lookup ("top" : Str)) e4
      have a2 := congrArg (fun l => l.lookup ("bottom" : Str)) e4
      simp only [shf_top, shf_bottom, Option.some.injEq, V.int.injEq] at a1 a2
      exact Prod.ext a1 a2
    rw [decide_eq_true e]
    exact SeqAt.EqAt.same (A := A) (s := s) (.ref p) X.prog X.w X.xe _ ⟨rfl, I⟩
  · refine GQ.eqBool_refG h (wpAny_mono (rc_two O sb I hx hy) (fun r s' z => ?_) fun _ _ z => z)
    obtain ⟨rfl, I'⟩ := z
    refine ⟨_, rfl, ?_, I'⟩
    rw [← Bool.decide_and]
    refine decide_eq_decide.mpr ⟨fun z => Prod.ext z.1 z.2, fun z => by rw [z]; exact ⟨rfl, rfl⟩⟩
theorem rc_words (O : OwnEq X n C f) (sb : Sub X (n + 1) A) (I : Inv X pins σ H s) {a b : Addr} {ps qs : List Addr} {ws vs : List (Int × Int)} (ha : SqT X.K H a (ps.map V.ref)) (hb : SqT X.K H b (qs.map V.ref)) (hw : ShAll C H ps ws) (hv : ShAll C H qs vs) :
    wpAny (model X.prog X.w) A (richCompare .Eq (.ref a) (.ref b)) (fun q s' => q = .bool (decide (ws = vs)) ∧ Inv X pins σ H s') X.xe s := by
  obtain ⟨its, r, e, z⟩ := I.tuple ha
  obtain ⟨its2, r2, e2, z2⟩ := I.tuple hb
  have l1 : its.length = ws.length := by rw [← r.length, List.length_map, hw.1]
  have l2 : its2.length = vs.length := by rw [← r2.length, List.length_map, hv.1]
  refine rc_tupB sb.room.units0 (fun i s' => Inv X pins σ H s' ∧ ∀ j, j < i → ws[j]? = vs[j]?) e e2 (fun i h1 h2 s' q => ?_) (fun s' q => ?_) ⟨I, fun j hj => absurd hj (Nat.not_lt_zero j)⟩
  · obtain ⟨I', hq⟩ := q
    have h1' : i < its.length := by simpa using h1
    have h2' : i < its2.length := by simpa using h2
    have k1 : i < ps.length := by rw [hw.1]; omega
    have k2 : i < qs.length := by rw [hv.1]; omega
    obtain ⟨u, hu, ru⟩ := r.get (i := i) (x := V.ref ps[i]) (by rw [List.getElem?_map, List.getElem?_eq_getElem k1]; rfl)
    obtain ⟨v, hv', rv⟩ := r2.get (i := i) (x := V.ref qs[i]) (by rw [List.getElem?_map, List.getElem?_eq_getElem k2]; rfl)
    obtain rfl : u = Value.ref ps[i] := ru
    obtain rfl : v = Value.ref qs[i] := rv
    have g1 : its.toArray[i] = Value.ref ps[i] := by
      have : its[i]? = some its.toArray[i] := by rw [List.getElem?_eq_getElem h1'] <;> simp
      rw [this] at hu
      exact Option.some.inj hu
    have g2 : its2.toArray[i] = Value.ref qs[i] := by
      have : its2[i]? = some its2.toArray[i] := by rw [List.getElem?_eq_getElem h2'] <;> simp
      rw [this] at hv'
      exact Option.some.inj hv'
    rw [g1, g2]
    have w1 : i < ws.length := by omega
    have w2 : i < vs.length := by omega
    refine wpAny_mono (eqB_two O sb.in1 I' (hw.2 i _ ws[i] (List.getElem?_eq_getElem k1) (List.getElem?_eq_getElem w1)) (hv.2 i _ vs[i] (List.getElem?_eq_getElem k2) (List.getElem?_eq_getElem w2))) (fun t s2 y => ?_) fun _ _ y => y
    obtain ⟨rfl, I2⟩ := y
    by_cases c : ws[i] = vs[i]
    · refine .inl ⟨decide_eq_true c, I2, fun j hj => ?_⟩
      rcases Nat.lt_succ_iff_lt_or_eq.mp hj with hj | rfl
      · exact hq j hj
      · rw [List.getElem?_eq_getElem w1, List.getElem?_eq_getElem w2, c]
    · refine .inr ⟨decide_eq_false c, ?_, I2⟩
      rw [decide_eq_false (fun q => c (by subst q; rfl))]
  · obtain ⟨I', hq⟩ := q
    refine ⟨?_, I'⟩
    rw [List.size_toArray, List.size_toArray, l1, l2] at hq
    show Value.bool (its.toArray.size == its2.toArray.size) = _
    rw [List.size_toArray, List.size_toArray, l1, l2]
    by_cases c : ws.length = vs.length
    · have e3 : ws = vs := List.ext_getElem? fun i => by
        by_cases hi : i < min ws.length vs.length
        · exact hq i hi
        · rw [List.getElem?_eq_none (by omega), List.getElem?_eq_none (by omega)]
      rw [decide_eq_true e3]
      simp [c]
    · rw [decide_eq_false (fun q => c (by rw [q]))]
      simp [c]
/-- a word == a word -/
def rEqW (K : PySem.W.Frag) (C : Addr) : R2 := fun x y H Q => ∃ (a b : Addr) (ps qs : List Addr) (ws vs : List (Int × Int)), x = .ref a ∧ y = .ref b ∧ SqT K H a (ps.map V.ref) ∧ SqT K H b (qs.map V.ref) ∧ ShAll C H ps ws ∧ ShAll C H qs vs ∧ Q (.bl (decide (ws = vs))) H
theorem op_eqW (O : OwnEq X n C f) (hr : Room (n + 1) X.A) : OpR X (compareOp .Eq) (rEqW X.K C) := by
  intro pins s σ H x y v u Q I rx ry h
  obtain ⟨a, b, ps, qs, ws, vs, rfl, rfl, ha, hb, hw, hv, q⟩ := h
  cases rx
  cases ry
  show wpAny (model X.prog X.w) X.A (richCompare .Eq (.ref a) (.ref b)) (EP X pins σ Q) X.xe s
  refine wpAny_mono (rc_words O ⟨hr, rfl⟩ I ha hb hw hv) (fun r s' z => ?_) fun _ _ z => z
  obtain ⟨rfl, I'⟩ := z
  exact ⟨.bl _, H, I', rfl, q⟩
end
end K11

namespace K11
open PySem PySem.Spec PyProof.Rows PySem.Calls L2
/-! ### t[lo:hi], the whole of it too: then t itself -/
section
variable {prog : Program} {w : World} {A : Around} {E : Value → Shared → Prop} {s : Shared}
theorem getItem_tuple_whole {t sl : Addr} {items : Array Value} {vl vu : Value} {lo hi : Option Int} {Q : Value → Shared → Prop} (ht : IsTup s.heap t items) (hs : s.heap.IsSliceOf sl vl vu .none) (pl : IsPart vl lo) (pu : IsPart vu hi)
    (hw : HT.sIx items.size 0 lo = 0 ∧ HT.sIx items.size items.size hi = items.size) (h : Q (.ref t) s) : wpAny (model prog w) A (getItem (.ref t) (.ref sl)) Q E s := by
  obtain ⟨os, hos, hcs, hds⟩ := id hs
  have hTs : s.TypeIs (.ref sl) "slice" := ⟨os, hos, hcs⟩
  unfold getItem
  try with_reducible refine wpAny_holding ?_
  first | refine wpAny_bind (wpAny_pure ?_) | skip
  refine wpAny_bind (wpAny_sequenceKey ht.typeIs (by decide) ?_)
  refine wpAny_bind (wpAny_callSpecial?_slot (name := Str.ofString "__getitem__") ht.typeIs PyProof.Rows.slot_tuple_getitem
    (wpAny_call_entry PyProof.Rows.slot_tuple_getitem ht.typeIs entry_tuple_getitem ?_ (args_tuple_getitem _ _)))
  show wpAny _ _ (Builtin.Tuple.tupleItemsOf (.ref t) >>= _) _ _ s
  refine wpAny_bind (PyProof.Rows.tupleItemsOf_ ht ?_)
  refine wpAny_bind (wpAny_typeOf hTs ?_)
  rw [if_pos (by decide)]
  refine wpAny_bind (HT.sliceApplied_gen hs pl pu ?_)
  have hyes : ((((HT.sIx items.size 0 lo : Nat) : Int) == 0 && (1 : Int) == 1 && (HT.sIx items.size items.size hi - HT.sIx items.size 0 lo) == items.size) = true) := by
    rw [hw.1, hw.2]
    simp
  show wpAny _ _ (if (((HT.sIx items.size 0 lo : Nat) : Int) == 0 && (1 : Int) == 1 && (HT.sIx items.size items.size hi - HT.sIx items.size 0 lo) == items.size) = true then _ else _) _ _ s
  rw [if_pos hyes]
  obtain ⟨o, ho, hc, n, hd⟩ := id ht
  have hT : s.TypeIs (.ref t) "tuple" := ⟨o, ho, hc⟩
  unfold Builtin.Tuple.tupleIsExact
  refine wpAny_bind (wpAny_bind (wpAny_typeOf hT (wpAny_pure ?_)))
  rw [if_pos (by decide)]
  wp_walk
  exact ⟨_, rfl, wpAny_pure h⟩
end
/-- t[lo:hi]: t itself, or a new one -/
def rSlA (K : PySem.W.Frag) : V → Option Int → Option Int → Hp → VK → Prop := fun x lo hi H Q => ∃ a xs, x = .ref a ∧ SqT K H a xs ∧
  (HT.sIx xs.length 0 lo = 0 ∧ HT.sIx xs.length xs.length hi = xs.length → Q (.ref a) H) ∧ (¬ (HT.sIx xs.length 0 lo = 0 ∧ HT.sIx xs.length xs.length hi = xs.length) → ∀ p, H p = none → Q (.ref p) (upd H p (.tup (cutV xs lo hi))))
theorem sl_tupA {X : Cx} : SlR X (rSlA X.K) := by
  intro pins s σ H x v vl vu lo hi sl Q I rx hs pl pu h
  obtain ⟨a, xs, rfl, hx, hw, q⟩ := h
  by_cases c : HT.sIx xs.length 0 lo = 0 ∧ HT.sIx xs.length xs.length hi = xs.length
  · cases rx
    obtain ⟨its, r, ht, hz⟩ := I.tuple hx
    have hlen : its.toArray.size = xs.length := by rw [List.size_toArray]; exact r.length.symm
    refine ⟨"tuple", _, PyProof.Rows.slot_tuple_getitem.lookup, ht.typeIs, ?_⟩
    exact getItem_tuple_whole ht hs pl pu (by rw [hlen]; exact c) ⟨.ref a, H, I, rfl, hw c⟩
  · exact sl_tup pins s σ H (.ref a) v vl vu lo hi sl Q I rx hs pl pu ⟨a, xs, rfl, hx, c, q c⟩
/-- a slice's part that may be None -/
def tPartN (t : TE) : TO := fun σ H Q => t σ H fun x H1 => (x = .non ∧ Q none H1) ∨ ∃ i, x = .int i ∧ Q (some i) H1
theorem po_any {X : Cx} {e : Expr} {te : TE} (h : PE X e te) : PO X (some e) (tPartN te) := by
  refine ⟨fun pins s σ H Q I hw => ?_⟩
  rw [evalPart_some]
  refine thn (h.run pins s σ H _ I hw) fun u s1 ⟨x, H1, I1, r1, q1⟩ => ?_
  rcases q1 with ⟨rfl, q⟩ | ⟨i, rfl, q⟩
  · cases r1
    exact ⟨none, H1, I1, .none, q⟩
  · obtain ⟨t, rfl⟩ := r1
    exact ⟨some i, H1, I1, .int i t, q⟩
end K11

namespace K11
open PySem PySem.Spec PyProof.Rows L2
/-! ### a word by its least part -/
theorem cut_from {xs : List V} {n : Nat} (h : n ≤ xs.length) : cutV xs (some (n : Int)) none = xs.drop n := by
  unfold cutV
  rw [HT.sIx_nat, HT.sIx_none, Nat.min_eq_left h, List.take_of_length_le (by rw [List.length_drop]; exact Nat.le_refl _)]
theorem cut_to {xs : List V} {n : Nat} : cutV xs none (some (n : Int)) = xs.take n := by
  unfold cutV
  rw [HT.sIx_nat, HT.sIx_none, List.drop_zero, Nat.sub_zero]
  by_cases h : n ≤ xs.length
  · rw [Nat.min_eq_left h]
  · rw [Nat.min_eq_right (by omega), List.take_of_length_le (Nat.le_refl _), List.take_of_length_le (by omega)]
theorem sIx_back {l d n : Nat} (h : 0 < n) : HT.sIx l d (some (-(n : Int))) = l - n := by
  show (if -(n : Int) < 0 then (-(n : Int) + (l : Int)).toNat else min (-(n : Int)).toNat l) = l - n
  rw [if_pos (by omega)]
  omega
theorem cut_back {xs : List V} {n : Nat} (h : 0 < n) : cutV xs none (some (-(n : Int))) = xs.take (xs.length - n) := by
  unfold cutV
  rw [sIx_back h, HT.sIx_none, List.drop_zero, Nat.sub_zero]
/-- ws is its first m, again and again -/
def Per (ws : List (Int × Int)) (m : Nat) : Prop := m ∣ ws.length ∧ ws.drop m = ws.take (ws.length - m)
def Least (ws : List (Int × Int)) (m : Nat) : Prop := 1 ≤ m ∧ Per ws m ∧ ∀ k, 1 ≤ k → k < m → ¬ Per ws k
def spLeast (K : PySem.W.Frag) (C : Addr) : Sp := fun vs H Q _ => ∃ (a : Addr) (ps : List Addr) (ws : List (Int × Int)), vs = [.ref a] ∧ SqT K H a (ps.map V.ref) ∧ ShAll C H ps ws ∧ 1 ≤ ws.length ∧ ws.length ≤ 1000 ∧
  ∀ (H' : Hp) (q : Addr) (m : Nat), Same H H' → Least ws m → SqT K H' q ((ps.take m).map V.ref) → Q (.ref q) H'
section
variable {P : Program} {w : World} {K : PySem.W.Frag} {mg : Str → Option Value} {base : Heap}
theorem scLeast : FnScope ["word", "size"] ["word"] (defScope d_least_word) := ⟨rfl, rfl, rfl, by decide +kernel, rfl, by decide +kernel, by decide +kernel⟩
theorem ok_least {f fE C : Addr} {fd fdE : FuncData} (F : Fun K "least_word" "least_word" d_least_word f fd) (B : TxtB mg) (hr_ : mg "range" = none)
    (GE : FnOk P w K mg base CX0 1 fE fdE ["self", "other"] (spEqS K C)) (bE : Binds K fdE ["self", "other"] []) (aE : PySem.W.findIn K (.ref C) "__eq__" = some (some (.ref fE))) (iE : PySem.W.isFn K (.ref fE) = true) :
    FnOk P w K mg base CX0 3 f fd ["word"] (spLeast K C) := by
  refine F.ok scLeast (fun vs H Q E h => ?_) (fun cdv A outer s H vs Q E hr h => ?_)
  · obtain ⟨a, ps, ws, rfl, _⟩ := h
    rfl
  · obtain ⟨a, ps, ws, rfl, ha, hw, l1, l2, kq⟩ := h
    have own : OwnEq (cxOf CX0 P w K mg base ["word", "size"] "least_word" (defScope d_least_word) f cdv A outer s H E).nox 1 C fE := ⟨⟨_, _, GE, bE⟩, aE, iE⟩
    refine ⟨_, pss_cons (ps_for PassesOwn.never rfl (pi_range2 (by rfl) hr_ (pa_cons pe_int (pa_cons (pe_op op_add (pe_op op_fdiv (pe_callB call_len_seq (by rfl) B.len PySem.boot_len (pa_cons (pv 0) pa_nil)) pe_int) pe_int) pa_nil))) (pg_name (i := 1) scLeast.nd rfl (.inl rfl))
        (pss_one (ps_if (PW.pt (pw_and (pt_cmpR op_eq (pe_op op_mod (pe_callB call_len_seq (by rfl) B.len PySem.boot_len (pa_cons (pv 0) pa_nil)) (pv 1)) pe_int (nomark _))
            (pw_and1 (pt_cmpR (op_eqW own hr) (pe_slice sl_tup (pv 0) (po_some (pv 1)) po_none) (pe_slice sl_tup (pv 0) po_none (po_some (pe_un un_neg (pv 1)))) (nomark _)))))
          (pss_one (ps_ret (pe_slice sl_tup (pv 0) po_none (po_some (pv 1))))) pss_nil)))
      (pss_one (ps_ret (pv 0))), ?_⟩
    have lp : (ps.map V.ref).length = ws.length := by rw [List.length_map, hw.1]
    refine ⟨_, rfl, a, _, rfl, .inr ha, _, _, rfl, rfl, ⟨by decide, by decide⟩, _, _, rfl, rfl, 1, _, rfl, ?_, ?_⟩
    · rw [lp]
      exact ⟨by decide, by decide, by omega, by omega⟩
    rw [lp]
    rw [show ((ws.length : Int) / 2 + 1 - 1).toNat = ws.length / 2 from by omega]
    refine for_range (lo := 1) (n := ws.length / 2) (fun i σ G => (∃ v, σ = [some (.ref a), v]) ∧ Same H G ∧ ∀ k, 1 ≤ k → k < 1 + i → ¬ Per ws k) ⟨⟨none, rfl⟩, Same.refl H, fun k h1 h2 => by omega⟩ ?_ ?_
    · rintro i σ G hi ⟨⟨v, rfl⟩, sm, np⟩
      have haG := Same.tup sm ha
      have hwG := hw.mono sm
      refine ⟨_, rfl, a, _, rfl, .inr haG, _, rfl, _, _, rfl, rfl, (by show (0 : Int) < 1 + (i : Int); omega), rfl, _, rfl, ?_⟩
      rw [lp]
      have ed : decide (V.int ((ws.length : Int) % (1 + (i : Int))) = V.int 0) = decide ((1 + i) ∣ ws.length) := by
        refine decide_eq_decide.mpr ?_
        rw [V.int.injEq]
        rw [show (1 + (i : Int)) = ((1 + i : Nat) : Int) from by omega, ← Int.natCast_emod]
        constructor
        · intro q
          exact Nat.dvd_of_mod_eq_zero (by omega)
        · intro q
          rw [Nat.mod_eq_zero_of_dvd q]
          rfl
      rw [ed]
      refine ite2 (fun hd => ?_) (fun hd => ?_)
      · have hd : (1 + i) ∣ ws.length := of_decide_eq_true hd
        have en : (1 + (i : Int)) = ((1 + i : Nat) : Int) := by omega
        have f1 : cutV (ps.map V.ref) (some (1 + (i : Int))) none = (ps.drop (1 + i)).map V.ref := by rw [en, cut_from (by rw [lp]; omega), List.map_drop]
        have f2 : cutV (ps.map V.ref) none (some (-(1 + (i : Int)))) = (ps.take (ws.length - (1 + i))).map V.ref := by rw [en, cut_back (by omega), lp, List.map_take]
        have f3 : cutV (ps.map V.ref) none (some (1 + (i : Int))) = (ps.take (1 + i)).map V.ref := by rw [en, cut_to, List.map_take]
        refine ⟨_, rfl, _, rfl, _, rfl, a, _, rfl, haG, (fun z => by
          have z := z.1
          rw [lp, en, HT.sIx_nat] at z
          omega), fun p hp => ?_⟩
        have s1 : Same G (upd G p (.tup (cutV (ps.map V.ref) (some (1 + (i : Int))) none))) := same1 hp
        have t1 : SqT K (upd G p (.tup (cutV (ps.map V.ref) (some (1 + (i : Int))) none))) p ((ps.drop (1 + i)).map V.ref) := by
          rw [← f1]
          exact SqT.of upd_same
        generalize upd G p (.tup (cutV (ps.map V.ref) (some (1 + (i : Int))) none)) = G1 at *
        refine ⟨_, rfl, _, rfl, _, rfl, _, rfl, a, _, rfl, Same.tup s1 haG, (fun z => by
          have z := z.2
          rw [lp, en, sIx_back (by omega)] at z
          omega), fun p' hp' => ?_⟩
        have s2 : Same G1 (upd G1 p' (.tup (cutV (ps.map V.ref) none (some (-(1 + (i : Int))))))) := same1 hp'
        have t2 : SqT K (upd G1 p' (.tup (cutV (ps.map V.ref) none (some (-(1 + (i : Int))))))) p' ((ps.take (ws.length - (1 + i))).map V.ref) := by
          rw [← f2]
          exact SqT.of upd_same
        generalize upd G1 p' (.tup (cutV (ps.map V.ref) none (some (-(1 + (i : Int)))))) = G2 at *
        have s12 := s1.trans s2
        refine ⟨p, p', _, _, _, _, rfl, rfl, Same.tup s2 t1, t2, (hwG.mono s12).drop (1 + i), (hwG.mono s12).take (ws.length - (1 + i)), _, rfl, ?_⟩
        refine ite2 (fun hp2 => ?_) (fun hp2 => ?_)
        · have pr : Per ws (1 + i) := ⟨hd, of_decide_eq_true hp2⟩
          refine ⟨_, rfl, _, rfl, _, rfl, a, _, rfl, Same.tup s12 haG, (fun z => by
            have z := z.2
            rw [lp, en, HT.sIx_nat] at z
            omega), fun q hq => ?_⟩
          refine kq _ q (1 + i) (sm.trans (s12.trans (same1 hq))) ⟨by omega, pr, np⟩ ?_
          rw [← f3]
          exact SqT.of upd_same
        · refine ⟨⟨_, rfl⟩, sm.trans s12, fun k h1 h2 => ?_⟩
          rcases Nat.lt_or_ge k (1 + i) with h3 | h3
          · exact np k h1 h3
          · have e : k = 1 + i := by omega
            rw [e]
            exact fun pr => hp2 (decide_eq_true pr.2)
      · refine iteF ⟨⟨_, rfl⟩, sm, fun k h1 h2 => ?_⟩
        rcases Nat.lt_or_ge k (1 + i) with h3 | h3
        · exact np k h1 h3
        · have e : k = 1 + i := by omega
          rw [e]
          exact fun pr => hd (decide_eq_true pr.1)
    · rintro σ G ⟨⟨v, rfl⟩, sm, np⟩
      refine ⟨_, rfl, kq G a ws.length sm ⟨l1, ⟨Nat.dvd_refl _, by rw [List.drop_length, Nat.sub_self, List.take_zero]⟩, fun k h1 h2 pr => ?_⟩ ?_⟩
      · refine np k h1 ?_ pr
        obtain ⟨c, hc⟩ := pr.1
        have c2 : 2 ≤ c := by
          rcases c with _ | _ | c
          · omega
          · omega
          · omega
        have := Nat.mul_le_mul_left k c2
        omega
      · rw [List.take_of_length_le (by rw [hw.1]; exact Nat.le_refl _)]
        exact Same.tup sm ha
end
end K11

namespace K11
open PySem PySem.Spec PyProof.Rows L2
/-! ### stretches and spans -/
abbrev W2 := List (Int × Int)
theorem least_one {ws : W2} {m m' : Nat} (h : Least ws m) (h' : Least ws m') : m = m' := by
  rcases Nat.lt_trichotomy m m' with q | q | q
  · exact absurd h.2.1 (h'.2.2 m h.1 q)
  · exact q
  · exact absurd h'.2.1 (h.2.2 m' h'.1 q)
open Classical in
/-- a word's least part -/
noncomputable def leastW (ws : W2) : W2 := if h : ∃ m, Least ws m then ws.take h.choose else ws
theorem leastW_of {ws : W2} {m : Nat} (h : Least ws m) : leastW ws = ws.take m := by
  unfold leastW
  have e : ∃ m, Least ws m := ⟨m, h⟩
  rw [dif_pos e, least_one e.choose_spec h]
def dv : Option Int → V
  | none => .non
  | some n => .int n
/-- the first d, all where d is None -/
def cutO {α : Type} (d : Option Int) (ws : List α) : List α := match d with
  | none => ws
  | some n => ws.take n.toNat
/-- the day on which the i-th stretch begins -/
def bAt (told : List (Option Int × W2)) (i : Nat) : Int := ((told.take i).map fun x => x.1.getD 0).sum
theorem bAt_next {told : List (Option Int × W2)} {i : Nat} {x : Option Int × W2} (h : told[i]? = some x) : bAt told (i + 1) = bAt told i + x.1.getD 0 := by
  unfold bAt
  obtain ⟨hi, e⟩ := List.getElem?_eq_some_iff.mp h
  rw [List.take_succ_eq_append_getElem hi, List.map_append, List.sum_append, e]
  simp
/-- what may be handed in -/
structure Told (told : List (Option Int × W2)) : Prop where
  pos : 1 ≤ told.length
  few : told.length ≤ 60
  word : ∀ (i : Nat) (x : Option Int × W2), told[i]? = some x → 1 ≤ x.2.length ∧ x.2.length ≤ 60
  open_ : ∀ (i : Nat) (x : Option Int × W2), told[i]? = some x → (x.1 = none ↔ i + 1 = told.length)
  days : ∀ (i : Nat) (x : Option Int × W2) (n : Int), told[i]? = some x → x.1 = some n → 1 ≤ n
/-- a word at wa -/
def WordAt (K : PySem.W.Frag) (C : Addr) (H : Hp) (wa : Addr) (ws : W2) : Prop := ∃ ps, SqT K H wa (ps.map V.ref) ∧ ShAll C H ps ws
theorem WordAt.mono {K : PySem.W.Frag} {C : Addr} {H H' : Hp} {wa : Addr} {ws : W2} (h : WordAt K C H wa ws) (s : Same H H') : WordAt K C H' wa ws := by
  obtain ⟨ps, a, b⟩ := h
  exact ⟨ps, Same.tup s a, b.mono s⟩
def StrAt (K : PySem.W.Frag) (C : Addr) (H : Hp) (t : Addr) (x : Option Int × W2) : Prop := ∃ wa, SqT K H t [dv x.1, .ref wa] ∧ WordAt K C H wa x.2
theorem StrAt.mono {K : PySem.W.Frag} {C : Addr} {H H' : Hp} {t : Addr} {x : Option Int × W2} (h : StrAt K C H t x) (s : Same H H') : StrAt K C H' t x := by
  obtain ⟨wa, a, b⟩ := h
  exact ⟨wa, Same.tup s a, b.mono s⟩
def SpanAt (K : PySem.W.Frag) (C : Addr) (H : Hp) (t : Addr) (b : Int) (e : Option Int) (ws : W2) : Prop := ∃ wa, SqT K H t [.int b, dv e, .ref wa] ∧ WordAt K C H wa ws
theorem SpanAt.mono {K : PySem.W.Frag} {C : Addr} {H H' : Hp} {t : Addr} {b : Int} {e : Option Int} {ws : W2} (h : SpanAt K C H t b e ws) (s : Same H H') : SpanAt K C H' t b e ws := by
  obtain ⟨wa, a, b⟩ := h
  exact ⟨wa, Same.tup s a, b.mono s⟩
/-- the i-th span of what was told stands at s -/
def SpanOf (K : PySem.W.Frag) (C : Addr) (H : Hp) (told : List (Option Int × W2)) (i : Nat) (s : Addr) : Prop := ∃ x, told[i]? = some x ∧ SpanAt K C H s (bAt told i) (x.1.map fun n => bAt told i + n) (leastW (cutO x.1 x.2))
def spSpans (K : PySem.W.Frag) (C : Addr) : Sp := fun vs H Q _ => ∃ (a : Addr) (ts : List Addr) (told : List (Option Int × W2)), vs = [.ref a] ∧ SqL K H a (ts.map V.ref) ∧ ts.length = told.length ∧
  (∀ (i : Nat) (t : Addr) (x : Option Int × W2), ts[i]? = some t → told[i]? = some x → StrAt K C H t x) ∧ Told told ∧
  ∀ (H' : Hp) (l : Addr) (ss : List Addr), Same H H' → H l = none → H' l = some (.lst (ss.map V.ref)) → ss.length = told.length → (∀ (i : Nat) (s : Addr), ss[i]? = some s → SpanOf K C H' told i s) → Q (.ref l) H'
theorem cut_any {xs : List V} {d : Option Int} (h : ∀ n, d = some n → 0 ≤ n) : cutV xs none d = cutO d xs := by
  cases d with
  | none =>
    unfold cutV
    rw [HT.sIx_none, HT.sIx_none, List.drop_zero, Nat.sub_zero, List.take_of_length_le (Nat.le_refl _)]
    rfl
  | some n =>
    obtain ⟨k, rfl⟩ : ∃ k : Nat, n = (k : Int) := ⟨n.toNat, (Int.toNat_of_nonneg (h n rfl)).symm⟩
    rw [cut_to]
    show xs.take k = xs.take ((k : Int)).toNat
    rw [Int.toNat_natCast]
theorem cutO_map {α β : Type} (f : α → β) (d : Option Int) (xs : List α) : cutO d (xs.map f) = (cutO d xs).map f := by
  cases d with
  | none => rfl
  | some n => exact (List.map_take).symm
theorem ShAll.cutO {C : Addr} {H : Hp} {ps : List Addr} {ws : W2} (h : ShAll C H ps ws) (d : Option Int) : ShAll C H (K11.cutO d ps) (K11.cutO d ws) := by
  cases d with
  | none => exact h
  | some n => exact h.take _
theorem cutO_all {α : Type} {d : Option Int} {xs : List α} (hd : ∀ n, d = some n → 0 ≤ n) (h : HT.sIx xs.length 0 none = 0 ∧ HT.sIx xs.length xs.length d = xs.length) : cutO d xs = xs := by
  cases d with
  | none => rfl
  | some n =>
    obtain ⟨k, rfl⟩ : ∃ k : Nat, n = (k : Int) := ⟨n.toNat, (Int.toNat_of_nonneg (hd n rfl)).symm⟩
    have h2 := h.2
    rw [HT.sIx_nat] at h2
    show xs.take ((k : Int)).toNat = xs
    rw [Int.toNat_natCast]
    exact List.take_of_length_le (by omega)
/-- word[:days] -/
theorem sl_word {K : PySem.W.Frag} {C : Addr} {H : Hp} {wa : Addr} {ps : List Addr} {ws : W2} {d : Option Int} {Q : VK} (hd : ∀ n, d = some n → 0 ≤ n) (q2 : SqT K H wa (ps.map V.ref)) (q3 : ShAll C H ps ws)
    (k : ∀ (H' : Hp) (wa' : Addr) (ps' : List Addr), Same H H' → SqT K H' wa' (ps'.map V.ref) → ShAll C H' ps' (cutO d ws) → Q (.ref wa') H') : rSlA K (.ref wa) none d H Q := by
  refine ⟨wa, _, rfl, q2, fun z => ?_, fun _ p hp => ?_⟩
  · have e : cutO d ps = ps := cutO_all hd (by rw [List.length_map] at z; exact z)
    have q := q3.cutO d
    rw [e] at q
    exact k H wa ps (Same.refl H) q2 q
  · refine k _ p (cutO d ps) (same1 hp) ?_ ((q3.cutO d).mono (same1 hp))
    rw [cut_any hd, cutO_map]
    exact SqT.of upd_same
theorem part_dv {d : Option Int} {H : Hp} {Q : Option Int → Hp → Prop} (h : Q d H) : (dv d = .non ∧ Q none H) ∨ ∃ i, dv d = .int i ∧ Q (some i) H := by
  cases d with
  | none => exact .inl ⟨rfl, h⟩
  | some n => exact .inr ⟨n, rfl, h⟩
theorem cutO_pos {d : Option Int} {ws : W2} (hd : ∀ n, d = some n → 1 ≤ n) (h : 1 ≤ ws.length) : 1 ≤ (cutO d ws).length := by
  cases d with
  | none => exact h
  | some n =>
    have := hd n rfl
    show 1 ≤ (ws.take n.toNat).length
    rw [List.length_take]
    omega
theorem cutO_le {d : Option Int} {ws : W2} : (cutO d ws).length ≤ ws.length := by
  cases d with
  | none => exact Nat.le_refl _
  | some n =>
    show (ws.take n.toNat).length ≤ _
    rw [List.length_take]
    omega
/-- lists may change, nothing else -/
def Keep (H H' : Hp) : Prop := ∀ b o, H b = some o → (∀ xs, o ≠ .lst xs) → H' b = some o
theorem Keep.tup {K : PySem.W.Frag} {H H' : Hp} {a : Addr} {xs : List V} (k : Keep H H') (h : SqT K H a xs) : SqT K H' a xs :=
  h.elim (fun h => .inl (h.elim (fun h => .inl (k _ _ h (fun _ z => nomatch z))) fun ⟨o, h⟩ => .inr ⟨o, k _ _ h (fun _ z => nomatch z)⟩)) fun h => .inr h
theorem Keep.all {C : Addr} {H H' : Hp} {ps : List Addr} {ws : W2} (k : Keep H H') (h : ShAll C H ps ws) : ShAll C H' ps ws := ⟨h.1, fun i p x a b => by
  obtain ⟨dx, e⟩ := h.2 i p x a b
  exact ⟨dx, k _ _ e (fun _ z => nomatch z)⟩⟩
theorem Keep.span {K : PySem.W.Frag} {C : Addr} {H H' : Hp} {told : List (Option Int × W2)} {i : Nat} {s : Addr} (k : Keep H H') (h : SpanOf K C H told i s) : SpanOf K C H' told i s := by
  obtain ⟨x, e, wa, a, ps, b, c⟩ := h
  exact ⟨x, e, wa, k.tup a, ps, k.tup b, k.all c⟩
theorem SpanOf.mono {K : PySem.W.Frag} {C : Addr} {H H' : Hp} {told : List (Option Int × W2)} {i : Nat} {s : Addr} (h : SpanOf K C H told i s) (k : Same H H') : SpanOf K C H' told i s := Keep.span (fun b o e _ => k b o e) h
theorem keep_lst {H : Hp} {l : Addr} {xs ys : List V} (h : H l = some (.lst xs)) : Keep H (upd H l (.lst ys)) := fun b o e n => by
  rw [upd_ne (fun z => by rw [z, h] at e; exact n _ (Option.some.inj e).symm)]
  exact e
theorem if_stop {d : Option Int} {A B : Prop} (hn : d = none → A) (hs : ∀ n, d = some n → B) : if decide (dv d = V.non) = true then A else B := by
  cases d with
  | none =>
    rw [if_pos (decide_eq_true (show dv none = V.non from rfl))]
    exact hn rfl
  | some n =>
    rw [if_neg (by simp [dv])]
    exact hs n rfl
section
variable {P : Program} {w : World} {K : PySem.W.Frag} {mg : Str → Option Value} {base : Heap}
theorem scSpans : FnScope ["stretches", "spans", "begin", "days", "word", "stop"] ["stretches"] (defScope d_spans_of) := ⟨rfl, rfl, rfl, by decide +kernel, rfl, by decide +kernel, by decide +kernel⟩
theorem ok_spans {f fL C : Addr} {fd fdL : FuncData} (F : Fun K "spans_of" "spans_of" d_spans_of f fd) (GL : FnOk P w K mg base CX0 3 fL fdL ["word"] (spLeast K C)) (mL : mg "least_word" = some (.ref fL)) (kL : PySem.W.keepIn K (.ref fL) = true) (bL : Binds K fdL ["word"] []) :
    FnOk P w K mg base CX0 4 f fd ["stretches"] (spSpans K C) := by
  refine F.ok scSpans (fun vs H Q E h => ?_) (fun cdv A outer s H vs Q E hr h => ?_)
  · obtain ⟨a, ts, told, rfl, _⟩ := h
    rfl
  · obtain ⟨a, ts, told, rfl, ha, lt, hst, ok, kq⟩ := h
    refine ⟨_, pss_cons (ps_set (i := 1) scSpans.nd rfl (Or.inl rfl) (pe_lst pa_nil))
      (pss_cons (ps_set (i := 2) scSpans.nd rfl (Or.inl rfl) pe_int)
      (pss_cons (ps_for PassesOwn.never rfl (pi_list (pv 0)) (pg_tup (by rfl) (pgs_cons (pg_name (i := 3) scSpans.nd rfl (.inl rfl)) (pgs_cons (pg_name (i := 4) scSpans.nd rfl (.inl rfl)) pgs_nil)))
        (pss_cons (ps_set (i := 5) scSpans.nd rfl (Or.inl rfl) (pe_ifExp (pt_cmp (pc_isN (pv 3))) pe_non (pe_op op_add (pv 2) (pv 3))))
        (pss_cons (ps_expr (pe_bm PySem.F.plainAttrs_list PySem.F.slot_list_append PySem.F.type_list_append mt_append (pv 1) (pa_cons (pe_tup (pa_cons (pv 2) (pa_cons (pv 5) (pa_cons (pe_call GL hr rfl mL kL bL .nil pass0 (pa_cons (pe_slice sl_tupA (pv 4) po_none (po_any (pv 3))) pa_nil)) pa_nil)))) pa_nil)))
        (pss_one (ps_set (i := 2) scSpans.nd rfl (Or.inl rfl) (pv 5))))))
      (pss_one (ps_ret (pv 1))))), ?_⟩
    refine ⟨(by show 0 ≤ sizeLine; decide), fun l hl => ?_⟩
    have sm0 : Same H (upd H l (.lst [])) := same1 hl
    refine ⟨_, rfl, a, rfl, ⟨_, sm0.seq ha⟩, for_list (K := K) (a := a) (xs := ts.map V.ref) (fun i σ G => ∃ (ss : List Addr) (vb v3 v4 v5 : Option V), σ = [some (.ref a), some (.ref l), vb, v3, v4, v5] ∧ ss.length = i ∧ G l = some (.lst (ss.map V.ref)) ∧ Same H G ∧
      (∀ (k : Nat) (s : Addr), ss[k]? = some s → SpanOf K C G told k s) ∧ (i < told.length → vb = some (.int (bAt told i)))) ⟨[], _, _, _, _, rfl, rfl, upd_same, sm0, (fun k s (h : ([] : List Addr)[k]? = some s) => by simp at h), fun _ => rfl⟩ ?_ ?_ ?_⟩
    · rintro i σ G _ ⟨ss, _, _, _, _, _, _, _, sm, _⟩
      exact sm.seq ha
    · rintro i x σ G hx ⟨ss, vb, v3, v4, v5, rfl, sl, gl, sm, hsp, hb⟩
      rw [List.getElem?_map] at hx
      obtain ⟨t, ht, rfl⟩ := Option.map_eq_some_iff.mp hx
      have il : i < told.length := by
        have := (List.getElem?_eq_some_iff.mp ht).1
        omega
      have hb := hb il
      subst hb
      obtain ⟨⟨d, ws⟩, hxi⟩ : ∃ x, told[i]? = some x := ⟨_, List.getElem?_eq_getElem il⟩
      obtain ⟨wa, q1, ps, q2, q3⟩ := (hst i t _ ht hxi).mono sm
      have dn : ∀ n, d = some n → 1 ≤ n := fun n e => ok.days i _ n hxi e
      have dn0 : ∀ n, d = some n → 0 ≤ n := fun n e => by have := dn n e; omega
      have ob := ok.open_ i _ hxi
      refine ⟨t, _, rfl, q1, rfl, _, _, rfl, _, _, rfl, rfl, ?_⟩
      refine ⟨_, rfl, _, rfl, if_stop (fun e => ?_) (fun n e => ?_)⟩
      · subst e
        refine ⟨_, rfl, .inl ⟨rfl, _, SqL.of gl⟩, _, rfl, _, rfl, _, rfl, _, rfl, .inl ⟨rfl, sl_word (K := K) (C := C) (d := none) dn0 q2 q3 fun G1 wa' ps' s1 h1 h2 => ?_⟩⟩
        refine ⟨wa', ps', _, rfl, h1, h2, cutO_pos dn (ok.word i _ hxi).1, Nat.le_trans cutO_le (Nat.le_trans (ok.word i _ hxi).2 (by decide)), fun G2 q m s2 hm hq => ?_⟩
        refine ⟨(by show 3 ≤ sizeLine; decide), fun p hp => ?_⟩
        have s3 : Same G (upd G2 p (.tup [.int (bAt told i), .non, .ref q])) := s1.trans (s2.trans (same1 hp))
        have hp3 : SqT K (upd G2 p (.tup [.int (bAt told i), .non, .ref q])) p [.int (bAt told i), .non, .ref q] := SqT.of upd_same
        have hq3 := Same.tup (same1 (o := .tup [.int (bAt told i), .non, .ref q]) hp) hq
        have h3 := (h2.mono s2).mono (same1 (o := .tup [.int (bAt told i), .non, .ref q]) hp)
        generalize upd G2 p (.tup [.int (bAt told i), .non, .ref q]) = G3 at *
        have gl3 := s3 _ _ gl
        refine ⟨l, _, _, rfl, rfl, gl3, (by rw [List.length_map, sl]; exact Nat.lt_of_lt_of_le il (Nat.le_trans ok.few (by show 60 ≤ sizeLine; decide))), ?_⟩
        refine ⟨_, rfl, ss ++ [p], _, _, _, _, rfl, by rw [List.length_append, sl]; rfl, by rw [List.map_append]; exact upd_same, fun b o e => ?_, fun k s hk => ?_, fun hlt => ?_⟩
        · rw [upd_ne (ne_of_none e hl)]
          exact s3 _ _ (sm _ _ e)
        · refine (keep_lst gl3).span ?_
          by_cases hkl : k < ss.length
          · rw [List.getElem?_append_left hkl] at hk
            exact (hsp k s hk).mono s3
          · rw [List.getElem?_append_right (by omega)] at hk
            have k0 : k - ss.length = 0 := by
              have := (List.getElem?_eq_some_iff.mp hk).1
              simp at this
              omega
            rw [k0] at hk
            have ep : p = s := by simpa using hk
            have ki : k = i := by omega
            subst ep ki
            refine ⟨_, hxi, q, hp3, ps'.take m, hq3, ?_⟩
            rw [leastW_of hm]
            exact h3.take m
        · exact absurd (ob.mp rfl) (by omega)
      · subst e
        refine ⟨_, rfl, _, rfl, _, _, rfl, rfl, ?_⟩
        refine ⟨_, rfl, .inl ⟨rfl, _, SqL.of gl⟩, _, rfl, _, rfl, _, rfl, _, rfl, .inr ⟨n, rfl, sl_word (K := K) (C := C) (d := some n) dn0 q2 q3 fun G1 wa' ps' s1 h1 h2 => ?_⟩⟩
        refine ⟨wa', ps', _, rfl, h1, h2, cutO_pos dn (ok.word i _ hxi).1, Nat.le_trans cutO_le (Nat.le_trans (ok.word i _ hxi).2 (by decide)), fun G2 q m s2 hm hq => ?_⟩
        refine ⟨(by show 3 ≤ sizeLine; decide), fun p hp => ?_⟩
        have s3 : Same G (upd G2 p (.tup [.int (bAt told i), .int (bAt told i + n), .ref q])) := s1.trans (s2.trans (same1 hp))
        have hp3 : SqT K (upd G2 p (.tup [.int (bAt told i), .int (bAt told i + n), .ref q])) p [.int (bAt told i), .int (bAt told i + n), .ref q] := SqT.of upd_same
        have hq3 := Same.tup (same1 (o := .tup [.int (bAt told i), .int (bAt told i + n), .ref q]) hp) hq
        have h3 := (h2.mono s2).mono (same1 (o := .tup [.int (bAt told i), .int (bAt told i + n), .ref q]) hp)
        generalize upd G2 p (.tup [.int (bAt told i), .int (bAt told i + n), .ref q]) = G3 at *
        have gl3 := s3 _ _ gl
        refine ⟨l, _, _, rfl, rfl, gl3, (by rw [List.length_map, sl]; exact Nat.lt_of_lt_of_le il (Nat.le_trans ok.few (by show 60 ≤ sizeLine; decide))), ?_⟩
        refine ⟨_, rfl, ss ++ [p], _, _, _, _, rfl, by rw [List.length_append, sl]; rfl, by rw [List.map_append]; exact upd_same, fun b o e => ?_, fun k s hk => ?_, fun hlt => ?_⟩
        · rw [upd_ne (ne_of_none e hl)]
          exact s3 _ _ (sm _ _ e)
        · refine (keep_lst gl3).span ?_
          by_cases hkl : k < ss.length
          · rw [List.getElem?_append_left hkl] at hk
            exact (hsp k s hk).mono s3
          · rw [List.getElem?_append_right (by omega)] at hk
            have k0 : k - ss.length = 0 := by
              have := (List.getElem?_eq_some_iff.mp hk).1
              simp at this
              omega
            rw [k0] at hk
            have ep : p = s := by simpa using hk
            have ki : k = i := by omega
            subst ep ki
            refine ⟨_, hxi, q, hp3, ps'.take m, hq3, ?_⟩
            rw [leastW_of hm]
            exact h3.take m
        · rw [bAt_next hxi]
          rfl
    · rintro σ G ⟨ss, vb, v3, v4, v5, rfl, sl, gl, sm, hsp, hb⟩
      refine ⟨_, rfl, kq G l ss sm hl gl (by rw [sl, List.length_map, lt]) hsp⟩
end
end K11

namespace K11
open PySem PySem.Spec PyProof.Rows L2
/-! ### the share on a day -/
def spShareOn (K : PySem.W.Frag) (C : Addr) : Sp := fun vs H Q _ => ∃ (s : Addr) (day b : Int) (e : Option Int) (ws : W2), vs = [.ref s, .int day] ∧ SpanAt K C H s b e ws ∧ 1 ≤ ws.length ∧
  ∀ (p : Addr) (x : Int × Int), ws[((day - b) % (ws.length : Int)).toNat]? = some x → ShAt C H p x.1 x.2 → Q (.ref p) H
section
variable {P : Program} {w : World} {K : PySem.W.Frag} {mg : Str → Option Value} {base : Heap}
theorem scShareOn : FnScope ["span", "day", "begin", "_", "word"] ["span", "day"] (defScope d_share_on) := ⟨rfl, rfl, rfl, by decide +kernel, rfl, by decide +kernel, by decide +kernel⟩
theorem ok_share_on {f C : Addr} {fd : FuncData} (F : Fun K "share_on" "share_on" d_share_on f fd) (B : TxtB mg) : FnOk P w K mg base CX0 1 f fd ["span", "day"] (spShareOn K C) := by
  refine F.ok scShareOn (fun vs H Q E h => ?_) (fun cdv A outer s H vs Q E hr h => ?_)
  · obtain ⟨s, day, b, e, ws, rfl, _⟩ := h
    rfl
  · obtain ⟨t, day, b, e, ws, rfl, ⟨wa, q1, ps, q2, q3⟩, l1, kq⟩ := h
    refine ⟨_, pss_cons (ps_asg (pv 0) (pg_tup (by rfl) (pgs_cons (pg_name (i := 2) scShareOn.nd rfl (.inl rfl)) (pgs_cons (pg_name (i := 3) scShareOn.nd rfl (.inl rfl)) (pgs_cons (pg_name (i := 4) scShareOn.nd rfl (.inl rfl)) pgs_nil)))))
      (pss_one (ps_ret (pe_ix ix_tup (pv 4) (pe_op op_mod (pe_op op_sub (pv 1) (pv 2)) (pe_callB call_len_seq (by rfl) B.len PySem.boot_len (pa_cons (pv 4) pa_nil))) (fun _ _ => rfl)))), ?_⟩
    have lp : (ps.map V.ref).length = ws.length := by rw [List.length_map, q3.1]
    refine ⟨_, rfl, t, _, rfl, q1, rfl, _, _, rfl, _, _, rfl, _, _, rfl, rfl, ?_⟩
    refine ⟨_, rfl, _, rfl, _, rfl, _, _, rfl, rfl, _, rfl, wa, _, rfl, .inr q2, _, _, rfl, rfl, (by rw [lp]; omega), ?_⟩
    rw [lp]
    have n0 := Int.emod_nonneg (day - b) (show (ws.length : Int) ≠ 0 by omega)
    have n1 := Int.emod_lt_of_pos (day - b) (show (0 : Int) < (ws.length : Int) by omega)
    have hk : ((day - b) % (ws.length : Int)).toNat < ws.length := by omega
    have hk' : ((day - b) % (ws.length : Int)).toNat < ps.length := by rw [q3.1]; exact hk
    refine ⟨wa, _, _, .ref (ps[((day - b) % (ws.length : Int)).toNat]), rfl, rfl, q2, at_k n0 (by rw [List.getElem?_map, List.getElem?_eq_getElem hk']; rfl), ?_⟩
    exact kq _ _ (List.getElem?_eq_getElem hk) (q3.2 _ _ _ (List.getElem?_eq_getElem hk') (List.getElem?_eq_getElem hk))
end
end K11

namespace K11
open PySem PySem.Spec PyProof.Rows L2
/-! ### the number of the span of a day -/
theorem bAt_zero (told : List (Option Int × W2)) : bAt told 0 = 0 := rfl
theorem bAt_mono {told : List (Option Int × W2)} (ok : Told told) : ∀ (n i : Nat), i + n < told.length → bAt told i ≤ bAt told (i + n)
  | 0, i, _ => Int.le_refl _
  | n + 1, i, h => by
    have ih := bAt_mono ok n i (by omega)
    have hx : told[i + n]? = some told[i + n] := List.getElem?_eq_getElem (by omega)
    have e := bAt_next hx
    have ob := ok.open_ _ _ hx
    cases q : told[i + n].1 with
    | none => exact absurd (ob.mp q) (by omega)
    | some d =>
      have := ok.days _ _ d hx q
      rw [q] at e
      rw [show i + (n + 1) = i + n + 1 from rfl, e]
      show bAt told i ≤ bAt told (i + n) + d
      omega
end K11

namespace K11
open PySem PySem.Spec PyProof.Rows L2
/-! ### a word by its least part is the word -/
theorem per_at {ws : W2} {m : Nat} (hp : Per ws m) (h1 : 1 ≤ m) : ∀ i, i < ws.length → ws[i]? = (ws.take m)[i % m]? := by
  intro i
  induction i using Nat.strongRecOn with
  | _ i ih =>
    intro hi
    by_cases c : i < m
    · rw [Nat.mod_eq_of_lt c, List.getElem?_take_of_lt c]
    · have e : ws[i]? = (ws.drop m)[i - m]? := by
        rw [List.getElem?_drop]
        congr 1
        omega
      rw [e, hp.2, List.getElem?_take_of_lt (by omega), ih (i - m) (by omega) (by omega)]
      congr 1
      exact (Nat.mod_eq_sub_mod (by omega)).symm
theorem per_all (ws : W2) : Per ws ws.length := ⟨Nat.dvd_refl _, by rw [List.drop_length, Nat.sub_self, List.take_zero]⟩
theorem least_from {ws : W2} : ∀ k, 1 ≤ k → Per ws k → ∃ m, Least ws m := by
  intro k
  induction k using Nat.strongRecOn with
  | _ k ih =>
    intro h1 hp
    by_cases c : ∃ j, 1 ≤ j ∧ j < k ∧ Per ws j
    · obtain ⟨j, a, b, d⟩ := c
      exact ih j b a d
    · exact ⟨k, h1, hp, fun j a b d => c ⟨j, a, b, d⟩⟩
theorem least_ex {ws : W2} (h : 1 ≤ ws.length) : ∃ m, Least ws m := least_from ws.length h (per_all ws)
theorem leastW_len {ws : W2} (h : 1 ≤ ws.length) : 1 ≤ (leastW ws).length ∧ (leastW ws).length ∣ ws.length := by
  obtain ⟨m, hm⟩ := least_ex h
  have hd := hm.2.1.1
  have hle := Nat.le_of_dvd h hd
  rw [leastW_of hm, List.length_take, Nat.min_eq_left hle]
  exact ⟨hm.1, hd⟩
theorem leastW_at {ws : W2} (h : 1 ≤ ws.length) (x : Nat) : (leastW ws)[x % (leastW ws).length]? = ws[x % ws.length]? := by
  obtain ⟨m, hm⟩ := least_ex h
  have hd := hm.2.1.1
  have hle := Nat.le_of_dvd h hd
  rw [leastW_of hm, List.length_take, Nat.min_eq_left hle, per_at hm.2.1 hm.1 _ (Nat.mod_lt _ (by omega)), Nat.mod_mod_of_dvd _ hd]
/-- the share of a day, as it is told -/
def onV : List (Option Int × W2) → Int → Option (Int × Int)
  | [], _ => none
  | (d, ws) :: r, day => match d with
    | none => ws[(day % (ws.length : Int)).toNat]?
    | some n => if day < n then ws[(day % (ws.length : Int)).toNat]? else onV r (day - n)
theorem bAt_cons (x : Option Int × W2) (r : List (Option Int × W2)) (k : Nat) : bAt (x :: r) (k + 1) = x.1.getD 0 + bAt r k := by
  unfold bAt
  simp
/-- within the k-th stretch -/
theorem onV_at : ∀ (told : List (Option Int × W2)) (k : Nat) (d : Option Int) (ws : W2) (day : Int), told[k]? = some (d, ws) → (∀ j x, j < k → told[j]? = some x → ∃ n, x.1 = some n ∧ 1 ≤ n) → bAt told k ≤ day → (∀ n, d = some n → day < bAt told k + n) →
    onV told day = ws[((day - bAt told k) % (ws.length : Int)).toNat]?
  | [], k, d, ws, day, h, _, _, _ => by simp at h
  | x :: r, 0, d, ws, day, h, _, hb, hn => by
    have e : x = (d, ws) := by simpa using h
    subst e
    show onV ((d, ws) :: r) day = _
    rw [bAt_zero, Int.sub_zero]
    cases d with
    | none => rfl
    | some n =>
      have := hn n rfl
      rw [bAt_zero] at this
      show (if day < n then _ else _) = _
      rw [if_pos (by omega)]
  | x :: r, k + 1, d, ws, day, h, hp, hb, hn => by
    obtain ⟨n, e, n1⟩ := hp 0 x (Nat.succ_pos k) rfl
    obtain ⟨dx, wx⟩ := x
    have e : dx = some n := e
    subst e
    have hb0 : 0 ≤ bAt r k := by
      have : ∀ (l : List (Option Int × W2)) (k : Nat), (∀ j x, j < k → l[j]? = some x → ∃ n, x.1 = some n ∧ 1 ≤ n) → 0 ≤ bAt l k := by
        intro l
        induction l with
        | nil =>
          intro k _
          unfold bAt
          simp
        | cons y l ih =>
          intro k hq
          cases k with
          | zero => rw [bAt_zero]; exact Int.le_refl _
          | succ k =>
            rw [bAt_cons]
            obtain ⟨n', e', n1'⟩ := hq 0 y (Nat.succ_pos k) rfl
            have := ih k (fun j x hj hx => hq (j + 1) x (by omega) (by simpa using hx))
            rw [e']
            show 0 ≤ n' + bAt l k
            omega
      exact this r k (fun j x hj hx => hp (j + 1) x (by omega) (by simpa using hx))
    rw [bAt_cons] at hb hn ⊢
    have hb' : n + bAt r k ≤ day := hb
    show (if day < n then _ else onV r (day - n)) = _
    rw [if_neg (by omega), onV_at r k d ws (day - n) (by simpa using h) (fun j x hj hx => hp (j + 1) x (by omega) (by simpa using hx)) (by omega) (fun m hm => by
      have : day < n + bAt r k + m := hn m hm
      omega)]
    show _ = ws[((day - (n + bAt r k)) % (ws.length : Int)).toNat]?
    rw [show day - n - bAt r k = day - (n + bAt r k) from by omega]
/-- the least part of what is told within the stretch gives the same share -/
theorem cut_at {d : Option Int} {ws : W2} {x : Int} (h1 : 1 ≤ ws.length) (hd : ∀ n, d = some n → 1 ≤ n) (x0 : 0 ≤ x) (hx : ∀ n, d = some n → x < n) :
    (leastW (cutO d ws))[(x % ((leastW (cutO d ws)).length : Int)).toNat]? = ws[(x % (ws.length : Int)).toNat]? := by
  obtain ⟨y, rfl⟩ : ∃ y : Nat, x = (y : Int) := ⟨x.toNat, (Int.toNat_of_nonneg x0).symm⟩
  rw [← Int.natCast_emod, ← Int.natCast_emod, Int.toNat_natCast, Int.toNat_natCast, leastW_at (cutO_pos hd h1)]
  cases d with
  | none => rfl
  | some n =>
    have h2 := hd n rfl
    have h3 := hx n rfl
    show (ws.take n.toNat)[y % (ws.take n.toNat).length]? = _
    rw [List.length_take]
    by_cases c : n.toNat ≤ ws.length
    · rw [Nat.min_eq_left c, Nat.mod_eq_of_lt (show y < n.toNat by omega), Nat.mod_eq_of_lt (show y < ws.length by omega), List.getElem?_take_of_lt (by omega)]
    · rw [Nat.min_eq_right (by omega), List.take_of_length_le (by omega)]
end K11

namespace K11
open PySem PySem.Spec PyProof.Rows L2
/-! ### is_whole of anything, is_day, on -/
/-- what a value is, for is_whole: its type, and whether that is int, bool -/
def Kind (K : PySem.W.Frag) (H : Hp) (v : V) (bi bb : Bool) : Prop := ∃ t, TyX K H v t ∧ PySem.W.kitOne K t (.type "int") = some bi ∧ PySem.W.kitOne K t (.type "bool") = some bb
def spWholeX (K : PySem.W.Frag) : Sp := fun vs H Q _ => ∃ (v : V) (bi bb : Bool), vs = [v] ∧ Kind K H v bi bb ∧ Q (.bl (bi && !bb)) H
theorem kind_int {K : PySem.W.Frag} {H : Hp} (i : Int) : Kind K H (.int i) true false := ⟨_, TyX.base (TyOf.int i), kit_ty (by decide +kernel), kit_ty (by decide +kernel)⟩
def spBetween (K : PySem.W.Frag) : Sp := fun vs H Q _ => ∃ (v : V) (a b : Int) (bi bb : Bool), vs = [v, .int a, .int b] ∧ Kind K H v bi bb ∧ ((∃ i, v = .int i ∧ bi = true ∧ bb = false ∧ Q (.bl (decide (a ≤ i) && decide (i ≤ b))) H) ∨ ((bi && !bb) = false ∧ Q (.bl false) H))
def spDay (K : PySem.W.Frag) : Sp := fun vs H Q _ => ∃ (v : V) (bi bb : Bool), vs = [v] ∧ Kind K H v bi bb ∧ ((∃ i, v = .int i ∧ bi = true ∧ bb = false ∧ Q (.bl (decide (0 ≤ i) && decide (i ≤ 1000000000000000))) H) ∨ ((bi && !bb) = false ∧ Q (.bl false) H))
section
variable {P : Program} {w : World} {K : PySem.W.Frag} {mg : Str → Option Value} {base : Heap}
theorem ok_wholeX {f : Addr} {fd : FuncData} (F : Fun K "is_whole" "is_whole" d_is_whole f fd) (h1 : mg "isinstance" = none) (h2 : mg "int" = none) (h3 : mg "bool" = none) : FnOk P w K mg base CX0 1 f fd ["thing"] (spWholeX K) := by
  refine F.ok scWhole (fun vs H Q E h => ?_) (fun cdv A outer s H vs Q E hr h => ?_)
  · obtain ⟨v, _, _, rfl, _⟩ := h
    rfl
  · obtain ⟨v, bi, bb, rfl, ⟨t, ht, k1, k2⟩, kq⟩ := h
    refine ⟨_, pss_one (ps_ret (pe_and (pe_callB call_isi (by rfl) h1 (by decide +kernel) (pa_cons (pv 0) (pa_cons (pe_bltn (v := .ty "int") (by rfl) h2 (by decide +kernel) rfl) pa_nil)))
      (pe_one (pe_not (pe_callB call_isi (by rfl) h1 (by decide +kernel) (pa_cons (pv 0) (pa_cons (pe_bltn (v := .ty "bool") (by rfl) h3 (by decide +kernel) rfl) pa_nil))))))), ?_⟩
    refine ⟨_, rfl, _, _, t, _, bi, rfl, ClsV.ty _, ht, k1, bi, rfl, ?_⟩
    cases bi with
    | false => exact iteF kq
    | true => exact iteT ⟨_, rfl, _, _, t, _, bb, rfl, ClsV.ty _, ht, k2, bb, rfl, kq⟩
theorem scBetween : FnScope ["thing", "least", "most"] ["thing", "least", "most"] (defScope d_is_between) := ⟨rfl, rfl, rfl, by decide +kernel, rfl, by decide +kernel, by decide +kernel⟩
theorem ok_between {f fW : Addr} {fd fdW : FuncData} (F : Fun K "is_between" "is_between" d_is_between f fd) (GW : FnOk P w K mg base CX0 1 fW fdW ["thing"] (spWholeX K)) (mW : mg "is_whole" = some (.ref fW)) (kW : PySem.W.keepIn K (.ref fW) = true) (bW : Binds K fdW ["thing"] []) :
    FnOk P w K mg base CX0 2 f fd ["thing", "least", "most"] (spBetween K) := by
  refine F.ok scBetween (fun vs H Q E h => ?_) (fun cdv A outer s H vs Q E hr h => ?_)
  · obtain ⟨v, _, _, _, _, rfl, _⟩ := h
    rfl
  · obtain ⟨v, a, b, bi, bb, rfl, hk, kq⟩ := h
    refine ⟨_, pss_one (ps_ret (pe_and (pe_call GW hr rfl mW kW bW .nil pass0 (pa_cons (pv 0) pa_nil)) (pe_one (pe_chain op_le op_le (pv 1) (pv 0) (pv 2))))), ?_⟩
    refine ⟨_, rfl, v, bi, bb, rfl, hk, bi && !bb, rfl, ?_⟩
    rcases kq with ⟨i, rfl, rfl, rfl, q⟩ | ⟨e, q⟩
    · refine iteT ⟨_, rfl, _, rfl, _, _, rfl, rfl, _, rfl, ?_⟩
      refine ite2 (fun h => ?_) (fun h => ?_)
      · refine ⟨_, rfl, _, _, rfl, rfl, ?_⟩
        rw [h] at q
        exact q
      · rw [show decide (a ≤ i) = false from by simpa using h] at q
        exact q
    · rw [e]
      exact iteF q
theorem scDay : FnScope ["thing"] ["thing"] (defScope d_is_day) := ⟨rfl, rfl, rfl, by decide +kernel, rfl, by decide +kernel, by decide +kernel⟩
theorem ok_day {f fW : Addr} {fd fdW : FuncData} {tk : Tok} (F : Fun K "is_day" "is_day" d_is_day f fd) (GW : FnOk P w K mg base CX0 2 fW fdW ["thing", "least", "most"] (spBetween K)) (mW : mg "is_between" = some (.ref fW)) (kW : PySem.W.keepIn K (.ref fW) = true) (bW : Binds K fdW ["thing", "least", "most"] [])
    (hL : mg "LAST_DAY" = some (.int 1000000000000000 tk)) : FnOk P w K mg base CX0 3 f fd ["thing"] (spDay K) := by
  refine F.ok scDay (fun vs H Q E h => ?_) (fun cdv A outer s H vs Q E hr h => ?_)
  · obtain ⟨v, _, _, rfl, _⟩ := h
    rfl
  · obtain ⟨v, bi, bb, rfl, hk, kq⟩ := h
    refine ⟨_, pss_one (ps_ret (pe_call GW hr rfl mW kW bW .nil pass0 (pa_cons (pv 0) (pa_cons pe_int (pa_cons (pe_glob (v := .int 1000000000000000) rfl hL ⟨tk, rfl⟩) pa_nil))))), ?_⟩
    exact ⟨_, rfl, v, 0, 1000000000000000, bi, bb, rfl, hk, kq⟩
end
end K11

namespace K11
open PySem PySem.Spec PyProof.Rows L2
/-! ### a course, and on -/
/-- an error's class, raised with a text -/
structure ErrC (K : PySem.W.Frag) (mg : Str → Option Value) (x : Str) (CN : Addr) : Prop where
  gN : mg x = some (.ref CN)
  xN : PySem.W.excIn K CN [.type "ValueError", .type "Exception", .type "BaseException", .type "object"] "ValueError.__new__" = true
  kN : PySem.W.keepIn K (.ref CN) = true
  bN : PySem.W.subIn K (.ref CN) (.type "BaseException") = some true
  tN : PySem.W.typeIn K (.ref CN) = some (.type "type")
structure CrsC (K : PySem.W.Frag) (CC : Addr) : Prop where
  cl : L2.Cls K CC
  no : NoAttr K CC "spans"
def crs (l : Addr) : List (Str × V) := putF "spans" (.ref l) []
theorem crs_spans (l : Addr) : (crs l).lookup ("spans" : Str) = some (.ref l) := by
  unfold crs
  rw [lookup_putF, if_pos rfl]
def CourseAt (K : PySem.W.Frag) (C CC : Addr) (H : Hp) (c : Addr) (told : List (Option Int × W2)) : Prop := ∃ (dx l : Addr) (ss : List Addr), H c = some (.ins CC dx (crs l)) ∧ SqL K H l (ss.map V.ref) ∧ ss.length = told.length ∧
  (∀ (i : Nat) (s : Addr), ss[i]? = some s → SpanOf K C H told i s) ∧ Told told
theorem CourseAt.mono {K : PySem.W.Frag} {C CC : Addr} {H H' : Hp} {c : Addr} {told : List (Option Int × W2)} (h : CourseAt K C CC H c told) (s : Same H H') : CourseAt K C CC H' c told := by
  obtain ⟨dx, l, ss, a, b, e, g, t⟩ := h
  exact ⟨dx, l, ss, s _ _ a, s.seq b, e, fun i x hx => (g i x hx).mono s, t⟩
/-- before the last stretch all have an end -/
theorem Told.ends {told : List (Option Int × W2)} (h : Told told) {j k : Nat} {x : Option Int × W2} (hj : j < k) (hk : k < told.length) (hx : told[j]? = some x) : ∃ n, x.1 = some n ∧ 1 ≤ n := by
  cases e : x.1 with
  | none => exact absurd ((h.open_ j x hx).mp e) (by omega)
  | some n => exact ⟨n, rfl, h.days j x n hx e⟩
end K11

namespace K11
open PySem PySem.Spec PyProof.Rows L2
theorem ty_tup {K : PySem.W.Frag} {H : Hp} {a : Addr} {xs : List V} (h : SqT K H a xs) : TyX K H (.ref a) (.type "tuple") := by
  rcases h with (h | ⟨o, h⟩) | ⟨o, its, n, hk, hc, _⟩
  · exact .base (.tup h)
  · exact .fTuple h
  · exact .kTuple hk hc
theorem ty_lst {K : PySem.W.Frag} {H : Hp} {a : Addr} {xs : List V} (h : SqL K H a xs) : TyX K H (.ref a) (.type "list") := by
  rcases h with (h | ⟨o, h⟩) | ⟨o, its, n, hk, hc, _⟩
  · exact .base (.lst h)
  · exact .base (.frz h)
  · exact .kList hk hc
end K11

namespace K11
open PySem PySem.Spec PyProof.Rows L2
/-! ### what may make a course: the good ones -/
structure TxtY (mg : Str → Option Value) (C : Addr) : Prop where
  isi : mg "isinstance" = none
  tuple : mg "tuple" = none
  list : mg "list" = none
  all : mg "all" = none
  any : mg "any" = none
  len : mg "len" = none
  sh : mg "Share" = some (.ref C)
def spWordG (K : PySem.W.Frag) (C : Addr) : Sp := fun vs H Q _ => ∃ (wa : Addr) (ws : W2), vs = [.ref wa] ∧ WordAt K C H wa ws ∧ 1 ≤ ws.length ∧ ws.length ≤ 60 ∧ ∀ H', Same H H' → Q (.bl true) H'
section
variable {P : Program} {w : World} {K : PySem.W.Frag} {mg : Str → Option Value} {base : Heap}
abbrev isWordN : List Str := ["thing", "share"]
theorem scWord : FnScope isWordN ["thing"] (defScope d_is_word) := ⟨rfl, rfl, rfl, by decide +kernel, rfl, by decide +kernel, by decide +kernel⟩
theorem ok_wordG {f C CN : Addr} {fd : FuncData} {tk : Tok} (F : Fun K "is_word" "is_word" d_is_word f fd) (Y : TxtY mg C) (T : Txt K mg C CN) (TI : TxtI K C) (hM : mg "MOST_SHARES" = some (.int 60 tk)) : FnOk P w K mg base CX0 1 f fd ["thing"] (spWordG K C) := by
  refine F.ok scWord (fun vs H Q E h => ?_) (fun cdv A outer s H vs Q E hr h => ?_)
  · obtain ⟨wa, _, rfl, _⟩ := h
    rfl
  · obtain ⟨wa, ws, rfl, ⟨ps, q2, q3⟩, l1, l2, kq⟩ := h
    refine ⟨_, pss_cons (ps_if (PW.pt (pw_or (pt_not (pt_val (pe_callB call_isi (by rfl) Y.isi (by decide +kernel) (pa_cons (pv 0) (pa_cons (pe_bltn (v := .ty "tuple") (by rfl) Y.tuple (by decide +kernel) rfl) pa_nil)))))
          (pw_or1 (pt_not (pt_chain op_le op_le pe_int (pe_callB call_len_seq (by rfl) Y.len PySem.boot_len (pa_cons (pv 0) pa_nil)) (pe_glob (v := .int 60) rfl hM ⟨tk, rfl⟩)))))) (pss_one (ps_ret pe_bl)) pss_nil)
      (pss_one (ps_ret (pe_callB (cr_all rfl) (by rfl) Y.all (by decide +kernel) (pa_cons
        (pe_lc (own := [("share", 1)]) (g := gName 1) (by rfl) scWord.nd (pi_tup (pv 0)) (blkOk_by (own := [("share", 1)]) (N := isWordN) (sc := defScope d_is_word) (by decide +kernel)) (fun _ _ _ _ _ => pg_name (i := 1) scWord.nd rfl (.inl rfl)) (fun _ _ _ _ _ => pts_nil)
          (fun _ _ _ _ _ => pe_callB (show CallR _ (.builtin "isinstance") (rIsi K) from call_isi) (by rfl) Y.isi (by decide +kernel) (pa_cons (pv 1) (pa_cons (pe_glob (v := .ref C) rfl Y.sh rfl) pa_nil)))) pa_nil)))), ?_⟩
    have lp : (ps.map V.ref).length = ws.length := by rw [List.length_map, q3.1]
    refine ⟨_, rfl, _, _, _, _, true, rfl, ClsV.ty _, ty_tup q2, kit_ty (by decide +kernel), true, rfl, iteF ?_⟩
    refine ⟨_, rfl, wa, _, rfl, .inr q2, _, _, rfl, rfl, _, rfl, ?_⟩
    rw [lp, decide_eq_true (show (1 : Int) ≤ (ws.length : Int) by omega)]
    refine iteT ⟨_, _, rfl, rfl, _, rfl, ?_⟩
    rw [decide_eq_true (show (ws.length : Int) ≤ 60 by omega)]
    refine iteF ?_
    refine ⟨_, rfl, wa, rfl, ⟨_, q2⟩, fun D hD => ?_⟩
    refine lc_tup (K := K) (a := wa) (xs := ps.map V.ref) (fun i M => M D = some (.lst ((List.replicate i true).map V.bl)) ∧ Same H M) ⟨upd_same, same1 hD⟩ ?_ ?_ ?_
    · rintro i M _ ⟨_, sm⟩
      exact Same.tup sm q2
    · rintro i x M hx ⟨eD, sm⟩
      rw [List.getElem?_map] at hx
      obtain ⟨p, hp, rfl⟩ := Option.map_eq_some_iff.mp hx
      have il : i < ws.length := by
        have := (List.getElem?_eq_some_iff.mp hp).1
        rw [q3.1] at this
        exact this
      obtain ⟨dx, ep⟩ := (q3.mono sm).2 i p _ hp (List.getElem?_eq_getElem il)
      refine ⟨rfl, ?_⟩
      refine ⟨_, rfl, _, _, _, _, true, rfl, ClsV.own C, TyX.base (TyOf.ins ep T.cl TI.ha TI.hn TI.htk TI.hm), TI.me, _, eD, (by rw [List.length_map, List.length_replicate]; exact Nat.lt_of_lt_of_le il (Nat.le_trans l2 (show 60 ≤ sizeLine by decide))), ?_, fun b o e => ?_⟩
      · rw [List.replicate_succ', List.map_append]
        exact upd_same
      · rw [upd_ne (ne_of_none e hD)]
        exact sm _ _ e
    · rintro M ⟨eD, sm⟩
      refine ⟨D, _, rfl, SqL.of eD, ?_⟩
      rw [show (List.replicate (ps.map V.ref).length true).all id = true from by simp]
      exact kq M sm
end
end K11

namespace K11
open PySem PySem.Spec PyProof.Rows L2
def spStrG (K : PySem.W.Frag) (C : Addr) : Sp := fun vs H Q _ => ∃ (t : Addr) (x : Option Int × W2), vs = [.ref t] ∧ StrAt K C H t x ∧ 1 ≤ x.2.length ∧ x.2.length ≤ 60 ∧ (∀ n, x.1 = some n → 1 ≤ n) ∧ ∀ H', Same H H' → Q (.bl true) H'
def spStrsG (K : PySem.W.Frag) (C : Addr) : Sp := fun vs H Q _ => ∃ (a : Addr) (ts : List Addr) (told : List (Option Int × W2)), vs = [.ref a] ∧ SqL K H a (ts.map V.ref) ∧ ts.length = told.length ∧
  (∀ (i : Nat) (t : Addr) (x : Option Int × W2), ts[i]? = some t → told[i]? = some x → StrAt K C H t x) ∧ Told told ∧ ∀ H', Same H H' → Q (.bl true) H'
theorem ends_last {told : List (Option Int × W2)} (h : Told told) : atI ((told.map fun x => x.1.isNone).map V.bl) (-1) = some (V.bl true) := by
  have hl : told ≠ [] := fun z => by have := h.pos; rw [z] at this; simp at this
  have e : told = told.dropLast ++ [told.getLast hl] := (List.dropLast_concat_getLast hl).symm
  have g : told[told.length - 1]? = some (told.getLast hl) := by rw [← List.getLast?_eq_getElem?, List.getLast?_eq_getLast hl]
  have n : (told.getLast hl).1 = none := (h.open_ (told.length - 1) _ g).mpr (by have := h.pos; omega)
  rw [e, List.map_append, List.map_append]
  have := atI_last ((told.dropLast.map fun x => x.1.isNone).map V.bl) (V.bl true)
  rw [show [told.getLast hl].map (fun x => x.1.isNone) = [true] from by simp [n]]
  exact this
theorem ends_before {told : List (Option Int × W2)} (h : Told told) : ((told.map fun x => x.1.isNone).take (told.length - 1)).any id = false := by
  rw [List.any_eq_false]
  intro b hb
  obtain ⟨i, hi⟩ := List.mem_iff_getElem?.mp hb
  rw [List.getElem?_take] at hi
  split at hi
  · rename_i il
    rw [List.getElem?_map] at hi
    obtain ⟨x, hx, rfl⟩ := Option.map_eq_some_iff.mp hi
    obtain ⟨n, e, _⟩ := h.ends (j := i) (k := told.length - 1) il (by have := h.pos; omega) hx
    simp [e]
  · cases hi
section
variable {P : Program} {w : World} {K : PySem.W.Frag} {mg : Str → Option Value} {base : Heap}
theorem scStr : FnScope ["thing", "days", "word"] ["thing"] (defScope d_is_stretch) := ⟨rfl, rfl, rfl, by decide +kernel, rfl, by decide +kernel, by decide +kernel⟩
theorem ok_strG {f fW fH C : Addr} {fd fdW fdH : FuncData} (F : Fun K "is_stretch" "is_stretch" d_is_stretch f fd) (Y : TxtY mg C)
    (GW : FnOk P w K mg base CX0 1 fW fdW ["thing"] (spWordG K C)) (mW : mg "is_word" = some (.ref fW)) (kW : PySem.W.keepIn K (.ref fW) = true) (bW : Binds K fdW ["thing"] [])
    (GH : FnOk P w K mg base CX0 1 fH fdH ["thing"] (spWholeX K)) (mH : mg "is_whole" = some (.ref fH)) (kH : PySem.W.keepIn K (.ref fH) = true) (bH : Binds K fdH ["thing"] []) :
    FnOk P w K mg base CX0 2 f fd ["thing"] (spStrG K C) := by
  refine F.ok scStr (fun vs H Q E h => ?_) (fun cdv A outer s H vs Q E hr h => ?_)
  · obtain ⟨t, _, rfl, _⟩ := h
    rfl
  · obtain ⟨t, ⟨d, ws⟩, rfl, ⟨wa, q1, hw⟩, l1, l2, hd, kq⟩ := h
    refine ⟨_, pss_cons (ps_if (PW.pt (pw_or (pt_not (pt_val (pe_callB call_isi (by rfl) Y.isi (by decide +kernel) (pa_cons (pv 0) (pa_cons (pe_bltn (v := .ty "tuple") (by rfl) Y.tuple (by decide +kernel) rfl) pa_nil)))))
          (pw_or1 (pt_cmpR op_ne (pe_callB call_len_seq (by rfl) Y.len PySem.boot_len (pa_cons (pv 0) pa_nil)) pe_int (nomark _))))) (pss_one (ps_ret pe_bl)) pss_nil)
      (pss_cons (ps_asg (pv 0) (pg_tup (by rfl) (pgs_cons (pg_name (i := 1) scStr.nd rfl (.inl rfl)) (pgs_cons (pg_name (i := 2) scStr.nd rfl (.inl rfl)) pgs_nil))))
      (pss_one (ps_ret (pe_and (pe_call GW hr rfl mW kW bW .nil pass0 (pa_cons (pv 2) pa_nil)) (pe_one (pe_or (pe_cmp (pc_isN (pv 1))) (pe_one (pe_and (pe_call GH hr rfl mH kH bH .nil pass0 (pa_cons (pv 1) pa_nil)) (pe_one (pe_cmpR op_ge (pv 1) pe_int (nomark _)))))))))))
      , ?_⟩
    refine ⟨_, rfl, _, _, _, _, true, rfl, ClsV.ty _, ty_tup q1, kit_ty (by decide +kernel), true, rfl, iteF ?_⟩
    refine ⟨_, rfl, t, _, rfl, .inr q1, rfl, _, rfl, iteF ?_⟩
    refine ⟨_, rfl, t, _, rfl, q1, rfl, _, _, rfl, _, _, rfl, rfl, ?_⟩
    refine ⟨_, rfl, wa, ws, rfl, hw, l1, l2, fun H1 s1 => ⟨true, rfl, iteT ?_⟩⟩
    refine ⟨_, rfl, _, rfl, if_stop (fun e => ?_) (fun n e => ?_)⟩
    · exact kq H1 s1
    · have n1 := hd n e
      have e : d = some n := e
      subst e
      refine ⟨_, rfl, .int n, true, false, rfl, kind_int n, true, rfl, iteT ⟨_, rfl, _, _, rfl, rfl, ?_⟩⟩
      have q := kq H1 s1
      rw [show V.bl true = V.bl (decide ((1 : Int) ≤ n)) from by rw [decide_eq_true n1]] at q
      exact q
abbrev areN : List Str := ["things", "thing", "ends", "days", "_"]
theorem scAre : FnScope areN ["things"] (defScope d_are_stretches) := ⟨rfl, rfl, rfl, by decide +kernel, rfl, by decide +kernel, by decide +kernel⟩
theorem ok_areG {f fS C : Addr} {fd fdS : FuncData} {tk : Tok} (F : Fun K "are_stretches" "are_stretches" d_are_stretches f fd) (Y : TxtY mg C) (hM : mg "MOST_STRETCHES" = some (.int 60 tk))
    (GS : FnOk P w K mg base CX0 2 fS fdS ["thing"] (spStrG K C)) (mS : mg "is_stretch" = some (.ref fS)) (kS : PySem.W.keepIn K (.ref fS) = true) (bS : Binds K fdS ["thing"] []) :
    FnOk P w K mg base CX0 3 f fd ["things"] (spStrsG K C) := by
  refine F.ok scAre (fun vs H Q E h => ?_) (fun cdv A outer s H vs Q E hr h => ?_)
  · obtain ⟨a, _, _, rfl, _⟩ := h
    rfl
  · obtain ⟨a, ts, told, rfl, ha, lt, hst, ok, kq⟩ := h
    refine ⟨_, pss_cons (ps_if (PW.pt (pw_or (pt_not (pt_val (pe_callB call_isi (by rfl) Y.isi (by decide +kernel) (pa_cons (pv 0) (pa_cons (pe_bltn (v := .ty "list") (by rfl) Y.list (by decide +kernel) rfl) pa_nil)))))
          (pw_or1 (pt_not (pt_chain op_le op_le pe_int (pe_callB call_len_seq (by rfl) Y.len PySem.boot_len (pa_cons (pv 0) pa_nil)) (pe_glob (v := .int 60) rfl hM ⟨tk, rfl⟩)))))) (pss_one (ps_ret pe_bl)) pss_nil)
      (pss_cons (ps_if (pt_not (pt_val (pe_callB (cr_all rfl) (by rfl) Y.all (by decide +kernel) (pa_cons
        (pe_lc (own := [("thing", 1)]) (g := gName 1) (by rfl) scAre.nd (pi_list (pv 0)) (blkOk_by (own := [("thing", 1)]) (N := areN) (sc := defScope d_are_stretches) (by decide +kernel)) (fun _ _ _ _ _ => pg_name (i := 1) scAre.nd rfl (.inl rfl)) (fun _ _ _ _ _ => pts_nil)
          (fun _ _ _ _ _ => pe_call GS hr rfl mS kS bS .nil pass0 (pa_cons (pv 1) pa_nil))) pa_nil)))) (pss_one (ps_ret pe_bl)) pss_nil)
      (pss_cons (ps_setLc (i := 2) (own := [("days", 3), ("_", 4)]) (g := gTup K 2 (gCons (gName 3) (gCons (gName 4) gNil))) (by rfl) scAre.nd rfl rfl (sw_true rfl rfl rfl rfl) (pi_list (pv 0)) (blkOk_by (own := [("days", 3), ("_", 4)]) (N := areN) (sc := defScope d_are_stretches) (by decide +kernel))
        (fun _ _ _ _ _ => pg_tup (by rfl) (pgs_cons (pg_name (i := 3) scAre.nd rfl (.inl rfl)) (pgs_cons (pg_name (i := 4) scAre.nd rfl (.inl rfl)) pgs_nil))) (fun _ _ _ _ _ => pts_nil) (fun _ _ _ _ _ => pe_cmp (pc_isN (pv 3))))
      (pss_one (ps_ret (pe_and (pe_ix ix_list (pv 2) (pe_un un_neg pe_int) (fun _ _ => rfl)) (pe_one (pe_not (pe_callB (cr_any rfl) (by rfl) Y.any (by decide +kernel) (pa_cons (pe_slice sl_list (pv 2) po_none (po_some (pe_un un_neg pe_int))) pa_nil))))))))), ?_⟩
    have lp : (ts.map V.ref).length = told.length := by rw [List.length_map, lt]
    have p1 := ok.pos
    have p2 := ok.few
    refine ⟨_, rfl, _, _, _, _, true, rfl, ClsV.ty _, ty_lst ha, kit_ty (by decide +kernel), true, rfl, iteF ?_⟩
    refine ⟨_, rfl, a, _, rfl, .inl ha, _, _, rfl, rfl, _, rfl, ?_⟩
    rw [lp, decide_eq_true (show (1 : Int) ≤ (told.length : Int) by omega)]
    refine iteT ⟨_, _, rfl, rfl, _, rfl, ?_⟩
    rw [decide_eq_true (show (told.length : Int) ≤ 60 by omega)]
    refine iteF ?_
    refine ⟨_, rfl, a, rfl, ⟨_, ha⟩, fun D hD => ?_⟩
    refine lc_list (K := K) (a := a) (xs := ts.map V.ref) (fun i M => M D = some (.lst ((List.replicate i true).map V.bl)) ∧ Same H M) ⟨upd_same, same1 hD⟩ ?_ ?_ ?_
    · rintro i M _ ⟨_, sm⟩
      exact sm.seq ha
    · rintro i x M hx ⟨eD, sm⟩
      rw [List.getElem?_map] at hx
      obtain ⟨t, ht, rfl⟩ := Option.map_eq_some_iff.mp hx
      have il : i < told.length := by
        have := (List.getElem?_eq_some_iff.mp ht).1
        omega
      obtain ⟨x, hxi⟩ : ∃ x, told[i]? = some x := ⟨_, List.getElem?_eq_getElem il⟩
      refine ⟨rfl, ?_⟩
      refine ⟨_, rfl, t, x, rfl, (hst i t x ht hxi).mono sm, (ok.word i x hxi).1, (ok.word i x hxi).2, fun n e => ok.days i x n hxi e, fun M1 s1 => ?_⟩
      refine ⟨_, s1 _ _ eD, (by rw [List.length_map, List.length_replicate]; exact Nat.lt_of_lt_of_le il (Nat.le_trans p2 (show 60 ≤ sizeLine by decide))), ?_, fun b o e => ?_⟩
      · rw [List.replicate_succ', List.map_append]
        exact upd_same
      · rw [upd_ne (ne_of_none e hD)]
        exact s1 _ _ (sm _ _ e)
    · rintro M ⟨eD, sm⟩
      refine ⟨D, _, rfl, SqL.of eD, ?_⟩
      rw [show (List.replicate (ts.map V.ref).length true).all id = true from by simp]
      refine ⟨true, rfl, iteF ?_⟩
      refine ⟨_, rfl, a, rfl, ⟨_, sm.seq ha⟩, fun B hB => ?_⟩
      refine lc_list (K := K) (a := a) (xs := ts.map V.ref) (fun i M' => M' B = some (.lst (((told.take i).map fun x => x.1.isNone).map V.bl)) ∧ Same M M') ⟨upd_same, same1 hB⟩ ?_ ?_ ?_
      · rintro i M' _ ⟨_, sm'⟩
        exact (sm.trans sm').seq ha
      · rintro i x M' hx ⟨eB, sm'⟩
        rw [List.getElem?_map] at hx
        obtain ⟨t, ht, rfl⟩ := Option.map_eq_some_iff.mp hx
        have il : i < told.length := by
          have := (List.getElem?_eq_some_iff.mp ht).1
          omega
        obtain ⟨x, hxi⟩ : ∃ x, told[i]? = some x := ⟨_, List.getElem?_eq_getElem il⟩
        obtain ⟨wa, q1, _⟩ := (hst i t x ht hxi).mono (sm.trans sm')
        refine ⟨t, _, rfl, q1, rfl, _, _, rfl, _, _, rfl, rfl, rfl, ?_⟩
        refine ⟨_, rfl, _, eB, (by rw [List.length_map, List.length_map, List.length_take]; exact Nat.lt_of_le_of_lt (Nat.min_le_left _ _) (Nat.lt_of_lt_of_le il (Nat.le_trans p2 (show 60 ≤ sizeLine by decide)))), ?_, fun b o e => ?_⟩
        · have ed : decide (dv x.1 = V.non) = x.1.isNone := by
            cases x.1 with
            | none => exact decide_eq_true rfl
            | some n => exact decide_eq_false (fun z => nomatch z)
          rw [List.take_succ_eq_append_getElem il, List.map_append, List.map_append, upd_same]
          have e3 : told[i] = x := Option.some.inj ((List.getElem?_eq_getElem il).symm.trans hxi)
          rw [e3]
          show some (HO.lst _) = some (HO.lst (_ ++ [V.bl x.1.isNone]))
          rw [← ed]
        · rw [upd_ne (ne_of_none e hB)]
          exact sm' _ _ e
      · rintro M' ⟨eB, sm'⟩
        rw [lp, List.take_length] at eB
        refine ⟨_, rfl, _, rfl, B, _, _, _, rfl, rfl, SqL.of eB, ends_last ok, true, rfl, iteT ?_⟩
        refine ⟨_, rfl, _, rfl, _, rfl, B, _, rfl, SqL.of eB, fun p hp => ?_⟩
        refine ⟨p, _, rfl, SqL.of (xs := ((told.map fun x => x.1.isNone).take (told.length - 1)).map V.bl) ?_, false, congrArg V.bl (ends_before ok), ?_⟩
        · rw [show cutV ((told.map fun x => x.1.isNone).map V.bl) none (some (-1)) = ((told.map fun x => x.1.isNone).take (told.length - 1)).map V.bl from by
            have := cut_back (xs := (told.map fun x => x.1.isNone).map V.bl) (n := 1) (by decide)
            rw [List.length_map, List.length_map, ← List.map_take] at this
            exact this]
          exact upd_same
        · exact kq _ (sm.trans (sm'.trans (same1 hp)))
end
end K11

namespace K11
open PySem PySem.Spec PyProof.Rows L2
/-! ### a course made -/
def StrsAt (K : PySem.W.Frag) (C : Addr) (H : Hp) (a : Addr) (told : List (Option Int × W2)) : Prop := ∃ ts : List Addr, SqL K H a (ts.map V.ref) ∧ ts.length = told.length ∧ (∀ (i : Nat) (t : Addr) (x : Option Int × W2), ts[i]? = some t → told[i]? = some x → StrAt K C H t x)
def spCInit (K : PySem.W.Frag) (C CC : Addr) : Sp := fun vs H Q _ => ∃ (p dx a : Addr) (told : List (Option Int × W2)), vs = [.ref p, .ref a] ∧ H p = some (.ins CC dx []) ∧ StrsAt K C H a told ∧ Told told ∧
  ∀ H', CourseAt K C CC H' p told → (∀ b o, b ≠ p → H b = some o → H' b = some o) → Q .non H'
/-- what is no object still being made stays -/
def Keep2 (H H' : Hp) : Prop := ∀ b o, H b = some o → (∀ C d, o ≠ .ins C d []) → H' b = some o
theorem Keep2.tup {K : PySem.W.Frag} {H H' : Hp} {a : Addr} {xs : List V} (k : Keep2 H H') (h : SqT K H a xs) : SqT K H' a xs :=
  h.elim (fun h => .inl (h.elim (fun h => .inl (k _ _ h (fun _ _ z => nomatch z))) fun ⟨o, h⟩ => .inr ⟨o, k _ _ h (fun _ _ z => nomatch z)⟩)) fun h => .inr h
theorem Keep2.all {C : Addr} {H H' : Hp} {ps : List Addr} {ws : W2} (k : Keep2 H H') (h : ShAll C H ps ws) : ShAll C H' ps ws := ⟨h.1, fun i p x a b => by
  obtain ⟨dx, e⟩ := h.2 i p x a b
  refine ⟨dx, k _ _ e (fun C' d z => ?_)⟩
  injection z with _ _ z
  have q := shf_top x.1 x.2
  rw [z] at q
  cases q⟩
theorem Keep2.span {K : PySem.W.Frag} {C : Addr} {H H' : Hp} {told : List (Option Int × W2)} {i : Nat} {s : Addr} (k : Keep2 H H') (h : SpanOf K C H told i s) : SpanOf K C H' told i s := by
  obtain ⟨x, e, wa, a, ps, b, c⟩ := h
  exact ⟨x, e, wa, k.tup a, ps, k.tup b, k.all c⟩
theorem keep2_ins {H : Hp} {p CC dx : Addr} {o : HO} (h : H p = some (.ins CC dx [])) : Keep2 H (upd H p o) := fun b u e n => by
  rw [upd_ne (fun z => by rw [z, h] at e; exact n _ _ (Option.some.inj e).symm)]
  exact e
section
variable {P : Program} {w : World} {K : PySem.W.Frag} {mg : Str → Option Value} {base : Heap}
theorem scCInit : FnScope ["self", "stretches"] ["self", "stretches"] (defScope d_Course_init) := ⟨rfl, rfl, rfl, by decide +kernel, rfl, by decide +kernel, by decide +kernel⟩
theorem ok_cinit {f fA fS C CC CN : Addr} {fd fdA fdS : FuncData} (F : Fun K "__init__" "Course.__init__" d_Course_init f fd) (TC : CrsC K CC) (TN : ErrC K mg "NoCourse" CN)
    (GA : FnOk P w K mg base CX0 3 fA fdA ["things"] (spStrsG K C)) (mA : mg "are_stretches" = some (.ref fA)) (kA : PySem.W.keepIn K (.ref fA) = true) (bA : Binds K fdA ["things"] [])
    (GS : FnOk P w K mg base CX0 4 fS fdS ["stretches"] (spSpans K C)) (mS : mg "spans_of" = some (.ref fS)) (kS : PySem.W.keepIn K (.ref fS) = true) (bS : Binds K fdS ["stretches"] []) :
    FnOk P w K mg base (L2.CX P w) 5 f fd ["self", "stretches"] (spCInit K C CC) := by
  refine F.okX scCInit (fun vs H Q E h => ?_) (fun cdv A outer s H vs Q E hr h => ?_)
  · obtain ⟨p, dx, a, _, rfl, _⟩ := h
    rfl
  · obtain ⟨p, dx, a, told, rfl, hp, ⟨ts, ha, lt, hst⟩, ok, kq⟩ := h
    have r3 : Room 3 _ := hr.mono (by decide)
    refine ⟨_, pss_cons (ps_if (pt_not (pt_val (pe_call GA r3 rfl mA kA bA .nil pass0 (pa_cons (pv 1) pa_nil))))
        (pss_one (ps_raise rfl (takes_of rfl rfl rfl rfl) (pmk_own PySem.F.excBase_ValueError TN.xN TN.gN TN.kN (raises_own TN.bN TN.tN) (by exact rfl)))) pss_nil)
      (pss_one (ps_fld (pv 0) (pe_call GS hr rfl mS kS bS .nil pass0 (pa_cons (pv 1) pa_nil)) rfl)), ?_⟩
    refine ⟨_, rfl, a, ts, told, rfl, ha, lt, hst, ok, fun H1 s1 => ⟨true, rfl, iteF ?_⟩⟩
    refine ⟨_, rfl, a, ts, told, rfl, s1.seq ha, lt, fun i t x h1 h2 => (hst i t x h1 h2).mono s1, ok, fun H2 l ss s2 hl0 hl ls hsp => ?_⟩
    have hp2 := s2 _ _ (s1 _ _ hp)
    refine ⟨_, rfl, p, CC, dx, _, rfl, hp2, TC.cl, TC.no, (by show 0 < 1000; decide), ?_⟩
    have pl : l ≠ p := fun z => by rw [z, hp2] at hl; cases hl
    refine kq _ ⟨dx, l, ss, upd_same, SqL.of (by rw [upd_ne pl]; exact hl), ls, fun i s' hs => ?_, ok⟩ (fun b o hb e => by rw [upd_ne hb]; exact s2 _ _ (s1 _ _ e))
    exact (keep2_ins hp2).span (hsp i s' hs)
end
end K11

namespace K11
open PySem PySem.Spec PyProof.Rows L2
/-! ### what is a word, a stretch: of anything -/
def IsC (K : PySem.W.Frag) (C : Addr) (H : Hp) (x : V) (b : Bool) : Prop := ∃ ty, TyX K H x ty ∧ PySem.W.kitOne K ty (.ref C) = some b
def NotT (K : PySem.W.Frag) (T : String) (H : Hp) (x : V) : Prop := ∃ ty, TyX K H x ty ∧ PySem.W.kitOne K ty (.type T) = some false
/-- whether a value is a word -/
def WordX (K : PySem.W.Frag) (C : Addr) (H : Hp) (v : V) (res : Bool) : Prop := (NotT K "tuple" H v ∧ res = false) ∨
  (∃ (a : Addr) (xs : List V) (bs : List Bool), v = .ref a ∧ SqT K H a xs ∧ xs.length ≤ 1000 ∧ All2 (IsC K C H) xs bs ∧ res = (decide (1 ≤ xs.length) && decide (xs.length ≤ 60) && bs.all id))
/-- whether a value may stand for days -/
def DayX (K : PySem.W.Frag) (H : Hp) (v : V) (res : Bool) : Prop := (v = .non ∧ res = true) ∨ (∃ i, v = .int i ∧ res = decide (1 ≤ i)) ∨ (∃ bi bb, Kind K H v bi bb ∧ v ≠ .non ∧ (bi && !bb) = false ∧ res = false)
/-- whether a value is a stretch -/
def StrX (K : PySem.W.Frag) (C : Addr) (H : Hp) (v : V) (res : Bool) : Prop := (NotT K "tuple" H v ∧ res = false) ∨ (∃ (a : Addr) (xs : List V), v = .ref a ∧ SqT K H a xs ∧ xs.length ≠ 2 ∧ res = false) ∨
  (∃ (a : Addr) (dv_ wv : V) (rd rw_ : Bool), v = .ref a ∧ SqT K H a [dv_, wv] ∧ DayX K H dv_ rd ∧ WordX K C H wv rw_ ∧ res = (rw_ && rd))
def spWordX (K : PySem.W.Frag) (C : Addr) : Sp := fun vs H Q _ => ∃ (v : V) (res : Bool), vs = [v] ∧ WordX K C H v res ∧ ∀ H', Same H H' → Q (.bl res) H'
def spStrX (K : PySem.W.Frag) (C : Addr) : Sp := fun vs H Q _ => ∃ (v : V) (res : Bool), vs = [v] ∧ StrX K C H v res ∧ ∀ H', Same H H' → Q (.bl res) H'
theorem TyX.same {K : PySem.W.Frag} {H H' : Hp} {v : V} {ty : Value} (h : TyX K H v ty) (s : Same H H') : TyX K H' v ty := by
  cases h with
  | base h => cases h with
    | non => exact .base .non
    | bl x => exact .base (.bl x)
    | int i => exact .base (.int i)
    | str x => exact .base (.str x)
    | flt x => exact .base (.flt x)
    | lst e => exact .base (.lst (s _ _ e))
    | frz e => exact .base (.frz (s _ _ e))
    | tup e => exact .base (.tup (s _ _ e))
    | dK e => exact .base (.dK (s _ _ e))
    | dT e => exact .base (.dT (s _ _ e))
    | ins e cl ha hn htk hm => exact .base (.ins (s _ _ e) cl ha hn htk hm)
  | byt b => exact .byt b
  | set e => exact .set (s _ _ e)
  | kList e c => exact .kList e c
  | kTuple e c => exact .kTuple e c
  | kDict e c => exact .kDict e c
  | fTuple e => exact .fTuple (s _ _ e)
  | fDict e => exact .fDict (s _ _ e)
section
variable {P : Program} {w : World} {K : PySem.W.Frag} {mg : Str → Option Value} {base : Heap}
theorem ok_wordX {f C : Addr} {fd : FuncData} {tk : Tok} (F : Fun K "is_word" "is_word" d_is_word f fd) (Y : TxtY mg C) (hM : mg "MOST_SHARES" = some (.int 60 tk)) : FnOk P w K mg base CX0 1 f fd ["thing"] (spWordX K C) := by
  refine F.ok scWord (fun vs H Q E h => ?_) (fun cdv A outer s H vs Q E hr h => ?_)
  · obtain ⟨_, _, rfl, _⟩ := h
    rfl
  · obtain ⟨v, res, rfl, hv, kq⟩ := h
    refine ⟨_, pss_cons (ps_if (PW.pt (pw_or (pt_not (pt_val (pe_callB call_isi (by rfl) Y.isi (by decide +kernel) (pa_cons (pv 0) (pa_cons (pe_bltn (v := .ty "tuple") (by rfl) Y.tuple (by decide +kernel) rfl) pa_nil)))))
          (pw_or1 (pt_not (pt_chain op_le op_le pe_int (pe_callB call_len_seq (by rfl) Y.len PySem.boot_len (pa_cons (pv 0) pa_nil)) (pe_glob (v := .int 60) rfl hM ⟨tk, rfl⟩)))))) (pss_one (ps_ret pe_bl)) pss_nil)
      (pss_one (ps_ret (pe_callB (cr_all rfl) (by rfl) Y.all (by decide +kernel) (pa_cons
        (pe_lc (own := [("share", 1)]) (g := gName 1) (by rfl) scWord.nd (pi_tup (pv 0)) (blkOk_by (own := [("share", 1)]) (N := isWordN) (sc := defScope d_is_word) (by decide +kernel)) (fun _ _ _ _ _ => pg_name (i := 1) scWord.nd rfl (.inl rfl)) (fun _ _ _ _ _ => pts_nil)
          (fun _ _ _ _ _ => pe_callB (show CallR _ (.builtin "isinstance") (rIsi K) from call_isi) (by rfl) Y.isi (by decide +kernel) (pa_cons (pv 1) (pa_cons (pe_glob (v := .ref C) rfl Y.sh rfl) pa_nil)))) pa_nil)))), ?_⟩
    rcases hv with ⟨⟨ty, hty, hk⟩, rfl⟩ | ⟨a, xs, bs, rfl, hq, l1000, al, rfl⟩
    · refine ⟨_, rfl, _, _, ty, _, false, rfl, ClsV.ty _, hty, hk, false, rfl, iteT ?_⟩
      exact kq H (Same.refl H)
    · refine ⟨_, rfl, _, _, _, _, true, rfl, ClsV.ty _, ty_tup hq, kit_ty (by decide +kernel), true, rfl, iteF ?_⟩
      refine ⟨_, rfl, a, _, rfl, .inr hq, _, _, rfl, rfl, _, rfl, ?_⟩
      by_cases c1 : 1 ≤ xs.length
      · rw [decide_eq_true (show (1 : Int) ≤ (xs.length : Int) by omega)]
        refine iteT ⟨_, _, rfl, rfl, _, rfl, ?_⟩
        by_cases c2 : xs.length ≤ 60
        · rw [decide_eq_true (show (xs.length : Int) ≤ 60 by omega)]
          refine iteF ?_
          rw [decide_eq_true c1, decide_eq_true c2] at kq
          refine ⟨_, rfl, a, rfl, ⟨_, hq⟩, fun D hD => ?_⟩
          refine lc_tup (K := K) (a := a) (xs := xs) (fun i M => M D = some (.lst ((bs.take i).map V.bl)) ∧ Same H M) ⟨upd_same, same1 hD⟩ ?_ ?_ ?_
          · rintro i M _ ⟨_, sm⟩
            exact Same.tup sm hq
          · rintro i x M hx ⟨eD, sm⟩
            have il := (List.getElem?_eq_some_iff.mp hx).1
            have lb : xs.length = bs.length := al.len
            have hb : bs[i]? = some bs[i] := List.getElem?_eq_getElem (by omega)
            obtain ⟨ty, hty, hk⟩ := al.all i x _ hx hb
            refine ⟨rfl, ?_⟩
            refine ⟨_, rfl, _, _, ty, _, bs[i], rfl, ClsV.own C, TyX.same hty sm, hk, ?_⟩
            refine ⟨_, eD, (by rw [List.length_map, List.length_take]; exact Nat.lt_of_le_of_lt (Nat.min_le_left _ _) (Nat.lt_of_lt_of_le (show i < 60 by omega) (by decide))), ?_, fun b o e => ?_⟩
            · rw [List.take_succ_eq_append_getElem (by omega : i < bs.length), List.map_append]
              exact upd_same
            · rw [upd_ne (ne_of_none e hD)]
              exact sm _ _ e
          · rintro M ⟨eD, sm⟩
            rw [al.len, List.take_length] at eD
            exact ⟨D, _, rfl, SqL.of eD, kq M sm⟩
        · rw [decide_eq_false (show ¬ (xs.length : Int) ≤ 60 by omega)]
          rw [decide_eq_true c1, decide_eq_false c2] at kq
          exact iteT (kq H (Same.refl H))
      · rw [decide_eq_false (show ¬ (1 : Int) ≤ (xs.length : Int) by omega)]
        rw [decide_eq_false c1] at kq
        refine iteF ⟨_, rfl, iteT (kq H (Same.refl H))⟩
end
end K11

namespace K11
open PySem PySem.Spec PyProof.Rows L2
theorem Kind.same {K : PySem.W.Frag} {H H' : Hp} {v : V} {bi bb : Bool} (h : Kind K H v bi bb) (s : Same H H') : Kind K H' v bi bb := by
  obtain ⟨t, a, b, c⟩ := h
  exact ⟨t, TyX.same a s, b, c⟩
theorem DayX.same {K : PySem.W.Frag} {H H' : Hp} {v : V} {res : Bool} (h : DayX K H v res) (s : Same H H') : DayX K H' v res := by
  rcases h with h | h | ⟨bi, bb, k, r⟩
  · exact .inl h
  · exact .inr (.inl h)
  · exact .inr (.inr ⟨bi, bb, k.same s, r⟩)
theorem WordX.same {K : PySem.W.Frag} {C : Addr} {H H' : Hp} {v : V} {res : Bool} (h : WordX K C H v res) (s : Same H H') : WordX K C H' v res := by
  rcases h with ⟨⟨ty, a, b⟩, r⟩ | ⟨a, xs, bs, e, q, l, al, r⟩
  · exact .inl ⟨⟨ty, TyX.same a s, b⟩, r⟩
  · exact .inr ⟨a, xs, bs, e, Same.tup s q, l, al.mono fun x b _ _ ⟨ty, u, v⟩ => ⟨ty, TyX.same u s, v⟩, r⟩
theorem StrX.same {K : PySem.W.Frag} {C : Addr} {H H' : Hp} {v : V} {res : Bool} (h : StrX K C H v res) (s : Same H H') : StrX K C H' v res := by
  rcases h with ⟨⟨ty, a, b⟩, r⟩ | ⟨a, xs, e, q, n, r⟩ | ⟨a, d, wv, rd, rw_, e, q, hd, hw, r⟩
  · exact .inl ⟨⟨ty, TyX.same a s, b⟩, r⟩
  · exact .inr (.inl ⟨a, xs, e, Same.tup s q, n, r⟩)
  · exact .inr (.inr ⟨a, d, wv, rd, rw_, e, Same.tup s q, hd.same s, hw.same s, r⟩)
section
variable {P : Program} {w : World} {K : PySem.W.Frag} {mg : Str → Option Value} {base : Heap}
theorem ok_strX {f fW fH C : Addr} {fd fdW fdH : FuncData} (F : Fun K "is_stretch" "is_stretch" d_is_stretch f fd) (Y : TxtY mg C)
    (A1 : At P w K mg base CX0 1 "is_word" ["thing"] (spWordX K C) fW fdW) (A2 : At P w K mg base CX0 1 "is_whole" ["thing"] (spWholeX K) fH fdH) :
    FnOk P w K mg base CX0 2 f fd ["thing"] (spStrX K C) := by
  refine F.ok scStr (fun vs H Q E h => ?_) (fun cdv A outer s H vs Q E hr h => ?_)
  · obtain ⟨_, _, rfl, _⟩ := h
    rfl
  · obtain ⟨v, res, rfl, hv, kq⟩ := h
    refine ⟨_, pss_cons (ps_if (PW.pt (pw_or (pt_not (pt_val (pe_callB call_isi (by rfl) Y.isi (by decide +kernel) (pa_cons (pv 0) (pa_cons (pe_bltn (v := .ty "tuple") (by rfl) Y.tuple (by decide +kernel) rfl) pa_nil)))))
          (pw_or1 (pt_cmpR op_ne (pe_callB call_len_seq (by rfl) Y.len PySem.boot_len (pa_cons (pv 0) pa_nil)) pe_int (nomark _))))) (pss_one (ps_ret pe_bl)) pss_nil)
      (pss_cons (ps_asg (pv 0) (pg_tup (by rfl) (pgs_cons (pg_name (i := 1) scStr.nd rfl (.inl rfl)) (pgs_cons (pg_name (i := 2) scStr.nd rfl (.inl rfl)) pgs_nil))))
      (pss_one (ps_ret (pe_and (pe_call A1.G hr rfl A1.m A1.k A1.b .nil pass0 (pa_cons (pv 2) pa_nil)) (pe_one (pe_or (pe_cmp (pc_isN (pv 1))) (pe_one (pe_and (pe_call A2.G hr rfl A2.m A2.k A2.b .nil pass0 (pa_cons (pv 1) pa_nil)) (pe_one (pe_cmpR op_ge (pv 1) pe_int (nomark _)))))))))))
      , ?_⟩
    rcases hv with ⟨⟨ty, hty, hk⟩, rfl⟩ | ⟨a, xs, rfl, hq, n2, rfl⟩ | ⟨a, d, wv, rd, rw_, rfl, hq, hd, hw, rfl⟩
    · refine ⟨_, rfl, _, _, ty, _, false, rfl, ClsV.ty _, hty, hk, false, rfl, iteT ?_⟩
      exact kq H (Same.refl H)
    · refine ⟨_, rfl, _, _, _, _, true, rfl, ClsV.ty _, ty_tup hq, kit_ty (by decide +kernel), true, rfl, iteF ?_⟩
      refine ⟨_, rfl, a, _, rfl, .inr hq, rfl, _, rfl, ?_⟩
      rw [show (!decide (V.int (xs.length : Int) = V.int 2)) = true from by rw [decI, decide_eq_false (by omega)]; rfl]
      exact iteT (kq H (Same.refl H))
    · refine ⟨_, rfl, _, _, _, _, true, rfl, ClsV.ty _, ty_tup hq, kit_ty (by decide +kernel), true, rfl, iteF ?_⟩
      refine ⟨_, rfl, a, _, rfl, .inr hq, rfl, _, rfl, iteF ?_⟩
      refine ⟨_, rfl, a, _, rfl, hq, rfl, _, _, rfl, _, _, rfl, rfl, ?_⟩
      refine ⟨_, rfl, wv, rw_, rfl, hw, fun H1 s1 => ⟨rw_, rfl, ?_⟩⟩
      cases rw_ with
      | false => exact iteF (kq H1 s1)
      | true =>
        rw [Bool.true_and] at kq
        refine iteT ⟨_, rfl, _, rfl, ?_⟩
        rcases hd with ⟨rfl, rfl⟩ | ⟨i, rfl, rfl⟩ | ⟨bi, bb, hk, nn, hb, rfl⟩
        · rw [show decide (V.non = V.non) = true from decide_eq_true rfl]
          exact iteT (kq H1 s1)
        · rw [show decide (V.int i = V.non) = false from decide_eq_false (fun z => nomatch z)]
          refine iteF ⟨_, rfl, .int i, true, false, rfl, kind_int i, true, rfl, iteT ⟨_, rfl, _, _, rfl, rfl, kq H1 s1⟩⟩
        · rw [decide_eq_false nn]
          refine iteF ⟨_, rfl, d, bi, bb, rfl, hk.same s1, (bi && !bb), rfl, ?_⟩
          rw [hb]
          exact iteF (kq H1 s1)
end
end K11

namespace K11
open PySem PySem.Spec PyProof.Rows L2
theorem at_last1 {xs : List V} {v : V} (l : 1 ≤ xs.length) (h : xs[xs.length - 1]? = some v) : atI xs (-1) = some v := by
  unfold atI ixN
  rw [if_neg (by decide), if_pos (by omega)]
  show xs[((-1 : Int) + (xs.length : Int)).toNat]? = some v
  rw [show ((-1 : Int) + (xs.length : Int)).toNat = xs.length - 1 from by omega]
  exact h
/-- a tuple of two, and whether its first one is None -/
def EndX (K : PySem.W.Frag) (H : Hp) (x : V) (e : Bool) : Prop := ∃ (a : Addr) (d wv : V), x = .ref a ∧ SqT K H a [d, wv] ∧ e = decide (d = .non)
/-- whether a value is a list of stretches that make a course -/
def StrsX (K : PySem.W.Frag) (C : Addr) (H : Hp) (v : V) (res : Bool) : Prop := (NotT K "list" H v ∧ res = false) ∨
  (∃ (a : Addr) (xs : List V) (rs : List Bool), v = .ref a ∧ SqL K H a xs ∧ xs.length ≤ 1000 ∧ All2 (StrX K C H) xs rs ∧ (¬ (1 ≤ xs.length ∧ xs.length ≤ 60 ∧ rs.all id = true) → res = false) ∧
    (1 ≤ xs.length ∧ xs.length ≤ 60 ∧ rs.all id = true → ∃ es : List Bool, All2 (EndX K H) xs es ∧ res = (es[es.length - 1]?.getD false && !((es.take (es.length - 1)).any id))))
def spStrsX (K : PySem.W.Frag) (C : Addr) : Sp := fun vs H Q _ => ∃ (v : V) (res : Bool), vs = [v] ∧ StrsX K C H v res ∧ ∀ H', Same H H' → Q (.bl res) H'
section
variable {P : Program} {w : World} {K : PySem.W.Frag} {mg : Str → Option Value} {base : Heap}
theorem ok_areX {f fS C : Addr} {fd fdS : FuncData} {tk : Tok} (F : Fun K "are_stretches" "are_stretches" d_are_stretches f fd) (Y : TxtY mg C) (hM : mg "MOST_STRETCHES" = some (.int 60 tk))
    (A1 : At P w K mg base CX0 2 "is_stretch" ["thing"] (spStrX K C) fS fdS) : FnOk P w K mg base CX0 3 f fd ["things"] (spStrsX K C) := by
  refine F.ok scAre (fun vs H Q E h => ?_) (fun cdv A outer s H vs Q E hr h => ?_)
  · obtain ⟨_, _, rfl, _⟩ := h
    rfl
  · obtain ⟨v, res, rfl, hv, kq⟩ := h
    refine ⟨_, pss_cons (ps_if (PW.pt (pw_or (pt_not (pt_val (pe_callB call_isi (by rfl) Y.isi (by decide +kernel) (pa_cons (pv 0) (pa_cons (pe_bltn (v := .ty "list") (by rfl) Y.list (by decide +kernel) rfl) pa_nil)))))
          (pw_or1 (pt_not (pt_chain op_le op_le pe_int (pe_callB call_len_seq (by rfl) Y.len PySem.boot_len (pa_cons (pv 0) pa_nil)) (pe_glob (v := .int 60) rfl hM ⟨tk, rfl⟩)))))) (pss_one (ps_ret pe_bl)) pss_nil)
      (pss_cons (ps_if (pt_not (pt_val (pe_callB (cr_all rfl) (by rfl) Y.all (by decide +kernel) (pa_cons
        (pe_lc (own := [("thing", 1)]) (g := gName 1) (by rfl) scAre.nd (pi_list (pv 0)) (blkOk_by (own := [("thing", 1)]) (N := areN) (sc := defScope d_are_stretches) (by decide +kernel)) (fun _ _ _ _ _ => pg_name (i := 1) scAre.nd rfl (.inl rfl)) (fun _ _ _ _ _ => pts_nil)
          (fun _ _ _ _ _ => pe_call A1.G hr rfl A1.m A1.k A1.b .nil pass0 (pa_cons (pv 1) pa_nil))) pa_nil)))) (pss_one (ps_ret pe_bl)) pss_nil)
      (pss_cons (ps_setLc (i := 2) (own := [("days", 3), ("_", 4)]) (g := gTup K 2 (gCons (gName 3) (gCons (gName 4) gNil))) (by rfl) scAre.nd rfl rfl (sw_true rfl rfl rfl rfl) (pi_list (pv 0)) (blkOk_by (own := [("days", 3), ("_", 4)]) (N := areN) (sc := defScope d_are_stretches) (by decide +kernel))
        (fun _ _ _ _ _ => pg_tup (by rfl) (pgs_cons (pg_name (i := 3) scAre.nd rfl (.inl rfl)) (pgs_cons (pg_name (i := 4) scAre.nd rfl (.inl rfl)) pgs_nil))) (fun _ _ _ _ _ => pts_nil) (fun _ _ _ _ _ => pe_cmp (pc_isN (pv 3))))
      (pss_one (ps_ret (pe_and (pe_ix ix_list (pv 2) (pe_un un_neg pe_int) (fun _ _ => rfl)) (pe_one (pe_not (pe_callB (cr_any rfl) (by rfl) Y.any (by decide +kernel) (pa_cons (pe_slice sl_list (pv 2) po_none (po_some (pe_un un_neg pe_int))) pa_nil))))))))), ?_⟩
    rcases hv with ⟨⟨ty, hty, hk⟩, rfl⟩ | ⟨a, xs, rs, rfl, ha, l1000, al, no, yes⟩
    · refine ⟨_, rfl, _, _, ty, _, false, rfl, ClsV.ty _, hty, hk, false, rfl, iteT ?_⟩
      exact kq H (Same.refl H)
    · have lr : xs.length = rs.length := al.len
      refine ⟨_, rfl, _, _, _, _, true, rfl, ClsV.ty _, ty_lst ha, kit_ty (by decide +kernel), true, rfl, iteF ?_⟩
      refine ⟨_, rfl, a, _, rfl, .inl ha, _, _, rfl, rfl, _, rfl, ?_⟩
      by_cases c1 : 1 ≤ xs.length
      · rw [decide_eq_true (show (1 : Int) ≤ (xs.length : Int) by omega)]
        refine iteT ⟨_, _, rfl, rfl, _, rfl, ?_⟩
        by_cases c2 : xs.length ≤ 60
        · rw [decide_eq_true (show (xs.length : Int) ≤ 60 by omega)]
          refine iteF ?_
          refine ⟨_, rfl, a, rfl, ⟨_, ha⟩, fun D hD => ?_⟩
          refine lc_list (K := K) (a := a) (xs := xs) (fun i M => M D = some (.lst ((rs.take i).map V.bl)) ∧ Same H M) ⟨upd_same, same1 hD⟩ ?_ ?_ ?_
          · rintro i M _ ⟨_, sm⟩
            exact sm.seq ha
          · rintro i x M hx ⟨eD, sm⟩
            have il := (List.getElem?_eq_some_iff.mp hx).1
            have hb : rs[i]? = some rs[i] := List.getElem?_eq_getElem (by omega)
            refine ⟨rfl, ?_⟩
            refine ⟨_, rfl, x, rs[i], rfl, (al.all i x _ hx hb).same sm, fun M1 s1 => ?_⟩
            refine ⟨_, s1 _ _ eD, (by rw [List.length_map, List.length_take]; exact Nat.lt_of_le_of_lt (Nat.min_le_left _ _) (Nat.lt_of_lt_of_le (show i < 60 by omega) (by decide))), ?_, fun b o e => ?_⟩
            · rw [List.take_succ_eq_append_getElem (by omega : i < rs.length), List.map_append]
              exact upd_same
            · rw [upd_ne (ne_of_none e hD)]
              exact s1 _ _ (sm _ _ e)
          · rintro M ⟨eD, sm⟩
            rw [lr, List.take_length] at eD
            refine ⟨D, _, rfl, SqL.of eD, ?_⟩
            by_cases c3 : rs.all id = true
            · obtain ⟨es, ae, re⟩ := yes ⟨c1, c2, c3⟩
              have le : xs.length = es.length := ae.len
              rw [c3]
              refine ⟨true, rfl, iteF ?_⟩
              refine ⟨_, rfl, a, rfl, ⟨_, sm.seq ha⟩, fun B hB => ?_⟩
              refine lc_list (K := K) (a := a) (xs := xs) (fun i M' => M' B = some (.lst ((es.take i).map V.bl)) ∧ Same M M') ⟨upd_same, same1 hB⟩ ?_ ?_ ?_
              · rintro i M' _ ⟨_, sm'⟩
                exact (sm.trans sm').seq ha
              · rintro i x M' hx ⟨eB, sm'⟩
                have il := (List.getElem?_eq_some_iff.mp hx).1
                have he : es[i]? = some es[i] := List.getElem?_eq_getElem (by omega)
                obtain ⟨t, d, wv, rfl, q1, e1⟩ := ae.all i x _ hx he
                refine ⟨t, _, rfl, Same.tup (sm.trans sm') q1, rfl, _, _, rfl, _, _, rfl, rfl, rfl, ?_⟩
                refine ⟨_, rfl, _, eB, (by rw [List.length_map, List.length_take]; exact Nat.lt_of_le_of_lt (Nat.min_le_left _ _) (Nat.lt_of_lt_of_le (show i < 60 by omega) (by decide))), ?_, fun b o e => ?_⟩
                · rw [List.take_succ_eq_append_getElem (by omega : i < es.length), List.map_append, upd_same, e1]
                  rfl
                · rw [upd_ne (ne_of_none e hB)]
                  exact sm' _ _ e
              · rintro M' ⟨eB, sm'⟩
                rw [le, List.take_length] at eB
                have hl : es[es.length - 1]? = some (es[es.length - 1]'(by omega)) := List.getElem?_eq_getElem (by omega)
                rw [hl] at re
                have re : res = ((es[es.length - 1]'(by omega)) && !((es.take (es.length - 1)).any id)) := re
                refine ⟨_, rfl, _, rfl, B, _, _, .bl (es[es.length - 1]'(by omega)), rfl, rfl, SqL.of eB, ?_, _, rfl, ?_⟩
                · refine at_last1 (by rw [List.length_map]; omega) ?_
                  rw [List.length_map, List.getElem?_map, hl]
                  rfl
                cases hb : (es[es.length - 1]'(by omega)) with
                | false =>
                  rw [hb, Bool.false_and] at re
                  rw [re] at kq
                  exact iteF (kq M' (sm.trans sm'))
                | true =>
                  rw [hb, Bool.true_and] at re
                  refine iteT ?_
                  refine ⟨_, rfl, _, rfl, _, rfl, B, _, rfl, SqL.of eB, fun S hS => ?_⟩
                  rw [show cutV (es.map V.bl) none (some (-1)) = (es.map V.bl).take ((es.map V.bl).length - 1) from cut_back (n := 1) (by decide), List.length_map, ← List.map_take]
                  refine ⟨S, _, rfl, SqL.of upd_same, _, rfl, ?_⟩
                  rw [re] at kq
                  exact kq _ ((sm.trans sm').trans (same1 hS))
            · have c3 : rs.all id = false := by simpa using c3
              have nn := no (fun h => by rw [c3] at h; exact nomatch h.2.2)
              rw [nn] at kq
              rw [c3]
              exact ⟨false, rfl, iteT (kq M sm)⟩
        · rw [decide_eq_false (show ¬ (xs.length : Int) ≤ 60 by omega)]
          rw [no (fun h => c2 h.2.1)] at kq
          exact iteT (kq H (Same.refl H))
      · rw [decide_eq_false (show ¬ (1 : Int) ≤ (xs.length : Int) by omega)]
        rw [no (fun h => c1 h.1)] at kq
        exact iteF ⟨_, rfl, iteT (kq H (Same.refl H))⟩
end
end K11

namespace K11
open PySem PySem.Spec PyProof.Rows L2
/-! ### a course, made of anything: or refused -/
/-- a course made just now: its list is new -/
def CrsNew (K : PySem.W.Frag) (C CC : Addr) (H H' : Hp) (c : Addr) (told : List (Option Int × W2)) : Prop := ∃ (dx l : Addr) (ss : List Addr), H l = none ∧ H' c = some (.ins CC dx (crs l)) ∧ H' l = some (.lst (ss.map V.ref)) ∧ ss.length = told.length ∧
  (∀ (i : Nat) (s : Addr), ss[i]? = some s → SpanOf K C H' told i s) ∧ Told told
theorem CrsNew.at_ {K : PySem.W.Frag} {C CC : Addr} {H H' : Hp} {c : Addr} {told : List (Option Int × W2)} (h : CrsNew K C CC H H' c told) : CourseAt K C CC H' c told := by
  obtain ⟨dx, l, ss, _, a, b, e, g, t⟩ := h
  exact ⟨dx, l, ss, a, SqL.of b, e, g, t⟩
theorem CrsNew.clear {K : PySem.W.Frag} {C CC : Addr} {H H' : Hp} {c a : Addr} {told : List (Option Int × W2)} {xs ys : List V} (h : CrsNew K C CC H H' c told) (s : Same H H') (e : H a = some (.lst xs)) : CourseAt K C CC (upd H' a (.lst ys)) c told := by
  obtain ⟨dx, l, ss, n, hc, hl, es, g, t⟩ := h
  have e' := s _ _ e
  have ca : c ≠ a := fun z => by rw [z, e'] at hc; cases hc
  have la : l ≠ a := fun z => by rw [z, e] at n; cases n
  have k : Keep H' (upd H' a (.lst ys)) := keep_lst e'
  exact ⟨dx, l, ss, by rw [upd_ne ca]; exact hc, SqL.of (by rw [upd_ne la]; exact hl), es, fun i x hx => k.span (g i x hx), t⟩
def spCInitX (K : PySem.W.Frag) (C CC CN : Addr) : Sp := fun vs H Q E => ∃ (p dx : Addr) (v : V) (res : Bool), vs = [.ref p, v] ∧ H p = some (.ins CC dx []) ∧ StrsX K C H v res ∧
  (res = true → ∃ (a : Addr) (told : List (Option Int × W2)), v = .ref a ∧ StrsAt K C H a told ∧ Told told ∧ ∀ H', CrsNew K C CC H H' p told → (∀ b o, b ≠ p → H b = some o → H' b = some o) → Q .non H') ∧
  (res = false → ∀ H', Same H H' → E (.ref CN) none H')
section
variable {P : Program} {w : World} {K : PySem.W.Frag} {mg : Str → Option Value} {base : Heap}
theorem ok_cinitX {f fA fS C CC CN : Addr} {fd fdA fdS : FuncData} (F : Fun K "__init__" "Course.__init__" d_Course_init f fd) (TC : CrsC K CC) (TN : ErrC K mg "NoCourse" CN)
    (A1 : At P w K mg base CX0 3 "are_stretches" ["things"] (spStrsX K C) fA fdA) (A2 : At P w K mg base CX0 4 "spans_of" ["stretches"] (spSpans K C) fS fdS) :
    FnOk P w K mg base (L2.CX P w) 5 f fd ["self", "stretches"] (spCInitX K C CC CN) := by
  refine F.okX scCInit (fun vs H Q E h => ?_) (fun cdv A outer s H vs Q E hr h => ?_)
  · obtain ⟨p, dx, v, _, rfl, _⟩ := h
    rfl
  · obtain ⟨p, dx, v, res, rfl, hp, hs, kq, ke⟩ := h
    have r3 : Room 3 _ := hr.mono (by decide)
    refine ⟨_, pss_cons (ps_if (pt_not (pt_val (pe_call A1.G r3 rfl A1.m A1.k A1.b .nil pass0 (pa_cons (pv 1) pa_nil))))
        (pss_one (ps_raise rfl (takes_of rfl rfl rfl rfl) (pmk_own PySem.F.excBase_ValueError TN.xN TN.gN TN.kN (raises_own TN.bN TN.tN) (by exact rfl)))) pss_nil)
      (pss_one (ps_fld (pv 0) (pe_call A2.G hr rfl A2.m A2.k A2.b .nil pass0 (pa_cons (pv 1) pa_nil)) rfl)), ?_⟩
    refine ⟨_, rfl, v, res, rfl, hs, fun H1 s1 => ⟨res, rfl, ?_⟩⟩
    cases res with
    | false => exact iteT (ke rfl H1 s1)
    | true =>
      refine iteF ?_
      obtain ⟨a, told, rfl, ⟨ts, ha, lt, hst⟩, ok, kq⟩ := kq rfl
      refine ⟨_, rfl, a, ts, told, rfl, s1.seq ha, lt, fun i t x h1 h2 => (hst i t x h1 h2).mono s1, ok, fun H2 l ss s2 hl0 hl ls hsp => ?_⟩
      have hp2 := s2 _ _ (s1 _ _ hp)
      refine ⟨_, rfl, p, CC, dx, _, rfl, hp2, TC.cl, TC.no, (by show 0 < 1000; decide), ?_⟩
      have pl : l ≠ p := fun z => by rw [z, hp2] at hl; cases hl
      have nl : H l = none := by
        cases c : H l with
        | none => rfl
        | some o =>
          have := s1 _ _ c
          rw [hl0] at this
          cases this
      refine kq _ ⟨dx, l, ss, nl, upd_same, (by rw [upd_ne pl]; exact hl), ls, fun i s' hs => ?_, ok⟩ (fun b o hb e => by rw [upd_ne hb]; exact s2 _ _ (s1 _ _ e))
      exact (keep2_ins hp2).span (hsp i s' hs)
end
end K11

namespace K11
open PySem PySem.Spec PyProof.Rows L2
/-! ### a course made, or None -/
theorem StrsX.same {K : PySem.W.Frag} {C : Addr} {H H' : Hp} {v : V} {res : Bool} (h : StrsX K C H v res) (s : Same H H') : StrsX K C H' v res := by
  rcases h with ⟨⟨ty, a, b⟩, r⟩ | ⟨a, xs, rs, e, q, l, al, no, yes⟩
  · exact .inl ⟨⟨ty, TyX.same a s, b⟩, r⟩
  · refine .inr ⟨a, xs, rs, e, s.seq q, l, al.mono fun x b _ _ h => h.same s, no, fun c => ?_⟩
    obtain ⟨es, ae, r⟩ := yes c
    exact ⟨es, ae.mono fun x b _ _ ⟨a, d, wv, e1, e2, e3⟩ => ⟨a, d, wv, e1, Same.tup s e2, e3⟩, r⟩
theorem pss_ex {X : Cx} {b : List Stmt} {W : WX} {t : XK → TS} (h : ∀ Ech : XK, (∀ cls d σ' H', Ech cls d H' → W cls d σ' H') → PSs X b (t Ech)) : PSs X b (fun D σ H => ∃ Ech : XK, (∀ cls d σ' H', Ech cls d H' → W cls d σ' H') ∧ t Ech D σ H) :=
  ⟨fun pins s σ H D I ⟨Ech, hW, h'⟩ => (h Ech hW).run pins s σ H D I h'⟩
def spMade (K : PySem.W.Frag) (C CC : Addr) : Sp := fun vs H Q _ => ∃ (v : V) (res : Bool), vs = [v] ∧ StrsX K C H v res ∧
  (res = true → ∃ (a : Addr) (told : List (Option Int × W2)), v = .ref a ∧ StrsAt K C H a told ∧ Told told ∧ ∀ (H' : Hp) (c : Addr), Same H H' → CrsNew K C CC H H' c told → Q (.ref c) H') ∧
  (res = false → ∀ H', Same H H' → Q .non H')
section
variable {P : Program} {w : World} {K : PySem.W.Frag} {mg : Str → Option Value} {base : Heap}
theorem scMade : FnScope ["given"] ["given"] (defScope d_law_made) := ⟨rfl, rfl, rfl, by decide +kernel, rfl, by decide +kernel, by decide +kernel⟩
theorem ok_made {f fJ C CC CN CR : Addr} {fd fdJ : FuncData} (F : Fun K "_law_made" "_law_made" d_law_made f fd) (TN : ErrC K mg "NoCourse" CN) (hx : PySem.W.exmOne K (.ref CN) (.ref CN) = some true) (mR : mg "RillError" = some (.ref CR))
    (mC : mg "Course" = some (.ref CC)) (MC : Mk K CC fJ) (GJ : FnOk P w K mg base (L2.CX P w) 5 fJ fdJ ["self", "stretches"] (spCInitX K C CC CN)) (bJ : Binds K fdJ ["self", "stretches"] []) :
    FnOk P w K mg base CX0 7 f fd ["given"] (spMade K C CC) := by
  refine F.ok scMade (fun vs H Q E h => ?_) (fun cdv A outer s H vs Q E hr h => ?_)
  · obtain ⟨_, _, rfl, _⟩ := h
    rfl
  · obtain ⟨v, res, rfl, hs, yes, no⟩ := h
    refine ⟨_, pss_one (ps_try_many (tb := fun W D σ H => ∃ Ech : XK, (∀ cls d σ' H', Ech cls d H' → W cls d σ' H') ∧ tRet (tMake CC (spCInitX K C CC CN) [] Ech (tCons (tVar 0) tNil)) D σ H)
      rfl rfl takes_none5 (fun W pn xe tk _ => ?_) (HdsOk.cons (c := .ref CN) ⟨rfl, by decide, .inl TN.gN⟩ (fun a oe cls d pn _ _ => pss_one (ps_ret pe_non)) (HdsOk.cons (c := .ref CR) ⟨rfl, by decide, .inl mR⟩ (fun a oe cls d pn _ _ => pss_one (ps_ret pe_str)) .nil))), ?_⟩
    · exact pss_ex (t := fun Ech => tRet (tMake CC (spCInitX K C CC CN) [] Ech (tCons (tVar 0) tNil))) fun Ech hW => pss_one (ps_ret (pe_make MC GJ hr rfl mC bJ .nil (fun pins σ H s e s' I c => passes_call tk hW pins σ H s e s' I c) (pa_cons (pv 0) pa_nil)))
    · refine ⟨fun cls d H' => cls = .ref CN ∧ Q .non H', fun cls d σ' H' ⟨e, q⟩ => ⟨true, by rw [e]; exact hx, fun _ a _ => q, fun z => nomatch z⟩, ?_⟩
      refine ⟨_, rfl, fun x dx nx ndx nex => ?_⟩
      have sx : Same H (upd (upd H dx (.own x)) x (.ins CC dx [])) := made_same (C := CC) nx ndx (fun a _ => rfl)
      refine ⟨x, dx, v, res, rfl, upd_same, hs.same sx, fun hr1 => ?_, fun hr0 H' s' => ?_⟩
      · obtain ⟨a, told, rfl, ⟨ts, ha, lt, hst⟩, ok, kq⟩ := yes hr1
        exact ⟨a, told, rfl, ⟨ts, sx.seq ha, lt, fun i t y h1 h2 => (hst i t y h1 h2).mono sx⟩, ok, fun H' hc kp => ⟨rfl, kq H' x (fun b o e => kp b o (ne_of_none e nx) (sx _ _ e)) (by
          obtain ⟨dc, l, ss, n, r⟩ := hc
          refine ⟨dc, l, ss, ?_, r⟩
          cases c : H l with
          | none => rfl
          | some o =>
            have := sx _ _ c
            rw [n] at this
            cases this)⟩⟩
      · exact ⟨rfl, no hr0 H' (sx.trans s')⟩
end
end K11

namespace K11
open PySem PySem.Spec PyProof.Rows L2
/-! ### times, total -/
/-- a new share, from two -/
def lcmOf (ws : W2) : Nat := ws.foldl (fun m x => Nat.lcm m x.2.natAbs) 1
def sumOf (ws : W2) (D : Int) : Int := (ws.map fun x => x.1 * (D / x.2)).sum
/-- what total gives: the one itself, or the sum in lowest terms -/
def TotOf (ws : W2) (t b : Int) : Prop := (∃ x, ws = [x] ∧ t = x.1 ∧ b = x.2) ∨ (t = lowT (sumOf ws (lcmOf ws)) (lcmOf ws) ∧ b = lowB (sumOf ws (lcmOf ws)) (lcmOf ws))
structure Small (ws : W2) (M : Nat) : Prop where
  pos : 0 < M
  lt : M < 2 ^ 60
  bot : ∀ (i : Nat) (x : Int × Int), ws[i]? = some x → 0 < x.2 ∧ x.2.natAbs ∣ M
  top : ∀ (i : Nat) (x : Int × Int), ws[i]? = some x → x.1.natAbs < 2 ^ 1000
  few : ws.length ≤ 4000
theorem lcmOf_next {ws : W2} {i : Nat} {x : Int × Int} (h : ws[i]? = some x) : lcmOf (ws.take (i + 1)) = Nat.lcm (lcmOf (ws.take i)) x.2.natAbs := by
  obtain ⟨hi, e⟩ := List.getElem?_eq_some_iff.mp h
  unfold lcmOf
  rw [List.take_succ_eq_append_getElem hi, List.foldl_append, e]
  rfl
theorem lcmOf_dvd {ws : W2} {M : Nat} (h : Small ws M) : ∀ i, i ≤ ws.length → lcmOf (ws.take i) ∣ M
  | 0, _ => by
    rw [List.take_zero]
    exact Nat.one_dvd _
  | i + 1, hi => by
    have hx : ws[i]? = some ws[i] := List.getElem?_eq_getElem (by omega)
    rw [lcmOf_next hx]
    exact Nat.lcm_dvd (lcmOf_dvd h i (by omega)) (h.bot i _ hx).2
theorem lcmOf_lt {ws : W2} {M : Nat} (h : Small ws M) {i : Nat} (hi : i ≤ ws.length) : 0 < lcmOf (ws.take i) ∧ lcmOf (ws.take i) < 2 ^ 60 := by
  have d := lcmOf_dvd h i hi
  exact ⟨Nat.pos_of_dvd_of_pos d h.pos, Nat.lt_of_le_of_lt (Nat.le_of_dvd h.pos d) h.lt⟩
theorem sum_lt : ∀ (l : List Int) (B : Nat), (∀ x ∈ l, x.natAbs ≤ B) → l.sum.natAbs ≤ l.length * B
  | [], B, _ => by simp
  | a :: l, B, h => by
    have h1 := h a (by simp)
    have h2 := sum_lt l B (fun x hx => h x (by simp [hx]))
    rw [List.sum_cons, List.length_cons, Nat.succ_mul]
    have := Int.natAbs_add_le a l.sum
    omega
theorem sumOf_lt {ws : W2} {M : Nat} (h : Small ws M) {D : Nat} (hD : D < 2 ^ 60) : (sumOf ws D).natAbs < 2 ^ 4000 := by
  have a := sum_lt (ws.map fun x => x.1 * ((D : Int) / x.2)) (2 ^ 1060) (fun y hy => by
    obtain ⟨x, hx, rfl⟩ := List.mem_map.mp hy
    obtain ⟨i, hi⟩ := List.mem_iff_getElem?.mp hx
    have t := h.top i x hi
    have b := (h.bot i x hi).1
    have e : ((D : Int) / x.2).natAbs ≤ D := by
      have q0 : 0 ≤ (D : Int) / x.2 := Int.ediv_nonneg (by omega) (by omega)
      have q1 : (D : Int) / x.2 ≤ (D : Int) := Int.ediv_le_self _ (by omega)
      omega
    rw [Int.natAbs_mul, show (2 : Nat) ^ 1060 = 2 ^ 1000 * 2 ^ 60 from by rw [← Nat.pow_add]]
    exact Nat.mul_le_mul (Nat.le_of_lt t) (Nat.le_trans e (Nat.le_of_lt hD)))
  rw [List.length_map] at a
  have c : ws.length * 2 ^ 1060 ≤ 2 ^ 12 * 2 ^ 1060 := Nat.mul_le_mul_right _ (Nat.le_trans h.few (by decide))
  rw [← Nat.pow_add] at c
  exact Nat.lt_of_le_of_lt (Nat.le_trans a c) (Nat.pow_lt_pow_right (by decide) (by decide))
end K11

namespace K11
open PySem PySem.Spec PyProof.Rows L2
/-! ### sums by a common multiple of all bottoms -/
/-- t over b is S over M, in lowest terms -/
def IsFr (M : Nat) (S t b : Int) : Prop := 0 < b ∧ Nat.gcd t.natAbs b.natAbs = 1 ∧ t * (M : Int) = S * b
theorem fr_low {p q S : Int} {M : Nat} (hq : q ≠ 0) (h : p * (M : Int) = S * q) : IsFr M S (lowT p q) (lowB p q) := by
  refine ⟨lowB_pos hq, low_coprime hq, ?_⟩
  have h1 := lowT_mul p q
  have h2 := lowB_mul p q
  have g := sg_ne (a := p) hq
  have e : lowT p q * (M : Int) * sg p q = S * lowB p q * sg p q := by
    calc lowT p q * (M : Int) * sg p q = (lowT p q * sg p q) * M := by rw [Int.mul_assoc, Int.mul_comm (M : Int), ← Int.mul_assoc]
      _ = p * M := by rw [h1]
      _ = S * q := h
      _ = S * (lowB p q * sg p q) := by rw [h2]
      _ = S * lowB p q * sg p q := by rw [Int.mul_assoc]
  exact Int.eq_of_mul_eq_mul_right g e
theorem fr_one {M : Nat} {S t b t' b' : Int} (hM : 0 < M) (h : IsFr M S t b) (h' : IsFr M S t' b') : t = t' ∧ b = b' := by
  refine same_of h.1 h'.1 ?_ h.2.1 h'.2.1
  have hM' : (M : Int) ≠ 0 := by omega
  refine Int.eq_of_mul_eq_mul_right hM' ?_
  calc t * b' * (M : Int) = (t * M) * b' := by rw [Int.mul_assoc, Int.mul_comm b', ← Int.mul_assoc]
    _ = (S * b) * b' := by rw [h.2.2]
    _ = (S * b') * b := by rw [Int.mul_assoc, Int.mul_comm b b', ← Int.mul_assoc]
    _ = (t' * M) * b := by rw [h'.2.2]
    _ = t' * b * M := by rw [Int.mul_assoc, Int.mul_comm (M : Int), ← Int.mul_assoc]
theorem fr_dvd {M : Nat} {S t b : Int} (h : IsFr M S t b) : b.natAbs ∣ M := by
  have e : t.natAbs * M = S.natAbs * b.natAbs := by
    have := congrArg Int.natAbs h.2.2
    rw [Int.natAbs_mul, Int.natAbs_mul, Int.natAbs_natCast] at this
    exact this
  have d : b.natAbs ∣ t.natAbs * M := ⟨S.natAbs, by rw [e, Nat.mul_comm]⟩
  exact Nat.Coprime.dvd_of_dvd_mul_left (by rw [Nat.Coprime, Nat.gcd_comm]; exact h.2.1) d
theorem dvd_int {M : Nat} {b : Int} (h : b.natAbs ∣ M) : b ∣ (M : Int) := Int.natAbs_dvd_natAbs.mp (by rw [Int.natAbs_natCast]; exact h)
theorem fr_term {M : Nat} {S t b : Int} (h : IsFr M S t b) : t * ((M : Int) / b) = S := by
  obtain ⟨k, hk⟩ := dvd_int (fr_dvd h)
  have b0 : b ≠ 0 := by have := h.1; omega
  have e := h.2.2
  rw [hk] at e ⊢
  rw [Int.mul_ediv_cancel_left _ b0]
  refine Int.eq_of_mul_eq_mul_right b0 ?_
  rw [← e, Int.mul_comm b k, Int.mul_assoc]
theorem fr_abs {M : Nat} {S t b : Int} (hM : 0 < M) (h : IsFr M S t b) : t.natAbs ≤ S.natAbs := by
  have q := fr_term h
  obtain ⟨k, hk⟩ := dvd_int (fr_dvd h)
  have b0 : b ≠ 0 := by have := h.1; omega
  rw [hk, Int.mul_ediv_cancel_left _ b0] at q
  rw [← q, Int.natAbs_mul]
  have k0 : k.natAbs ≠ 0 := fun z => by
    have : k = 0 := by omega
    rw [this, Int.mul_zero] at hk
    omega
  exact Nat.le_mul_of_pos_right _ (by omega)
theorem sumOf_cons (x : Int × Int) (ws : W2) (D : Int) : sumOf (x :: ws) D = x.1 * (D / x.2) + sumOf ws D := by
  unfold sumOf
  rw [List.map_cons, List.sum_cons]
theorem sumOf_append (a b : W2) (D : Int) : sumOf (a ++ b) D = sumOf a D + sumOf b D := by
  unfold sumOf
  rw [List.map_append, List.sum_append]
theorem sumOf_mul {L k : Int} : ∀ (ws : W2), (∀ x ∈ ws, 0 < x.2 ∧ x.2 ∣ L) → sumOf ws (L * k) = sumOf ws L * k
  | [], _ => by simp [sumOf]
  | x :: ws, h => by
    obtain ⟨h1, h2⟩ := h x (by simp)
    rw [sumOf_cons, sumOf_cons, sumOf_mul ws (fun y hy => h y (by simp [hy])), Int.add_mul]
    obtain ⟨c, hc⟩ := h2
    have x0 : x.2 ≠ 0 := by omega
    rw [hc, Int.mul_assoc, Int.mul_ediv_cancel_left _ x0, Int.mul_ediv_cancel_left _ x0, Int.mul_assoc]
theorem lcmOf_all {ws : W2} : ∀ i, i ≤ ws.length → ∀ j x, j < i → ws[j]? = some x → x.2.natAbs ∣ lcmOf (ws.take i)
  | 0, _, j, x, hj, _ => absurd hj (Nat.not_lt_zero j)
  | i + 1, hi, j, x, hj, hx => by
    have hy : ws[i]? = some ws[i] := List.getElem?_eq_getElem (by omega)
    rw [lcmOf_next hy]
    rcases Nat.lt_succ_iff_lt_or_eq.mp hj with h | h
    · exact Nat.dvd_trans (lcmOf_all i (by omega) j x h hx) (Nat.dvd_lcm_left _ _)
    · subst h
      rw [hy] at hx
      cases hx
      exact Nat.dvd_lcm_right _ _
theorem tot_fr {ws : W2} {t b : Int} {M : Nat} (sm : Small ws M) (co : ∀ (i : Nat) (x : Int × Int), ws[i]? = some x → Nat.gcd x.1.natAbs x.2.natAbs = 1) (h : TotOf ws t b) : IsFr M (sumOf ws M) t b := by
  rcases h with ⟨x, rfl, rfl, rfl⟩ | ⟨rfl, rfl⟩
  · obtain ⟨h1, h2⟩ := sm.bot 0 x rfl
    refine ⟨h1, co 0 x rfl, ?_⟩
    rw [sumOf_cons, show sumOf [] (M : Int) = 0 from rfl, Int.add_zero, Int.mul_assoc, Int.ediv_mul_cancel (dvd_int h2)]
  · have l1 := lcmOf_lt sm (i := ws.length) (Nat.le_refl _)
    have d := lcmOf_dvd sm ws.length (Nat.le_refl _)
    rw [List.take_length] at l1 d
    obtain ⟨k, hk⟩ := d
    refine fr_low (by omega) ?_
    have e : (M : Int) = ((lcmOf ws : Nat) : Int) * (k : Int) := by rw [hk]; exact Int.natCast_mul _ _
    rw [e, sumOf_mul ws (fun x hx => by
      obtain ⟨i, hi⟩ := List.mem_iff_getElem?.mp hx
      have q := lcmOf_all ws.length (Nat.le_refl _) i x (List.getElem?_eq_some_iff.mp hi).1 hi
      rw [List.take_length] at q
      exact ⟨(sm.bot i x hi).1, dvd_int q⟩), Int.mul_assoc, Int.mul_comm ((lcmOf ws : Nat) : Int) (k : Int)]
theorem fr_times {M : Nat} {S t b r : Int} (h : IsFr M S t b) : IsFr M (r * S) (lowT (r * t) (1 * b)) (lowB (r * t) (1 * b)) := by
  refine fr_low (by have := h.1; omega) ?_
  rw [Int.mul_assoc, h.2.2, Int.one_mul, Int.mul_assoc]
/-! ### what comes together in so many days -/
/-- the first x of a word that is told again and again -/
def dayS (M : Nat) (ws : W2) : Nat → Int
  | 0 => 0
  | x + 1 => dayS M ws x + match ws[x % ws.length]? with | some y => y.1 * ((M : Int) / y.2) | none => 0
theorem dayS_is {M : Nat} {ws : W2} (h : 1 ≤ ws.length) : ∀ x, dayS M ws x = ((x / ws.length : Nat) : Int) * sumOf ws M + sumOf (ws.take (x % ws.length)) M
  | 0 => by
    rw [Nat.zero_div, Nat.zero_mod, List.take_zero]
    simp [dayS, sumOf]
  | x + 1 => by
    have hm : x % ws.length < ws.length := Nat.mod_lt _ (by omega)
    have hx : ws[x % ws.length]? = some ws[x % ws.length] := List.getElem?_eq_getElem hm
    show dayS M ws x + (match ws[x % ws.length]? with | some y => y.1 * ((M : Int) / y.2) | none => 0) = _
    rw [hx, dayS_is h x]
    have st : sumOf (ws.take (x % ws.length)) M + ws[x % ws.length].1 * ((M : Int) / ws[x % ws.length].2) = sumOf (ws.take (x % ws.length + 1)) M := by
      rw [List.take_succ_eq_append_getElem hm, sumOf_append, sumOf_cons, show sumOf [] (M : Int) = 0 from rfl, Int.add_zero]
    show _ + _ + ws[x % ws.length].1 * ((M : Int) / ws[x % ws.length].2) = _
    rw [Int.add_assoc, st]
    by_cases c : x % ws.length + 1 = ws.length
    · have a := Nat.div_add_mod x ws.length
      have e : x + 1 = ws.length * (x / ws.length + 1) := by rw [Nat.mul_add, Nat.mul_one]; omega
      have e1 : (x + 1) % ws.length = 0 := by rw [e, Nat.mul_mod_right]
      have e2 : (x + 1) / ws.length = x / ws.length + 1 := by
        have q : (ws.length * (x / ws.length + 1)) / ws.length = x / ws.length + 1 := Nat.mul_div_cancel_left _ (by omega)
        rw [← e] at q
        exact q
      rw [e1, e2, c, List.take_length, List.take_zero, show sumOf [] (M : Int) = 0 from rfl, Int.add_zero, Int.natCast_add, Int.add_mul]
      simp
    · have hl : x % ws.length + 1 < ws.length := by omega
      have a := Nat.div_add_mod x ws.length
      have e1 : (x + 1) % ws.length = x % ws.length + 1 := by
        have e : x + 1 = (x % ws.length + 1) + ws.length * (x / ws.length) := by omega
        rw [e, Nat.add_mul_mod_self_left, Nat.mod_eq_of_lt hl]
      have e2 : (x + 1) / ws.length = x / ws.length := by
        have e : x + 1 = (x % ws.length + 1) + ws.length * (x / ws.length) := by omega
        rw [e, Nat.add_mul_div_left _ _ (by omega), Nat.div_eq_of_lt hl, Nat.zero_add]
      rw [e1, e2]
theorem dayS_like {M : Nat} {ws vs : W2} : ∀ x, (∀ i, i < x → ws[i % ws.length]? = vs[i % vs.length]?) → dayS M ws x = dayS M vs x
  | 0, _ => rfl
  | x + 1, h => by
    show dayS M ws x + _ = dayS M vs x + _
    rw [dayS_like x (fun i hi => h i (by omega)), h x (Nat.lt_succ_self x)]
end K11

namespace K11
open PySem PySem.Spec PyProof.Rows L2
/-- pairs told in a list -/
def PrsAt (K : PySem.W.Frag) (H : Hp) (a : Addr) (ws : W2) : Prop := ∃ qs : List Addr, SqL K H a (qs.map V.ref) ∧ qs.length = ws.length ∧ ∀ (j : Nat) (q : Addr) (y : Int × Int), qs[j]? = some q → ws[j]? = some y → SqT K H q [.int y.1, .int y.2]
theorem PrsAt.mono {K : PySem.W.Frag} {H H' : Hp} {a : Addr} {ws : W2} (h : PrsAt K H a ws) (s : Same H H') : PrsAt K H' a ws := by
  obtain ⟨qs, x, y, z⟩ := h
  exact ⟨qs, s.seq x, y, fun j q w a b => Same.tup s (z j q w a b)⟩
theorem fr_zero {m : Nat} : IsFr m 0 0 1 := ⟨by decide, rfl, by rw [Int.zero_mul, Int.zero_mul]⟩
theorem fr_plus {m : Nat} {S t b : Int} {y : Int × Int} (h : IsFr m S t b) (y0 : 0 < y.2) (yd : y.2.natAbs ∣ m) :
    IsFr m (S + y.1 * ((m : Int) / y.2)) (lowT (t * y.2 + y.1 * b) (b * y.2)) (lowB (t * y.2 + y.1 * b) (b * y.2)) := by
  have b0 := h.1
  refine fr_low (Int.mul_ne_zero (by omega) (by omega)) ?_
  obtain ⟨k, hk⟩ := dvd_int yd
  have e := h.2.2
  have hq : (m : Int) / y.2 = k := by rw [hk, Int.mul_ediv_cancel_left _ (by omega)]
  rw [hq, Int.add_mul, Int.add_mul]
  have e1 : t * y.2 * (m : Int) = S * (b * y.2) := by rw [Int.mul_assoc, Int.mul_comm y.2, ← Int.mul_assoc, e, Int.mul_assoc]
  have e2 : y.1 * b * (m : Int) = y.1 * k * (b * y.2) := by
    rw [hk, Int.mul_assoc, Int.mul_assoc]
    congr 1
    rw [Int.mul_comm y.2 k, ← Int.mul_assoc, ← Int.mul_assoc, Int.mul_comm b k]
  rw [e1, e2]
theorem take_small {ws : W2} {m : Nat} (h : Small ws m) (i : Nat) : Small (ws.take i) m := by
  refine ⟨h.pos, h.lt, fun j x hx => ?_, fun j x hx => ?_, by rw [List.length_take]; exact Nat.le_trans (Nat.min_le_right _ _) h.few⟩
  · rw [List.getElem?_take] at hx
    split at hx
    · exact h.bot j x hx
    · cases hx
  · rw [List.getElem?_take] at hx
    split at hx
    · exact h.top j x hx
    · cases hx
theorem sumOf_m {ws : W2} {m : Nat} (h : Small ws m) : (sumOf ws m).natAbs < 2 ^ 1100 := by
  have a := sum_lt (ws.map fun x => x.1 * ((m : Int) / x.2)) (2 ^ 1060) (fun y hy => by
    obtain ⟨x, hx, rfl⟩ := List.mem_map.mp hy
    obtain ⟨i, hi⟩ := List.mem_iff_getElem?.mp hx
    have t := h.top i x hi
    have b := (h.bot i x hi).1
    have e : ((m : Int) / x.2).natAbs ≤ m := by
      have q0 : 0 ≤ (m : Int) / x.2 := Int.ediv_nonneg (by omega) (by omega)
      have q1 : (m : Int) / x.2 ≤ (m : Int) := Int.ediv_le_self _ (by omega)
      omega
    rw [Int.natAbs_mul, show (2 : Nat) ^ 1060 = 2 ^ 1000 * 2 ^ 60 from by rw [← Nat.pow_add]]
    exact Nat.mul_le_mul (Nat.le_of_lt t) (Nat.le_trans e (Nat.le_of_lt h.lt)))
  rw [List.length_map] at a
  have c : ws.length * 2 ^ 1060 ≤ 2 ^ 12 * 2 ^ 1060 := Nat.mul_le_mul_right _ (Nat.le_trans h.few (by decide))
  rw [← Nat.pow_add] at c
  exact Nat.lt_of_le_of_lt (Nat.le_trans a c) (Nat.pow_lt_pow_right (by decide) (by decide))
def spSum (K : PySem.W.Frag) : Sp := fun vs H Q _ => ∃ (a : Addr) (ws : W2) (m : Nat), vs = [.ref a] ∧ PrsAt K H a ws ∧ Small ws m ∧
  ∀ (H' : Hp) (q : Addr) (t b : Int), Same H H' → IsFr m (sumOf ws m) t b → H' q = some (.tup [.int t, .int b]) → Q (.ref q) H'
section
variable {P : Program} {w : World} {K : PySem.W.Frag} {mg : Str → Option Value} {base : Heap}
theorem scLSum : FnScope ["pairs", "top", "bottom", "one", "other"] ["pairs"] (defScope d_law_sum) := ⟨rfl, rfl, rfl, by decide +kernel, rfl, by decide +kernel, by decide +kernel⟩
theorem ok_lsum {f fL : Addr} {fd fdL : FuncData} (F : Fun K "_law_sum" "_law_sum" d_law_sum f fd) (GL : FnOk P w K mg base CX0 1 fL fdL ["top", "bottom"] spLow) (mL : mg "_law_low" = some (.ref fL)) (kL : PySem.W.keepIn K (.ref fL) = true) (bL : Binds K fdL ["top", "bottom"] []) :
    FnOk P w K mg base CX0 2 f fd ["pairs"] (spSum K) := by
  refine F.ok scLSum (fun vs H Q E h => ?_) (fun cdv A outer s H vs Q E hr h => ?_)
  · obtain ⟨a, _, _, rfl, _⟩ := h
    rfl
  · obtain ⟨a, ws, m, rfl, ⟨qs, ha, lq, hq⟩, sm, kq⟩ := h
    refine ⟨_, pss_cons (ps_asg (pe_tup (pa_cons pe_int (pa_cons pe_int pa_nil))) (pg_tup (by rfl) (pgs_cons (pg_name (i := 1) scLSum.nd rfl (.inl rfl)) (pgs_cons (pg_name (i := 2) scLSum.nd rfl (.inl rfl)) pgs_nil))))
      (pss_cons (ps_for PassesOwn.never rfl (pi_list (pv 0)) (pg_tup (by rfl) (pgs_cons (pg_name (i := 3) scLSum.nd rfl (.inl rfl)) (pgs_cons (pg_name (i := 4) scLSum.nd rfl (.inl rfl)) pgs_nil)))
        (pss_one (ps_asg (pe_call GL hr rfl mL kL bL .nil pass0 (pa_cons (pe_op op_add (pe_op op_mulW (pv 1) (pv 4)) (pe_op op_mulW (pv 3) (pv 2))) (pa_cons (pe_op op_mulW (pv 2) (pv 4)) pa_nil))) (pg_tup (by rfl) (pgs_cons (pg_name (i := 1) scLSum.nd rfl (.inl rfl)) (pgs_cons (pg_name (i := 2) scLSum.nd rfl (.inl rfl)) pgs_nil))))))
      (pss_one (ps_ret (pe_tup (pa_cons (pv 1) (pa_cons (pv 2) pa_nil)))))), ?_⟩
    refine ⟨(by show 2 ≤ sizeLine; decide), fun z hz => ?_⟩
    have s0 : Same H (upd H z (.tup [.int 0, .int 1])) := same1 hz
    refine ⟨z, _, rfl, SqT.of upd_same, rfl, _, _, rfl, _, _, rfl, rfl, ?_⟩
    refine ⟨_, rfl, a, rfl, ⟨_, s0.seq ha⟩, ?_⟩
    refine for_list (K := K) (a := a) (xs := qs.map V.ref) (fun i σ G => ∃ (t b : Int) (v3 v4 : Option V), σ = [some (.ref a), some (.int t), some (.int b), v3, v4] ∧ Same H G ∧ IsFr m (sumOf (ws.take i) m) t b) ⟨0, 1, _, _, rfl, s0, fr_zero⟩ ?_ ?_ ?_
    · rintro i σ G _ ⟨_, _, _, _, _, s1, _⟩
      exact s1.seq ha
    · rintro i x σ G hx ⟨t, b, v3, v4, rfl, s1, f⟩
      rw [List.getElem?_map] at hx
      obtain ⟨q, hqi, rfl⟩ := Option.map_eq_some_iff.mp hx
      have il : i < ws.length := by
        have := (List.getElem?_eq_some_iff.mp hqi).1
        omega
      have hy : ws[i]? = some ws[i] := List.getElem?_eq_getElem il
      have st := take_small sm i
      have tb := Nat.lt_of_le_of_lt (fr_abs sm.pos f) (sumOf_m st)
      have bb : b.natAbs < 2 ^ 60 := Nat.lt_of_le_of_lt (Nat.le_of_dvd sm.pos (fr_dvd f)) sm.lt
      have yb := sm.bot i _ hy
      have yt := sm.top i _ hy
      have yb2 : ws[i].2.natAbs < 2 ^ 60 := Nat.lt_of_le_of_lt (Nat.le_of_dvd sm.pos yb.2) sm.lt
      refine ⟨q, _, rfl, Same.tup s1 (hq i q _ hqi hy), rfl, _, _, rfl, _, _, rfl, rfl, ?_⟩
      refine ⟨_, rfl, _, rfl, _, _, rfl, rfl, wide_mul (a := 1100) (b := 60) tb yb2 (by decide) (by decide) (by decide), _, rfl, _, rfl, _, _, rfl, rfl, wide_mul (a := 1000) (b := 60) yt bb (by decide) (by decide) (by decide), _, _, rfl, rfl, ?_⟩
      refine ⟨_, rfl, _, rfl, _, _, rfl, rfl, wide_mul (a := 60) (b := 60) bb yb2 (by decide) (by decide) (by decide), ?_⟩
      have n1 := pow_le (wide_lt tb yb2) (show 1100 + 60 ≤ 2000 by decide)
      have n2 := pow_le (wide_lt yt bb) (show 1000 + 60 ≤ 2000 by decide)
      refine ⟨_, _, rfl, Int.mul_ne_zero (by have := f.1; omega) (by have := yb.1; omega), pow_le (add_lt n1 n2) (by decide), pow_le (wide_lt bb yb2) (by decide), fun r hr' => ?_⟩
      refine ⟨r, _, rfl, SqT.of upd_same, rfl, _, _, rfl, _, _, rfl, rfl, ?_⟩
      refine ⟨_, _, _, _, rfl, s1.trans (same1 hr'), ?_⟩
      rw [List.take_succ_eq_append_getElem il, sumOf_append, sumOf_cons, show sumOf [] (m : Int) = 0 from rfl, Int.add_zero]
      exact fr_plus f yb.1 yb.2
    · rintro σ G ⟨t, b, v3, v4, rfl, s1, f⟩
      rw [List.length_map, lq, List.take_length] at f
      refine ⟨_, rfl, _, rfl, (by show 2 ≤ sizeLine; decide), fun r hr' => ?_⟩
      exact kq _ r t b (s1.trans (same1 hr')) f upd_same
end
end K11

namespace K11
open PySem PySem.Spec PyProof.Rows L2
/-- what the law tells: stretches of pairs -/
def LTold (K : PySem.W.Frag) (H : Hp) (a : Addr) (told : List (Option Int × W2)) : Prop := ∃ ts : List Addr, SqL K H a (ts.map V.ref) ∧ ts.length = told.length ∧
  ∀ (i : Nat) (t : Addr) (x : Option Int × W2), ts[i]? = some t → told[i]? = some x → ∃ wl, SqT K H t [dv x.1, .ref wl] ∧ PrsAt K H wl x.2
theorem LTold.mono {K : PySem.W.Frag} {H H' : Hp} {a : Addr} {told : List (Option Int × W2)} (h : LTold K H a told) (s : Same H H') : LTold K H' a told := by
  obtain ⟨ts, x, y, z⟩ := h
  refine ⟨ts, s.seq x, y, fun i t w a b => ?_⟩
  obtain ⟨wl, p, q⟩ := z i t w a b
  exact ⟨wl, Same.tup s p, q.mono s⟩
def spLOn (K : PySem.W.Frag) : Sp := fun vs H Q _ => ∃ (a : Addr) (day : Int) (told : List (Option Int × W2)), vs = [.ref a, .int day] ∧ LTold K H a told ∧ Told told ∧ 0 ≤ day ∧
  ∀ (q : Addr) (y : Int × Int), onV told day = some y → SqT K H q [.int y.1, .int y.2] → Q (.ref q) H
section
variable {P : Program} {w : World} {K : PySem.W.Frag} {mg : Str → Option Value} {base : Heap}
theorem scLOn : FnScope ["told", "day", "days", "word"] ["told", "day"] (defScope d_law_on) := ⟨rfl, rfl, rfl, by decide +kernel, rfl, by decide +kernel, by decide +kernel⟩
theorem ok_lon {f : Addr} {fd : FuncData} (F : Fun K "_law_on" "_law_on" d_law_on f fd) (B : TxtB mg) : FnOk P w K mg base CX0 1 f fd ["told", "day"] (spLOn K) := by
  refine F.ok scLOn (fun vs H Q E h => ?_) (fun cdv A outer s H vs Q E hr h => ?_)
  · obtain ⟨a, _, _, rfl, _⟩ := h
    rfl
  · obtain ⟨a, day, told, rfl, ⟨ts, ha, lt, hst⟩, ok, d0, kq⟩ := h
    refine ⟨_, pss_cons (ps_for PassesOwn.never rfl (pi_list (pv 0)) (pg_tup (by rfl) (pgs_cons (pg_name (i := 2) scLOn.nd rfl (.inl rfl)) (pgs_cons (pg_name (i := 3) scLOn.nd rfl (.inl rfl)) pgs_nil)))
        (pss_cons (ps_if (PW.pt (pw_or (pt_cmp (pc_isN (pv 2))) (pw_or1 (pt_cmpR op_lt (pv 1) (pv 2) (nomark _)))))
          (pss_one (ps_ret (pe_ix ix_list (pv 3) (pe_op op_mod (pv 1) (pe_callB call_len_seq (by rfl) B.len PySem.boot_len (pa_cons (pv 3) pa_nil))) (fun _ _ => rfl)))) pss_nil)
        (pss_one (ps_set (i := 1) scLOn.nd rfl (Or.inl rfl) (pe_op op_sub (pv 1) (pv 2))))))
      (pss_one (ps_ret (pe_tup (pa_cons pe_int (pa_cons pe_int pa_nil))))), ?_⟩
    refine ⟨_, rfl, a, rfl, ⟨_, ha⟩, for_list (K := K) (a := a) (xs := ts.map V.ref) (fun i σ G => ∃ (dy : Int) (v2 v3 : Option V), σ = [some (.ref a), some (.int dy), v2, v3] ∧ G = H ∧ i < told.length ∧ 0 ≤ dy ∧ onV (told.drop i) dy = onV told day) ⟨day, _, _, rfl, rfl, ok.pos, d0, rfl⟩ ?_ ?_ ?_⟩
    · rintro i σ G _ ⟨_, _, _, _, e, _⟩
      rw [e]
      exact ha
    · rintro i x σ G hx ⟨dy, v2, v3, rfl, eG, il, y0, eq⟩
      have eG := eG.symm
      subst eG
      rw [List.getElem?_map] at hx
      obtain ⟨t, ht, rfl⟩ := Option.map_eq_some_iff.mp hx
      obtain ⟨⟨d, ws⟩, hxi⟩ : ∃ x, told[i]? = some x := ⟨_, List.getElem?_eq_getElem il⟩
      obtain ⟨wl, q1, qs, h1, h2, h3⟩ := hst i t _ ht hxi
      have l1 := (ok.word i _ hxi).1
      have l1 : 1 ≤ ws.length := l1
      have h2 : qs.length = ws.length := h2
      have ob := ok.open_ i _ hxi
      have dn := fun n e => ok.days i _ n hxi e
      have dr : told.drop i = (d, ws) :: told.drop (i + 1) := by
        rw [List.drop_eq_getElem_cons il, Option.some.inj ((List.getElem?_eq_getElem il).symm.trans hxi)]
      rw [dr] at eq
      have lp : (qs.map V.ref).length = ws.length := by rw [List.length_map, h2]
      have n0 := Int.emod_nonneg dy (show (ws.length : Int) ≠ 0 by omega)
      have n1 := Int.emod_lt_of_pos dy (show (0 : Int) < (ws.length : Int) by omega)
      have hk : (dy % (ws.length : Int)).toNat < ws.length := by omega
      have hk' : (dy % (ws.length : Int)).toNat < qs.length := by omega
      have ret : onV told day = ws[(dy % (ws.length : Int)).toNat]? → Q (.ref (qs[(dy % (ws.length : Int)).toNat])) H := fun e =>
        kq _ _ (e.trans (List.getElem?_eq_getElem hk)) (h3 _ _ _ (List.getElem?_eq_getElem hk') (List.getElem?_eq_getElem hk))
      refine ⟨t, _, rfl, q1, rfl, _, _, rfl, _, _, rfl, rfl, ?_⟩
      refine ⟨_, rfl, _, rfl, if_stop (d := d) (fun e => ?_) (fun n e => ?_)⟩
      · subst e
        refine iteT ⟨_, rfl, _, rfl, _, rfl, wl, _, rfl, .inl h1, _, _, rfl, rfl, (by rw [lp]; omega), ?_⟩
        rw [lp]
        exact ⟨wl, _, _, .ref (qs[(dy % (ws.length : Int)).toNat]), rfl, rfl, h1, at_k n0 (by rw [List.getElem?_map, List.getElem?_eq_getElem hk']; rfl), ret eq.symm⟩
      · subst e
        refine ⟨_, rfl, _, rfl, _, _, rfl, rfl, _, rfl, ?_⟩
        have e2 : onV ((some n, ws) :: told.drop (i + 1)) dy = if dy < n then ws[(dy % (ws.length : Int)).toNat]? else onV (told.drop (i + 1)) (dy - n) := rfl
        rw [e2] at eq
        refine ite2 (fun h => ?_) (fun h => ?_)
        · rw [if_pos (of_decide_eq_true h)] at eq
          refine ⟨_, rfl, _, rfl, _, rfl, wl, _, rfl, .inl h1, _, _, rfl, rfl, (by rw [lp]; omega), ?_⟩
          rw [lp]
          exact ⟨wl, _, _, .ref (qs[(dy % (ws.length : Int)).toNat]), rfl, rfl, h1, at_k n0 (by rw [List.getElem?_map, List.getElem?_eq_getElem hk']; rfl), ret eq.symm⟩
        · have h : ¬ dy < n := fun z => h (decide_eq_true z)
          rw [if_neg h] at eq
          have i1 : i + 1 < told.length := by
            have : i + 1 ≠ told.length := fun z => nomatch (ob.mpr z)
            omega
          exact ⟨_, rfl, _, rfl, _, _, rfl, rfl, dy - n, _, _, rfl, rfl, i1, by omega, eq⟩
    · rintro σ G ⟨_, _, _, _, _, il, _⟩
      rw [List.length_map, lt] at il
      exact absurd il (Nat.lt_irrefl _)
end
end K11

namespace K11
open PySem PySem.Spec PyProof.Rows L2
theorem But.trans {p : Addr} {H H1 H2 : Hp} (a : But p H H1) (b : But p H1 H2) : But p H H2 := fun c o h e => b c o h (a c o h e)
theorem same_but {p : Addr} {H H' : Hp} (s : Same H H') : But p H H' := fun b o _ e => s b o e
theorem WellAt.same {H H' : Hp} {p : Addr} {z : Int} (h : WellAt H p z) (s : Same H H') : WellAt H' p z := by
  obtain ⟨x, y, e, a, b⟩ := h
  exact ⟨x, y, s _ _ e, a, b⟩
/-- pairs as the law draws them -/
def POkN (k : Nat) (y : Int × Int) : Prop := 0 < y.2 ∧ y.2.natAbs ∣ 6 ∧ y.1.natAbs < 2 ^ k ∧ Nat.gcd y.1.natAbs y.2.natAbs = 1
abbrev POk := POkN 20
theorem POkN.up {j k : Nat} {y : Int × Int} (h : POkN j y) (e : j ≤ k) : POkN k y := ⟨h.1, h.2.1, Nat.lt_of_lt_of_le h.2.2.1 (Nat.pow_le_pow_right (by decide) e), h.2.2.2⟩
theorem low_ok {k : Nat} {t b : Int} (b1 : 1 ≤ b) (b3 : b ≤ 3) (ht : t.natAbs < 2 ^ k) : POkN k (lowT t b, lowB t b) := by
  have b0 : b ≠ 0 := by omega
  have hb := lowB_mul t b
  have hd : lowB t b ∣ b := ⟨sg t b, hb.symm⟩
  have h6 : b ∣ 6 := by
    have : b = 1 ∨ b = 2 ∨ b = 3 := by omega
    rcases this with h | h | h <;> subst h <;> decide
  refine ⟨lowB_pos b0, ?_, Nat.lt_of_le_of_lt (lowT_le b0) ht, low_coprime b0⟩
  exact Int.natAbs_dvd_natAbs.mpr (Int.dvd_trans hd h6)
/-- pairs in a list of our own -/
def PrsL (H : Hp) (l : Addr) (ws : W2) : Prop := ∃ qs : List Addr, H l = some (.lst (qs.map V.ref)) ∧ qs.length = ws.length ∧ ∀ (j : Nat) (q : Addr) (y : Int × Int), qs[j]? = some q → ws[j]? = some y → H q = some (.tup [.int y.1, .int y.2])
theorem PrsL.at_ {K : PySem.W.Frag} {H : Hp} {l : Addr} {ws : W2} (h : PrsL H l ws) : PrsAt K H l ws := by
  obtain ⟨qs, a, b, c⟩ := h
  exact ⟨qs, SqL.of a, b, fun j q y h1 h2 => SqT.of (c j q y h1 h2)⟩
def spLWord : Sp := fun vs H Q _ => ∃ (p : Addr) (z most far : Int), vs = [.ref p, .int most, .int far] ∧ WellAt H p z ∧ 0 ≤ z ∧ z < 2 ^ 29 ∧ 0 < most ∧ most ≤ 60 ∧ 0 ≤ far ∧ far ≤ 1 ∧
  ∀ (H' : Hp) (l : Addr) (ws : W2) (z' : Int), But p H H' → H l = none → l ≠ p → WellAt H' p z' → 0 ≤ z' → z' ≤ z + 200 → PrsL H' l ws → 1 ≤ ws.length → (ws.length : Int) ≤ most → (∀ y ∈ ws, POkN 10 y) → Q (.ref l) H'
section
variable {P : Program} {w : World} {K : PySem.W.Frag} {mg : Str → Option Value} {base : Heap}
abbrev lwordN : List Str := ["well", "most", "far", "bottom", "top", "k"]
theorem scLWord : FnScope lwordN ["well", "most", "far"] (defScope d_law_word) := ⟨rfl, rfl, rfl, by decide +kernel, rfl, by decide +kernel, by decide +kernel⟩
theorem ok_lword {f fD fO fL : Addr} {fd fdD fdO fdL : FuncData} (F : Fun K "_law_word" "_law_word" d_law_word f fd) (hrange : mg "range" = none)
    (GD : FnOk P w K mg base CX0 1 fD fdD ["well", "many"] spDraw) (mD : mg "_law_draw" = some (.ref fD)) (kD : PySem.W.keepIn K (.ref fD) = true) (bD : Binds K fdD ["well", "many"] [])
    (GO : FnOk P w K mg base CX0 2 fO fdO ["well", "some"] (spOne K)) (mO : mg "_law_one" = some (.ref fO)) (kO : PySem.W.keepIn K (.ref fO) = true) (bO : Binds K fdO ["well", "some"] [])
    (GL : FnOk P w K mg base CX0 1 fL fdL ["top", "bottom"] spLow) (mL : mg "_law_low" = some (.ref fL)) (kL : PySem.W.keepIn K (.ref fL) = true) (bL : Binds K fdL ["top", "bottom"] []) :
    FnOk P w K mg base CX0 3 f fd ["well", "most", "far"] spLWord := by
  refine F.ok scLWord (fun vs H Q E h => ?_) (fun cdv A outer s H vs Q E hr h => ?_)
  · obtain ⟨p, z, most, far, rfl, _⟩ := h
    rfl
  · obtain ⟨p, z, most, far, rfl, hp, z0, z1, m0, m1, f0, f1, kq⟩ := h
    have r1 : Room 1 _ := hr.mono (by decide)
    refine ⟨_, pss_cons (ps_set (i := 3) scLWord.nd rfl (by first | exact Or.inl rfl | exact Or.inr rfl) (pe_op op_add pe_int (pe_call GD r1 rfl mD kD bD .nil pass0 (pa_cons (pv 0) (pa_cons (pe_call GO hr rfl mO kO bO .nil pass0 (pa_cons (pv 0) (pa_cons (pe_lst (pa_cons pe_int (pa_cons pe_int (pa_cons pe_int pa_nil)))) pa_nil))) pa_nil)))))
      (pss_cons (ps_set (i := 4) scLWord.nd rfl (by first | exact Or.inl rfl | exact Or.inr rfl) (pe_call GO hr rfl mO kO bO .nil pass0 (pa_cons (pv 0) (pa_cons (pe_lst (pa_cons pe_int (pa_cons pe_int (pa_cons pe_int pa_nil)))) pa_nil))))
      (pss_one (ps_ret (pe_lc (own := [("k", 5)]) (g := gName 5) (by rfl) scLWord.nd (pi_range1 (by rfl) hrange (pa_cons (pe_op op_add pe_int (pe_call GD r1 rfl mD kD bD .nil pass0 (pa_cons (pv 0) (pa_cons (pv 1) pa_nil)))) pa_nil)) (blkOk_by (own := [("k", 5)]) (N := lwordN) (sc := defScope d_law_word) (by decide +kernel)) (fun _ _ _ _ _ => pg_name (i := 5) scLWord.nd rfl (.inl rfl)) (fun _ _ _ _ _ => pts_nil)
        (fun _ _ _ _ _ => pe_call GL r1 rfl mL kL bL .nil pass0 (pa_cons (pe_op op_sub (pe_call GD r1 rfl mD kD bD .nil pass0 (pa_cons (pv 0) (pa_cons (pv 4) pa_nil))) (pe_op op_mul (pv 2) (pe_call GD r1 rfl mD kD bD .nil pass0 (pa_cons (pv 0) (pa_cons pe_int pa_nil))))) (pa_cons (pv 3) pa_nil))))))), ?_⟩
    have np : ∀ {G : Hp} {q : Addr} {zz : Int}, WellAt G p zz → G q = none → q ≠ p := fun {G q zz} h hq e => by
      obtain ⟨_, _, e1, _⟩ := h
      rw [e, e1] at hq
      cases hq
    refine ⟨_, rfl, _, rfl, (by show 3 ≤ sizeLine; decide), fun q hq => ?_⟩
    have b1 : But p H (upd H q (.lst [.int 1, .int 1, .int 3])) := same_but (same1 hq)
    refine ⟨p, q, _, z, rfl, hp.same (same1 hq), z0, by omega, upd_same, np hp hq, (by show 0 < 3; decide), (by show 3 < 1000; decide), fun H1 za x bt1 w1 a0 a1 hx => ?_⟩
    obtain ⟨m, rfl, hm⟩ : ∃ m : Int, x = .int m ∧ (m = 1 ∨ m = 3) := by
      have hx : x ∈ [V.int 1, .int 1, .int 3] := hx
      simp only [List.mem_cons, List.not_mem_nil, or_false] at hx
      rcases hx with h | h | h
      · exact ⟨1, h, .inl rfl⟩
      · exact ⟨1, h, .inl rfl⟩
      · exact ⟨3, h, .inr rfl⟩
    refine ⟨p, m, za, rfl, w1, by omega, by omega, a0, by omega, fun H2 d zb bt2 w2 c0 c1 d0 d1 => ?_⟩
    refine ⟨_, _, rfl, rfl, ?_⟩
    have bb : 1 ≤ 1 + d ∧ 1 + d ≤ 3 := by omega
    refine ⟨_, rfl, (by show 3 ≤ sizeLine; decide), fun q2 hq2 => ?_⟩
    have b3 : But p H2 (upd H2 q2 (.lst [.int 2, .int 3, .int 7])) := same_but (same1 hq2)
    refine ⟨p, q2, _, zb, rfl, w2.same (same1 hq2), c0, by omega, upd_same, np w2 hq2, (by show 0 < 3; decide), (by show 3 < 1000; decide), fun H3 zc x2 bt3 w3 e0 e1 hx2 => ?_⟩
    obtain ⟨tp, rfl, htp⟩ : ∃ m : Int, x2 = .int m ∧ 0 < m ∧ m ≤ 7 := by
      have hx2 : x2 ∈ [V.int 2, .int 3, .int 7] := hx2
      simp only [List.mem_cons, List.not_mem_nil, or_false] at hx2
      rcases hx2 with h | h | h
      · exact ⟨2, h, by decide, by decide⟩
      · exact ⟨3, h, by decide, by decide⟩
      · exact ⟨7, h, by decide, by decide⟩
    refine ⟨_, rfl, _, rfl, p, most, zc, rfl, w3, m0, by omega, e0, by omega, fun H4 dm zd bt4 w4 g0 g1 h0 h1 => ?_⟩
    refine ⟨_, _, rfl, rfl, _, rfl, by omega, by omega, fun D hD => ?_⟩
    have Dp := np w4 hD
    have B4 : But p H H4 := (b1.trans bt1).trans (bt2.trans (b3.trans (bt3.trans bt4)))
    refine lc_range (lo := 0) (n := (1 + dm).toNat) (fun i M => ∃ (qs : List Addr) (ws : W2) (zz : Int), M D = some (.lst (qs.map V.ref)) ∧ qs.length = i ∧ ws.length = i ∧ (∀ (j : Nat) (q : Addr) (y : Int × Int), qs[j]? = some q → ws[j]? = some y → M q = some (.tup [.int y.1, .int y.2])) ∧
      (∀ y ∈ ws, POkN 10 y) ∧ WellAt M p zz ∧ 0 ≤ zz ∧ zz ≤ zd + 2 * (i : Int) ∧ But p H4 M) ?_ ?_ ?_
    · exact ⟨[], [], zd, upd_same, rfl, rfl, (fun j q y h _ => by simp at h), (fun y h => nomatch h), w4.same (same1 hD), g0, by omega, same_but (same1 hD)⟩
    · rintro i M hi ⟨qs, ws, zz, eD, lq, lw, hqs, hws, wz, k0, k1, bM⟩
      refine ⟨rfl, ?_⟩
      refine ⟨_, rfl, _, rfl, p, tp, zz, rfl, wz, by omega, by omega, k0, by omega, fun M1 da z2 bA wA n0 n1 da0 da1 => ?_⟩
      refine ⟨_, rfl, _, rfl, p, 3, z2, rfl, wA, by decide, by decide, n0, by omega, fun M2 db z3 bB wB o0 o1 db0 db1 => ?_⟩
      refine ⟨_, _, rfl, rfl, .inl ⟨by omega, by omega⟩, _, _, rfl, rfl, _, rfl, ?_⟩
      have fd : 0 ≤ far * db ∧ far * db ≤ 3 := by
        have : far = 0 ∨ far = 1 := by omega
        rcases this with h | h <;> subst h <;> omega
      have tb : (da - far * db).natAbs < 2 ^ 10 := by omega
      refine ⟨_, 1 + d, rfl, by omega, pow_le tb (by decide), Nat.lt_of_lt_of_le (show (1 + d).natAbs < 2 ^ 20 by omega) (Nat.pow_le_pow_right (by decide) (by decide)), fun q hq => ?_⟩
      have bM2 : But p M M2 := bA.trans bB
      have eD2 : M2 D = some (.lst (qs.map V.ref)) := bM2 _ _ Dp eD
      have Dq : D ≠ q := fun e => by rw [← e, eD2] at hq; cases hq
      have pq := np wB hq
      refine ⟨_, by rw [upd_ne Dq]; exact eD2, (by rw [List.length_map, lq]; exact Nat.lt_of_lt_of_le hi (Nat.le_trans (show (1 + dm).toNat ≤ 60 by omega) (show 60 ≤ sizeLine by decide))), ?_⟩
      refine ⟨qs ++ [q], ws ++ [(lowT (da - far * db) (1 + d), lowB (da - far * db) (1 + d))], z3, by rw [List.map_append]; exact upd_same, by rw [List.length_append, lq]; rfl, by rw [List.length_append, lw]; rfl, fun j q' y h1' h2' => ?_, fun y hy => ?_, ?_, o0, by omega, fun b o hb e => ?_⟩
      · by_cases c : j < qs.length
        · rw [List.getElem?_append_left c] at h1'
          rw [List.getElem?_append_left (by omega)] at h2'
          have e := hqs j q' y h1' h2'
          have qp : q' ≠ p := fun e' => by
            obtain ⟨_, _, e1, _⟩ := wz
            rw [e', e1] at e
            cases e
          have e2 := bM2 _ _ qp e
          rw [upd_ne (fun e' => by rw [e', eD] at e; cases e), upd_ne (ne_of_none e2 hq)]
          exact e2
        · rw [List.getElem?_append_right (by omega)] at h1' h2'
          have c0 : j - qs.length = 0 := by
            have := (List.getElem?_eq_some_iff.mp h1').1
            simp at this
            omega
          rw [c0] at h1'
          rw [show j - ws.length = 0 from by omega] at h2'
          have e1 : q = q' := by simpa using h1'
          have e2 : (lowT (da - far * db) (1 + d), lowB (da - far * db) (1 + d)) = y := by simpa using h2'
          subst e1 e2
          rw [upd_ne (Ne.symm Dq), upd_same]
      · rcases List.mem_append.mp hy with h | h
        · exact hws y h
        · have e : y = (lowT (da - far * db) (1 + d), lowB (da - far * db) (1 + d)) := by simpa using h
          rw [e]
          exact low_ok bb.1 bb.2 tb
      · obtain ⟨x', y', e, u, v⟩ := wB
        exact ⟨x', y', by rw [upd_ne (Ne.symm Dp), upd_ne (Ne.symm pq)]; exact e, u, v⟩
      · have e3 := bM2 _ _ hb (bM _ _ hb e)
        rw [upd_ne (ne_of_none e hD), upd_ne (ne_of_none e3 hq)]
        exact e3
    · rintro M ⟨qs, ws, zz, eD, lq, lw, hqs, hws, wz, k0, k1, bM⟩
      refine kq M D ws zz (B4.trans bM) ?_ Dp wz k0 (by omega) ⟨qs, eD, by omega, hqs⟩ (by omega) (by omega) hws
      cases e : H D with
      | none => rfl
      | some o =>
        have := B4 D o Dp e
        rw [hD] at this
        cases this
end
end K11

namespace K11
open PySem PySem.Spec PyProof.Rows L2
/-! ### what is drawn, beside a well and other lists that may change -/
/-- some list of our own stands at p -/
def LstAt (H : Hp) (p : Addr) : Prop := ∃ xs, H p = some (.lst xs)
theorem WellAt.lst {H : Hp} {p : Addr} {z : Int} (h : WellAt H p z) : LstAt H p := by
  obtain ⟨x, y, e, _⟩ := h
  exact ⟨_, e⟩
/-- all but what N tells stays; what N tells are lists -/
structure ButN (N : Addr → Prop) (H H' : Hp) : Prop where
  lst : ∀ q, N q → LstAt H q
  keep : ∀ b o, ¬ N b → H b = some o → H' b = some o
theorem ButN.ne {N : Addr → Prop} {H H' : Hp} (h : ButN N H H') {q : Addr} {o : HO} (e : H q = some o) (n : ∀ xs, o ≠ .lst xs) : ¬ N q := fun z => by
  obtain ⟨xs, e2⟩ := h.lst q z
  rw [e] at e2
  exact n xs (Option.some.inj e2)
theorem ButN.tup {N : Addr → Prop} {H H' : Hp} (h : ButN N H H') {q : Addr} {xs : List V} (e : H q = some (.tup xs)) : H' q = some (.tup xs) := h.keep q _ (h.ne e (fun _ z => nomatch z)) e
theorem ButN.same {N : Addr → Prop} {H H' : Hp} (l : ∀ q, N q → LstAt H q) (s : Same H H') : ButN N H H' := ⟨l, fun b o _ e => s b o e⟩
theorem ButN.but {N : Addr → Prop} {p : Addr} {H H' : Hp} (l : ∀ q, N q → LstAt H q) (n : N p) (b : But p H H') : ButN N H H' := ⟨l, fun q o h e => b q o (fun z => h (by rw [z]; exact n)) e⟩
theorem ButN.put {N : Addr → Prop} {p : Addr} {H : Hp} {o : HO} (l : ∀ q, N q → LstAt H q) (n : N p) : ButN N H (upd H p o) := ⟨l, fun q u h e => by rw [upd_ne (fun z => h (by rw [z]; exact n))]; exact e⟩
theorem ButN.trans {N : Addr → Prop} {H H1 H2 : Hp} (a : ButN N H H1) (b : ButN N H1 H2) : ButN N H H2 := ⟨a.lst, fun q o n e => b.keep q o n (a.keep q o n e)⟩
/-- a pair at q -/
def PrAt (H : Hp) (q : Addr) (y : Int × Int) : Prop := H q = some (.tup [.int y.1, .int y.2])
/-- pairs in a list of our own, which N doesn't tell -/
def PrsN (N : Addr → Prop) (H : Hp) (l : Addr) (ws : W2) : Prop := ¬ N l ∧ ∃ qs : List Addr, H l = some (.lst (qs.map V.ref)) ∧ All2 (PrAt H) qs ws
theorem PrsN.but {N : Addr → Prop} {H H' : Hp} {l : Addr} {ws : W2} (h : PrsN N H l ws) (b : ButN N H H') : PrsN N H' l ws := by
  obtain ⟨n, qs, e, a⟩ := h
  exact ⟨n, qs, b.keep _ _ n e, a.mono fun q y _ _ r => b.tup r⟩
theorem PrsN.at_ {K : PySem.W.Frag} {N : Addr → Prop} {H : Hp} {l : Addr} {ws : W2} (h : PrsN N H l ws) : PrsAt K H l ws := by
  obtain ⟨n, qs, e, a⟩ := h
  exact ⟨qs, SqL.of e, a.len, fun j q y h1 h2 => SqT.of (a.all j q y h1 h2)⟩
theorem PrsL.prsN {N : Addr → Prop} {H : Hp} {l : Addr} {ws : W2} (h : PrsL H l ws) (n : ¬ N l) : PrsN N H l ws := by
  obtain ⟨qs, e, a, b⟩ := h
  exact ⟨n, qs, e, ⟨a, fun i q y h1 h2 => b i q y h1 h2⟩⟩
theorem PrsN.less {N N' : Addr → Prop} {H : Hp} {l : Addr} {ws : W2} (h : PrsN N H l ws) (f : ∀ q, N' q → N q) : PrsN N' H l ws := ⟨fun z => h.1 (f _ z), h.2⟩
/-- a stretch at t -/
def StN (N : Addr → Prop) (H : Hp) (t : Addr) (x : Option Int × W2) : Prop := ∃ wl, H t = some (.tup [dv x.1, .ref wl]) ∧ PrsN N H wl x.2
theorem StN.but {N : Addr → Prop} {H H' : Hp} {t : Addr} {x : Option Int × W2} (h : StN N H t x) (b : ButN N H H') : StN N H' t x := by
  obtain ⟨wl, e, a⟩ := h
  exact ⟨wl, b.tup e, a.but b⟩
theorem StN.less {N N' : Addr → Prop} {H : Hp} {t : Addr} {x : Option Int × W2} (h : StN N H t x) (f : ∀ q, N' q → N q) : StN N' H t x := by
  obtain ⟨wl, e, a⟩ := h
  exact ⟨wl, e, a.less f⟩
/-- stretches in a list at l -/
def TolL (N : Addr → Prop) (H : Hp) (l : Addr) (told : List (Option Int × W2)) : Prop := ∃ ts : List Addr, H l = some (.lst (ts.map V.ref)) ∧ All2 (StN N H) ts told
def TolN (N : Addr → Prop) (H : Hp) (l : Addr) (told : List (Option Int × W2)) : Prop := ¬ N l ∧ TolL N H l told
theorem TolN.but {N : Addr → Prop} {H H' : Hp} {l : Addr} {told : List (Option Int × W2)} (h : TolN N H l told) (b : ButN N H H') : TolN N H' l told := by
  obtain ⟨n, ts, e, a⟩ := h
  exact ⟨n, ts, b.keep _ _ n e, a.mono fun t x _ _ r => r.but b⟩
theorem TolL.at_ {K : PySem.W.Frag} {N : Addr → Prop} {H : Hp} {l : Addr} {told : List (Option Int × W2)} (h : TolL N H l told) : LTold K H l told := by
  obtain ⟨ts, e, a⟩ := h
  refine ⟨ts, SqL.of e, a.len, fun i t x h1 h2 => ?_⟩
  obtain ⟨wl, e2, r⟩ := a.all i t x h1 h2
  exact ⟨wl, SqT.of e2, r.at_⟩
/-- stretches as the law has them: at most n of them, words of at most k shares, tops below 2 ^ e -/
structure DT (n k e : Nat) (told : List (Option Int × W2)) : Prop where
  ok : Told told
  few : told.length ≤ n
  len : ∀ x ∈ told, x.2.length ≤ k
  prs : ∀ x ∈ told, ∀ y ∈ x.2, POkN e y
  far : ∀ x ∈ told, ∀ n, x.1 = some n → n ≤ 2 ^ 41
structure DHead (k : Nat) (told : List (Option Int × W2)) : Prop where
  word : ∀ x ∈ told, 1 ≤ x.2.length ∧ x.2.length ≤ k
  prs : ∀ x ∈ told, ∀ y ∈ x.2, POkN 10 y
  far : ∀ x ∈ told, ∃ n, x.1 = some n ∧ 1 ≤ n ∧ n ≤ 2 ^ 41
theorem DHead.nil {k : Nat} : DHead k [] := ⟨(fun _ h => nomatch h), (fun _ h => nomatch h), (fun _ h => nomatch h)⟩
theorem DHead.snoc {k : Nat} {told : List (Option Int × W2)} {n : Int} {ws : W2} (h : DHead k told) (n1 : 1 ≤ n) (n2 : n ≤ 2 ^ 41) (l1 : 1 ≤ ws.length) (l2 : ws.length ≤ k) (hp : ∀ y ∈ ws, POkN 10 y) : DHead k (told ++ [(some n, ws)]) := by
  have cs : ∀ {Pr : Option Int × W2 → Prop}, (∀ x ∈ told, Pr x) → Pr (some n, ws) → ∀ x ∈ told ++ [(some n, ws)], Pr x := fun a b x hx => by
    rcases List.mem_append.mp hx with z | z
    · exact a x z
    · rw [List.mem_singleton.mp z]
      exact b
  exact ⟨cs h.word ⟨l1, l2⟩, cs h.prs hp, cs h.far ⟨n, rfl, n1, n2⟩⟩
/-- heads with an end, and one without -/
theorem told_of {k : Nat} {told : List (Option Int × W2)} {ws : W2} (hw : ∀ x ∈ told, 1 ≤ x.2.length ∧ x.2.length ≤ k) (hf : ∀ x ∈ told, ∃ n, x.1 = some n ∧ 1 ≤ n) (few : told.length ≤ 59) (k60 : k ≤ 60) (l1 : 1 ≤ ws.length) (l2 : ws.length ≤ k) : Told (told ++ [(none, ws)]) := by
  have cs : ∀ {Pr : Option Int × W2 → Prop}, (∀ x ∈ told, Pr x) → Pr (none, ws) → ∀ x ∈ told ++ [(none, ws)], Pr x := fun a b x hx => by
    rcases List.mem_append.mp hx with z | z
    · exact a x z
    · rw [List.mem_singleton.mp z]
      exact b
  have le : (told ++ [((none : Option Int), ws)]).length = told.length + 1 := by rw [List.length_append]; rfl
  refine ⟨by rw [le]; omega, by rw [le]; omega, fun i x hx => ?_, fun i x hx => ?_, fun i x n hx e => ?_⟩
  · have := cs (Pr := fun x => 1 ≤ x.2.length ∧ x.2.length ≤ k) hw ⟨l1, l2⟩ x (List.mem_of_getElem? hx)
    omega
  · rw [le]
    by_cases c : i < told.length
    · rw [List.getElem?_append_left c] at hx
      obtain ⟨n, e, _⟩ := hf x (List.mem_of_getElem? hx)
      rw [e]
      exact ⟨(fun z => nomatch z), fun z => absurd z (by omega)⟩
    · have il := (List.getElem?_eq_some_iff.mp hx).1
      rw [le] at il
      have ei : i = told.length := by omega
      subst ei
      rw [List.getElem?_append_right (Nat.le_refl _), Nat.sub_self] at hx
      have : (none, ws) = x := by simpa using hx
      subst this
      exact ⟨fun _ => rfl, fun _ => rfl⟩
  · rcases List.mem_append.mp (List.mem_of_getElem? hx) with z | z
    · obtain ⟨m, e1, m1⟩ := hf x z
      rw [e] at e1
      cases e1
      exact m1
    · rw [List.mem_singleton.mp z] at e
      cases e
theorem DHead.told {n k : Nat} {told : List (Option Int × W2)} {ws : W2} (h : DHead k told) (few : told.length + 1 ≤ n) (n60 : n ≤ 60) (k60 : k ≤ 60) (l1 : 1 ≤ ws.length) (l2 : ws.length ≤ k) (hp : ∀ y ∈ ws, POkN 10 y) : DT n k 10 (told ++ [(none, ws)]) := by
  have cs : ∀ {Pr : Option Int × W2 → Prop}, (∀ x ∈ told, Pr x) → Pr (none, ws) → ∀ x ∈ told ++ [(none, ws)], Pr x := fun a b x hx => by
    rcases List.mem_append.mp hx with z | z
    · exact a x z
    · rw [List.mem_singleton.mp z]
      exact b
  refine ⟨told_of h.word (fun x hx => ?_) (by omega) k60 l1 l2, by rw [List.length_append]; exact few, cs (fun x hx => (h.word x hx).2) l2, cs h.prs hp, cs (fun x hx n e => ?_) (fun n e => nomatch e)⟩
  · obtain ⟨n, a, b, _⟩ := h.far x hx
    exact ⟨n, a, b⟩
  · obtain ⟨m, e1, _, m2⟩ := h.far x hx
    rw [e] at e1
    cases e1
    exact m2
def spLStr : Sp := fun vs H Q _ => ∃ (p : Addr) (z most word long far : Int), vs = [.ref p, .int most, .int word, .int long, .int far] ∧ WellAt H p z ∧ 0 ≤ z ∧ z < 2 ^ 28 ∧ 0 < most ∧ most ≤ 60 ∧ 0 < word ∧ word ≤ 60 ∧ 0 < long ∧ long ≤ 1000000000000 ∧ 0 ≤ far ∧ far ≤ 1 ∧
  ∀ (H' : Hp) (l : Addr) (told : List (Option Int × W2)) (z' : Int), But p H H' → H l = none → WellAt H' p z' → 0 ≤ z' → z' ≤ z + 20000 → TolN (· = p) H' l told → DT most.toNat word.toNat 10 told → Q (.ref l) H'
section
variable {P : Program} {w : World} {K : PySem.W.Frag} {mg : Str → Option Value} {base : Heap}
abbrev lstrN : List Str := ["well", "most", "word", "long", "far", "found", "k"]
theorem scLStr : FnScope lstrN ["well", "most", "word", "long", "far"] (defScope d_law_stretches) := ⟨rfl, rfl, rfl, by decide +kernel, rfl, by decide +kernel, by decide +kernel⟩
theorem ok_lstr {f fD fW : Addr} {fd fdD fdW : FuncData} (F : Fun K "_law_stretches" "_law_stretches" d_law_stretches f fd) (hrange : mg "range" = none)
    (GD : FnOk P w K mg base CX0 1 fD fdD ["well", "many"] spDraw) (mD : mg "_law_draw" = some (.ref fD)) (kD : PySem.W.keepIn K (.ref fD) = true) (bD : Binds K fdD ["well", "many"] [])
    (GW : FnOk P w K mg base CX0 3 fW fdW ["well", "most", "far"] spLWord) (mW : mg "_law_word" = some (.ref fW)) (kW : PySem.W.keepIn K (.ref fW) = true) (bW : Binds K fdW ["well", "most", "far"] []) :
    FnOk P w K mg base CX0 4 f fd ["well", "most", "word", "long", "far"] spLStr := by
  refine F.ok scLStr (fun vs H Q E h => ?_) (fun cdv A outer s H vs Q E hr h => ?_)
  · obtain ⟨p, z, _, _, _, _, rfl, _⟩ := h
    rfl
  · obtain ⟨p, z, most, word, long, far, rfl, hp, z0, z1, m0, m1, w0, w1, l0, l1, f0, f1, kq⟩ := h
    have r1 : Room 1 _ := hr.mono (by decide)
    refine ⟨_, pss_cons (ps_set (i := 5) scLStr.nd rfl (Or.inl rfl) (pe_lst pa_nil))
      (pss_cons (ps_for PassesOwn.never rfl (pi_range1 (by rfl) hrange (pa_cons (pe_call GD r1 rfl mD kD bD .nil pass0 (pa_cons (pv 0) (pa_cons (pv 1) pa_nil))) pa_nil)) (pg_name (i := 6) scLStr.nd rfl (.inl rfl))
        (pss_one (ps_expr (pe_bm PySem.F.plainAttrs_list PySem.F.slot_list_append PySem.F.type_list_append mt_append (pv 5) (pa_cons (pe_tup (pa_cons (pe_op op_add pe_int (pe_call GD r1 rfl mD kD bD .nil pass0 (pa_cons (pv 0) (pa_cons (pv 3) pa_nil)))) (pa_cons (pe_call GW hr rfl mW kW bW .nil pass0 (pa_cons (pv 0) (pa_cons (pv 2) (pa_cons (pv 4) pa_nil)))) pa_nil))) pa_nil)))))
      (pss_one (ps_ret (pe_op op_cat (pv 5) (pe_lst (pa_cons (pe_tup (pa_cons pe_non (pa_cons (pe_call GW hr rfl mW kW bW .nil pass0 (pa_cons (pv 0) (pa_cons (pv 2) (pa_cons (pv 4) pa_nil)))) pa_nil))) pa_nil)))))), ?_⟩
    refine ⟨(by show 0 ≤ sizeLine; decide), fun F hF => ?_⟩
    have nF : F ≠ p := fun e => by
      obtain ⟨_, _, e1, _⟩ := hp
      rw [← e, hF] at e1
      cases e1
    have b0 : But p H (upd H F (.lst [])) := same_but (same1 hF)
    have hF1 : (upd H F (.lst []) : Hp) F = some (.lst []) := upd_same
    have w1' := hp.same (same1 (o := .lst []) hF)
    generalize upd H F (.lst []) = H0 at *
    refine ⟨_, rfl, _, rfl, p, most, z, rfl, w1', m0, by omega, z0, by omega, fun H1 d za bt wa a0 a1 d0 d1 => ?_⟩
    refine ⟨_, rfl, by omega, by omega, ?_⟩
    have hF2 := bt F _ nF hF1
    refine for_range (lo := 0) (n := d.toNat) (fun i σ G => ∃ (told : List (Option Int × W2)) (zz : Int) (v6 : Option V), σ = [some (.ref p), some (.int most), some (.int word), some (.int long), some (.int far), some (.ref F), v6] ∧
      TolL (fun q => q = p ∨ q = F) G F told ∧ told.length = i ∧ DHead word.toNat told ∧ WellAt G p zz ∧ 0 ≤ zz ∧ zz ≤ za + 201 * (i : Int) ∧ But p H G) ⟨[], za, none, rfl, ⟨[], hF2, .nil⟩, rfl, .nil, wa, a0, by omega, b0.trans bt⟩ ?_ ?_
    · rintro i σ G hi ⟨told, zz, v6, rfl, ⟨ts, eF, hts⟩, lt, dh, wz, y0, y1, bG⟩
      refine ⟨_, rfl, .inl ⟨rfl, _, SqL.of eF⟩, _, rfl, _, rfl, p, long, zz, rfl, wz, l0, by omega, y0, by omega, fun G1 dd z2 bA wA n0 n1 d0' d1' => ?_⟩
      refine ⟨_, _, rfl, rfl, ?_⟩
      refine ⟨_, rfl, _, rfl, _, rfl, p, z2, word, far, rfl, wA, n0, by omega, w0, w1, f0, f1, fun G2 wl ws z3 bB hwl nwl wB o0 o1 pw lw1 lw2 hpw => ?_⟩
      have lst0 : ∀ q, (q = p ∨ q = F) → LstAt G q := fun q h => by
        rcases h with h | h
        · rw [h]; exact wz.lst
        · rw [h]; exact ⟨_, eF⟩
      have eF1 := bA F _ nF eF
      have lst1 : ∀ q, (q = p ∨ q = F) → LstAt G1 q := fun q h => by
        rcases h with h | h
        · rw [h]; exact wA.lst
        · rw [h]; exact ⟨_, eF1⟩
      have eF2 := bB F _ nF eF1
      have lst2 : ∀ q, (q = p ∨ q = F) → LstAt G2 q := fun q h => by
        rcases h with h | h
        · rw [h]; exact wB.lst
        · rw [h]; exact ⟨_, eF2⟩
      have k02 : ButN (fun q => q = p ∨ q = F) G G2 := (ButN.but lst0 (.inl rfl) bA).trans (ButN.but lst1 (.inl rfl) bB)
      have nwF : wl ≠ F := fun e => by rw [e, eF1] at hwl; cases hwl
      have pn : PrsN (fun q => q = p ∨ q = F) G2 wl ws := pw.prsN (fun h => h.elim nwl nwF)
      refine ⟨(by show 2 ≤ sizeLine; decide), fun t ht => ?_⟩
      have s3 : Same G2 (upd G2 t (.tup [.int (1 + dd), .ref wl])) := same1 ht
      have et : (upd G2 t (.tup [.int (1 + dd), .ref wl]) : Hp) t = some (.tup [.int (1 + dd), .ref wl]) := upd_same
      generalize upd G2 t (.tup [.int (1 + dd), .ref wl]) = G3 at *
      have eF3 := s3 _ _ eF2
      have lst3 : ∀ q, (q = p ∨ q = F) → LstAt G3 q := fun q h => by
        obtain ⟨xs, e⟩ := lst2 q h
        exact ⟨xs, s3 _ _ e⟩
      have k23 : ButN (fun q => q = p ∨ q = F) G2 G3 := ButN.same lst2 s3
      refine ⟨F, _, _, rfl, rfl, eF3, (by rw [List.length_map, hts.len, lt]; exact Nat.lt_of_lt_of_le hi (Nat.le_trans (show d.toNat ≤ 60 by omega) (show 60 ≤ sizeLine by decide))), ?_⟩
      have k34 : ButN (fun q => q = p ∨ q = F) G3 (upd G3 F (.lst (ts.map V.ref ++ [.ref t]))) := ButN.put lst3 (.inr rfl)
      refine ⟨told ++ [(some (1 + dd), ws)], z3, _, rfl, ⟨ts ++ [t], by rw [List.map_append]; exact upd_same, ((hts.mono fun t x _ _ r => r.but (k02.trans (k23.trans k34))).snoc ⟨wl, k34.tup et, pn.but (k23.trans k34)⟩)⟩, by rw [List.length_append, lt]; rfl, dh.snoc (by omega) (by omega) lw1 (by omega) hpw, ?_, o0, by omega, fun b o hb e => ?_⟩
      · obtain ⟨x', y', e, u, v⟩ := wB
        exact ⟨x', y', by rw [upd_ne (Ne.symm nF)]; exact s3 _ _ e, u, v⟩
      · rw [upd_ne (ne_of_none e hF)]
        exact s3 _ _ (bB b o hb (bA b o hb (bG b o hb e)))
    · rintro σ G ⟨told, zz, v6, rfl, ⟨ts, eF, hts⟩, lt, dh, wz, y0, y1, bG⟩
      refine ⟨_, rfl, _, rfl, _, rfl, _, rfl, p, zz, word, far, rfl, wz, y0, by omega, w0, w1, f0, f1, fun G2 wl ws z3 bB hwl nwl wB o0 o1 pw lw1 lw2 hpw => ?_⟩
      have lst1 : ∀ q, (q = p ∨ q = F) → LstAt G q := fun q h => by
        rcases h with h | h
        · rw [h]; exact wz.lst
        · rw [h]; exact ⟨_, eF⟩
      have eF2 := bB F _ nF eF
      have k12 : ButN (fun q => q = p ∨ q = F) G G2 := ButN.but lst1 (.inl rfl) bB
      have nwF : wl ≠ F := fun e => by rw [e, eF] at hwl; cases hwl
      have lst2 : ∀ q, (q = p ∨ q = F) → LstAt G2 q := fun q h => by
        rcases h with h | h
        · rw [h]; exact wB.lst
        · rw [h]; exact ⟨_, eF2⟩
      have pn : PrsN (fun q => q = p ∨ q = F) G2 wl ws := pw.prsN (fun h => h.elim nwl nwF)
      refine ⟨(by show 2 ≤ sizeLine; decide), fun t ht => ⟨(by show 1 ≤ sizeLine; decide), fun D hD => ?_⟩⟩
      have s3 : Same G2 (upd G2 t (.tup [.non, .ref wl])) := same1 ht
      have et : (upd G2 t (.tup [.non, .ref wl]) : Hp) t = some (.tup [.non, .ref wl]) := upd_same
      generalize upd G2 t (.tup [.non, .ref wl]) = G3 at *
      have s4 : Same G3 (upd G3 D (.lst [.ref t])) := same1 hD
      have eD : (upd G3 D (.lst [.ref t]) : Hp) D = some (.lst [.ref t]) := upd_same
      generalize upd G3 D (.lst [.ref t]) = G4 at *
      have eF4 := s4 _ _ (s3 _ _ eF2)
      refine ⟨F, D, _, _, rfl, rfl, eF4, eD, (by rw [List.length_map, hts.len, lt]; exact Nat.le_trans (show d.toNat + 1 ≤ 61 by omega) (show 61 ≤ sizeLine by decide)), fun R hR => ?_⟩
      have s5 : Same G4 (upd G4 R (.lst (ts.map V.ref ++ [.ref t]))) := same1 hR
      have eR : (upd G4 R (.lst (ts.map V.ref ++ [.ref t])) : Hp) R = some (.lst (ts.map V.ref ++ [.ref t])) := upd_same
      generalize upd G4 R (.lst (ts.map V.ref ++ [.ref t])) = G5 at *
      have s25 := s3.trans (s4.trans s5)
      have k25 : ButN (fun q => q = p ∨ q = F) G2 G5 := ButN.same lst2 s25
      have all : All2 (StN (fun q => q = p ∨ q = F) G5) (ts ++ [t]) (told ++ [(none, ws)]) := (hts.mono fun t x _ _ r => r.but (k12.trans k25)).snoc ⟨wl, s5 _ _ (s4 _ _ et), pn.but k25⟩
      refine kq G5 R (told ++ [(none, ws)]) z3 (bG.trans (bB.trans (same_but s25))) ?_ (wB.same s25) o0 (by omega) ⟨fun e => (by
        obtain ⟨_, _, e1, _⟩ := wB
        have e2 := s4 _ _ (s3 _ _ e1)
        rw [← e, hR] at e2
        cases e2), ts ++ [t], by rw [List.map_append]; exact eR, all.mono fun t x _ _ r => r.less (fun q h => .inl h)⟩ (dh.told (by omega) (by omega) (by omega) lw1 (by omega) hpw)
      have nR : R ≠ p := fun e => by
        obtain ⟨_, _, e1, _⟩ := wB
        have e2 := s4 _ _ (s3 _ _ e1)
        rw [← e, hR] at e2
        cases e2
      cases e : H R with
      | none => rfl
      | some o =>
        have := s4 _ _ (s3 _ _ (bB _ _ nR (bG _ _ nR e)))
        rw [hR] at this
        cases this
end
end K11

namespace K11
open PySem PySem.Spec PyProof.Rows L2
/-! ### stretches as they are handed in -/
theorem Keep.str {K : PySem.W.Frag} {C : Addr} {H H' : Hp} {t : Addr} {x : Option Int × W2} (k : Keep H H') (h : StrAt K C H t x) : StrAt K C H' t x := by
  obtain ⟨wa, a, ps, b, c⟩ := h
  exact ⟨wa, k.tup a, ps, k.tup b, k.all c⟩
theorem ShAll.all2 {C : Addr} {H : Hp} {ps : List Addr} {ws : W2} : ShAll C H ps ws ↔ All2 (fun p (x : Int × Int) => ShAt C H p x.1 x.2) ps ws := ⟨fun h => ⟨h.1, h.2⟩, fun h => ⟨h.len, h.all⟩⟩
def rTupO (K : PySem.W.Frag) : List V → Hp → VK → Prop := fun xs H Q => ∃ p ys, xs = [.ref p] ∧ ((SqL K H p ys ∧ ∀ l, H l = none → Q (.ref l) (upd H l (.tup ys))) ∨ (SqT K H p ys ∧ Q (.ref p) H))
theorem cr_tup {X : Cx} {K : PySem.W.Frag} (e : X.K = K) : CallR X (.type "tuple") (rTupO K) := by
  subst e
  exact call_tuple_of
def spGiven (K : PySem.W.Frag) (C : Addr) : Sp := fun vs H Q _ => ∃ (l : Addr) (told : List (Option Int × W2)), vs = [.ref l] ∧ LTold K H l told ∧ Told told ∧ (∀ x ∈ told, ∀ y ∈ x.2, POk y) ∧
  ∀ (H' : Hp) (c : Addr) (us : List Addr), Same H H' → H c = none → H' c = some (.lst (us.map V.ref)) → All2 (StrAt K C H') us told → Q (.ref c) H'
section
variable {P : Program} {w : World} {K : PySem.W.Frag} {mg : Str → Option Value} {base : Heap}
abbrev gvnN : List Str := ["told", "days", "word", "one", "other"]
theorem scGvn : FnScope gvnN ["told"] (defScope d_law_given) := ⟨rfl, rfl, rfl, by decide +kernel, rfl, by decide +kernel, by decide +kernel⟩
theorem ok_given {f fI C CN : Addr} {fd fdI : FuncData} (F : Fun K "_law_given" "_law_given" d_law_given f fd) (T : Txt K mg C CN) (htup : mg "tuple" = none)
    (M : Mk K C fI) (GI : FnOk P w K mg base (L2.CX P w) 2 fI fdI ["self", "top", "bottom"] (spInit C CN)) (bI : Binds K fdI ["self", "top", "bottom"] []) :
    FnOk P w K mg base CX0 4 f fd ["told"] (spGiven K C) := by
  refine F.ok scGvn (fun vs H Q E h => ?_) (fun cdv A outer s H vs Q E hr h => ?_)
  · obtain ⟨l, _, rfl, _⟩ := h
    rfl
  · obtain ⟨l, told, rfl, ⟨ts, hl, lt, hst⟩, ok, pok, kq⟩ := h
    have r3 : Room 3 _ := hr.mono (by decide)
    refine ⟨_, pss_one (ps_ret (
      (pe_lc (own := [("days", 1), ("word", 2)]) (g := gTup K 2 (gCons (gName 1) (gCons (gName 2) gNil))) (by rfl) scGvn.nd (pi_list (pv 0)) (blkOk_by (own := [("days", 1), ("word", 2)]) (N := gvnN) (sc := defScope d_law_given) (by decide +kernel))
        (fun _ _ _ _ _ => pg_tup (by rfl) (pgs_cons (pg_name (i := 1) scGvn.nd rfl (.inl rfl)) (pgs_cons (pg_name (i := 2) scGvn.nd rfl (.inl rfl)) pgs_nil))) (fun _ _ _ _ _ => pts_nil)
        (fun _ _ _ _ _ => pe_tup (pa_cons (pv 1) (pa_cons (pe_callTy (cr_tup (K := K) rfl) (by rfl) htup (by decide +kernel) (pa_cons
          (pe_lc (own := [("one", 3), ("other", 4)]) (g := gTup K 2 (gCons (gName 3) (gCons (gName 4) gNil))) (by rfl) scGvn.nd (show PI _ _ _ (iList K (tVar 2)) from pi_list (pv 2)) (blkOk_by (own := [("one", 3), ("other", 4)]) (N := gvnN) (by rfl))
            (fun _ _ _ _ _ => pg_tup (by rfl) (pgs_cons (pg_name (i := 3) scGvn.nd rfl (.inl rfl)) (pgs_cons (pg_name (i := 4) scGvn.nd rfl (.inl rfl)) pgs_nil))) (fun _ _ _ _ _ => pts_nil)
            (fun _ _ _ _ _ => pe_make M GI r3 rfl T.mgC bI .nil passL (pa_cons (pv 3) (pa_cons (pv 4) pa_nil)))) pa_nil)) pa_nil)))))), ?_⟩
    refine ⟨_, rfl, l, rfl, ⟨_, hl⟩, fun D hD => ?_⟩
    refine lc_list (K := K) (a := l) (xs := ts.map V.ref) (fun i N => ∃ us : List Addr, N D = some (.lst (us.map V.ref)) ∧ All2 (StrAt K C N) us (told.take i) ∧ Same H N) ⟨[], upd_same, .nil, same1 hD⟩ ?_ ?_ ?_
    · rintro i N _ ⟨_, _, _, sN⟩
      exact sN.seq hl
    · rintro i x N hx ⟨us, nD, nA, sN⟩
      rw [List.getElem?_map] at hx
      obtain ⟨t, ht, rfl⟩ := Option.map_eq_some_iff.mp hx
      have il : i < told.length := by
        have := (List.getElem?_eq_some_iff.mp ht).1
        omega
      have hxi : told[i]? = some told[i] := List.getElem?_eq_getElem il
      have k60 := ok.few
      have w60 := (ok.word i _ hxi).2
      have pk := pok _ (List.mem_of_getElem? hxi)
      obtain ⟨wl, q1, qs, h1, h2, h3⟩ := hst i t _ ht hxi
      generalize e0 : told[i] = y at *
      obtain ⟨d, ws⟩ := y
      have q1 := Same.tup sN q1
      refine ⟨t, _, rfl, q1, rfl, _, _, rfl, _, _, rfl, rfl, rfl, ?_⟩
      have hwl := sN.seq h1
      refine ⟨_, rfl, _, rfl, wl, rfl, ⟨_, hwl⟩, fun B hB => ?_⟩
      refine lc_list (K := K) (a := wl) (xs := qs.map V.ref) (fun j M => ∃ ps : List Addr, M B = some (.lst (ps.map V.ref)) ∧ All2 (fun p (x : Int × Int) => ShAt C M p x.1 x.2) ps (ws.take j) ∧ Same N M) ⟨[], upd_same, .nil, same1 hB⟩ ?_ ?_ ?_
      · rintro j M _ ⟨_, _, _, sM⟩
        exact sM.seq hwl
      · rintro j x M hx ⟨ps, mB, mA, sM⟩
        rw [List.getElem?_map] at hx
        obtain ⟨q, hq, rfl⟩ := Option.map_eq_some_iff.mp hx
        have jl : j < ws.length := by
          have := (List.getElem?_eq_some_iff.mp hq).1
          have h2 : qs.length = ws.length := h2
          omega
        have hy : ws[j]? = some ws[j] := List.getElem?_eq_getElem jl
        obtain ⟨y0, ym, yt, yc⟩ := pk _ (List.mem_of_getElem? hy)
        have q2 := Same.tup (sN.trans sM) (h3 j q _ hq hy)
        have lw : (ws.take j).length ≤ 60 := by
          rw [List.length_take]
          exact Nat.le_trans (Nat.min_le_right _ _) w60
        have tk := List.take_succ_eq_append_getElem jl
        generalize ws[j] = y at *
        obtain ⟨yn, yd⟩ := y
        refine ⟨q, _, rfl, q2, rfl, _, _, rfl, _, _, rfl, rfl, rfl, ?_⟩
        refine ⟨_, rfl, _, rfl, fun p1 d1 np nd nex => ⟨p1, d1, yn, yd, rfl, upd_same, pow_le yt (by decide), ?_, fun z => absurd z (by have := y0; omega), fun _ L e ka => ⟨rfl, ?_⟩⟩⟩
        · exact Nat.lt_of_le_of_lt (Nat.le_of_dvd (by decide) ym) (Nat.lt_of_lt_of_le (show 6 < 2 ^ 3 by decide) (Nat.pow_le_pow_right (by decide) (by decide)))
        have s1 : Same M L := made_same (C := C) np nd ka
        have eB := s1 _ _ mB
        have kB := keep_lst (ys := ps.map V.ref ++ [.ref p1]) eB
        have lo := low_self y0 yc
        rw [lo.1, lo.2] at e
        refine ⟨_, eB, (by rw [List.length_map, mA.len]; exact Nat.lt_of_le_of_lt lw (show 60 < sizeLine by decide)), ps ++ [p1], by rw [List.map_append]; exact upd_same, ?_, fun b o eb => ?_⟩
        · rw [tk]
          refine (mA.mono fun p x _ _ r => ?_).snoc ?_
          · obtain ⟨dq, r⟩ := r
            exact ⟨dq, kB _ _ (s1 _ _ r) (fun _ z => nomatch z)⟩
          · exact ⟨d1, kB _ _ e (fun _ z => nomatch z)⟩
        · rw [upd_ne (ne_of_none eb hB)]
          exact s1 _ _ (sM _ _ eb)
      · rintro M ⟨ps, mB, mA, sM⟩
        rw [List.length_map, h2, List.take_length] at mA
        refine ⟨B, _, rfl, .inl ⟨SqL.of mB, fun u hu => ?_⟩⟩
        have s1 : Same M (upd M u (.tup (ps.map V.ref))) := same1 hu
        have eu : (upd M u (.tup (ps.map V.ref)) : Hp) u = some (.tup (ps.map V.ref)) := upd_same
        generalize upd M u (.tup (ps.map V.ref)) = M1 at *
        refine ⟨(by show 2 ≤ sizeLine; decide), fun v hv => ?_⟩
        have s2 : Same M1 (upd M1 v (.tup [dv d, .ref u])) := same1 hv
        have ev : (upd M1 v (.tup [dv d, .ref u]) : Hp) v = some (.tup [dv d, .ref u]) := upd_same
        generalize upd M1 v (.tup [dv d, .ref u]) = M2 at *
        have s02 := sM.trans (s1.trans s2)
        have eD := s02 _ _ nD
        have kD := keep_lst (ys := us.map V.ref ++ [.ref v]) eD
        refine ⟨_, eD, ?_, us ++ [v], by rw [List.map_append]; exact upd_same, ?_, fun b o eb => ?_⟩
        · rw [List.length_map, nA.len, List.length_take]
          exact Nat.lt_of_le_of_lt (Nat.le_trans (Nat.min_le_right _ _) k60) (show 60 < sizeLine by decide)
        · rw [List.take_succ_eq_append_getElem il, e0]
          refine (nA.mono fun p x _ _ r => kD.str (r.mono s02)).snoc (kD.str ⟨u, SqT.of ev, ps, SqT.of (s2 _ _ eu), ShAll.all2.mpr (mA.mono fun p x _ _ r => ?_)⟩)
          obtain ⟨dq, r⟩ := r
          exact ⟨dq, s2 _ _ (s1 _ _ r)⟩
        · rw [upd_ne (ne_of_none eb hD)]
          exact s02 _ _ (sN _ _ eb)
    · rintro N ⟨us, nD, nA, sN⟩
      rw [List.length_map, lt, List.take_length] at nA
      exact kq N D us sN hD nD nA
end
end K11

namespace K11
open PySem PySem.Spec PyProof.Rows L2
/-! ### what the law hands in: good or amiss -/
/-- all but the contents of lists stays -/
structure Kp (H H' : Hp) : Prop where
  old : ∀ a o, H a = some o → (∀ xs, o ≠ .lst xs) → H' a = some o
  lst : ∀ a xs, H a = some (.lst xs) → ∃ ys, H' a = some (.lst ys)
theorem kp_same {H H' : Hp} (s : Same H H') : Kp H H' := ⟨fun a o e _ => s a o e, fun a xs e => ⟨xs, s a _ e⟩⟩
theorem kp_but {p : Addr} {z z' : Int} {H H' : Hp} (b : But p H H') (w : WellAt H p z) (w' : WellAt H' p z') : Kp H H' := by
  obtain ⟨x, y, e, _⟩ := w
  obtain ⟨x', y', e', _⟩ := w'
  refine ⟨fun a o ea n => b a o (fun q => ?_) ea, fun a xs ea => ?_⟩
  · rw [q, e] at ea
    exact n _ (Option.some.inj ea).symm
  · by_cases q : a = p
    · rw [q]
      exact ⟨_, e'⟩
    · exact ⟨xs, b a _ q ea⟩
theorem Kp.trans {H H1 H2 : Hp} (a : Kp H H1) (b : Kp H1 H2) : Kp H H2 := ⟨fun c o e n => b.old c o (a.old c o e n) n, fun c xs e => by
  obtain ⟨ys, e1⟩ := a.lst c xs e
  exact b.lst c ys e1⟩
theorem Kp.keep {H H' : Hp} (k : Kp H H') : Keep H H' := fun a o e n => k.old a o e n
theorem Kp.ty {K : PySem.W.Frag} {H H' : Hp} {v : V} {t : Value} (k : Kp H H') (h : TyX K H v t) : TyX K H' v t := by
  cases h with
  | base h => cases h with
    | non => exact .base .non
    | bl x => exact .base (.bl x)
    | int i => exact .base (.int i)
    | str x => exact .base (.str x)
    | flt x => exact .base (.flt x)
    | lst e =>
      obtain ⟨ys, e'⟩ := k.lst _ _ e
      exact .base (.lst e')
    | frz e => exact .base (.frz (k.old _ _ e (fun _ z => nomatch z)))
    | tup e => exact .base (.tup (k.old _ _ e (fun _ z => nomatch z)))
    | dK e => exact .base (.dK (k.old _ _ e (fun _ z => nomatch z)))
    | dT e => exact .base (.dT (k.old _ _ e (fun _ z => nomatch z)))
    | ins e cl ha hn htk hm => exact .base (.ins (k.old _ _ e (fun _ z => nomatch z)) cl ha hn htk hm)
  | byt b => exact .byt b
  | set e => exact .set (k.old _ _ e (fun _ z => nomatch z))
  | kList e c => exact .kList e c
  | kTuple e c => exact .kTuple e c
  | kDict e c => exact .kDict e c
  | fTuple e => exact .fTuple (k.old _ _ e (fun _ z => nomatch z))
  | fDict e => exact .fDict (k.old _ _ e (fun _ z => nomatch z))
abbrev EO := Option (Int × Int)
abbrev IO_ := Option (V × Bool × Option (List EO))
def ElX (K : PySem.W.Frag) (C : Addr) (H : Hp) (v : V) (o : EO) : Prop := (∃ (y : Int × Int) (p : Addr), o = some y ∧ v = .ref p ∧ ShAt C H p y.1 y.2) ∨ (o = none ∧ IsC K C H v false)
def WdX (K : PySem.W.Frag) (C : Addr) (H : Hp) (v : V) (o : Option (List EO)) : Prop := (o = none ∧ NotT K "tuple" H v) ∨ (∃ (a : Addr) (xs : List V) (es : List EO), o = some es ∧ v = .ref a ∧ SqT K H a xs ∧ All2 (ElX K C H) xs es ∧ xs.length ≤ 500)
def ItX (K : PySem.W.Frag) (C : Addr) (H : Hp) (v : V) (o : IO_) : Prop := (o = none ∧ NotT K "tuple" H v) ∨ (o = none ∧ ∃ (a : Addr) (xs : List V), v = .ref a ∧ SqT K H a xs ∧ xs.length ≠ 2) ∨
  (∃ (a : Addr) (d wv : V) (rd : Bool) (ow : Option (List EO)), o = some (d, rd, ow) ∧ v = .ref a ∧ SqT K H a [d, wv] ∧ DayX K H d rd ∧ WdX K C H wv ow)
/-- what is handed in, not the well at p -/
def GvX (K : PySem.W.Frag) (C p : Addr) (H : Hp) (v : V) (o : Option (List IO_)) : Prop := (o = none ∧ NotT K "list" H v) ∨ (∃ (a : Addr) (xs : List V) (os : List IO_), o = some os ∧ v = .ref a ∧ a ≠ p ∧ H a = some (.lst xs) ∧ All2 (ItX K C H) xs os ∧ xs.length ≤ 200)
theorem Kp.kind {K : PySem.W.Frag} {H H' : Hp} {v : V} {bi bb : Bool} (k : Kp H H') (h : Kind K H v bi bb) : Kind K H' v bi bb := by
  obtain ⟨t, a, b, c⟩ := h
  exact ⟨t, k.ty a, b, c⟩
theorem Kp.el {K : PySem.W.Frag} {C : Addr} {H H' : Hp} {v : V} {o : EO} (k : Kp H H') (h : ElX K C H v o) : ElX K C H' v o := by
  rcases h with ⟨y, p, e, f, dx, g⟩ | ⟨e, ty, a, b⟩
  · exact .inl ⟨y, p, e, f, dx, k.old _ _ g (fun _ z => nomatch z)⟩
  · exact .inr ⟨e, ty, k.ty a, b⟩
theorem Kp.wd {K : PySem.W.Frag} {C : Addr} {H H' : Hp} {v : V} {o : Option (List EO)} (k : Kp H H') (h : WdX K C H v o) : WdX K C H' v o := by
  rcases h with ⟨e, ty, a, b⟩ | ⟨a, xs, es, e, f, g, i, l⟩
  · exact .inl ⟨e, ty, k.ty a, b⟩
  · exact .inr ⟨a, xs, es, e, f, k.keep.tup g, i.mono fun _ _ _ _ r => k.el r, l⟩
theorem Kp.day {K : PySem.W.Frag} {H H' : Hp} {v : V} {r : Bool} (k : Kp H H') (h : DayX K H v r) : DayX K H' v r := by
  rcases h with h | h | ⟨bi, bb, a, b⟩
  · exact .inl h
  · exact .inr (.inl h)
  · exact .inr (.inr ⟨bi, bb, k.kind a, b⟩)
theorem Kp.it {K : PySem.W.Frag} {C : Addr} {H H' : Hp} {v : V} {o : IO_} (k : Kp H H') (h : ItX K C H v o) : ItX K C H' v o := by
  rcases h with ⟨e, ty, a, b⟩ | ⟨e, a, xs, f, g, i⟩ | ⟨a, d, wv, rd, ow, e, f, g, i, j⟩
  · exact .inl ⟨e, ty, k.ty a, b⟩
  · exact .inr (.inl ⟨e, a, xs, f, k.keep.tup g, i⟩)
  · exact .inr (.inr ⟨a, d, wv, rd, ow, e, f, k.keep.tup g, k.day i, k.wd j⟩)
theorem GvX.same {K : PySem.W.Frag} {C p : Addr} {H H' : Hp} {v : V} {o : Option (List IO_)} (h : GvX K C p H v o) (s : Same H H') : GvX K C p H' v o := by
  rcases h with ⟨e, ty, a, b⟩ | ⟨a, xs, os, e, f, n, g, i, l⟩
  · exact .inl ⟨e, ty, (kp_same s).ty a, b⟩
  · exact .inr ⟨a, xs, os, e, f, n, s _ _ g, i.mono fun _ _ _ _ r => (kp_same s).it r, l⟩
theorem GvX.but {K : PySem.W.Frag} {C p : Addr} {z z' : Int} {H H' : Hp} {v : V} {o : Option (List IO_)} (h : GvX K C p H v o) (b : But p H H') (w : WellAt H p z) (w' : WellAt H' p z') : GvX K C p H' v o := by
  have k := kp_but b w w'
  rcases h with ⟨e, ty, a, c⟩ | ⟨a, xs, os, e, f, n, g, i, l⟩
  · exact .inl ⟨e, ty, k.ty a, c⟩
  · exact .inr ⟨a, xs, os, e, f, n, b _ _ n g, i.mono fun _ _ _ _ r => k.it r, l⟩
def wGood (o : Option (List EO)) : Bool := match o with
  | none => false
  | some es => decide (1 ≤ es.length) && decide (es.length ≤ 60) && es.all Option.isSome
def iGood (o : IO_) : Bool := match o with
  | none => false
  | some (_, rd, ow) => wGood ow && rd
def isEnd (o : IO_) : Bool := match o with
  | none => false
  | some (d, _, _) => decide (d = .non)
def gGood (o : Option (List IO_)) : Bool := match o with
  | none => false
  | some os => decide (1 ≤ os.length) && decide (os.length ≤ 60) && os.all iGood && (List.range os.length).all fun i => decide ((((os[i]?).map isEnd).getD false = true) ↔ i + 1 = os.length)
theorem all2_map {α β γ : Type} {R : α → β → Prop} {S : α → γ → Prop} {f : β → γ} {as : List α} {bs : List β} (h : All2 R as bs) (g : ∀ a b, a ∈ as → b ∈ bs → R a b → S a (f b)) : All2 S as (bs.map f) := by
  refine ⟨by rw [List.length_map]; exact h.len, fun i a c ha hc => ?_⟩
  rw [List.getElem?_map] at hc
  obtain ⟨b, hb, rfl⟩ := Option.map_eq_some_iff.mp hc
  exact g a b (List.mem_of_getElem? ha) (List.mem_of_getElem? hb) (h.all i a b ha hb)
theorem WdX.word {K : PySem.W.Frag} {C : Addr} {H : Hp} (IS : ∀ p t b, ShAt C H p t b → IsC K C H (.ref p) true) {v : V} {o : Option (List EO)} (h : WdX K C H v o) : WordX K C H v (wGood o) := by
  rcases h with ⟨rfl, n⟩ | ⟨a, xs, es, rfl, rfl, g, i, l⟩
  · exact .inl ⟨n, rfl⟩
  · refine .inr ⟨a, xs, es.map Option.isSome, rfl, g, by omega, all2_map i fun v o _ _ r => ?_, ?_⟩
    · rcases r with ⟨y, p, rfl, rfl, r⟩ | ⟨rfl, r⟩
      · exact IS p _ _ r
      · exact r
    · have e : (es.map Option.isSome).all id = es.all Option.isSome := by rw [List.all_map]; rfl
      rw [e, i.len]
      rfl
theorem ItX.str {K : PySem.W.Frag} {C : Addr} {H : Hp} (IS : ∀ p t b, ShAt C H p t b → IsC K C H (.ref p) true) {v : V} {o : IO_} (h : ItX K C H v o) : StrX K C H v (iGood o) := by
  rcases h with ⟨rfl, n⟩ | ⟨rfl, a, xs, f, g, i⟩ | ⟨a, d, wv, rd, ow, rfl, f, g, i, j⟩
  · exact .inl ⟨n, rfl⟩
  · exact .inr (.inl ⟨a, xs, f, g, i, rfl⟩)
  · exact .inr (.inr ⟨a, d, wv, rd, wGood ow, f, g, i, j.word IS, rfl⟩)
theorem ends_eq {es : List Bool} (n1 : 1 ≤ es.length) : (es[es.length - 1]?.getD false && !((es.take (es.length - 1)).any id)) = (List.range es.length).all fun i => decide ((es[i]?.getD false = true) ↔ i + 1 = es.length) := by
  rw [Bool.eq_iff_iff, Bool.and_eq_true, Bool.not_eq_true', List.all_eq_true]
  constructor
  · rintro ⟨h1, h2⟩ i hi
    have hi := List.mem_range.mp hi
    refine decide_eq_true ⟨fun h => ?_, fun h => ?_⟩
    · by_cases z : i + 1 = es.length
      · exact z
      · have : (es.take (es.length - 1)).any id = true := List.any_eq_true.mpr ⟨es[i], List.mem_of_getElem? (i := i) (by rw [List.getElem?_take, if_pos (by omega)]; exact List.getElem?_eq_getElem hi), by rw [List.getElem?_eq_getElem hi] at h; exact h⟩
        rw [h2] at this
        cases this
    · rw [show i = es.length - 1 by omega]
      exact h1
  · intro h
    refine ⟨(of_decide_eq_true (h (es.length - 1) (List.mem_range.mpr (by omega)))).mpr (by omega), ?_⟩
    cases c : (es.take (es.length - 1)).any id with
    | false => rfl
    | true =>
      obtain ⟨b, hb, hb2⟩ := List.any_eq_true.mp c
      obtain ⟨i, hi⟩ := List.getElem?_of_mem hb
      rw [List.getElem?_take] at hi
      split at hi
      · rename_i lt
        have := (of_decide_eq_true (h i (List.mem_range.mpr (by omega)))).mp (by rw [hi]; exact hb2)
        omega
      · cases hi
theorem GvX.strs {K : PySem.W.Frag} {C p : Addr} {H : Hp} (IS : ∀ p t b, ShAt C H p t b → IsC K C H (.ref p) true) {v : V} {o : Option (List IO_)} (h : GvX K C p H v o) : StrsX K C H v (gGood o) := by
  rcases h with ⟨rfl, n⟩ | ⟨a, xs, os, rfl, rfl, _, g, i, l⟩
  · exact .inl ⟨n, rfl⟩
  · have lx := i.len
    have al : (os.map iGood).all id = os.all iGood := by rw [List.all_map]; rfl
    refine .inr ⟨a, xs, os.map iGood, rfl, SqL.of g, by omega, all2_map i fun v o _ _ r => r.str IS, fun n => ?_, fun y => ?_⟩
    · rw [al, lx] at n
      show (decide (1 ≤ os.length) && decide (os.length ≤ 60) && os.all iGood && _) = false
      by_cases h1 : 1 ≤ os.length
      · by_cases h2 : os.length ≤ 60
        · cases h3 : os.all iGood with
          | false => rw [Bool.and_false, Bool.false_and]
          | true => exact absurd ⟨h1, h2, h3⟩ n
        · rw [decide_eq_false h2, Bool.and_false, Bool.false_and, Bool.false_and]
      · rw [decide_eq_false h1, Bool.false_and, Bool.false_and, Bool.false_and]
    · rw [al, lx] at y
      obtain ⟨h1, h2, h3⟩ := y
      refine ⟨os.map isEnd, all2_map i fun v o _ ho r => ?_, ?_⟩
      · have ig := List.all_eq_true.mp h3 o ho
        rcases r with ⟨rfl, _⟩ | ⟨rfl, _⟩ | ⟨a, d, wv, rd, ow, rfl, f, g, _, _⟩
        · cases ig
        · cases ig
        · exact ⟨a, d, wv, f, g, rfl⟩
      · have e := ends_eq (es := os.map isEnd) (by rw [List.length_map]; exact h1)
        rw [e, List.length_map]
        show (decide (1 ≤ os.length) && decide (os.length ≤ 60) && os.all iGood && _) = _
        rw [decide_eq_true h1, decide_eq_true h2, h3, Bool.true_and, Bool.true_and, Bool.true_and]
        congr 1
        funext j
        rw [List.getElem?_map]
/-! ### the stretches of a good one -/
def dInt : V → Option Int
  | .int i => some i
  | _ => none
def wOf (o : Option (List EO)) : W2 := match o with
  | none => []
  | some es => es.map fun e => e.getD (0, 1)
def toldI (o : IO_) : Option Int × W2 := match o with
  | none => (none, [])
  | some (d, _, ow) => (dInt d, wOf ow)
theorem day_dv {K : PySem.W.Frag} {H : Hp} {d : V} (h : DayX K H d true) : d = dv (dInt d) ∧ (∀ n, dInt d = some n → 1 ≤ n) ∧ (dInt d = none ↔ d = .non) := by
  rcases h with ⟨rfl, _⟩ | ⟨i, rfl, e⟩ | ⟨_, _, _, _, _, z⟩
  · exact ⟨rfl, (fun _ z => nomatch z), fun _ => rfl, fun _ => rfl⟩
  · refine ⟨rfl, fun n hn => ?_, (fun z => nomatch z), (fun z => nomatch z)⟩
    rw [← Option.some.inj hn]
    exact of_decide_eq_true e.symm
  · cases z
theorem WdX.at_ {K : PySem.W.Frag} {C : Addr} {H : Hp} {v : V} {o : Option (List EO)} (h : WdX K C H v o) (g : wGood o = true) : ∃ wa, v = .ref wa ∧ WordAt K C H wa (wOf o) ∧ 1 ≤ (wOf o).length ∧ (wOf o).length ≤ 60 := by
  rcases h with ⟨rfl, n⟩ | ⟨a, xs, es, rfl, rfl, gt, i, l⟩
  · cases g
  · have g : (decide (1 ≤ es.length) && decide (es.length ≤ 60) && es.all Option.isSome) = true := g
    rw [Bool.and_eq_true, Bool.and_eq_true] at g
    obtain ⟨⟨g1, g2⟩, g3⟩ := g
    have lw : (wOf (some es)).length = es.length := by unfold wOf; rw [List.length_map]
    refine ⟨a, rfl, ?_, by rw [lw]; exact of_decide_eq_true g1, by rw [lw]; exact of_decide_eq_true g2⟩
    let ad : V → Addr := fun v => match v with
      | .ref a => a
      | _ => a
    have all : ∀ (j : Nat) (x : V), xs[j]? = some x → ∃ (y : Int × Int) (q : Addr), es[j]? = some (some y) ∧ x = .ref q ∧ ShAt C H q y.1 y.2 := fun j x hx => by
      have jl : j < es.length := by
        have := (List.getElem?_eq_some_iff.mp hx).1
        have := i.len
        omega
      have hs := List.all_eq_true.mp g3 es[j] (List.getElem_mem jl)
      rcases i.all j x _ hx (List.getElem?_eq_getElem jl) with ⟨y, q, e, f, r⟩ | ⟨e, _⟩
      · exact ⟨y, q, by rw [List.getElem?_eq_getElem jl, e], f, r⟩
      · rw [e] at hs
        cases hs
    have ex : xs = (xs.map ad).map V.ref := by
      rw [List.map_map]
      refine (List.map_id _).symm.trans (List.map_congr_left fun x hx => ?_)
      obtain ⟨j, hj⟩ := List.getElem?_of_mem hx
      obtain ⟨_, q, _, f, _⟩ := all j x hj
      rw [f]
      rfl
    refine ⟨xs.map ad, by rw [← ex]; exact gt, by rw [List.length_map, lw]; exact i.len, fun j q y hq hy => ?_⟩
    rw [List.getElem?_map] at hq
    obtain ⟨x, hx, rfl⟩ := Option.map_eq_some_iff.mp hq
    obtain ⟨y', q', e, f, r⟩ := all j x hx
    have hy : (es.map fun e => e.getD (0, 1))[j]? = some y := hy
    rw [List.getElem?_map, e] at hy
    have hy := Option.some.inj hy
    rw [f, ← hy]
    exact r
theorem GvX.told {K : PySem.W.Frag} {C p : Addr} {H : Hp} {v : V} {o : Option (List IO_)} (h : GvX K C p H v o) (g : gGood o = true) : ∃ (a : Addr) (ts : List Addr) (told : List (Option Int × W2)), v = .ref a ∧ a ≠ p ∧ H a = some (.lst (ts.map V.ref)) ∧ All2 (StrAt K C H) ts told ∧ Told told := by
  rcases h with ⟨rfl, n⟩ | ⟨a, xs, os, rfl, rfl, np, ga, i, l⟩
  · cases g
  · have g : (decide (1 ≤ os.length) && decide (os.length ≤ 60) && os.all iGood && (List.range os.length).all fun i => decide ((((os[i]?).map isEnd).getD false = true) ↔ i + 1 = os.length)) = true := g
    rw [Bool.and_eq_true, Bool.and_eq_true, Bool.and_eq_true] at g
    obtain ⟨⟨⟨g1, g2⟩, g3⟩, g4⟩ := g
    have g1 := of_decide_eq_true g1
    have g2 := of_decide_eq_true g2
    have lx := i.len
    let ad : V → Addr := fun v => match v with
      | .ref a => a
      | _ => a
    have all : ∀ (j : Nat) (x : V) (oi : IO_), xs[j]? = some x → os[j]? = some oi → ∃ q, x = .ref q ∧ StrAt K C H q (toldI oi) ∧ (1 ≤ (toldI oi).2.length ∧ (toldI oi).2.length ≤ 60) ∧ (∀ n, (toldI oi).1 = some n → 1 ≤ n) ∧ ((toldI oi).1 = none ↔ isEnd oi = true) := fun j x oi hx ho => by
      have ig := List.all_eq_true.mp g3 oi (List.mem_of_getElem? ho)
      rcases i.all j x oi hx ho with ⟨rfl, _⟩ | ⟨rfl, _⟩ | ⟨q, d, wv, rd, ow, rfl, f, gt, hd, hw⟩
      · cases ig
      · cases ig
      · have ig : (wGood ow && rd) = true := ig
        rw [Bool.and_eq_true] at ig
        obtain ⟨ig1, ig2⟩ := ig
        subst ig2
        obtain ⟨e1, e2, e3⟩ := day_dv hd
        obtain ⟨wa, rfl, hwa, w1, w2⟩ := hw.at_ ig1
        refine ⟨q, f, ⟨wa, ?_, hwa⟩, ⟨w1, w2⟩, e2, ?_⟩
        · show SqT K H q [dv (dInt d), .ref wa]
          rw [← e1]
          exact gt
        · show dInt d = none ↔ decide (d = .non) = true
          rw [e3, decide_eq_true_iff]
    have ex : xs = (xs.map ad).map V.ref := by
      rw [List.map_map]
      refine (List.map_id _).symm.trans (List.map_congr_left fun x hx => ?_)
      obtain ⟨j, hj⟩ := List.getElem?_of_mem hx
      have jl : j < os.length := by
        have := (List.getElem?_eq_some_iff.mp hj).1
        omega
      obtain ⟨q, f, _⟩ := all j x _ hj (List.getElem?_eq_getElem jl)
      rw [f]
      rfl
    have at_ : ∀ (j : Nat) (x : Option Int × W2), (os.map toldI)[j]? = some x → ∃ oi v, os[j]? = some oi ∧ x = toldI oi ∧ xs[j]? = some v := fun j x hx => by
      rw [List.getElem?_map] at hx
      obtain ⟨oi, ho, rfl⟩ := Option.map_eq_some_iff.mp hx
      have jl : j < xs.length := by
        have := (List.getElem?_eq_some_iff.mp ho).1
        omega
      exact ⟨oi, _, ho, rfl, List.getElem?_eq_getElem jl⟩
    refine ⟨a, xs.map ad, os.map toldI, rfl, np, by rw [← ex]; exact ga, ⟨by rw [List.length_map, List.length_map]; exact lx, fun j q x hq hx => ?_⟩, ⟨by rw [List.length_map]; exact g1, by rw [List.length_map]; exact g2, fun j x hx => ?_, fun j x hx => ?_, fun j x n hx hn => ?_⟩⟩
    · obtain ⟨oi, v, ho, rfl, hv⟩ := at_ j x hx
      rw [List.getElem?_map, hv] at hq
      obtain rfl := Option.some.inj hq
      obtain ⟨q, rfl, r, _⟩ := all j v oi hv ho
      exact r
    · obtain ⟨oi, v, ho, rfl, hv⟩ := at_ j x hx
      obtain ⟨q, _, _, r, _⟩ := all j v oi hv ho
      exact r
    · obtain ⟨oi, v, ho, rfl, hv⟩ := at_ j x hx
      obtain ⟨q, _, _, _, _, r⟩ := all j v oi hv ho
      have jl := (List.getElem?_eq_some_iff.mp ho).1
      have e := of_decide_eq_true (List.all_eq_true.mp g4 j (List.mem_range.mpr jl))
      rw [ho] at e
      rw [r, List.length_map]
      exact e
    · obtain ⟨oi, v, ho, rfl, hv⟩ := at_ j x hx
      obtain ⟨q, _, _, _, r, _⟩ := all j v oi hv ho
      exact r n hn
end K11

namespace K11
open PySem PySem.Spec PyProof.Rows L2
/-! ### whether what is handed in makes a course: the law's own look -/
section
variable {X : Cx}
/-- x == [] of a list -/
def rEq0 (K : PySem.W.Frag) : R2 := fun x y H Q => ∃ a b xs, x = .ref a ∧ y = .ref b ∧ SqL K H a xs ∧ SqL K H b [] ∧ Q (.bl xs.isEmpty) H
theorem op_eq0 (hr : Room 0 X.A) : OpR X (compareOp .Eq) (rEq0 X.K) := by
  intro pins s σ H x y v u Q I rx ry hq
  obtain ⟨a, b, xs, rfl, rfl, ha, hb, q⟩ := hq
  cases rx
  cases ry
  obtain ⟨its, r, p, _⟩ := I.list ha
  obtain ⟨its2, r2, p2, _⟩ := I.list hb
  cases r2
  show wpAny (model X.prog X.w) X.A (richCompare .Eq (.ref a) (.ref b)) (EP X pins σ Q) X.xe s
  cases r with
  | nil => exact SeqAt.RcAt.lists p.isList p2.isList rfl hr.units0 (e := fun _ => true) (fun j h1 _ => absurd h1 (by simp)) X.prog X.w X.xe _ ⟨.bl true, H, I, rfl, q⟩
  | cons _ _ => exact SeqAt.RcAt.lists_lengths p.isList p2.isList (by simp) hr.units0 X.prog X.w X.xe _ ⟨.bl false, H, I, rfl, q⟩
/-- t != () of a tuple -/
def rNeT0 (K : PySem.W.Frag) : R2 := fun x y H Q => ∃ a b xs, x = .ref a ∧ y = .ref b ∧ SqT K H a xs ∧ SqT K H b [] ∧ Q (.bl (!xs.isEmpty)) H
theorem op_neT0 (hr : Room 0 X.A) : OpR X (compareOp .NotEq) (rNeT0 X.K) := by
  intro pins s σ H x y v u Q I rx ry hq
  obtain ⟨a, b, xs, rfl, rfl, ha, hb, q⟩ := hq
  cases rx
  cases ry
  obtain ⟨its, r, p, _⟩ := I.tuple ha
  obtain ⟨its2, r2, p2, _⟩ := I.tuple hb
  cases r2
  show wpAny (model X.prog X.w) X.A (richCompare .NotEq (.ref a) (.ref b)) (EP X pins σ Q) X.xe s
  cases r with
  | nil => exact SeqAt.RcNeAt.tuples (items := #[]) (items2 := #[]) p p2 hr.units0 (e := fun _ => true) (fun j _ h2 => absurd h2 (by simp)) X.prog X.w X.xe _ ⟨.bl false, H, I, rfl, q⟩
  | @cons x u xs us _ _ => exact SeqAt.RcNeAt.tuples (items := (u :: us).toArray) (items2 := #[]) p p2 hr.units0 (e := fun _ => true) (fun j _ h2 => absurd h2 (by simp)) X.prog X.w X.xe _ ⟨.bl true, H, I, (by show Value.bool _ = Value.bool true; simp), q⟩
end
def spIsGood (K : PySem.W.Frag) (C : Addr) : Sp := fun vs H Q _ => ∃ (p : Addr) (v : V) (o : Option (List IO_)), vs = [v] ∧ GvX K C p H v o ∧ ∀ H', Same H H' → Q (.bl (gGood o)) H'
theorem good_at {os : List IO_} (h : gGood (some os) = true) {i : Nat} {o : IO_} (hi : os[i]? = some o) : 1 ≤ os.length ∧ os.length ≤ 60 ∧ iGood o = true ∧ (isEnd o = true ↔ i + 1 = os.length) := by
  have g : (decide (1 ≤ os.length) && decide (os.length ≤ 60) && os.all iGood && (List.range os.length).all fun i => decide ((((os[i]?).map isEnd).getD false = true) ↔ i + 1 = os.length)) = true := h
  rw [Bool.and_eq_true, Bool.and_eq_true, Bool.and_eq_true] at g
  obtain ⟨⟨⟨g1, g2⟩, g3⟩, g4⟩ := g
  have e := of_decide_eq_true (List.all_eq_true.mp g4 i (List.mem_range.mpr (List.getElem?_eq_some_iff.mp hi).1))
  rw [hi] at e
  exact ⟨of_decide_eq_true g1, of_decide_eq_true g2, List.all_eq_true.mp g3 o (List.mem_of_getElem? hi), e⟩
theorem good_of {os : List IO_} (h1 : 1 ≤ os.length) (h2 : os.length ≤ 60) (h : ∀ i o, os[i]? = some o → iGood o = true ∧ (isEnd o = true ↔ i + 1 = os.length)) : gGood (some os) = true := by
  show (decide (1 ≤ os.length) && decide (os.length ≤ 60) && os.all iGood && (List.range os.length).all fun i => decide ((((os[i]?).map isEnd).getD false = true) ↔ i + 1 = os.length)) = true
  rw [decide_eq_true h1, decide_eq_true h2, Bool.true_and, Bool.true_and, Bool.and_eq_true]
  refine ⟨List.all_eq_true.mpr fun o ho => ?_, List.all_eq_true.mpr fun i hi => decide_eq_true ?_⟩
  · obtain ⟨i, hi⟩ := List.getElem?_of_mem ho
    exact (h i o hi).1
  · have hi := List.mem_range.mp hi
    rw [List.getElem?_eq_getElem hi]
    exact (h i _ (List.getElem?_eq_getElem hi)).2
theorem DayX.kind {K : PySem.W.Frag} {H : Hp} {d : V} {r : Bool} (h : DayX K H d r) : ∃ bi bb, Kind K H d bi bb ∧ (d ≠ .non → (∃ i, d = .int i ∧ bi = true ∧ bb = false ∧ r = decide (1 ≤ i)) ∨ ((bi && !bb) = false ∧ r = false)) ∧ (d = .non → r = true) := by
  rcases h with ⟨rfl, rfl⟩ | ⟨i, rfl, rfl⟩ | ⟨bi, bb, k, n, e, rfl⟩
  · exact ⟨false, false, ⟨_, TyX.base .non, kit_ty (by decide +kernel), kit_ty (by decide +kernel)⟩, fun z => absurd rfl z, fun _ => rfl⟩
  · exact ⟨true, false, kind_int i, fun _ => .inl ⟨i, rfl, rfl, rfl, rfl⟩, (fun z => nomatch z)⟩
  · exact ⟨bi, bb, k, fun _ => .inr ⟨e, rfl⟩, fun z => absurd z n⟩
section
variable {P : Program} {w : World} {K : PySem.W.Frag} {mg : Str → Option Value} {base : Heap}
abbrev igN : List Str := ["given", "at", "one", "whole", "share"]
theorem scIg : FnScope igN ["given"] (defScope d_law_is_good) := ⟨rfl, rfl, rfl, by decide +kernel, rfl, by decide +kernel, by decide +kernel⟩
theorem ok_isgood {f C : Addr} {fd : FuncData} (F : Fun K "_law_is_good" "_law_is_good" d_law_is_good f fd) (Y : TxtY mg C) (henum : mg "enumerate" = none) (hint : mg "int" = none) (hbool : mg "bool" = none)
    (IS : ∀ (H : Hp) p t b, ShAt C H p t b → IsC K C H (.ref p) true) : FnOk P w K mg base CX0 1 f fd ["given"] (spIsGood K C) := by
  refine F.ok scIg (fun vs H Q E h => ?_) (fun cdv A outer s H vs Q E hr h => ?_)
  · obtain ⟨_, _, _, rfl, _⟩ := h
    rfl
  · obtain ⟨p, v, o, rfl, hv, kq⟩ := h
    refine ⟨_, pss_cons (ps_if (PW.pt (pw_or (pt_not (pt_val (pe_callB call_isi (by rfl) Y.isi (by decide +kernel) (pa_cons (pv 0) (pa_cons (pe_bltn (v := .ty "list") (by rfl) Y.list (by decide +kernel) rfl) pa_nil)))))
          (pw_or (pt_cmpR (op_eq0 (hr.mono (by decide))) (pv 0) (pe_lst pa_nil) (nomark _)) (pw_or1 (pt_cmpR op_gt (pe_callB call_len_seq (by rfl) Y.len PySem.boot_len (pa_cons (pv 0) pa_nil)) pe_int (nomark _)))))) (pss_one (ps_ret pe_bl)) pss_nil)
      (pss_cons (ps_for PassesOwn.never rfl (pi_enum (by rfl) henum (pa_cons (pv 0) pa_nil)) (pg_tup (by rfl) (pgs_cons (pg_name (i := 1) scIg.nd rfl (.inl rfl)) (pgs_cons (pg_name (i := 2) scIg.nd rfl (.inl rfl)) pgs_nil)))
        (pss_cons (ps_if (PW.pt (pw_or (pt_not (pt_val (pe_callB call_isi (by rfl) Y.isi (by decide +kernel) (pa_cons (pv 2) (pa_cons (pe_bltn (v := .ty "tuple") (by rfl) Y.tuple (by decide +kernel) rfl) pa_nil)))))
            (pw_or1 (pt_cmpR op_ne (pe_callB call_len_seq (by rfl) Y.len PySem.boot_len (pa_cons (pv 2) pa_nil)) pe_int (nomark _))))) (pss_one (ps_ret pe_bl)) pss_nil)
        (pss_cons (ps_if (PW.pt (pw_or (pt_not (pt_val (pe_callB call_isi (by rfl) Y.isi (by decide +kernel) (pa_cons (pe_ix ix_tup (pv 2) pe_int (fun _ _ => rfl)) (pa_cons (pe_bltn (v := .ty "tuple") (by rfl) Y.tuple (by decide +kernel) rfl) pa_nil)))))
            (pw_or1 (pt_not (pt_chain op_le op_le pe_int (pe_callB call_len_seq (by rfl) Y.len PySem.boot_len (pa_cons (pe_ix ix_tup (pv 2) pe_int (fun _ _ => rfl)) pa_nil)) pe_int))))) (pss_one (ps_ret pe_bl)) pss_nil)
        (pss_cons (ps_if (pt_not (pt_val (pe_callB (cr_all rfl) (by rfl) Y.all (by decide +kernel) (pa_cons
            (pe_lc (own := [("share", 4)]) (g := gName 4) (by rfl) scIg.nd (pi_tup (pe_ix ix_tup (pv 2) pe_int (fun _ _ => rfl))) (blkOk_by (own := [("share", 4)]) (N := igN) (sc := defScope d_law_is_good) (by decide +kernel)) (fun _ _ _ _ _ => pg_name (i := 4) scIg.nd rfl (.inl rfl)) (fun _ _ _ _ _ => pts_nil)
              (fun _ _ _ _ _ => pe_callB (show CallR _ (.builtin "isinstance") (rIsi K) from call_isi) (by rfl) Y.isi (by decide +kernel) (pa_cons (pv 4) (pa_cons (pe_glob (v := .ref C) rfl Y.sh rfl) pa_nil)))) pa_nil)))) (pss_one (ps_ret pe_bl)) pss_nil)
        (pss_cons (ps_if (pt_cmpR op_ne (pe_cmpR op_eq (pe_op op_add (pv 1) pe_int) (pe_callB call_len_seq (by rfl) Y.len PySem.boot_len (pa_cons (pv 0) pa_nil)) (nomark _)) (pe_cmp (pc_isN (pe_ix ix_tup (pv 2) pe_int (fun _ _ => rfl)))) (nomark _)) (pss_one (ps_ret pe_bl)) pss_nil)
        (pss_cons (ps_set (i := 3) scIg.nd rfl (Or.inl rfl) (pe_and (pe_callB call_isi (by rfl) Y.isi (by decide +kernel) (pa_cons (pe_ix ix_tup (pv 2) pe_int (fun _ _ => rfl)) (pa_cons (pe_bltn (v := .ty "int") (by rfl) hint (by decide +kernel) rfl) pa_nil)))
            (pe_one (pe_not (pe_callB call_isi (by rfl) Y.isi (by decide +kernel) (pa_cons (pe_ix ix_tup (pv 2) pe_int (fun _ _ => rfl)) (pa_cons (pe_bltn (v := .ty "bool") (by rfl) hbool (by decide +kernel) rfl) pa_nil)))))))
        (pss_one (ps_if (PW.pt (pw_and (pt_cmp (pc_notN (pe_ix ix_tup (pv 2) pe_int (fun _ _ => rfl)))) (pw_and1 (PW.pt (pw_or (pt_not (pt_val (pv 3))) (pw_or1 (pt_cmpR op_lt (pe_ix ix_tup (pv 2) pe_int (fun _ _ => rfl)) pe_int (nomark _)))))))) (pss_one (ps_ret pe_bl)) pss_nil))))))))
      (pss_one (ps_ret pe_bl))), ?_⟩
    rcases hv with ⟨rfl, ty, hty, hk⟩ | ⟨a, xs, os, rfl, rfl, np, ha, hx, l200⟩
    · exact ⟨_, rfl, _, _, ty, _, false, rfl, ClsV.ty _, hty, hk, false, rfl, iteT (kq H (Same.refl H))⟩
    have lx := hx.len
    have bad : (¬ gGood (some os) = true) → ∀ {H' : Hp}, Same H H' → Q (.bl false) H' := fun n H' s' => by
      have e : gGood (some os) = false := by
        cases c : gGood (some os) with
        | false => rfl
        | true => exact absurd c n
      rw [e] at kq
      exact kq H' s'
    refine ⟨_, rfl, _, _, _, _, true, rfl, ClsV.ty _, ty_lst (SqL.of ha), kit_ty (by decide +kernel), true, rfl, iteF ?_⟩
    refine ⟨_, rfl, (by show 0 ≤ sizeLine; decide), fun L hL => ?_⟩
    have s1 : Same H (upd H L (.lst [])) := same1 hL
    have eL : (upd H L (.lst []) : Hp) L = some (.lst []) := upd_same
    generalize upd H L (.lst []) = H1 at *
    refine ⟨a, L, xs, rfl, rfl, SqL.of (s1 _ _ ha), SqL.of eL, _, rfl, ?_⟩
    by_cases e0 : xs.length = 0
    · rw [show xs.isEmpty = true from by rw [List.length_eq_zero_iff.mp e0]; rfl]
      refine iteT (bad (fun g => ?_) s1)
      have g : (decide (1 ≤ os.length) && decide (os.length ≤ 60) && os.all iGood && _) = true := g
      rw [decide_eq_false (show ¬ 1 ≤ os.length by omega)] at g
      simp at g
    rw [show xs.isEmpty = false from by
      cases xs with
      | nil => exact absurd rfl e0
      | cons _ _ => rfl]
    refine iteF ⟨_, rfl, a, _, rfl, .inl (SqL.of (s1 _ _ ha)), _, _, rfl, rfl, _, rfl, ?_⟩
    by_cases e60 : xs.length ≤ 60
    case neg =>
      rw [show decide ((60 : Int) < (xs.length : Int)) = true from decide_eq_true (by omega)]
      refine iteT (bad (fun g => ?_) s1)
      have g : (decide (1 ≤ os.length) && decide (os.length ≤ 60) && os.all iGood && _) = true := g
      rw [decide_eq_false (show ¬ os.length ≤ 60 by omega)] at g
      simp at g
    rw [show decide ((60 : Int) < (xs.length : Int)) = false from decide_eq_false (by omega)]
    refine iteF ?_
    refine ⟨_, rfl, a, _, rfl, SqL.of (s1 _ _ ha), ?_⟩
    refine for_it (walk_enum (K := K) (a := a) (xs := xs)) (fun i σ G => ∃ (v1 v2 v3 : Option V), σ = [some (.ref a), v1, v2, v3, none] ∧ Same H G ∧ ∀ j oj, j < i → os[j]? = some oj → iGood oj = true ∧ (isEnd oj = true ↔ j + 1 = os.length)) ⟨none, none, none, rfl, s1, fun j _ z => absurd z (Nat.not_lt_zero j)⟩ ?_ ?_ ?_
    · rintro i σ G _ ⟨_, _, _, rfl, sG, _⟩
      exact SqL.of (sG _ _ ha)
    · rintro i x σ G G' hi ⟨v1, v2, v3, rfl, sG, ok⟩ ⟨T, x1, x2, rfl, hT, rfl, e1, e2⟩
      obtain rfl := Option.some.inj e1
      have e2 : xs[i]? = some x2 := e2
      have il : i < os.length := by
        have := (List.getElem?_eq_some_iff.mp e2).1
        omega
      have ho : os[i]? = some os[i] := List.getElem?_eq_getElem il
      have it := hx.all i x2 _ e2 ho
      generalize os[i] = oi at *
      have t1 : Same G (upd G T (.tup [.int (i : Nat), x2])) := same1 hT
      refine ⟨T, _, rfl, SqT.of upd_same, rfl, _, _, rfl, _, _, rfl, rfl, ?_⟩
      generalize upd G T (.tup [.int (i : Nat), x2]) = G1 at *
      have s2 := sG.trans t1
      have it := (kp_same s2).it it
      have no : (¬ (iGood oi = true ∧ (isEnd oi = true ↔ i + 1 = os.length))) → ∀ {H' : Hp}, Same G1 H' → Q (.bl false) H' := fun n H' s' => bad (fun g => n (good_at g ho).2.2) (s2.trans s')
      rcases it with ⟨rfl, ty, hty, hk⟩ | ⟨rfl, b, ys, rfl, hb, n2⟩ | ⟨b, d, wv, rd, ow, rfl, rfl, hb, hd, hw⟩
      · exact ⟨_, rfl, _, _, ty, _, false, rfl, ClsV.ty _, hty, hk, false, rfl, iteT (no (fun z => nomatch z.1) (Same.refl _))⟩
      · refine ⟨_, rfl, _, _, _, _, true, rfl, ClsV.ty _, ty_tup hb, kit_ty (by decide +kernel), true, rfl, iteF ?_⟩
        refine ⟨_, rfl, b, _, rfl, .inr hb, rfl, _, rfl, ?_⟩
        rw [show (!decide (V.int (ys.length : Int) = V.int 2)) = true from by rw [decI, decide_eq_false (by omega)]; rfl]
        exact iteT (no (fun z => nomatch z.1) (Same.refl _))
      · refine ⟨_, rfl, _, _, _, _, true, rfl, ClsV.ty _, ty_tup hb, kit_ty (by decide +kernel), true, rfl, iteF ?_⟩
        refine ⟨_, rfl, b, _, rfl, .inr hb, rfl, _, rfl, iteF ?_⟩
        rcases hw with ⟨rfl, ty, hty, hk⟩ | ⟨wa, ws, es, rfl, rfl, hwa, hes, l500⟩
        · exact ⟨_, rfl, b, _, _, _, rfl, rfl, hb, at_k (by decide) rfl, _, _, ty, _, false, rfl, ClsV.ty _, hty, hk, false, rfl, iteT (no (fun z => nomatch z.1) (Same.refl _))⟩
        have les := hes.len
        refine ⟨_, rfl, b, _, _, _, rfl, rfl, hb, at_k (by decide) rfl, _, _, _, _, true, rfl, ClsV.ty _, ty_tup hwa, kit_ty (by decide +kernel), true, rfl, iteF ?_⟩
        have wg : iGood (some (d, rd, some es)) = true → 1 ≤ es.length ∧ es.length ≤ 60 ∧ es.all Option.isSome = true ∧ rd = true := fun z => by
          have z : ((decide (1 ≤ es.length) && decide (es.length ≤ 60) && es.all Option.isSome) && rd) = true := z
          rw [Bool.and_eq_true, Bool.and_eq_true, Bool.and_eq_true] at z
          exact ⟨of_decide_eq_true z.1.1.1, of_decide_eq_true z.1.1.2, z.1.2, z.2⟩
        refine ⟨_, rfl, b, _, _, _, rfl, rfl, hb, at_k (by decide) rfl, wa, _, rfl, .inr hwa, _, _, rfl, rfl, _, rfl, ?_⟩
        by_cases c1 : 1 ≤ ws.length
        case neg =>
          rw [decide_eq_false (show ¬ (1 : Int) ≤ (ws.length : Int) by omega)]
          refine iteF ⟨_, rfl, iteT (no (fun z => ?_) (Same.refl _))⟩
          have := (wg z.1).1
          omega
        rw [decide_eq_true (show (1 : Int) ≤ (ws.length : Int) by omega)]
        refine iteT ⟨_, _, rfl, rfl, _, rfl, ?_⟩
        by_cases c2 : ws.length ≤ 60
        case neg =>
          rw [decide_eq_false (show ¬ (ws.length : Int) ≤ 60 by omega)]
          refine iteT (no (fun z => ?_) (Same.refl _))
          have := (wg z.1).2.1
          omega
        rw [decide_eq_true (show (ws.length : Int) ≤ 60 by omega)]
        refine iteF ?_
        refine ⟨_, rfl, b, _, _, _, rfl, rfl, hb, at_k (by decide) rfl, wa, rfl, ⟨_, hwa⟩, fun D hD => ?_⟩
        refine lc_tup (K := K) (a := wa) (xs := ws) (fun j M => M D = some (.lst (((es.map Option.isSome).take j).map V.bl)) ∧ Same G1 M) ⟨upd_same, same1 hD⟩ ?_ ?_ ?_
        · rintro j M _ ⟨_, sm⟩
          exact Same.tup sm hwa
        · rintro j x M hx ⟨eD, sm⟩
          have jl := (List.getElem?_eq_some_iff.mp hx).1
          have hb : es[j]? = some es[j] := List.getElem?_eq_getElem (by omega)
          have jm : j < (es.map Option.isSome).length := by rw [List.length_map]; omega
          obtain ⟨ty, hty, hk⟩ : IsC K C M x es[j].isSome := by
            rcases (kp_same sm).el (hes.all j x _ hx hb) with ⟨y, q, e, rfl, r⟩ | ⟨e, r⟩
            · rw [e]
              exact IS M q _ _ r
            · rw [e]
              exact r
          refine ⟨rfl, ?_⟩
          refine ⟨_, rfl, _, _, ty, _, es[j].isSome, rfl, ClsV.own C, hty, hk, ?_⟩
          refine ⟨_, eD, (by rw [List.length_map, List.length_take]; exact Nat.lt_of_le_of_lt (Nat.min_le_left _ _) (Nat.lt_of_lt_of_le (show j < 60 by omega) (by decide))), ?_, fun c o e => ?_⟩
          · rw [List.take_succ_eq_append_getElem jm, List.map_append, List.getElem_map]
            exact upd_same
          · rw [upd_ne (ne_of_none e hD)]
            exact sm _ _ e
        rintro G2 ⟨eD, t2⟩
        rw [les, ← List.length_map (f := Option.isSome) (as := es), List.take_length] at eD
        refine ⟨D, _, rfl, SqL.of eD, (es.map Option.isSome).all id, rfl, ?_⟩
        have e3 : (es.map Option.isSome).all id = es.all Option.isSome := by rw [List.all_map]; rfl
        rw [e3]
        cases c3 : es.all Option.isSome with
        | false =>
          refine iteT (no (fun z => ?_) t2)
          have := (wg z.1).2.2.1
          rw [c3] at this
          cases this
        | true =>
          refine iteF ?_
          have s3 := s2.trans t2
          have hb2 := Same.tup t2 hb
          obtain ⟨bi, bb, ⟨ty, hty, k1, k2⟩, yes, nonT⟩ := ((kp_same t2).day hd).kind
          refine ⟨_, rfl, _, _, rfl, rfl, _, rfl, a, _, rfl, .inl (SqL.of (s3 _ _ ha)), rfl, _, rfl, b, _, _, _, rfl, rfl, hb2, at_k (by decide) rfl, rfl, _, rfl, ?_⟩
          have ie : isEnd (some (d, rd, some es)) = decide (d = .non) := rfl
          have de : decide (V.int ((i : Nat) + 1 : Int) = V.int (xs.length : Int)) = decide (i + 1 = os.length) := by
            rw [decI]
            exact decide_eq_decide.mpr (by omega)
          rw [de]
          by_cases c4 : (d = .non ↔ i + 1 = os.length)
          case neg =>
            rw [show (!decide (V.bl (decide (i + 1 = os.length)) = V.bl (decide (d = V.non)))) = true from by
              rw [decide_eq_false (fun z => c4 ?_)]
              · rfl
              · injection z with z
                have z := decide_eq_decide.mp z
                exact z.symm]
            refine iteT (no (fun z => c4 ?_) t2)
            rw [ie, decide_eq_true_iff] at z
            exact z.2
          rw [show (!decide (V.bl (decide (i + 1 = os.length)) = V.bl (decide (d = V.non)))) = false from by
            rw [decide_eq_true (congrArg V.bl (decide_eq_decide.mpr c4.symm))]
            rfl]
          refine iteF ?_
          have fin : (rd = true) → ∀ {G3 : Hp} {x3 : Option V}, Same G2 G3 → ∃ (v1 v2 v3 : Option V), [some (V.ref a), some (.int (i : Nat)), some (.ref b), x3, none] = [some (V.ref a), v1, v2, v3, none] ∧ Same H G3 ∧ ∀ j oj, j < i + 1 → os[j]? = some oj → iGood oj = true ∧ (isEnd oj = true ↔ j + 1 = os.length) := fun rt G3 x3 t3 => by
            refine ⟨_, _, _, rfl, s3.trans t3, fun j oj hj hoj => ?_⟩
            by_cases z : j = i
            · subst z
              rw [ho] at hoj
              obtain rfl := Option.some.inj hoj
              refine ⟨?_, by rw [ie, decide_eq_true_iff]; exact c4⟩
              show ((decide (1 ≤ es.length) && decide (es.length ≤ 60) && es.all Option.isSome) && rd) = true
              rw [decide_eq_true (show 1 ≤ es.length by omega), decide_eq_true (show es.length ≤ 60 by omega), c3, rt]
              rfl
            · exact ok j oj (by omega) hoj
          have nord : (¬ rd = true) → ∀ {G3 : Hp}, Same G2 G3 → Q (.bl false) G3 := fun n G3 t3 => no (fun z => n (wg z.1).2.2.2) (t2.trans t3)
          refine ⟨_, rfl, b, _, _, _, rfl, rfl, hb2, at_k (by decide) rfl, _, _, ty, _, bi, rfl, ClsV.ty _, hty, k1, bi, rfl, ?_⟩
          by_cases cn : d = .non
          · have rt := nonT cn
            have dn : (!decide (d = V.non)) = false := by rw [decide_eq_true cn]; rfl
            cases bi with
            | false => exact iteF ⟨_, rfl, b, _, _, _, rfl, rfl, hb2, at_k (by decide) rfl, _, rfl, by rw [dn]; exact iteF (iteF (fin rt (Same.refl _)))⟩
            | true => exact iteT ⟨_, rfl, b, _, _, _, rfl, rfl, hb2, at_k (by decide) rfl, _, _, ty, _, bb, rfl, ClsV.ty _, hty, k2, bb, rfl, _, rfl, b, _, _, _, rfl, rfl, hb2, at_k (by decide) rfl, _, rfl, by rw [dn]; exact iteF (iteF (fin rt (Same.refl _)))⟩
          have dn : (!decide (d = V.non)) = true := by rw [decide_eq_false cn]; rfl
          rcases yes cn with ⟨i', rfl, rfl, rfl, er⟩ | ⟨eb, er⟩
          · refine iteT ⟨_, rfl, b, _, _, _, rfl, rfl, hb2, at_k (by decide) rfl, _, _, ty, _, false, rfl, ClsV.ty _, hty, k2, false, rfl, _, rfl, b, _, _, _, rfl, rfl, hb2, at_k (by decide) rfl, _, rfl, ?_⟩
            rw [dn]
            refine iteT ⟨_, rfl, true, rfl, iteF ⟨_, rfl, b, _, _, _, rfl, rfl, hb2, at_k (by decide) rfl, _, _, rfl, rfl, _, rfl, ?_⟩⟩
            refine ite2 (fun h => ?_) (fun h => ?_)
            · have h := of_decide_eq_true h
              refine nord (fun z => ?_) (Same.refl _)
              rw [er] at z
              have := of_decide_eq_true z
              omega
            · have h : ¬ i' < 1 := fun z => h (decide_eq_true z)
              refine fin ?_ (Same.refl _)
              rw [er]
              exact decide_eq_true (by omega)
          · have nr : ¬ rd = true := fun z => by rw [er] at z; cases z
            cases bi with
            | false =>
              refine iteF ⟨_, rfl, b, _, _, _, rfl, rfl, hb2, at_k (by decide) rfl, _, rfl, ?_⟩
              rw [dn]
              exact iteT ⟨_, rfl, false, rfl, iteT (iteT (nord nr (Same.refl _)))⟩
            | true =>
              have eb : (!bb) = false := eb
              refine iteT ⟨_, rfl, b, _, _, _, rfl, rfl, hb2, at_k (by decide) rfl, _, _, ty, _, bb, rfl, ClsV.ty _, hty, k2, bb, rfl, _, rfl, b, _, _, _, rfl, rfl, hb2, at_k (by decide) rfl, _, rfl, ?_⟩
              rw [dn]
              refine iteT ⟨_, rfl, (!bb), rfl, ?_⟩
              rw [eb]
              exact iteT (iteT (nord nr (Same.refl _)))
    · rintro σ G ⟨v1, v2, v3, rfl, sG, ok⟩
      have g := good_of (os := os) (by omega) (by omega) fun i o h => ok i o (by have := (List.getElem?_eq_some_iff.mp h).1; omega) h
      rw [g] at kq
      exact kq G sG
end
end K11

namespace K11
open PySem PySem.Spec PyProof.Rows L2
/-! ### one thing amiss -/
theorem WellAt.ne {H : Hp} {p q : Addr} {z : Int} (h : WellAt H p z) (e : H q = none) : q ≠ p := fun c => by
  obtain ⟨_, _, e2, _⟩ := h
  rw [c, e2] at e
  cases e
theorem All2.takeN {α β : Type} {R : α → β → Prop} {as : List α} {bs : List β} (h : All2 R as bs) (n : Nat) : All2 R (as.take n) (bs.take n) :=
  ⟨by rw [List.length_take, List.length_take, h.len], fun i a b ha hb => by
    rw [List.getElem?_take] at ha hb
    split at ha
    · rename_i q
      rw [if_pos q] at hb
      exact h.all i a b ha hb
    · cases ha⟩
theorem All2.dropN {α β : Type} {R : α → β → Prop} {as : List α} {bs : List β} (h : All2 R as bs) (n : Nat) : All2 R (as.drop n) (bs.drop n) :=
  ⟨by rw [List.length_drop, List.length_drop, h.len], fun i a b ha hb => by
    rw [List.getElem?_drop] at ha hb
    exact h.all _ a b ha hb⟩
theorem All2.appN {α β : Type} {R : α → β → Prop} {as as' : List α} {bs bs' : List β} (h : All2 R as bs) (g : All2 R as' bs') : All2 R (as ++ as') (bs ++ bs') :=
  ⟨by rw [List.length_append, List.length_append, h.len, g.len], fun i a b ha hb => by
    have hl := h.len
    by_cases c : i < as.length
    · rw [List.getElem?_append_left c] at ha
      rw [List.getElem?_append_left (by omega)] at hb
      exact h.all i a b ha hb
    · rw [List.getElem?_append_right (by omega)] at ha
      rw [List.getElem?_append_right (by omega)] at hb
      rw [← hl] at hb
      exact g.all _ a b ha hb⟩
theorem All2.oneN {α β : Type} {R : α → β → Prop} {a : α} {b : β} (r : R a b) : All2 R [a] [b] := ⟨rfl, fun i x y hx hy => by
  cases i with
  | zero =>
    obtain rfl := Option.some.inj hx
    obtain rfl := Option.some.inj hy
    exact r
  | succ i => cases hx⟩
theorem All2.repN {α β : Type} {R : α → β → Prop} {a : α} {b : β} (r : R a b) (n : Nat) : All2 R (List.replicate n a) (List.replicate n b) := ⟨by simp, fun i x y hx hy => by
  have ex := List.eq_of_mem_replicate (List.mem_of_getElem? hx)
  have ey := List.eq_of_mem_replicate (List.mem_of_getElem? hy)
  rw [ex, ey]
  exact r⟩
/-- of which kinds a share is not -/
structure OddC (K : PySem.W.Frag) (C : Addr) : Prop where
  int : PySem.W.kitOne K (.type "int") (.ref C) = some false
  non : PySem.W.kitOne K (.type "NoneType") (.ref C) = some false
  str : PySem.W.kitOne K (.type "str") (.ref C) = some false
  bl : PySem.W.kitOne K (.type "bool") (.ref C) = some false
  tup : PySem.W.kitOne K (.type "tuple") (.ref C) = some false
  sInt : PySem.W.kitOne K (.ref C) (.type "int") = some false
  sBool : PySem.W.kitOne K (.ref C) (.type "bool") = some false
  sTup : PySem.W.kitOne K (.ref C) (.type "tuple") = some false
def SmO (n m : Nat) (o : Option (List IO_)) : Prop := ∀ os, o = some os → os.length ≤ n ∧ ∀ oi ∈ os, ∀ d rd es, oi = some (d, rd, some es) → es.length ≤ m
theorem smo_none {n m : Nat} : SmO n m none := fun _ z => nomatch z
theorem SmO.up {n m n' m' : Nat} {o : Option (List IO_)} (h : SmO n m o) (a : n ≤ n') (b : m ≤ m') : SmO n' m' o := fun os e => ⟨Nat.le_trans (h os e).1 a, fun oi ho d rd es e2 => Nat.le_trans ((h os e).2 oi ho d rd es e2) b⟩
def spAmiss (K : PySem.W.Frag) (C : Addr) : Sp := fun vs H Q _ => ∃ (p : Addr) (v : V) (z : Int) (os : List IO_) (n m : Nat), vs = [.ref p, v] ∧ WellAt H p z ∧ 0 ≤ z ∧ z < 2 ^ 28 ∧ GvX K C p H v (some os) ∧ SmO n m (some os) ∧ 1 ≤ os.length ∧ n ≤ 100 ∧ m ≤ 200 ∧
  ∀ (H' : Hp) (v' : V) (o' : Option (List IO_)) (z' : Int), But p H H' → WellAt H' p z' → 0 ≤ z' → z' ≤ z + 10 → GvX K C p H' v' o' → SmO (n + 61) (2 * m + 61) o' → Q v' H'
/-- what stands while an item is changed -/
def Mid (K : PySem.W.Frag) (C p : Addr) (H N : Hp) (z : Int) (m : Nat) (d wv : V) : Prop := ∃ (rd : Bool) (ow : Option (List EO)) (z' : Int), DayX K N d rd ∧ WdX K C N wv ow ∧ (∀ es, ow = some es → es.length ≤ m) ∧ WellAt N p z' ∧ 0 ≤ z' ∧ z' ≤ z ∧ But p H N
theorem wd_none {K : PySem.W.Frag} {C : Addr} {H : Hp} {v : V} {ty : Value} (h : TyX K H v ty) (k : PySem.W.kitOne K ty (.type "tuple") = some false) : WdX K C H v none := .inl ⟨rfl, ty, h, k⟩
theorem wd_tup {K : PySem.W.Frag} {C : Addr} {H : Hp} {a : Addr} {xs : List V} {es : List EO} (h : SqT K H a xs) (e : All2 (ElX K C H) xs es) (l : xs.length ≤ 500) : WdX K C H (.ref a) (some es) := .inr ⟨a, xs, es, rfl, rfl, h, e, l⟩
theorem it_none {K : PySem.W.Frag} {C : Addr} {H : Hp} {v : V} {ty : Value} (h : TyX K H v ty) (k : PySem.W.kitOne K ty (.type "tuple") = some false) : ItX K C H v none := .inl ⟨rfl, ty, h, k⟩
theorem dx_odd {K : PySem.W.Frag} {H : Hp} {v : V} {ty : Value} {bi bb : Bool} (h : TyX K H v ty) (k1 : PySem.W.kitOne K ty (.type "int") = some bi) (k2 : PySem.W.kitOne K ty (.type "bool") = some bb) (nn : v ≠ .non) (e : (bi && !bb) = false) : DayX K H v false := .inr (.inr ⟨bi, bb, ⟨ty, h, k1, k2⟩, nn, e, rfl⟩)
theorem dx_int {K : PySem.W.Frag} {H : Hp} (i : Int) : DayX K H (.int i) (decide (1 ≤ i)) := .inr (.inl ⟨i, rfl, rfl⟩)
theorem smo_app {n m k : Nat} {os os' : List IO_} (h : SmO n m (some os)) (l : os'.length ≤ k) (g : ∀ oi ∈ os', ∀ d rd es, oi = some (d, rd, some es) → es.length ≤ m) : SmO (n + k) m (some (os ++ os')) := fun o e => by
  obtain rfl := Option.some.inj e
  obtain ⟨a, b⟩ := h os rfl
  refine ⟨by rw [List.length_append]; omega, fun oi ho => ?_⟩
  rcases List.mem_append.mp ho with z | z
  · exact b oi z
  · exact g oi z
theorem smo_sub {n m : Nat} {os os' : List IO_} (h : SmO n m (some os)) (l : os'.length ≤ n) (g : ∀ oi ∈ os', oi ∈ os) : SmO n m (some os') := fun o e => by
  obtain rfl := Option.some.inj e
  exact ⟨l, fun oi ho => (h os rfl).2 oi (g oi ho)⟩
theorem gv_lst {K : PySem.W.Frag} {C p a : Addr} {H : Hp} {xs : List V} {os : List IO_} (n : a ≠ p) (e : H a = some (.lst xs)) (h : All2 (ItX K C H) xs os) (l : xs.length ≤ 200) : GvX K C p H (.ref a) (some os) := .inr ⟨a, xs, os, rfl, rfl, n, e, h, l⟩
theorem gv_odd {K : PySem.W.Frag} {C p : Addr} {H : Hp} {v : V} {ty : Value} (h : TyX K H v ty) (k : PySem.W.kitOne K ty (.type "list") = some false) : GvX K C p H v none := .inl ⟨rfl, ty, h, k⟩
theorem catA_to {K : PySem.W.Frag} {H : Hp} {a b : Addr} {xs ys : List V} {Q : VK} (ha : SqT K H a xs) (hb : SqT K H b ys) (l : xs.length + ys.length ≤ sizeLine) (k : ∀ (H' : Hp) (r : Addr), Same H H' → SqT K H' r (xs ++ ys) → Q (.ref r) H') : rCatA K (.ref a) (.ref b) H Q :=
  ⟨a, b, xs, ys, rfl, rfl, ha, hb, l, fun z => k H b (Same.refl _) (by rw [z]; exact hb), fun _ z => k H a (Same.refl _) (by rw [z, List.append_nil]; exact ha), fun _ _ p hp => k _ p (same1 hp) (SqT.of upd_same)⟩
theorem slA_to {K : PySem.W.Frag} {H : Hp} {a : Addr} {xs : List V} {lo hi : Option Int} {Q : VK} (ha : SqT K H a xs) (k : ∀ (H' : Hp) (r : Addr), Same H H' → SqT K H' r (cutV xs lo hi) → Q (.ref r) H') : rSlA K (.ref a) lo hi H Q :=
  ⟨a, xs, rfl, ha, fun z => k H a (Same.refl _) (by
    unfold cutV
    rw [z.1, z.2, List.drop_zero, Nat.sub_zero, List.take_length]
    exact ha), fun _ p hp => k _ p (same1 hp) (SqT.of upd_same)⟩
theorem cut_nat {xs : List V} {i : Nat} (h : i < xs.length) : cutV xs (some ((i : Int) + 1)) none = xs.drop (i + 1) := by
  have e := cut_from (xs := xs) (n := i + 1) (by omega)
  exact e
section
variable {P : Program} {w : World} {K : PySem.W.Frag} {mg : Str → Option Value} {base : Heap}
abbrev amN : List Str := ["well", "given", "way", "at", "days", "word", "some", "spot", "odd", "other", "k"]
theorem scAm : FnScope amN ["well", "given"] (defScope d_law_amiss) := ⟨rfl, rfl, rfl, by decide +kernel, rfl, by decide +kernel, by decide +kernel⟩
theorem ok_amiss {f f1 f2 fI C CN : Addr} {fd fd1 fd2 fdI : FuncData} {u0 : Value} (F : Fun K "_law_amiss" "_law_amiss" d_law_amiss f fd) (T : Txt K mg C CN) (Y : TxtY mg C) (hrange : mg "range" = none) (OC : OddC K C)
    (IS : ∀ (H : Hp) p t b, ShAt C H p t b → TyX K H (.ref p) (.ref C))
    (M : Mk K C fI) (GI : FnOk P w K mg base (L2.CX P w) 2 fI fdI ["self", "top", "bottom"] (spInit C CN)) (bI1 : Binds K fdI ["self", "top", "bottom"] [u0]) (vd : Vals [.int 1] [u0])
    (A1 : At P w K mg base CX0 1 "_law_draw" ["well", "many"] spDraw f1 fd1) (A2 : At P w K mg base CX0 2 "_law_one" ["well", "some"] (spOne K) f2 fd2) : FnOk P w K mg base CX0 4 f fd ["well", "given"] (spAmiss K C) := by
  refine F.ok scAm (fun vs H Q E h => ?_) (fun cdv A outer s H vs Q E hr h => ?_)
  · obtain ⟨_, _, _, _, _, _, rfl, _⟩ := h
    rfl
  · obtain ⟨p, v, z, os, n, m, rfl, hp, z0, z1, hv, sm, o1, n100, m200, kq⟩ := h
    have r0 : Room 0 _ := hr.mono (by decide)
    have r1 : Room 1 _ := hr.mono (by decide)
    have r2 : Room 2 _ := hr.mono (by decide)
    refine ⟨_, pss_cons (ps_set (i := 2) scAm.nd rfl (Or.inl rfl) (pe_call A1.G r1 rfl A1.m A1.k A1.b .nil pass0 (pa_cons (pv 0) (pa_cons pe_int pa_nil))))
      (pss_cons (ps_if (pt_cmpR op_eq (pv 2) pe_int (nomark _)) (pss_one (ps_ret (pe_call A2.G r2 rfl A2.m A2.k A2.b .nil pass0 (pa_cons (pv 0) (pa_cons (pe_lst (pa_cons pe_non (pa_cons (pe_callTy (cr_tup (K := K) rfl) (by rfl) Y.tuple (by decide +kernel) (pa_cons (pv 1) pa_nil)) (pa_cons (pe_lst pa_nil) (pa_cons pe_int
          (pa_cons (pe_op op_cat (pv 1) (pe_lst (pa_cons pe_non pa_nil))) (pa_cons (pe_op op_cat (pv 1) (pe_lst (pa_cons (pe_ix ix_list (pv 1) (pe_un un_neg pe_int) (fun _ _ => rfl)) pa_nil))) (pa_cons (pe_slice sl_list (pv 1) po_none (po_some (pe_un un_neg pe_int))) pa_nil)))))))) pa_nil))))) pss_nil)
      (pss_cons (ps_if (pt_cmpR op_eq (pv 2) pe_int (nomark _)) (pss_one (ps_ret (pe_op op_cat
          (pe_lc (own := [("k", 10)]) (g := gName 10) (by rfl) scAm.nd (pi_range1 (by rfl) hrange (pa_cons (pe_call A2.G r2 rfl A2.m A2.k A2.b .nil pass0 (pa_cons (pv 0) (pa_cons (pe_lst (pa_cons pe_int (pa_cons pe_int pa_nil))) pa_nil))) pa_nil)) (blkOk_by (own := [("k", 10)]) (N := amN) (sc := defScope d_law_amiss) (by decide +kernel))
            (fun _ _ _ _ _ => pg_name (i := 10) scAm.nd rfl (.inl rfl)) (fun _ _ _ _ _ => pts_nil)
            (fun _ _ _ _ _ => pe_tup (pa_cons (pe_op op_add pe_int (pv 10)) (pa_cons (pe_tup (pa_cons (pe_make M GI hr rfl T.mgC bI1 vd passL (pa_cons (pv 10) pa_nil)) (pa_cons (pe_make M GI hr rfl T.mgC bI1 vd passL (pa_cons pe_int pa_nil)) pa_nil))) pa_nil))))
          (pe_lst (pa_cons (pe_tup (pa_cons pe_non (pa_cons (pe_tup (pa_cons (pe_make M GI hr rfl T.mgC bI1 vd passL (pa_cons pe_int pa_nil)) pa_nil)) pa_nil))) pa_nil))))) pss_nil)
      (pss_cons (ps_set (i := 3) scAm.nd rfl (Or.inl rfl) (pe_call A1.G r1 rfl A1.m A1.k A1.b .nil pass0 (pa_cons (pv 0) (pa_cons (pe_callB call_len_seq (by rfl) Y.len PySem.boot_len (pa_cons (pv 1) pa_nil)) pa_nil))))
      (pss_cons (ps_if (PW.pt (pw_or (pt_not (pt_val (pe_callB call_isi (by rfl) Y.isi (by decide +kernel) (pa_cons (pe_ix ix_list (pv 1) (pv 3) (fun _ _ => rfl)) (pa_cons (pe_bltn (v := .ty "tuple") (by rfl) Y.tuple (by decide +kernel) rfl) pa_nil)))))
          (pw_or1 (pt_cmpR op_ne (pe_callB call_len_seq (by rfl) Y.len PySem.boot_len (pa_cons (pe_ix ix_list (pv 1) (pv 3) (fun _ _ => rfl)) pa_nil)) pe_int (nomark _))))) (pss_one (ps_ret (pv 1))) pss_nil)
      (pss_cons (ps_asg (pe_ix ix_list (pv 1) (pv 3) (fun _ _ => rfl)) (pg_tup (by rfl) (pgs_cons (pg_name (i := 4) scAm.nd rfl (.inl rfl)) (pgs_cons (pg_name (i := 5) scAm.nd rfl (.inl rfl)) pgs_nil))))
      (C8.pss_cut (ps_if (pt_cmpR op_lt (pv 2) pe_int (nomark _)) (pss_one (ps_set (i := 4) scAm.nd rfl (Or.inl rfl) (pe_call A2.G r2 rfl A2.m A2.k A2.b .nil pass0 (pa_cons (pv 0) (pa_cons (pe_lst (pa_cons pe_int (pa_cons (pe_un un_neg pe_int) (pa_cons (pe_cmpR op_eq pe_int pe_int (nomark _))
          (pa_cons pe_non (pa_cons pe_str (pa_cons pe_int (pa_cons (pe_op op_pow pe_int pe_int) (pa_cons (pe_tup (pa_cons pe_int pa_nil)) (pa_cons (pe_make M GI hr rfl T.mgC bI1 vd passL (pa_cons pe_int pa_nil)) (pa_cons pe_int pa_nil))))))))))) pa_nil))))) pss_nil)
      (C8.pss_cut (ps_if (PW.pt (pw_and (pt_cmpR op_eq (pv 2) pe_int (nomark _)) (pw_and1 (pt_val (pe_callB call_isi (by rfl) Y.isi (by decide +kernel) (pa_cons (pv 5) (pa_cons (pe_bltn (v := .ty "tuple") (by rfl) Y.tuple (by decide +kernel) rfl) pa_nil)))))))
          (pss_cons (ps_set (i := 6) scAm.nd rfl (Or.inl rfl) (pe_lst (pa_cons (pe_callTy call_list_of (by rfl) Y.list (by decide +kernel) (pa_cons (pv 5) pa_nil)) (pa_cons (pe_tup pa_nil) (pa_cons pe_non
              (pa_cons (pe_op op_repT (pe_tup (pa_cons (pe_make M GI hr rfl T.mgC bI1 vd passL (pa_cons pe_int pa_nil)) pa_nil)) pe_int) (pa_cons (pe_op op_repT (pe_tup (pa_cons (pe_make M GI hr rfl T.mgC bI1 vd passL (pa_cons pe_int pa_nil)) pa_nil)) pe_int) (pa_cons (pe_op op_catA (pv 5) (pe_tup (pa_cons pe_int pa_nil))) pa_nil))))))))
          (pss_one (ps_set (i := 5) scAm.nd rfl (Or.inl rfl) (pe_call A2.G r2 rfl A2.m A2.k A2.b .nil pass0 (pa_cons (pv 0) (pa_cons (pe_op op_cat (pv 6) (pe_lst (pa_cons (pe_op op_catA (pv 5) (pe_tup (pa_cons pe_non pa_nil))) (pa_cons (pe_op op_catA (pv 5) (pv 5)) pa_nil)))) pa_nil)))))) pss_nil)
      (C8.pss_cut (ps_if (PW.pt (pw_and (pt_cmpR op_eq (pv 2) pe_int (nomark _)) (pw_and (pt_val (pe_callB call_isi (by rfl) Y.isi (by decide +kernel) (pa_cons (pv 5) (pa_cons (pe_bltn (v := .ty "tuple") (by rfl) Y.tuple (by decide +kernel) rfl) pa_nil)))) (pw_and1 (pt_cmpR (op_neT0 r0) (pv 5) (pe_tup pa_nil) (nomark _))))))
          (pss_cons (ps_set (i := 7) scAm.nd rfl (Or.inl rfl) (pe_call A1.G r1 rfl A1.m A1.k A1.b .nil pass0 (pa_cons (pv 0) (pa_cons (pe_callB call_len_seq (by rfl) Y.len PySem.boot_len (pa_cons (pv 5) pa_nil)) pa_nil))))
          (pss_cons (ps_set (i := 8) scAm.nd rfl (Or.inl rfl) (pe_call A2.G r2 rfl A2.m A2.k A2.b .nil pass0 (pa_cons (pv 0) (pa_cons (pe_lst (pa_cons pe_non (pa_cons pe_int (pa_cons (pe_tup (pa_cons pe_int (pa_cons pe_int pa_nil))) (pa_cons pe_str (pa_cons (pe_cmpR op_eq pe_int pe_int (nomark _)) (pa_cons (pe_make M GI hr rfl T.mgC bI1 vd passL (pa_cons pe_int pa_nil)) pa_nil))))))) pa_nil))))
          (pss_one (ps_set (i := 5) scAm.nd rfl (Or.inl rfl) (pe_op op_catA (pe_op op_catA (pe_slice sl_tupA (pv 5) po_none (po_some (pv 7))) (pe_tup (pa_cons (pv 8) pa_nil))) (pe_slice sl_tupA (pv 5) (po_some (pe_op op_add (pv 7) pe_int)) po_none)))))) pss_nil)
      (pss_cons (ps_set (i := 9) scAm.nd rfl (Or.inl rfl) (pe_call A2.G r2 rfl A2.m A2.k A2.b .nil pass0 (pa_cons (pv 0) (pa_cons (pe_lst (pa_cons (pe_tup (pa_cons (pv 4) (pa_cons (pv 5) pa_nil))) (pa_cons (pe_tup (pa_cons (pv 4) (pa_cons (pv 5) pa_nil))) (pa_cons (pe_tup (pa_cons (pv 4) (pa_cons (pv 5) pa_nil)))
          (pa_cons (pe_lst (pa_cons (pv 4) (pa_cons (pv 5) pa_nil))) (pa_cons (pe_tup (pa_cons (pv 4) (pa_cons (pv 5) (pa_cons pe_int pa_nil)))) (pa_cons (pe_tup (pa_cons (pv 4) pa_nil)) pa_nil))))))) pa_nil))))
      (C8.pss_cut (ps_if (pt_cmpR op_gt (pv 2) pe_int (nomark _)) (pss_one (ps_set (i := 9) scAm.nd rfl (Or.inl rfl) (pe_tup (pa_cons (pv 4) (pa_cons (pv 5) pa_nil))))) pss_nil)
      (pss_one (ps_ret (pe_op op_cat (pe_op op_cat (pe_slice sl_list (pv 1) po_none (po_some (pv 3))) (pe_lst (pa_cons (pv 9) pa_nil))) (pe_slice sl_list (pv 1) (po_some (pe_op op_add (pv 3) pe_int)) po_none)))))))))))))), ?_⟩
    rcases hv with ⟨z, _⟩ | ⟨a, xs, os', e', rfl, np, ha, hx, l200⟩
    · cases z
    obtain rfl := Option.some.inj e'
    have lx := hx.len
    obtain ⟨sn, sw⟩ := sm os rfl
    refine ⟨_, rfl, p, 9, z, rfl, hp, by decide, by decide, z0, by omega, fun G way z' b1 w1 z'0 z'1 way0 way9 => ?_⟩
    have ha1 : G a = some (.lst xs) := b1 a _ np ha
    have hx1 : All2 (ItX K C G) xs os := hx.mono fun _ _ _ _ r => (kp_but b1 hp w1).it r
    refine ⟨_, rfl, rfl, _, rfl, ?_⟩
    refine ite2 (fun h => ?_) (fun h => ?_)
    · refine ⟨_, rfl, _, rfl, a, _, rfl, .inl ⟨SqL.of ha1, fun T hT => ?_⟩⟩
      have s1 : Same G (upd G T (.tup xs)) := same1 hT
      have eT : (upd G T (.tup xs) : Hp) T = some (.tup xs) := upd_same
      have w2 := w1.same s1
      generalize upd G T (.tup xs) = G1 at *
      refine ⟨(by show 0 ≤ sizeLine; decide), fun E1 hE1 => ?_⟩
      have nE := w2.ne hE1
      have s2 : Same G1 (upd G1 E1 (.lst [])) := same1 hE1
      have eE : (upd G1 E1 (.lst []) : Hp) E1 = some (.lst []) := upd_same
      have w3 := w2.same s2
      generalize upd G1 E1 (.lst []) = G2 at *
      refine ⟨_, rfl, (by show 1 ≤ sizeLine; decide), fun A0 hA0 => ?_⟩
      have s3 : Same G2 (upd G2 A0 (.lst [.non])) := same1 hA0
      have eA0 : (upd G2 A0 (.lst [.non]) : Hp) A0 = some (.lst [.non]) := upd_same
      have w4 := w3.same s3
      generalize upd G2 A0 (.lst [.non]) = G3 at *
      have s13 := s1.trans (s2.trans s3)
      refine ⟨a, A0, _, _, rfl, rfl, s13 _ _ ha1, eA0, Nat.le_trans (show xs.length + 1 ≤ 201 by omega) (by decide), fun A1' hA1 => ?_⟩
      have nA1 := w4.ne hA1
      have s4 : Same G3 (upd G3 A1' (.lst (xs ++ [.non]))) := same1 hA1
      have eA1 : (upd G3 A1' (.lst (xs ++ [.non])) : Hp) A1' = some (.lst (xs ++ [.non])) := upd_same
      have w5 := w4.same s4
      generalize upd G3 A1' (.lst (xs ++ [.non])) = G4 at *
      have s14 := s13.trans s4
      have xl : xs.length - 1 < xs.length := by omega
      have ol : os.length - 1 < os.length := by omega
      have hlast : xs[xs.length - 1]? = some xs[xs.length - 1] := List.getElem?_eq_getElem xl
      have hlo : os[xs.length - 1]? = some os[os.length - 1] := by
        rw [lx]
        exact List.getElem?_eq_getElem ol
      have itl := hx1.all _ _ _ hlast hlo
      have memlo := List.mem_of_getElem? hlo
      generalize xs[xs.length - 1] = lv at *
      generalize os[os.length - 1] = lo at *
      refine ⟨_, rfl, _, rfl, 1, rfl, a, _, _, lv, rfl, rfl, SqL.of (s14 _ _ ha1), at_last1 (by omega) hlast, (by show 1 ≤ sizeLine; decide), fun A4 hA4 => ?_⟩
      have s5 : Same G4 (upd G4 A4 (.lst [lv])) := same1 hA4
      have eA4 : (upd G4 A4 (.lst [lv]) : Hp) A4 = some (.lst [lv]) := upd_same
      have w6 := w5.same s5
      generalize upd G4 A4 (.lst [lv]) = G5 at *
      have s15 := s14.trans s5
      refine ⟨a, A4, _, _, rfl, rfl, s15 _ _ ha1, eA4, Nat.le_trans (show xs.length + 1 ≤ 201 by omega) (by decide), fun A2' hA2 => ?_⟩
      have nA2 := w6.ne hA2
      have s6 : Same G5 (upd G5 A2' (.lst (xs ++ [lv]))) := same1 hA2
      have eA2 : (upd G5 A2' (.lst (xs ++ [lv])) : Hp) A2' = some (.lst (xs ++ [lv])) := upd_same
      have w7 := w6.same s6
      generalize upd G5 A2' (.lst (xs ++ [lv])) = G6 at *
      have s16 := s15.trans s6
      refine ⟨_, rfl, 1, rfl, _, rfl, a, _, rfl, SqL.of (s16 _ _ ha1), fun A3 hA3 => ?_⟩
      have cb : cutV xs none (some (-1)) = xs.take (xs.length - 1) := cut_back (n := 1) (by decide)
      rw [cb]
      have nA3 := w7.ne hA3
      have s7 : Same G6 (upd G6 A3 (.lst (xs.take (xs.length - 1)))) := same1 hA3
      have eA3 : (upd G6 A3 (.lst (xs.take (xs.length - 1))) : Hp) A3 = some (.lst (xs.take (xs.length - 1))) := upd_same
      have w8 := w7.same s7
      generalize upd G6 A3 (.lst (xs.take (xs.length - 1))) = G7 at *
      have s17 := s16.trans s7
      refine ⟨(by show 7 ≤ sizeLine; decide), fun L hL => ?_⟩
      have nL := w8.ne hL
      have s8 : Same G7 (upd G7 L (.lst [.non, .ref T, .ref E1, .int 7, .ref A1', .ref A2', .ref A3])) := same1 hL
      have eL : (upd G7 L (.lst [.non, .ref T, .ref E1, .int 7, .ref A1', .ref A2', .ref A3]) : Hp) L = some (.lst [.non, .ref T, .ref E1, .int 7, .ref A1', .ref A2', .ref A3]) := upd_same
      have wG := w8.same s8
      generalize upd G7 L (.lst [.non, .ref T, .ref E1, .int 7, .ref A1', .ref A2', .ref A3]) = G8 at *
      have s18 := s17.trans s8
      have s68 := s7.trans s8
      have s48 := s5.trans (s6.trans s68)
      refine ⟨p, L, _, z', rfl, wG, z'0, by omega, eL, nL, (by show 0 < 7; decide), (by show 7 < 1000; decide), fun G9 z2 x b9 w9 z20 z21 hm => ?_⟩
      have bA : But p H G9 := b1.trans ((same_but s18).trans b9)
      have hx8 : All2 (ItX K C G8) xs os := hx1.mono fun _ _ _ _ r => (kp_same s18).it r
      have fin : ∀ {o' : Option (List IO_)}, GvX K C p G8 x o' → SmO (n + 61) (2 * m + 61) o' → Q x G9 := fun {o'} g s => kq G9 x o' z2 bA w9 z20 (by omega) (g.but b9 wG w9) s
      simp only [List.mem_cons, List.not_mem_nil, or_false] at hm
      rcases hm with rfl | rfl | rfl | rfl | rfl | rfl | rfl
      · exact fin (gv_odd (TyX.base .non) (kit_ty (by decide +kernel))) smo_none
      · exact fin (gv_odd (TyX.base (.tup ((s2.trans (s3.trans (s4.trans s48))) _ _ eT))) (kit_ty (by decide +kernel))) smo_none
      · exact fin (gv_lst nE ((s3.trans (s4.trans s48)) _ _ eE) .nil (Nat.zero_le _)) (fun o e => by
          obtain rfl := Option.some.inj e
          exact ⟨Nat.zero_le _, fun oi z => nomatch z⟩)
      · exact fin (gv_odd (TyX.base (.int 7)) (kit_ty (by decide +kernel))) smo_none
      · refine fin (gv_lst nA1 (s48 _ _ eA1) (hx8.appN (All2.oneN (it_none (TyX.base .non) (kit_ty (by decide +kernel))))) (by rw [List.length_append, List.length_singleton]; omega)) ((smo_app (k := 1) sm (Nat.le_refl _) fun oi ho => ?_).up (by omega) (by omega))
        rw [List.mem_singleton.mp ho]
        intro d rd es z
        cases z
      · refine fin (gv_lst nA2 (s68 _ _ eA2) (hx8.appN (All2.oneN ((kp_same s18).it itl))) (by rw [List.length_append, List.length_singleton]; omega)) ((smo_app (k := 1) sm (Nat.le_refl _) fun oi ho => ?_).up (by omega) (by omega))
        rw [List.mem_singleton.mp ho]
        exact sw lo memlo
      · refine fin (gv_lst nA3 (s8 _ _ eA3) (hx8.takeN _) (by rw [List.length_take]; omega)) ((smo_sub sm (by rw [List.length_take]; omega) fun oi ho => List.mem_of_mem_take ho).up (by omega) (by omega))
    clear h
    refine ⟨_, rfl, rfl, _, rfl, ?_⟩
    refine ite2 (fun h => ?_) (fun h => ?_)
    · refine ⟨_, rfl, (by show 2 ≤ sizeLine; decide), fun L hL => ?_⟩
      have nL := w1.ne hL
      have s1 : Same G (upd G L (.lst [.int 59, .int 60])) := same1 hL
      have eL : (upd G L (.lst [.int 59, .int 60]) : Hp) L = some (.lst [.int 59, .int 60]) := upd_same
      have w2 := w1.same s1
      generalize upd G L (.lst [.int 59, .int 60]) = G1 at *
      refine ⟨p, L, _, z', rfl, w2, z'0, by omega, eL, nL, (by show 0 < 2; decide), (by show 2 < 1000; decide), fun G2 z2 x b2 w3 z20 z21 hm => ?_⟩
      obtain ⟨c, rfl, c0, c60⟩ : ∃ c : Int, x = .int c ∧ 0 ≤ c ∧ c ≤ 60 := by
        simp only [List.mem_cons, List.not_mem_nil, or_false] at hm
        rcases hm with rfl | rfl
        · exact ⟨59, rfl, by decide, by decide⟩
        · exact ⟨60, rfl, by decide, by decide⟩
      have b12 : But p H G2 := b1.trans ((same_but s1).trans b2)
      refine ⟨_, rfl, by omega, by omega, fun D hD => ?_⟩
      refine lc_range (lo := 0) (n := c.toNat) (fun i N => ∃ (us : List V) (os1 : List IO_), N D = some (.lst us) ∧ All2 (ItX K C N) us os1 ∧ os1.length = i ∧ (∀ oi ∈ os1, ∀ d rd es, oi = some (d, rd, some es) → es.length ≤ 2) ∧ Same G2 N) ⟨[], [], upd_same, .nil, rfl, (fun oi z => nomatch z), same1 hD⟩ ?_ ?_
      · rintro i N hi ⟨us, os1, eD, hus, l1, hos, sN⟩
        refine ⟨rfl, _, rfl, _, _, rfl, rfl, _, rfl, fun x1 dx1 nx1 nd1 _ => ⟨x1, dx1, 0 + (i : Int), 1, rfl, upd_same, Nat.lt_of_lt_of_le (show (0 + (i : Int)).natAbs < 2 ^ 6 by omega) (Nat.pow_le_pow_right (by decide) (by decide)), by decide, fun e => absurd e (by decide), fun _ N1 g1 k1 => ⟨rfl, ?_⟩⟩⟩
        have m1 : Same N N1 := made_same (C := C) nx1 nd1 k1
        refine fun x2 dx2 nx2 nd2 _ => ⟨x2, dx2, 1, 1, rfl, upd_same, by decide, by decide, fun e => absurd e (by decide), fun _ N2 g2 k2 => ⟨rfl, ?_⟩⟩
        have m2 : Same N1 N2 := made_same (C := C) nx2 nd2 k2
        refine ⟨(by show 2 ≤ sizeLine; decide), fun T hT => ⟨(by show 2 ≤ sizeLine; decide), fun U hU => ?_⟩⟩
        have m3 : Same N2 (upd N2 T (.tup [.ref x1, .ref x2])) := same1 hT
        have eT : (upd N2 T (.tup [.ref x1, .ref x2]) : Hp) T = some (.tup [.ref x1, .ref x2]) := upd_same
        generalize upd N2 T (.tup [.ref x1, .ref x2]) = N3 at *
        have m4 : Same N3 (upd N3 U (.tup [.int (1 + (0 + (i : Int))), .ref T])) := same1 hU
        have eU : (upd N3 U (.tup [.int (1 + (0 + (i : Int))), .ref T]) : Hp) U = some (.tup [.int (1 + (0 + (i : Int))), .ref T]) := upd_same
        generalize upd N3 U (.tup [.int (1 + (0 + (i : Int))), .ref T]) = N4 at *
        have m14 := m1.trans (m2.trans (m3.trans m4))
        have eD4 := m14 _ _ eD
        have kD : Kp N4 (upd N4 D (.lst (us ++ [.ref U]))) := ⟨fun b o e n => by
          by_cases q : b = D
          · rw [q, eD4] at e
            exact absurd (Option.some.inj e).symm (n _)
          · rw [upd_ne q]
            exact e, fun b ys e => by
          by_cases q : b = D
          · rw [q]
            exact ⟨_, upd_same⟩
          · rw [upd_ne q]
            exact ⟨_, e⟩⟩
        have it : ItX K C N4 (.ref U) (some (.int (1 + (0 + (i : Int))), decide (1 ≤ 1 + (0 + (i : Int))), some [some (lowT (0 + (i : Int)) 1, lowB (0 + (i : Int)) 1), some (lowT 1 1, lowB 1 1)])) := by
          refine .inr (.inr ⟨U, _, _, _, _, rfl, rfl, SqT.of eU, dx_int _, wd_tup (SqT.of (m4 _ _ eT)) ?_ (by show 2 ≤ 500; decide)⟩)
          have q1 : ElX K C N4 (.ref x1) (some (lowT (0 + (i : Int)) 1, lowB (0 + (i : Int)) 1)) := .inl ⟨_, x1, rfl, rfl, dx1, (m2.trans (m3.trans m4)) _ _ g1⟩
          have q2 : ElX K C N4 (.ref x2) (some (lowT 1 1, lowB 1 1)) := .inl ⟨_, x2, rfl, rfl, dx2, (m3.trans m4) _ _ g2⟩
          exact (All2.oneN q1).appN (All2.oneN q2)
        refine ⟨_, eD4, ?_, us ++ [.ref U], os1 ++ [_], upd_same, (hus.mono fun _ _ _ _ r => kD.it ((kp_same m14).it r)).appN (All2.oneN (kD.it it)), by rw [List.length_append, l1]; rfl, fun oi ho d rd es e => ?_, fun b o e => ?_⟩
        · rw [hus.len, l1]
          exact Nat.lt_of_lt_of_le (show i < 60 by omega) (by decide)
        · rcases List.mem_append.mp ho with q | q
          · exact hos oi q d rd es e
          · rw [List.mem_singleton.mp q] at e
            injection e with e
            injection e with _ e
            injection e with _ e
            injection e with e
            rw [← e]
            exact Nat.le_refl _
        · rw [upd_ne (ne_of_none e hD)]
          exact m14 _ _ (sN _ _ e)
      rintro N ⟨us, os1, eD, hus, l1, hos, sN⟩
      have wN := w3.same sN
      refine fun x2 dx2 nx2 nd2 _ => ⟨x2, dx2, 2, 1, rfl, upd_same, by decide, by decide, fun e => absurd e (by decide), fun _ N2 g2 k2 => ⟨rfl, ?_⟩⟩
      have m2 : Same N N2 := made_same (C := C) nx2 nd2 k2
      refine ⟨(by show 1 ≤ sizeLine; decide), fun T hT => ⟨(by show 2 ≤ sizeLine; decide), fun U hU => ⟨(by show 1 ≤ sizeLine; decide), fun L2 hL2 => ?_⟩⟩⟩
      have m3 : Same N2 (upd N2 T (.tup [.ref x2])) := same1 hT
      have eT : (upd N2 T (.tup [.ref x2]) : Hp) T = some (.tup [.ref x2]) := upd_same
      generalize upd N2 T (.tup [.ref x2]) = N3 at *
      have m4 : Same N3 (upd N3 U (.tup [.non, .ref T])) := same1 hU
      have eU : (upd N3 U (.tup [.non, .ref T]) : Hp) U = some (.tup [.non, .ref T]) := upd_same
      generalize upd N3 U (.tup [.non, .ref T]) = N4 at *
      have m5 : Same N4 (upd N4 L2 (.lst [.ref U])) := same1 hL2
      have eL2 : (upd N4 L2 (.lst [.ref U]) : Hp) L2 = some (.lst [.ref U]) := upd_same
      generalize upd N4 L2 (.lst [.ref U]) = N5 at *
      have m15 := m2.trans (m3.trans (m4.trans m5))
      have lus := hus.len
      refine ⟨D, L2, _, _, rfl, rfl, m15 _ _ eD, eL2, Nat.le_trans (show us.length + 1 ≤ 61 by omega) (by decide), fun B hB => ?_⟩
      have w5 := wN.same m15
      have nB := w5.ne hB
      have m6 : Same N5 (upd N5 B (.lst (us ++ [.ref U]))) := same1 hB
      have eB : (upd N5 B (.lst (us ++ [.ref U])) : Hp) B = some (.lst (us ++ [.ref U])) := upd_same
      have w6 := w5.same m6
      generalize upd N5 B (.lst (us ++ [.ref U])) = N6 at *
      have m16 := m15.trans m6
      have it : ItX K C N6 (.ref U) (some (.non, true, some [some (lowT 2 1, lowB 2 1)])) := by
        refine .inr (.inr ⟨U, _, _, _, _, rfl, rfl, SqT.of (m6 _ _ (m5 _ _ eU)), .inl ⟨rfl, rfl⟩, wd_tup (SqT.of (m6 _ _ (m5 _ _ (m4 _ _ eT)))) ?_ (by show 1 ≤ 500; decide)⟩)
        exact All2.oneN (.inl ⟨_, x2, rfl, rfl, dx2, (m3.trans (m4.trans (m5.trans m6))) _ _ g2⟩)
      refine kq N6 (.ref B) (some (os1 ++ [_])) z2 (b12.trans (same_but (sN.trans m16))) w6 z20 (by omega) (gv_lst nB eB ((hus.mono fun _ _ _ _ r => (kp_same m16).it r).appN (All2.oneN it)) (by rw [List.length_append, List.length_singleton]; omega)) (fun o e => ?_)
      obtain rfl := Option.some.inj e
      refine ⟨by rw [List.length_append, List.length_singleton]; omega, fun oi ho d rd es e => ?_⟩
      rcases List.mem_append.mp ho with q | q
      · have := hos oi q d rd es e
        omega
      · rw [List.mem_singleton.mp q] at e
        injection e with e
        injection e with _ e
        injection e with _ e
        injection e with e
        rw [← e]
        show 1 ≤ 2 * m + 61
        omega
    clear h
    refine ⟨_, rfl, _, rfl, a, _, rfl, .inl (SqL.of ha1), ?_⟩
    refine ⟨p, _, z', rfl, w1, by omega, by omega, z'0, by omega, fun G2 at_ z2 b2 w2 z20 z21 a0 a1 => ?_⟩
    have b12 : But p H G2 := b1.trans b2
    have ha2 := b2 _ _ np ha1
    have hx2 : All2 (ItX K C G2) xs os := hx1.mono fun _ _ _ _ r => (kp_but b2 w1 w2).it r
    obtain ⟨j, rfl⟩ : ∃ j : Nat, at_ = (j : Int) := ⟨at_.toNat, by omega⟩
    have jx : j < xs.length := by omega
    have jo : j < os.length := by omega
    have hxj : xs[j]? = some xs[j] := List.getElem?_eq_getElem jx
    have hoj : os[j]? = some os[j] := List.getElem?_eq_getElem jo
    have it := hx2.all j _ _ hxj hoj
    have memo := List.mem_of_getElem? hoj
    generalize xs[j] = iv at *
    generalize os[j] = io at *
    have back : Q (.ref a) G2 := kq G2 (.ref a) (some os) z2 b12 w2 z20 (by omega) (gv_lst np ha2 hx2 l200) (sm.up (by omega) (by omega))
    rcases it with ⟨rfl, ty, hty, hk⟩ | ⟨rfl, b, ys, rfl, hb, n2⟩ | ⟨b, d, wv, rd, ow, rfl, rfl, hb, hd, hw⟩
    · exact ⟨_, rfl, _, rfl, a, _, _, _, rfl, rfl, SqL.of ha2, atI_nat hxj, _, _, ty, _, false, rfl, ClsV.ty _, hty, hk, false, rfl, iteT (iteT ⟨_, rfl, back⟩)⟩
    · refine ⟨_, rfl, _, rfl, a, _, _, _, rfl, rfl, SqL.of ha2, atI_nat hxj, _, _, _, _, true, rfl, ClsV.ty _, ty_tup hb, kit_ty (by decide +kernel), true, rfl, iteF ?_⟩
      refine ⟨_, rfl, _, rfl, a, _, _, _, rfl, rfl, SqL.of ha2, atI_nat hxj, b, _, rfl, .inr hb, rfl, _, rfl, ?_⟩
      rw [show (!decide (V.int (ys.length : Int) = V.int 2)) = true from by rw [decI, decide_eq_false (by omega)]; rfl]
      exact iteT ⟨_, rfl, back⟩
    refine ⟨_, rfl, _, rfl, a, _, _, _, rfl, rfl, SqL.of ha2, atI_nat hxj, _, _, _, _, true, rfl, ClsV.ty _, ty_tup hb, kit_ty (by decide +kernel), true, rfl, iteF ?_⟩
    refine ⟨_, rfl, _, rfl, a, _, _, _, rfl, rfl, SqL.of ha2, atI_nat hxj, b, _, rfl, .inr hb, rfl, _, rfl, iteF ?_⟩
    refine ⟨_, rfl, _, rfl, a, _, _, _, rfl, rfl, SqL.of ha2, atI_nat hxj, b, _, rfl, hb, rfl, _, _, rfl, _, _, rfl, rfl, ?_⟩
    have wl : ∀ es, ow = some es → es.length ≤ m := fun es e => sw _ memo d rd es (by rw [e])
    clear back
    -- the days
    refine ⟨fun σ' N' => ∃ d' : V, σ' = [some (.ref p), some (.ref a), some (.int way), some (.int (j : Int)), some d', some wv, none, none, none, none, none] ∧ Mid K C p H N' (z + 3) m d' wv, ?_, ?_⟩
    · refine ⟨_, rfl, _, _, rfl, rfl, _, rfl, ?_⟩
      refine ite2 (fun _ => ?_) (fun _ => ⟨d, rfl, rd, ow, z2, hd, hw, wl, w2, z20, by omega, b12⟩)
      refine ⟨_, rfl, 1, rfl, rfl, _, _, rfl, rfl, ⟨by decide, by decide, by decide⟩, (by show 1 ≤ sizeLine; decide), fun T hT => ?_⟩
      have s1 : Same G2 (upd G2 T (.tup [.int 1])) := same1 hT
      have eT : (upd G2 T (.tup [.int 1]) : Hp) T = some (.tup [.int 1]) := upd_same
      generalize upd G2 T (.tup [.int 1]) = G3 at *
      refine fun x1 dx1 nx1 nd1 _ => ⟨x1, dx1, 2, 1, rfl, upd_same, by decide, by decide, fun e => absurd e (by decide), fun _ G4 g1 k1 => ⟨rfl, ?_⟩⟩
      have s2 : Same G3 G4 := made_same (C := C) nx1 nd1 k1
      refine ⟨(by show 10 ≤ sizeLine; decide), fun L hL => ?_⟩
      have s12 := s1.trans s2
      have w4 := w2.same s12
      have nL := w4.ne hL
      refine ⟨p, L, _, z2, rfl, WellAt.same w4 (same1 hL), z20, by omega, upd_same, nL, (by show 0 < 10; decide), (by show 10 < 1000; decide), fun G6 z3 x b6 w6 z30 z31 hm => ?_⟩
      have b46 : But p G4 G6 := But.trans (same_but (same1 hL)) b6
      have k46 := kp_but b46 w4 w6
      have k26 := (kp_same s12).trans k46
      have fin : ∀ rd', DayX K G6 x rd' → ∃ d' : V, [some (V.ref p), some (.ref a), some (.int way), some (.int (j : Int)), some x, some wv, none, none, none, none, none] = [some (V.ref p), some (.ref a), some (.int way), some (.int (j : Int)), some d', some wv, none, none, none, none, none] ∧ Mid K C p H G6 (z + 3) m d' wv :=
        fun rd' hd' => ⟨x, rfl, rd', ow, z3, hd', k26.wd hw, wl, w6, z30, by omega, b12.trans ((same_but s12).trans b46)⟩
      simp only [List.mem_cons, List.not_mem_nil, or_false] at hm
      rcases hm with rfl | rfl | rfl | rfl | rfl | rfl | rfl | rfl | rfl | rfl
      · exact fin _ (dx_int _)
      · exact fin _ (dx_int _)
      · exact fin _ (dx_odd (bi := true) (bb := true) (TyX.base (.bl _)) (kit_ty (by decide +kernel)) (kit_ty (by decide +kernel)) (fun z => nomatch z) rfl)
      · exact fin _ (.inl ⟨rfl, rfl⟩)
      · exact fin _ (dx_odd (bi := false) (bb := false) (TyX.base (.str _)) (kit_ty (by decide +kernel)) (kit_ty (by decide +kernel)) (fun z => nomatch z) rfl)
      · exact fin _ (dx_int _)
      · exact fin _ (dx_int _)
      · exact fin _ (dx_odd (bi := false) (bb := false) (TyX.base (.tup (k46.old _ _ (s2 _ _ eT) (fun _ z => nomatch z)))) (kit_ty (by decide +kernel)) (kit_ty (by decide +kernel)) (fun z => nomatch z) rfl)
      · exact fin _ (dx_odd (IS G6 x1 _ _ ⟨dx1, k46.old _ _ g1 (fun _ z => nomatch z)⟩) OC.sInt OC.sBool (fun z => nomatch z) rfl)
      · exact fin _ (dx_int _)
    rintro σ' N' ⟨d', rfl, rd1, ow1, z3, hd1, hw1, wl1, w3, z30, z31, b3⟩
    clear hb hd hw wl
    -- the word
    refine ⟨fun σ' N' => ∃ (wv' : V) (v6 : Option V), σ' = [some (.ref p), some (.ref a), some (.int way), some (.int (j : Int)), some d', some wv', v6, none, none, none, none] ∧ Mid K C p H N' (z + 4) (2 * m + 61) d' wv', ?_, ?_⟩
    · have stay : ∃ (wv' : V) (v6 : Option V), [some (V.ref p), some (.ref a), some (.int way), some (.int (j : Int)), some d', some wv, none, none, none, none, none] = [some (V.ref p), some (.ref a), some (.int way), some (.int (j : Int)), some d', some wv', v6, none, none, none, none] ∧ Mid K C p H N' (z + 4) (2 * m + 61) d' wv' :=
        ⟨wv, none, rfl, rd1, ow1, z3, hd1, hw1, fun es e => by have := wl1 es e; omega, w3, z30, by omega, b3⟩
      refine ⟨_, rfl, rfl, _, rfl, ite2 (fun _ => ?_) (fun _ => iteF stay)⟩
      rcases hw1 with ⟨rfl, ty, hty, hk⟩ | ⟨wa, ws, es, rfl, rfl, hwa, hes, l500⟩
      · exact ⟨_, rfl, _, _, ty, _, false, rfl, ClsV.ty _, hty, hk, false, rfl, iteF stay⟩
      clear stay
      have lw := wl1 es rfl
      have les := hes.len
      refine ⟨_, rfl, _, _, _, _, true, rfl, ClsV.ty _, ty_tup hwa, kit_ty (by decide +kernel), true, rfl, iteT ?_⟩
      refine ⟨_, rfl, wa, _, rfl, .inr hwa, fun LW hLW => ⟨(by show 0 ≤ sizeLine; decide), fun E1 hE1 => ?_⟩⟩
      have s1 : Same N' (upd N' LW (.lst ws)) := same1 hLW
      have eLW : (upd N' LW (.lst ws) : Hp) LW = some (.lst ws) := upd_same
      generalize upd N' LW (.lst ws) = M1 at *
      have s2 : Same M1 (upd M1 E1 (.tup [])) := same1 hE1
      have eE : (upd M1 E1 (.tup []) : Hp) E1 = some (.tup []) := upd_same
      generalize upd M1 E1 (.tup []) = M2 at *
      refine fun x1 dx1 nx1 nd1 _ => ⟨x1, dx1, 1, 1, rfl, upd_same, by decide, by decide, fun e => absurd e (by decide), fun _ M3 g1 k1 => ⟨rfl, (by show 1 ≤ sizeLine; decide), fun T1 hT1 => ?_⟩⟩
      have s3 : Same M2 M3 := made_same (C := C) nx1 nd1 k1
      have s4 : Same M3 (upd M3 T1 (.tup [.ref x1])) := same1 hT1
      have eT1 : (upd M3 T1 (.tup [.ref x1]) : Hp) T1 = some (.tup [.ref x1]) := upd_same
      generalize upd M3 T1 (.tup [.ref x1]) = M4 at *
      refine ⟨T1, 60, _, rfl, rfl, SqT.of eT1, (fun z => nomatch z), by decide, by decide, (by show 1 ≤ 1000; decide), fun R1 hR1 => ?_⟩
      rw [show (List.replicate (60 : Int).toNat [V.ref x1]).flatten = List.replicate 60 (V.ref x1) from by simp]
      have s5 : Same M4 (upd M4 R1 (.tup (List.replicate 60 (V.ref x1)))) := same1 hR1
      have eR1 : (upd M4 R1 (.tup (List.replicate 60 (V.ref x1))) : Hp) R1 = some (.tup (List.replicate 60 (V.ref x1))) := upd_same
      generalize upd M4 R1 (.tup (List.replicate 60 (V.ref x1))) = M5 at *
      refine fun x2 dx2 nx2 nd2 _ => ⟨x2, dx2, 1, 1, rfl, upd_same, by decide, by decide, fun e => absurd e (by decide), fun _ M6 g2 k2 => ⟨rfl, (by show 1 ≤ sizeLine; decide), fun T2 hT2 => ?_⟩⟩
      have s6 : Same M5 M6 := made_same (C := C) nx2 nd2 k2
      have s7 : Same M6 (upd M6 T2 (.tup [.ref x2])) := same1 hT2
      have eT2 : (upd M6 T2 (.tup [.ref x2]) : Hp) T2 = some (.tup [.ref x2]) := upd_same
      generalize upd M6 T2 (.tup [.ref x2]) = M7 at *
      refine ⟨T2, 61, _, rfl, rfl, SqT.of eT2, (fun z => nomatch z), by decide, by decide, (by show 1 ≤ 1000; decide), fun R2 hR2 => ?_⟩
      rw [show (List.replicate (61 : Int).toNat [V.ref x2]).flatten = List.replicate 61 (V.ref x2) from by simp]
      have s8 : Same M7 (upd M7 R2 (.tup (List.replicate 61 (V.ref x2)))) := same1 hR2
      have eR2 : (upd M7 R2 (.tup (List.replicate 61 (V.ref x2))) : Hp) R2 = some (.tup (List.replicate 61 (V.ref x2))) := upd_same
      generalize upd M7 R2 (.tup (List.replicate 61 (V.ref x2))) = M8 at *
      refine ⟨_, rfl, (by show 1 ≤ sizeLine; decide), fun T3 hT3 => ?_⟩
      have s9 : Same M8 (upd M8 T3 (.tup [.int 1])) := same1 hT3
      have eT3 : (upd M8 T3 (.tup [.int 1]) : Hp) T3 = some (.tup [.int 1]) := upd_same
      generalize upd M8 T3 (.tup [.int 1]) = M9 at *
      have s59 := s6.trans (s7.trans (s8.trans s9))
      have s39 := s4.trans (s5.trans s59)
      have s19 := s1.trans (s2.trans (s3.trans s39))
      refine catA_to (Same.tup s19 hwa) (SqT.of eT3) (Nat.le_trans (show ws.length + 1 ≤ 501 by omega) (by decide)) fun Ma C3 sA hC3 => ⟨(by show 6 ≤ sizeLine; decide), fun S hS => ?_⟩
      have sB : Same Ma (upd Ma S (.lst [.ref LW, .ref E1, .non, .ref R1, .ref R2, .ref C3])) := same1 hS
      have eS : (upd Ma S (.lst [.ref LW, .ref E1, .non, .ref R1, .ref R2, .ref C3]) : Hp) S = some (.lst [.ref LW, .ref E1, .non, .ref R1, .ref R2, .ref C3]) := upd_same
      generalize upd Ma S (.lst [.ref LW, .ref E1, .non, .ref R1, .ref R2, .ref C3]) = Mb at *
      have s1b := s19.trans (sA.trans sB)
      refine ⟨_, rfl, _, rfl, _, rfl, (by show 1 ≤ sizeLine; decide), fun T4 hT4 => ?_⟩
      have sC : Same Mb (upd Mb T4 (.tup [.non])) := same1 hT4
      have eT4 : (upd Mb T4 (.tup [.non]) : Hp) T4 = some (.tup [.non]) := upd_same
      generalize upd Mb T4 (.tup [.non]) = Mc at *
      refine catA_to (Same.tup (s1b.trans sC) hwa) (SqT.of eT4) (Nat.le_trans (show ws.length + 1 ≤ 501 by omega) (by decide)) fun Md C4 sD hC4 => ⟨_, rfl, _, rfl, ?_⟩
      have s1d := s1b.trans (sC.trans sD)
      refine catA_to (Same.tup s1d hwa) (Same.tup s1d hwa) (Nat.le_trans (show ws.length + ws.length ≤ 1000 by omega) (by decide)) fun Me C5 sE hC5 => ⟨(by show 2 ≤ sizeLine; decide), fun L2 hL2 => ?_⟩
      have sF : Same Me (upd Me L2 (.lst [.ref C4, .ref C5])) := same1 hL2
      have eL2 : (upd Me L2 (.lst [.ref C4, .ref C5]) : Hp) L2 = some (.lst [.ref C4, .ref C5]) := upd_same
      generalize upd Me L2 (.lst [.ref C4, .ref C5]) = Mf at *
      have sbf := sC.trans (sD.trans (sE.trans sF))
      refine ⟨S, L2, _, _, rfl, rfl, sbf _ _ eS, eL2, (by show 8 ≤ sizeLine; decide), fun L hL => ?_⟩
      have s1f := s1b.trans sbf
      have wF := w3.same s1f
      have nL := wF.ne hL
      refine ⟨p, L, _, z3, rfl, WellAt.same wF (same1 hL), z30, by omega, upd_same, nL, (by show 0 < 8; decide), (by show 8 < 1000; decide), fun G6 z4 x b6 w6 z40 z41 hm => ?_⟩
      have bF6 : But p Mf G6 := But.trans (same_but (same1 hL)) b6
      have kF := kp_but bF6 wF w6
      have kAll := (kp_same s1f).trans kF
      have hes6 : All2 (ElX K C G6) ws es := hes.mono fun _ _ _ _ r => kAll.el r
      have fin : ∀ ow', WdX K C G6 x ow' → (∀ es', ow' = some es' → es'.length ≤ 2 * m + 61) → ∃ (wv' : V) (v6 : Option V), [some (V.ref p), some (.ref a), some (.int way), some (.int (j : Int)), some d', some x, some (.ref S), none, none, none, none] = [some (V.ref p), some (.ref a), some (.int way), some (.int (j : Int)), some d', some wv', v6, none, none, none, none] ∧ Mid K C p H G6 (z + 4) (2 * m + 61) d' wv' :=
        fun ow' h1 h2 => ⟨x, _, rfl, rd1, ow', z4, kAll.day hd1, h1, h2, w6, z40, by omega, b3.trans ((same_but s1f).trans bF6)⟩
      have odd1 : ElX K C G6 (.int 1) none := .inr ⟨rfl, _, TyX.base (.int 1), OC.int⟩
      have oddN : ElX K C G6 .non none := .inr ⟨rfl, _, TyX.base .non, OC.non⟩
      have sh1 : ElX K C G6 (.ref x1) (some (lowT 1 1, lowB 1 1)) := .inl ⟨_, x1, rfl, rfl, dx1, kF.old _ _ ((s39.trans (sA.trans (sB.trans sbf))) _ _ g1) (fun _ z => nomatch z)⟩
      have sh2 : ElX K C G6 (.ref x2) (some (lowT 1 1, lowB 1 1)) := .inl ⟨_, x2, rfl, rfl, dx2, kF.old _ _ ((s7.trans (s8.trans (s9.trans (sA.trans (sB.trans sbf))))) _ _ g2) (fun _ z => nomatch z)⟩
      have lenS : ∀ {l : List EO} {k : Nat}, l.length = k → k ≤ 2 * m + 61 → ∀ es', some l = some es' → es'.length ≤ 2 * m + 61 := fun {l k} e1 e2 es' e => by
        rw [← Option.some.inj e, e1]
        exact e2
      have hm : x = .ref LW ∨ x = .ref E1 ∨ x = .non ∨ x = .ref R1 ∨ x = .ref R2 ∨ x = .ref C3 ∨ x = .ref C4 ∨ x = .ref C5 := by
        simpa only [List.mem_append, List.mem_cons, List.not_mem_nil, or_false, or_assoc] using hm
      rcases hm with rfl | rfl | rfl | rfl | rfl | rfl | rfl | rfl
      · obtain ⟨ys, e'⟩ := kF.lst _ _ ((s2.trans (s3.trans (s39.trans (sA.trans (sB.trans sbf))))) _ _ eLW)
        exact fin none (wd_none (TyX.base (.lst e')) (kit_ty (by decide +kernel))) (fun _ z => nomatch z)
      · exact fin (some []) (wd_tup (SqT.of (kF.old _ _ ((s3.trans (s39.trans (sA.trans (sB.trans sbf)))) _ _ eE) (fun _ z => nomatch z))) .nil (Nat.zero_le _)) (lenS rfl (Nat.zero_le _))
      · exact fin none (wd_none (TyX.base .non) (kit_ty (by decide +kernel))) (fun _ z => nomatch z)
      · exact fin (some (List.replicate 60 _)) (wd_tup (SqT.of (kF.old _ _ ((s59.trans (sA.trans (sB.trans sbf))) _ _ eR1) (fun _ z => nomatch z))) (All2.repN sh1 60) (by rw [List.length_replicate]; decide)) (lenS (List.length_replicate ..) (by omega))
      · exact fin (some (List.replicate 61 _)) (wd_tup (SqT.of (kF.old _ _ ((s9.trans (sA.trans (sB.trans sbf))) _ _ eR2) (fun _ z => nomatch z))) (All2.repN sh2 61) (by rw [List.length_replicate]; decide)) (lenS (List.length_replicate ..) (by omega))
      · exact fin (some (es ++ [none])) (wd_tup (kF.keep.tup (Same.tup (sB.trans sbf) hC3)) (hes6.appN (All2.oneN odd1)) (by rw [List.length_append, List.length_singleton]; omega)) (lenS (k := es.length + 1) (by rw [List.length_append]; rfl) (by omega))
      · exact fin (some (es ++ [none])) (wd_tup (kF.keep.tup (Same.tup (sE.trans sF) hC4)) (hes6.appN (All2.oneN oddN)) (by rw [List.length_append, List.length_singleton]; omega)) (lenS (k := es.length + 1) (by rw [List.length_append]; rfl) (by omega))
      · exact fin (some (es ++ es)) (wd_tup (kF.keep.tup (Same.tup sF hC5)) (hes6.appN hes6) (by rw [List.length_append]; omega)) (lenS (k := es.length + es.length) (List.length_append ..) (by omega))
    rintro σ' N2 ⟨wv2, v6, rfl, rd2, ow2, z4, hd2, hw2, wl2, w4, z40, z41, b4⟩
    clear hw1 hd1 wl1
    refine ⟨fun σ' N' => ∃ (wv' : V) (v7 v8 : Option V), σ' = [some (.ref p), some (.ref a), some (.int way), some (.int (j : Int)), some d', some wv', v6, v7, v8, none, none] ∧ Mid K C p H N' (z + 6) (2 * m + 61) d' wv', ?_, ?_⟩
    · have stay : ∃ (wv' : V) (v7 v8 : Option V), [some (V.ref p), some (.ref a), some (.int way), some (.int (j : Int)), some d', some wv2, v6, none, none, none, none] = [some (V.ref p), some (.ref a), some (.int way), some (.int (j : Int)), some d', some wv', v6, v7, v8, none, none] ∧ Mid K C p H N2 (z + 6) (2 * m + 61) d' wv' :=
        ⟨wv2, none, none, rfl, rd2, ow2, z4, hd2, hw2, wl2, w4, z40, by omega, b4⟩
      refine ⟨_, rfl, rfl, _, rfl, ite2 (fun _ => ?_) (fun _ => iteF stay)⟩
      rcases hw2 with ⟨rfl, ty, hty, hk⟩ | ⟨wa, ws, es, rfl, rfl, hwa, hes, l500⟩
      · exact ⟨_, rfl, _, _, ty, _, false, rfl, ClsV.ty _, hty, hk, false, rfl, iteF (iteF stay)⟩
      have lw := wl2 es rfl
      have les := hes.len
      refine ⟨_, rfl, _, _, _, _, true, rfl, ClsV.ty _, ty_tup hwa, kit_ty (by decide +kernel), true, rfl, iteT ?_⟩
      refine ⟨_, rfl, (by show 0 ≤ sizeLine; decide), fun E1 hE1 => ?_⟩
      have s1 : Same N2 (upd N2 E1 (.tup [])) := same1 hE1
      have eE : (upd N2 E1 (.tup []) : Hp) E1 = some (.tup []) := upd_same
      generalize upd N2 E1 (.tup []) = M1 at *
      refine ⟨wa, E1, ws, rfl, rfl, Same.tup s1 hwa, SqT.of eE, _, rfl, ?_⟩
      by_cases w0 : ws.length = 0
      · rw [show (!ws.isEmpty) = false from by rw [List.length_eq_zero_iff.mp w0]; rfl]
        refine iteF ⟨.ref wa, none, none, rfl, rd2, some es, z4, (kp_same s1).day hd2, (kp_same s1).wd (wd_tup hwa hes l500), wl2, w4.same s1, z40, by omega, b4.trans (same_but s1)⟩
      rw [show (!ws.isEmpty) = true from by
        cases ws with
        | nil => exact absurd rfl w0
        | cons _ _ => rfl]
      clear stay
      refine iteT ⟨_, rfl, _, rfl, wa, _, rfl, .inr (Same.tup s1 hwa), ?_⟩
      refine ⟨p, _, z4, rfl, w4.same s1, by omega, by omega, z40, by omega, fun M2 sp z5 b2 w5 z50 z51 sp0 sp1 => ?_⟩
      have b42 : But p N2 M2 := (same_but s1).trans b2
      have k42 := kp_but b42 w4 w5
      obtain ⟨i, rfl⟩ : ∃ i : Nat, sp = (i : Int) := ⟨sp.toNat, by omega⟩
      have il : i < ws.length := by omega
      refine ⟨_, rfl, (by show 2 ≤ sizeLine; decide), fun T hT => ⟨rfl, ?_⟩⟩
      have s3 : Same M2 (upd M2 T (.tup [.int 1, .int 2])) := same1 hT
      have eT : (upd M2 T (.tup [.int 1, .int 2]) : Hp) T = some (.tup [.int 1, .int 2]) := upd_same
      generalize upd M2 T (.tup [.int 1, .int 2]) = M3 at *
      refine fun x1 dx1 nx1 nd1 _ => ⟨x1, dx1, 0, 1, rfl, upd_same, by decide, by decide, fun e => absurd e (by decide), fun _ M4 g1 k1 => ⟨rfl, (by show 6 ≤ sizeLine; decide), fun L hL => ?_⟩⟩
      have s4 : Same M3 M4 := made_same (C := C) nx1 nd1 k1
      have s34 := s3.trans s4
      have wF := w5.same s34
      have nL := wF.ne hL
      refine ⟨p, L, _, z5, rfl, WellAt.same wF (same1 hL), z50, by omega, upd_same, nL, (by show 0 < 6; decide), (by show 6 < 1000; decide), fun G6 z6 x b6 w6 z60 z61 hm => ?_⟩
      have bF6 : But p M4 G6 := But.trans (same_but (same1 hL)) b6
      have kF := kp_but bF6 wF w6
      have k2 := (kp_same s34).trans kF
      have kAll := k42.trans k2
      have hwa6 := kAll.keep.tup hwa
      have hes6 : All2 (ElX K C G6) ws es := hes.mono fun _ _ _ _ r => kAll.el r
      have odd : ∃ eo, ElX K C G6 x eo := by
        simp only [List.mem_cons, List.not_mem_nil, or_false] at hm
        rcases hm with rfl | rfl | rfl | rfl | rfl | rfl
        · exact ⟨none, .inr ⟨rfl, _, TyX.base .non, OC.non⟩⟩
        · exact ⟨none, .inr ⟨rfl, _, TyX.base (.int _), OC.int⟩⟩
        · exact ⟨none, .inr ⟨rfl, _, TyX.base (.tup (kF.old _ _ (s4 _ _ eT) (fun _ z => nomatch z))), OC.tup⟩⟩
        · exact ⟨none, .inr ⟨rfl, _, TyX.base (.str _), OC.str⟩⟩
        · exact ⟨none, .inr ⟨rfl, _, TyX.base (.bl _), OC.bl⟩⟩
        · exact ⟨some (lowT 0 1, lowB 0 1), .inl ⟨(lowT 0 1, lowB 0 1), x1, rfl, rfl, dx1, kF.old _ _ g1 (fun _ z => nomatch z)⟩⟩
      obtain ⟨eo, odd⟩ := odd
      refine ⟨_, rfl, _, rfl, _, rfl, ?_⟩
      refine slA_to hwa6 fun P1 r1 t1 hr1 => ⟨_, rfl, (by show 1 ≤ sizeLine; decide), fun T2 hT2 => ?_⟩
      rw [cut_to] at hr1
      have t2 : Same P1 (upd P1 T2 (.tup [x])) := same1 hT2
      have eT2 : (upd P1 T2 (.tup [x]) : Hp) T2 = some (.tup [x]) := upd_same
      generalize upd P1 T2 (.tup [x]) = P2 at *
      refine catA_to (Same.tup t2 hr1) (SqT.of eT2) (Nat.le_trans (show (ws.take i).length + 1 ≤ 501 by rw [List.length_take]; omega) (by decide)) fun P3 r3 t3 hr3 => ?_
      have t13 := t1.trans (t2.trans t3)
      refine ⟨_, rfl, _, rfl, _, _, rfl, rfl, _, rfl, ?_⟩
      simp only [tNoPart]
      refine slA_to (Same.tup t13 hwa6) fun P4 r4 t4 hr4 => ?_
      rw [cut_nat il] at hr4
      refine catA_to (Same.tup t4 hr3) hr4 (Nat.le_trans (show (ws.take i ++ [x]).length + (ws.drop (i + 1)).length ≤ 1002 by rw [List.length_append, List.length_take, List.length_drop, List.length_singleton]; omega) (by decide)) fun P5 r5 t5 hr5 => ?_
      have t15 := t13.trans (t4.trans t5)
      have kE := kp_same t15
      refine ⟨.ref r5, _, _, rfl, rd2, some (es.take i ++ [eo] ++ es.drop (i + 1)), z6, kE.day (kAll.day hd2), ?_, fun es' e => ?_, w6.same t15, z60, by omega, b4.trans (b42.trans ((same_but s34).trans (bF6.trans (same_but t15))))⟩
      · refine wd_tup hr5 ((((hes6.takeN i).appN (All2.oneN odd)).appN (hes6.dropN (i + 1))).mono fun _ _ _ _ r => kE.el r) ?_
        rw [List.length_append, List.length_append, List.length_take, List.length_drop, List.length_singleton]
        omega
      · rw [← Option.some.inj e, List.length_append, List.length_append, List.length_take, List.length_drop, List.length_singleton]
        omega
    rintro σ' N3 ⟨wv3, v7, v8, rfl, rd3, ow3, z5, hd3, hw3, wl3, w5, z50, z51, b5⟩
    clear hw2 hd2 wl2
    -- the item
    refine ⟨_, rfl, _, rfl, _, rfl, (by show 2 ≤ sizeLine; decide), fun T1 hT1 => ⟨_, rfl, _, rfl, (by show 2 ≤ sizeLine; decide), fun T2 hT2 => ⟨_, rfl, _, rfl, (by show 2 ≤ sizeLine; decide), fun T3 hT3 => ⟨_, rfl, _, rfl, (by show 2 ≤ sizeLine; decide), fun L4 hL4 => ⟨_, rfl, _, rfl, (by show 3 ≤ sizeLine; decide), fun T5 hT5 => ⟨_, rfl, (by show 1 ≤ sizeLine; decide), fun T6 hT6 => ⟨(by show 6 ≤ sizeLine; decide), fun L hL => ?_⟩⟩⟩⟩⟩⟩⟩
    have s1 : Same N3 (upd N3 T1 (.tup [d', wv3])) := same1 hT1
    have e1 : (upd N3 T1 (.tup [d', wv3]) : Hp) T1 = some (.tup [d', wv3]) := upd_same
    generalize upd N3 T1 (.tup [d', wv3]) = M1 at *
    have s2 : Same M1 (upd M1 T2 (.tup [d', wv3])) := same1 hT2
    have e2 : (upd M1 T2 (.tup [d', wv3]) : Hp) T2 = some (.tup [d', wv3]) := upd_same
    generalize upd M1 T2 (.tup [d', wv3]) = M2 at *
    have s3 : Same M2 (upd M2 T3 (.tup [d', wv3])) := same1 hT3
    have e3 : (upd M2 T3 (.tup [d', wv3]) : Hp) T3 = some (.tup [d', wv3]) := upd_same
    generalize upd M2 T3 (.tup [d', wv3]) = M3 at *
    have s4 : Same M3 (upd M3 L4 (.lst [d', wv3])) := same1 hL4
    have e4 : (upd M3 L4 (.lst [d', wv3]) : Hp) L4 = some (.lst [d', wv3]) := upd_same
    generalize upd M3 L4 (.lst [d', wv3]) = M4 at *
    have s5 : Same M4 (upd M4 T5 (.tup [d', wv3, .int 0])) := same1 hT5
    have e5 : (upd M4 T5 (.tup [d', wv3, .int 0]) : Hp) T5 = some (.tup [d', wv3, .int 0]) := upd_same
    generalize upd M4 T5 (.tup [d', wv3, .int 0]) = M5 at *
    have s6 : Same M5 (upd M5 T6 (.tup [d'])) := same1 hT6
    have e6 : (upd M5 T6 (.tup [d']) : Hp) T6 = some (.tup [d']) := upd_same
    generalize upd M5 T6 (.tup [d']) = M6 at *
    have s46 := s5.trans s6
    have s36 := s4.trans s46
    have s26 := s3.trans s36
    have s16 := s1.trans (s2.trans s26)
    have wF := w5.same s16
    have nL := wF.ne hL
    refine ⟨p, L, _, z5, rfl, WellAt.same wF (same1 hL), z50, by omega, upd_same, nL, (by show 0 < 6; decide), (by show 6 < 1000; decide), fun G6 z6 x b6 w6 z60 z61 hm => ?_⟩
    have bF6 : But p M6 G6 := But.trans (same_but (same1 hL)) b6
    have kF := kp_but bF6 wF w6
    have kAll := (kp_same s16).trans kF
    have hd6 := kAll.day hd3
    have hw6 := kAll.wd hw3
    have pair : ∀ {b : Addr} {G7 : Hp}, Kp G6 G7 → G7 b = some (.tup [d', wv3]) → ItX K C G7 (.ref b) (some (d', rd3, ow3)) := fun {b G7} k e => .inr (.inr ⟨b, d', wv3, rd3, ow3, rfl, rfl, SqT.of e, k.day hd6, k.wd hw6⟩)
    have good : ∀ d rd es, (some (d', rd3, ow3) : IO_) = some (d, rd, some es) → es.length ≤ 2 * m + 61 := fun d rd es e => by
      injection e with e
      injection e with _ e
      injection e with _ e
      exact wl3 es e
    have item : ∃ o, ItX K C G6 x o ∧ ∀ d rd es, o = some (d, rd, some es) → es.length ≤ 2 * m + 61 := by
      simp only [List.mem_cons, List.not_mem_nil, or_false] at hm
      rcases hm with rfl | rfl | rfl | rfl | rfl | rfl
      · exact ⟨_, pair ⟨fun _ _ e _ => e, fun _ xs e => ⟨xs, e⟩⟩ (kF.old _ _ ((s2.trans s26) _ _ e1) (fun _ z => nomatch z)), good⟩
      · exact ⟨_, pair ⟨fun _ _ e _ => e, fun _ xs e => ⟨xs, e⟩⟩ (kF.old _ _ (s26 _ _ e2) (fun _ z => nomatch z)), good⟩
      · exact ⟨_, pair ⟨fun _ _ e _ => e, fun _ xs e => ⟨xs, e⟩⟩ (kF.old _ _ (s36 _ _ e3) (fun _ z => nomatch z)), good⟩
      · obtain ⟨ys, e'⟩ := kF.lst _ _ (s46 _ _ e4)
        exact ⟨none, it_none (TyX.base (.lst e')) (kit_ty (by decide +kernel)), fun _ _ _ z => nomatch z⟩
      · exact ⟨none, .inr (.inl ⟨rfl, T5, _, rfl, SqT.of (kF.old _ _ (s6 _ _ e5) (fun _ z => nomatch z)), by show 3 ≠ 2; decide⟩), fun _ _ _ z => nomatch z⟩
      · exact ⟨none, .inr (.inl ⟨rfl, T6, _, rfl, SqT.of (kF.old _ _ e6 (fun _ z => nomatch z)), by show 1 ≠ 2; decide⟩), fun _ _ _ z => nomatch z⟩
    obtain ⟨io2, it6, wl6⟩ := item
    have b06 : But p H G6 := b5.trans ((same_but s16).trans bF6)
    refine ⟨fun σ' N' => ∃ (ov : V) (oo : IO_), σ' = [some (.ref p), some (.ref a), some (.int way), some (.int (j : Int)), some d', some wv3, v6, v7, v8, some ov, none] ∧ ItX K C N' ov oo ∧ (∀ d rd es, oo = some (d, rd, some es) → es.length ≤ 2 * m + 61) ∧ Same G6 N', ?_, ?_⟩
    · refine ⟨_, rfl, _, _, rfl, rfl, _, rfl, ite2 (fun _ => ?_) (fun _ => ⟨x, io2, rfl, it6, wl6, Same.refl _⟩)⟩
      refine ⟨_, rfl, _, rfl, (by show 2 ≤ sizeLine; decide), fun T7 hT7 => ?_⟩
      exact ⟨.ref T7, _, rfl, pair (kp_same (same1 hT7)) upd_same, good, same1 hT7⟩
    rintro σ' N4 ⟨ov, oo, rfl, it7, wl7, s7⟩
    have b07 : But p H N4 := b06.trans (same_but s7)
    have w7 := w6.same s7
    have ha7 : N4 a = some (.lst xs) := b07 a _ np ha
    have hx7 : All2 (ItX K C N4) xs os := hx.mono fun _ _ _ _ r => (kp_but b07 hp w7).it r
    refine ⟨_, rfl, _, rfl, _, rfl, a, _, rfl, SqL.of ha7, fun A1' hA1 => ?_⟩
    rw [cut_to]
    have t1 : Same N4 (upd N4 A1' (.lst (xs.take j))) := same1 hA1
    have eA1 : (upd N4 A1' (.lst (xs.take j)) : Hp) A1' = some (.lst (xs.take j)) := upd_same
    generalize upd N4 A1' (.lst (xs.take j)) = P1 at *
    refine ⟨_, rfl, (by show 1 ≤ sizeLine; decide), fun A2' hA2 => ?_⟩
    have t2 : Same P1 (upd P1 A2' (.lst [ov])) := same1 hA2
    have eA2 : (upd P1 A2' (.lst [ov]) : Hp) A2' = some (.lst [ov]) := upd_same
    generalize upd P1 A2' (.lst [ov]) = P2 at *
    have lt : (xs.take j).length = j := by rw [List.length_take]; omega
    refine ⟨A1', A2', _, _, rfl, rfl, t2 _ _ eA1, eA2, Nat.le_trans (show (xs.take j).length + 1 ≤ 201 by omega) (by decide), fun A3 hA3 => ?_⟩
    have t3 : Same P2 (upd P2 A3 (.lst (xs.take j ++ [ov]))) := same1 hA3
    have eA3 : (upd P2 A3 (.lst (xs.take j ++ [ov])) : Hp) A3 = some (.lst (xs.take j ++ [ov])) := upd_same
    generalize upd P2 A3 (.lst (xs.take j ++ [ov])) = P3 at *
    have t13 := t1.trans (t2.trans t3)
    refine ⟨_, rfl, _, rfl, _, _, rfl, rfl, _, rfl, ?_⟩
    simp only [tNoPart]
    refine ⟨a, _, rfl, SqL.of (t13 _ _ ha7), fun A4 hA4 => ?_⟩
    rw [cut_nat jx]
    have t4 : Same P3 (upd P3 A4 (.lst (xs.drop (j + 1)))) := same1 hA4
    have eA4 : (upd P3 A4 (.lst (xs.drop (j + 1))) : Hp) A4 = some (.lst (xs.drop (j + 1))) := upd_same
    generalize upd P3 A4 (.lst (xs.drop (j + 1))) = P4 at *
    have ld : (xs.drop (j + 1)).length ≤ 200 := by rw [List.length_drop]; omega
    have ll : (xs.take j ++ [ov]).length ≤ 201 := by rw [List.length_append, lt, List.length_singleton]; omega
    refine ⟨A3, A4, _, _, rfl, rfl, t4 _ _ eA3, eA4, Nat.le_trans (show (xs.take j ++ [ov]).length + (xs.drop (j + 1)).length ≤ 401 by omega) (by decide), fun B hB => ?_⟩
    have w8 := w7.same (t13.trans t4)
    have nB := w8.ne hB
    have t5 : Same P4 (upd P4 B (.lst (xs.take j ++ [ov] ++ xs.drop (j + 1)))) := same1 hB
    have eB : (upd P4 B (.lst (xs.take j ++ [ov] ++ xs.drop (j + 1))) : Hp) B = some (.lst (xs.take j ++ [ov] ++ xs.drop (j + 1))) := upd_same
    have w9 := w8.same t5
    generalize upd P4 B (.lst (xs.take j ++ [ov] ++ xs.drop (j + 1))) = P5 at *
    have t15 := t13.trans (t4.trans t5)
    have kE := kp_same t15
    refine kq P5 (.ref B) (some (os.take j ++ [oo] ++ os.drop (j + 1))) z6 (b07.trans (same_but t15)) w9 z60 (by omega) (gv_lst nB eB ((((hx7.takeN j).appN (All2.oneN it7)).appN (hx7.dropN (j + 1))).mono fun _ _ _ _ r => kE.it r) ?_) (fun o e => ?_)
    · rw [List.length_append, List.length_append, lt, List.length_drop, List.length_singleton]
      omega
    · obtain rfl := Option.some.inj e
      refine ⟨by rw [List.length_append, List.length_append, List.length_take, List.length_drop, List.length_singleton]; omega, fun oi ho d rd es e => ?_⟩
      rcases List.mem_append.mp ho with q | q
      · rcases List.mem_append.mp q with q | q
        · have := sw oi (List.mem_of_mem_take q) d rd es e
          omega
        · rw [List.mem_singleton.mp q] at e
          exact wl7 d rd es e
      · have := sw oi (List.mem_of_mem_drop q) d rd es e
        omega
end
end K11

namespace K11
open PySem PySem.Spec PyProof.Rows L2
/-- the number of the stretch of a day -/
def NumOf (told : List (Option Int × W2)) (day : Int) (k : Nat) : Prop := k < told.length ∧ bAt told k ≤ day ∧ ∀ j, k < j → j < told.length → day < bAt told j
def spNumOn (K : PySem.W.Frag) (C : Addr) : Sp := fun vs H Q _ => ∃ (l : Addr) (day : Int) (ss : List Addr) (told : List (Option Int × W2)), vs = [.ref l, .int day] ∧ SqL K H l (ss.map V.ref) ∧ ss.length = told.length ∧ Told told ∧
  (∀ (i : Nat) (s : Addr), ss[i]? = some s → SpanOf K C H told i s) ∧ 0 ≤ day ∧
  ∀ k : Nat, NumOf told day k → Q (.int k) H
def gapOf : L2.St → Nat
  | [_, _, some (.int a), some (.int b), _] => (b - a).toNat
  | _ => 0
section
variable {P : Program} {w : World} {K : PySem.W.Frag} {mg : Str → Option Value} {base : Heap}
abbrev numOnN : List Str := ["spans", "day", "first", "last", "middle"]
theorem scNumOn : FnScope numOnN ["spans", "day"] (defScope d_number_on) := ⟨rfl, rfl, rfl, by decide +kernel, rfl, by decide +kernel, by decide +kernel⟩
theorem ok_num_on {f C : Addr} {fd : FuncData} (F : Fun K "number_on" "number_on" d_number_on f fd) (B : TxtB mg) : FnOk P w K mg base CX0 1 f fd ["spans", "day"] (spNumOn K C) := by
  refine F.ok scNumOn (fun vs H Q E h => ?_) (fun cdv A outer s H vs Q E hr h => ?_)
  · obtain ⟨l, day, ss, told, rfl, _⟩ := h
    rfl
  · obtain ⟨l, day, ss, told, rfl, hl, le, ok, hsp, d0, kq⟩ := h
    refine ⟨_, pss_cons (ps_par (i := 2) (j := 3) rfl scNumOn.nd rfl rfl (by decide) rfl rfl (pa_cons pe_int (pa_cons (pe_op op_sub (pe_callB call_len_seq (by rfl) B.len PySem.boot_len (pa_cons (pv 0) pa_nil)) pe_int) pa_nil)) (by rfl))
      (pss_cons (ps_while PassesOwn.never (pt_cmpR op_lt (pv 2) (pv 3) (nomark _))
        (pss_cons (ps_set (i := 4) scNumOn.nd rfl (Or.inl rfl) (pe_op op_fdiv (pe_op op_add (pe_op op_add (pv 2) (pv 3)) pe_int) pe_int))
        (pss_one (ps_if (pt_cmpR op_le (pe_ix ix_tup (pe_ix ix_list (pv 0) (pv 4) (fun _ _ => rfl)) pe_int (fun _ _ => rfl)) (pv 1) (nomark _))
          (pss_one (ps_set (i := 2) scNumOn.nd rfl (Or.inl rfl) (pv 4)))
          (pss_one (ps_set (i := 3) scNumOn.nd rfl (Or.inl rfl) (pe_op op_sub (pv 4) pe_int)))))))
      (pss_one (ps_ret (pv 2)))), ?_⟩
    have lp : (ss.map V.ref).length = told.length := by rw [List.length_map, le]
    have l1 := ok.pos
    have l60 := ok.few
    refine ⟨_, rfl, l, _, rfl, .inl hl, _, _, rfl, rfl, _, _, rfl, ?_⟩
    rw [lp]
    refine while_by (fun σ H' => H' = H ∧ ∃ (a b : Nat) (v : Option V), σ = [some (.ref l), some (.int day), some (.int (a : Int)), some (.int (b : Int)), v] ∧ a ≤ b ∧ b < told.length ∧ bAt told a ≤ day ∧ ∀ j, b < j → j < told.length → day < bAt told j) (fun σ _ => gapOf σ) ⟨rfl, 0, told.length - 1, none, ?_, by omega, by omega, (by rw [bAt_zero]; exact d0), fun j h1 h2 => absurd h1 (by omega)⟩ ?_ ?_
    · rw [show ((told.length - 1 : Nat) : Int) = (told.length : Int) - 1 from by omega]
      rfl
    · rintro σ H' ⟨rfl, a, b, v, rfl, ab, bl, ha, hb⟩
      refine ⟨_, rfl, _, rfl, _, _, rfl, rfl, _, rfl, ?_⟩
      by_cases c : a < b
      · rw [decide_eq_true (show (a : Int) < (b : Int) by omega)]
        refine iteT ?_
        refine ⟨_, rfl, _, rfl, _, _, rfl, rfl, _, _, rfl, rfl, _, _, rfl, rfl, ⟨by decide, by decide⟩, ?_⟩
        obtain ⟨m, hm⟩ : ∃ m : Nat, ((a : Int) + (b : Int) + 1) / 2 = (m : Int) := ⟨(a + b + 1) / 2, by omega⟩
        show gName 4 (V.int (((a : Int) + (b : Int) + 1) / 2)) _ _ _
        rw [hm]
        have m1 : a < m ∧ m ≤ b := by omega
        have hs : m < ss.length := by omega
        obtain ⟨x, hx, wa, q1, _⟩ := hsp m _ (List.getElem?_eq_getElem hs)
        refine ⟨_, rfl, _, rfl, l, _, _, .ref ss[m], rfl, rfl, hl, at_k (by omega) (by rw [List.getElem?_map, Int.toNat_natCast, List.getElem?_eq_getElem hs]; rfl), ?_⟩
        refine ⟨_, _, _, .int (bAt told m), rfl, rfl, q1, at_k (by decide) rfl, _, rfl, _, _, rfl, rfl, _, rfl, ?_⟩
        refine ite2 (fun h => ?_) (fun h => ?_)
        · have h : bAt told m ≤ day := of_decide_eq_true h
          refine ⟨_, rfl, ⟨rfl, m, b, _, rfl, m1.2, bl, h, hb⟩, ?_⟩
          show ((b : Int) - (m : Int)).toNat < ((b : Int) - (a : Int)).toNat
          omega
        · have h : ¬ bAt told m ≤ day := fun z => h (decide_eq_true z)
          refine ⟨_, rfl, _, _, rfl, rfl, ⟨rfl, a, m - 1, some (.int (m : Int)), ?_, by omega, by omega, ha, fun j h1 h2 => ?_⟩, ?_⟩
          · rw [show ((m - 1 : Nat) : Int) = (m : Int) - 1 from by omega]
            rfl
          · have := bAt_mono ok (j - m) m (by omega)
            rw [show m + (j - m) = j from by omega] at this
            omega
          · show ((m : Int) - 1 - (a : Int)).toNat < ((b : Int) - (a : Int)).toNat
            omega
      · rw [decide_eq_false (show ¬ (a : Int) < (b : Int) by omega)]
        refine iteF ?_
        have e : a = b := by omega
        subst e
        exact ⟨_, rfl, kq a ⟨bl, ha, hb⟩⟩
    · intro σ H' Q1 Q2 m h
      obtain ⟨v, e, v', e', i, j, e1, e2, k, ek, q⟩ := h
      exact ⟨v, e, v', e', i, j, e1, e2, k, ek, m _ _ q⟩
end
end K11

namespace K11
open PySem PySem.Spec PyProof.Rows L2
def spOn (K : PySem.W.Frag) (C CC CD : Addr) : Sp := fun vs H Q E => ∃ (c : Addr) (v : V) (told : List (Option Int × W2)) (bi bb : Bool), vs = [.ref c, v] ∧ CourseAt K C CC H c told ∧ Kind K H v bi bb ∧
  ((∃ i, v = .int i ∧ bi = true ∧ bb = false ∧ 0 ≤ i ∧ i ≤ 1000000000000000 ∧ ∀ (H' : Hp) (p : Addr) (x : Int × Int), Same H H' → onV told i = some x → ShAt C H' p x.1 x.2 → Q (.ref p) H') ∨
    (((∃ i, v = .int i ∧ bi = true ∧ bb = false ∧ ¬ (0 ≤ i ∧ i ≤ 1000000000000000)) ∨ (bi && !bb) = false) ∧ E (.ref CD) none H))
section
variable {P : Program} {w : World} {K : PySem.W.Frag} {mg : Str → Option Value} {base : Heap}
theorem scOn : FnScope ["course", "day"] ["course", "day"] (defScope d_on) := ⟨rfl, rfl, rfl, by decide +kernel, rfl, by decide +kernel, by decide +kernel⟩
theorem ok_on {f fD fS fH C CC CD : Addr} {fd fdD fdS fdH : FuncData} (F : Fun K "on" "on" d_on f fd) (TC : CrsC K CC) (TD : ErrC K mg "NoDay" CD)
    (GD : FnOk P w K mg base CX0 3 fD fdD ["thing"] (spDay K)) (mD : mg "is_day" = some (.ref fD)) (kD : PySem.W.keepIn K (.ref fD) = true) (bD : Binds K fdD ["thing"] [])
    (GS : FnOk P w K mg base CX0 1 fS fdS ["spans", "day"] (spNumOn K C)) (mS : mg "number_on" = some (.ref fS)) (kS : PySem.W.keepIn K (.ref fS) = true) (bS : Binds K fdS ["spans", "day"] [])
    (GH : FnOk P w K mg base CX0 1 fH fdH ["span", "day"] (spShareOn K C)) (mH : mg "share_on" = some (.ref fH)) (kH : PySem.W.keepIn K (.ref fH) = true) (bH : Binds K fdH ["span", "day"] []) :
    FnOk P w K mg base (L2.CX P w) 4 f fd ["course", "day"] (spOn K C CC CD) := by
  refine F.okX scOn (fun vs H Q E h => ?_) (fun cdv A outer s H vs Q E hr h => ?_)
  · obtain ⟨c, v, _, _, _, rfl, _⟩ := h
    rfl
  · obtain ⟨c, v, told, bi, bb, rfl, ⟨dx, l, ss, hc, hl, le, hsp, ok⟩, hk, kq⟩ := h
    have r1 : Room 1 _ := hr.mono (by decide)
    refine ⟨_, pss_cons (ps_if (pt_not (pt_val (pe_call GD hr rfl mD kD bD .nil pass0 (pa_cons (pv 1) pa_nil))))
        (pss_one (ps_raise rfl (takes_of rfl rfl rfl rfl) (pmk_own PySem.F.excBase_ValueError TD.xN TD.gN TD.kN (raises_own TD.bN TD.tN) (by exact rfl)))) pss_nil)
      (pss_one (ps_ret (pe_call GH r1 rfl mH kH bH .nil pass0 (pa_cons (pe_ix ix_list (pe_fld (pv 0) rfl) (pe_call GS r1 rfl mS kS bS .nil pass0 (pa_cons (pe_fld (pv 0) rfl) (pa_cons (pv 1) pa_nil))) (fun _ _ => rfl)) (pa_cons (pv 1) pa_nil))))), ?_⟩
    refine ⟨_, rfl, v, bi, bb, rfl, hk, ?_⟩
    rcases kq with ⟨i, rfl, rfl, rfl, i0, i1, kq⟩ | ⟨⟨i, rfl, rfl, rfl, hi⟩ | hb, ke⟩
    · refine .inl ⟨i, rfl, rfl, rfl, _, rfl, ?_⟩
      rw [decide_eq_true i0, decide_eq_true i1]
      refine iteF ?_
      refine ⟨_, rfl, c, CC, dx, _, _, rfl, hc, TC.cl, TC.no, crs_spans l, ?_⟩
      refine ⟨_, rfl, c, CC, dx, _, _, rfl, hc, TC.cl, TC.no, crs_spans l, ?_⟩
      refine ⟨_, rfl, l, i, ss, told, rfl, hl, le, ok, hsp, i0, fun k ⟨kl, hb, hn⟩ => ?_⟩
      have ks : k < ss.length := by omega
      have hs : ss[k]? = some ss[k] := List.getElem?_eq_getElem ks
      refine ⟨l, _, _, .ref ss[k], rfl, rfl, hl, at_k (by omega) (by rw [List.getElem?_map, Int.toNat_natCast, hs]; rfl), ?_⟩
      obtain ⟨⟨d, ws⟩, hx, q⟩ := hsp k _ hs
      have l1 := (ok.word k _ hx).1
      have hd : ∀ n, d = some n → 1 ≤ n := fun n e => ok.days k _ n hx e
      have hin : ∀ n, d = some n → i < bAt told k + n := fun n e => by
        have nk : k + 1 < told.length := by
          have := ok.open_ k _ hx
          have h2 : k + 1 ≠ told.length := fun z => by
            have := this.mpr z
            rw [show (d, ws).1 = d from rfl, e] at this
            cases this
          omega
        have := hn (k + 1) (Nat.lt_succ_self k) nk
        rw [bAt_next hx, show (d, ws).1 = d from rfl, e] at this
        exact this
      refine ⟨_, rfl, ss[k], i, bAt told k, _, _, rfl, q, (leastW_len (cutO_pos hd l1)).1, fun p x hx' hp => ?_⟩
      refine kq H p x (Same.refl H) ?_ hp
      rw [onV_at told k d ws i hx (fun j x hj hxj => ok.ends hj kl hxj) hb hin]
      rw [← hx']
      exact (cut_at l1 hd (by omega) (fun n e => by have := hin n e; omega)).symm
    · refine .inl ⟨i, rfl, rfl, rfl, _, rfl, ?_⟩
      rw [show (decide (0 ≤ i) && decide (i ≤ 1000000000000000)) = false from by
        rw [← Bool.decide_and]
        exact decide_eq_false hi]
      exact iteT ke
    · exact .inr ⟨hb, _, rfl, iteT ke⟩
end
end K11

namespace K11
open PySem PySem.Spec PyProof.Rows L2
/-! ### what a list of stretches says on a day, the words lists of shares -/
def LTolS (K : PySem.W.Frag) (C : Addr) (H : Hp) (a : Addr) (told : List (Option Int × W2)) : Prop := ∃ ts : List Addr, SqL K H a (ts.map V.ref) ∧ ts.length = told.length ∧
  ∀ (i : Nat) (t : Addr) (x : Option Int × W2), ts[i]? = some t → told[i]? = some x → ∃ wl, SqT K H t [dv x.1, .ref wl] ∧ ∃ qs : List Addr, SqL K H wl (qs.map V.ref) ∧ qs.length = x.2.length ∧ ∀ (j : Nat) (q : Addr) (y : Int × Int), qs[j]? = some q → x.2[j]? = some y → ShAt C H q y.1 y.2
def spLOnS (K : PySem.W.Frag) (C : Addr) : Sp := fun vs H Q _ => ∃ (a : Addr) (day : Int) (told : List (Option Int × W2)), vs = [.ref a, .int day] ∧ LTolS K C H a told ∧ Told told ∧ 0 ≤ day ∧
  ∀ (q : Addr) (y : Int × Int), onV told day = some y → ShAt C H q y.1 y.2 → Q (.ref q) H
section
variable {P : Program} {w : World} {K : PySem.W.Frag} {mg : Str → Option Value} {base : Heap}
theorem scLOnS : FnScope ["told", "day", "days", "word"] ["told", "day"] (defScope d_law_on) := ⟨rfl, rfl, rfl, by decide +kernel, rfl, by decide +kernel, by decide +kernel⟩
theorem ok_lonS {f C : Addr} {fd : FuncData} (F : Fun K "_law_on" "_law_on" d_law_on f fd) (B : TxtB mg) : FnOk P w K mg base CX0 1 f fd ["told", "day"] (spLOnS K C) := by
  refine F.ok scLOnS (fun vs H Q E h => ?_) (fun cdv A outer s H vs Q E hr h => ?_)
  · obtain ⟨a, _, _, rfl, _⟩ := h
    rfl
  · obtain ⟨a, day, told, rfl, ⟨ts, ha, lt, hst⟩, ok, d0, kq⟩ := h
    refine ⟨_, pss_cons (ps_for PassesOwn.never rfl (pi_list (pv 0)) (pg_tup (by rfl) (pgs_cons (pg_name (i := 2) scLOnS.nd rfl (.inl rfl)) (pgs_cons (pg_name (i := 3) scLOnS.nd rfl (.inl rfl)) pgs_nil)))
        (pss_cons (ps_if (PW.pt (pw_or (pt_cmp (pc_isN (pv 2))) (pw_or1 (pt_cmpR op_lt (pv 1) (pv 2) (nomark _)))))
          (pss_one (ps_ret (pe_ix ix_list (pv 3) (pe_op op_mod (pv 1) (pe_callB call_len_seq (by rfl) B.len PySem.boot_len (pa_cons (pv 3) pa_nil))) (fun _ _ => rfl)))) pss_nil)
        (pss_one (ps_set (i := 1) scLOnS.nd rfl (Or.inl rfl) (pe_op op_sub (pv 1) (pv 2))))))
      (pss_one (ps_ret (pe_tup (pa_cons pe_int (pa_cons pe_int pa_nil))))), ?_⟩
    refine ⟨_, rfl, a, rfl, ⟨_, ha⟩, for_list (K := K) (a := a) (xs := ts.map V.ref) (fun i σ G => ∃ (dy : Int) (v2 v3 : Option V), σ = [some (.ref a), some (.int dy), v2, v3] ∧ G = H ∧ i < told.length ∧ 0 ≤ dy ∧ onV (told.drop i) dy = onV told day) ⟨day, _, _, rfl, rfl, ok.pos, d0, rfl⟩ ?_ ?_ ?_⟩
    · rintro i σ G _ ⟨_, _, _, _, e, _⟩
      rw [e]
      exact ha
    · rintro i x σ G hx ⟨dy, v2, v3, rfl, eG, il, y0, eq⟩
      have eG := eG.symm
      subst eG
      rw [List.getElem?_map] at hx
      obtain ⟨t, ht, rfl⟩ := Option.map_eq_some_iff.mp hx
      obtain ⟨⟨d, ws⟩, hxi⟩ : ∃ x, told[i]? = some x := ⟨_, List.getElem?_eq_getElem il⟩
      obtain ⟨wl, q1, qs, h1, h2, h3⟩ := hst i t _ ht hxi
      have l1 := (ok.word i _ hxi).1
      have l1 : 1 ≤ ws.length := l1
      have h2 : qs.length = ws.length := h2
      have ob := ok.open_ i _ hxi
      have dn := fun n e => ok.days i _ n hxi e
      have dr : told.drop i = (d, ws) :: told.drop (i + 1) := by
        rw [List.drop_eq_getElem_cons il, Option.some.inj ((List.getElem?_eq_getElem il).symm.trans hxi)]
      rw [dr] at eq
      have lp : (qs.map V.ref).length = ws.length := by rw [List.length_map, h2]
      have n0 := Int.emod_nonneg dy (show (ws.length : Int) ≠ 0 by omega)
      have n1 := Int.emod_lt_of_pos dy (show (0 : Int) < (ws.length : Int) by omega)
      have hk : (dy % (ws.length : Int)).toNat < ws.length := by omega
      have hk' : (dy % (ws.length : Int)).toNat < qs.length := by omega
      have ret : onV told day = ws[(dy % (ws.length : Int)).toNat]? → Q (.ref (qs[(dy % (ws.length : Int)).toNat])) H := fun e =>
        kq _ _ (e.trans (List.getElem?_eq_getElem hk)) (h3 _ _ _ (List.getElem?_eq_getElem hk') (List.getElem?_eq_getElem hk))
      refine ⟨t, _, rfl, q1, rfl, _, _, rfl, _, _, rfl, rfl, ?_⟩
      refine ⟨_, rfl, _, rfl, if_stop (d := d) (fun e => ?_) (fun n e => ?_)⟩
      · subst e
        refine iteT ⟨_, rfl, _, rfl, _, rfl, wl, _, rfl, .inl h1, _, _, rfl, rfl, (by rw [lp]; omega), ?_⟩
        rw [lp]
        exact ⟨wl, _, _, .ref (qs[(dy % (ws.length : Int)).toNat]), rfl, rfl, h1, at_k n0 (by rw [List.getElem?_map, List.getElem?_eq_getElem hk']; rfl), ret eq.symm⟩
      · subst e
        refine ⟨_, rfl, _, rfl, _, _, rfl, rfl, _, rfl, ?_⟩
        have e2 : onV ((some n, ws) :: told.drop (i + 1)) dy = if dy < n then ws[(dy % (ws.length : Int)).toNat]? else onV (told.drop (i + 1)) (dy - n) := rfl
        rw [e2] at eq
        refine ite2 (fun h => ?_) (fun h => ?_)
        · rw [if_pos (of_decide_eq_true h)] at eq
          refine ⟨_, rfl, _, rfl, _, rfl, wl, _, rfl, .inl h1, _, _, rfl, rfl, (by rw [lp]; omega), ?_⟩
          rw [lp]
          exact ⟨wl, _, _, .ref (qs[(dy % (ws.length : Int)).toNat]), rfl, rfl, h1, at_k n0 (by rw [List.getElem?_map, List.getElem?_eq_getElem hk']; rfl), ret eq.symm⟩
        · have h : ¬ dy < n := fun z => h (decide_eq_true z)
          rw [if_neg h] at eq
          have i1 : i + 1 < told.length := by
            have : i + 1 ≠ told.length := fun z => nomatch (ob.mpr z)
            omega
          exact ⟨_, rfl, _, rfl, _, _, rfl, rfl, dy - n, _, _, rfl, rfl, i1, by omega, eq⟩
    · rintro σ G ⟨_, _, _, _, _, il, _⟩
      rw [List.length_map, lt] at il
      exact absurd il (Nat.lt_irrefl _)
end
end K11

namespace K11
open PySem PySem.Spec PyProof.Rows L2
/-! ### != of two shares: object.__ne__ over the own == -/
section
variable {X : Cx} {n : Nat} {C f : Addr} {A : Around} {pins : List (Addr × Obj)} {s : Shared} {σ : L2.St} {H : Hp} {x y : Addr} {t1 b1 t2 b2 : Int}
theorem ne_body (O : OwnEq X n C f) (sb : Sub X (n + 1) A) (I : Inv X pins σ H s) (hx : ShAt C H x t1 b1) (hy : ShAt C H y t2 b2) {Q : Fin → Shared → Prop}
    (hq : ∀ s', Inv X pins σ H s' → Q (.done (.ret (.bool (!(decide (t1 = t2) && decide (b1 = b2)))))) s') :
    wpAny (model X.prog X.w) A (Builtin.«object.__ne__» ⟨[.ref x, .ref y], []⟩) Q X.xe s := by
  obtain ⟨ox, od, J⟩ := ins_at I hx
  have sb0 : Sub X n A := sb.mono (Nat.le_succ n)
  unfold Builtin.«object.__ne__»
  refine wpAny_bind (wpAny_of_eq (a := ((Value.ref x : Value), [Value.ref y])) (by first | rfl | (simp only [slotArgs]; rfl)) ?_)
  dsimp only
  refine wpAny_bind (wpAny_cRoomFor sb.room.units0 ?_)
  refine wpAny_bind (PySem.W.ifBound_K I.kIn J O.at_ O.isf (wpAny_mono (run_own O sb0 I (v := .ref y) rfl hx (.inl ⟨y, t2, b2, rfl, hy, rfl⟩)) (fun q s' z => ?_) fun _ _ z => z))
  obtain ⟨rfl, I'⟩ := z
  dsimp only
  exact wpAny_bind (wpAny_truthy_bool (wpAny_pure (hq _ I')))
theorem ne_two (O : OwnEq X n C f) (sb : Sub X (n + 2) A) (I : Inv X pins σ H s) (hne : PySem.W.findIn X.K (.ref C) "__ne__" = some (some (.builtin "object.__ne__"))) (hob : PySem.W.subIn X.K (.ref C) (.type "object") = some true)
    (hx : ShAt C H x t1 b1) (hy : ShAt C H y t2 b2) :
    wpAny (model X.prog X.w) A (richCompare .NotEq (.ref x) (.ref y)) (fun q s' => q = .bool (!(decide (t1 = t2) && decide (b1 = b2))) ∧ Inv X pins σ H s') X.xe s := by
  obtain ⟨ox, od, J⟩ := ins_at I hx
  obtain ⟨oy, od', J'⟩ := ins_at I hy
  have isob : PySem.W.Looks (model X.prog X.w) s.heap (isInstance (.ref x) (.type "object")) true := J.type.andThen (PySem.W.looks_subIn I.kIn hob)
  have called : wpAny (model X.prog X.w) A (call (.builtin "object.__ne__") [.ref x, .ref y]) (fun q s' => q = .bool (!(decide (t1 = t2) && decide (b1 = b2))) ∧ Inv X pins σ H s') X.xe s := by
    refine wpAny_call (codeAny_call_builtin F.cmp_object.ne.plain F.cmpEntry_ne (PySem.W.check_slot F.cmpKind_ne F.cmpSplit_ne isob (F.cmpArgs_ne _ _) ?_))
    exact ne_body O (sb.in1) I hx hy fun s' I' => ⟨rfl, I'⟩
  unfold richCompare
  simp only [oneThing_ref]
  refine wpAny_holding (wpAny_bind (wpAny_cRoomFor sb.room.units0 ?_))
  refine wpAny_bind (J.type.here (wpAny_bind (J'.type.here ?_)))
  rw [if_neg (show ¬ (Value.ref C != Value.ref C) = true by simp)]
  refine wpAny_bind (wpAny_pure ?_)
  simp only [Bool.false_eq_true, if_false]
  refine wpAny_bind (m := tryCompare (.ref x) _ (.ref y)) ?_
  unfold tryCompare
  have fin : wpAny (model X.prog X.w) A (call (.builtin "object.__ne__") ([.ref x] ++ [.ref y]) >>= fun v => pure (some v)) (fun o s' => ∃ q, o = some q ∧ q = .bool (!(decide (t1 = t2) && decide (b1 = b2))) ∧ Inv X pins σ H s') X.xe s :=
    wpAny_bind (wpAny_mono called (fun q s' z => wpAny_pure ⟨q, rfl, z⟩) fun _ _ z => z)
  have asked : wpAny (model X.prog X.w) A (callSpecialIfBound? (.ref x) "__ne__" [.ref y]) (fun o s' => ∃ q, o = some q ∧ q = .bool (!(decide (t1 = t2) && decide (b1 = b2))) ∧ Inv X pins σ H s') X.xe s := by
    simp only [callSpecialIfBound?, bindSpecialIfBound?]
    refine wpAny_holding (wpAny_bind (wpAny_bind (wpAny_bind (J.type.here ((PySem.W.looks_findIn I.kIn hne).here ?_)))))
    simp only [F.cmp_object.ne.bind]
    refine wpAny_bind (wpAny_askSetting (wpAny_ite ?_))
    split
    · exact wpAny_bind (wpAny_pure (wpAny_pure fin))
    · exact wpAny_tryCatch (wpAny_bind (wpAny_pure (wpAny_pure fin)))
  refine wpAny_bind (wpAny_mono asked (fun o s' z => ?_) fun _ _ z => z)
  obtain ⟨q, rfl, rfl, I'⟩ := z
  exact wpAny_pure (wpAny_pure ⟨rfl, I'⟩)
end
/-! ### the operators, as rules -/
section
variable {X : Cx} {n : Nat} {C f : Addr}
def rEqS (C : Addr) : R2 := fun x y H Q => ∃ (a b : Addr) (t1 b1 t2 b2 : Int), x = .ref a ∧ y = .ref b ∧ ShAt C H a t1 b1 ∧ ShAt C H b t2 b2 ∧ Q (.bl (decide (t1 = t2) && decide (b1 = b2))) H
def rNeS (C : Addr) : R2 := fun x y H Q => ∃ (a b : Addr) (t1 b1 t2 b2 : Int), x = .ref a ∧ y = .ref b ∧ ShAt C H a t1 b1 ∧ ShAt C H b t2 b2 ∧ Q (.bl (!(decide (t1 = t2) && decide (b1 = b2)))) H
theorem op_eqS (O : OwnEq X n C f) (hr : Room n X.A) : OpR X (compareOp .Eq) (rEqS C) := by
  intro pins s σ H x y v u Q I rx ry h
  obtain ⟨a, b, t1, b1, t2, b2, rfl, rfl, ha, hb, q⟩ := h
  cases rx
  cases ry
  show wpAny (model X.prog X.w) X.A (richCompare .Eq (.ref a) (.ref b)) (EP X pins σ Q) X.xe s
  refine wpAny_mono (rc_two O ⟨hr, rfl⟩ I ha hb) (fun r s' z => ?_) fun _ _ z => z
  obtain ⟨rfl, I'⟩ := z
  exact ⟨.bl _, H, I', rfl, q⟩
theorem op_neS (O : OwnEq X n C f) (hr : Room (n + 2) X.A) (hne : PySem.W.findIn X.K (.ref C) "__ne__" = some (some (.builtin "object.__ne__"))) (hob : PySem.W.subIn X.K (.ref C) (.type "object") = some true) : OpR X (compareOp .NotEq) (rNeS C) := by
  intro pins s σ H x y v u Q I rx ry h
  obtain ⟨a, b, t1, b1, t2, b2, rfl, rfl, ha, hb, q⟩ := h
  cases rx
  cases ry
  show wpAny (model X.prog X.w) X.A (richCompare .NotEq (.ref a) (.ref b)) (EP X pins σ Q) X.xe s
  refine wpAny_mono (ne_two O ⟨hr, rfl⟩ I hne hob ha hb) (fun r s' z => ?_) fun _ _ z => z
  obtain ⟨rfl, I'⟩ := z
  exact ⟨.bl _, H, I', rfl, q⟩
end
end K11

/-! ### != of lists whose items have an own == -/
namespace K11.GN
open PySem PySem.SeqAt
open AutoSeq1 (wpAny_loadPart')
open MeetsSeq MeetsSeq2 MeetsSeq3 SeqRoads2
section
variable {prog : Program} {w : World} {A : Around} {R : Result → Shared → Prop}
theorem ne_loopG (l b : Addr) (N : Nat) (I : Nat → Shared → Prop) (hl : GQ.ListI prog w A (fun e s' => R (.error e) s') l b N I)
    (fin : ∀ s, I N s → R (.ok (.ret (.bool false))) s) (k : Nat) :
    ∀ i : Nat, N - i = k → i ≤ N → ∀ s, I i s →
      wpAny (model prog w) A.in1 (Builtin.«list.__eq__.loop» ⟨[.ref l, .ref b, rawInt i, rawInt 3], []⟩) (GQ.FinOf prog w A R) (fun e s' => R (.error e) s') s := by
  induction k with
  | zero =>
    intro i hk hi s h
    obtain ⟨items, items2, n, n2, hl1, hb1, hs1, hs2, _⟩ := hl _ _ h
    have hi' : i = N := by omega
    have hR : R (.ok (.ret (.bool false))) s := fin s (hi' ▸ h)
    obtain ⟨hp, g, d, tk, os⟩ := s
    wp_walk using wpAny_loadPart' hl1, wpAny_loadPart' hb1
    have hi1 : items[((i : Nat) : Int).toNat]? = none := by simp; omega
    have hi2 : items2[((i : Nat) : Int).toNat]? = none := by simp; omega
    rw [hi1, hi2]
    wp_walk using wpAny_loadPart' hl1, wpAny_loadPart' hb1
    show R (.ok (.ret (.bool (items.size != items2.size)))) _
    rw [hs1, hs2]
    simpa using hR
  | succ k ih =>
    intro i hk hi s h
    obtain ⟨items, items2, n, n2, hl1, hb1, hs1, hs2, turn⟩ := hl _ _ h
    have hlt : i < items.size := by omega
    have hlt2 : i < items2.size := by omega
    have ht := turn hlt hlt2
    obtain ⟨hp, g, d, tk, os⟩ := s
    wp_walk using wpAny_loadPart' hl1, wpAny_loadPart' hb1
    have hi1 : items[((i : Nat) : Int).toNat]? = some items[i] := by simp [hlt]
    have hi2 : items2[((i : Nat) : Int).toNat]? = some items2[i] := by simp [hlt2]
    have hc : ((i : Int) + 1) = ((i + 1 : Nat) : Int) := by omega
    rw [hi1, hi2]
    refine wpAny_bind (wpAny_mono ht (fun r s2 h2 => ?_) fun _ _ x => x)
    obtain ⟨hr, h2⟩ := h2
    subst hr
    have hrec := ih (i + 1) (by omega) (by omega) s2 h2
    obtain ⟨hp2, g2, d2, tk2, os2⟩ := s2
    wp_walk
    rw [hc]
    exact ⟨plainId_quiet plain_eq_loop _, codeAny_builtin entry_eq_loop (by
      rw [Around.under_plainId plain_eq_loop _]
      exact hrec)⟩
theorem list_neG (l b : Addr) (N : Nat) (I : Nat → Shared → Prop) (hl : GQ.ListI prog w A (fun e s' => R (.error e) s') l b N I)
    (fin : ∀ s, I N s → R (.ok (.ret (.bool false))) s) {s : Shared} (h : I 0 s) :
    wpAny (model prog w) A.in1 (Builtin.«list.__ne__» ⟨[.ref l, .ref b], []⟩) (GQ.FinOf prog w A R) (fun e s' => R (.error e) s') s := by
  obtain ⟨items, items2, n, n2, hl1, hb1, hs1, hs2, _⟩ := hl _ _ h
  have hrec := ne_loopG (A := A) (R := R) l b N I hl fin _ 0 rfl (Nat.zero_le _) s h
  obtain ⟨hp, g, d, tk, os⟩ := s
  have f3 := AutoSeq1.sub_list_list
  have hne : ¬ (items.size != items2.size) = true := by simp [hs1, hs2]
  wp_walk using wpAny_loadPart' hl1, wpAny_loadPart' hb1
  exact ⟨plainId_quiet plain_eq_loop _, codeAny_builtin entry_eq_loop (by
    rw [Around.under_plainId plain_eq_loop _]
    exact hrec)⟩
end
section
variable {prog : Program} {w : World} {A : Around} {E : Value → Shared → Prop} {s : Shared}
theorem rn_listG {l b : Addr} {N : Nat} {Q : Value → Shared → Prop} (hu : A.units < cLine) (I : Nat → Shared → Prop) (hl : GQ.ListI prog w A E l b N I)
    (fin : ∀ s, I N s → Q (.bool false) s) (h : I 0 s) : wpAny (model prog w) A (richCompare .NotEq (.ref l) (.ref b)) Q E s := by
  obtain ⟨items, items2, n, n2, hl1, hb1, _, _, _⟩ := hl _ _ h
  refine wpAny_richCompare_same_room (op := .NotEq) ⟨_, hl1, rfl⟩ ⟨_, hb1, rfl⟩ F.slot_list_ne (GQ.call_here F.slot_list_ne ⟨_, hl1, rfl⟩ F.entry_list_ne (F.args_list_ne_2 _ _) ?_) hu
  exact list_neG (R := wants (fun v s' => v ≠ .notImplemented ∧ Q v s') E) l b N I hl (fun s' q => ⟨(fun x => nomatch x), fin s' q⟩) h
end
end K11.GN
namespace K11
open PySem PySem.Spec PyProof.Rows L2
section
variable {X : Cx} {n : Nat} {D : Eqv}
/-- != gives False for what D says -/
def RcN (X : Cx) (n : Nat) (D : Eqv) : Prop :=
  ∀ (A : Around) (pins : List (Addr × Obj)) (s : Shared) (σ : L2.St) (H : Hp) (x y : V) (u v : Value), Sub X n A → Inv X pins σ H s → RelV x u → RelV y v → D x y H →
    wpAny (model X.prog X.w) A (richCompare .NotEq u v) (fun r s' => r = .bool false ∧ ∃ H', Inv X pins σ H' s' ∧ Ext H H') X.xe s
theorem rcN_list (hD : Mon D) (h : EqG X n D) : RcN X (n + 1) (DList D) := by
  intro A pins s σ H x y u v sb I rx ry d
  obtain ⟨a, b, xs, ys, rfl, rfl, ha, hb, p⟩ := d
  cases rx
  cases ry
  refine GN.rn_listG (N := xs.length) sb.room.units0 (fun _ s' => LoopI X pins σ H s') (fun i s' q => ?_) (fun s' q => ⟨rfl, q⟩) ⟨H, I, Ext.rfl'⟩
  obtain ⟨H1, I1, e1⟩ := id q
  obtain ⟨z, its, k, r, e⟩ := I1.hok a _ (e1 _ _ ha)
  obtain ⟨z2, its2, k2, r2, e2⟩ := I1.hok b _ (e1 _ _ hb)
  refine ⟨its.toArray, its2.toArray, k, k2, e, e2, by rw [List.size_toArray, ← r.length], by rw [List.size_toArray, ← r2.length, ← p.1], fun h1 h2 => ?_⟩
  exact turnG hD h sb p r r2 i h1 h2 s' q
/-- x != y of two lists that are alike -/
def rNeG (D : Eqv) : R2 := fun x y H Q => D x y H ∧ ∀ H', Ext H H' → Q (.bl false) H'
theorem op_neG (h : RcN X n D) (hr : Room n X.A) : OpR X (compareOp .NotEq) (rNeG D) := by
  intro pins s σ H x y v u Q I rx ry hq
  obtain ⟨d, q⟩ := hq
  show wpAny (model X.prog X.w) X.A (richCompare .NotEq v u) (EP X pins σ Q) X.xe s
  refine wpAny_mono (h X.A pins s σ H x y v u ⟨hr, rfl⟩ I rx ry d) (fun r s' z => ?_) fun _ _ x => x
  obtain ⟨hr', H', I', e⟩ := z
  subst hr'
  exact ⟨.bl false, H', I', rfl, q H' e⟩
/-- x != [] of a list -/
def rNe0 (K : PySem.W.Frag) : R2 := fun x y H Q => ∃ a b xs, x = .ref a ∧ y = .ref b ∧ SqL K H a xs ∧ SqL K H b [] ∧ Q (.bl (!xs.isEmpty)) H
theorem op_ne0 (hr : Room 0 X.A) : OpR X (compareOp .NotEq) (rNe0 X.K) := by
  intro pins s σ H x y v u Q I rx ry hq
  obtain ⟨a, b, xs, rfl, rfl, ha, hb, q⟩ := hq
  cases rx
  cases ry
  obtain ⟨its, r, p, _⟩ := I.list ha
  obtain ⟨its2, r2, p2, _⟩ := I.list hb
  cases r2
  show wpAny (model X.prog X.w) X.A (richCompare .NotEq (.ref a) (.ref b)) (EP X pins σ Q) X.xe s
  cases r with
  | nil => exact SeqAt.RcNeAt.lists p.isList p2.isList rfl hr.units0 (e := fun _ => true) (fun j h1 _ => absurd h1 (by simp)) X.prog X.w X.xe _ ⟨.bl false, H, I, rfl, q⟩
  | cons _ _ => exact SeqAt.RcNeAt.lists_lengths p.isList p2.isList (by simp) hr.units0 X.prog X.w X.xe _ ⟨.bl true, H, I, rfl, q⟩
end
/-! ### a def held by a name, called with keywords -/
structure HeldN (P : Program) (w : World) (K : PySem.W.Frag) (mg : Str → Option Value) (base : Heap) (k n : Nat) (ks : List Str) (gV : List V → List V → List V) (f : Addr) (sp : Sp) : Prop where
  ex : ∃ (fd : FuncData) (ps : List Str) (g : List Value → List Value → List Value), FnOk P w K mg base (fun _ _ _ _ _ _ => False) k f fd ps sp ∧ PySem.W.keepIn K (.ref f) = true ∧ KBn K fd ps n ks g gV
def tCallAN (i : Nat) (S : Addr → Sp → Prop) (n m : Nat) (gV : List V → List V → List V) (t tk : TA) : TE := fun σ H Q => ∃ f sp, σ[i]? = some (some (.ref f)) ∧ S f sp ∧ tCallN n m sp gV (fun _ _ _ => False) t tk σ H Q
section
variable {X : Cx} {k n i : Nat} {ks : List Str} {x : Str} {p pos : Pos} {e : Expr} {es : List Expr} {kws : List Keyword} {t tk : TA} {gV : List V → List V → List V}
theorem pe_callAN {S : Addr → Sp → Prop} (A : ∀ f sp, S f sp → HeldN X.prog X.w X.K X.mg X.base k n ks gV f sp) (hr : Room k X.A) (hN : X.N[i]? = some x) (hv : Vis X.env.scope x)
    (ha : PA X (e :: es) t) (hkw : PK X kws tk) (hall : (backToKw pos (keywordEach kws X.env)).all (·.1.isSome) = true := by rfl) (hks : (backToKw pos (keywordEach kws X.env)).filterMap (·.1) = ks := by rfl)
    (hdb : (x == ("__debug__" : Str)) = false := by decide) (hcd : (x == ("__classdict__" : Str)) = false := by decide) (he : starEach (e :: es) X.env = (false, eval e X.env) :: starEach es X.env := by rfl)
    (hpl : ((backTo pos (starEach (e :: es) X.env)).any (·.1) || (backToKw pos (keywordEach kws X.env)).any (·.1.isNone)) = false := by rfl) :
    PE X (.Call (.Name x p) (e :: es) kws pos) (tCallAN i S n ks.length gV t tk) := by
  refine ⟨fun pins s σ H Q I h => ?_⟩
  obtain ⟨f, sp, hs, hS, h⟩ := h
  obtain ⟨fd, ps, g, F, hk, hb⟩ := (A f sp hS).ex
  refine wpAny_Call_Name_kw (thn ((pe_var (pos := p) hN hv hdb hcd).run pins s σ H (fun v H1 => v = .ref f ∧ H1 = H) I ⟨.ref f, hs, rfl, rfl⟩) fun u s0 ⟨v, H0, I0, r0, q0⟩ => ?_)
  obtain ⟨rfl, rfl⟩ := q0
  cases r0
  refine PySem.W.callWith_KW (h₀ := X.base) I.ok.mod.kin hk hall (thn (ha.run pos pins s0 σ _ _ I0 h) fun us s1 ⟨vs, H1, I1, r, q⟩ => ?_) hpl he
  refine thn (hkw.run pos pins s1 σ H1 _ I1 q) fun ws s2 ⟨zs, H2, I2, rz, l1, l2, q2⟩ => ⟨I2.kIn, ?_⟩
  rw [hks]
  exact run_fnN F hr hb (fun _ _ _ _ _ _ _ z => z.elim) I2 r rz l1 l2 q2
end
end K11

namespace K11
open PySem PySem.Spec PyProof.Rows L2
/-! ### whether what is handed in is made just where it should be -/
def rLstO (K : PySem.W.Frag) : List V → Hp → VK → Prop := fun xs H Q => ∃ p ys, xs = [.ref p] ∧ (SqL K H p ys ∨ SqT K H p ys) ∧ ∀ l, H l = none → Q (.ref l) (upd H l (.lst ys))
theorem cr_lst {X : Cx} {K : PySem.W.Frag} (e : X.K = K) : CallR X (.type "list") (rLstO K) := by
  subst e
  exact call_list_of
def DSame : Eqv := fun x y _ => ∃ a : Addr, x = .ref a ∧ y = .ref a
theorem mon_same : Mon DSame := fun _ _ _ _ _ d => d
theorem eqG_same {X : Cx} : EqG X 0 DSame := by
  intro A pins s σ H x y u v sb I rx ry d
  obtain ⟨a, rfl, rfl⟩ := d
  cases rx
  cases ry
  exact (SeqAt.EqAt.same (A := A) (s := s) (.ref a)) X.prog X.w X.xe _ ⟨rfl, H, I, Ext.rfl'⟩
theorem crs_but {K : PySem.W.Frag} {C CC p : Addr} {z : Int} {H H' : Hp} {c : Addr} {told : List (Option Int × W2)} (w : WellAt H p z) (k : But p H H') (h : CourseAt K C CC H c told) : CourseAt K C CC H' c told := by
  obtain ⟨wx, wy, ez, _⟩ := w
  have nt : ∀ {b o}, H b = some o → (∀ xs, o ≠ .lst xs) → H' b = some o := fun {b o} e n => k b o (fun z => by rw [z, ez] at e; exact n _ (Option.some.inj e).symm) e
  have kp : Keep H H' := fun b o e n => nt e n
  obtain ⟨dx, l, ss, a, b, e, g, t⟩ := h
  refine ⟨dx, l, ss, nt a (fun _ z => nomatch z), b.elim (fun h => .inl (h.elim (fun h => .inl (k _ _ (fun z => ?_) h)) fun ⟨o, h⟩ => .inr ⟨o, nt h (fun _ z => nomatch z)⟩)) fun h => .inr h, e, fun i x hx => kp.span (g i x hx), t⟩
  rw [z, ez] at h
  cases ss with
  | nil => cases h
  | cons s0 r => cases h
theorem CrsNew.mono {K : PySem.W.Frag} {C CC : Addr} {H H1 H2 : Hp} {c : Addr} {told : List (Option Int × W2)} (h : CrsNew K C CC H H1 c told) (s : Same H1 H2) : CrsNew K C CC H H2 c told := by
  obtain ⟨dx, l, ss, n, hc, hl, es, g, t⟩ := h
  exact ⟨dx, l, ss, n, s _ _ hc, s _ _ hl, es, fun i x hx => (g i x hx).mono s, t⟩
def spRight (K : PySem.W.Frag) (C : Addr) : Sp := fun vs H Q _ => ∃ (p : Addr) (v : V) (z : Int) (o : Option (List IO_)), vs = [.ref p, v] ∧ WellAt H p z ∧ 0 ≤ z ∧ z < 2 ^ 29 ∧ GvX K C p H v o ∧ ∀ (H' : Hp), But p H H' → Q (.bl true) H'
section
variable {P : Program} {w : World} {K : PySem.W.Frag} {mg : Str → Option Value} {base : Heap}
abbrev rgN : List Str := ["well", "given", "handed", "course", "told", "spots", "days", "word", "day"]
theorem scRg : FnScope rgN ["well", "given"] (defScope d_law_right) := ⟨rfl, rfl, rfl, by decide +kernel, rfl, by decide +kernel, by decide +kernel⟩
theorem ok_right {f f1 f2 f3 f4 f5 fE C CC CD : Addr} {fd fd1 fd2 fd3 fd4 fd5 fdE : FuncData} (F : Fun K "_law_right" "_law_right" d_law_right f fd) (Y : TxtY mg C) (mC : mg "Course" = some (.ref CC))
    (IS : ∀ (H : Hp) p t b, ShAt C H p t b → IsC K C H (.ref p) true) (ISC : ∀ (H : Hp) p dx fs, H p = some (.ins CC dx fs) → TyX K H (.ref p) (.ref CC)) (me : PySem.W.kitOne K (.ref CC) (.ref CC) = some true)
    (A1 : At P w K mg base CX0 7 "_law_made" ["given"] (spMade K C CC) f1 fd1) (A2 : At P w K mg base CX0 1 "_law_is_good" ["given"] (spIsGood K C) f2 fd2) (A3 : At P w K mg base CX0 1 "_law_draw" ["well", "many"] spDraw f3 fd3)
    (A4 : At P w K mg base (L2.CX P w) 4 "on" ["course", "day"] (spOn K C CC CD) f4 fd4) (A5 : At P w K mg base CX0 1 "_law_on" ["told", "day"] (spLOnS K C) f5 fd5)
    (GE : FnOk P w K mg base CX0 1 fE fdE ["self", "other"] (spEqS K C)) (atE : PySem.W.findIn K (.ref C) "__eq__" = some (some (.ref fE))) (isE : PySem.W.isFn K (.ref fE) = true) (bE : Binds K fdE ["self", "other"] []) :
    FnOk P w K mg base CX0 8 f fd ["well", "given"] (spRight K C) := by
  refine F.ok scRg (fun vs H Q E h => ?_) (fun cdv A outer s H vs Q E hr h => ?_)
  · obtain ⟨_, _, _, _, rfl, _⟩ := h
    rfl
  · obtain ⟨p, v, z, o, rfl, hp, z0, z1, hv, kq⟩ := h
    have r1 : Room 1 _ := hr.mono (by decide)
    have r2 : Room 2 _ := hr.mono (by decide)
    have r4 : Room 4 _ := hr.mono (by decide)
    have rn : RcN (cxOf CX0 P w K mg base rgN "_law_right" (defScope d_law_right) f cdv A outer s H E).nox 1 (DList DSame) := rcN_list mon_same eqG_same
    refine ⟨_, pss_cons (ps_set (i := 2) scRg.nd rfl (Or.inl rfl) (pv 1))
      (pss_cons (ps_if (pt_val (pe_callB call_isi (by rfl) Y.isi (by decide +kernel) (pa_cons (pv 1) (pa_cons (pe_bltn (v := .ty "list") (by rfl) Y.list (by decide +kernel) rfl) pa_nil)))) (pss_one (ps_set (i := 2) scRg.nd rfl (Or.inl rfl) (pe_callTy call_list_of (by rfl) Y.list (by decide +kernel) (pa_cons (pv 1) pa_nil)))) pss_nil)
      (pss_cons (ps_set (i := 3) scRg.nd rfl (Or.inr rfl) (pe_call A1.G hr rfl A1.m A1.k A1.b .nil pass0 (pa_cons (pv 2) pa_nil)))
      (pss_cons (ps_if (pt_not (pt_val (pe_call A2.G r1 rfl A2.m A2.k A2.b .nil pass0 (pa_cons (pv 1) pa_nil)))) (pss_one (ps_ret (pe_cmp (pc_isN (pv 3))))) pss_nil)
      (pss_cons (ps_if (PW.pt (pw_or (pt_not (pt_val (pe_callB call_isi (by rfl) Y.isi (by decide +kernel) (pa_cons (pv 3) (pa_cons (pe_glob (v := .ref CC) rfl mC rfl) pa_nil))))) (pw_or1 (pt_cmpR (op_neG rn r1) (pv 2) (pv 1) (nomark _))))) (pss_one (ps_ret pe_bl)) pss_nil)
      (pss_cons (ps_expr (pe_bm0 PySem.F.plainAttrs_list PySem.F.slot_list_clear PySem.F.type_list_clear mt_clear (pv 2)))
      (pss_cons (ps_set (i := 4) scRg.nd rfl (Or.inr rfl) (pe_lc (own := [("days", 6), ("word", 7)]) (g := gTup K 2 (gCons (gName 6) (gCons (gName 7) gNil))) (by rfl) scRg.nd (pi_list (pv 1)) (blkOk_by (own := [("days", 6), ("word", 7)]) (N := rgN) (sc := defScope d_law_right) (by decide +kernel))
          (fun _ _ _ _ _ => pg_tup (by rfl) (pgs_cons (pg_name (i := 6) scRg.nd rfl (.inl rfl)) (pgs_cons (pg_name (i := 7) scRg.nd rfl (.inl rfl)) pgs_nil))) (fun _ _ _ _ _ => pts_nil)
          (fun _ _ _ _ _ => pe_tup (pa_cons (pv 6) (pa_cons (pe_callTy (cr_lst (K := K) rfl) (by rfl) Y.list (by decide +kernel) (pa_cons (pv 7) pa_nil)) pa_nil)))))
      (pss_cons (ps_set (i := 5) scRg.nd rfl (Or.inl rfl) (pe_lst (pa_cons pe_int (pa_cons pe_int (pa_cons pe_int (pa_cons pe_int (pa_cons (pe_call A3.G r1 rfl A3.m A3.k A3.b .nil pass0 (pa_cons (pv 0) (pa_cons pe_int pa_nil))) pa_nil)))))))
      (pss_one (ps_ret (pe_callB (cr_all rfl) (by rfl) Y.all (by decide +kernel) (pa_cons
        (pe_lc (own := [("day", 8)]) (g := gName 8) (by rfl) scRg.nd (pi_list (pv 5)) (blkOk_by (own := [("day", 8)]) (N := rgN) (sc := defScope d_law_right) (by decide +kernel)) (fun _ _ _ _ _ => pg_name (i := 8) scRg.nd rfl (.inl rfl)) (fun _ _ _ _ _ => pts_nil)
          (fun _ _ _ _ _ => pe_cmpR (show OpR _ _ (rEqS C) from op_eqS (n := 1) (f := fE) ⟨⟨_, _, GE, bE⟩, atE, isE⟩ r1) (pe_call A4.G r4 rfl A4.m A4.k A4.b .nil passL (pa_cons (pv 3) (pa_cons (pv 8) pa_nil))) (pe_call A5.G r1 rfl A5.m A5.k A5.b .nil pass0 (pa_cons (pv 4) (pa_cons (pv 8) pa_nil))) (nomark _))) pa_nil))))))))))), ?_⟩
    refine ⟨_, rfl, ?_⟩
    rcases id hv with ⟨rfl, ty, hty, hk⟩ | ⟨a, xs, os, rfl, rfl, np, ha, hx, l200⟩
    · refine ⟨_, rfl, _, _, ty, _, false, rfl, ClsV.ty _, hty, hk, false, rfl, iteF ?_⟩
      refine ⟨_, rfl, v, false, rfl, hv.strs (IS H), (fun z => nomatch z), fun _ H1 s1 => ?_⟩
      refine ⟨_, rfl, p, v, none, rfl, hv.same s1, fun H2 s2 => ⟨false, rfl, iteT ⟨_, rfl, ?_⟩⟩⟩
      exact kq H2 (same_but (s1.trans s2))
    refine ⟨_, rfl, _, _, _, _, true, rfl, ClsV.ty _, ty_lst (SqL.of ha), kit_ty (by decide +kernel), true, rfl, iteT ?_⟩
    refine ⟨_, rfl, a, _, rfl, .inl (SqL.of ha), fun h hh => ?_⟩
    have s1 : Same H (upd H h (.lst xs)) := same1 hh
    have eh : (upd H h (.lst xs) : Hp) h = some (.lst xs) := upd_same
    have w1 := WellAt.same hp s1
    have nh : h ≠ p := hp.ne hh
    have ah : a ≠ h := fun q => by rw [q, hh] at ha; cases ha
    generalize upd H h (.lst xs) = H1 at *
    have hx1 : All2 (ItX K C H1) xs os := hx.mono fun _ _ _ _ r => (kp_same s1).it r
    have gv : GvX K C p H1 (.ref h) (some os) := gv_lst nh eh hx1 l200
    have gv0 := hv.same s1
    cases gg : gGood (some os) with
    | false =>
      refine ⟨_, rfl, _, false, rfl, ?_, (fun z => nomatch z), fun _ H2 s2 => ?_⟩
      · have := gv.strs (IS H1)
        rw [gg] at this
        exact this
      refine ⟨_, rfl, p, _, _, rfl, gv0.same s2, fun H3 s3 => ?_⟩
      rw [gg]
      exact ⟨false, rfl, iteT ⟨_, rfl, kq H3 (same_but (s1.trans (s2.trans s3)))⟩⟩
    | true =>
      obtain ⟨h', ts, told, e1, _, eh', hts, tok⟩ := gv.told gg
      obtain rfl := V.ref.inj e1
      rw [eh] at eh'
      obtain rfl : xs = ts.map V.ref := by injection (Option.some.inj eh')
      have ltt := hts.len
      refine ⟨_, rfl, _, true, rfl, ?_, fun _ => ⟨h, told, rfl, ⟨ts, SqL.of eh, ltt, fun i t x ht hxx => hts.all i t x ht hxx⟩, tok, fun H2 c s2 hnew => ?_⟩, (fun z => nomatch z)⟩
      · have := gv.strs (IS H1)
        rw [gg] at this
        exact this
      refine ⟨_, rfl, p, _, _, rfl, gv0.same s2, fun H3 s3 => ?_⟩
      rw [gg]
      refine ⟨true, rfl, iteF ?_⟩
      have s23 := s2.trans s3
      obtain ⟨dx, cl, css, cn, hcc, _⟩ := id (hnew.mono s3)
      refine ⟨_, rfl, _, _, _, _, true, rfl, ClsV.own CC, ISC H3 c dx _ hcc, me, true, rfl, iteF ?_⟩
      refine ⟨_, rfl, _, rfl, ⟨h, a, _, _, rfl, rfl, s23 _ _ eh, (s1.trans s23) _ _ ha, rfl, fun i x y hx hy => ?_⟩, fun H4 s4 => ⟨false, rfl, iteF ?_⟩⟩
      · rw [List.getElem?_map] at hx hy
        obtain ⟨t, ht, rfl⟩ := Option.map_eq_some_iff.mp hx
        rw [ht] at hy
        exact ⟨t, rfl, (Option.some.inj hy).symm⟩
      have s24 := s23.trans s4
      have eh4 := s24 _ _ eh
      refine ⟨_, rfl, .inl ⟨rfl, _, SqL.of eh4⟩, h, _, rfl, rfl, eh4, ?_⟩
      have kc : Keep H4 (upd H4 h (.lst [])) := keep_lst eh4
      have crs5 : CourseAt K C CC (upd H4 h (.lst [])) c told := (hnew.mono (s3.trans s4)).clear s24 eh
      have ea5 : (upd H4 h (.lst []) : Hp) a = some (.lst (ts.map V.ref)) := by
        rw [upd_ne ah]
        exact (s1.trans s24) _ _ ha
      have hts5 : All2 (StrAt K C (upd H4 h (.lst []))) ts told := hts.mono fun t x _ _ r => kc.str (r.mono s24)
      have w5 : WellAt (upd H4 h (.lst [])) p z := by
        obtain ⟨wx, wy, e, q⟩ := w1.same s24
        exact ⟨wx, wy, by rw [upd_ne (Ne.symm nh)]; exact e, q⟩
      have b5 : But p H (upd H4 h (.lst [])) := fun b o nb e => by
        have e4 := (s1.trans s24) _ _ e
        rw [upd_ne (ne_of_none e hh)]
        exact e4
      generalize upd H4 h (.lst []) = H5 at *
      -- what it tells
      refine ⟨_, rfl, a, rfl, ⟨_, SqL.of ea5⟩, fun D hD => ?_⟩
      have nD := w5.ne hD
      refine lc_list (K := K) (a := a) (xs := ts.map V.ref) (fun i N => ∃ us : List Addr, N D = some (.lst (us.map V.ref)) ∧ All2 (fun t (x : Option Int × W2) => ∃ wl qs, SqT K N t [dv x.1, .ref wl] ∧ wl ≠ D ∧ wl ≠ p ∧ N wl = some (.lst (List.map V.ref qs)) ∧ ShAll C N qs x.2) us (told.take i) ∧ Same H5 N) ⟨[], upd_same, .nil, same1 hD⟩ ?_ ?_ ?_
      · rintro i N _ ⟨_, _, _, sN⟩
        exact SqL.of (sN _ _ ea5)
      · rintro i x N hx ⟨us, eD, hus, sN⟩
        rw [List.getElem?_map] at hx
        obtain ⟨t, ht, rfl⟩ := Option.map_eq_some_iff.mp hx
        have il : i < told.length := by
          have := (List.getElem?_eq_some_iff.mp ht).1
          omega
        have few := tok.few
        obtain ⟨wa, q1, ps, q2, q3⟩ := (hts5.all i t _ ht (List.getElem?_eq_getElem il)).mono sN
        have tk := List.take_succ_eq_append_getElem il
        generalize told[i] = tx at *
        refine ⟨t, _, rfl, q1, rfl, _, _, rfl, _, _, rfl, rfl, rfl, ?_⟩
        refine ⟨_, rfl, _, rfl, wa, _, rfl, .inr q2, fun wl hwl => ⟨(by show 2 ≤ sizeLine; decide), fun U hU => ?_⟩⟩
        have nwD : wl ≠ D := fun q => by rw [q, eD] at hwl; cases hwl
        have nwp : wl ≠ p := (w5.same sN).ne hwl
        have m1 : Same N (upd N wl (.lst (ps.map V.ref))) := same1 hwl
        have ewl : (upd N wl (.lst (ps.map V.ref)) : Hp) wl = some (.lst (ps.map V.ref)) := upd_same
        generalize upd N wl (.lst (ps.map V.ref)) = N1 at *
        have m2 : Same N1 (upd N1 U (.tup [dv tx.1, .ref wl])) := same1 hU
        have eU : (upd N1 U (.tup [dv tx.1, .ref wl]) : Hp) U = some (.tup [dv tx.1, .ref wl]) := upd_same
        generalize upd N1 U (.tup [dv tx.1, .ref wl]) = N2 at *
        have m12 := m1.trans m2
        have eD2 := m12 _ _ eD
        have kD : Keep N2 (upd N2 D (.lst (us.map V.ref ++ [V.ref U]))) := keep_lst eD2
        refine ⟨_, eD2, ?_, us ++ [U], by rw [List.map_append]; exact upd_same, ?_, fun b o eb => ?_⟩
        · rw [List.length_map, hus.len, List.length_take]
          exact Nat.lt_of_le_of_lt (Nat.min_le_left _ _) (Nat.lt_of_lt_of_le (show i < 60 by omega) (by decide))
        · rw [tk]
          refine All2.snoc (hus.mono fun t x _ _ r => ?_) ⟨wl, ps, kD.tup (SqT.of eU), nwD, nwp, by rw [upd_ne nwD]; exact m2 _ _ ewl, kD.all (q3.mono m12)⟩
          obtain ⟨wl', qs', g1, g2, g3, g4, g5⟩ := r
          exact ⟨wl', qs', kD.tup (Same.tup m12 g1), g2, g3, by rw [upd_ne g2]; exact m12 _ _ g4, kD.all (g5.mono m12)⟩
        · rw [upd_ne (ne_of_none eb hD)]
          exact m12 _ _ (sN _ _ eb)
      rintro H6 ⟨us, eD, hus, s6⟩
      rw [List.length_map, ltt, List.take_length] at hus
      -- on some days
      refine ⟨_, rfl, p, 300, z, rfl, w5.same s6, by decide, by decide, z0, by omega, fun H7 d z2 b7 w7 z20 z21 d0 d1 => ⟨(by show 5 ≤ sizeLine; decide), fun S hS => ?_⟩⟩
      have crs7 := crs_but (w5.same s6) b7 (crs5.mono s6)
      have k7 := kp_but b7 (w5.same s6) w7
      have eD7 := b7 _ _ nD eD
      have hus7 : All2 (fun t (x : Option Int × W2) => ∃ wl qs, SqT K H7 t [dv x.1, .ref wl] ∧ wl ≠ D ∧ wl ≠ p ∧ H7 wl = some (.lst (List.map V.ref qs)) ∧ ShAll C H7 qs x.2) us told := hus.mono fun t x _ _ ⟨wl, qs, g1, g2, g3, g4, g5⟩ => ⟨wl, qs, k7.keep.tup g1, g2, g3, b7 _ _ g3 g4, k7.keep.all g5⟩
      have s8 : Same H7 (upd H7 S (.lst [.int 0, .int 1, .int 2, .int 7, .int d])) := same1 hS
      have eS : (upd H7 S (.lst [.int 0, .int 1, .int 2, .int 7, .int d]) : Hp) S = some (.lst ([0, 1, 2, 7, d].map V.int)) := upd_same
      generalize upd H7 S (.lst [.int 0, .int 1, .int 2, .int 7, .int d]) = H8 at *
      have b8 : But p H H8 := b5.trans ((same_but s6).trans (b7.trans (same_but s8)))
      refine ⟨_, rfl, S, rfl, ⟨_, SqL.of eS⟩, fun D2 hD2 => ?_⟩
      refine lc_list (K := K) (a := S) (xs := [0, 1, 2, 7, d].map V.int) (fun i N => N D2 = some (.lst ((List.replicate i true).map V.bl)) ∧ Same H8 N) ⟨upd_same, same1 hD2⟩ ?_ ?_ ?_
      · rintro i N _ ⟨_, sN⟩
        exact SqL.of (sN _ _ eS)
      · rintro i x N hx ⟨eN, sN⟩
        rw [List.getElem?_map] at hx
        obtain ⟨dy, hdy, rfl⟩ := Option.map_eq_some_iff.mp hx
        have i5 : i < 5 := (List.getElem?_eq_some_iff.mp hdy).1
        have dy0 : 0 ≤ dy ∧ dy ≤ 1000000000000000 := by
          have := List.mem_of_getElem? hdy
          simp only [List.mem_cons, List.not_mem_nil, or_false] at this
          omega
        have s8N := s8.trans sN
        refine ⟨rfl, _, rfl, _, rfl, c, _, told, true, false, rfl, crs7.mono s8N, kind_int dy, .inl ⟨dy, rfl, rfl, rfl, dy0.1, dy0.2, fun N1 q1 y1 m1 on1 sh1 => ?_⟩⟩
        refine ⟨_, rfl, _, rfl, D, dy, told, rfl, ⟨us, SqL.of ((s8N.trans m1) _ _ eD7), hus7.len, fun i t x ht hx => ?_⟩, tok, dy0.1, fun q2 y2 on2 sh2 => ?_⟩
        · obtain ⟨wl, qs, g1, g2, g3, g4, g5⟩ := hus7.all i t x ht hx
          have g5' := g5.mono (s8N.trans m1)
          exact ⟨wl, Same.tup (s8N.trans m1) g1, qs, SqL.of ((s8N.trans m1) _ _ g4), g5'.1, g5'.2⟩
        rw [on1] at on2
        obtain rfl := Option.some.inj on2
        refine ⟨q1, q2, _, _, _, _, rfl, rfl, sh1, sh2, ?_⟩
        rw [decide_eq_true rfl, decide_eq_true rfl]
        have eN1 := m1 _ _ eN
        refine ⟨_, eN1, ?_, ?_, fun b o eb => ?_⟩
        · rw [List.length_map, List.length_replicate]
          exact Nat.lt_of_lt_of_le i5 (by decide)
        · rw [List.replicate_succ', List.map_append]
          exact upd_same
        · rw [upd_ne (ne_of_none eb hD2)]
          exact m1 _ _ (sN _ _ eb)
      · rintro N ⟨eN, sN⟩
        exact ⟨D2, _, rfl, SqL.of eN, kq N (b8.trans (same_but sN))⟩
end
end K11

namespace K11
open PySem PySem.Spec PyProof.Rows L2
/-! ### the law: what is no course -/
def spLaw (K : PySem.W.Frag) : Sp := fun vs H Q _ => ∃ (a : Addr) (ns : List Int), vs = [.ref a] ∧ SqL K H a (ns.map V.int) ∧ ns.length ≤ 63 ∧ ∀ H', Q (.bl true) H'
theorem law_told {K : PySem.W.Frag} {a : Addr} {H : Hp} {ns : List Int} (hl : ns.length ≤ 63) (hS : SqL K H a (ns.map V.int)) : spLaw K [.ref a] H (fun v _ => v = .bl true) fun _ _ _ => False := ⟨a, ns, rfl, hS, hl, fun _ => rfl⟩
def nB (j : Nat) : Nat := 5 + 61 * j
def mB : Nat → Nat
  | 0 => 4
  | j + 1 => 2 * mB j + 61
theorem str_it {K : PySem.W.Frag} {C : Addr} {H : Hp} {t : Addr} {x : Option Int × W2} (h : StrAt K C H t x) (l : x.2.length ≤ 60) (d : ∀ n, x.1 = some n → 1 ≤ n) : ItX K C H (.ref t) (some (dv x.1, true, some (x.2.map some))) := by
  obtain ⟨wa, a, ps, b, c⟩ := h
  refine .inr (.inr ⟨t, dv x.1, .ref wa, true, _, rfl, rfl, a, ?_, wd_tup b ?_ (by rw [List.length_map, c.1]; omega)⟩)
  · cases e : x.1 with
    | none => exact .inl ⟨rfl, rfl⟩
    | some n => exact .inr (.inl ⟨n, rfl, (decide_eq_true (d n e)).symm⟩)
  · refine ⟨by rw [List.length_map, List.length_map]; exact c.1, fun i v o hv ho => ?_⟩
    rw [List.getElem?_map] at hv ho
    obtain ⟨p, hp, rfl⟩ := Option.map_eq_some_iff.mp hv
    obtain ⟨y, hy, rfl⟩ := Option.map_eq_some_iff.mp ho
    exact .inl ⟨y, p, rfl, rfl, c.2 i p y hp hy⟩
section
variable {P : Program} {w : World} {K : PySem.W.Frag} {mg : Str → Option Value} {base : Heap}
abbrev lawN : List Str := ["script", "cell", "well", "given", "k"]
theorem scLaw : FnScope lawN ["script"] (defScope d_law) := ⟨rfl, rfl, rfl, by decide +kernel, rfl, by decide +kernel, by decide +kernel⟩
theorem ok_law {f f1 f2 f3 f4 f5 f6 C : Addr} {fd fd1 fd2 fd3 fd4 fd5 fd6 : FuncData} (F : Fun K "law" "law" d_law f fd) (Y : TxtY mg C) (hrange : mg "range" = none)
    (A1 : At P w K mg base CX0 1 "_law_well" ["cell"] spWell f1 fd1) (A2 : At P w K mg base CX0 4 "_law_stretches" ["well", "most", "word", "long", "far"] spLStr f2 fd2) (A3 : At P w K mg base CX0 4 "_law_given" ["told"] (spGiven K C) f3 fd3)
    (A4 : At P w K mg base CX0 1 "_law_draw" ["well", "many"] spDraw f4 fd4) (A5 : At P w K mg base CX0 4 "_law_amiss" ["well", "given"] (spAmiss K C) f5 fd5) (A6 : At P w K mg base CX0 8 "_law_right" ["well", "given"] (spRight K C) f6 fd6) :
    FnOk P w K mg base CX0 9 f fd ["script"] (spLaw K) := by
  refine F.ok scLaw (fun vs H Q E h => ?_) (fun cdv A outer s H vs Q E hr h => ?_)
  · obtain ⟨_, _, rfl, _⟩ := h
    rfl
  · obtain ⟨a, ns, rfl, hS, hl, q⟩ := h
    have r0 : Room 0 _ := hr.mono (by decide)
    have r1 : Room 1 _ := hr.mono (by decide)
    have r4 : Room 4 _ := hr.mono (by decide)
    refine ⟨_, pss_cons (ps_for PassesOwn.never rfl (pi_list (pe_op op_cat (pe_slice sl_list (pv 0) po_none (po_some pe_int)) (pe_lst (pa_cons pe_int (pa_cons pe_int pa_nil))))) (pg_name (i := 1) scLaw.nd rfl (.inl rfl))
        (pss_cons (ps_set (i := 2) scLaw.nd rfl (Or.inl rfl) (pe_call A1.G r1 rfl A1.m A1.k A1.b .nil pass0 (pa_cons (pv 1) pa_nil)))
        (pss_cons (ps_set (i := 3) scLaw.nd rfl (Or.inl rfl) (pe_call A3.G r4 rfl A3.m A3.k A3.b .nil pass0 (pa_cons (pe_call A2.G r4 rfl A2.m A2.k A2.b .nil pass0 (pa_cons (pv 2) (pa_cons pe_int (pa_cons pe_int (pa_cons pe_int (pa_cons pe_int pa_nil)))))) pa_nil)))
        (pss_cons (ps_for PassesOwn.never rfl (pi_range1 (by rfl) hrange (pa_cons (pe_call A4.G r1 rfl A4.m A4.k A4.b .nil pass0 (pa_cons (pv 2) (pa_cons pe_int pa_nil))) pa_nil)) (pg_name (i := 4) scLaw.nd rfl (.inl rfl))
          (pss_one (ps_if (PW.pt (pw_and (pt_val (pe_callB call_isi (by rfl) Y.isi (by decide +kernel) (pa_cons (pv 3) (pa_cons (pe_bltn (v := .ty "list") (by rfl) Y.list (by decide +kernel) rfl) pa_nil)))) (pw_and1 (pt_cmpR (op_ne0 r0) (pv 3) (pe_lst pa_nil) (nomark _)))))
            (pss_one (ps_set (i := 3) scLaw.nd rfl (Or.inl rfl) (pe_call A5.G r4 rfl A5.m A5.k A5.b .nil pass0 (pa_cons (pv 2) (pa_cons (pv 3) pa_nil))))) pss_nil)))
        (pss_one (ps_if (pt_not (pt_val (pe_call A6.G hr rfl A6.m A6.k A6.b .nil pass0 (pa_cons (pv 2) (pa_cons (pv 3) pa_nil))))) (pss_one (ps_ret pe_bl)) pss_nil))))))
      (pss_one (ps_ret pe_bl)), ?_⟩
    refine ⟨_, rfl, _, rfl, a, _, rfl, hS, fun B1 hB1 => ⟨(by show 2 ≤ sizeLine; decide), fun B2 hB2 => ?_⟩⟩
    have cut10 : cutV (ns.map V.int) none (some 10) = (ns.take 10).map V.int := by
      have := cut_to (xs := ns.map V.int) (n := 10)
      rw [← List.map_take] at this
      exact this
    have e1 : (upd (upd H B1 (.lst (cutV (ns.map V.int) none (some 10)))) B2 (.lst [.int 0, .int 1]) : Hp) B1 = some (.lst (cutV (ns.map V.int) none (some 10))) := by
      rw [upd_ne (ne_of_none upd_same hB2)]
      exact upd_same
    refine ⟨B1, B2, _, _, rfl, rfl, e1, upd_same, ?_, fun B hB => ?_⟩
    · rw [cut10, List.length_map, List.length_take]
      exact Nat.le_trans (show min 10 ns.length + 2 ≤ 12 by omega) (show 12 ≤ sizeLine by decide)
    have xe : cutV (ns.map V.int) none (some 10) ++ [.int 0, .int 1] = ((ns.take 10) ++ [0, 1]).map V.int := by rw [cut10, List.map_append]; rfl
    refine ⟨B, rfl, ⟨_, SqL.of upd_same⟩, ?_⟩
    rw [xe]
    generalize (ns.take 10) ++ [0, 1] = cs at *
    refine for_list (K := K) (a := B) (xs := cs.map V.int) (fun i σ G => (∃ v1 v2 v3 v4 : Option V, σ = [some (.ref a), v1, v2, v3, v4]) ∧ G B = some (.lst (cs.map V.int))) ⟨⟨_, _, _, _, rfl⟩, upd_same⟩ ?_ ?_ ?_
    · rintro i σ G _ ⟨_, gB⟩
      exact SqL.of gB
    · rintro i x σ G hx' ⟨⟨v1, v2, v3, v4, rfl⟩, gB⟩
      rw [List.getElem?_map] at hx'
      obtain ⟨c, _, rfl⟩ := Option.map_eq_some_iff.mp hx'
      refine ⟨_, rfl, c, rfl, fun p wx wy hp y0 y1 => ?_⟩
      have wA : WellAt (upd G p (.lst [.int wx, .int wy, .int 0])) p 0 := ⟨wx, wy, upd_same, y0, y1⟩
      have sA : Same G (upd G p (.lst [.int wx, .int wy, .int 0])) := same1 hp
      have Bp : B ≠ p := fun e => by rw [← e, gB] at hp; cases hp
      generalize upd G p (.lst [.int wx, .int wy, .int 0]) = G1 at *
      have gB1 := sA _ _ gB
      refine ⟨_, rfl, p, 0, 5, 4, 9, 1, rfl, wA, by decide, by decide, by decide, by decide, by decide, by decide, by decide, by decide, by decide, by decide, fun G2 l told z2 b2 hl2 w2 z20 z21 tl dt => ?_⟩
      have ok := dt.ok
      refine ⟨l, told, rfl, tl.2.at_, ok, fun x hx y hy => (dt.prs x hx y hy).up (by decide), fun G3 u us s3 hu eu hus => ?_⟩
      have w3 := w2.same s3
      have nu : u ≠ p := w2.ne hu
      have lus := hus.len
      have few : told.length ≤ 5 := dt.few
      have gv0 : GvX K C p G3 (.ref u) (some (told.map fun x => some (dv x.1, true, some (x.2.map some)))) := by
        refine gv_lst nu eu ⟨by rw [List.length_map, List.length_map]; exact lus, fun i v o hv ho => ?_⟩ (by rw [List.length_map]; omega)
        rw [List.getElem?_map] at hv ho
        obtain ⟨t, ht, rfl⟩ := Option.map_eq_some_iff.mp hv
        obtain ⟨x, hx, rfl⟩ := Option.map_eq_some_iff.mp ho
        exact str_it (hus.all i t x ht hx) (ok.word i x hx).2 fun n e => ok.days i x n hx e
      have sm0 : SmO 5 4 (some (told.map fun x => (some (dv x.1, true, some (x.2.map some)) : IO_))) := fun os e => by
        obtain rfl := Option.some.inj e
        refine ⟨by rw [List.length_map]; exact few, fun oi ho d rd es e => ?_⟩
        obtain ⟨x, hx, rfl⟩ := List.mem_map.mp ho
        injection e with e
        injection e with _ e
        injection e with _ e
        injection e with e
        rw [← e, List.length_map]
        exact dt.len x hx
      have gB3 := s3 _ _ (b2 _ _ Bp gB1)
      refine ⟨_, rfl, p, 3, z2, rfl, w3, by decide, by decide, z20, by omega, fun G4 d z4 b4 w4 z40 z41 d0 d3 => ?_⟩
      refine ⟨_, rfl, by omega, by omega, ?_⟩
      refine for_range (lo := 0) (n := d.toNat) (fun j σ M => ∃ (v : V) (o : Option (List IO_)) (z : Int) (v4 : Option V), σ = [some (.ref a), some (.int c), some (.ref p), some v, v4] ∧ GvX K C p M v o ∧ SmO (nB j) (mB j) o ∧ WellAt M p z ∧ 0 ≤ z ∧ z ≤ 20001 + 10 * j ∧ But p G3 M)
        ⟨_, _, z4, v4, rfl, gv0.but b4 w3 w4, sm0, w4, z40, by omega, b4⟩ ?_ ?_
      · rintro j σ M hj ⟨v, o, z, v4, rfl, gv, sm, wM, z0, z1, bM⟩
        have j2 : j < 2 := by omega
        have stay : ∀ {M' : Hp}, Same M M' → ∃ (v' : V) (o : Option (List IO_)) (z : Int) (v4 : Option V), [some (V.ref a), some (.int c), some (.ref p), some v, some (.int (0 + (j : Int)))] = [some (V.ref a), some (.int c), some (.ref p), some v', v4] ∧ GvX K C p M' v' o ∧ SmO (nB (j + 1)) (mB (j + 1)) o ∧ WellAt M' p z ∧ 0 ≤ z ∧ z ≤ 20001 + 10 * ((j + 1 : Nat) : Int) ∧ But p G3 M' := fun {M'} s =>
          ⟨v, o, z, _, rfl, gv.same s, sm.up (by unfold nB; omega) (by show mB j ≤ 2 * mB j + 61; omega), wM.same s, z0, by omega, bM.trans (same_but s)⟩
        rcases id gv with ⟨rfl, ty, hty, hk⟩ | ⟨g, xs, os, rfl, rfl, np, eg, hx, l200⟩
        · exact ⟨_, rfl, _, _, ty, _, false, rfl, ClsV.ty _, hty, hk, false, rfl, iteF (iteF (stay (Same.refl _)))⟩
        refine ⟨_, rfl, _, _, _, _, true, rfl, ClsV.ty _, ty_lst (SqL.of eg), kit_ty (by decide +kernel), true, rfl, iteT ?_⟩
        refine ⟨_, rfl, (by show 0 ≤ sizeLine; decide), fun L hL => ?_⟩
        have s5 : Same M (upd M L (.lst [])) := same1 hL
        have eL : (upd M L (.lst []) : Hp) L = some (.lst []) := upd_same
        generalize upd M L (.lst []) = M1 at *
        refine ⟨g, L, xs, rfl, rfl, SqL.of (s5 _ _ eg), SqL.of eL, _, rfl, ?_⟩
        have lx := hx.len
        cases xs with
        | nil => exact iteF (stay s5)
        | cons x0 xr =>
          refine iteT ?_
          have w5 := wM.same s5
          refine ⟨_, rfl, _, rfl, p, .ref g, z, os, nB j, mB j, rfl, w5, z0, by omega, gv.same s5, sm, by rw [← lx]; simp, by unfold nB; omega, ?_, fun M2 v' o' z' b6 w6 z60 z61 gv' sm' => ?_⟩
          · have h : j = 0 ∨ j = 1 := by omega
            rcases h with h | h <;> subst h <;> decide
          · exact ⟨v', o', z', _, rfl, gv', sm'.up (by unfold nB; omega) (Nat.le_refl _), w6, z60, by omega, bM.trans ((same_but s5).trans b6)⟩
      · rintro σ M ⟨v, o, z, v4, rfl, gv, sm, wM, z0, z1, bM⟩
        refine ⟨_, rfl, _, rfl, p, v, z, o, rfl, wM, z0, by omega, gv, fun M2 b6 => ⟨true, rfl, iteF ?_⟩⟩
        exact ⟨⟨_, _, _, _, rfl⟩, b6 _ _ Bp (bM _ _ Bp gB3)⟩
    · rintro σ G ⟨⟨v1, v2, v3, v4, rfl⟩, _⟩
      exact q _
end
end K11

namespace K11
open PySem PySem.Spec PyProof.Rows L2
theorem exm_own {K : PySem.W.Frag} {S : Addr} (h1 : PySem.W.subIn K (.ref S) (.type "BaseException") = some true) (h2 : PySem.W.isClsIn K S = true) (h3 : PySem.W.typeIn K (.ref S) = some (.type "type")) (h4 : PySem.W.subIn K (.ref S) (.ref S) = some true) :
    PySem.W.exmOne K (.ref S) (.ref S) = some true := by
  have a : (PySem.W.subIn K (.ref S) (.type "BaseException") == some true) = true := by rw [h1] <;> rfl
  have b : ((PySem.W.clsIn K S).isSome && PySem.W.typeIn K (.ref S) == some (.type "type")) = true := by
    rw [show (PySem.W.clsIn K S).isSome = true from h2, h3] <;> rfl
  show (if (PySem.W.subIn K (.ref S) (.type "BaseException") == some true) = true then (if ((PySem.W.clsIn K S).isSome && PySem.W.typeIn K (.ref S) == some (.type "type")) = true then PySem.W.subIn K (.ref S) (.ref S) else none) else none) = some true
  rw [if_pos a, if_pos b]
  exact h4
end K11

namespace K11
open PySem PySem.Spec PyProof.Rows L2
theorem all_mk {P : Program} {w : World} {K : PySem.W.Frag} {h : Heap} {mg : Str → Option Value} {fa : Addr} (X : K.In h) (G : h.Ns mainGlobals mg) (hfa : mg "law" = some (.ref fa))
    {tk_LAST_DAY : Tok}
    {tk_MOST_STRETCHES : Tok}
    {tk_MOST_SHARES : Tok}
    {cRillError : Addr}
    {cNoShare : Addr}
    {cNoCourse : Addr}
    {cNoDay : Addr}
    {cShare : Addr}
    {f_Share_init : Addr} {od_Share_init an_Share_init : Option Addr} {sl_Share_init : Array (Option Value)} {oc_Share_init kV_Share_init dc_Share_init pm_Share_init ct_Share_init : Value}
    {cd_Share_init : Value}
    {TD_Share_init : Addr} {ocTD_Share_init : Value} {odTD_Share_init : Option Addr} {nTD_Share_init : Nat} {slTD_Share_init : Array (Option Value)} {tkTD_Share_init : Tok}
    {f_Share_eq : Addr} {od_Share_eq an_Share_eq : Option Addr} {sl_Share_eq : Array (Option Value)} {oc_Share_eq kV_Share_eq dc_Share_eq pm_Share_eq ct_Share_eq : Value}
    {cd_Share_eq : Value}
    {cCourse : Addr}
    {f_Course_init : Addr} {od_Course_init an_Course_init : Option Addr} {sl_Course_init : Array (Option Value)} {oc_Course_init kV_Course_init dc_Course_init pm_Course_init ct_Course_init : Value}
    {cd_Course_init : Value}
    {f_Course_eq : Addr} {od_Course_eq an_Course_eq : Option Addr} {sl_Course_eq : Array (Option Value)} {oc_Course_eq kV_Course_eq dc_Course_eq pm_Course_eq ct_Course_eq : Value}
    {cd_Course_eq : Value}
    {f_is_whole : Addr} {od_is_whole an_is_whole : Option Addr} {sl_is_whole : Array (Option Value)} {oc_is_whole kV_is_whole dc_is_whole pm_is_whole ct_is_whole : Value}
    {cd_is_whole : Value}
    {f_is_between : Addr} {od_is_between an_is_between : Option Addr} {sl_is_between : Array (Option Value)} {oc_is_between kV_is_between dc_is_between pm_is_between ct_is_between : Value}
    {cd_is_between : Value}
    {f_is_day : Addr} {od_is_day an_is_day : Option Addr} {sl_is_day : Array (Option Value)} {oc_is_day kV_is_day dc_is_day pm_is_day ct_is_day : Value}
    {cd_is_day : Value}
    {f_least_word : Addr} {od_least_word an_least_word : Option Addr} {sl_least_word : Array (Option Value)} {oc_least_word kV_least_word dc_least_word pm_least_word ct_least_word : Value}
    {cd_least_word : Value}
    {f_spans_of : Addr} {od_spans_of an_spans_of : Option Addr} {sl_spans_of : Array (Option Value)} {oc_spans_of kV_spans_of dc_spans_of pm_spans_of ct_spans_of : Value}
    {cd_spans_of : Value}
    {f_number_on : Addr} {od_number_on an_number_on : Option Addr} {sl_number_on : Array (Option Value)} {oc_number_on kV_number_on dc_number_on pm_number_on ct_number_on : Value}
    {cd_number_on : Value}
    {f_share_on : Addr} {od_share_on an_share_on : Option Addr} {sl_share_on : Array (Option Value)} {oc_share_on kV_share_on dc_share_on pm_share_on ct_share_on : Value}
    {cd_share_on : Value}
    {f_sooner : Addr} {od_sooner an_sooner : Option Addr} {sl_sooner : Array (Option Value)} {oc_sooner kV_sooner dc_sooner pm_sooner ct_sooner : Value}
    {cd_sooner : Value}
    {f_beside : Addr} {od_beside an_beside : Option Addr} {sl_beside : Array (Option Value)} {oc_beside kV_beside dc_beside pm_beside ct_beside : Value}
    {cd_beside : Value}
    {f_are_stretches : Addr} {od_are_stretches an_are_stretches : Option Addr} {sl_are_stretches : Array (Option Value)} {oc_are_stretches kV_are_stretches dc_are_stretches pm_are_stretches ct_are_stretches : Value}
    {cd_are_stretches : Value}
    {f_is_stretch : Addr} {od_is_stretch an_is_stretch : Option Addr} {sl_is_stretch : Array (Option Value)} {oc_is_stretch kV_is_stretch dc_is_stretch pm_is_stretch ct_is_stretch : Value}
    {cd_is_stretch : Value}
    {f_is_word : Addr} {od_is_word an_is_word : Option Addr} {sl_is_word : Array (Option Value)} {oc_is_word kV_is_word dc_is_word pm_is_word ct_is_word : Value}
    {cd_is_word : Value}
    {f_on : Addr} {od_on an_on : Option Addr} {sl_on : Array (Option Value)} {oc_on kV_on dc_on pm_on ct_on : Value}
    {cd_on : Value}
    {f_first_unlike : Addr} {od_first_unlike an_first_unlike : Option Addr} {sl_first_unlike : Array (Option Value)} {oc_first_unlike kV_first_unlike dc_first_unlike pm_first_unlike ct_first_unlike : Value}
    {cd_first_unlike : Value}
    {f_law_well : Addr} {od_law_well an_law_well : Option Addr} {sl_law_well : Array (Option Value)} {oc_law_well kV_law_well dc_law_well pm_law_well ct_law_well : Value}
    {cd_law_well : Value}
    {f_law_draw : Addr} {od_law_draw an_law_draw : Option Addr} {sl_law_draw : Array (Option Value)} {oc_law_draw kV_law_draw dc_law_draw pm_law_draw ct_law_draw : Value}
    {cd_law_draw : Value}
    {f_law_one : Addr} {od_law_one an_law_one : Option Addr} {sl_law_one : Array (Option Value)} {oc_law_one kV_law_one dc_law_one pm_law_one ct_law_one : Value}
    {cd_law_one : Value}
    {f_law_low : Addr} {od_law_low an_law_low : Option Addr} {sl_law_low : Array (Option Value)} {oc_law_low kV_law_low dc_law_low pm_law_low ct_law_low : Value}
    {cd_law_low : Value}
    {f_law_word : Addr} {od_law_word an_law_word : Option Addr} {sl_law_word : Array (Option Value)} {oc_law_word kV_law_word dc_law_word pm_law_word ct_law_word : Value}
    {cd_law_word : Value}
    {f_law_stretches : Addr} {od_law_stretches an_law_stretches : Option Addr} {sl_law_stretches : Array (Option Value)} {oc_law_stretches kV_law_stretches dc_law_stretches pm_law_stretches ct_law_stretches : Value}
    {cd_law_stretches : Value}
    {f_law_on : Addr} {od_law_on an_law_on : Option Addr} {sl_law_on : Array (Option Value)} {oc_law_on kV_law_on dc_law_on pm_law_on ct_law_on : Value}
    {cd_law_on : Value}
    {f_law_given : Addr} {od_law_given an_law_given : Option Addr} {sl_law_given : Array (Option Value)} {oc_law_given kV_law_given dc_law_given pm_law_given ct_law_given : Value}
    {cd_law_given : Value}
    {f_law_amiss : Addr} {od_law_amiss an_law_amiss : Option Addr} {sl_law_amiss : Array (Option Value)} {oc_law_amiss kV_law_amiss dc_law_amiss pm_law_amiss ct_law_amiss : Value}
    {cd_law_amiss : Value}
    {f_law_is_good : Addr} {od_law_is_good an_law_is_good : Option Addr} {sl_law_is_good : Array (Option Value)} {oc_law_is_good kV_law_is_good dc_law_is_good pm_law_is_good ct_law_is_good : Value}
    {cd_law_is_good : Value}
    {f_law_made : Addr} {od_law_made an_law_made : Option Addr} {sl_law_made : Array (Option Value)} {oc_law_made kV_law_made dc_law_made pm_law_made ct_law_made : Value}
    {cd_law_made : Value}
    {f_law_right : Addr} {od_law_right an_law_right : Option Addr} {sl_law_right : Array (Option Value)} {oc_law_right kV_law_right dc_law_right pm_law_right ct_law_right : Value}
    {cd_law_right : Value}
    {f_law : Addr} {od_law an_law : Option Addr} {sl_law : Array (Option Value)} {oc_law kV_law dc_law pm_law ct_law : Value}
    {cd_law : Value}
    (z_ValueError : PySem.W.nsIn K mainGlobals "ValueError" = some none)
    (z_abs : PySem.W.nsIn K mainGlobals "abs" = some none)
    (z_all : PySem.W.nsIn K mainGlobals "all" = some none)
    (z_any : PySem.W.nsIn K mainGlobals "any" = some none)
    (z_bool : PySem.W.nsIn K mainGlobals "bool" = some none)
    (z_enumerate : PySem.W.nsIn K mainGlobals "enumerate" = some none)
    (z_int : PySem.W.nsIn K mainGlobals "int" = some none)
    (z_isinstance : PySem.W.nsIn K mainGlobals "isinstance" = some none)
    (z_len : PySem.W.nsIn K mainGlobals "len" = some none)
    (z_list : PySem.W.nsIn K mainGlobals "list" = some none)
    (z_min : PySem.W.nsIn K mainGlobals "min" = some none)
    (z_range : PySem.W.nsIn K mainGlobals "range" = some none)
    (z_tuple : PySem.W.nsIn K mainGlobals "tuple" = some none)
    (i_gcd : PySem.W.nsIn K mainGlobals "gcd" = some (some (.builtin "math.gcd")))
    (g_LAST_DAY : PySem.W.nsIn K mainGlobals "LAST_DAY" = some (some (.int 1000000000000000 tk_LAST_DAY)))
    (g_MOST_STRETCHES : PySem.W.nsIn K mainGlobals "MOST_STRETCHES" = some (some (.int 60 tk_MOST_STRETCHES)))
    (g_MOST_SHARES : PySem.W.nsIn K mainGlobals "MOST_SHARES" = some (some (.int 60 tk_MOST_SHARES)))
    (acRillError : PySem.W.nsIn K mainGlobals "RillError" = some (some (.ref cRillError)))
    (xcRillError : PySem.W.excIn K cRillError [.type "ValueError", .type "Exception", .type "BaseException", .type "object"] "ValueError.__new__" = true)
    (kcRillError : PySem.W.keepIn K (.ref cRillError) = true)
    (bcRillError : PySem.W.subIn K (.ref cRillError) (.type "BaseException") = some true)
    (tcRillError : PySem.W.typeIn K (.ref cRillError) = some (.type "type"))
    (icRillError : PySem.W.isClsIn K cRillError = true)
    (scRillError : PySem.W.subIn K (.ref cRillError) (.ref cRillError) = some true)
    (acNoShare : PySem.W.nsIn K mainGlobals "NoShare" = some (some (.ref cNoShare)))
    (xcNoShare : PySem.W.excIn K cNoShare [.type "ValueError", .type "Exception", .type "BaseException", .type "object"] "ValueError.__new__" = true)
    (kcNoShare : PySem.W.keepIn K (.ref cNoShare) = true)
    (bcNoShare : PySem.W.subIn K (.ref cNoShare) (.type "BaseException") = some true)
    (tcNoShare : PySem.W.typeIn K (.ref cNoShare) = some (.type "type"))
    (icNoShare : PySem.W.isClsIn K cNoShare = true)
    (scNoShare : PySem.W.subIn K (.ref cNoShare) (.ref cNoShare) = some true)
    (acNoCourse : PySem.W.nsIn K mainGlobals "NoCourse" = some (some (.ref cNoCourse)))
    (xcNoCourse : PySem.W.excIn K cNoCourse [.type "ValueError", .type "Exception", .type "BaseException", .type "object"] "ValueError.__new__" = true)
    (kcNoCourse : PySem.W.keepIn K (.ref cNoCourse) = true)
    (bcNoCourse : PySem.W.subIn K (.ref cNoCourse) (.type "BaseException") = some true)
    (tcNoCourse : PySem.W.typeIn K (.ref cNoCourse) = some (.type "type"))
    (icNoCourse : PySem.W.isClsIn K cNoCourse = true)
    (scNoCourse : PySem.W.subIn K (.ref cNoCourse) (.ref cNoCourse) = some true)
    (acNoDay : PySem.W.nsIn K mainGlobals "NoDay" = some (some (.ref cNoDay)))
    (xcNoDay : PySem.W.excIn K cNoDay [.type "ValueError", .type "Exception", .type "BaseException", .type "object"] "ValueError.__new__" = true)
    (kcNoDay : PySem.W.keepIn K (.ref cNoDay) = true)
    (bcNoDay : PySem.W.subIn K (.ref cNoDay) (.type "BaseException") = some true)
    (tcNoDay : PySem.W.typeIn K (.ref cNoDay) = some (.type "type"))
    (icNoDay : PySem.W.isClsIn K cNoDay = true)
    (scNoDay : PySem.W.subIn K (.ref cNoDay) (.ref cNoDay) = some true)
    (acShare : PySem.W.nsIn K mainGlobals "Share" = some (some (.ref cShare)))
    (pgcShare : PySem.W.plainGet K cShare Str.empty = true)
    (hdcShare : PySem.W.hasDictIn K cShare = true)
    (pocShare : PySem.W.plainOver K cShare = true)
    (sacShare : PySem.W.findIn K (.ref cShare) "__setattr__" = some (some (.builtin "object.__setattr__")))
    (mkcShare : PySem.W.makesIn K cShare = true)
    (kccShare : PySem.W.keepIn K (.ref cShare) = true)
    (ncShare_bottom : PySem.W.findIn K (.ref cShare) "bottom" = some none)
    (ncShare_top : PySem.W.findIn K (.ref cShare) "top" = some none)
    (gccShare : PySem.W.findIn K (.ref cShare) "__class__" = some (some (.builtin "object.__class__")))
    (gmcShare : PySem.W.mroIn K cShare (.type "object") = some true)
    (mecShare : PySem.W.kitOne K (.ref cShare) (.ref cShare) = some true)
    (mcShare_tuple : PySem.W.kitOne K (.type "tuple") (.ref cShare) = some false)
    (ucShare_tuple : PySem.W.kitOne K (.ref cShare) (.type "tuple") = some false)
    (mcShare_int : PySem.W.kitOne K (.type "int") (.ref cShare) = some false)
    (ucShare_int : PySem.W.kitOne K (.ref cShare) (.type "int") = some false)
    (mcShare_NoneType : PySem.W.kitOne K (.type "NoneType") (.ref cShare) = some false)
    (mcShare_list : PySem.W.kitOne K (.type "list") (.ref cShare) = some false)
    (ucShare_list : PySem.W.kitOne K (.ref cShare) (.type "list") = some false)
    (mcShare_str : PySem.W.kitOne K (.type "str") (.ref cShare) = some false)
    (mcShare_bool : PySem.W.kitOne K (.type "bool") (.ref cShare) = some false)
    (ucShare_bool : PySem.W.kitOne K (.ref cShare) (.type "bool") = some false)
    (mcShare_dict : PySem.W.kitOne K (.type "dict") (.ref cShare) = some false)
    (a_Share_init : PySem.W.findIn K (.ref cShare) "__init__" = some (some (.ref f_Share_init)))
    (i_Share_init : PySem.W.isFn K (.ref f_Share_init) = true)
    (l_Share_init : K.lookup f_Share_init = some ⟨oc_Share_init, od_Share_init, .func (PySem.W.fnOf "__init__" "Share.__init__" (defArgs d_Share_init) (defBody d_Share_init) (defScope d_Share_init) (.ref TD_Share_init) kV_Share_init dc_Share_init pm_Share_init an_Share_init cd_Share_init ct_Share_init), sl_Share_init⟩)
    (c_Share_init : PySem.W.codeIn K cd_Share_init "Share.__init__" = true)
    (k_Share_init : PySem.W.keepIn K (.ref f_Share_init) = true)
    (lTD_Share_init : K.lookup TD_Share_init = some ⟨ocTD_Share_init, odTD_Share_init, .seq [Value.int 1 tkTD_Share_init].toArray nTD_Share_init, slTD_Share_init⟩)
    (a_Share_eq : PySem.W.findIn K (.ref cShare) "__eq__" = some (some (.ref f_Share_eq)))
    (i_Share_eq : PySem.W.isFn K (.ref f_Share_eq) = true)
    (l_Share_eq : K.lookup f_Share_eq = some ⟨oc_Share_eq, od_Share_eq, .func (PySem.W.fnOf "__eq__" "Share.__eq__" (defArgs d_Share_eq) (defBody d_Share_eq) (defScope d_Share_eq) .none kV_Share_eq dc_Share_eq pm_Share_eq an_Share_eq cd_Share_eq ct_Share_eq), sl_Share_eq⟩)
    (c_Share_eq : PySem.W.codeIn K cd_Share_eq "Share.__eq__" = true)
    (k_Share_eq : PySem.W.keepIn K (.ref f_Share_eq) = true)
    (acCourse : PySem.W.nsIn K mainGlobals "Course" = some (some (.ref cCourse)))
    (pgcCourse : PySem.W.plainGet K cCourse Str.empty = true)
    (hdcCourse : PySem.W.hasDictIn K cCourse = true)
    (pocCourse : PySem.W.plainOver K cCourse = true)
    (sacCourse : PySem.W.findIn K (.ref cCourse) "__setattr__" = some (some (.builtin "object.__setattr__")))
    (mkcCourse : PySem.W.makesIn K cCourse = true)
    (kccCourse : PySem.W.keepIn K (.ref cCourse) = true)
    (ncCourse_spans : PySem.W.findIn K (.ref cCourse) "spans" = some none)
    (gccCourse : PySem.W.findIn K (.ref cCourse) "__class__" = some (some (.builtin "object.__class__")))
    (gmcCourse : PySem.W.mroIn K cCourse (.type "object") = some true)
    (mecCourse : PySem.W.kitOne K (.ref cCourse) (.ref cCourse) = some true)
    (mcCourse_tuple : PySem.W.kitOne K (.type "tuple") (.ref cCourse) = some false)
    (ucCourse_tuple : PySem.W.kitOne K (.ref cCourse) (.type "tuple") = some false)
    (mcCourse_int : PySem.W.kitOne K (.type "int") (.ref cCourse) = some false)
    (ucCourse_int : PySem.W.kitOne K (.ref cCourse) (.type "int") = some false)
    (mcCourse_NoneType : PySem.W.kitOne K (.type "NoneType") (.ref cCourse) = some false)
    (mcCourse_list : PySem.W.kitOne K (.type "list") (.ref cCourse) = some false)
    (ucCourse_list : PySem.W.kitOne K (.ref cCourse) (.type "list") = some false)
    (mcCourse_str : PySem.W.kitOne K (.type "str") (.ref cCourse) = some false)
    (mcCourse_bool : PySem.W.kitOne K (.type "bool") (.ref cCourse) = some false)
    (ucCourse_bool : PySem.W.kitOne K (.ref cCourse) (.type "bool") = some false)
    (mcCourse_dict : PySem.W.kitOne K (.type "dict") (.ref cCourse) = some false)
    (a_Course_init : PySem.W.findIn K (.ref cCourse) "__init__" = some (some (.ref f_Course_init)))
    (i_Course_init : PySem.W.isFn K (.ref f_Course_init) = true)
    (l_Course_init : K.lookup f_Course_init = some ⟨oc_Course_init, od_Course_init, .func (PySem.W.fnOf "__init__" "Course.__init__" (defArgs d_Course_init) (defBody d_Course_init) (defScope d_Course_init) .none kV_Course_init dc_Course_init pm_Course_init an_Course_init cd_Course_init ct_Course_init), sl_Course_init⟩)
    (c_Course_init : PySem.W.codeIn K cd_Course_init "Course.__init__" = true)
    (k_Course_init : PySem.W.keepIn K (.ref f_Course_init) = true)
    (a_Course_eq : PySem.W.findIn K (.ref cCourse) "__eq__" = some (some (.ref f_Course_eq)))
    (i_Course_eq : PySem.W.isFn K (.ref f_Course_eq) = true)
    (l_Course_eq : K.lookup f_Course_eq = some ⟨oc_Course_eq, od_Course_eq, .func (PySem.W.fnOf "__eq__" "Course.__eq__" (defArgs d_Course_eq) (defBody d_Course_eq) (defScope d_Course_eq) .none kV_Course_eq dc_Course_eq pm_Course_eq an_Course_eq cd_Course_eq ct_Course_eq), sl_Course_eq⟩)
    (c_Course_eq : PySem.W.codeIn K cd_Course_eq "Course.__eq__" = true)
    (k_Course_eq : PySem.W.keepIn K (.ref f_Course_eq) = true)
    (a_is_whole : PySem.W.nsIn K mainGlobals "is_whole" = some (some (.ref f_is_whole)))
    (l_is_whole : K.lookup f_is_whole = some ⟨oc_is_whole, od_is_whole, .func (PySem.W.fnOf "is_whole" "is_whole" (defArgs d_is_whole) (defBody d_is_whole) (defScope d_is_whole) .none kV_is_whole dc_is_whole pm_is_whole an_is_whole cd_is_whole ct_is_whole), sl_is_whole⟩)
    (c_is_whole : PySem.W.codeIn K cd_is_whole "is_whole" = true)
    (k_is_whole : PySem.W.keepIn K (.ref f_is_whole) = true)
    (a_is_between : PySem.W.nsIn K mainGlobals "is_between" = some (some (.ref f_is_between)))
    (l_is_between : K.lookup f_is_between = some ⟨oc_is_between, od_is_between, .func (PySem.W.fnOf "is_between" "is_between" (defArgs d_is_between) (defBody d_is_between) (defScope d_is_between) .none kV_is_between dc_is_between pm_is_between an_is_between cd_is_between ct_is_between), sl_is_between⟩)
    (c_is_between : PySem.W.codeIn K cd_is_between "is_between" = true)
    (k_is_between : PySem.W.keepIn K (.ref f_is_between) = true)
    (a_is_day : PySem.W.nsIn K mainGlobals "is_day" = some (some (.ref f_is_day)))
    (l_is_day : K.lookup f_is_day = some ⟨oc_is_day, od_is_day, .func (PySem.W.fnOf "is_day" "is_day" (defArgs d_is_day) (defBody d_is_day) (defScope d_is_day) .none kV_is_day dc_is_day pm_is_day an_is_day cd_is_day ct_is_day), sl_is_day⟩)
    (c_is_day : PySem.W.codeIn K cd_is_day "is_day" = true)
    (k_is_day : PySem.W.keepIn K (.ref f_is_day) = true)
    (a_least_word : PySem.W.nsIn K mainGlobals "least_word" = some (some (.ref f_least_word)))
    (l_least_word : K.lookup f_least_word = some ⟨oc_least_word, od_least_word, .func (PySem.W.fnOf "least_word" "least_word" (defArgs d_least_word) (defBody d_least_word) (defScope d_least_word) .none kV_least_word dc_least_word pm_least_word an_least_word cd_least_word ct_least_word), sl_least_word⟩)
    (c_least_word : PySem.W.codeIn K cd_least_word "least_word" = true)
    (k_least_word : PySem.W.keepIn K (.ref f_least_word) = true)
    (a_spans_of : PySem.W.nsIn K mainGlobals "spans_of" = some (some (.ref f_spans_of)))
    (l_spans_of : K.lookup f_spans_of = some ⟨oc_spans_of, od_spans_of, .func (PySem.W.fnOf "spans_of" "spans_of" (defArgs d_spans_of) (defBody d_spans_of) (defScope d_spans_of) .none kV_spans_of dc_spans_of pm_spans_of an_spans_of cd_spans_of ct_spans_of), sl_spans_of⟩)
    (c_spans_of : PySem.W.codeIn K cd_spans_of "spans_of" = true)
    (k_spans_of : PySem.W.keepIn K (.ref f_spans_of) = true)
    (a_number_on : PySem.W.nsIn K mainGlobals "number_on" = some (some (.ref f_number_on)))
    (l_number_on : K.lookup f_number_on = some ⟨oc_number_on, od_number_on, .func (PySem.W.fnOf "number_on" "number_on" (defArgs d_number_on) (defBody d_number_on) (defScope d_number_on) .none kV_number_on dc_number_on pm_number_on an_number_on cd_number_on ct_number_on), sl_number_on⟩)
    (c_number_on : PySem.W.codeIn K cd_number_on "number_on" = true)
    (k_number_on : PySem.W.keepIn K (.ref f_number_on) = true)
    (a_share_on : PySem.W.nsIn K mainGlobals "share_on" = some (some (.ref f_share_on)))
    (l_share_on : K.lookup f_share_on = some ⟨oc_share_on, od_share_on, .func (PySem.W.fnOf "share_on" "share_on" (defArgs d_share_on) (defBody d_share_on) (defScope d_share_on) .none kV_share_on dc_share_on pm_share_on an_share_on cd_share_on ct_share_on), sl_share_on⟩)
    (c_share_on : PySem.W.codeIn K cd_share_on "share_on" = true)
    (k_share_on : PySem.W.keepIn K (.ref f_share_on) = true)
    (a_sooner : PySem.W.nsIn K mainGlobals "sooner" = some (some (.ref f_sooner)))
    (l_sooner : K.lookup f_sooner = some ⟨oc_sooner, od_sooner, .func (PySem.W.fnOf "sooner" "sooner" (defArgs d_sooner) (defBody d_sooner) (defScope d_sooner) .none kV_sooner dc_sooner pm_sooner an_sooner cd_sooner ct_sooner), sl_sooner⟩)
    (c_sooner : PySem.W.codeIn K cd_sooner "sooner" = true)
    (k_sooner : PySem.W.keepIn K (.ref f_sooner) = true)
    (a_beside : PySem.W.nsIn K mainGlobals "beside" = some (some (.ref f_beside)))
    (l_beside : K.lookup f_beside = some ⟨oc_beside, od_beside, .func (PySem.W.fnOf "beside" "beside" (defArgs d_beside) (defBody d_beside) (defScope d_beside) .none kV_beside dc_beside pm_beside an_beside cd_beside ct_beside), sl_beside⟩)
    (c_beside : PySem.W.codeIn K cd_beside "beside" = true)
    (k_beside : PySem.W.keepIn K (.ref f_beside) = true)
    (a_are_stretches : PySem.W.nsIn K mainGlobals "are_stretches" = some (some (.ref f_are_stretches)))
    (l_are_stretches : K.lookup f_are_stretches = some ⟨oc_are_stretches, od_are_stretches, .func (PySem.W.fnOf "are_stretches" "are_stretches" (defArgs d_are_stretches) (defBody d_are_stretches) (defScope d_are_stretches) .none kV_are_stretches dc_are_stretches pm_are_stretches an_are_stretches cd_are_stretches ct_are_stretches), sl_are_stretches⟩)
    (c_are_stretches : PySem.W.codeIn K cd_are_stretches "are_stretches" = true)
    (k_are_stretches : PySem.W.keepIn K (.ref f_are_stretches) = true)
    (a_is_stretch : PySem.W.nsIn K mainGlobals "is_stretch" = some (some (.ref f_is_stretch)))
    (l_is_stretch : K.lookup f_is_stretch = some ⟨oc_is_stretch, od_is_stretch, .func (PySem.W.fnOf "is_stretch" "is_stretch" (defArgs d_is_stretch) (defBody d_is_stretch) (defScope d_is_stretch) .none kV_is_stretch dc_is_stretch pm_is_stretch an_is_stretch cd_is_stretch ct_is_stretch), sl_is_stretch⟩)
    (c_is_stretch : PySem.W.codeIn K cd_is_stretch "is_stretch" = true)
    (k_is_stretch : PySem.W.keepIn K (.ref f_is_stretch) = true)
    (a_is_word : PySem.W.nsIn K mainGlobals "is_word" = some (some (.ref f_is_word)))
    (l_is_word : K.lookup f_is_word = some ⟨oc_is_word, od_is_word, .func (PySem.W.fnOf "is_word" "is_word" (defArgs d_is_word) (defBody d_is_word) (defScope d_is_word) .none kV_is_word dc_is_word pm_is_word an_is_word cd_is_word ct_is_word), sl_is_word⟩)
    (c_is_word : PySem.W.codeIn K cd_is_word "is_word" = true)
    (k_is_word : PySem.W.keepIn K (.ref f_is_word) = true)
    (a_on : PySem.W.nsIn K mainGlobals "on" = some (some (.ref f_on)))
    (l_on : K.lookup f_on = some ⟨oc_on, od_on, .func (PySem.W.fnOf "on" "on" (defArgs d_on) (defBody d_on) (defScope d_on) .none kV_on dc_on pm_on an_on cd_on ct_on), sl_on⟩)
    (c_on : PySem.W.codeIn K cd_on "on" = true)
    (k_on : PySem.W.keepIn K (.ref f_on) = true)
    (a_first_unlike : PySem.W.nsIn K mainGlobals "first_unlike" = some (some (.ref f_first_unlike)))
    (l_first_unlike : K.lookup f_first_unlike = some ⟨oc_first_unlike, od_first_unlike, .func (PySem.W.fnOf "first_unlike" "first_unlike" (defArgs d_first_unlike) (defBody d_first_unlike) (defScope d_first_unlike) .none kV_first_unlike dc_first_unlike pm_first_unlike an_first_unlike cd_first_unlike ct_first_unlike), sl_first_unlike⟩)
    (c_first_unlike : PySem.W.codeIn K cd_first_unlike "first_unlike" = true)
    (k_first_unlike : PySem.W.keepIn K (.ref f_first_unlike) = true)
    (a_law_well : PySem.W.nsIn K mainGlobals "_law_well" = some (some (.ref f_law_well)))
    (l_law_well : K.lookup f_law_well = some ⟨oc_law_well, od_law_well, .func (PySem.W.fnOf "_law_well" "_law_well" (defArgs d_law_well) (defBody d_law_well) (defScope d_law_well) .none kV_law_well dc_law_well pm_law_well an_law_well cd_law_well ct_law_well), sl_law_well⟩)
    (c_law_well : PySem.W.codeIn K cd_law_well "_law_well" = true)
    (k_law_well : PySem.W.keepIn K (.ref f_law_well) = true)
    (a_law_draw : PySem.W.nsIn K mainGlobals "_law_draw" = some (some (.ref f_law_draw)))
    (l_law_draw : K.lookup f_law_draw = some ⟨oc_law_draw, od_law_draw, .func (PySem.W.fnOf "_law_draw" "_law_draw" (defArgs d_law_draw) (defBody d_law_draw) (defScope d_law_draw) .none kV_law_draw dc_law_draw pm_law_draw an_law_draw cd_law_draw ct_law_draw), sl_law_draw⟩)
    (c_law_draw : PySem.W.codeIn K cd_law_draw "_law_draw" = true)
    (k_law_draw : PySem.W.keepIn K (.ref f_law_draw) = true)
    (a_law_one : PySem.W.nsIn K mainGlobals "_law_one" = some (some (.ref f_law_one)))
    (l_law_one : K.lookup f_law_one = some ⟨oc_law_one, od_law_one, .func (PySem.W.fnOf "_law_one" "_law_one" (defArgs d_law_one) (defBody d_law_one) (defScope d_law_one) .none kV_law_one dc_law_one pm_law_one an_law_one cd_law_one ct_law_one), sl_law_one⟩)
    (c_law_one : PySem.W.codeIn K cd_law_one "_law_one" = true)
    (k_law_one : PySem.W.keepIn K (.ref f_law_one) = true)
    (a_law_low : PySem.W.nsIn K mainGlobals "_law_low" = some (some (.ref f_law_low)))
    (l_law_low : K.lookup f_law_low = some ⟨oc_law_low, od_law_low, .func (PySem.W.fnOf "_law_low" "_law_low" (defArgs d_law_low) (defBody d_law_low) (defScope d_law_low) .none kV_law_low dc_law_low pm_law_low an_law_low cd_law_low ct_law_low), sl_law_low⟩)
    (c_law_low : PySem.W.codeIn K cd_law_low "_law_low" = true)
    (k_law_low : PySem.W.keepIn K (.ref f_law_low) = true)
    (a_law_word : PySem.W.nsIn K mainGlobals "_law_word" = some (some (.ref f_law_word)))
    (l_law_word : K.lookup f_law_word = some ⟨oc_law_word, od_law_word, .func (PySem.W.fnOf "_law_word" "_law_word" (defArgs d_law_word) (defBody d_law_word) (defScope d_law_word) .none kV_law_word dc_law_word pm_law_word an_law_word cd_law_word ct_law_word), sl_law_word⟩)
    (c_law_word : PySem.W.codeIn K cd_law_word "_law_word" = true)
    (k_law_word : PySem.W.keepIn K (.ref f_law_word) = true)
    (a_law_stretches : PySem.W.nsIn K mainGlobals "_law_stretches" = some (some (.ref f_law_stretches)))
    (l_law_stretches : K.lookup f_law_stretches = some ⟨oc_law_stretches, od_law_stretches, .func (PySem.W.fnOf "_law_stretches" "_law_stretches" (defArgs d_law_stretches) (defBody d_law_stretches) (defScope d_law_stretches) .none kV_law_stretches dc_law_stretches pm_law_stretches an_law_stretches cd_law_stretches ct_law_stretches), sl_law_stretches⟩)
    (c_law_stretches : PySem.W.codeIn K cd_law_stretches "_law_stretches" = true)
    (k_law_stretches : PySem.W.keepIn K (.ref f_law_stretches) = true)
    (a_law_on : PySem.W.nsIn K mainGlobals "_law_on" = some (some (.ref f_law_on)))
    (l_law_on : K.lookup f_law_on = some ⟨oc_law_on, od_law_on, .func (PySem.W.fnOf "_law_on" "_law_on" (defArgs d_law_on) (defBody d_law_on) (defScope d_law_on) .none kV_law_on dc_law_on pm_law_on an_law_on cd_law_on ct_law_on), sl_law_on⟩)
    (c_law_on : PySem.W.codeIn K cd_law_on "_law_on" = true)
    (k_law_on : PySem.W.keepIn K (.ref f_law_on) = true)
    (a_law_given : PySem.W.nsIn K mainGlobals "_law_given" = some (some (.ref f_law_given)))
    (l_law_given : K.lookup f_law_given = some ⟨oc_law_given, od_law_given, .func (PySem.W.fnOf "_law_given" "_law_given" (defArgs d_law_given) (defBody d_law_given) (defScope d_law_given) .none kV_law_given dc_law_given pm_law_given an_law_given cd_law_given ct_law_given), sl_law_given⟩)
    (c_law_given : PySem.W.codeIn K cd_law_given "_law_given" = true)
    (k_law_given : PySem.W.keepIn K (.ref f_law_given) = true)
    (a_law_amiss : PySem.W.nsIn K mainGlobals "_law_amiss" = some (some (.ref f_law_amiss)))
    (l_law_amiss : K.lookup f_law_amiss = some ⟨oc_law_amiss, od_law_amiss, .func (PySem.W.fnOf "_law_amiss" "_law_amiss" (defArgs d_law_amiss) (defBody d_law_amiss) (defScope d_law_amiss) .none kV_law_amiss dc_law_amiss pm_law_amiss an_law_amiss cd_law_amiss ct_law_amiss), sl_law_amiss⟩)
    (c_law_amiss : PySem.W.codeIn K cd_law_amiss "_law_amiss" = true)
    (k_law_amiss : PySem.W.keepIn K (.ref f_law_amiss) = true)
    (a_law_is_good : PySem.W.nsIn K mainGlobals "_law_is_good" = some (some (.ref f_law_is_good)))
    (l_law_is_good : K.lookup f_law_is_good = some ⟨oc_law_is_good, od_law_is_good, .func (PySem.W.fnOf "_law_is_good" "_law_is_good" (defArgs d_law_is_good) (defBody d_law_is_good) (defScope d_law_is_good) .none kV_law_is_good dc_law_is_good pm_law_is_good an_law_is_good cd_law_is_good ct_law_is_good), sl_law_is_good⟩)
    (c_law_is_good : PySem.W.codeIn K cd_law_is_good "_law_is_good" = true)
    (k_law_is_good : PySem.W.keepIn K (.ref f_law_is_good) = true)
    (a_law_made : PySem.W.nsIn K mainGlobals "_law_made" = some (some (.ref f_law_made)))
    (l_law_made : K.lookup f_law_made = some ⟨oc_law_made, od_law_made, .func (PySem.W.fnOf "_law_made" "_law_made" (defArgs d_law_made) (defBody d_law_made) (defScope d_law_made) .none kV_law_made dc_law_made pm_law_made an_law_made cd_law_made ct_law_made), sl_law_made⟩)
    (c_law_made : PySem.W.codeIn K cd_law_made "_law_made" = true)
    (k_law_made : PySem.W.keepIn K (.ref f_law_made) = true)
    (a_law_right : PySem.W.nsIn K mainGlobals "_law_right" = some (some (.ref f_law_right)))
    (l_law_right : K.lookup f_law_right = some ⟨oc_law_right, od_law_right, .func (PySem.W.fnOf "_law_right" "_law_right" (defArgs d_law_right) (defBody d_law_right) (defScope d_law_right) .none kV_law_right dc_law_right pm_law_right an_law_right cd_law_right ct_law_right), sl_law_right⟩)
    (c_law_right : PySem.W.codeIn K cd_law_right "_law_right" = true)
    (k_law_right : PySem.W.keepIn K (.ref f_law_right) = true)
    (a_law : PySem.W.nsIn K mainGlobals "law" = some (some (.ref f_law)))
    (l_law : K.lookup f_law = some ⟨oc_law, od_law, .func (PySem.W.fnOf "law" "law" (defArgs d_law) (defBody d_law) (defScope d_law) .none kV_law dc_law pm_law an_law cd_law ct_law), sl_law⟩)
    (c_law : PySem.W.codeIn K cd_law "law" = true)
    (k_law : PySem.W.keepIn K (.ref f_law) = true)
    (gs : PySem.W.specialIn K (.builtin "object.__class__") "__get__" = some (some (.builtin "getset_descriptor.__get__")))
    (gt : PySem.W.takesIn K (.builtin "object.__class__") = some true)
    : ∃ fd : FuncData, (∀ (s : Shared) (v : Value), BindsTo s fd ⟨[v], []⟩ [("script", v)]) ∧ ∀ base : Heap, K.In base → base.Ns mainGlobals mg → FnOk P w K mg base CX0 9 fa fd ["script"] (spLaw K) := by
  have e := hfa.symm.trans (PySem.W.mg_of X G a_law)
  cases e
  have z_ValueError := PySem.W.mg_none_of X G z_ValueError
  have z_abs := PySem.W.mg_none_of X G z_abs
  have z_all := PySem.W.mg_none_of X G z_all
  have z_any := PySem.W.mg_none_of X G z_any
  have z_bool := PySem.W.mg_none_of X G z_bool
  have z_enumerate := PySem.W.mg_none_of X G z_enumerate
  have z_int := PySem.W.mg_none_of X G z_int
  have z_isinstance := PySem.W.mg_none_of X G z_isinstance
  have z_len := PySem.W.mg_none_of X G z_len
  have z_list := PySem.W.mg_none_of X G z_list
  have z_min := PySem.W.mg_none_of X G z_min
  have z_range := PySem.W.mg_none_of X G z_range
  have z_tuple := PySem.W.mg_none_of X G z_tuple
  have i_gcd := PySem.W.mg_of X G i_gcd
  have g_LAST_DAY := PySem.W.mg_of X G g_LAST_DAY
  have g_MOST_STRETCHES := PySem.W.mg_of X G g_MOST_STRETCHES
  have g_MOST_SHARES := PySem.W.mg_of X G g_MOST_SHARES
  have mcRillError := PySem.W.mg_of X G acRillError
  have mcNoShare := PySem.W.mg_of X G acNoShare
  have mcNoCourse := PySem.W.mg_of X G acNoCourse
  have mcNoDay := PySem.W.mg_of X G acNoDay
  have mcShare := PySem.W.mg_of X G acShare
  have mcCourse := PySem.W.mg_of X G acCourse
  have ErRillError : ErrC K mg "RillError" cRillError := ⟨PySem.W.mg_of X G acRillError, xcRillError, kcRillError, bcRillError, tcRillError⟩
  have ErNoShare : ErrC K mg "NoShare" cNoShare := ⟨PySem.W.mg_of X G acNoShare, xcNoShare, kcNoShare, bcNoShare, tcNoShare⟩
  have ErNoCourse : ErrC K mg "NoCourse" cNoCourse := ⟨PySem.W.mg_of X G acNoCourse, xcNoCourse, kcNoCourse, bcNoCourse, tcNoCourse⟩
  have ErNoDay : ErrC K mg "NoDay" cNoDay := ⟨PySem.W.mg_of X G acNoDay, xcNoDay, kcNoDay, bcNoDay, tcNoDay⟩
  have F_Share_init : FunD K "__init__" "Share.__init__" (defArgs d_Share_init) (defBody d_Share_init) (defScope d_Share_init) [.int 1] [] f_Share_init _ := ⟨⟨_, _, _, _, _, _, _, _, _, _, rfl, l_Share_init, c_Share_init, .inr ⟨(fun z => nomatch z), TD_Share_init, _, [Value.int 1 tkTD_Share_init], nTD_Share_init, rfl, lTD_Share_init, rfl, .cons ⟨tkTD_Share_init, rfl⟩ .nil⟩, .inl rfl⟩, k_Share_init⟩
  obtain ⟨ds_Share_init3, rd_Share_init3, b_Share_init3⟩ := FunD.binds1 (ps := ["self", "top", "bottom"]) F_Share_init 3 1 (fun z => nomatch z) rfl (fun T kV doc pm an cdv ct us its hu hi => match us, its, hu, hi with | [_, _, _], [_], _, _ => ⟨_, rfl, rfl⟩)
  obtain ⟨ds_Share_init2, rd_Share_init2, b_Share_init2⟩ := FunD.binds1 (ps := ["self", "top", "bottom"]) F_Share_init 2 0 (fun z => nomatch z) rfl (fun T kV doc pm an cdv ct us its hu hi => match us, its, hu, hi with | [_, _], [_], _, _ => ⟨_, rfl, rfl⟩)
  cases rd_Share_init3
  obtain ⟨u0_Share_init, rfl⟩ : ∃ u0, ds_Share_init2 = [u0] := by
    cases rd_Share_init2 with
    | cons r1 rn =>
      cases rn
      exact ⟨_, rfl⟩
  have F_Share_eq := fun_mk (st := d_Share_eq) l_Share_eq c_Share_eq k_Share_eq
  have b_Share_eq := F_Share_eq.binds (ps := ["self", "other"]) fun _ _ _ _ _ _ us hl => match us, hl with | [_, _], _ => rfl
  have F_Course_init := fun_mk (st := d_Course_init) l_Course_init c_Course_init k_Course_init
  have b_Course_init := F_Course_init.binds (ps := ["self", "stretches"]) fun _ _ _ _ _ _ us hl => match us, hl with | [_, _], _ => rfl
  have F_Course_eq := fun_mk (st := d_Course_eq) l_Course_eq c_Course_eq k_Course_eq
  have b_Course_eq := F_Course_eq.binds (ps := ["self", "other"]) fun _ _ _ _ _ _ us hl => match us, hl with | [_, _], _ => rfl
  have F_is_whole := fun_mk (st := d_is_whole) l_is_whole c_is_whole k_is_whole
  have m_is_whole := PySem.W.mg_of X G a_is_whole
  have b_is_whole := F_is_whole.binds (ps := ["thing"]) fun _ _ _ _ _ _ us hl => match us, hl with | [_], _ => rfl
  have F_is_between := fun_mk (st := d_is_between) l_is_between c_is_between k_is_between
  have m_is_between := PySem.W.mg_of X G a_is_between
  have b_is_between := F_is_between.binds (ps := ["thing", "least", "most"]) fun _ _ _ _ _ _ us hl => match us, hl with | [_, _, _], _ => rfl
  have F_is_day := fun_mk (st := d_is_day) l_is_day c_is_day k_is_day
  have m_is_day := PySem.W.mg_of X G a_is_day
  have b_is_day := F_is_day.binds (ps := ["thing"]) fun _ _ _ _ _ _ us hl => match us, hl with | [_], _ => rfl
  have F_least_word := fun_mk (st := d_least_word) l_least_word c_least_word k_least_word
  have m_least_word := PySem.W.mg_of X G a_least_word
  have b_least_word := F_least_word.binds (ps := ["word"]) fun _ _ _ _ _ _ us hl => match us, hl with | [_], _ => rfl
  have F_spans_of := fun_mk (st := d_spans_of) l_spans_of c_spans_of k_spans_of
  have m_spans_of := PySem.W.mg_of X G a_spans_of
  have b_spans_of := F_spans_of.binds (ps := ["stretches"]) fun _ _ _ _ _ _ us hl => match us, hl with | [_], _ => rfl
  have F_number_on := fun_mk (st := d_number_on) l_number_on c_number_on k_number_on
  have m_number_on := PySem.W.mg_of X G a_number_on
  have b_number_on := F_number_on.binds (ps := ["spans", "day"]) fun _ _ _ _ _ _ us hl => match us, hl with | [_, _], _ => rfl
  have F_share_on := fun_mk (st := d_share_on) l_share_on c_share_on k_share_on
  have m_share_on := PySem.W.mg_of X G a_share_on
  have b_share_on := F_share_on.binds (ps := ["span", "day"]) fun _ _ _ _ _ _ us hl => match us, hl with | [_, _], _ => rfl
  have F_sooner := fun_mk (st := d_sooner) l_sooner c_sooner k_sooner
  have m_sooner := PySem.W.mg_of X G a_sooner
  have b_sooner := F_sooner.binds (ps := ["one", "other"]) fun _ _ _ _ _ _ us hl => match us, hl with | [_, _], _ => rfl
  have F_beside := fun_mk (st := d_beside) l_beside c_beside k_beside
  have m_beside := PySem.W.mg_of X G a_beside
  have b_beside := F_beside.binds (ps := ["one", "other"]) fun _ _ _ _ _ _ us hl => match us, hl with | [_, _], _ => rfl
  have F_are_stretches := fun_mk (st := d_are_stretches) l_are_stretches c_are_stretches k_are_stretches
  have m_are_stretches := PySem.W.mg_of X G a_are_stretches
  have b_are_stretches := F_are_stretches.binds (ps := ["things"]) fun _ _ _ _ _ _ us hl => match us, hl with | [_], _ => rfl
  have F_is_stretch := fun_mk (st := d_is_stretch) l_is_stretch c_is_stretch k_is_stretch
  have m_is_stretch := PySem.W.mg_of X G a_is_stretch
  have b_is_stretch := F_is_stretch.binds (ps := ["thing"]) fun _ _ _ _ _ _ us hl => match us, hl with | [_], _ => rfl
  have F_is_word := fun_mk (st := d_is_word) l_is_word c_is_word k_is_word
  have m_is_word := PySem.W.mg_of X G a_is_word
  have b_is_word := F_is_word.binds (ps := ["thing"]) fun _ _ _ _ _ _ us hl => match us, hl with | [_], _ => rfl
  have F_on := fun_mk (st := d_on) l_on c_on k_on
  have m_on := PySem.W.mg_of X G a_on
  have b_on := F_on.binds (ps := ["course", "day"]) fun _ _ _ _ _ _ us hl => match us, hl with | [_, _], _ => rfl
  have F_first_unlike := fun_mk (st := d_first_unlike) l_first_unlike c_first_unlike k_first_unlike
  have m_first_unlike := PySem.W.mg_of X G a_first_unlike
  have b_first_unlike := F_first_unlike.binds (ps := ["one", "other"]) fun _ _ _ _ _ _ us hl => match us, hl with | [_, _], _ => rfl
  have F_law_well := fun_mk (st := d_law_well) l_law_well c_law_well k_law_well
  have m_law_well := PySem.W.mg_of X G a_law_well
  have b_law_well := F_law_well.binds (ps := ["cell"]) fun _ _ _ _ _ _ us hl => match us, hl with | [_], _ => rfl
  have F_law_draw := fun_mk (st := d_law_draw) l_law_draw c_law_draw k_law_draw
  have m_law_draw := PySem.W.mg_of X G a_law_draw
  have b_law_draw := F_law_draw.binds (ps := ["well", "many"]) fun _ _ _ _ _ _ us hl => match us, hl with | [_, _], _ => rfl
  have F_law_one := fun_mk (st := d_law_one) l_law_one c_law_one k_law_one
  have m_law_one := PySem.W.mg_of X G a_law_one
  have b_law_one := F_law_one.binds (ps := ["well", "some"]) fun _ _ _ _ _ _ us hl => match us, hl with | [_, _], _ => rfl
  have F_law_low := fun_mk (st := d_law_low) l_law_low c_law_low k_law_low
  have m_law_low := PySem.W.mg_of X G a_law_low
  have b_law_low := F_law_low.binds (ps := ["top", "bottom"]) fun _ _ _ _ _ _ us hl => match us, hl with | [_, _], _ => rfl
  have F_law_word := fun_mk (st := d_law_word) l_law_word c_law_word k_law_word
  have m_law_word := PySem.W.mg_of X G a_law_word
  have b_law_word := F_law_word.binds (ps := ["well", "most", "far"]) fun _ _ _ _ _ _ us hl => match us, hl with | [_, _, _], _ => rfl
  have F_law_stretches := fun_mk (st := d_law_stretches) l_law_stretches c_law_stretches k_law_stretches
  have m_law_stretches := PySem.W.mg_of X G a_law_stretches
  have b_law_stretches := F_law_stretches.binds (ps := ["well", "most", "word", "long", "far"]) fun _ _ _ _ _ _ us hl => match us, hl with | [_, _, _, _, _], _ => rfl
  have F_law_on := fun_mk (st := d_law_on) l_law_on c_law_on k_law_on
  have m_law_on := PySem.W.mg_of X G a_law_on
  have b_law_on := F_law_on.binds (ps := ["told", "day"]) fun _ _ _ _ _ _ us hl => match us, hl with | [_, _], _ => rfl
  have F_law_given := fun_mk (st := d_law_given) l_law_given c_law_given k_law_given
  have m_law_given := PySem.W.mg_of X G a_law_given
  have b_law_given := F_law_given.binds (ps := ["told"]) fun _ _ _ _ _ _ us hl => match us, hl with | [_], _ => rfl
  have F_law_amiss := fun_mk (st := d_law_amiss) l_law_amiss c_law_amiss k_law_amiss
  have m_law_amiss := PySem.W.mg_of X G a_law_amiss
  have b_law_amiss := F_law_amiss.binds (ps := ["well", "given"]) fun _ _ _ _ _ _ us hl => match us, hl with | [_, _], _ => rfl
  have F_law_is_good := fun_mk (st := d_law_is_good) l_law_is_good c_law_is_good k_law_is_good
  have m_law_is_good := PySem.W.mg_of X G a_law_is_good
  have b_law_is_good := F_law_is_good.binds (ps := ["given"]) fun _ _ _ _ _ _ us hl => match us, hl with | [_], _ => rfl
  have F_law_made := fun_mk (st := d_law_made) l_law_made c_law_made k_law_made
  have m_law_made := PySem.W.mg_of X G a_law_made
  have b_law_made := F_law_made.binds (ps := ["given"]) fun _ _ _ _ _ _ us hl => match us, hl with | [_], _ => rfl
  have F_law_right := fun_mk (st := d_law_right) l_law_right c_law_right k_law_right
  have m_law_right := PySem.W.mg_of X G a_law_right
  have b_law_right := F_law_right.binds (ps := ["well", "given"]) fun _ _ _ _ _ _ us hl => match us, hl with | [_, _], _ => rfl
  have F_law := fun_mk (st := d_law) l_law c_law k_law
  have m_law := PySem.W.mg_of X G a_law
  refine ⟨PySem.W.fnOf "law" "law" (defArgs d_law) (defBody d_law) (defScope d_law) .none kV_law dc_law pm_law an_law cd_law ct_law, fun s v => .of_eq rfl, fun base _ _ => ?_⟩
  have T : Txt K mg cShare cNoShare := ⟨⟨pgcShare, hdcShare, pocShare, sacShare⟩, ncShare_top, ncShare_bottom, mcShare, i_gcd, z_isinstance, z_int, z_bool, mcNoShare, xcNoShare, kcNoShare, bcNoShare, tcNoShare, exm_own bcNoShare icNoShare tcNoShare scNoShare⟩
  have TI : TxtI K cShare := ⟨gccShare, gs, gt, gmcShare, mecShare, mcShare_tuple, mcShare_int, mcShare_NoneType⟩
  have Bt : TxtB mg := ⟨z_int, z_len, z_abs⟩
  have Yt : TxtY mg cShare := ⟨z_isinstance, z_tuple, z_list, z_all, z_any, z_len, mcShare⟩
  have TC : CrsC K cCourse := ⟨⟨pgcCourse, hdcCourse, pocCourse, sacCourse⟩, ncCourse_spans⟩
  have M : Mk K cShare f_Share_init := ⟨mkcShare, a_Share_init, i_Share_init, kccShare⟩
  have MC : Mk K cCourse f_Course_init := ⟨mkcCourse, a_Course_init, i_Course_init, kccCourse⟩
  have GW := ok_whole (P := P) (w := w) (mg := mg) (base := base) F_is_whole T
  have GI := ok_init (P := P) (w := w) (mg := mg) (base := base) F_Share_init T GW m_is_whole k_is_whole b_is_whole
  have GE := ok_eq (P := P) (w := w) (mg := mg) (base := base) F_Share_eq T TI
  have GWX := ok_wholeX (P := P) (w := w) (mg := mg) (base := base) F_is_whole z_isinstance z_int z_bool
  have GBw := ok_between (P := P) (w := w) (mg := mg) (base := base) F_is_between GWX m_is_whole k_is_whole b_is_whole
  have GDay := ok_day (P := P) (w := w) (mg := mg) (base := base) F_is_day GBw m_is_between k_is_between b_is_between g_LAST_DAY
  have GLe := ok_least (P := P) (w := w) (mg := mg) (base := base) F_least_word Bt z_range GE b_Share_eq a_Share_eq i_Share_eq
  have GSp := ok_spans (P := P) (w := w) (mg := mg) (base := base) F_spans_of GLe m_least_word k_least_word b_least_word
  have GSh := ok_share_on (P := P) (w := w) (mg := mg) (base := base) (C := cShare) F_share_on Bt
  have GNu := ok_num_on (P := P) (w := w) (mg := mg) (base := base) (C := cShare) F_number_on Bt
  have GOn := ok_on (P := P) (w := w) (mg := mg) (base := base) F_on TC ErNoDay GDay m_is_day k_is_day b_is_day GNu m_number_on k_number_on b_number_on GSh m_share_on k_share_on b_share_on
  have isC : ∀ (H : Hp) p t b, ShAt cShare H p t b → TyX K H (.ref p) (.ref cShare) := fun H p t b ⟨dx, e⟩ => .base (.ins e T.cl gccShare gs gt gmcShare)
  have ISh : ∀ (H : Hp) p t b, ShAt cShare H p t b → IsC K cShare H (.ref p) true := fun H p t b h => ⟨_, isC H p t b h, mecShare⟩
  have ISC : ∀ (H : Hp) p dx fs, H p = some (.ins cCourse dx fs) → TyX K H (.ref p) (.ref cCourse) := fun H p dx fs e => .base (.ins e TC.cl gccCourse gs gt gmcCourse)
  have OC : OddC K cShare := ⟨mcShare_int, mcShare_NoneType, mcShare_str, mcShare_bool, mcShare_tuple, ucShare_int, ucShare_bool, ucShare_tuple⟩
  have GWd := ok_wordX (K := K) (P := P) (w := w) (mg := mg) (base := base) F_is_word Yt g_MOST_SHARES
  have GSt := ok_strX (P := P) (w := w) (mg := mg) (base := base) F_is_stretch Yt ⟨GWd, m_is_word, k_is_word, b_is_word⟩ ⟨GWX, m_is_whole, k_is_whole, b_is_whole⟩
  have GAr := ok_areX (P := P) (w := w) (mg := mg) (base := base) F_are_stretches Yt g_MOST_STRETCHES ⟨GSt, m_is_stretch, k_is_stretch, b_is_stretch⟩
  have GCi := ok_cinitX (P := P) (w := w) (mg := mg) (base := base) F_Course_init TC ErNoCourse ⟨GAr, m_are_stretches, k_are_stretches, b_are_stretches⟩ ⟨GSp, m_spans_of, k_spans_of, b_spans_of⟩
  have GMd := ok_made (P := P) (w := w) (mg := mg) (base := base) F_law_made ErNoCourse (exm_own bcNoCourse icNoCourse tcNoCourse scNoCourse) mcRillError mcCourse MC GCi b_Course_init
  have GDr := ok_draw (P := P) (w := w) (mg := mg) (base := base) F_law_draw
  have GWe := ok_well (P := P) (w := w) (mg := mg) (base := base) F_law_well Bt
  have GO1 := ok_one (P := P) (w := w) (mg := mg) (base := base) F_law_one Bt GDr m_law_draw k_law_draw b_law_draw
  have GLo := ok_low (P := P) (w := w) (mg := mg) (base := base) F_law_low Bt
  have GLw := ok_lword (P := P) (w := w) (mg := mg) (base := base) F_law_word z_range GDr m_law_draw k_law_draw b_law_draw GO1 m_law_one k_law_one b_law_one GLo m_law_low k_law_low b_law_low
  have GSr := ok_lstr (P := P) (w := w) (mg := mg) (base := base) F_law_stretches z_range GDr m_law_draw k_law_draw b_law_draw GLw m_law_word k_law_word b_law_word
  have GGv := ok_given (P := P) (w := w) (mg := mg) (base := base) F_law_given T z_tuple M GI b_Share_init3
  have GLn := ok_lonS (K := K) (C := cShare) (P := P) (w := w) (mg := mg) (base := base) F_law_on Bt
  have GIg := ok_isgood (P := P) (w := w) (mg := mg) (base := base) F_law_is_good Yt z_enumerate z_int z_bool ISh
  have GAm := ok_amiss (P := P) (w := w) (mg := mg) (base := base) F_law_amiss T Yt z_range OC isC M GI b_Share_init2 rd_Share_init2 ⟨GDr, m_law_draw, k_law_draw, b_law_draw⟩ ⟨GO1, m_law_one, k_law_one, b_law_one⟩
  have GRg := ok_right (P := P) (w := w) (mg := mg) (base := base) F_law_right Yt mcCourse ISh ISC mecCourse ⟨GMd, m_law_made, k_law_made, b_law_made⟩ ⟨GIg, m_law_is_good, k_law_is_good, b_law_is_good⟩ ⟨GDr, m_law_draw, k_law_draw, b_law_draw⟩ ⟨GOn, m_on, k_on, b_on⟩ ⟨GLn, m_law_on, k_law_on, b_law_on⟩ GE a_Share_eq i_Share_eq b_Share_eq
  exact ok_law F_law Yt z_range ⟨GWe, m_law_well, k_law_well, b_law_well⟩ ⟨GSr, m_law_stretches, k_law_stretches, b_law_stretches⟩ ⟨GGv, m_law_given, k_law_given, b_law_given⟩ ⟨GDr, m_law_draw, k_law_draw, b_law_draw⟩ ⟨GAm, m_law_amiss, k_law_amiss, b_law_amiss⟩ ⟨GRg, m_law_right, k_law_right, b_law_right⟩
theorem walk {l : PySem.W.OpenLaw} {q : Program} {loose : List Str} {XP : (Str → Option Value) → Heap → Prop} {YP : World → Heap → Prop} {d : DefRec} {K : Params → PySem.W.Frag} (hn : l.most = some 63) (hdf : d.params.defaults = [])
    (hY : ∀ (w : World) (h : Heap), YP w h → (K w.params).In h)
    (F : ∀ (w : World) (mg : Str → Option Value) (fa : Addr) (h : Heap), (K w.params).In h → h.Ns mainGlobals mg → mg d.name = some (.ref fa) →
      ∃ fd : FuncData, (∀ (s : Shared) (u : Value), BindsTo s fd ⟨[u], []⟩ [("script", u)]) ∧ ∀ base : Heap, (K w.params).In base → base.Ns mainGlobals mg → FnOk l.prog w (K w.params) mg base CX0 9 fa fd ["script"] (spLaw (K w.params))) :
    PySem.W.WalkO q loose XP YP l.row.toRowW d [] (fun f vs => PySem.call f vs) :=
  walk_of (n := 63) (k := 9) (x := "script") (CX := fun _ => CX0) (sp := fun w => spLaw (K w.params)) hn (by decide) hdf ⟨rfl, by decide, by decide⟩ hY F (fun _ _ a ns hl _ hS => law_told hl hS) (fun _ _ _ _ _ z => z)
end K11

open PySem PySem.W PyProof.Rows in
set_option maxRecDepth 100000 in
set_option maxHeartbeats 0 in
theorem PySem.Challenge.cw_rillweb_k11_what_is_no_course_holds : PySem.Challenge.rw_rillweb_k11_what_is_no_course.Holds := by
  w_on; o_law; k_head; (case hw => w_witness2)
  k_fill
  refine K11.walk (l := PySem.Challenge.rw_rillweb_k11_what_is_no_course) rfl rfl (fun w h Y => PySem.W.kIn_of Y) ?F
  case F =>
    intro w mg fa h KX G hmg
    refine' K11.all_mk KX G hmg ?z_ValueError ?z_abs ?z_all ?z_any ?z_bool ?z_enumerate ?z_int ?z_isinstance ?z_len ?z_list ?z_min ?z_range ?z_tuple ?i_gcd ?g_LAST_DAY ?g_MOST_STRETCHES ?g_MOST_SHARES ?acRillError ?xcRillError ?kcRillError ?bcRillError ?tcRillError ?icRillError ?scRillError ?acNoShare ?xcNoShare ?kcNoShare ?bcNoShare ?tcNoShare ?icNoShare ?scNoShare ?acNoCourse ?xcNoCourse ?kcNoCourse ?bcNoCourse ?tcNoCourse ?icNoCourse ?scNoCourse ?acNoDay ?xcNoDay ?kcNoDay ?bcNoDay ?tcNoDay ?icNoDay ?scNoDay ?acShare ?pgcShare ?hdcShare ?pocShare ?sacShare ?mkcShare ?kccShare ?ncShare_bottom ?ncShare_top ?gccShare ?gmcShare ?mecShare ?mcShare_tuple ?ucShare_tuple ?mcShare_int ?ucShare_int ?mcShare_NoneType ?mcShare_list ?ucShare_list ?mcShare_str ?mcShare_bool ?ucShare_bool ?mcShare_dict ?a_Share_init ?i_Share_init ?l_Share_init ?c_Share_init ?k_Share_init ?lTD_Share_init ?a_Share_eq ?i_Share_eq ?l_Share_eq ?c_Share_eq ?k_Share_eq ?acCourse ?pgcCourse ?hdcCourse ?pocCourse ?sacCourse ?mkcCourse ?kccCourse ?ncCourse_spans ?gccCourse ?gmcCourse ?mecCourse ?mcCourse_tuple ?ucCourse_tuple ?mcCourse_int ?ucCourse_int ?mcCourse_NoneType ?mcCourse_list ?ucCourse_list ?mcCourse_str ?mcCourse_bool ?ucCourse_bool ?mcCourse_dict ?a_Course_init ?i_Course_init ?l_Course_init ?c_Course_init ?k_Course_init ?a_Course_eq ?i_Course_eq ?l_Course_eq ?c_Course_eq ?k_Course_eq ?a_is_whole ?l_is_whole ?c_is_whole ?k_is_whole ?a_is_between ?l_is_between ?c_is_between ?k_is_between ?a_is_day ?l_is_day ?c_is_day ?k_is_day ?a_least_word ?l_least_word ?c_least_word ?k_least_word ?a_spans_of ?l_spans_of ?c_spans_of ?k_spans_of ?a_number_on ?l_number_on ?c_number_on ?k_number_on ?a_share_on ?l_share_on ?c_share_on ?k_share_on ?a_sooner ?l_sooner ?c_sooner ?k_sooner ?a_beside ?l_beside ?c_beside ?k_beside ?a_are_stretches ?l_are_stretches ?c_are_stretches ?k_are_stretches ?a_is_stretch ?l_is_stretch ?c_is_stretch ?k_is_stretch ?a_is_word ?l_is_word ?c_is_word ?k_is_word ?a_on ?l_on ?c_on ?k_on ?a_first_unlike ?l_first_unlike ?c_first_unlike ?k_first_unlike ?a_law_well ?l_law_well ?c_law_well ?k_law_well ?a_law_draw ?l_law_draw ?c_law_draw ?k_law_draw ?a_law_one ?l_law_one ?c_law_one ?k_law_one ?a_law_low ?l_law_low ?c_law_low ?k_law_low ?a_law_word ?l_law_word ?c_law_word ?k_law_word ?a_law_stretches ?l_law_stretches ?c_law_stretches ?k_law_stretches ?a_law_on ?l_law_on ?c_law_on ?k_law_on ?a_law_given ?l_law_given ?c_law_given ?k_law_given ?a_law_amiss ?l_law_amiss ?c_law_amiss ?k_law_amiss ?a_law_is_good ?l_law_is_good ?c_law_is_good ?k_law_is_good ?a_law_made ?l_law_made ?c_law_made ?k_law_made ?a_law_right ?l_law_right ?c_law_right ?k_law_right ?a_law ?l_law ?c_law ?k_law ?gs ?gt
    (case z_ValueError => k_is)
    (case z_abs => k_is)
    (case z_all => k_is)
    (case z_any => k_is)
    (case z_bool => k_is)
    (case z_enumerate => k_is)
    (case z_int => k_is)
    (case z_isinstance => k_is)
    (case z_len => k_is)
    (case z_list => k_is)
    (case z_min => k_is)
    (case z_range => k_is)
    (case z_tuple => k_is)
    (case i_gcd => k_is)
    (case g_LAST_DAY => k_is)
    (case g_MOST_STRETCHES => k_is)
    (case g_MOST_SHARES => k_is)
    (case acRillError => k_is)
    (case xcRillError => k_exc)
    (case kcRillError => k_is)
    (case bcRillError => k_is)
    (case tcRillError => k_is)
    (case icRillError => k_is)
    (case scRillError => first | rfl | k_is)
    (case acNoShare => k_is)
    (case xcNoShare => k_exc)
    (case kcNoShare => k_is)
    (case bcNoShare => k_is)
    (case tcNoShare => k_is)
    (case icNoShare => k_is)
    (case scNoShare => first | rfl | k_is)
    (case acNoCourse => k_is)
    (case xcNoCourse => k_exc)
    (case kcNoCourse => k_is)
    (case bcNoCourse => k_is)
    (case tcNoCourse => k_is)
    (case icNoCourse => k_is)
    (case scNoCourse => first | rfl | k_is)
    (case acNoDay => k_is)
    (case xcNoDay => k_exc)
    (case kcNoDay => k_is)
    (case bcNoDay => k_is)
    (case tcNoDay => k_is)
    (case icNoDay => k_is)
    (case scNoDay => first | rfl | k_is)
    (case acShare => k_is)
    (case pgcShare => k_is)
    (case hdcShare => k_is)
    (case pocShare => k_is)
    (case sacShare => k_is)
    (case mkcShare => k_is)
    (case kccShare => k_is)
    (case ncShare_bottom => k_is)
    (case ncShare_top => k_is)
    (case gccShare => k_is)
    (case gmcShare => k_is)
    (case mecShare => first | rfl | k_is)
    (case mcShare_tuple => first | rfl | k_is)
    (case ucShare_tuple => first | rfl | k_is)
    (case mcShare_int => first | rfl | k_is)
    (case ucShare_int => first | rfl | k_is)
    (case mcShare_NoneType => first | rfl | k_is)
    (case mcShare_list => first | rfl | k_is)
    (case ucShare_list => first | rfl | k_is)
    (case mcShare_str => first | rfl | k_is)
    (case mcShare_bool => first | rfl | k_is)
    (case ucShare_bool => first | rfl | k_is)
    (case mcShare_dict => first | rfl | k_is)
    (case a_Share_init => k_is)
    (case i_Share_init => k_is)
    (case l_Share_init => k_is)
    (case c_Share_init => k_is)
    (case k_Share_init => k_is)
    (case lTD_Share_init => k_is)
    (case a_Share_eq => k_is)
    (case i_Share_eq => k_is)
    (case l_Share_eq => k_is)
    (case c_Share_eq => k_is)
    (case k_Share_eq => k_is)
    (case acCourse => k_is)
    (case pgcCourse => k_is)
    (case hdcCourse => k_is)
    (case pocCourse => k_is)
    (case sacCourse => k_is)
    (case mkcCourse => k_is)
    (case kccCourse => k_is)
    (case ncCourse_spans => k_is)
    (case gccCourse => k_is)
    (case gmcCourse => k_is)
    (case mecCourse => first | rfl | k_is)
    (case mcCourse_tuple => first | rfl | k_is)
    (case ucCourse_tuple => first | rfl | k_is)
    (case mcCourse_int => first | rfl | k_is)
    (case ucCourse_int => first | rfl | k_is)
    (case mcCourse_NoneType => first | rfl | k_is)
    (case mcCourse_list => first | rfl | k_is)
    (case ucCourse_list => first | rfl | k_is)
    (case mcCourse_str => first | rfl | k_is)
    (case mcCourse_bool => first | rfl | k_is)
    (case ucCourse_bool => first | rfl | k_is)
    (case mcCourse_dict => first | rfl | k_is)
    (case a_Course_init => k_is)
    (case i_Course_init => k_is)
    (case l_Course_init => k_is)
    (case c_Course_init => k_is)
    (case k_Course_init => k_is)
    (case a_Course_eq => k_is)
    (case i_Course_eq => k_is)
    (case l_Course_eq => k_is)
    (case c_Course_eq => k_is)
    (case k_Course_eq => k_is)
    (case a_is_whole => k_is)
    (case l_is_whole => k_is)
    (case c_is_whole => k_is)
    (case k_is_whole => k_is)
    (case a_is_between => k_is)
    (case l_is_between => k_is)
    (case c_is_between => k_is)
    (case k_is_between => k_is)
    (case a_is_day => k_is)
    (case l_is_day => k_is)
    (case c_is_day => k_is)
    (case k_is_day => k_is)
    (case a_least_word => k_is)
    (case l_least_word => k_is)
    (case c_least_word => k_is)
    (case k_least_word => k_is)
    (case a_spans_of => k_is)
    (case l_spans_of => k_is)
    (case c_spans_of => k_is)
    (case k_spans_of => k_is)
    (case a_number_on => k_is)
    (case l_number_on => k_is)
    (case c_number_on => k_is)
    (case k_number_on => k_is)
    (case a_share_on => k_is)
    (case l_share_on => k_is)
    (case c_share_on => k_is)
    (case k_share_on => k_is)
    (case a_sooner => k_is)
    (case l_sooner => k_is)
    (case c_sooner => k_is)
    (case k_sooner => k_is)
    (case a_beside => k_is)
    (case l_beside => k_is)
    (case c_beside => k_is)
    (case k_beside => k_is)
    (case a_are_stretches => k_is)
    (case l_are_stretches => k_is)
    (case c_are_stretches => k_is)
    (case k_are_stretches => k_is)
    (case a_is_stretch => k_is)
    (case l_is_stretch => k_is)
    (case c_is_stretch => k_is)
    (case k_is_stretch => k_is)
    (case a_is_word => k_is)
    (case l_is_word => k_is)
    (case c_is_word => k_is)
    (case k_is_word => k_is)
    (case a_on => k_is)
    (case l_on => k_is)
    (case c_on => k_is)
    (case k_on => k_is)
    (case a_first_unlike => k_is)
    (case l_first_unlike => k_is)
    (case c_first_unlike => k_is)
    (case k_first_unlike => k_is)
    (case a_law_well => k_is)
    (case l_law_well => k_is)
    (case c_law_well => k_is)
    (case k_law_well => k_is)
    (case a_law_draw => k_is)
    (case l_law_draw => k_is)
    (case c_law_draw => k_is)
    (case k_law_draw => k_is)
    (case a_law_one => k_is)
    (case l_law_one => k_is)
    (case c_law_one => k_is)
    (case k_law_one => k_is)
    (case a_law_low => k_is)
    (case l_law_low => k_is)
    (case c_law_low => k_is)
    (case k_law_low => k_is)
    (case a_law_word => k_is)
    (case l_law_word => k_is)
    (case c_law_word => k_is)
    (case k_law_word => k_is)
    (case a_law_stretches => k_is)
    (case l_law_stretches => k_is)
    (case c_law_stretches => k_is)
    (case k_law_stretches => k_is)
    (case a_law_on => k_is)
    (case l_law_on => k_is)
    (case c_law_on => k_is)
    (case k_law_on => k_is)
    (case a_law_given => k_is)
    (case l_law_given => k_is)
    (case c_law_given => k_is)
    (case k_law_given => k_is)
    (case a_law_amiss => k_is)
    (case l_law_amiss => k_is)
    (case c_law_amiss => k_is)
    (case k_law_amiss => k_is)
    (case a_law_is_good => k_is)
    (case l_law_is_good => k_is)
    (case c_law_is_good => k_is)
    (case k_law_is_good => k_is)
    (case a_law_made => k_is)
    (case l_law_made => k_is)
    (case c_law_made => k_is)
    (case k_law_made => k_is)
    (case a_law_right => k_is)
    (case l_law_right => k_is)
    (case c_law_right => k_is)
    (case k_law_right => k_is)
    (case a_law => k_is)
    (case l_law => k_is)
    (case c_law => k_is)
    (case k_law => k_is)
    (case gs => first | rfl | k_is)
    (case gt => first | rfl | k_is)
