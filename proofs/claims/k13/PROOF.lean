import PyProof.Rows.All
import Wide.All
import OpenK.AllK
import Wide.FinOn
import HandS.ForMost
import HandS.Walk
import HandS.ForExc
import HandS.ExcInit
import HandS.ExcIs
import HandS.ExcValue
import HandS.Wide
import HandS.Gcd
import HandS.IsInst
import HandS.Defaults
import HandS.Codes
import HandS.OwnEq
import HandS.Lambda
import KE.KExcIs
import KE.GoesMore
import HandS.Style
import HandS.TryMany
import HandS.EndTab
import HandS.SetFor
import HandS.SortInts
import KE.KSortedM
import HandS.SetFor
import HandS.SortInts
import KE.KSortedM
import HandS.Strs
import HandS.Flow
import HandS.Zip
import PySem.Challenge.RW_rillweb_k13_ends_of_courses
set_option Elab.async false
set_option linter.all false
set_option maxRecDepth 100000
set_option maxHeartbeats 2000000
set_option exponentiation.threshold 20000
namespace K13
open PySem PySem.Spec PyProof.Rows L2
def top (i : Nat) : Stmt := PySem.Challenge.pw_rillweb_k13_ends_of_courses.main.body.getD i (.Pass ⟨0, 0, 0, 0⟩)
abbrev d_is_whole : Stmt := top 8
abbrev d_is_between : Stmt := top 9
abbrev d_is_day : Stmt := top 10
abbrev d_Share_init : Stmt := inClass (top 12) 0
abbrev d_Share_eq : Stmt := inClass (top 12) 1
abbrev d_least_word : Stmt := top 16
abbrev d_spans_of : Stmt := top 17
abbrev d_share_on : Stmt := top 18
abbrev d_word_from : Stmt := top 19
abbrev d_sooner : Stmt := top 20
abbrev d_beside : Stmt := top 21
abbrev d_round_of : Stmt := top 22
abbrev d_last_unlike_in : Stmt := top 23
abbrev d_Course_init : Stmt := inClass (top 25) 0
abbrev d_Course_eq : Stmt := inClass (top 25) 1
abbrev d_are_stretches : Stmt := top 26
abbrev d_is_stretch : Stmt := top 27
abbrev d_is_word : Stmt := top 28
abbrev d_course_of : Stmt := top 29
abbrev d_first_unlike : Stmt := top 30
abbrev d_end : Stmt := top 31
abbrev d_later : Stmt := top 32
abbrev d_law_cell_at : Stmt := top 34
abbrev d_law_well : Stmt := top 35
abbrev d_law_draw : Stmt := top 36
abbrev d_law_one : Stmt := top 37
abbrev d_law_low : Stmt := top 38
abbrev d_law_pair : Stmt := top 39
abbrev d_law_sum : Stmt := top 40
abbrev d_law_by : Stmt := top 41
abbrev d_law_word : Stmt := top 42
abbrev d_law_stretches : Stmt := top 43
abbrev d_law_course : Stmt := top 44
abbrev d_law_on : Stmt := top 45
abbrev d_law_round : Stmt := top 46
abbrev d_law_ahead : Stmt := top 47
abbrev d_law_end : Stmt := top 48
abbrev d_law_plain : Stmt := top 49
abbrev d_law : Stmt := top 50
end K13
namespace K13
/-- the common part of two whole numbers, with the sign of the second -/
def sg (a b : Int) : Int := if b < 0 then -((Nat.gcd a.natAbs b.natAbs : Nat) : Int) else ((Nat.gcd a.natAbs b.natAbs : Nat) : Int)
/-- the top and the bottom in lowest terms -/
def lowT (a b : Int) : Int := a.fdiv (sg a b)
def lowB (a b : Int) : Int := b.fdiv (sg a b)

theorem gcd_pos {a b : Int} (hb : b ≠ 0) : 0 < Nat.gcd a.natAbs b.natAbs := Nat.gcd_pos_of_pos_right _ (by omega)
theorem sg_ne {a b : Int} (hb : b ≠ 0) : sg a b ≠ 0 := by
  have := gcd_pos (a := a) hb
  unfold sg
  split <;> omega
theorem sg_dvd_left (a b : Int) : sg a b ∣ a := by
  have h : ((Nat.gcd a.natAbs b.natAbs : Nat) : Int) ∣ a := Int.ofNat_dvd_left.mpr (Nat.gcd_dvd_left _ _)
  unfold sg
  split
  · exact Int.neg_dvd.mpr h
  · exact h
theorem sg_dvd_right (a b : Int) : sg a b ∣ b := by
  have h : ((Nat.gcd a.natAbs b.natAbs : Nat) : Int) ∣ b := Int.ofNat_dvd_left.mpr (Nat.gcd_dvd_right _ _)
  unfold sg
  split
  · exact Int.neg_dvd.mpr h
  · exact h
theorem lowT_mul (a b : Int) : lowT a b * sg a b = a := Int.fdiv_mul_cancel (sg_dvd_left a b)
theorem lowB_mul (a b : Int) : lowB a b * sg a b = b := Int.fdiv_mul_cancel (sg_dvd_right a b)
theorem lowB_pos {a b : Int} (hb : b ≠ 0) : 0 < lowB a b := by
  have h := lowB_mul a b
  have hg := gcd_pos (a := a) hb
  have hs : (0 < b ∧ 0 < sg a b) ∨ (b < 0 ∧ sg a b < 0) := by
    unfold sg
    split <;> omega
  rcases hs with ⟨h1, h2⟩ | ⟨h1, h2⟩
  · rcases Int.lt_trichotomy (lowB a b) 0 with h3 | h3 | h3
    · have := Int.mul_neg_of_neg_of_pos h3 h2
      omega
    · rw [h3] at h; omega
    · exact h3
  · rcases Int.lt_trichotomy (lowB a b) 0 with h3 | h3 | h3
    · have := Int.mul_pos_of_neg_of_neg h3 h2
      omega
    · rw [h3] at h; omega
    · exact h3
theorem sg_abs (a b : Int) : (sg a b).natAbs = Nat.gcd a.natAbs b.natAbs := by
  unfold sg
  split <;> omega
theorem low_coprime {a b : Int} (hb : b ≠ 0) : Nat.gcd (lowT a b).natAbs (lowB a b).natAbs = 1 := by
  have h1 : (lowT a b).natAbs * (sg a b).natAbs = a.natAbs := by rw [← Int.natAbs_mul, lowT_mul]
  have h2 : (lowB a b).natAbs * (sg a b).natAbs = b.natAbs := by rw [← Int.natAbs_mul, lowB_mul]
  have hg := gcd_pos (a := a) hb
  have h3 : Nat.gcd ((lowT a b).natAbs * (sg a b).natAbs) ((lowB a b).natAbs * (sg a b).natAbs) = (sg a b).natAbs := by
    rw [h1, h2, sg_abs]
  rw [Nat.gcd_mul_right] at h3
  rw [sg_abs] at h3
  exact Nat.eq_of_mul_eq_mul_right hg (by rw [h3, Nat.one_mul])
theorem same_of {t b t' b' : Int} (hb : 0 < b) (hb' : 0 < b') (h : t * b' = t' * b) (c : Nat.gcd t.natAbs b.natAbs = 1) (c' : Nat.gcd t'.natAbs b'.natAbs = 1) : t = t' ∧ b = b' := by
  have e : t.natAbs * b'.natAbs = t'.natAbs * b.natAbs := by rw [← Int.natAbs_mul, ← Int.natAbs_mul, h]
  have d1 : b.natAbs ∣ b'.natAbs := by
    have : b.natAbs ∣ t.natAbs * b'.natAbs := ⟨t'.natAbs, by rw [e, Nat.mul_comm]⟩
    exact Nat.Coprime.dvd_of_dvd_mul_left (by rw [Nat.Coprime, Nat.gcd_comm]; exact c) this
  have d2 : b'.natAbs ∣ b.natAbs := by
    have : b'.natAbs ∣ t'.natAbs * b.natAbs := ⟨t.natAbs, by rw [← e, Nat.mul_comm]⟩
    exact Nat.Coprime.dvd_of_dvd_mul_left (by rw [Nat.Coprime, Nat.gcd_comm]; exact c') this
  have eb : b = b' := by
    have := Nat.dvd_antisymm d1 d2
    omega
  refine ⟨?_, eb⟩
  rw [← eb] at h
  exact Int.eq_of_mul_eq_mul_right (by omega) h
/-- fractions of one number have one form -/
theorem low_eq {p q p' q' : Int} (hq : q ≠ 0) (hq' : q' ≠ 0) (h : p * q' = p' * q) : lowT p q = lowT p' q' ∧ lowB p q = lowB p' q' := by
  refine same_of (lowB_pos hq) (lowB_pos hq') ?_ (low_coprime hq) (low_coprime hq')
  have h1 := lowT_mul p q
  have h2 := lowB_mul p q
  have h3 := lowT_mul p' q'
  have h4 := lowB_mul p' q'
  have g1 := sg_ne (a := p) hq
  have g2 := sg_ne (a := p') hq'
  have e : (lowT p q * lowB p' q') * (sg p q * sg p' q') = (lowT p' q' * lowB p q) * (sg p q * sg p' q') := by
    have e1 : (lowT p q * lowB p' q') * (sg p q * sg p' q') = (lowT p q * sg p q) * (lowB p' q' * sg p' q') := by grind
    have e2 : (lowT p' q' * lowB p q) * (sg p q * sg p' q') = (lowT p' q' * sg p' q') * (lowB p q * sg p q) := by grind
    rw [e1, e2, h1, h2, h3, h4, h]
  exact Int.eq_of_mul_eq_mul_right (Int.mul_ne_zero g1 g2) e
theorem low_iff {p q p' q' : Int} (hq : q ≠ 0) (hq' : q' ≠ 0) : (lowT p q = lowT p' q' ∧ lowB p q = lowB p' q') ↔ p * q' = p' * q := by
  refine ⟨fun ⟨h1, h2⟩ => ?_, low_eq hq hq'⟩
  have e1 := lowT_mul p q
  have e2 := lowB_mul p q
  have e3 := lowT_mul p' q'
  have e4 := lowB_mul p' q'
  rw [h1] at e1
  rw [h2] at e2
  rw [← e1, ← e2]
  rw [show p' * (lowB p' q' * sg p q) = (p' * lowB p' q') * sg p q by grind]
  have e5 : lowT p' q' * q' = p' * lowB p' q' := by
    calc lowT p' q' * q' = lowT p' q' * (lowB p' q' * sg p' q') := by rw [e4]
      _ = (lowT p' q' * sg p' q') * lowB p' q' := by grind
      _ = p' * lowB p' q' := by rw [e3]
  rw [← e5]
  grind
/-- already in lowest terms -/
theorem low_self {t b : Int} (hb : 0 < b) (c : Nat.gcd t.natAbs b.natAbs = 1) : lowT t b = t ∧ lowB t b = b :=
  same_of (lowB_pos (by omega)) hb (by
    have h1 := lowT_mul t b
    have h2 := lowB_mul t b
    have g := sg_ne (a := t) (b := b) (by omega)
    have e : (lowT t b * b) * sg t b = (t * lowB t b) * sg t b := by
      calc (lowT t b * b) * sg t b = (lowT t b * sg t b) * b := by grind
        _ = t * b := by rw [h1]
        _ = t * (lowB t b * sg t b) := by rw [h2]
        _ = (t * lowB t b) * sg t b := by grind
    exact Int.eq_of_mul_eq_mul_right g e) (low_coprime (by omega)) c
/-- what is cross-multiplied by lowest terms -/
theorem low_cross {p q : Int} : lowT p q * q = p * lowB p q := by
  have h1 := lowT_mul p q
  have h2 := lowB_mul p q
  calc lowT p q * q = lowT p q * (lowB p q * sg p q) := by rw [h2]
    _ = (lowT p q * sg p q) * lowB p q := by grind
    _ = p * lowB p q := by rw [h1]
/-- order -/
theorem lt_mul_pos {x y k : Int} (hk : 0 < k) : x * k < y * k ↔ x < y := ⟨fun h => Int.lt_of_mul_lt_mul_right h (Int.le_of_lt hk), fun h => Int.mul_lt_mul_of_pos_right h hk⟩
theorem less_low {p q p' q' : Int} (hq : 0 < q) (hq' : 0 < q') : lowT p q * lowB p' q' < lowT p' q' * lowB p q ↔ p * q' < p' * q := by
  have b1 := lowB_pos (a := p) (b := q) (by omega)
  have b2 := lowB_pos (a := p') (b := q') (by omega)
  have c1 := low_cross (p := p) (q := q)
  have c2 := low_cross (p := p') (q := q')
  have hk : 0 < q * q' := Int.mul_pos hq hq'
  have hl : 0 < lowB p q * lowB p' q' := Int.mul_pos b1 b2
  rw [← lt_mul_pos hk, ← lt_mul_pos (x := p * q') hl]
  have e1 : lowT p q * lowB p' q' * (q * q') = p * q' * (lowB p q * lowB p' q') := by
    calc lowT p q * lowB p' q' * (q * q') = (lowT p q * q) * (lowB p' q' * q') := by grind
      _ = (p * lowB p q) * (lowB p' q' * q') := by rw [c1]
      _ = p * q' * (lowB p q * lowB p' q') := by grind
  have e2 : lowT p' q' * lowB p q * (q * q') = p' * q * (lowB p q * lowB p' q') := by
    calc lowT p' q' * lowB p q * (q * q') = (lowT p' q' * q') * (lowB p q * q) := by grind
      _ = (p' * lowB p' q') * (lowB p q * q) := by rw [c2]
      _ = p' * q * (lowB p q * lowB p' q') := by grind
  rw [e1, e2]
theorem lowT_neg {p q : Int} (hq : q ≠ 0) : lowT p q < 0 ↔ p * q < 0 := by
  have b := lowB_pos (a := p) hq
  have h1 := lowT_mul p q
  have h2 := lowB_mul p q
  have g := sg_ne (a := p) hq
  have hs : 0 < sg p q * sg p q := by
    rcases Int.lt_or_gt_of_ne g with h | h
    · exact Int.mul_pos_of_neg_of_neg h h
    · exact Int.mul_pos h h
  have e : p * q = lowT p q * (lowB p q * (sg p q * sg p q)) := by
    calc p * q = (lowT p q * sg p q) * (lowB p q * sg p q) := by rw [h1, h2]
      _ = _ := by grind
  have hk := Int.mul_pos b hs
  have := lt_mul_pos (x := lowT p q) (y := 0) hk
  rw [Int.zero_mul] at this
  rw [e]
  exact this.symm
theorem lowT_pos {p q : Int} (hq : q ≠ 0) : 0 < lowT p q ↔ 0 < p * q := by
  have b := lowB_pos (a := p) hq
  have h1 := lowT_mul p q
  have h2 := lowB_mul p q
  have g := sg_ne (a := p) hq
  have hs : 0 < sg p q * sg p q := by
    rcases Int.lt_or_gt_of_ne g with h | h
    · exact Int.mul_pos_of_neg_of_neg h h
    · exact Int.mul_pos h h
  have e : p * q = lowT p q * (lowB p q * (sg p q * sg p q)) := by
    calc p * q = (lowT p q * sg p q) * (lowB p q * sg p q) := by rw [h1, h2]
      _ = _ := by grind
  have hk := Int.mul_pos b hs
  have := lt_mul_pos (x := 0) (y := lowT p q) hk
  rw [Int.zero_mul] at this
  rw [e]
  exact this.symm

/-! what the law puts beside what the program tells -/
section
variable {a b c d : Int}
theorem val_plus (hb : b ≠ 0) (hd : d ≠ 0) : lowT (lowT a b * lowB c d + lowT c d * lowB a b) (lowB a b * lowB c d) = lowT (a * d + c * b) (b * d) ∧
    lowB (lowT a b * lowB c d + lowT c d * lowB a b) (lowB a b * lowB c d) = lowB (a * d + c * b) (b * d) := by
  have b1 := lowB_pos (a := a) hb
  have b2 := lowB_pos (a := c) hd
  have c1 := low_cross (p := a) (q := b)
  have c2 := low_cross (p := c) (q := d)
  refine low_eq (Int.mul_ne_zero (by omega) (by omega)) (Int.mul_ne_zero hb hd) ?_
  generalize lowT a b = x at *
  generalize lowB a b = y at *
  generalize lowT c d = z at *
  generalize lowB c d = w at *
  grind
theorem val_minus (hb : b ≠ 0) (hd : d ≠ 0) : lowT (lowT a b * lowB c d - lowT c d * lowB a b) (lowB a b * lowB c d) = lowT (a * d - c * b) (b * d) ∧
    lowB (lowT a b * lowB c d - lowT c d * lowB a b) (lowB a b * lowB c d) = lowB (a * d - c * b) (b * d) := by
  have b1 := lowB_pos (a := a) hb
  have b2 := lowB_pos (a := c) hd
  have c1 := low_cross (p := a) (q := b)
  have c2 := low_cross (p := c) (q := d)
  refine low_eq (Int.mul_ne_zero (by omega) (by omega)) (Int.mul_ne_zero hb hd) ?_
  generalize lowT a b = x at *
  generalize lowB a b = y at *
  generalize lowT c d = z at *
  generalize lowB c d = w at *
  grind
theorem val_times (hb : b ≠ 0) (hd : d ≠ 0) : lowT (lowT a b * lowT c d) (lowB a b * lowB c d) = lowT (a * c) (b * d) ∧
    lowB (lowT a b * lowT c d) (lowB a b * lowB c d) = lowB (a * c) (b * d) := by
  have b1 := lowB_pos (a := a) hb
  have b2 := lowB_pos (a := c) hd
  have c1 := low_cross (p := a) (q := b)
  have c2 := low_cross (p := c) (q := d)
  refine low_eq (Int.mul_ne_zero (by omega) (by omega)) (Int.mul_ne_zero hb hd) ?_
  generalize lowT a b = x at *
  generalize lowB a b = y at *
  generalize lowT c d = z at *
  generalize lowB c d = w at *
  grind
theorem lowT_zero (hd : d ≠ 0) : lowT c d = 0 ↔ c = 0 := by
  have h := lowT_mul c d
  have g := sg_ne (a := c) hd
  constructor
  · intro e
    rw [e, Int.zero_mul] at h
    exact h.symm
  · intro e
    rw [e] at h ⊢
    rw [e] at g
    rcases Int.mul_eq_zero.mp h with z | z
    · exact z
    · exact absurd z g
theorem val_over (hb : b ≠ 0) (hd : d ≠ 0) (hc : c ≠ 0) : lowT (lowT a b * lowB c d) (lowB a b * lowT c d) = lowT (a * d) (b * c) ∧
    lowB (lowT a b * lowB c d) (lowB a b * lowT c d) = lowB (a * d) (b * c) := by
  have b1 := lowB_pos (a := a) hb
  have t2 : lowT c d ≠ 0 := fun e => hc ((lowT_zero hd).mp e)
  have c1 := low_cross (p := a) (q := b)
  have c2 := low_cross (p := c) (q := d)
  refine low_eq (Int.mul_ne_zero (by omega) t2) (Int.mul_ne_zero hb hc) ?_
  generalize lowT a b = x at *
  generalize lowB a b = y at *
  generalize lowT c d = z at *
  generalize lowB c d = w at *
  grind
theorem num_less (hb : b ≠ 0) (hd : d ≠ 0) : ((a * d - c * b) * (b * d) < 0 ↔ lowT a b * lowB c d < lowT c d * lowB a b) ∧ (0 < (a * d - c * b) * (b * d) ↔ lowT c d * lowB a b < lowT a b * lowB c d) := by
  have h := val_minus (a := a) (c := c) hb hd
  have b1 := lowB_pos (a := a) hb
  have b2 := lowB_pos (a := c) hd
  have hk : 0 < lowB a b * lowB c d := Int.mul_pos b1 b2
  have k1 := lowT_neg (p := a * d - c * b) (q := b * d) (Int.mul_ne_zero hb hd)
  have k2 := lowT_pos (p := a * d - c * b) (q := b * d) (Int.mul_ne_zero hb hd)
  have k3 := lowT_neg (p := lowT a b * lowB c d - lowT c d * lowB a b) (q := lowB a b * lowB c d) (by omega)
  have k4 := lowT_pos (p := lowT a b * lowB c d - lowT c d * lowB a b) (q := lowB a b * lowB c d) (by omega)
  have m1 := lt_mul_pos (x := lowT a b * lowB c d - lowT c d * lowB a b) (y := 0) hk
  have m2 := lt_mul_pos (x := 0) (y := lowT a b * lowB c d - lowT c d * lowB a b) hk
  rw [Int.zero_mul] at m1 m2
  rw [← k1, ← k2, ← h.1, k3, k4, m1, m2]
  omega
theorem val_less (hb : b ≠ 0) (hd : d ≠ 0) : (lowT (a * d - c * b) (b * d) < 0 ↔ lowT a b * lowB c d < lowT c d * lowB a b) ∧ (0 < lowT (a * d - c * b) (b * d) ↔ lowT c d * lowB a b < lowT a b * lowB c d) := by
  have k1 := lowT_neg (p := a * d - c * b) (q := b * d) (Int.mul_ne_zero hb hd)
  have k2 := lowT_pos (p := a * d - c * b) (q := b * d) (Int.mul_ne_zero hb hd)
  have := num_less (a := a) (c := c) hb hd
  rw [k1, k2]
  exact this
end
section
variable {t1 b1 t2 b2 t3 b3 : Int}
theorem ord_plus (h1 : 0 < b1) (h2 : 0 < b2) (h3 : 0 < b3) :
    lowT (t1 * b3 + t3 * b1) (b1 * b3) * lowB (t2 * b3 + t3 * b2) (b2 * b3) < lowT (t2 * b3 + t3 * b2) (b2 * b3) * lowB (t1 * b3 + t3 * b1) (b1 * b3) ↔ t1 * b2 < t2 * b1 := by
  rw [less_low (Int.mul_pos h1 h3) (Int.mul_pos h2 h3)]
  have hk : 0 < b3 * b3 := Int.mul_pos h3 h3
  rw [← lt_mul_pos (x := t1 * b2) hk]
  have e : (t1 * b3 + t3 * b1) * (b2 * b3) - t1 * b2 * (b3 * b3) = (t2 * b3 + t3 * b2) * (b1 * b3) - t2 * b1 * (b3 * b3) := by grind
  omega
theorem ord_times (h1 : 0 < b1) (h2 : 0 < b2) (h3 : 0 < b3) (ht : 0 < t3) :
    lowT (t1 * t3) (b1 * b3) * lowB (t2 * t3) (b2 * b3) < lowT (t2 * t3) (b2 * b3) * lowB (t1 * t3) (b1 * b3) ↔ t1 * b2 < t2 * b1 := by
  rw [less_low (Int.mul_pos h1 h3) (Int.mul_pos h2 h3)]
  have hk : 0 < t3 * b3 := Int.mul_pos ht h3
  rw [← lt_mul_pos (x := t1 * b2) hk]
  have e1 : t1 * t3 * (b2 * b3) = t1 * b2 * (t3 * b3) := by grind
  have e2 : t2 * t3 * (b1 * b3) = t2 * b1 * (t3 * b3) := by grind
  rw [e1, e2]
theorem ord_turned (h1 : 0 < b1) (h2 : 0 < b2) (h3 : 0 < b3) (ht : t3 < 0) :
    lowT (t2 * t3) (b2 * b3) * lowB (t1 * t3) (b1 * b3) < lowT (t1 * t3) (b1 * b3) * lowB (t2 * t3) (b2 * b3) ↔ t1 * b2 < t2 * b1 := by
  rw [less_low (Int.mul_pos h2 h3) (Int.mul_pos h1 h3)]
  have hk : 0 < (-t3) * b3 := Int.mul_pos (by omega) h3
  rw [← lt_mul_pos (x := t1 * b2) hk]
  have e1 : t2 * t3 * (b1 * b3) = -(t2 * b1 * (-t3 * b3)) := by grind
  have e2 : t1 * t3 * (b2 * b3) = -(t1 * b2 * (-t3 * b3)) := by grind
  rw [e1, e2]
  omega
theorem ord_none (h1 : 0 < b1) (h2 : 0 < b2) (h3 : 0 < b3) (ht : t3 = 0) : lowT (t1 * t3) (b1 * b3) = lowT (t2 * t3) (b2 * b3) ∧ lowB (t1 * t3) (b1 * b3) = lowB (t2 * t3) (b2 * b3) := by
  subst ht
  refine low_eq ?_ ?_ (by simp)
  · have := Int.mul_pos h1 h3
    omega
  · have := Int.mul_pos h2 h3
    omega
end
theorem lowT_one (a : Int) : lowT a 1 = a := by
  have h := lowT_mul a 1
  have e : sg a 1 = 1 := by unfold sg; simp
  rw [e] at h
  omega
theorem lowB_one (a : Int) : lowB a 1 = 1 := by
  have h := lowB_mul a 1
  have e : sg a 1 = 1 := by unfold sg; simp
  rw [e] at h
  omega
/-! sizes -/
theorem lowT_le {a b : Int} (hb : b ≠ 0) : (lowT a b).natAbs ≤ a.natAbs := by
  have h : (lowT a b).natAbs * (sg a b).natAbs = a.natAbs := by rw [← Int.natAbs_mul, lowT_mul]
  have g : 0 < (sg a b).natAbs := by have := sg_ne (a := a) hb; omega
  exact Nat.le_trans (Nat.le_mul_of_pos_right _ g) (Nat.le_of_eq h)
theorem lowB_le {a b : Int} (hb : b ≠ 0) : (lowB a b).natAbs ≤ b.natAbs := by
  have h : (lowB a b).natAbs * (sg a b).natAbs = b.natAbs := by rw [← Int.natAbs_mul, lowB_mul]
  have g : 0 < (sg a b).natAbs := by have := sg_ne (a := a) hb; omega
  exact Nat.le_trans (Nat.le_mul_of_pos_right _ g) (Nat.le_of_eq h)
theorem sg_le {a b : Int} (hb : b ≠ 0) : (sg a b).natAbs ≤ b.natAbs := by
  rw [sg_abs]
  exact Nat.le_of_dvd (by omega) (Nat.gcd_dvd_right _ _)
end K13
namespace K13
open PySem PySem.Spec PyProof.Rows L2
abbrev sWhole : Stmt := d_is_whole
abbrev sInit : Stmt := d_Share_init
abbrev sEq : Stmt := d_Share_eq
/-! ### a share on the heap -/
theorem tb_ : ¬ (("top" : Str) = "bottom") := by decide +kernel
theorem bt_ : ¬ (("bottom" : Str) = "top") := by decide +kernel
def shf (t b : Int) : List (Str × V) := putF "bottom" (.int b) (putF "top" (.int t) [])
theorem shf_top (t b : Int) : (shf t b).lookup ("top" : Str) = some (.int t) := by
  unfold shf
  rw [lookup_putF, if_neg tb_, lookup_putF, if_pos rfl]
theorem shf_bottom (t b : Int) : (shf t b).lookup ("bottom" : Str) = some (.int b) := by
  unfold shf
  rw [lookup_putF, if_pos rfl]
/-- a share t over b stands at p -/
def ShAt (C : Addr) (H : Hp) (p : Addr) (t b : Int) : Prop := ∃ dx, H p = some (.ins C dx (shf t b))
theorem ShAt.mono {C : Addr} {H H' : Hp} {p : Addr} {t b : Int} (h : ShAt C H p t b) (s : Same H H') : ShAt C H' p t b := by
  obtain ⟨dx, e⟩ := h
  exact ⟨dx, s _ _ e⟩
/-- what the top says of the program's own names -/
structure Txt (K : PySem.W.Frag) (mg : Str → Option Value) (C CN : Addr) : Prop where
  cl : Cls K C
  nT : NoAttr K C "top"
  nB : NoAttr K C "bottom"
  mgC : mg "Share" = some (.ref C)
  gcd : mg "gcd" = some (.builtin "math.gcd")
  isi : mg "isinstance" = none
  int : mg "int" = none
  bool : mg "bool" = none
  gN : mg "NoShare" = some (.ref CN)
  xN : PySem.W.excIn K CN [.type "ValueError", .type "Exception", .type "BaseException", .type "object"] "ValueError.__new__" = true
  kN : PySem.W.keepIn K (.ref CN) = true
  bN : PySem.W.subIn K (.ref CN) (.type "BaseException") = some true
  tN : PySem.W.typeIn K (.ref CN) = some (.type "type")
  eN : PySem.W.exmOne K (.ref CN) (.ref CN) = some true
/-! ### // by a divisor of either sign -/
def CDivX (_ j : Int) : Prop := j ≠ 0 ∧ j.natAbs.log2 < 9000
section
variable {X : Cx}
theorem op_fdivX : OpR X (binaryOp .FloorDiv) (rI CDivX fun i j => .int (i.fdiv j)) := opI fun i j _ _ _ _ _ hc q => floordiv_int hc.1 q (.inl (PyProof.noPylong_of_log2 hc.2))
end
theorem big_div {i j : Int} {b : Nat} (h : j ≠ 0) (hb : j.natAbs < 2 ^ b) (h0 : 0 < b) (h9 : b ≤ 9000) : CDivX i j := ⟨h, Nat.lt_of_lt_of_le (PySem.Flt.log2_lt_of h0 hb) h9⟩
theorem add_lt {i j : Int} {a : Nat} (hi : i.natAbs < 2 ^ a) (hj : j.natAbs < 2 ^ a) : (i + j).natAbs < 2 ^ (a + 1) := by
  have e : 2 ^ (a + 1) = 2 ^ a * 2 := Nat.pow_succ ..
  omega
theorem sub_lt {i j : Int} {a : Nat} (hi : i.natAbs < 2 ^ a) (hj : j.natAbs < 2 ^ a) : (i - j).natAbs < 2 ^ (a + 1) := by
  have e : 2 ^ (a + 1) = 2 ^ a * 2 := Nat.pow_succ ..
  omega
theorem pow_le {i : Int} {a b : Nat} (h : i.natAbs < 2 ^ a) (hab : a ≤ b) : i.natAbs < 2 ^ b := Nat.lt_of_lt_of_le h (Nat.pow_le_pow_right (by omega) hab)
/-! ### promises -/
def spWhole : Sp := fun vs H Q _ => ∃ i : Int, vs = [.int i] ∧ Q (.bl true) H
def spInit (C CN : Addr) : Sp := fun vs H Q E => ∃ (p dx : Addr) (t b : Int), vs = [.ref p, .int t, .int b] ∧ H p = some (.ins C dx []) ∧ t.natAbs < 2 ^ 4000 ∧ b.natAbs < 2 ^ 4000 ∧
  (b = 0 → E (.ref CN) none H) ∧ (b ≠ 0 → ∀ H' : Hp, H' p = some (.ins C dx (shf (lowT t b) (lowB t b))) → (∀ a, a ≠ p → H' a = H a) → Q .non H')
section
variable {P : Program} {w : World} {K : PySem.W.Frag} {mg : Str → Option Value} {base : Heap}
theorem scWhole : FnScope ["thing"] ["thing"] (defScope sWhole) := ⟨rfl, rfl, rfl, by decide +kernel, rfl, by decide +kernel, by decide +kernel⟩
theorem ok_whole {f C CN : Addr} {fd : FuncData} (F : Fun K "is_whole" "is_whole" sWhole f fd) (T : Txt K mg C CN) : FnOk P w K mg base CX0 1 f fd ["thing"] spWhole := by
  refine F.ok scWhole (fun vs H Q E h => ?_) (fun cdv A outer s H vs Q E hr h => ?_)
  · obtain ⟨i, rfl, _⟩ := h
    rfl
  · obtain ⟨i, rfl, k⟩ := h
    refine ⟨_, pss_one (ps_ret (pe_and (pe_callB call_isi (by rfl) T.isi (by decide +kernel) (pa_cons (pv 0) (pa_cons (pe_bltn (v := .ty "int") (by rfl) T.int (by decide +kernel) rfl) pa_nil)))
      (pe_one (pe_not (pe_callB call_isi (by rfl) T.isi (by decide +kernel) (pa_cons (pv 0) (pa_cons (pe_bltn (v := .ty "bool") (by rfl) T.bool (by decide +kernel) rfl) pa_nil))))))), ?_⟩
    refine ⟨_, rfl, _, _, _, _, true, rfl, ClsV.ty _, TyX.base (TyOf.int _), kit_ty (by decide +kernel), true, rfl, iteT ?_⟩
    exact ⟨_, rfl, _, _, _, _, false, rfl, ClsV.ty _, TyX.base (TyOf.int _), kit_ty (by decide +kernel), false, rfl, k⟩

theorem scInit : FnScope ["self", "top", "bottom", "common"] ["self", "top", "bottom"] (defScope sInit) := ⟨rfl, rfl, rfl, by decide +kernel, rfl, by decide +kernel, by decide +kernel⟩
theorem ok_init {f fW C CN : Addr} {fd fdW : FuncData} (F : FunD K "__init__" "Share.__init__" (defArgs sInit) (defBody sInit) (defScope sInit) [.int 1] [] f fd) (T : Txt K mg C CN)
    (GW : FnOk P w K mg base CX0 1 fW fdW ["thing"] spWhole) (mW : mg "is_whole" = some (.ref fW)) (kW : PySem.W.keepIn K (.ref fW) = true) (bW : Binds K fdW ["thing"] []) :
    FnOk P w K mg base (L2.CX P w) 2 f fd ["self", "top", "bottom"] (spInit C CN) := by
  refine FunD.ok (N := ["self", "top", "bottom", "common"]) F scInit (fun vs H Q E h => ?_) (fun cdv A outer s H vs Q E hr h => ?_)
  · obtain ⟨p, dx, t, b, rfl, _⟩ := h
    rfl
  · obtain ⟨p, dx, t, b, rfl, hp, st, sb, ke, kq⟩ := h
    refine ⟨_, pss_cons (ps_if (PW.pt (pw_or (pt_not (pt_val (pe_call GW hr rfl mW kW bW .nil pass0 (pa_cons (pv 1) pa_nil)))) (pw_or (pt_not (pt_val (pe_call GW hr rfl mW kW bW .nil pass0 (pa_cons (pv 2) pa_nil)))) (pw_or1 (pt_cmpR op_eq (pv 2) pe_int (nomark _))))))
        (pss_one (ps_raise rfl (takes_of rfl rfl rfl rfl) (pmk_own PySem.F.excBase_ValueError T.xN T.gN T.kN (raises_own T.bN T.tN) (by exact rfl)))) pss_nil)
      (pss_cons (ps_set (i := 3) scInit.nd rfl (Or.inl rfl) (pe_callBfun cr_gcd rfl T.gcd (pa_cons (pv 1) (pa_cons (pv 2) pa_nil))))
      (pss_cons (ps_if (pt_cmpR op_lt (pv 2) pe_int (nomark _)) (pss_one (ps_set (i := 3) scInit.nd rfl (Or.inl rfl) (pe_un un_neg (pv 3)))) pss_nil)
      (pss_cons (ps_fld (pv 0) (pe_op op_fdivX (pv 1) (pv 3)) rfl)
      (pss_one (ps_fld (pv 0) (pe_op op_fdivX (pv 2) (pv 3)) rfl))))), ?_⟩
    refine ⟨_, rfl, t, rfl, true, rfl, iteF ?_⟩
    refine ⟨_, rfl, b, rfl, true, rfl, iteF ?_⟩
    refine ⟨_, rfl, rfl, _, rfl, ?_⟩
    refine ite2 (fun h0 => ?_) (fun h0 => ?_)
    · exact ke (by simpa using h0)
    · have hb : b ≠ 0 := fun e => h0 (by rw [e]; exact decide_eq_true rfl)
      have gs : (sg t b).natAbs < 2 ^ 4000 := Nat.lt_of_le_of_lt (sg_le hb) sb
      refine ⟨_, rfl, _, rfl, t, b, rfl, ?_⟩
      refine ⟨_, rfl, _, _, rfl, rfl, _, rfl, ?_⟩
      refine ite2 (fun hn => ?_) (fun hn => ?_)
      · have hn : b < 0 := of_decide_eq_true hn
        have e : -((Nat.gcd t.natAbs b.natAbs : Nat) : Int) = sg t b := by unfold sg; rw [if_pos hn]
        have g0 : -((Nat.gcd t.natAbs b.natAbs : Nat) : Int) ≠ 0 := by rw [e]; exact sg_ne hb
        have gd : ∀ i : Int, CDivX i (-((Nat.gcd t.natAbs b.natAbs : Nat) : Int)) := fun i => big_div (b := 4000) g0 (by rw [e]; exact gs) (by decide) (by decide)
        refine ⟨_, rfl, _, rfl, ?_⟩
        refine ⟨_, rfl, _, rfl, _, _, rfl, rfl, gd _, _, rfl, p, C, dx, _, rfl, hp, T.cl, T.nT, (by show 0 < 1000; decide), ?_⟩
        refine ⟨_, rfl, _, rfl, _, _, rfl, rfl, gd _, _, rfl, p, C, dx, _, rfl, upd_same, T.cl, T.nB, (by show 1 < 1000; decide), ?_⟩
        refine kq hb _ (Eq.trans upd_same ?_) (fun a ha => by rw [upd_ne ha, upd_ne ha])
        rw [e]
        rfl
      · have hn : ¬ b < 0 := fun q => hn (decide_eq_true q)
        have e : ((Nat.gcd t.natAbs b.natAbs : Nat) : Int) = sg t b := by unfold sg; rw [if_neg hn]
        have g0 : ((Nat.gcd t.natAbs b.natAbs : Nat) : Int) ≠ 0 := by rw [e]; exact sg_ne hb
        have gd : ∀ i : Int, CDivX i ((Nat.gcd t.natAbs b.natAbs : Nat) : Int) := fun i => big_div (b := 4000) g0 (by rw [e]; exact gs) (by decide) (by decide)
        refine ⟨_, rfl, _, rfl, _, _, rfl, rfl, gd _, _, rfl, p, C, dx, _, rfl, hp, T.cl, T.nT, (by show 0 < 1000; decide), ?_⟩
        refine ⟨_, rfl, _, rfl, _, _, rfl, rfl, gd _, _, rfl, p, C, dx, _, rfl, upd_same, T.cl, T.nB, (by show 1 < 1000; decide), ?_⟩
        refine kq hb _ (Eq.trans upd_same ?_) (fun a ha => by rw [upd_ne ha, upd_ne ha])
        rw [e]
        rfl

/-- what is made stands beside what stood -/
theorem made_same {H H' : Hp} {x dx C : Addr} {o : HO} (nx : H x = none) (nd : H dx = none) (k : ∀ a, a ≠ x → H' a = (upd (upd H dx (.own x)) x o) a) : Same H H' := fun a u e => by
  have a1 : a ≠ x := fun z => by rw [z, nx] at e; cases e
  have a2 : a ≠ dx := fun z => by rw [z, nd] at e; cases e
  rw [k a a1, upd_ne a1, upd_ne a2]
  exact e
end
end K13

namespace K13
open PySem PySem.Spec PyProof.Rows L2
/-! ### two lists side by side -/
structure All2 {α β : Type} (R : α → β → Prop) (as : List α) (bs : List β) : Prop where
  len : as.length = bs.length
  all : ∀ (i : Nat) (a : α) (b : β), as[i]? = some a → bs[i]? = some b → R a b
theorem All2.nil {α β : Type} {R : α → β → Prop} : All2 R [] [] := ⟨rfl, fun i a b h _ => by simp at h⟩
theorem All2.mono {α β : Type} {R S : α → β → Prop} {as : List α} {bs : List β} (h : All2 R as bs) (f : ∀ a b, a ∈ as → b ∈ bs → R a b → S a b) : All2 S as bs :=
  ⟨h.len, fun i a b ha hb => f a b (List.mem_of_getElem? ha) (List.mem_of_getElem? hb) (h.all i a b ha hb)⟩
theorem All2.snoc {α β : Type} {R : α → β → Prop} {as : List α} {bs : List β} {a : α} {b : β} (h : All2 R as bs) (r : R a b) : All2 R (as ++ [a]) (bs ++ [b]) := by
  refine ⟨by rw [List.length_append, List.length_append, h.len]; rfl, fun i x y hx hy => ?_⟩
  by_cases c : i < as.length
  · rw [List.getElem?_append_left c] at hx
    rw [List.getElem?_append_left (by rw [← h.len]; exact c)] at hy
    exact h.all i x y hx hy
  · rw [List.getElem?_append_right (by omega)] at hx
    rw [List.getElem?_append_right (by rw [← h.len]; omega)] at hy
    have c0 : i - as.length = 0 := by
      have := (List.getElem?_eq_some_iff.mp hx).1
      simp at this
      omega
    rw [← h.len, c0] at hy
    rw [c0] at hx
    have e1 : a = x := by simpa using hx
    have e2 : b = y := by simpa using hy
    subst e1 e2
    exact r
theorem All2.one {α β : Type} {R : α → β → Prop} {a : α} {b : β} (r : R a b) : All2 R [a] [b] := All2.nil.snoc r
theorem All2.two {α β : Type} {R : α → β → Prop} {a a' : α} {b b' : β} (r : R a b) (r' : R a' b') : All2 R [a, a'] [b, b'] := (All2.one r).snoc r'
theorem All2.take {α β : Type} {R : α → β → Prop} {as : List α} {bs : List β} (h : All2 R as bs) (n : Nat) : All2 R (as.take n) (bs.take n) :=
  ⟨by rw [List.length_take, List.length_take, h.len], fun i a b ha hb => by
    rw [List.getElem?_take] at ha hb
    split at ha
    · rename_i c
      rw [if_pos c] at hb
      exact h.all i a b ha hb
    · cases ha⟩
theorem All2.rev {α β : Type} {R : α → β → Prop} {as : List α} {bs : List β} (h : All2 R as bs) : All2 R as.reverse bs.reverse :=
  ⟨by rw [List.length_reverse, List.length_reverse, h.len], fun i a b ha hb => by
    have hi : i < as.length := by
      have := (List.getElem?_eq_some_iff.mp ha).1
      simpa using this
    rw [List.getElem?_reverse hi] at ha
    rw [List.getElem?_reverse (by rw [← h.len]; exact hi), ← h.len] at hb
    exact h.all _ a b ha hb⟩
theorem same1 {H : Hp} {p : Addr} {o : HO} (h : H p = none) : Same H (upd H p o) := fun b u e => by rw [upd_ne (ne_of_none e h)]; exact e
theorem Same.tup {K : PySem.W.Frag} {H H' : Hp} {a : Addr} {xs : List V} (e : Same H H') (h : SqT K H a xs) : SqT K H' a xs := SqT.ext h e
theorem at_k {xs : List V} {k : Int} {v : V} (h0 : 0 ≤ k) (h : xs[k.toNat]? = some v) : atI xs k = some v := by
  have e := atI_nat h
  rw [Int.toNat_of_nonneg h0] at e
  exact e
/-- a def at hand: its promise, its name, how it is called -/
structure At (P : Program) (w : World) (K : PySem.W.Frag) (mg : Str → Option Value) (base : Heap) (CX : CXT) (k : Nat) (x : Str) (ps : List Str) (sp : Sp) (f : Addr) (fd : FuncData) : Prop where
  G : FnOk P w K mg base CX k f fd ps sp
  m : mg x = some (.ref f)
  k : PySem.W.keepIn K (.ref f) = true
  b : Binds K fd ps []
end K13

namespace K13
open PySem PySem.Spec PyProof.Rows L2
/-! ### the law's draws: any digit -/
/-- the builtins that the law asks by name -/
structure TxtB (mg : Str → Option Value) : Prop where
  int : mg "int" = none
  len : mg "len" = none
  abs : mg "abs" = none
/-- all but p stays -/
def But (p : Addr) (H H' : Hp) : Prop := ∀ b o, b ≠ p → H b = some o → H' b = some o
/-- a well that may be drawn from z times so far -/
def WellAt (H : Hp) (p : Addr) (z : Int) : Prop := ∃ x y : Int, H p = some (.lst [.int x, .int y, .int z]) ∧ 0 ≤ y ∧ y < 2 ^ 31
def spWell : Sp := fun vs H Q _ => ∃ c : Int, vs = [.int c] ∧ ∀ (p : Addr) (x y : Int), H p = none → 0 ≤ y → y < 2 ^ 31 → Q (.ref p) (upd H p (.lst [.int x, .int y, .int 0]))
def spDraw : Sp := fun vs H Q _ => ∃ (p : Addr) (m z : Int), vs = [.ref p, .int m] ∧ WellAt H p z ∧ 0 < m ∧ m < 2 ^ 62 ∧ 0 ≤ z ∧ z < 2 ^ 30 ∧
  ∀ (H' : Hp) (d z' : Int), But p H H' → WellAt H' p z' → 0 ≤ z' → z' ≤ z + 1 → 0 ≤ d → d < m → Q (.int d) H'
def spOne (K : PySem.W.Frag) : Sp := fun vs H Q _ => ∃ (p l : Addr) (xs : List V) (z : Int), vs = [.ref p, .ref l] ∧ WellAt H p z ∧ 0 ≤ z ∧ z < 2 ^ 30 ∧ H l = some (.lst xs) ∧ l ≠ p ∧ 0 < xs.length ∧ xs.length < 1000 ∧
  ∀ (H' : Hp) (z' : Int) (x : V), But p H H' → WellAt H' p z' → 0 ≤ z' → z' ≤ z + 1 → x ∈ xs → Q x H'
theorem prime_of {z : Int} : ∃ v : Int, atI [V.int 2147483647, V.int 2147483629, V.int 2147483587, V.int 2147483579, V.int 2147483563, V.int 2147483549, V.int 2147483543] (z % 7) = some (V.int v) ∧ 0 < v ∧ v < 2 ^ 31 := by
  have h : z % 7 = 0 ∨ z % 7 = 1 ∨ z % 7 = 2 ∨ z % 7 = 3 ∨ z % 7 = 4 ∨ z % 7 = 5 ∨ z % 7 = 6 := by omega
  rcases h with h | h | h | h | h | h | h <;> rw [h]
  · exact ⟨_, at_k (by decide) rfl, by decide, by decide⟩
  · exact ⟨_, at_k (by decide) rfl, by decide, by decide⟩
  · exact ⟨_, at_k (by decide) rfl, by decide, by decide⟩
  · exact ⟨_, at_k (by decide) rfl, by decide, by decide⟩
  · exact ⟨_, at_k (by decide) rfl, by decide, by decide⟩
  · exact ⟨_, at_k (by decide) rfl, by decide, by decide⟩
  · exact ⟨_, at_k (by decide) rfl, by decide, by decide⟩
section
variable {P : Program} {w : World} {K : PySem.W.Frag} {mg : Str → Option Value} {base : Heap}
theorem scWell : FnScope ["cell"] ["cell"] (defScope d_law_well) := ⟨rfl, rfl, rfl, by decide +kernel, rfl, by decide +kernel, by decide +kernel⟩
theorem ok_well {f : Addr} {fd : FuncData} (F : Fun K "_law_well" "_law_well" d_law_well f fd) (B : TxtB mg) : FnOk P w K mg base CX0 1 f fd ["cell"] spWell := by
  refine F.ok scWell (fun vs H Q E h => ?_) (fun cdv A outer s H vs Q E hr h => ?_)
  · obtain ⟨c, rfl, _⟩ := h
    rfl
  · obtain ⟨c, rfl, kq⟩ := h
    refine ⟨_, pss_one (ps_ret (pe_lst (pa_cons (pe_op op_mul (pv 0) (pe_callTy call_int1 (by rfl) B.int (by decide +kernel) (pa_cons (pe_cmpR op_ge (pv 0) (pe_op op_pow pe_int pe_int) (nomark _)) pa_nil)))
      (pa_cons (pe_op op_mod (pv 0) pe_int) (pa_cons pe_int pa_nil))))), ?_⟩
    refine ⟨_, rfl, _, rfl, _, _, rfl, rfl, ⟨by decide, by decide, by decide⟩, _, _, rfl, rfl, .inr ⟨_, rfl, ?_⟩⟩
    refine ⟨_, _, rfl, rfl, .inr (by split <;> decide), _, rfl, _, _, rfl, rfl, (by show (0 : Int) < 2147483647; decide), (by show 3 ≤ sizeLine; decide), fun p hp => ?_⟩
    exact kq p _ _ hp (Int.emod_nonneg _ (by decide)) (Int.lt_of_lt_of_le (Int.emod_lt_of_pos _ (by decide)) (by decide))
theorem scDraw : FnScope ["well", "many", "digit", "prime", "number"] ["well", "many"] (defScope d_law_draw) := ⟨rfl, rfl, rfl, by decide +kernel, rfl, by decide +kernel, by decide +kernel⟩
theorem ok_draw {f : Addr} {fd : FuncData} (F : Fun K "_law_draw" "_law_draw" d_law_draw f fd) : FnOk P w K mg base CX0 1 f fd ["well", "many"] spDraw := by
  refine F.ok scDraw (fun vs H Q E h => ?_) (fun cdv A outer s H vs Q E hr h => ?_)
  · obtain ⟨p, m, z, rfl, _⟩ := h
    rfl
  · obtain ⟨p, m, z, rfl, ⟨x, y, hp, y0, y1⟩, m0, m1, z0, z1, kq⟩ := h
    refine ⟨_, pss_cons (ps_if (pt_cmpR op_gt (pe_ix ix_list (pv 0) pe_int (fun _ _ => rfl)) pe_int (nomark _))
        (pss_cons (ps_set (i := 2) scDraw.nd rfl (Or.inl rfl) (pe_op op_mod (pe_ix ix_list (pv 0) pe_int (fun _ _ => rfl)) (pv 1)))
        (pss_cons (ps_asg (pe_op op_fdivW (pe_ix ix_list (pv 0) pe_int (fun _ _ => rfl)) (pv 1)) (pg_sub (pv 0) pe_int set_list))
        (pss_one (ps_ret (pv 2))))) pss_nil)
      (pss_cons (ps_asg (pe_op op_add (pe_ix ix_list (pv 0) pe_int (fun _ _ => rfl)) pe_int) (pg_sub (pv 0) pe_int set_list))
      (pss_cons (ps_set (i := 3) scDraw.nd rfl (Or.inl rfl) (pe_ix ix_list (pe_lst (pa_cons pe_int (pa_cons pe_int (pa_cons pe_int (pa_cons pe_int (pa_cons pe_int (pa_cons pe_int (pa_cons pe_int pa_nil)))))))) (pe_op op_mod (pe_ix ix_list (pv 0) pe_int (fun _ _ => rfl)) pe_int) (fun _ _ => rfl)))
      (pss_cons (ps_set (i := 4) scDraw.nd rfl (Or.inl rfl) (pe_op op_mod (pe_op op_pow (pe_op op_add (pe_op op_add (pe_ix ix_list (pv 0) pe_int (fun _ _ => rfl)) (pe_op op_mul pe_int (pe_ix ix_list (pv 0) pe_int (fun _ _ => rfl)))) pe_int) pe_int) (pv 3)))
      (pss_cons (ps_set (i := 4) scDraw.nd rfl (Or.inl rfl) (pe_op op_mod (pe_op op_mul (pe_op op_add (pv 4) (pe_ix ix_list (pv 0) pe_int (fun _ _ => rfl))) (pe_op op_add (pe_op op_fdiv (pv 4) pe_int) pe_int)) (pv 3)))
      (pss_one (ps_ret (pe_op op_mod (pe_op op_fdiv (pv 4) pe_int) (pv 1)))))))), ?_⟩
    refine ⟨_, rfl, p, _, _, _, rfl, rfl, SqL.of hp, at_k (by decide) rfl, _, _, rfl, rfl, _, rfl, ?_⟩
    refine ite2 (fun h => ?_) (fun h => ?_)
    · refine ⟨_, rfl, p, _, _, _, rfl, rfl, SqL.of hp, at_k (by decide) rfl, _, rfl, _, _, rfl, rfl, m0, ?_⟩
      refine ⟨_, rfl, p, _, _, _, rfl, rfl, SqL.of hp, at_k (by decide) rfl, _, rfl, _, _, rfl, rfl, wide_div (b := 62) m0 (by omega) (by decide) (by decide), ?_⟩
      refine ⟨_, rfl, p, _, _, 0, rfl, rfl, hp, rfl, ?_⟩
      exact ⟨_, rfl, kq _ _ _ (fun b o hb e => by rw [upd_ne hb]; exact e) ⟨_, _, upd_same, y0, y1⟩ z0 (by omega) (Int.emod_nonneg _ (by omega)) (Int.emod_lt_of_pos _ m0)⟩
    · refine ⟨_, rfl, p, _, _, _, rfl, rfl, SqL.of hp, at_k (by decide) rfl, _, _, rfl, rfl, ?_⟩
      refine ⟨_, rfl, p, _, _, 2, rfl, rfl, hp, rfl, ?_⟩
      obtain ⟨v, hv, v0, v1⟩ := prime_of (z := z + 1)
      refine ⟨(by show 7 ≤ sizeLine; decide), fun q hq => ?_⟩
      have hqp : p ≠ q := fun e => by rw [← e, upd_same] at hq; cases hq
      have hw : upd (upd H p (.lst [.int x, .int y, .int (z + 1)])) q (.lst [V.int 2147483647, V.int 2147483629, V.int 2147483587, V.int 2147483579, V.int 2147483563, V.int 2147483549, V.int 2147483543]) p = some (.lst [.int x, .int y, .int (z + 1)]) := by rw [upd_ne hqp, upd_same]
      refine ⟨_, rfl, p, _, _, _, rfl, rfl, SqL.of hw, at_k (by decide) rfl, _, _, rfl, rfl, (by show (0 : Int) < 7; decide), ?_⟩
      refine ⟨q, _, _, _, rfl, rfl, SqL.of upd_same, hv, ?_⟩
      refine ⟨_, rfl, p, _, _, _, rfl, rfl, SqL.of hw, at_k (by decide) rfl, _, rfl, p, _, _, _, rfl, rfl, SqL.of hw, at_k (by decide) rfl, _, _, rfl, rfl, .inl ⟨by decide, by decide⟩, _, _, rfl, rfl, _, _, rfl, rfl, _, _, rfl, rfl,
        ⟨by decide, by decide, by omega⟩, _, rfl, _, _, rfl, rfl, v0, ?_⟩
      have n0 := Int.emod_nonneg ((y + 7919 * (z + 1) + 1) ^ (5 : Int).toNat) (show v ≠ 0 by omega)
      have n1 := Int.emod_lt_of_pos ((y + 7919 * (z + 1) + 1) ^ (5 : Int).toNat) v0
      refine ⟨_, rfl, _, rfl, p, _, _, _, rfl, rfl, SqL.of hw, at_k (by decide) rfl, _, _, rfl, rfl, _, rfl, _, _, rfl, rfl, ⟨by decide, by decide⟩, _, _, rfl, rfl, _, _, rfl, rfl, .inl ⟨by omega, by omega⟩, _, rfl, _, _, rfl, rfl, v0, ?_⟩
      refine ⟨_, rfl, _, _, rfl, rfl, ⟨by decide, by decide⟩, _, rfl, _, _, rfl, rfl, m0, ?_⟩
      refine kq _ _ _ (fun b o hb e => ?_) ⟨_, _, hw, y0, y1⟩ (by omega) (by omega) (Int.emod_nonneg _ (by omega)) (Int.emod_lt_of_pos _ m0)
      have e1 : upd H p (.lst [.int x, .int y, .int (z + 1)]) b = some o := by rw [upd_ne hb]; exact e
      rw [upd_ne (ne_of_none e1 hq)]
      exact e1
theorem scOne : FnScope ["well", "some"] ["well", "some"] (defScope d_law_one) := ⟨rfl, rfl, rfl, by decide +kernel, rfl, by decide +kernel, by decide +kernel⟩
theorem ok_one {f fD : Addr} {fd fdD : FuncData} (F : Fun K "_law_one" "_law_one" d_law_one f fd) (B : TxtB mg) (GD : FnOk P w K mg base CX0 1 fD fdD ["well", "many"] spDraw) (mD : mg "_law_draw" = some (.ref fD)) (kD : PySem.W.keepIn K (.ref fD) = true) (bD : Binds K fdD ["well", "many"] []) :
    FnOk P w K mg base CX0 2 f fd ["well", "some"] (spOne K) := by
  refine F.ok scOne (fun vs H Q E h => ?_) (fun cdv A outer s H vs Q E hr h => ?_)
  · obtain ⟨p, l, xs, z, rfl, _⟩ := h
    rfl
  · obtain ⟨p, l, xs, z, rfl, hp, z0, z1, hl, ne, l0, l1, kq⟩ := h
    refine ⟨_, pss_one (ps_ret (pe_ix ix_list (pv 1) (pe_call GD hr rfl mD kD bD .nil pass0 (pa_cons (pv 0) (pa_cons (pe_callB call_len_seq (by rfl) B.len PySem.boot_len (pa_cons (pv 1) pa_nil)) pa_nil))) (fun _ _ => rfl))), ?_⟩
    refine ⟨_, rfl, _, rfl, _, rfl, l, xs, rfl, .inl (SqL.of hl), ?_⟩
    refine ⟨p, _, z, rfl, hp, (by omega), (by omega), z0, z1, fun H' d z' bt hp' z0' z1' d0 d1 => ?_⟩
    have hd : d.toNat < xs.length := by omega
    refine ⟨l, xs, _, xs[d.toNat], rfl, rfl, SqL.of (bt l _ ne hl), at_k d0 (by simp [hd]), ?_⟩
    exact kq H' z' _ bt hp' z0' z1' (List.getElem_mem hd)
end
end K13

namespace K13
open PySem PySem.Spec PyProof.Rows L2
/-! ### in lowest terms, by the law -/
def spLow : Sp := fun vs H Q _ => ∃ a b : Int, vs = [.int a, .int b] ∧ b ≠ 0 ∧ a.natAbs < 2 ^ 4000 ∧ b.natAbs < 2 ^ 4000 ∧
  ∀ p : Addr, H p = none → Q (.ref p) (upd H p (.tup [.int (lowT a b), .int (lowB a b)]))
def leftOf : L2.St → Nat
  | [_, _, _, some (.int l)] => l.toNat
  | _ => 0
theorem absV (i : Int) : (if i < 0 then -i else i) = ((i.natAbs : Nat) : Int) := by split <;> omega
section
variable {P : Program} {w : World} {K : PySem.W.Frag} {mg : Str → Option Value} {base : Heap}
theorem scLow : FnScope ["top", "bottom", "one", "other"] ["top", "bottom"] (defScope d_law_low) := ⟨rfl, rfl, rfl, by decide +kernel, rfl, by decide +kernel, by decide +kernel⟩
theorem ok_low {f : Addr} {fd : FuncData} (F : Fun K "_law_low" "_law_low" d_law_low f fd) (B : TxtB mg) : FnOk P w K mg base CX0 1 f fd ["top", "bottom"] spLow := by
  refine F.ok scLow (fun vs H Q E h => ?_) (fun cdv A outer s H vs Q E hr h => ?_)
  · obtain ⟨a, b, rfl, _⟩ := h
    rfl
  · obtain ⟨a, b, rfl, hb, sa, sb, kq⟩ := h
    refine ⟨_, pss_cons (ps_par (i := 2) (j := 3) rfl scLow.nd rfl rfl (by decide) rfl rfl (pa_cons (pe_callB call_abs (by rfl) B.abs (by decide +kernel) (pa_cons (pv 0) pa_nil)) (pa_cons (pe_callB call_abs (by rfl) B.abs (by decide +kernel) (pa_cons (pv 1) pa_nil)) pa_nil)) (by rfl))
      (pss_cons (ps_while PassesOwn.never (pt_cmpR op_gt (pv 3) pe_int (nomark _)) (pss_one (ps_par (i := 2) (j := 3) rfl scLow.nd rfl rfl (by decide) rfl rfl (pa_cons (pv 3) (pa_cons (pe_op op_mod (pv 2) (pv 3)) pa_nil)) (by rfl))))
      (pss_cons (ps_if (pt_cmpR op_lt (pv 1) pe_int (nomark _)) (pss_one (ps_set (i := 2) scLow.nd rfl (Or.inl rfl) (pe_op op_sub pe_int (pv 2)))) pss_nil)
      (pss_one (ps_ret (pe_tup (pa_cons (pe_op op_fdivX (pv 0) (pv 2)) (pa_cons (pe_op op_fdivX (pv 1) (pv 2)) pa_nil))))))), ?_⟩
    refine ⟨_, rfl, a, rfl, _, rfl, b, rfl, _, _, rfl, ?_⟩
    rw [absV, absV]
    refine while_by (fun σ H' => H' = H ∧ ∃ g l : Nat, σ = [some (.int a), some (.int b), some (.int (g : Int)), some (.int (l : Int))] ∧ Nat.gcd g l = Nat.gcd a.natAbs b.natAbs) (fun σ _ => leftOf σ) ⟨rfl, _, _, rfl, rfl⟩ ?_ ?_
    · rintro σ H' ⟨rfl, g, l, rfl, hg⟩
      refine ⟨_, rfl, _, _, rfl, rfl, _, rfl, ?_⟩
      by_cases hl : l = 0
      · subst hl
        rw [show decide ((0 : Int) < ((0 : Nat) : Int)) = false from by simp]
        refine iteF ?_
        have ge : g = Nat.gcd a.natAbs b.natAbs := by rw [← hg, Nat.gcd_zero_right]
        refine ⟨_, rfl, _, _, rfl, rfl, _, rfl, ?_⟩
        have gs : (sg a b).natAbs < 2 ^ 4000 := Nat.lt_of_le_of_lt (sg_le hb) sb
        refine ite2 (fun hn => ?_) (fun hn => ?_)
        · have hn : b < 0 := of_decide_eq_true hn
          have e : 0 - (g : Int) = sg a b := by unfold sg; rw [if_pos hn, ge]; omega
          have g0 : 0 - (g : Int) ≠ 0 := by rw [e]; exact sg_ne hb
          have gd : ∀ i : Int, CDivX i (0 - (g : Int)) := fun i => big_div (b := 4000) g0 (by rw [e]; exact gs) (by decide) (by decide)
          refine ⟨_, rfl, _, _, rfl, rfl, ?_⟩
          refine ⟨_, rfl, _, rfl, _, _, rfl, rfl, gd _, _, rfl, _, rfl, _, _, rfl, rfl, gd _, (by show 2 ≤ sizeLine; decide), fun p hp => ?_⟩
          have z := kq p hp
          unfold lowT lowB at z
          rw [← e] at z
          exact z
        · have hn : ¬ b < 0 := fun q => hn (decide_eq_true q)
          have e : (g : Int) = sg a b := by unfold sg; rw [if_neg hn, ge]
          have g0 : (g : Int) ≠ 0 := by rw [e]; exact sg_ne hb
          have gd : ∀ i : Int, CDivX i (g : Int) := fun i => big_div (b := 4000) g0 (by rw [e]; exact gs) (by decide) (by decide)
          refine ⟨_, rfl, _, rfl, _, _, rfl, rfl, gd _, _, rfl, _, rfl, _, _, rfl, rfl, gd _, (by show 2 ≤ sizeLine; decide), fun p hp => ?_⟩
          have z := kq p hp
          unfold lowT lowB at z
          rw [← e] at z
          exact z
      · rw [show decide ((0 : Int) < (l : Int)) = true from decide_eq_true (by omega)]
        refine iteT ?_
        refine ⟨_, rfl, _, rfl, _, rfl, _, _, rfl, rfl, (by show (0 : Int) < (l : Int); omega), _, _, rfl, ⟨rfl, l, g % l, ?_, ?_⟩, ?_⟩
        · show [some (V.int a), some (V.int b), some (V.int (l : Int)), some (V.int ((g : Int) % (l : Int)))] = _
          rw [Int.natCast_emod]
        · rw [← hg, Nat.gcd_comm g l, Nat.gcd_rec l g, Nat.gcd_comm]
        · show ((g : Int) % (l : Int)).toNat < ((l : Int)).toNat
          have h1 : (g : Int) % (l : Int) = ((g % l : Nat) : Int) := (Int.natCast_emod g l).symm
          rw [h1, Int.toNat_natCast, Int.toNat_natCast]
          exact Nat.mod_lt _ (by omega)
    · intro σ H' Q1 Q2 m h
      obtain ⟨v, e, i, j, e1, e2, k, ek, q⟩ := h
      exact ⟨v, e, i, j, e1, e2, k, ek, m _ _ q⟩
end
end K13

namespace K13
open PySem PySem.Spec PyProof.Rows PySem.Calls
/-! ### == of two tuples whose items have an own == : both answers -/
section
variable {prog : Program} {w : World} {A : Around} {R : Result → Shared → Prop}
theorem tuple_eqB (l b : Addr) (items items2 : Array Value) (n n2 : Nat) (dd dd2 : Option Addr) (sl sl2 : Array (Option Value)) (I : Nat → Shared → Prop)
    (turn : ∀ i (h1 : i < items.size) (h2 : i < items2.size) s, I i s → wpAny (model prog w) A.in1 (eqBool items[i] items2[i]) (fun r s' => (r = true ∧ I (i + 1) s') ∨ (r = false ∧ R (.ok (.ret (.bool false))) s')) (fun e s' => R (.error e) s') s)
    (fin : ∀ s, I (min items.size items2.size) s → R (.ok (.ret (.bool (items.size == items2.size)))) s) {s : Shared} (hl1 : s.heap.get? l = some { cls := .type "tuple", dict := dd, data := .seq items n, slots := sl }) (hb1 : s.heap.get? b = some { cls := .type "tuple", dict := dd2, data := .seq items2 n2, slots := sl2 }) (h : I 0 s) :
    wpAny (model prog w) A.in1 (Builtin.«tuple.__eq__» ⟨[.ref l, .ref b], []⟩) (GQ.FinOf prog w A R) (fun e s' => R (.error e) s') s := by
  have f2 := AutoSeq1.sub_tuple_tuple
  have hZ : (items.toList.zip items2.toList).length = min items.size items2.size := by simp
  have h0 := h
  obtain ⟨hp, g, d, tk, os⟩ := s
  wp_walk using wpAny_loadPart' hl1, wpAny_loadPart' hb1, wpAny_forIn_list _ (fun rest b s' => b.1 = none ∧ ∃ i, rest = (items.toList.zip items2.toList).drop i ∧ i ≤ min items.size items2.size ∧ I i s') _
  case turn =>
    rintro ⟨y, x⟩ rest b s' ⟨hb', i, hz, hi, hI⟩
    have hlt : i < (items.toList.zip items2.toList).length := by
      rcases Nat.lt_or_ge i (items.toList.zip items2.toList).length with h' | h'
      · exact h'
      · rw [List.drop_of_length_le h'] at hz; cases hz
    have h1 : i < items.size := by omega
    have h2 : i < items2.size := by omega
    rw [List.drop_eq_getElem_cons hlt] at hz
    injection hz with hyx hrest
    have hy : y = items[i] := by have := congrArg Prod.fst hyx; simpa using this
    have hx : x = items2[i] := by have := congrArg Prod.snd hyx; simpa using this
    subst hy hx
    refine wpAny_bind (wpAny_mono (turn i h1 h2 s' hI) (fun r s2 q2 => ?_) fun _ _ x => x)
    rcases q2 with ⟨hr, q2⟩ | ⟨hr, q2⟩
    · subst hr
      wp_walk
      exact ⟨rfl, i + 1, hrest, by omega, q2⟩
    · subst hr
      wp_walk
      exact q2
  case fin =>
    rintro ⟨b1, b2⟩ s' ⟨hb', i, hz, hi, hI⟩
    simp only at hb'
    subst hb'
    have hge : min items.size items2.size ≤ i := by
      rcases Nat.lt_or_ge i (items.toList.zip items2.toList).length with h' | h'
      · rw [List.drop_eq_getElem_cons h'] at hz; cases hz
      · exact hZ ▸ h'
    have hi' : i = min items.size items2.size := by omega
    have hR := fin s' (hi' ▸ hI)
    wp_walk
    simpa [Builtin.Tuple.tupleCompareSizes] using hR
  case h =>
    exact ⟨rfl, 0, rfl, Nat.zero_le _, h0⟩
end
section
variable {prog : Program} {w : World} {A : Around} {E : Value → Shared → Prop} {s : Shared}
theorem rc_tupB {l b : Addr} {items items2 : Array Value} {Q : Value → Shared → Prop} (hu : A.units < cLine) (I : Nat → Shared → Prop)
    (hl : s.heap.IsTuple l items) (hb : s.heap.IsTuple b items2)
    (turn : ∀ i (h1 : i < items.size) (h2 : i < items2.size) s, I i s → wpAny (model prog w) A.in1 (eqBool items[i] items2[i]) (fun r s' => (r = true ∧ I (i + 1) s') ∨ (r = false ∧ Q (.bool false) s')) E s)
    (fin : ∀ s, I (min items.size items2.size) s → Q (.bool (items.size == items2.size)) s) (h : I 0 s) : wpAny (model prog w) A (richCompare .Eq (.ref l) (.ref b)) Q E s := by
  obtain ⟨⟨cls, dd, data, sl⟩, ho, hc, n, hd⟩ := id hl
  obtain ⟨⟨cls2, dd2, data2, sl2⟩, ho2, hc2, n2, hd2⟩ := id hb
  simp only at hc hd hc2 hd2
  subst hc hd hc2 hd2
  refine wpAny_richCompare_same_room (op := .Eq) ⟨_, ho, rfl⟩ ⟨_, ho2, rfl⟩ F.slot_tuple_eq (GQ.call_here F.slot_tuple_eq ⟨_, ho, rfl⟩ F.entry_tuple_eq (F.args_tuple_eq_2 _ _) ?_) hu
  refine tuple_eqB (R := wants (fun v s' => v ≠ .notImplemented ∧ Q v s') E) l b items items2 n n2 dd dd2 sl sl2 I (fun i h1 h2 s' q => wpAny_mono (turn i h1 h2 s' q) (fun r s2 z => ?_) fun _ _ z => z) (fun s' q => ⟨(fun x => nomatch x), fin s' q⟩) ho ho2 h
  rcases z with z | ⟨hr, z⟩
  · exact .inl z
  · exact .inr ⟨hr, (fun x => nomatch x), z⟩
end
end K13

namespace K13
open PySem PySem.Spec PyProof.Rows L2
/-! ### == of a share and anything, by its own __eq__ -/
/-- what isinstance asks of the class, and what the law puts beside a share -/
structure TxtI (K : PySem.W.Frag) (C : Addr) : Prop where
  ha : PySem.W.findIn K (.ref C) "__class__" = some (some (.builtin "object.__class__"))
  hn : PySem.W.specialIn K (.builtin "object.__class__") "__get__" = some (some (.builtin "getset_descriptor.__get__"))
  htk : PySem.W.takesIn K (.builtin "object.__class__") = some true
  hm : PySem.W.mroIn K C (.type "object") = some true
  me : PySem.W.kitOne K (.ref C) (.ref C) = some true
  mt : PySem.W.kitOne K (.type "tuple") (.ref C) = some false
  mi : PySem.W.kitOne K (.type "int") (.ref C) = some false
  mn : PySem.W.kitOne K (.type "NoneType") (.ref C) = some false
/-- either another share, or something that is none -/
def EqTo (K : PySem.W.Frag) (C : Addr) (H : Hp) (v : V) (t1 b1 : Int) (r : Bool) : Prop :=
  (∃ (y : Addr) (t2 b2 : Int), v = .ref y ∧ ShAt C H y t2 b2 ∧ r = (decide (t1 = t2) && decide (b1 = b2))) ∨ (∃ ty, TyX K H v ty ∧ PySem.W.kitOne K ty (.ref C) = some false ∧ r = false)
def spEqS (K : PySem.W.Frag) (C : Addr) : Sp := fun vs H Q _ => ∃ (x : Addr) (v : V) (t1 b1 : Int) (r : Bool), vs = [.ref x, v] ∧ ShAt C H x t1 b1 ∧ EqTo K C H v t1 b1 r ∧ Q (.bl r) H
section
variable {P : Program} {w : World} {K : PySem.W.Frag} {mg : Str → Option Value} {base : Heap}
theorem decI (a b : Int) : decide (V.int a = V.int b) = decide (a = b) := by
  by_cases h : a = b
  · rw [h]; simp
  · simp [h]
theorem scEq : FnScope ["self", "other"] ["self", "other"] (defScope sEq) := ⟨rfl, rfl, rfl, by decide +kernel, rfl, by decide +kernel, by decide +kernel⟩
theorem ok_eq {f C CN : Addr} {fd : FuncData} (F : Fun K "__eq__" "Share.__eq__" sEq f fd) (T : Txt K mg C CN) (TI : TxtI K C) : FnOk P w K mg base CX0 1 f fd ["self", "other"] (spEqS K C) := by
  refine F.ok scEq (fun vs H Q E h => ?_) (fun cdv A outer s H vs Q E hr h => ?_)
  · obtain ⟨x, v, t1, b1, r, rfl, _⟩ := h
    rfl
  · obtain ⟨x, v, t1, b1, r, rfl, ⟨dx, hx⟩, hv, k⟩ := h
    refine ⟨_, pss_one (ps_ret (pe_and (pe_callB call_isi (by rfl) T.isi (by decide +kernel) (pa_cons (pv 1) (pa_cons (pe_glob (v := .ref C) rfl T.mgC rfl) pa_nil)))
      (pe_and (pe_cmpR op_eq (pe_fld (pv 0) rfl) (pe_fld (pv 1) rfl) (nomark _)) (pe_one (pe_cmpR op_eq (pe_fld (pv 0) rfl) (pe_fld (pv 1) rfl) (nomark _)))))), ?_⟩
    rcases hv with ⟨y, t2, b2, rfl, ⟨dy, hy⟩, rfl⟩ | ⟨ty, hty, hk, rfl⟩
    · refine ⟨_, rfl, _, _, _, _, true, rfl, ClsV.own C, TyX.base (TyOf.ins hy T.cl TI.ha TI.hn TI.htk TI.hm), TI.me, true, rfl, iteT ?_⟩
      refine ⟨_, rfl, x, C, dx, _, _, rfl, hx, T.cl, T.nT, shf_top .., _, rfl, y, C, dy, _, _, rfl, hy, T.cl, T.nT, shf_top .., rfl, _, rfl, ?_⟩
      rw [decI]
      by_cases e : t1 = t2
      · rw [decide_eq_true e] at k ⊢
        refine iteT ?_
        refine ⟨_, rfl, x, C, dx, _, _, rfl, hx, T.cl, T.nB, shf_bottom .., _, rfl, y, C, dy, _, _, rfl, hy, T.cl, T.nB, shf_bottom .., rfl, ?_⟩
        rw [decI]
        exact k
      · rw [decide_eq_false e] at k ⊢
        exact iteF k
    · refine ⟨_, rfl, _, _, _, _, false, rfl, ClsV.own C, hty, hk, false, rfl, iteF k⟩
end
end K13
namespace K13
open PySem PySem.Spec PyProof.Rows L2
/-! ### comparisons with a share in them -/
/-- what stands beside a share: another one, or a value of a built-in type that the share's class is no subclass of, and that is none of it -/
structure Odd (K : PySem.W.Frag) (C : Addr) (T : String) : Prop where
  k : PySem.W.kitOne K (.type T) (.ref C) = some false
  l : PySem.W.subIn K (.type T) (.ref C) = some false
  r : PySem.W.subIn K (.ref C) (.type T) = some false
/-- the own == of the class at C stands at f, and keeps its promise -/
structure OwnEq (X : Cx) (n : Nat) (C f : Addr) : Prop where
  fn : ∃ fd ps, FnOk X.prog X.w X.K X.mg X.base CX0 n f fd ps (spEqS X.K C) ∧ Binds X.K fd ps []
  at_ : PySem.W.findIn X.K (.ref C) "__eq__" = some (some (.ref f))
  isf : PySem.W.isFn X.K (.ref f) = true
section
variable {X : Cx} {n : Nat} {C f : Addr} {A : Around} {pins : List (Addr × Obj)} {s : Shared} {σ : L2.St} {H : Hp} {x : Addr} {v : V} {u : Value} {t1 b1 : Int} {r : Bool} {T : String}
/-- the def itself, called -/
theorem run_own (O : OwnEq X n C f) (sb : Sub X n A) (I : Inv X pins σ H s) (rv : RelV v u) (hx : ShAt C H x t1 b1) (hv : EqTo X.K C H v t1 b1 r) :
    wpAny (model X.prog X.w) A (call (.ref f) [.ref x, u]) (fun q s' => q = .bool r ∧ Inv X pins σ H s') X.xe s := by
  obtain ⟨fd, ps, F, hb⟩ := O.fn
  have hsp : spEqS X.K C [.ref x, v] H (fun z H' => z = .bl r ∧ H' = H) E0 := ⟨x, v, t1, b1, r, rfl, hx, hv, rfl, rfl⟩
  have e0 : Env0 X.prog X.w X.K X.mg X.base A X.stack s H := by
    have e := I.env0
    exact ⟨by rw [sb.fr]; exact e.frames, e.mod, e.bs, e.bsz, e.funs, e.frf, e.hok, e.bare⟩
  have hl := F.len _ _ _ _ hsp
  have r2 : Vals [V.ref x, v] [Value.ref x, u] := .cons rfl (.cons rv .nil)
  have bb := hb s [.ref x, u] I.kIn (by simpa using hl)
  rw [List.append_nil] at bb
  refine wpAny_call (codeAny_mono (F.run A X.stack s H ⟨[.ref x, u], []⟩ [.ref x, u] [.ref x, v] _ E0 sb.room e0 bb r2 hsp) fun q s' hq => ?_)
  cases q with
  | error e => exact hq.elim
  | ok fl =>
    cases fl with
    | ret z =>
      obtain ⟨y, H', I', ry, ey, eH⟩ := I.after hq
      subst ey
      subst eH
      cases ry
      exact ⟨rfl, I'⟩
    | next => exact False.elim hq
    | brk => exact False.elim hq
    | cont => exact False.elim hq
theorem ins_at (I : Inv X pins σ H s) (hx : ShAt C H x t1 b1) : ∃ ox od, PySem.W.InstAt s.heap x ox C od := by
  obtain ⟨dx, e⟩ := hx
  obtain ⟨m, J, _⟩ := ins_get I.hok e
  obtain ⟨od, J, _⟩ := J.look
  exact ⟨_, _, J⟩
/-- a share on the left -/
theorem rc_left (O : OwnEq X n C f) (sb : Sub X n A) (I : Inv X pins σ H s) (rv : RelV v u) (hx : ShAt C H x t1 b1) (hv : EqTo X.K C H v t1 b1 r)
    {tb : Value} (ht : PySem.W.Looks (model X.prog X.w) s.heap (typeOf u) tb) (hf : PySem.W.notFirst X.K C tb = true) :
    wpAny (model X.prog X.w) A (richCompare .Eq (.ref x) u) (fun q s' => q = .bool r ∧ Inv X pins σ H s') X.xe s := by
  obtain ⟨ox, od, J⟩ := ins_at I hx
  obtain ⟨m, hF⟩ := I.fr
  refine PySem.W.cmp_K (op := .Eq) (tb := tb) sb.room.units0 hF I.ok.mod.kin J ht hf O.at_ O.isf ?_
  refine wpAny_mono (run_own O sb I rv hx hv) (fun q s' z => ?_) fun _ _ z => z
  obtain ⟨rfl, I'⟩ := z
  exact ⟨rfl, I'⟩
/-- two shares -/
theorem rc_two (O : OwnEq X n C f) (sb : Sub X n A) (I : Inv X pins σ H s) {y : Addr} {t2 b2 : Int} (hx : ShAt C H x t1 b1) (hy : ShAt C H y t2 b2) :
    wpAny (model X.prog X.w) A (richCompare .Eq (.ref x) (.ref y)) (fun q s' => q = .bool (decide (t1 = t2) && decide (b1 = b2)) ∧ Inv X pins σ H s') X.xe s := by
  obtain ⟨oy, od, J⟩ := ins_at I hy
  exact rc_left O sb I (v := .ref y) rfl hx (.inl ⟨y, t2, b2, rfl, hy, rfl⟩) J.type (by simp [PySem.W.notFirst])
/-- a value of a built-in type on the left, a share on the right -/
theorem rc_right (O : OwnEq X n C f) (sb : Sub X n A) (I : Inv X pins σ H s) (rv : RelV v u) (hx : ShAt C H x t1 b1) (ty : TyX X.K H v (.type T)) (D : Odd X.K C T)
    (dec : wpAny (model X.prog X.w) A (tryCompare u "__eq__" (.ref x)) (fun q s' => q = none ∧ s' = s) X.xe s) :
    wpAny (model X.prog X.w) A (richCompare .Eq u (.ref x)) (fun q s' => q = .bool false ∧ Inv X pins σ H s') X.xe s := by
  obtain ⟨ox, od, J⟩ := ins_at I hx
  obtain ⟨Ph, Z, ph, _⟩ := kit_of I rv ty
  have LT := Z.ty (model X.prog X.w) s.heap I.kIn ph
  have nu : oneThing? .Eq u (.ref x) = none := by cases u <;> rfl
  unfold richCompare
  simp only [nu]
  refine wpAny_holding (wpAny_bind (wpAny_cRoomFor sb.room.units0 ?_))
  refine wpAny_bind (LT.here (wpAny_bind (J.type.here ?_)))
  rw [if_pos (show (Value.type T != Value.ref C) = true from rfl)]
  refine wpAny_bind ((PySem.W.looks_subIn I.kIn D.r).here ?_)
  simp only [Bool.false_eq_true, if_false]
  refine wpAny_bind (wpAny_mono dec (fun q s' z => ?_) fun _ _ z => z)
  obtain ⟨rfl, rfl⟩ := z
  simp only [Bool.not_false, if_true]
  refine wpAny_bind (m := tryCompare (.ref x) _ u) ?_
  unfold tryCompare
  refine wpAny_bind (PySem.W.ifBound_K I.kIn J O.at_ O.isf (wpAny_mono (run_own O sb I rv hx (.inr ⟨_, ty, D.k, rfl⟩)) (fun q s' z => ?_) fun _ _ z => z))
  obtain ⟨rfl, I'⟩ := z
  exact wpAny_pure (wpAny_pure ⟨rfl, I'⟩)
end
end K13

namespace K13
open PySem PySem.Spec PyProof.Rows PySem.Calls L2
/-! ### words: tuples of shares, and their == -/
/-- at each of ps stands the share of ws at the same place -/
def ShAll (C : Addr) (H : Hp) (ps : List Addr) (ws : List (Int × Int)) : Prop := ps.length = ws.length ∧ ∀ (i : Nat) (p : Addr) (x : Int × Int), ps[i]? = some p → ws[i]? = some x → ShAt C H p x.1 x.2
theorem ShAll.mono {C : Addr} {H H' : Hp} {ps : List Addr} {ws : List (Int × Int)} (h : ShAll C H ps ws) (s : Same H H') : ShAll C H' ps ws := ⟨h.1, fun i p x a b => (h.2 i p x a b).mono s⟩
theorem ShAll.drop {C : Addr} {H : Hp} {ps : List Addr} {ws : List (Int × Int)} (h : ShAll C H ps ws) (n : Nat) : ShAll C H (ps.drop n) (ws.drop n) :=
  ⟨by rw [List.length_drop, List.length_drop, h.1], fun i p x a b => h.2 (n + i) p x (by rw [← List.getElem?_drop]; exact a) (by rw [← List.getElem?_drop]; exact b)⟩
theorem ShAll.take {C : Addr} {H : Hp} {ps : List Addr} {ws : List (Int × Int)} (h : ShAll C H ps ws) (n : Nat) : ShAll C H (ps.take n) (ws.take n) :=
  ⟨by rw [List.length_take, List.length_take, h.1], fun i p x a b => by
    rw [List.getElem?_take] at a b
    split at a
    · rename_i q
      rw [if_pos q] at b
      exact h.2 i p x a b
    · cases a⟩
section
variable {X : Cx} {n : Nat} {C f : Addr} {A : Around} {pins : List (Addr × Obj)} {s : Shared} {σ : L2.St} {H : Hp}
theorem eqB_two (O : OwnEq X n C f) (sb : Sub X n A) (I : Inv X pins σ H s) {p q : Addr} {x y : Int × Int} (hx : ShAt C H p x.1 x.2) (hy : ShAt C H q y.1 y.2) :
    wpAny (model X.prog X.w) A (eqBool (.ref p) (.ref q)) (fun r s' => r = decide (x = y) ∧ Inv X pins σ H s') X.xe s := by
  by_cases h : p = q
  · subst h
    have e : x = y := by
      obtain ⟨dx, e1⟩ := hx
      obtain ⟨dy, e2⟩ := hy
      have e3 := e1.symm.trans e2
      injection e3 with e3
      injection e3 with _ _ e4
      have a1 := congrArg (fun l => l.lookup ("top" : Str)) e4
      have a2 := congrArg (fun l => l.lookup ("bottom" : Str)) e4
      simp only [shf_top, shf_bottom, Option.some.injEq, V.int.injEq] at a1 a2
      exact Prod.ext a1 a2
    rw [decide_eq_true e]
    exact SeqAt.EqAt.same (A := A) (s := s) (.ref p) X.prog X.w X.xe _ ⟨rfl, I⟩
  · refine GQ.eqBool_refG h (wpAny_mono (rc_two O sb I hx hy) (fun r s' z => ?_) fun _ _ z => z)
    obtain ⟨rfl, I'⟩ := z
    refine ⟨_, rfl, ?_, I'⟩
    rw [← Bool.decide_and]
    refine decide_eq_decide.mpr ⟨fun z => Prod.ext z.1 z.2, fun z => by rw [z]; exact ⟨rfl, rfl⟩⟩
theorem rc_words (O : OwnEq X n C f) (sb : Sub X (n + 1) A) (I : Inv X pins σ H s) {a b : Addr} {ps qs : List Addr} {ws vs : List (Int × Int)} (ha : SqT X.K H a (ps.map V.ref)) (hb : SqT X.K H b (qs.map V.ref)) (hw : ShAll C H ps ws) (hv : ShAll C H qs vs) :
    wpAny (model X.prog X.w) A (richCompare .Eq (.ref a) (.ref b)) (fun q s' => q = .bool (decide (ws = vs)) ∧ Inv X pins σ H s') X.xe s := by
  obtain ⟨its, r, e, z⟩ := I.tuple ha
  obtain ⟨its2, r2, e2, z2⟩ := I.tuple hb
  have l1 : its.length = ws.length := by rw [← r.length, List.length_map, hw.1]
  have l2 : its2.length = vs.length := by rw [← r2.length, List.length_map, hv.1]
  refine rc_tupB sb.room.units0 (fun i s' => Inv X pins σ H s' ∧ ∀ j, j < i → ws[j]? = vs[j]?) e e2 (fun i h1 h2 s' q => ?_) (fun s' q => ?_) ⟨I, fun j hj => absurd hj (Nat.not_lt_zero j)⟩
  · obtain ⟨I', hq⟩ := q
    have h1' : i < its.length := by simpa using h1
    have h2' : i < its2.length := by simpa using h2
    have k1 : i < ps.length := by rw [hw.1]; omega
    have k2 : i < qs.length := by rw [hv.1]; omega
    obtain ⟨u, hu, ru⟩ := r.get (i := i) (x := V.ref ps[i]) (by rw [List.getElem?_map, List.getElem?_eq_getElem k1]; rfl)
    obtain ⟨v, hv', rv⟩ := r2.get (i := i) (x := V.ref qs[i]) (by rw [List.getElem?_map, List.getElem?_eq_getElem k2]; rfl)
    obtain rfl : u = Value.ref ps[i] := ru
    obtain rfl : v = Value.ref qs[i] := rv
    have g1 : its.toArray[i] = Value.ref ps[i] := by
      have : its[i]? = some its.toArray[i] := by rw [List.getElem?_eq_getElem h1'] <;> simp
      rw [this] at hu
      exact Option.some.inj hu
    have g2 : its2.toArray[i] = Value.ref qs[i] := by
      have : its2[i]? = some its2.toArray[i] := by rw [List.getElem?_eq_getElem h2'] <;> simp
      rw [this] at hv'
      exact Option.some.inj hv'
    rw [g1, g2]
    have w1 : i < ws.length := by omega
    have w2 : i < vs.length := by omega
    refine wpAny_mono (eqB_two O sb.in1 I' (hw.2 i _ ws[i] (List.getElem?_eq_getElem k1) (List.getElem?_eq_getElem w1)) (hv.2 i _ vs[i] (List.getElem?_eq_getElem k2) (List.getElem?_eq_getElem w2))) (fun t s2 y => ?_) fun _ _ y => y
    obtain ⟨rfl, I2⟩ := y
    by_cases c : ws[i] = vs[i]
    · refine .inl ⟨decide_eq_true c, I2, fun j hj => ?_⟩
      rcases Nat.lt_succ_iff_lt_or_eq.mp hj with hj | rfl
      · exact hq j hj
      · rw [List.getElem?_eq_getElem w1, List.getElem?_eq_getElem w2, c]
    · refine .inr ⟨decide_eq_false c, ?_, I2⟩
      rw [decide_eq_false (fun q => c (by subst q; rfl))]
  · obtain ⟨I', hq⟩ := q
    refine ⟨?_, I'⟩
    rw [List.size_toArray, List.size_toArray, l1, l2] at hq
    show Value.bool (its.toArray.size == its2.toArray.size) = _
    rw [List.size_toArray, List.size_toArray, l1, l2]
    by_cases c : ws.length = vs.length
    · have e3 : ws = vs := List.ext_getElem? fun i => by
        by_cases hi : i < min ws.length vs.length
        · exact hq i hi
        · rw [List.getElem?_eq_none (by omega), List.getElem?_eq_none (by omega)]
      rw [decide_eq_true e3]
      simp [c]
    · rw [decide_eq_false (fun q => c (by rw [q]))]
      simp [c]
/-- a word == a word -/
def rEqW (K : PySem.W.Frag) (C : Addr) : R2 := fun x y H Q => ∃ (a b : Addr) (ps qs : List Addr) (ws vs : List (Int × Int)), x = .ref a ∧ y = .ref b ∧ SqT K H a (ps.map V.ref) ∧ SqT K H b (qs.map V.ref) ∧ ShAll C H ps ws ∧ ShAll C H qs vs ∧ Q (.bl (decide (ws = vs))) H
theorem op_eqW (O : OwnEq X n C f) (hr : Room (n + 1) X.A) : OpR X (compareOp .Eq) (rEqW X.K C) := by
  intro pins s σ H x y v u Q I rx ry h
  obtain ⟨a, b, ps, qs, ws, vs, rfl, rfl, ha, hb, hw, hv, q⟩ := h
  cases rx
  cases ry
  show wpAny (model X.prog X.w) X.A (richCompare .Eq (.ref a) (.ref b)) (EP X pins σ Q) X.xe s
  refine wpAny_mono (rc_words O ⟨hr, rfl⟩ I ha hb hw hv) (fun r s' z => ?_) fun _ _ z => z
  obtain ⟨rfl, I'⟩ := z
  exact ⟨.bl _, H, I', rfl, q⟩
end
end K13

namespace K13
open PySem PySem.Spec PyProof.Rows PySem.Calls L2
/-! ### t[lo:hi], the whole of it too: then t itself -/
section
variable {prog : Program} {w : World} {A : Around} {E : Value → Shared → Prop} {s : Shared}
theorem getItem_tuple_whole {t sl : Addr} {items : Array Value} {vl vu : Value} {lo hi : Option Int} {Q : Value → Shared → Prop} (ht : IsTup s.heap t items) (hs : s.heap.IsSliceOf sl vl vu .none) (pl : IsPart vl lo) (pu : IsPart vu hi)
    (hw : HT.sIx items.size 0 lo = 0 ∧ HT.sIx items.size items.size hi = items.size) (h : Q (.ref t) s) : wpAny (model prog w) A (getItem (.ref t) (.ref sl)) Q E s := by
  obtain ⟨os, hos, hcs, hds⟩ := id hs
  have hTs : s.TypeIs (.ref sl) "slice" := ⟨os, hos, hcs⟩
  unfold getItem
  try with_reducible refine wpAny_holding ?_
  first | refine wpAny_bind (wpAny_pure ?_) | skip
  refine wpAny_bind (wpAny_sequenceKey ht.typeIs (by decide) ?_)
  refine wpAny_bind (wpAny_callSpecial?_slot (name := Str.ofString "__getitem__") ht.typeIs PyProof.Rows.slot_tuple_getitem
    (wpAny_call_entry PyProof.Rows.slot_tuple_getitem ht.typeIs entry_tuple_getitem ?_ (args_tuple_getitem _ _)))
  show wpAny _ _ (Builtin.Tuple.tupleItemsOf (.ref t) >>= _) _ _ s
  refine wpAny_bind (PyProof.Rows.tupleItemsOf_ ht ?_)
  refine wpAny_bind (wpAny_typeOf hTs ?_)
  rw [if_pos (by decide)]
  refine wpAny_bind (HT.sliceApplied_gen hs pl pu ?_)
  have hyes : ((((HT.sIx items.size 0 lo : Nat) : Int) == 0 && (1 : Int) == 1 && (HT.sIx items.size items.size hi - HT.sIx items.size 0 lo) == items.size) = true) := by
    rw [hw.1, hw.2]
    simp
  show wpAny _ _ (if (((HT.sIx items.size 0 lo : Nat) : Int) == 0 && (1 : Int) == 1 && (HT.sIx items.size items.size hi - HT.sIx items.size 0 lo) == items.size) = true then _ else _) _ _ s
  rw [if_pos hyes]
  obtain ⟨o, ho, hc, n, hd⟩ := id ht
  have hT : s.TypeIs (.ref t) "tuple" := ⟨o, ho, hc⟩
  unfold Builtin.Tuple.tupleIsExact
  refine wpAny_bind (wpAny_bind (wpAny_typeOf hT (wpAny_pure ?_)))
  rw [if_pos (by decide)]
  wp_walk
  exact ⟨_, rfl, wpAny_pure h⟩
end
/-- t[lo:hi]: t itself, or a new one -/
def rSlA (K : PySem.W.Frag) : V → Option Int → Option Int → Hp → VK → Prop := fun x lo hi H Q => ∃ a xs, x = .ref a ∧ SqT K H a xs ∧
  (HT.sIx xs.length 0 lo = 0 ∧ HT.sIx xs.length xs.length hi = xs.length → Q (.ref a) H) ∧ (¬ (HT.sIx xs.length 0 lo = 0 ∧ HT.sIx xs.length xs.length hi = xs.length) → ∀ p, H p = none → Q (.ref p) (upd H p (.tup (cutV xs lo hi))))
theorem sl_tupA {X : Cx} : SlR X (rSlA X.K) := by
  intro pins s σ H x v vl vu lo hi sl Q I rx hs pl pu h
  obtain ⟨a, xs, rfl, hx, hw, q⟩ := h
  by_cases c : HT.sIx xs.length 0 lo = 0 ∧ HT.sIx xs.length xs.length hi = xs.length
  · cases rx
    obtain ⟨its, r, ht, hz⟩ := I.tuple hx
    have hlen : its.toArray.size = xs.length := by rw [List.size_toArray]; exact r.length.symm
    refine ⟨"tuple", _, PyProof.Rows.slot_tuple_getitem.lookup, ht.typeIs, ?_⟩
    exact getItem_tuple_whole ht hs pl pu (by rw [hlen]; exact c) ⟨.ref a, H, I, rfl, hw c⟩
  · exact sl_tup pins s σ H (.ref a) v vl vu lo hi sl Q I rx hs pl pu ⟨a, xs, rfl, hx, c, q c⟩
/-- a slice's part that may be None -/
def tPartN (t : TE) : TO := fun σ H Q => t σ H fun x H1 => (x = .non ∧ Q none H1) ∨ ∃ i, x = .int i ∧ Q (some i) H1
theorem po_any {X : Cx} {e : Expr} {te : TE} (h : PE X e te) : PO X (some e) (tPartN te) := by
  refine ⟨fun pins s σ H Q I hw => ?_⟩
  rw [evalPart_some]
  refine thn (h.run pins s σ H _ I hw) fun u s1 ⟨x, H1, I1, r1, q1⟩ => ?_
  rcases q1 with ⟨rfl, q⟩ | ⟨i, rfl, q⟩
  · cases r1
    exact ⟨none, H1, I1, .none, q⟩
  · obtain ⟨t, rfl⟩ := r1
    exact ⟨some i, H1, I1, .int i t, q⟩
end K13

namespace K13
open PySem PySem.Spec PyProof.Rows L2
/-! ### a word by its least part -/
theorem cut_from {xs : List V} {n : Nat} (h : n ≤ xs.length) : cutV xs (some (n : Int)) none = xs.drop n := by
  unfold cutV
  rw [HT.sIx_nat, HT.sIx_none, Nat.min_eq_left h, List.take_of_length_le (by rw [List.length_drop]; exact Nat.le_refl _)]
theorem cut_to {xs : List V} {n : Nat} : cutV xs none (some (n : Int)) = xs.take n := by
  unfold cutV
  rw [HT.sIx_nat, HT.sIx_none, List.drop_zero, Nat.sub_zero]
  by_cases h : n ≤ xs.length
  · rw [Nat.min_eq_left h]
  · rw [Nat.min_eq_right (by omega), List.take_of_length_le (Nat.le_refl _), List.take_of_length_le (by omega)]
theorem sIx_back {l d n : Nat} (h : 0 < n) : HT.sIx l d (some (-(n : Int))) = l - n := by
  show (if -(n : Int) < 0 then (-(n : Int) + (l : Int)).toNat else min (-(n : Int)).toNat l) = l - n
  rw [if_pos (by omega)]
  omega
theorem cut_back {xs : List V} {n : Nat} (h : 0 < n) : cutV xs none (some (-(n : Int))) = xs.take (xs.length - n) := by
  unfold cutV
  rw [sIx_back h, HT.sIx_none, List.drop_zero, Nat.sub_zero]
/-- ws is its first m, again and again -/
def Per (ws : List (Int × Int)) (m : Nat) : Prop := m ∣ ws.length ∧ ws.drop m = ws.take (ws.length - m)
def Least (ws : List (Int × Int)) (m : Nat) : Prop := 1 ≤ m ∧ Per ws m ∧ ∀ k, 1 ≤ k → k < m → ¬ Per ws k
def spLeast (K : PySem.W.Frag) (C : Addr) : Sp := fun vs H Q _ => ∃ (a : Addr) (ps : List Addr) (ws : List (Int × Int)), vs = [.ref a] ∧ SqT K H a (ps.map V.ref) ∧ ShAll C H ps ws ∧ 1 ≤ ws.length ∧ ws.length ≤ 1000 ∧
  ∀ (H' : Hp) (q : Addr) (m : Nat), Same H H' → Least ws m → SqT K H' q ((ps.take m).map V.ref) → Q (.ref q) H'
section
variable {P : Program} {w : World} {K : PySem.W.Frag} {mg : Str → Option Value} {base : Heap}
theorem scLeast : FnScope ["word", "size"] ["word"] (defScope d_least_word) := ⟨rfl, rfl, rfl, by decide +kernel, rfl, by decide +kernel, by decide +kernel⟩
theorem ok_least {f fE C : Addr} {fd fdE : FuncData} (F : Fun K "least_word" "least_word" d_least_word f fd) (B : TxtB mg) (hr_ : mg "range" = none)
    (GE : FnOk P w K mg base CX0 1 fE fdE ["self", "other"] (spEqS K C)) (bE : Binds K fdE ["self", "other"] []) (aE : PySem.W.findIn K (.ref C) "__eq__" = some (some (.ref fE))) (iE : PySem.W.isFn K (.ref fE) = true) :
    FnOk P w K mg base CX0 3 f fd ["word"] (spLeast K C) := by
  refine F.ok scLeast (fun vs H Q E h => ?_) (fun cdv A outer s H vs Q E hr h => ?_)
  · obtain ⟨a, ps, ws, rfl, _⟩ := h
    rfl
  · obtain ⟨a, ps, ws, rfl, ha, hw, l1, l2, kq⟩ := h
    have own : OwnEq (cxOf CX0 P w K mg base ["word", "size"] "least_word" (defScope d_least_word) f cdv A outer s H E).nox 1 C fE := ⟨⟨_, _, GE, bE⟩, aE, iE⟩
    refine ⟨_, pss_cons (ps_for PassesOwn.never rfl (pi_range2 (by rfl) hr_ (pa_cons pe_int (pa_cons (pe_op op_add (pe_op op_fdiv (pe_callB call_len_seq (by rfl) B.len PySem.boot_len (pa_cons (pv 0) pa_nil)) pe_int) pe_int) pa_nil))) (pg_name (i := 1) scLeast.nd rfl (.inl rfl))
        (pss_one (ps_if (PW.pt (pw_and (pt_cmpR op_eq (pe_op op_mod (pe_callB call_len_seq (by rfl) B.len PySem.boot_len (pa_cons (pv 0) pa_nil)) (pv 1)) pe_int (nomark _))
            (pw_and1 (pt_cmpR (op_eqW own hr) (pe_slice sl_tup (pv 0) (po_some (pv 1)) po_none) (pe_slice sl_tup (pv 0) po_none (po_some (pe_un un_neg (pv 1)))) (nomark _)))))
          (pss_one (ps_ret (pe_slice sl_tup (pv 0) po_none (po_some (pv 1))))) pss_nil)))
      (pss_one (ps_ret (pv 0))), ?_⟩
    have lp : (ps.map V.ref).length = ws.length := by rw [List.length_map, hw.1]
    refine ⟨_, rfl, a, _, rfl, .inr ha, _, _, rfl, rfl, ⟨by decide, by decide⟩, _, _, rfl, rfl, 1, _, rfl, ?_, ?_⟩
    · rw [lp]
      exact ⟨by decide, by decide, by omega, by omega⟩
    rw [lp]
    rw [show ((ws.length : Int) / 2 + 1 - 1).toNat = ws.length / 2 from by omega]
    refine for_range (lo := 1) (n := ws.length / 2) (fun i σ G => (∃ v, σ = [some (.ref a), v]) ∧ Same H G ∧ ∀ k, 1 ≤ k → k < 1 + i → ¬ Per ws k) ⟨⟨none, rfl⟩, Same.refl H, fun k h1 h2 => by omega⟩ ?_ ?_
    · rintro i σ G hi ⟨⟨v, rfl⟩, sm, np⟩
      have haG := Same.tup sm ha
      have hwG := hw.mono sm
      refine ⟨_, rfl, a, _, rfl, .inr haG, _, rfl, _, _, rfl, rfl, (by show (0 : Int) < 1 + (i : Int); omega), rfl, _, rfl, ?_⟩
      rw [lp]
      have ed : decide (V.int ((ws.length : Int) % (1 + (i : Int))) = V.int 0) = decide ((1 + i) ∣ ws.length) := by
        refine decide_eq_decide.mpr ?_
        rw [V.int.injEq]
        rw [show (1 + (i : Int)) = ((1 + i : Nat) : Int) from by omega, ← Int.natCast_emod]
        constructor
        · intro q
          exact Nat.dvd_of_mod_eq_zero (by omega)
        · intro q
          rw [Nat.mod_eq_zero_of_dvd q]
          rfl
      rw [ed]
      refine ite2 (fun hd => ?_) (fun hd => ?_)
      · have hd : (1 + i) ∣ ws.length := of_decide_eq_true hd
        have en : (1 + (i : Int)) = ((1 + i : Nat) : Int) := by omega
        have f1 : cutV (ps.map V.ref) (some (1 + (i : Int))) none = (ps.drop (1 + i)).map V.ref := by rw [en, cut_from (by rw [lp]; omega), List.map_drop]
        have f2 : cutV (ps.map V.ref) none (some (-(1 + (i : Int)))) = (ps.take (ws.length - (1 + i))).map V.ref := by rw [en, cut_back (by omega), lp, List.map_take]
        have f3 : cutV (ps.map V.ref) none (some (1 + (i : Int))) = (ps.take (1 + i)).map V.ref := by rw [en, cut_to, List.map_take]
        refine ⟨_, rfl, _, rfl, _, rfl, a, _, rfl, haG, (fun z => by
          have z := z.1
          rw [lp, en, HT.sIx_nat] at z
          omega), fun p hp => ?_⟩
        have s1 : Same G (upd G p (.tup (cutV (ps.map V.ref) (some (1 + (i : Int))) none))) := same1 hp
        have t1 : SqT K (upd G p (.tup (cutV (ps.map V.ref) (some (1 + (i : Int))) none))) p ((ps.drop (1 + i)).map V.ref) := by
          rw [← f1]
          exact SqT.of upd_same
        generalize upd G p (.tup (cutV (ps.map V.ref) (some (1 + (i : Int))) none)) = G1 at *
        refine ⟨_, rfl, _, rfl, _, rfl, _, rfl, a, _, rfl, Same.tup s1 haG, (fun z => by
          have z := z.2
          rw [lp, en, sIx_back (by omega)] at z
          omega), fun p' hp' => ?_⟩
        have s2 : Same G1 (upd G1 p' (.tup (cutV (ps.map V.ref) none (some (-(1 + (i : Int))))))) := same1 hp'
        have t2 : SqT K (upd G1 p' (.tup (cutV (ps.map V.ref) none (some (-(1 + (i : Int))))))) p' ((ps.take (ws.length - (1 + i))).map V.ref) := by
          rw [← f2]
          exact SqT.of upd_same
        generalize upd G1 p' (.tup (cutV (ps.map V.ref) none (some (-(1 + (i : Int)))))) = G2 at *
        have s12 := s1.trans s2
        refine ⟨p, p', _, _, _, _, rfl, rfl, Same.tup s2 t1, t2, (hwG.mono s12).drop (1 + i), (hwG.mono s12).take (ws.length - (1 + i)), _, rfl, ?_⟩
        refine ite2 (fun hp2 => ?_) (fun hp2 => ?_)
        · have pr : Per ws (1 + i) := ⟨hd, of_decide_eq_true hp2⟩
          refine ⟨_, rfl, _, rfl, _, rfl, a, _, rfl, Same.tup s12 haG, (fun z => by
            have z := z.2
            rw [lp, en, HT.sIx_nat] at z
            omega), fun q hq => ?_⟩
          refine kq _ q (1 + i) (sm.trans (s12.trans (same1 hq))) ⟨by omega, pr, np⟩ ?_
          rw [← f3]
          exact SqT.of upd_same
        · refine ⟨⟨_, rfl⟩, sm.trans s12, fun k h1 h2 => ?_⟩
          rcases Nat.lt_or_ge k (1 + i) with h3 | h3
          · exact np k h1 h3
          · have e : k = 1 + i := by omega
            rw [e]
            exact fun pr => hp2 (decide_eq_true pr.2)
      · refine iteF ⟨⟨_, rfl⟩, sm, fun k h1 h2 => ?_⟩
        rcases Nat.lt_or_ge k (1 + i) with h3 | h3
        · exact np k h1 h3
        · have e : k = 1 + i := by omega
          rw [e]
          exact fun pr => hd (decide_eq_true pr.1)
    · rintro σ G ⟨⟨v, rfl⟩, sm, np⟩
      refine ⟨_, rfl, kq G a ws.length sm ⟨l1, ⟨Nat.dvd_refl _, by rw [List.drop_length, Nat.sub_self, List.take_zero]⟩, fun k h1 h2 pr => ?_⟩ ?_⟩
      · refine np k h1 ?_ pr
        obtain ⟨c, hc⟩ := pr.1
        have c2 : 2 ≤ c := by
          rcases c with _ | _ | c
          · omega
          · omega
          · omega
        have := Nat.mul_le_mul_left k c2
        omega
      · rw [List.take_of_length_le (by rw [hw.1]; exact Nat.le_refl _)]
        exact Same.tup sm ha
end
end K13

namespace K13
open PySem PySem.Spec PyProof.Rows L2
/-! ### stretches and spans -/
abbrev W2 := List (Int × Int)
theorem least_one {ws : W2} {m m' : Nat} (h : Least ws m) (h' : Least ws m') : m = m' := by
  rcases Nat.lt_trichotomy m m' with q | q | q
  · exact absurd h.2.1 (h'.2.2 m h.1 q)
  · exact q
  · exact absurd h'.2.1 (h.2.2 m' h'.1 q)
open Classical in
/-- a word's least part -/
noncomputable def leastW (ws : W2) : W2 := if h : ∃ m, Least ws m then ws.take h.choose else ws
theorem leastW_of {ws : W2} {m : Nat} (h : Least ws m) : leastW ws = ws.take m := by
  unfold leastW
  have e : ∃ m, Least ws m := ⟨m, h⟩
  rw [dif_pos e, least_one e.choose_spec h]
def dv : Option Int → V
  | none => .non
  | some n => .int n
/-- the first d, all where d is None -/
def cutO {α : Type} (d : Option Int) (ws : List α) : List α := match d with
  | none => ws
  | some n => ws.take n.toNat
/-- the day on which the i-th stretch begins -/
def bAt (told : List (Option Int × W2)) (i : Nat) : Int := ((told.take i).map fun x => x.1.getD 0).sum
theorem bAt_next {told : List (Option Int × W2)} {i : Nat} {x : Option Int × W2} (h : told[i]? = some x) : bAt told (i + 1) = bAt told i + x.1.getD 0 := by
  unfold bAt
  obtain ⟨hi, e⟩ := List.getElem?_eq_some_iff.mp h
  rw [List.take_succ_eq_append_getElem hi, List.map_append, List.sum_append, e]
  simp
/-- what may be handed in -/
structure Told (told : List (Option Int × W2)) : Prop where
  pos : 1 ≤ told.length
  few : told.length ≤ 60
  word : ∀ (i : Nat) (x : Option Int × W2), told[i]? = some x → 1 ≤ x.2.length ∧ x.2.length ≤ 60
  open_ : ∀ (i : Nat) (x : Option Int × W2), told[i]? = some x → (x.1 = none ↔ i + 1 = told.length)
  days : ∀ (i : Nat) (x : Option Int × W2) (n : Int), told[i]? = some x → x.1 = some n → 1 ≤ n
/-- a word at wa -/
def WordAt (K : PySem.W.Frag) (C : Addr) (H : Hp) (wa : Addr) (ws : W2) : Prop := ∃ ps, SqT K H wa (ps.map V.ref) ∧ ShAll C H ps ws
theorem WordAt.mono {K : PySem.W.Frag} {C : Addr} {H H' : Hp} {wa : Addr} {ws : W2} (h : WordAt K C H wa ws) (s : Same H H') : WordAt K C H' wa ws := by
  obtain ⟨ps, a, b⟩ := h
  exact ⟨ps, Same.tup s a, b.mono s⟩
def StrAt (K : PySem.W.Frag) (C : Addr) (H : Hp) (t : Addr) (x : Option Int × W2) : Prop := ∃ wa, SqT K H t [dv x.1, .ref wa] ∧ WordAt K C H wa x.2
theorem StrAt.mono {K : PySem.W.Frag} {C : Addr} {H H' : Hp} {t : Addr} {x : Option Int × W2} (h : StrAt K C H t x) (s : Same H H') : StrAt K C H' t x := by
  obtain ⟨wa, a, b⟩ := h
  exact ⟨wa, Same.tup s a, b.mono s⟩
def SpanAt (K : PySem.W.Frag) (C : Addr) (H : Hp) (t : Addr) (b : Int) (e : Option Int) (ws : W2) : Prop := ∃ wa, SqT K H t [.int b, dv e, .ref wa] ∧ WordAt K C H wa ws
theorem SpanAt.mono {K : PySem.W.Frag} {C : Addr} {H H' : Hp} {t : Addr} {b : Int} {e : Option Int} {ws : W2} (h : SpanAt K C H t b e ws) (s : Same H H') : SpanAt K C H' t b e ws := by
  obtain ⟨wa, a, b⟩ := h
  exact ⟨wa, Same.tup s a, b.mono s⟩
/-- the i-th span of what was told stands at s -/
def SpanOf (K : PySem.W.Frag) (C : Addr) (H : Hp) (told : List (Option Int × W2)) (i : Nat) (s : Addr) : Prop := ∃ x, told[i]? = some x ∧ SpanAt K C H s (bAt told i) (x.1.map fun n => bAt told i + n) (leastW (cutO x.1 x.2))
def spSpans (K : PySem.W.Frag) (C : Addr) : Sp := fun vs H Q _ => ∃ (a : Addr) (ts : List Addr) (told : List (Option Int × W2)), vs = [.ref a] ∧ SqL K H a (ts.map V.ref) ∧ ts.length = told.length ∧
  (∀ (i : Nat) (t : Addr) (x : Option Int × W2), ts[i]? = some t → told[i]? = some x → StrAt K C H t x) ∧ Told told ∧
  ∀ (H' : Hp) (l : Addr) (ss : List Addr), Same H H' → H l = none → H' l = some (.lst (ss.map V.ref)) → ss.length = told.length → (∀ (i : Nat) (s : Addr), ss[i]? = some s → SpanOf K C H' told i s) → Q (.ref l) H'
theorem cut_any {xs : List V} {d : Option Int} (h : ∀ n, d = some n → 0 ≤ n) : cutV xs none d = cutO d xs := by
  cases d with
  | none =>
    unfold cutV
    rw [HT.sIx_none, HT.sIx_none, List.drop_zero, Nat.sub_zero, List.take_of_length_le (Nat.le_refl _)]
    rfl
  | some n =>
    obtain ⟨k, rfl⟩ : ∃ k : Nat, n = (k : Int) := ⟨n.toNat, (Int.toNat_of_nonneg (h n rfl)).symm⟩
    rw [cut_to]
    show xs.take k = xs.take ((k : Int)).toNat
    rw [Int.toNat_natCast]
theorem cutO_map {α β : Type} (f : α → β) (d : Option Int) (xs : List α) : cutO d (xs.map f) = (cutO d xs).map f := by
  cases d with
  | none => rfl
  | some n => exact (List.map_take).symm
theorem ShAll.cutO {C : Addr} {H : Hp} {ps : List Addr} {ws : W2} (h : ShAll C H ps ws) (d : Option Int) : ShAll C H (K13.cutO d ps) (K13.cutO d ws) := by
  cases d with
  | none => exact h
  | some n => exact h.take _
theorem cutO_all {α : Type} {d : Option Int} {xs : List α} (hd : ∀ n, d = some n → 0 ≤ n) (h : HT.sIx xs.length 0 none = 0 ∧ HT.sIx xs.length xs.length d = xs.length) : cutO d xs = xs := by
  cases d with
  | none => rfl
  | some n =>
    obtain ⟨k, rfl⟩ : ∃ k : Nat, n = (k : Int) := ⟨n.toNat, (Int.toNat_of_nonneg (hd n rfl)).symm⟩
    have h2 := h.2
    rw [HT.sIx_nat] at h2
    show xs.take ((k : Int)).toNat = xs
    rw [Int.toNat_natCast]
    exact List.take_of_length_le (by omega)
/-- word[:days] -/
theorem sl_word {K : PySem.W.Frag} {C : Addr} {H : Hp} {wa : Addr} {ps : List Addr} {ws : W2} {d : Option Int} {Q : VK} (hd : ∀ n, d = some n → 0 ≤ n) (q2 : SqT K H wa (ps.map V.ref)) (q3 : ShAll C H ps ws)
    (k : ∀ (H' : Hp) (wa' : Addr) (ps' : List Addr), Same H H' → SqT K H' wa' (ps'.map V.ref) → ShAll C H' ps' (cutO d ws) → Q (.ref wa') H') : rSlA K (.ref wa) none d H Q := by
  refine ⟨wa, _, rfl, q2, fun z => ?_, fun _ p hp => ?_⟩
  · have e : cutO d ps = ps := cutO_all hd (by rw [List.length_map] at z; exact z)
    have q := q3.cutO d
    rw [e] at q
    exact k H wa ps (Same.refl H) q2 q
  · refine k _ p (cutO d ps) (same1 hp) ?_ ((q3.cutO d).mono (same1 hp))
    rw [cut_any hd, cutO_map]
    exact SqT.of upd_same
theorem part_dv {d : Option Int} {H : Hp} {Q : Option Int → Hp → Prop} (h : Q d H) : (dv d = .non ∧ Q none H) ∨ ∃ i, dv d = .int i ∧ Q (some i) H := by
  cases d with
  | none => exact .inl ⟨rfl, h⟩
  | some n => exact .inr ⟨n, rfl, h⟩
theorem cutO_pos {d : Option Int} {ws : W2} (hd : ∀ n, d = some n → 1 ≤ n) (h : 1 ≤ ws.length) : 1 ≤ (cutO d ws).length := by
  cases d with
  | none => exact h
  | some n =>
    have := hd n rfl
    show 1 ≤ (ws.take n.toNat).length
    rw [List.length_take]
    omega
theorem cutO_le {d : Option Int} {ws : W2} : (cutO d ws).length ≤ ws.length := by
  cases d with
  | none => exact Nat.le_refl _
  | some n =>
    show (ws.take n.toNat).length ≤ _
    rw [List.length_take]
    omega
/-- lists may change, nothing else -/
def Keep (H H' : Hp) : Prop := ∀ b o, H b = some o → (∀ xs, o ≠ .lst xs) → H' b = some o
theorem Keep.tup {K : PySem.W.Frag} {H H' : Hp} {a : Addr} {xs : List V} (k : Keep H H') (h : SqT K H a xs) : SqT K H' a xs :=
  h.elim (fun h => .inl (h.elim (fun h => .inl (k _ _ h (fun _ z => nomatch z))) fun ⟨o, h⟩ => .inr ⟨o, k _ _ h (fun _ z => nomatch z)⟩)) fun h => .inr h
theorem Keep.all {C : Addr} {H H' : Hp} {ps : List Addr} {ws : W2} (k : Keep H H') (h : ShAll C H ps ws) : ShAll C H' ps ws := ⟨h.1, fun i p x a b => by
  obtain ⟨dx, e⟩ := h.2 i p x a b
  exact ⟨dx, k _ _ e (fun _ z => nomatch z)⟩⟩
theorem Keep.span {K : PySem.W.Frag} {C : Addr} {H H' : Hp} {told : List (Option Int × W2)} {i : Nat} {s : Addr} (k : Keep H H') (h : SpanOf K C H told i s) : SpanOf K C H' told i s := by
  obtain ⟨x, e, wa, a, ps, b, c⟩ := h
  exact ⟨x, e, wa, k.tup a, ps, k.tup b, k.all c⟩
theorem SpanOf.mono {K : PySem.W.Frag} {C : Addr} {H H' : Hp} {told : List (Option Int × W2)} {i : Nat} {s : Addr} (h : SpanOf K C H told i s) (k : Same H H') : SpanOf K C H' told i s := Keep.span (fun b o e _ => k b o e) h
theorem keep_lst {H : Hp} {l : Addr} {xs ys : List V} (h : H l = some (.lst xs)) : Keep H (upd H l (.lst ys)) := fun b o e n => by
  rw [upd_ne (fun z => by rw [z, h] at e; exact n _ (Option.some.inj e).symm)]
  exact e
theorem if_stop {d : Option Int} {A B : Prop} (hn : d = none → A) (hs : ∀ n, d = some n → B) : if decide (dv d = V.non) = true then A else B := by
  cases d with
  | none =>
    rw [if_pos (decide_eq_true (show dv none = V.non from rfl))]
    exact hn rfl
  | some n =>
    rw [if_neg (by simp [dv])]
    exact hs n rfl
section
variable {P : Program} {w : World} {K : PySem.W.Frag} {mg : Str → Option Value} {base : Heap}
theorem scSpans : FnScope ["stretches", "spans", "begin", "days", "word", "stop"] ["stretches"] (defScope d_spans_of) := ⟨rfl, rfl, rfl, by decide +kernel, rfl, by decide +kernel, by decide +kernel⟩
theorem ok_spans {f fL C : Addr} {fd fdL : FuncData} (F : Fun K "spans_of" "spans_of" d_spans_of f fd) (GL : FnOk P w K mg base CX0 3 fL fdL ["word"] (spLeast K C)) (mL : mg "least_word" = some (.ref fL)) (kL : PySem.W.keepIn K (.ref fL) = true) (bL : Binds K fdL ["word"] []) :
    FnOk P w K mg base CX0 4 f fd ["stretches"] (spSpans K C) := by
  refine F.ok scSpans (fun vs H Q E h => ?_) (fun cdv A outer s H vs Q E hr h => ?_)
  · obtain ⟨a, ts, told, rfl, _⟩ := h
    rfl
  · obtain ⟨a, ts, told, rfl, ha, lt, hst, ok, kq⟩ := h
    refine ⟨_, pss_cons (ps_set (i := 1) scSpans.nd rfl (Or.inl rfl) (pe_lst pa_nil))
      (pss_cons (ps_set (i := 2) scSpans.nd rfl (Or.inl rfl) pe_int)
      (pss_cons (ps_for PassesOwn.never rfl (pi_list (pv 0)) (pg_tup (by rfl) (pgs_cons (pg_name (i := 3) scSpans.nd rfl (.inl rfl)) (pgs_cons (pg_name (i := 4) scSpans.nd rfl (.inl rfl)) pgs_nil)))
        (pss_cons (ps_set (i := 5) scSpans.nd rfl (Or.inl rfl) (pe_ifExp (pt_cmp (pc_isN (pv 3))) pe_non (pe_op op_add (pv 2) (pv 3))))
        (pss_cons (ps_expr (pe_bm PySem.F.plainAttrs_list PySem.F.slot_list_append PySem.F.type_list_append mt_append (pv 1) (pa_cons (pe_tup (pa_cons (pv 2) (pa_cons (pv 5) (pa_cons (pe_call GL hr rfl mL kL bL .nil pass0 (pa_cons (pe_slice sl_tupA (pv 4) po_none (po_any (pv 3))) pa_nil)) pa_nil)))) pa_nil)))
        (pss_one (ps_set (i := 2) scSpans.nd rfl (Or.inl rfl) (pv 5))))))
      (pss_one (ps_ret (pv 1))))), ?_⟩
    refine ⟨(by show 0 ≤ sizeLine; decide), fun l hl => ?_⟩
    have sm0 : Same H (upd H l (.lst [])) := same1 hl
    refine ⟨_, rfl, a, rfl, ⟨_, sm0.seq ha⟩, for_list (K := K) (a := a) (xs := ts.map V.ref) (fun i σ G => ∃ (ss : List Addr) (vb v3 v4 v5 : Option V), σ = [some (.ref a), some (.ref l), vb, v3, v4, v5] ∧ ss.length = i ∧ G l = some (.lst (ss.map V.ref)) ∧ Same H G ∧
      (∀ (k : Nat) (s : Addr), ss[k]? = some s → SpanOf K C G told k s) ∧ (i < told.length → vb = some (.int (bAt told i)))) ⟨[], _, _, _, _, rfl, rfl, upd_same, sm0, (fun k s (h : ([] : List Addr)[k]? = some s) => by simp at h), fun _ => rfl⟩ ?_ ?_ ?_⟩
    · rintro i σ G _ ⟨ss, _, _, _, _, _, _, _, sm, _⟩
      exact sm.seq ha
    · rintro i x σ G hx ⟨ss, vb, v3, v4, v5, rfl, sl, gl, sm, hsp, hb⟩
      rw [List.getElem?_map] at hx
      obtain ⟨t, ht, rfl⟩ := Option.map_eq_some_iff.mp hx
      have il : i < told.length := by
        have := (List.getElem?_eq_some_iff.mp ht).1
        omega
      have hb := hb il
      subst hb
      obtain ⟨⟨d, ws⟩, hxi⟩ : ∃ x, told[i]? = some x := ⟨_, List.getElem?_eq_getElem il⟩
      obtain ⟨wa, q1, ps, q2, q3⟩ := (hst i t _ ht hxi).mono sm
      have dn : ∀ n, d = some n → 1 ≤ n := fun n e => ok.days i _ n hxi e
      have dn0 : ∀ n, d = some n → 0 ≤ n := fun n e => by have := dn n e; omega
      have ob := ok.open_ i _ hxi
      refine ⟨t, _, rfl, q1, rfl, _, _, rfl, _, _, rfl, rfl, ?_⟩
      refine ⟨_, rfl, _, rfl, if_stop (fun e => ?_) (fun n e => ?_)⟩
      · subst e
        refine ⟨_, rfl, .inl ⟨rfl, _, SqL.of gl⟩, _, rfl, _, rfl, _, rfl, _, rfl, .inl ⟨rfl, sl_word (K := K) (C := C) (d := none) dn0 q2 q3 fun G1 wa' ps' s1 h1 h2 => ?_⟩⟩
        refine ⟨wa', ps', _, rfl, h1, h2, cutO_pos dn (ok.word i _ hxi).1, Nat.le_trans cutO_le (Nat.le_trans (ok.word i _ hxi).2 (by decide)), fun G2 q m s2 hm hq => ?_⟩
        refine ⟨(by show 3 ≤ sizeLine; decide), fun p hp => ?_⟩
        have s3 : Same G (upd G2 p (.tup [.int (bAt told i), .non, .ref q])) := s1.trans (s2.trans (same1 hp))
        have hp3 : SqT K (upd G2 p (.tup [.int (bAt told i), .non, .ref q])) p [.int (bAt told i), .non, .ref q] := SqT.of upd_same
        have hq3 := Same.tup (same1 (o := .tup [.int (bAt told i), .non, .ref q]) hp) hq
        have h3 := (h2.mono s2).mono (same1 (o := .tup [.int (bAt told i), .non, .ref q]) hp)
        generalize upd G2 p (.tup [.int (bAt told i), .non, .ref q]) = G3 at *
        have gl3 := s3 _ _ gl
        refine ⟨l, _, _, rfl, rfl, gl3, (by rw [List.length_map, sl]; exact Nat.lt_of_lt_of_le il (Nat.le_trans ok.few (by show 60 ≤ sizeLine; decide))), ?_⟩
        refine ⟨_, rfl, ss ++ [p], _, _, _, _, rfl, by rw [List.length_append, sl]; rfl, by rw [List.map_append]; exact upd_same, fun b o e => ?_, fun k s hk => ?_, fun hlt => ?_⟩
        · rw [upd_ne (ne_of_none e hl)]
          exact s3 _ _ (sm _ _ e)
        · refine (keep_lst gl3).span ?_
          by_cases hkl : k < ss.length
          · rw [List.getElem?_append_left hkl] at hk
            exact (hsp k s hk).mono s3
          · rw [List.getElem?_append_right (by omega)] at hk
            have k0 : k - ss.length = 0 := by
              have := (List.getElem?_eq_some_iff.mp hk).1
              simp at this
              omega
            rw [k0] at hk
            have ep : p = s := by simpa using hk
            have ki : k = i := by omega
            subst ep ki
            refine ⟨_, hxi, q, hp3, ps'.take m, hq3, ?_⟩
            rw [leastW_of hm]
            exact h3.take m
        · exact absurd (ob.mp rfl) (by omega)
      · subst e
        refine ⟨_, rfl, _, rfl, _, _, rfl, rfl, ?_⟩
        refine ⟨_, rfl, .inl ⟨rfl, _, SqL.of gl⟩, _, rfl, _, rfl, _, rfl, _, rfl, .inr ⟨n, rfl, sl_word (K := K) (C := C) (d := some n) dn0 q2 q3 fun G1 wa' ps' s1 h1 h2 => ?_⟩⟩
        refine ⟨wa', ps', _, rfl, h1, h2, cutO_pos dn (ok.word i _ hxi).1, Nat.le_trans cutO_le (Nat.le_trans (ok.word i _ hxi).2 (by decide)), fun G2 q m s2 hm hq => ?_⟩
        refine ⟨(by show 3 ≤ sizeLine; decide), fun p hp => ?_⟩
        have s3 : Same G (upd G2 p (.tup [.int (bAt told i), .int (bAt told i + n), .ref q])) := s1.trans (s2.trans (same1 hp))
        have hp3 : SqT K (upd G2 p (.tup [.int (bAt told i), .int (bAt told i + n), .ref q])) p [.int (bAt told i), .int (bAt told i + n), .ref q] := SqT.of upd_same
        have hq3 := Same.tup (same1 (o := .tup [.int (bAt told i), .int (bAt told i + n), .ref q]) hp) hq
        have h3 := (h2.mono s2).mono (same1 (o := .tup [.int (bAt told i), .int (bAt told i + n), .ref q]) hp)
        generalize upd G2 p (.tup [.int (bAt told i), .int (bAt told i + n), .ref q]) = G3 at *
        have gl3 := s3 _ _ gl
        refine ⟨l, _, _, rfl, rfl, gl3, (by rw [List.length_map, sl]; exact Nat.lt_of_lt_of_le il (Nat.le_trans ok.few (by show 60 ≤ sizeLine; decide))), ?_⟩
        refine ⟨_, rfl, ss ++ [p], _, _, _, _, rfl, by rw [List.length_append, sl]; rfl, by rw [List.map_append]; exact upd_same, fun b o e => ?_, fun k s hk => ?_, fun hlt => ?_⟩
        · rw [upd_ne (ne_of_none e hl)]
          exact s3 _ _ (sm _ _ e)
        · refine (keep_lst gl3).span ?_
          by_cases hkl : k < ss.length
          · rw [List.getElem?_append_left hkl] at hk
            exact (hsp k s hk).mono s3
          · rw [List.getElem?_append_right (by omega)] at hk
            have k0 : k - ss.length = 0 := by
              have := (List.getElem?_eq_some_iff.mp hk).1
              simp at this
              omega
            rw [k0] at hk
            have ep : p = s := by simpa using hk
            have ki : k = i := by omega
            subst ep ki
            refine ⟨_, hxi, q, hp3, ps'.take m, hq3, ?_⟩
            rw [leastW_of hm]
            exact h3.take m
        · rw [bAt_next hxi]
          rfl
    · rintro σ G ⟨ss, vb, v3, v4, v5, rfl, sl, gl, sm, hsp, hb⟩
      refine ⟨_, rfl, kq G l ss sm hl gl (by rw [sl, List.length_map, lt]) hsp⟩
end
end K13

namespace K13
open PySem PySem.Spec PyProof.Rows L2
/-! ### the share on a day -/
def spShareOn (K : PySem.W.Frag) (C : Addr) : Sp := fun vs H Q _ => ∃ (s : Addr) (day b : Int) (e : Option Int) (ws : W2), vs = [.ref s, .int day] ∧ SpanAt K C H s b e ws ∧ 1 ≤ ws.length ∧
  ∀ (p : Addr) (x : Int × Int), ws[((day - b) % (ws.length : Int)).toNat]? = some x → ShAt C H p x.1 x.2 → Q (.ref p) H
section
variable {P : Program} {w : World} {K : PySem.W.Frag} {mg : Str → Option Value} {base : Heap}
theorem scShareOn : FnScope ["span", "day", "begin", "_", "word"] ["span", "day"] (defScope d_share_on) := ⟨rfl, rfl, rfl, by decide +kernel, rfl, by decide +kernel, by decide +kernel⟩
theorem ok_share_on {f C : Addr} {fd : FuncData} (F : Fun K "share_on" "share_on" d_share_on f fd) (B : TxtB mg) : FnOk P w K mg base CX0 1 f fd ["span", "day"] (spShareOn K C) := by
  refine F.ok scShareOn (fun vs H Q E h => ?_) (fun cdv A outer s H vs Q E hr h => ?_)
  · obtain ⟨s, day, b, e, ws, rfl, _⟩ := h
    rfl
  · obtain ⟨t, day, b, e, ws, rfl, ⟨wa, q1, ps, q2, q3⟩, l1, kq⟩ := h
    refine ⟨_, pss_cons (ps_asg (pv 0) (pg_tup (by rfl) (pgs_cons (pg_name (i := 2) scShareOn.nd rfl (.inl rfl)) (pgs_cons (pg_name (i := 3) scShareOn.nd rfl (.inl rfl)) (pgs_cons (pg_name (i := 4) scShareOn.nd rfl (.inl rfl)) pgs_nil)))))
      (pss_one (ps_ret (pe_ix ix_tup (pv 4) (pe_op op_mod (pe_op op_sub (pv 1) (pv 2)) (pe_callB call_len_seq (by rfl) B.len PySem.boot_len (pa_cons (pv 4) pa_nil))) (fun _ _ => rfl)))), ?_⟩
    have lp : (ps.map V.ref).length = ws.length := by rw [List.length_map, q3.1]
    refine ⟨_, rfl, t, _, rfl, q1, rfl, _, _, rfl, _, _, rfl, _, _, rfl, rfl, ?_⟩
    refine ⟨_, rfl, _, rfl, _, rfl, _, _, rfl, rfl, _, rfl, wa, _, rfl, .inr q2, _, _, rfl, rfl, (by rw [lp]; omega), ?_⟩
    rw [lp]
    have n0 := Int.emod_nonneg (day - b) (show (ws.length : Int) ≠ 0 by omega)
    have n1 := Int.emod_lt_of_pos (day - b) (show (0 : Int) < (ws.length : Int) by omega)
    have hk : ((day - b) % (ws.length : Int)).toNat < ws.length := by omega
    have hk' : ((day - b) % (ws.length : Int)).toNat < ps.length := by rw [q3.1]; exact hk
    refine ⟨wa, _, _, .ref (ps[((day - b) % (ws.length : Int)).toNat]), rfl, rfl, q2, at_k n0 (by rw [List.getElem?_map, List.getElem?_eq_getElem hk']; rfl), ?_⟩
    exact kq _ _ (List.getElem?_eq_getElem hk) (q3.2 _ _ _ (List.getElem?_eq_getElem hk') (List.getElem?_eq_getElem hk))
end
end K13

namespace K13
open PySem PySem.Spec PyProof.Rows L2
/-! ### the number of the span of a day -/
theorem bAt_zero (told : List (Option Int × W2)) : bAt told 0 = 0 := rfl
theorem bAt_mono {told : List (Option Int × W2)} (ok : Told told) : ∀ (n i : Nat), i + n < told.length → bAt told i ≤ bAt told (i + n)
  | 0, i, _ => Int.le_refl _
  | n + 1, i, h => by
    have ih := bAt_mono ok n i (by omega)
    have hx : told[i + n]? = some told[i + n] := List.getElem?_eq_getElem (by omega)
    have e := bAt_next hx
    have ob := ok.open_ _ _ hx
    cases q : told[i + n].1 with
    | none => exact absurd (ob.mp q) (by omega)
    | some d =>
      have := ok.days _ _ d hx q
      rw [q] at e
      rw [show i + (n + 1) = i + n + 1 from rfl, e]
      show bAt told i ≤ bAt told (i + n) + d
      omega
end K13

namespace K13
open PySem PySem.Spec PyProof.Rows L2
/-! ### a word by its least part is the word -/
theorem per_at {ws : W2} {m : Nat} (hp : Per ws m) (h1 : 1 ≤ m) : ∀ i, i < ws.length → ws[i]? = (ws.take m)[i % m]? := by
  intro i
  induction i using Nat.strongRecOn with
  | _ i ih =>
    intro hi
    by_cases c : i < m
    · rw [Nat.mod_eq_of_lt c, List.getElem?_take_of_lt c]
    · have e : ws[i]? = (ws.drop m)[i - m]? := by
        rw [List.getElem?_drop]
        congr 1
        omega
      rw [e, hp.2, List.getElem?_take_of_lt (by omega), ih (i - m) (by omega) (by omega)]
      congr 1
      exact (Nat.mod_eq_sub_mod (by omega)).symm
theorem per_all (ws : W2) : Per ws ws.length := ⟨Nat.dvd_refl _, by rw [List.drop_length, Nat.sub_self, List.take_zero]⟩
theorem least_from {ws : W2} : ∀ k, 1 ≤ k → Per ws k → ∃ m, Least ws m := by
  intro k
  induction k using Nat.strongRecOn with
  | _ k ih =>
    intro h1 hp
    by_cases c : ∃ j, 1 ≤ j ∧ j < k ∧ Per ws j
    · obtain ⟨j, a, b, d⟩ := c
      exact ih j b a d
    · exact ⟨k, h1, hp, fun j a b d => c ⟨j, a, b, d⟩⟩
theorem least_ex {ws : W2} (h : 1 ≤ ws.length) : ∃ m, Least ws m := least_from ws.length h (per_all ws)
theorem leastW_len {ws : W2} (h : 1 ≤ ws.length) : 1 ≤ (leastW ws).length ∧ (leastW ws).length ∣ ws.length := by
  obtain ⟨m, hm⟩ := least_ex h
  have hd := hm.2.1.1
  have hle := Nat.le_of_dvd h hd
  rw [leastW_of hm, List.length_take, Nat.min_eq_left hle]
  exact ⟨hm.1, hd⟩
theorem leastW_at {ws : W2} (h : 1 ≤ ws.length) (x : Nat) : (leastW ws)[x % (leastW ws).length]? = ws[x % ws.length]? := by
  obtain ⟨m, hm⟩ := least_ex h
  have hd := hm.2.1.1
  have hle := Nat.le_of_dvd h hd
  rw [leastW_of hm, List.length_take, Nat.min_eq_left hle, per_at hm.2.1 hm.1 _ (Nat.mod_lt _ (by omega)), Nat.mod_mod_of_dvd _ hd]
/-- the share of a day, as it is told -/
def onV : List (Option Int × W2) → Int → Option (Int × Int)
  | [], _ => none
  | (d, ws) :: r, day => match d with
    | none => ws[(day % (ws.length : Int)).toNat]?
    | some n => if day < n then ws[(day % (ws.length : Int)).toNat]? else onV r (day - n)
theorem bAt_cons (x : Option Int × W2) (r : List (Option Int × W2)) (k : Nat) : bAt (x :: r) (k + 1) = x.1.getD 0 + bAt r k := by
  unfold bAt
  simp
/-- within the k-th stretch -/
theorem onV_at : ∀ (told : List (Option Int × W2)) (k : Nat) (d : Option Int) (ws : W2) (day : Int), told[k]? = some (d, ws) → (∀ j x, j < k → told[j]? = some x → ∃ n, x.1 = some n ∧ 1 ≤ n) → bAt told k ≤ day → (∀ n, d = some n → day < bAt told k + n) →
    onV told day = ws[((day - bAt told k) % (ws.length : Int)).toNat]?
  | [], k, d, ws, day, h, _, _, _ => by simp at h
  | x :: r, 0, d, ws, day, h, _, hb, hn => by
    have e : x = (d, ws) := by simpa using h
    subst e
    show onV ((d, ws) :: r) day = _
    rw [bAt_zero, Int.sub_zero]
    cases d with
    | none => rfl
    | some n =>
      have := hn n rfl
      rw [bAt_zero] at this
      show (if day < n then _ else _) = _
      rw [if_pos (by omega)]
  | x :: r, k + 1, d, ws, day, h, hp, hb, hn => by
    obtain ⟨n, e, n1⟩ := hp 0 x (Nat.succ_pos k) rfl
    obtain ⟨dx, wx⟩ := x
    have e : dx = some n := e
    subst e
    have hb0 : 0 ≤ bAt r k := by
      have : ∀ (l : List (Option Int × W2)) (k : Nat), (∀ j x, j < k → l[j]? = some x → ∃ n, x.1 = some n ∧ 1 ≤ n) → 0 ≤ bAt l k := by
        intro l
        induction l with
        | nil =>
          intro k _
          unfold bAt
          simp
        | cons y l ih =>
          intro k hq
          cases k with
          | zero => rw [bAt_zero]; exact Int.le_refl _
          | succ k =>
            rw [bAt_cons]
            obtain ⟨n', e', n1'⟩ := hq 0 y (Nat.succ_pos k) rfl
            have := ih k (fun j x hj hx => hq (j + 1) x (by omega) (by simpa using hx))
            rw [e']
            show 0 ≤ n' + bAt l k
            omega
      exact this r k (fun j x hj hx => hp (j + 1) x (by omega) (by simpa using hx))
    rw [bAt_cons] at hb hn ⊢
    have hb' : n + bAt r k ≤ day := hb
    show (if day < n then _ else onV r (day - n)) = _
    rw [if_neg (by omega), onV_at r k d ws (day - n) (by simpa using h) (fun j x hj hx => hp (j + 1) x (by omega) (by simpa using hx)) (by omega) (fun m hm => by
      have : day < n + bAt r k + m := hn m hm
      omega)]
    show _ = ws[((day - (n + bAt r k)) % (ws.length : Int)).toNat]?
    rw [show day - n - bAt r k = day - (n + bAt r k) from by omega]
/-- the least part of what is told within the stretch gives the same share -/
theorem cut_at {d : Option Int} {ws : W2} {x : Int} (h1 : 1 ≤ ws.length) (hd : ∀ n, d = some n → 1 ≤ n) (x0 : 0 ≤ x) (hx : ∀ n, d = some n → x < n) :
    (leastW (cutO d ws))[(x % ((leastW (cutO d ws)).length : Int)).toNat]? = ws[(x % (ws.length : Int)).toNat]? := by
  obtain ⟨y, rfl⟩ : ∃ y : Nat, x = (y : Int) := ⟨x.toNat, (Int.toNat_of_nonneg x0).symm⟩
  rw [← Int.natCast_emod, ← Int.natCast_emod, Int.toNat_natCast, Int.toNat_natCast, leastW_at (cutO_pos hd h1)]
  cases d with
  | none => rfl
  | some n =>
    have h2 := hd n rfl
    have h3 := hx n rfl
    show (ws.take n.toNat)[y % (ws.take n.toNat).length]? = _
    rw [List.length_take]
    by_cases c : n.toNat ≤ ws.length
    · rw [Nat.min_eq_left c, Nat.mod_eq_of_lt (show y < n.toNat by omega), Nat.mod_eq_of_lt (show y < ws.length by omega), List.getElem?_take_of_lt (by omega)]
    · rw [Nat.min_eq_right (by omega), List.take_of_length_le (by omega)]
end K13

namespace K13
open PySem PySem.Spec PyProof.Rows L2
/-! ### is_whole of anything, is_day, on -/
/-- what a value is, for is_whole: its type, and whether that is int, bool -/
def Kind (K : PySem.W.Frag) (H : Hp) (v : V) (bi bb : Bool) : Prop := ∃ t, TyX K H v t ∧ PySem.W.kitOne K t (.type "int") = some bi ∧ PySem.W.kitOne K t (.type "bool") = some bb
def spWholeX (K : PySem.W.Frag) : Sp := fun vs H Q _ => ∃ (v : V) (bi bb : Bool), vs = [v] ∧ Kind K H v bi bb ∧ Q (.bl (bi && !bb)) H
theorem kind_int {K : PySem.W.Frag} {H : Hp} (i : Int) : Kind K H (.int i) true false := ⟨_, TyX.base (TyOf.int i), kit_ty (by decide +kernel), kit_ty (by decide +kernel)⟩
section
variable {P : Program} {w : World} {K : PySem.W.Frag} {mg : Str → Option Value} {base : Heap}
theorem ok_wholeX {f : Addr} {fd : FuncData} (F : Fun K "is_whole" "is_whole" d_is_whole f fd) (h1 : mg "isinstance" = none) (h2 : mg "int" = none) (h3 : mg "bool" = none) : FnOk P w K mg base CX0 1 f fd ["thing"] (spWholeX K) := by
  refine F.ok scWhole (fun vs H Q E h => ?_) (fun cdv A outer s H vs Q E hr h => ?_)
  · obtain ⟨v, _, _, rfl, _⟩ := h
    rfl
  · obtain ⟨v, bi, bb, rfl, ⟨t, ht, k1, k2⟩, kq⟩ := h
    refine ⟨_, pss_one (ps_ret (pe_and (pe_callB call_isi (by rfl) h1 (by decide +kernel) (pa_cons (pv 0) (pa_cons (pe_bltn (v := .ty "int") (by rfl) h2 (by decide +kernel) rfl) pa_nil)))
      (pe_one (pe_not (pe_callB call_isi (by rfl) h1 (by decide +kernel) (pa_cons (pv 0) (pa_cons (pe_bltn (v := .ty "bool") (by rfl) h3 (by decide +kernel) rfl) pa_nil))))))), ?_⟩
    refine ⟨_, rfl, _, _, t, _, bi, rfl, ClsV.ty _, ht, k1, bi, rfl, ?_⟩
    cases bi with
    | false => exact iteF kq
    | true => exact iteT ⟨_, rfl, _, _, t, _, bb, rfl, ClsV.ty _, ht, k2, bb, rfl, kq⟩
end
end K13

namespace K13
open PySem PySem.Spec PyProof.Rows L2
/-! ### a course, and on -/
/-- an error's class, raised with a text -/
structure ErrC (K : PySem.W.Frag) (mg : Str → Option Value) (x : Str) (CN : Addr) : Prop where
  gN : mg x = some (.ref CN)
  xN : PySem.W.excIn K CN [.type "ValueError", .type "Exception", .type "BaseException", .type "object"] "ValueError.__new__" = true
  kN : PySem.W.keepIn K (.ref CN) = true
  bN : PySem.W.subIn K (.ref CN) (.type "BaseException") = some true
  tN : PySem.W.typeIn K (.ref CN) = some (.type "type")
structure CrsC (K : PySem.W.Frag) (CC : Addr) : Prop where
  cl : L2.Cls K CC
  no : NoAttr K CC "spans"
def crs (l : Addr) : List (Str × V) := putF "spans" (.ref l) []
theorem crs_spans (l : Addr) : (crs l).lookup ("spans" : Str) = some (.ref l) := by
  unfold crs
  rw [lookup_putF, if_pos rfl]
def CourseAt (K : PySem.W.Frag) (C CC : Addr) (H : Hp) (c : Addr) (told : List (Option Int × W2)) : Prop := ∃ (dx l : Addr) (ss : List Addr), H c = some (.ins CC dx (crs l)) ∧ SqL K H l (ss.map V.ref) ∧ ss.length = told.length ∧
  (∀ (i : Nat) (s : Addr), ss[i]? = some s → SpanOf K C H told i s) ∧ Told told
theorem CourseAt.mono {K : PySem.W.Frag} {C CC : Addr} {H H' : Hp} {c : Addr} {told : List (Option Int × W2)} (h : CourseAt K C CC H c told) (s : Same H H') : CourseAt K C CC H' c told := by
  obtain ⟨dx, l, ss, a, b, e, g, t⟩ := h
  exact ⟨dx, l, ss, s _ _ a, s.seq b, e, fun i x hx => (g i x hx).mono s, t⟩
/-- before the last stretch all have an end -/
theorem Told.ends {told : List (Option Int × W2)} (h : Told told) {j k : Nat} {x : Option Int × W2} (hj : j < k) (hk : k < told.length) (hx : told[j]? = some x) : ∃ n, x.1 = some n ∧ 1 ≤ n := by
  cases e : x.1 with
  | none => exact absurd ((h.open_ j x hx).mp e) (by omega)
  | some n => exact ⟨n, rfl, h.days j x n hx e⟩
end K13

namespace K13
open PySem PySem.Spec PyProof.Rows L2
theorem ty_tup {K : PySem.W.Frag} {H : Hp} {a : Addr} {xs : List V} (h : SqT K H a xs) : TyX K H (.ref a) (.type "tuple") := by
  rcases h with (h | ⟨o, h⟩) | ⟨o, its, n, hk, hc, _⟩
  · exact .base (.tup h)
  · exact .fTuple h
  · exact .kTuple hk hc
theorem ty_lst {K : PySem.W.Frag} {H : Hp} {a : Addr} {xs : List V} (h : SqL K H a xs) : TyX K H (.ref a) (.type "list") := by
  rcases h with (h | ⟨o, h⟩) | ⟨o, its, n, hk, hc, _⟩
  · exact .base (.lst h)
  · exact .base (.frz h)
  · exact .kList hk hc
end K13

namespace K13
open PySem PySem.Spec PyProof.Rows L2
/-! ### what may make a course: the good ones -/
structure TxtY (mg : Str → Option Value) (C : Addr) : Prop where
  isi : mg "isinstance" = none
  tuple : mg "tuple" = none
  list : mg "list" = none
  all : mg "all" = none
  any : mg "any" = none
  len : mg "len" = none
  sh : mg "Share" = some (.ref C)
def spWordG (K : PySem.W.Frag) (C : Addr) : Sp := fun vs H Q _ => ∃ (wa : Addr) (ws : W2), vs = [.ref wa] ∧ WordAt K C H wa ws ∧ 1 ≤ ws.length ∧ ws.length ≤ 60 ∧ ∀ H', Same H H' → Q (.bl true) H'
section
variable {P : Program} {w : World} {K : PySem.W.Frag} {mg : Str → Option Value} {base : Heap}
abbrev isWordN : List Str := ["thing", "share"]
theorem scWord : FnScope isWordN ["thing"] (defScope d_is_word) := ⟨rfl, rfl, rfl, by decide +kernel, rfl, by decide +kernel, by decide +kernel⟩
theorem ok_wordG {f C CN : Addr} {fd : FuncData} {tk : Tok} (F : Fun K "is_word" "is_word" d_is_word f fd) (Y : TxtY mg C) (T : Txt K mg C CN) (TI : TxtI K C) (hM : mg "MOST_SHARES" = some (.int 60 tk)) : FnOk P w K mg base CX0 1 f fd ["thing"] (spWordG K C) := by
  refine F.ok scWord (fun vs H Q E h => ?_) (fun cdv A outer s H vs Q E hr h => ?_)
  · obtain ⟨wa, _, rfl, _⟩ := h
    rfl
  · obtain ⟨wa, ws, rfl, ⟨ps, q2, q3⟩, l1, l2, kq⟩ := h
    refine ⟨_, pss_cons (ps_if (PW.pt (pw_or (pt_not (pt_val (pe_callB call_isi (by rfl) Y.isi (by decide +kernel) (pa_cons (pv 0) (pa_cons (pe_bltn (v := .ty "tuple") (by rfl) Y.tuple (by decide +kernel) rfl) pa_nil)))))
          (pw_or1 (pt_not (pt_chain op_le op_le pe_int (pe_callB call_len_seq (by rfl) Y.len PySem.boot_len (pa_cons (pv 0) pa_nil)) (pe_glob (v := .int 60) rfl hM ⟨tk, rfl⟩)))))) (pss_one (ps_ret pe_bl)) pss_nil)
      (pss_one (ps_ret (pe_callB (cr_all rfl) (by rfl) Y.all (by decide +kernel) (pa_cons
        (pe_lc (own := [("share", 1)]) (g := gName 1) (by rfl) scWord.nd (pi_tup (pv 0)) (blkOk_by (own := [("share", 1)]) (N := isWordN) (sc := defScope d_is_word) (by decide +kernel)) (fun _ _ _ _ _ => pg_name (i := 1) scWord.nd rfl (.inl rfl)) (fun _ _ _ _ _ => pts_nil)
          (fun _ _ _ _ _ => pe_callB (show CallR _ (.builtin "isinstance") (rIsi K) from call_isi) (by rfl) Y.isi (by decide +kernel) (pa_cons (pv 1) (pa_cons (pe_glob (v := .ref C) rfl Y.sh rfl) pa_nil)))) pa_nil)))), ?_⟩
    have lp : (ps.map V.ref).length = ws.length := by rw [List.length_map, q3.1]
    refine ⟨_, rfl, _, _, _, _, true, rfl, ClsV.ty _, ty_tup q2, kit_ty (by decide +kernel), true, rfl, iteF ?_⟩
    refine ⟨_, rfl, wa, _, rfl, .inr q2, _, _, rfl, rfl, _, rfl, ?_⟩
    rw [lp, decide_eq_true (show (1 : Int) ≤ (ws.length : Int) by omega)]
    refine iteT ⟨_, _, rfl, rfl, _, rfl, ?_⟩
    rw [decide_eq_true (show (ws.length : Int) ≤ 60 by omega)]
    refine iteF ?_
    refine ⟨_, rfl, wa, rfl, ⟨_, q2⟩, fun D hD => ?_⟩
    refine lc_tup (K := K) (a := wa) (xs := ps.map V.ref) (fun i M => M D = some (.lst ((List.replicate i true).map V.bl)) ∧ Same H M) ⟨upd_same, same1 hD⟩ ?_ ?_ ?_
    · rintro i M _ ⟨_, sm⟩
      exact Same.tup sm q2
    · rintro i x M hx ⟨eD, sm⟩
      rw [List.getElem?_map] at hx
      obtain ⟨p, hp, rfl⟩ := Option.map_eq_some_iff.mp hx
      have il : i < ws.length := by
        have := (List.getElem?_eq_some_iff.mp hp).1
        rw [q3.1] at this
        exact this
      obtain ⟨dx, ep⟩ := (q3.mono sm).2 i p _ hp (List.getElem?_eq_getElem il)
      refine ⟨rfl, ?_⟩
      refine ⟨_, rfl, _, _, _, _, true, rfl, ClsV.own C, TyX.base (TyOf.ins ep T.cl TI.ha TI.hn TI.htk TI.hm), TI.me, _, eD, (by rw [List.length_map, List.length_replicate]; exact Nat.lt_of_lt_of_le il (Nat.le_trans l2 (show 60 ≤ sizeLine by decide))), ?_, fun b o e => ?_⟩
      · rw [List.replicate_succ', List.map_append]
        exact upd_same
      · rw [upd_ne (ne_of_none e hD)]
        exact sm _ _ e
    · rintro M ⟨eD, sm⟩
      refine ⟨D, _, rfl, SqL.of eD, ?_⟩
      rw [show (List.replicate (ps.map V.ref).length true).all id = true from by simp]
      exact kq M sm
end
end K13

namespace K13
open PySem PySem.Spec PyProof.Rows L2
def spStrG (K : PySem.W.Frag) (C : Addr) : Sp := fun vs H Q _ => ∃ (t : Addr) (x : Option Int × W2), vs = [.ref t] ∧ StrAt K C H t x ∧ 1 ≤ x.2.length ∧ x.2.length ≤ 60 ∧ (∀ n, x.1 = some n → 1 ≤ n) ∧ ∀ H', Same H H' → Q (.bl true) H'
def spStrsG (K : PySem.W.Frag) (C : Addr) : Sp := fun vs H Q _ => ∃ (a : Addr) (ts : List Addr) (told : List (Option Int × W2)), vs = [.ref a] ∧ SqL K H a (ts.map V.ref) ∧ ts.length = told.length ∧
  (∀ (i : Nat) (t : Addr) (x : Option Int × W2), ts[i]? = some t → told[i]? = some x → StrAt K C H t x) ∧ Told told ∧ ∀ H', Same H H' → Q (.bl true) H'
theorem ends_last {told : List (Option Int × W2)} (h : Told told) : atI ((told.map fun x => x.1.isNone).map V.bl) (-1) = some (V.bl true) := by
  have hl : told ≠ [] := fun z => by have := h.pos; rw [z] at this; simp at this
  have e : told = told.dropLast ++ [told.getLast hl] := (List.dropLast_concat_getLast hl).symm
  have g : told[told.length - 1]? = some (told.getLast hl) := by rw [← List.getLast?_eq_getElem?, List.getLast?_eq_getLast hl]
  have n : (told.getLast hl).1 = none := (h.open_ (told.length - 1) _ g).mpr (by have := h.pos; omega)
  rw [e, List.map_append, List.map_append]
  have := atI_last ((told.dropLast.map fun x => x.1.isNone).map V.bl) (V.bl true)
  rw [show [told.getLast hl].map (fun x => x.1.isNone) = [true] from by simp [n]]
  exact this
theorem ends_before {told : List (Option Int × W2)} (h : Told told) : ((told.map fun x => x.1.isNone).take (told.length - 1)).any id = false := by
  rw [List.any_eq_false]
  intro b hb
  obtain ⟨i, hi⟩ := List.mem_iff_getElem?.mp hb
  rw [List.getElem?_take] at hi
  split at hi
  · rename_i il
    rw [List.getElem?_map] at hi
    obtain ⟨x, hx, rfl⟩ := Option.map_eq_some_iff.mp hi
    obtain ⟨n, e, _⟩ := h.ends (j := i) (k := told.length - 1) il (by have := h.pos; omega) hx
    simp [e]
  · cases hi
section
variable {P : Program} {w : World} {K : PySem.W.Frag} {mg : Str → Option Value} {base : Heap}
theorem scStr : FnScope ["thing", "days", "word"] ["thing"] (defScope d_is_stretch) := ⟨rfl, rfl, rfl, by decide +kernel, rfl, by decide +kernel, by decide +kernel⟩
theorem ok_strG {f fW fH C : Addr} {fd fdW fdH : FuncData} (F : Fun K "is_stretch" "is_stretch" d_is_stretch f fd) (Y : TxtY mg C)
    (GW : FnOk P w K mg base CX0 1 fW fdW ["thing"] (spWordG K C)) (mW : mg "is_word" = some (.ref fW)) (kW : PySem.W.keepIn K (.ref fW) = true) (bW : Binds K fdW ["thing"] [])
    (GH : FnOk P w K mg base CX0 1 fH fdH ["thing"] (spWholeX K)) (mH : mg "is_whole" = some (.ref fH)) (kH : PySem.W.keepIn K (.ref fH) = true) (bH : Binds K fdH ["thing"] []) :
    FnOk P w K mg base CX0 2 f fd ["thing"] (spStrG K C) := by
  refine F.ok scStr (fun vs H Q E h => ?_) (fun cdv A outer s H vs Q E hr h => ?_)
  · obtain ⟨t, _, rfl, _⟩ := h
    rfl
  · obtain ⟨t, ⟨d, ws⟩, rfl, ⟨wa, q1, hw⟩, l1, l2, hd, kq⟩ := h
    refine ⟨_, pss_cons (ps_if (PW.pt (pw_or (pt_not (pt_val (pe_callB call_isi (by rfl) Y.isi (by decide +kernel) (pa_cons (pv 0) (pa_cons (pe_bltn (v := .ty "tuple") (by rfl) Y.tuple (by decide +kernel) rfl) pa_nil)))))
          (pw_or1 (pt_cmpR op_ne (pe_callB call_len_seq (by rfl) Y.len PySem.boot_len (pa_cons (pv 0) pa_nil)) pe_int (nomark _))))) (pss_one (ps_ret pe_bl)) pss_nil)
      (pss_cons (ps_asg (pv 0) (pg_tup (by rfl) (pgs_cons (pg_name (i := 1) scStr.nd rfl (.inl rfl)) (pgs_cons (pg_name (i := 2) scStr.nd rfl (.inl rfl)) pgs_nil))))
      (pss_one (ps_ret (pe_and (pe_call GW hr rfl mW kW bW .nil pass0 (pa_cons (pv 2) pa_nil)) (pe_one (pe_or (pe_cmp (pc_isN (pv 1))) (pe_one (pe_and (pe_call GH hr rfl mH kH bH .nil pass0 (pa_cons (pv 1) pa_nil)) (pe_one (pe_cmpR op_ge (pv 1) pe_int (nomark _)))))))))))
      , ?_⟩
    refine ⟨_, rfl, _, _, _, _, true, rfl, ClsV.ty _, ty_tup q1, kit_ty (by decide +kernel), true, rfl, iteF ?_⟩
    refine ⟨_, rfl, t, _, rfl, .inr q1, rfl, _, rfl, iteF ?_⟩
    refine ⟨_, rfl, t, _, rfl, q1, rfl, _, _, rfl, _, _, rfl, rfl, ?_⟩
    refine ⟨_, rfl, wa, ws, rfl, hw, l1, l2, fun H1 s1 => ⟨true, rfl, iteT ?_⟩⟩
    refine ⟨_, rfl, _, rfl, if_stop (fun e => ?_) (fun n e => ?_)⟩
    · exact kq H1 s1
    · have n1 := hd n e
      have e : d = some n := e
      subst e
      refine ⟨_, rfl, .int n, true, false, rfl, kind_int n, true, rfl, iteT ⟨_, rfl, _, _, rfl, rfl, ?_⟩⟩
      have q := kq H1 s1
      rw [show V.bl true = V.bl (decide ((1 : Int) ≤ n)) from by rw [decide_eq_true n1]] at q
      exact q
abbrev areN : List Str := ["things", "thing", "ends", "days", "_"]
theorem scAre : FnScope areN ["things"] (defScope d_are_stretches) := ⟨rfl, rfl, rfl, by decide +kernel, rfl, by decide +kernel, by decide +kernel⟩
theorem ok_areG {f fS C : Addr} {fd fdS : FuncData} {tk : Tok} (F : Fun K "are_stretches" "are_stretches" d_are_stretches f fd) (Y : TxtY mg C) (hM : mg "MOST_STRETCHES" = some (.int 60 tk))
    (GS : FnOk P w K mg base CX0 2 fS fdS ["thing"] (spStrG K C)) (mS : mg "is_stretch" = some (.ref fS)) (kS : PySem.W.keepIn K (.ref fS) = true) (bS : Binds K fdS ["thing"] []) :
    FnOk P w K mg base CX0 3 f fd ["things"] (spStrsG K C) := by
  refine F.ok scAre (fun vs H Q E h => ?_) (fun cdv A outer s H vs Q E hr h => ?_)
  · obtain ⟨a, _, _, rfl, _⟩ := h
    rfl
  · obtain ⟨a, ts, told, rfl, ha, lt, hst, ok, kq⟩ := h
    refine ⟨_, pss_cons (ps_if (PW.pt (pw_or (pt_not (pt_val (pe_callB call_isi (by rfl) Y.isi (by decide +kernel) (pa_cons (pv 0) (pa_cons (pe_bltn (v := .ty "list") (by rfl) Y.list (by decide +kernel) rfl) pa_nil)))))
          (pw_or1 (pt_not (pt_chain op_le op_le pe_int (pe_callB call_len_seq (by rfl) Y.len PySem.boot_len (pa_cons (pv 0) pa_nil)) (pe_glob (v := .int 60) rfl hM ⟨tk, rfl⟩)))))) (pss_one (ps_ret pe_bl)) pss_nil)
      (pss_cons (ps_if (pt_not (pt_val (pe_callB (cr_all rfl) (by rfl) Y.all (by decide +kernel) (pa_cons
        (pe_lc (own := [("thing", 1)]) (g := gName 1) (by rfl) scAre.nd (pi_list (pv 0)) (blkOk_by (own := [("thing", 1)]) (N := areN) (sc := defScope d_are_stretches) (by decide +kernel)) (fun _ _ _ _ _ => pg_name (i := 1) scAre.nd rfl (.inl rfl)) (fun _ _ _ _ _ => pts_nil)
          (fun _ _ _ _ _ => pe_call GS hr rfl mS kS bS .nil pass0 (pa_cons (pv 1) pa_nil))) pa_nil)))) (pss_one (ps_ret pe_bl)) pss_nil)
      (pss_cons (ps_setLc (i := 2) (own := [("days", 3), ("_", 4)]) (g := gTup K 2 (gCons (gName 3) (gCons (gName 4) gNil))) (by rfl) scAre.nd rfl rfl (sw_true rfl rfl rfl rfl) (pi_list (pv 0)) (blkOk_by (own := [("days", 3), ("_", 4)]) (N := areN) (sc := defScope d_are_stretches) (by decide +kernel))
        (fun _ _ _ _ _ => pg_tup (by rfl) (pgs_cons (pg_name (i := 3) scAre.nd rfl (.inl rfl)) (pgs_cons (pg_name (i := 4) scAre.nd rfl (.inl rfl)) pgs_nil))) (fun _ _ _ _ _ => pts_nil) (fun _ _ _ _ _ => pe_cmp (pc_isN (pv 3))))
      (pss_one (ps_ret (pe_and (pe_ix ix_list (pv 2) (pe_un un_neg pe_int) (fun _ _ => rfl)) (pe_one (pe_not (pe_callB (cr_any rfl) (by rfl) Y.any (by decide +kernel) (pa_cons (pe_slice sl_list (pv 2) po_none (po_some (pe_un un_neg pe_int))) pa_nil))))))))), ?_⟩
    have lp : (ts.map V.ref).length = told.length := by rw [List.length_map, lt]
    have p1 := ok.pos
    have p2 := ok.few
    refine ⟨_, rfl, _, _, _, _, true, rfl, ClsV.ty _, ty_lst ha, kit_ty (by decide +kernel), true, rfl, iteF ?_⟩
    refine ⟨_, rfl, a, _, rfl, .inl ha, _, _, rfl, rfl, _, rfl, ?_⟩
    rw [lp, decide_eq_true (show (1 : Int) ≤ (told.length : Int) by omega)]
    refine iteT ⟨_, _, rfl, rfl, _, rfl, ?_⟩
    rw [decide_eq_true (show (told.length : Int) ≤ 60 by omega)]
    refine iteF ?_
    refine ⟨_, rfl, a, rfl, ⟨_, ha⟩, fun D hD => ?_⟩
    refine lc_list (K := K) (a := a) (xs := ts.map V.ref) (fun i M => M D = some (.lst ((List.replicate i true).map V.bl)) ∧ Same H M) ⟨upd_same, same1 hD⟩ ?_ ?_ ?_
    · rintro i M _ ⟨_, sm⟩
      exact sm.seq ha
    · rintro i x M hx ⟨eD, sm⟩
      rw [List.getElem?_map] at hx
      obtain ⟨t, ht, rfl⟩ := Option.map_eq_some_iff.mp hx
      have il : i < told.length := by
        have := (List.getElem?_eq_some_iff.mp ht).1
        omega
      obtain ⟨x, hxi⟩ : ∃ x, told[i]? = some x := ⟨_, List.getElem?_eq_getElem il⟩
      refine ⟨rfl, ?_⟩
      refine ⟨_, rfl, t, x, rfl, (hst i t x ht hxi).mono sm, (ok.word i x hxi).1, (ok.word i x hxi).2, fun n e => ok.days i x n hxi e, fun M1 s1 => ?_⟩
      refine ⟨_, s1 _ _ eD, (by rw [List.length_map, List.length_replicate]; exact Nat.lt_of_lt_of_le il (Nat.le_trans p2 (show 60 ≤ sizeLine by decide))), ?_, fun b o e => ?_⟩
      · rw [List.replicate_succ', List.map_append]
        exact upd_same
      · rw [upd_ne (ne_of_none e hD)]
        exact s1 _ _ (sm _ _ e)
    · rintro M ⟨eD, sm⟩
      refine ⟨D, _, rfl, SqL.of eD, ?_⟩
      rw [show (List.replicate (ts.map V.ref).length true).all id = true from by simp]
      refine ⟨true, rfl, iteF ?_⟩
      refine ⟨_, rfl, a, rfl, ⟨_, sm.seq ha⟩, fun B hB => ?_⟩
      refine lc_list (K := K) (a := a) (xs := ts.map V.ref) (fun i M' => M' B = some (.lst (((told.take i).map fun x => x.1.isNone).map V.bl)) ∧ Same M M') ⟨upd_same, same1 hB⟩ ?_ ?_ ?_
      · rintro i M' _ ⟨_, sm'⟩
        exact (sm.trans sm').seq ha
      · rintro i x M' hx ⟨eB, sm'⟩
        rw [List.getElem?_map] at hx
        obtain ⟨t, ht, rfl⟩ := Option.map_eq_some_iff.mp hx
        have il : i < told.length := by
          have := (List.getElem?_eq_some_iff.mp ht).1
          omega
        obtain ⟨x, hxi⟩ : ∃ x, told[i]? = some x := ⟨_, List.getElem?_eq_getElem il⟩
        obtain ⟨wa, q1, _⟩ := (hst i t x ht hxi).mono (sm.trans sm')
        refine ⟨t, _, rfl, q1, rfl, _, _, rfl, _, _, rfl, rfl, rfl, ?_⟩
        refine ⟨_, rfl, _, eB, (by rw [List.length_map, List.length_map, List.length_take]; exact Nat.lt_of_le_of_lt (Nat.min_le_left _ _) (Nat.lt_of_lt_of_le il (Nat.le_trans p2 (show 60 ≤ sizeLine by decide)))), ?_, fun b o e => ?_⟩
        · have ed : decide (dv x.1 = V.non) = x.1.isNone := by
            cases x.1 with
            | none => exact decide_eq_true rfl
            | some n => exact decide_eq_false (fun z => nomatch z)
          rw [List.take_succ_eq_append_getElem il, List.map_append, List.map_append, upd_same]
          have e3 : told[i] = x := Option.some.inj ((List.getElem?_eq_getElem il).symm.trans hxi)
          rw [e3]
          show some (HO.lst _) = some (HO.lst (_ ++ [V.bl x.1.isNone]))
          rw [← ed]
        · rw [upd_ne (ne_of_none e hB)]
          exact sm' _ _ e
      · rintro M' ⟨eB, sm'⟩
        rw [lp, List.take_length] at eB
        refine ⟨_, rfl, _, rfl, B, _, _, _, rfl, rfl, SqL.of eB, ends_last ok, true, rfl, iteT ?_⟩
        refine ⟨_, rfl, _, rfl, _, rfl, B, _, rfl, SqL.of eB, fun p hp => ?_⟩
        refine ⟨p, _, rfl, SqL.of (xs := ((told.map fun x => x.1.isNone).take (told.length - 1)).map V.bl) ?_, false, congrArg V.bl (ends_before ok), ?_⟩
        · rw [show cutV ((told.map fun x => x.1.isNone).map V.bl) none (some (-1)) = ((told.map fun x => x.1.isNone).take (told.length - 1)).map V.bl from by
            have := cut_back (xs := (told.map fun x => x.1.isNone).map V.bl) (n := 1) (by decide)
            rw [List.length_map, List.length_map, ← List.map_take] at this
            exact this]
          exact upd_same
        · exact kq _ (sm.trans (sm'.trans (same1 hp)))
end
end K13

namespace K13
open PySem PySem.Spec PyProof.Rows L2
/-! ### a course made -/
def StrsAt (K : PySem.W.Frag) (C : Addr) (H : Hp) (a : Addr) (told : List (Option Int × W2)) : Prop := ∃ ts : List Addr, SqL K H a (ts.map V.ref) ∧ ts.length = told.length ∧ (∀ (i : Nat) (t : Addr) (x : Option Int × W2), ts[i]? = some t → told[i]? = some x → StrAt K C H t x)
def spCInit (K : PySem.W.Frag) (C CC : Addr) : Sp := fun vs H Q _ => ∃ (p dx a : Addr) (told : List (Option Int × W2)), vs = [.ref p, .ref a] ∧ H p = some (.ins CC dx []) ∧ StrsAt K C H a told ∧ Told told ∧
  ∀ H', CourseAt K C CC H' p told → (∀ b o, b ≠ p → H b = some o → H' b = some o) → Q .non H'
/-- what is no object still being made stays -/
def Keep2 (H H' : Hp) : Prop := ∀ b o, H b = some o → (∀ C d, o ≠ .ins C d []) → H' b = some o
theorem Keep2.tup {K : PySem.W.Frag} {H H' : Hp} {a : Addr} {xs : List V} (k : Keep2 H H') (h : SqT K H a xs) : SqT K H' a xs :=
  h.elim (fun h => .inl (h.elim (fun h => .inl (k _ _ h (fun _ _ z => nomatch z))) fun ⟨o, h⟩ => .inr ⟨o, k _ _ h (fun _ _ z => nomatch z)⟩)) fun h => .inr h
theorem Keep2.all {C : Addr} {H H' : Hp} {ps : List Addr} {ws : W2} (k : Keep2 H H') (h : ShAll C H ps ws) : ShAll C H' ps ws := ⟨h.1, fun i p x a b => by
  obtain ⟨dx, e⟩ := h.2 i p x a b
  refine ⟨dx, k _ _ e (fun C' d z => ?_)⟩
  injection z with _ _ z
  have q := shf_top x.1 x.2
  rw [z] at q
  cases q⟩
theorem Keep2.span {K : PySem.W.Frag} {C : Addr} {H H' : Hp} {told : List (Option Int × W2)} {i : Nat} {s : Addr} (k : Keep2 H H') (h : SpanOf K C H told i s) : SpanOf K C H' told i s := by
  obtain ⟨x, e, wa, a, ps, b, c⟩ := h
  exact ⟨x, e, wa, k.tup a, ps, k.tup b, k.all c⟩
theorem keep2_ins {H : Hp} {p CC dx : Addr} {o : HO} (h : H p = some (.ins CC dx [])) : Keep2 H (upd H p o) := fun b u e n => by
  rw [upd_ne (fun z => by rw [z, h] at e; exact n _ _ (Option.some.inj e).symm)]
  exact e
section
variable {P : Program} {w : World} {K : PySem.W.Frag} {mg : Str → Option Value} {base : Heap}
theorem scCInit : FnScope ["self", "stretches"] ["self", "stretches"] (defScope d_Course_init) := ⟨rfl, rfl, rfl, by decide +kernel, rfl, by decide +kernel, by decide +kernel⟩
theorem ok_cinit {f fA fS C CC CN : Addr} {fd fdA fdS : FuncData} (F : Fun K "__init__" "Course.__init__" d_Course_init f fd) (TC : CrsC K CC) (TN : ErrC K mg "NoCourse" CN)
    (GA : FnOk P w K mg base CX0 3 fA fdA ["things"] (spStrsG K C)) (mA : mg "are_stretches" = some (.ref fA)) (kA : PySem.W.keepIn K (.ref fA) = true) (bA : Binds K fdA ["things"] [])
    (GS : FnOk P w K mg base CX0 4 fS fdS ["stretches"] (spSpans K C)) (mS : mg "spans_of" = some (.ref fS)) (kS : PySem.W.keepIn K (.ref fS) = true) (bS : Binds K fdS ["stretches"] []) :
    FnOk P w K mg base (L2.CX P w) 5 f fd ["self", "stretches"] (spCInit K C CC) := by
  refine F.okX scCInit (fun vs H Q E h => ?_) (fun cdv A outer s H vs Q E hr h => ?_)
  · obtain ⟨p, dx, a, _, rfl, _⟩ := h
    rfl
  · obtain ⟨p, dx, a, told, rfl, hp, ⟨ts, ha, lt, hst⟩, ok, kq⟩ := h
    have r3 : Room 3 _ := hr.mono (by decide)
    refine ⟨_, pss_cons (ps_if (pt_not (pt_val (pe_call GA r3 rfl mA kA bA .nil pass0 (pa_cons (pv 1) pa_nil))))
        (pss_one (ps_raise rfl (takes_of rfl rfl rfl rfl) (pmk_own PySem.F.excBase_ValueError TN.xN TN.gN TN.kN (raises_own TN.bN TN.tN) (by exact rfl)))) pss_nil)
      (pss_one (ps_fld (pv 0) (pe_call GS hr rfl mS kS bS .nil pass0 (pa_cons (pv 1) pa_nil)) rfl)), ?_⟩
    refine ⟨_, rfl, a, ts, told, rfl, ha, lt, hst, ok, fun H1 s1 => ⟨true, rfl, iteF ?_⟩⟩
    refine ⟨_, rfl, a, ts, told, rfl, s1.seq ha, lt, fun i t x h1 h2 => (hst i t x h1 h2).mono s1, ok, fun H2 l ss s2 hl0 hl ls hsp => ?_⟩
    have hp2 := s2 _ _ (s1 _ _ hp)
    refine ⟨_, rfl, p, CC, dx, _, rfl, hp2, TC.cl, TC.no, (by show 0 < 1000; decide), ?_⟩
    have pl : l ≠ p := fun z => by rw [z, hp2] at hl; cases hl
    refine kq _ ⟨dx, l, ss, upd_same, SqL.of (by rw [upd_ne pl]; exact hl), ls, fun i s' hs => ?_, ok⟩ (fun b o hb e => by rw [upd_ne hb]; exact s2 _ _ (s1 _ _ e))
    exact (keep2_ins hp2).span (hsp i s' hs)
end
end K13

namespace K13
open PySem PySem.Spec PyProof.Rows L2
def spBetween (K : PySem.W.Frag) : Sp := fun vs H Q _ => ∃ (v : V) (a b : Int) (bi bb : Bool), vs = [v, .int a, .int b] ∧ Kind K H v bi bb ∧ ((∃ i, v = .int i ∧ bi = true ∧ bb = false ∧ Q (.bl (decide (a ≤ i) && decide (i ≤ b))) H) ∨ ((bi && !bb) = false ∧ Q (.bl false) H))
def spDay (K : PySem.W.Frag) : Sp := fun vs H Q _ => ∃ (v : V) (bi bb : Bool), vs = [v] ∧ Kind K H v bi bb ∧ ((∃ i, v = .int i ∧ bi = true ∧ bb = false ∧ Q (.bl (decide (0 ≤ i) && decide (i ≤ 1000000000000000))) H) ∨ ((bi && !bb) = false ∧ Q (.bl false) H))
section
variable {P : Program} {w : World} {K : PySem.W.Frag} {mg : Str → Option Value} {base : Heap}
theorem scBetween : FnScope ["thing", "least", "most"] ["thing", "least", "most"] (defScope d_is_between) := ⟨rfl, rfl, rfl, by decide +kernel, rfl, by decide +kernel, by decide +kernel⟩
theorem ok_between {f fW : Addr} {fd fdW : FuncData} (F : Fun K "is_between" "is_between" d_is_between f fd) (GW : FnOk P w K mg base CX0 1 fW fdW ["thing"] (spWholeX K)) (mW : mg "is_whole" = some (.ref fW)) (kW : PySem.W.keepIn K (.ref fW) = true) (bW : Binds K fdW ["thing"] []) :
    FnOk P w K mg base CX0 2 f fd ["thing", "least", "most"] (spBetween K) := by
  refine F.ok scBetween (fun vs H Q E h => ?_) (fun cdv A outer s H vs Q E hr h => ?_)
  · obtain ⟨v, _, _, _, _, rfl, _⟩ := h
    rfl
  · obtain ⟨v, a, b, bi, bb, rfl, hk, kq⟩ := h
    refine ⟨_, pss_one (ps_ret (pe_and (pe_call GW hr rfl mW kW bW .nil pass0 (pa_cons (pv 0) pa_nil)) (pe_one (pe_chain op_le op_le (pv 1) (pv 0) (pv 2))))), ?_⟩
    refine ⟨_, rfl, v, bi, bb, rfl, hk, bi && !bb, rfl, ?_⟩
    rcases kq with ⟨i, rfl, rfl, rfl, q⟩ | ⟨e, q⟩
    · refine iteT ⟨_, rfl, _, rfl, _, _, rfl, rfl, _, rfl, ?_⟩
      refine ite2 (fun h => ?_) (fun h => ?_)
      · refine ⟨_, rfl, _, _, rfl, rfl, ?_⟩
        rw [h] at q
        exact q
      · rw [show decide (a ≤ i) = false from by simpa using h] at q
        exact q
    · rw [e]
      exact iteF q
theorem scDay : FnScope ["thing"] ["thing"] (defScope d_is_day) := ⟨rfl, rfl, rfl, by decide +kernel, rfl, by decide +kernel, by decide +kernel⟩
theorem ok_day {f fW : Addr} {fd fdW : FuncData} {tk : Tok} (F : Fun K "is_day" "is_day" d_is_day f fd) (GW : FnOk P w K mg base CX0 2 fW fdW ["thing", "least", "most"] (spBetween K)) (mW : mg "is_between" = some (.ref fW)) (kW : PySem.W.keepIn K (.ref fW) = true) (bW : Binds K fdW ["thing", "least", "most"] [])
    (hL : mg "LAST_DAY" = some (.int 1000000000000000 tk)) : FnOk P w K mg base CX0 3 f fd ["thing"] (spDay K) := by
  refine F.ok scDay (fun vs H Q E h => ?_) (fun cdv A outer s H vs Q E hr h => ?_)
  · obtain ⟨v, _, _, rfl, _⟩ := h
    rfl
  · obtain ⟨v, bi, bb, rfl, hk, kq⟩ := h
    refine ⟨_, pss_one (ps_ret (pe_call GW hr rfl mW kW bW .nil pass0 (pa_cons (pv 0) (pa_cons pe_int (pa_cons (pe_glob (v := .int 1000000000000000) rfl hL ⟨tk, rfl⟩) pa_nil))))), ?_⟩
    exact ⟨_, rfl, v, 0, 1000000000000000, bi, bb, rfl, hk, kq⟩
end
end K13

namespace K13
open PySem PySem.Spec PyProof.Rows L2
/-! ### times, total -/
/-- a new share, from two -/
def lcmOf (ws : W2) : Nat := ws.foldl (fun m x => Nat.lcm m x.2.natAbs) 1
def sumOf (ws : W2) (D : Int) : Int := (ws.map fun x => x.1 * (D / x.2)).sum
/-- what total gives: the one itself, or the sum in lowest terms -/
def TotOf (ws : W2) (t b : Int) : Prop := (∃ x, ws = [x] ∧ t = x.1 ∧ b = x.2) ∨ (t = lowT (sumOf ws (lcmOf ws)) (lcmOf ws) ∧ b = lowB (sumOf ws (lcmOf ws)) (lcmOf ws))
structure Small (ws : W2) (M : Nat) : Prop where
  pos : 0 < M
  lt : M < 2 ^ 60
  bot : ∀ (i : Nat) (x : Int × Int), ws[i]? = some x → 0 < x.2 ∧ x.2.natAbs ∣ M
  top : ∀ (i : Nat) (x : Int × Int), ws[i]? = some x → x.1.natAbs < 2 ^ 1000
  few : ws.length ≤ 4000
theorem lcmOf_next {ws : W2} {i : Nat} {x : Int × Int} (h : ws[i]? = some x) : lcmOf (ws.take (i + 1)) = Nat.lcm (lcmOf (ws.take i)) x.2.natAbs := by
  obtain ⟨hi, e⟩ := List.getElem?_eq_some_iff.mp h
  unfold lcmOf
  rw [List.take_succ_eq_append_getElem hi, List.foldl_append, e]
  rfl
theorem lcmOf_dvd {ws : W2} {M : Nat} (h : Small ws M) : ∀ i, i ≤ ws.length → lcmOf (ws.take i) ∣ M
  | 0, _ => by
    rw [List.take_zero]
    exact Nat.one_dvd _
  | i + 1, hi => by
    have hx : ws[i]? = some ws[i] := List.getElem?_eq_getElem (by omega)
    rw [lcmOf_next hx]
    exact Nat.lcm_dvd (lcmOf_dvd h i (by omega)) (h.bot i _ hx).2
theorem lcmOf_lt {ws : W2} {M : Nat} (h : Small ws M) {i : Nat} (hi : i ≤ ws.length) : 0 < lcmOf (ws.take i) ∧ lcmOf (ws.take i) < 2 ^ 60 := by
  have d := lcmOf_dvd h i hi
  exact ⟨Nat.pos_of_dvd_of_pos d h.pos, Nat.lt_of_le_of_lt (Nat.le_of_dvd h.pos d) h.lt⟩
theorem sum_lt : ∀ (l : List Int) (B : Nat), (∀ x ∈ l, x.natAbs ≤ B) → l.sum.natAbs ≤ l.length * B
  | [], B, _ => by simp
  | a :: l, B, h => by
    have h1 := h a (by simp)
    have h2 := sum_lt l B (fun x hx => h x (by simp [hx]))
    rw [List.sum_cons, List.length_cons, Nat.succ_mul]
    have := Int.natAbs_add_le a l.sum
    omega
theorem sumOf_lt {ws : W2} {M : Nat} (h : Small ws M) {D : Nat} (hD : D < 2 ^ 60) : (sumOf ws D).natAbs < 2 ^ 4000 := by
  have a := sum_lt (ws.map fun x => x.1 * ((D : Int) / x.2)) (2 ^ 1060) (fun y hy => by
    obtain ⟨x, hx, rfl⟩ := List.mem_map.mp hy
    obtain ⟨i, hi⟩ := List.mem_iff_getElem?.mp hx
    have t := h.top i x hi
    have b := (h.bot i x hi).1
    have e : ((D : Int) / x.2).natAbs ≤ D := by
      have q0 : 0 ≤ (D : Int) / x.2 := Int.ediv_nonneg (by omega) (by omega)
      have q1 : (D : Int) / x.2 ≤ (D : Int) := Int.ediv_le_self _ (by omega)
      omega
    rw [Int.natAbs_mul, show (2 : Nat) ^ 1060 = 2 ^ 1000 * 2 ^ 60 from by rw [← Nat.pow_add]]
    exact Nat.mul_le_mul (Nat.le_of_lt t) (Nat.le_trans e (Nat.le_of_lt hD)))
  rw [List.length_map] at a
  have c : ws.length * 2 ^ 1060 ≤ 2 ^ 12 * 2 ^ 1060 := Nat.mul_le_mul_right _ (Nat.le_trans h.few (by decide))
  rw [← Nat.pow_add] at c
  exact Nat.lt_of_le_of_lt (Nat.le_trans a c) (Nat.pow_lt_pow_right (by decide) (by decide))
end K13

namespace K13
open PySem PySem.Spec PyProof.Rows L2
/-! ### sums by a common multiple of all bottoms -/
/-- t over b is S over M, in lowest terms -/
def IsFr (M : Nat) (S t b : Int) : Prop := 0 < b ∧ Nat.gcd t.natAbs b.natAbs = 1 ∧ t * (M : Int) = S * b
theorem fr_low {p q S : Int} {M : Nat} (hq : q ≠ 0) (h : p * (M : Int) = S * q) : IsFr M S (lowT p q) (lowB p q) := by
  refine ⟨lowB_pos hq, low_coprime hq, ?_⟩
  have h1 := lowT_mul p q
  have h2 := lowB_mul p q
  have g := sg_ne (a := p) hq
  have e : lowT p q * (M : Int) * sg p q = S * lowB p q * sg p q := by
    calc lowT p q * (M : Int) * sg p q = (lowT p q * sg p q) * M := by rw [Int.mul_assoc, Int.mul_comm (M : Int), ← Int.mul_assoc]
      _ = p * M := by rw [h1]
      _ = S * q := h
      _ = S * (lowB p q * sg p q) := by rw [h2]
      _ = S * lowB p q * sg p q := by rw [Int.mul_assoc]
  exact Int.eq_of_mul_eq_mul_right g e
theorem fr_one {M : Nat} {S t b t' b' : Int} (hM : 0 < M) (h : IsFr M S t b) (h' : IsFr M S t' b') : t = t' ∧ b = b' := by
  refine same_of h.1 h'.1 ?_ h.2.1 h'.2.1
  have hM' : (M : Int) ≠ 0 := by omega
  refine Int.eq_of_mul_eq_mul_right hM' ?_
  calc t * b' * (M : Int) = (t * M) * b' := by rw [Int.mul_assoc, Int.mul_comm b', ← Int.mul_assoc]
    _ = (S * b) * b' := by rw [h.2.2]
    _ = (S * b') * b := by rw [Int.mul_assoc, Int.mul_comm b b', ← Int.mul_assoc]
    _ = (t' * M) * b := by rw [h'.2.2]
    _ = t' * b * M := by rw [Int.mul_assoc, Int.mul_comm (M : Int), ← Int.mul_assoc]
theorem fr_dvd {M : Nat} {S t b : Int} (h : IsFr M S t b) : b.natAbs ∣ M := by
  have e : t.natAbs * M = S.natAbs * b.natAbs := by
    have := congrArg Int.natAbs h.2.2
    rw [Int.natAbs_mul, Int.natAbs_mul, Int.natAbs_natCast] at this
    exact this
  have d : b.natAbs ∣ t.natAbs * M := ⟨S.natAbs, by rw [e, Nat.mul_comm]⟩
  exact Nat.Coprime.dvd_of_dvd_mul_left (by rw [Nat.Coprime, Nat.gcd_comm]; exact h.2.1) d
theorem dvd_int {M : Nat} {b : Int} (h : b.natAbs ∣ M) : b ∣ (M : Int) := Int.natAbs_dvd_natAbs.mp (by rw [Int.natAbs_natCast]; exact h)
theorem fr_term {M : Nat} {S t b : Int} (h : IsFr M S t b) : t * ((M : Int) / b) = S := by
  obtain ⟨k, hk⟩ := dvd_int (fr_dvd h)
  have b0 : b ≠ 0 := by have := h.1; omega
  have e := h.2.2
  rw [hk] at e ⊢
  rw [Int.mul_ediv_cancel_left _ b0]
  refine Int.eq_of_mul_eq_mul_right b0 ?_
  rw [← e, Int.mul_comm b k, Int.mul_assoc]
theorem fr_abs {M : Nat} {S t b : Int} (hM : 0 < M) (h : IsFr M S t b) : t.natAbs ≤ S.natAbs := by
  have q := fr_term h
  obtain ⟨k, hk⟩ := dvd_int (fr_dvd h)
  have b0 : b ≠ 0 := by have := h.1; omega
  rw [hk, Int.mul_ediv_cancel_left _ b0] at q
  rw [← q, Int.natAbs_mul]
  have k0 : k.natAbs ≠ 0 := fun z => by
    have : k = 0 := by omega
    rw [this, Int.mul_zero] at hk
    omega
  exact Nat.le_mul_of_pos_right _ (by omega)
theorem sumOf_cons (x : Int × Int) (ws : W2) (D : Int) : sumOf (x :: ws) D = x.1 * (D / x.2) + sumOf ws D := by
  unfold sumOf
  rw [List.map_cons, List.sum_cons]
theorem sumOf_append (a b : W2) (D : Int) : sumOf (a ++ b) D = sumOf a D + sumOf b D := by
  unfold sumOf
  rw [List.map_append, List.sum_append]
theorem sumOf_mul {L k : Int} : ∀ (ws : W2), (∀ x ∈ ws, 0 < x.2 ∧ x.2 ∣ L) → sumOf ws (L * k) = sumOf ws L * k
  | [], _ => by simp [sumOf]
  | x :: ws, h => by
    obtain ⟨h1, h2⟩ := h x (by simp)
    rw [sumOf_cons, sumOf_cons, sumOf_mul ws (fun y hy => h y (by simp [hy])), Int.add_mul]
    obtain ⟨c, hc⟩ := h2
    have x0 : x.2 ≠ 0 := by omega
    rw [hc, Int.mul_assoc, Int.mul_ediv_cancel_left _ x0, Int.mul_ediv_cancel_left _ x0, Int.mul_assoc]
theorem lcmOf_all {ws : W2} : ∀ i, i ≤ ws.length → ∀ j x, j < i → ws[j]? = some x → x.2.natAbs ∣ lcmOf (ws.take i)
  | 0, _, j, x, hj, _ => absurd hj (Nat.not_lt_zero j)
  | i + 1, hi, j, x, hj, hx => by
    have hy : ws[i]? = some ws[i] := List.getElem?_eq_getElem (by omega)
    rw [lcmOf_next hy]
    rcases Nat.lt_succ_iff_lt_or_eq.mp hj with h | h
    · exact Nat.dvd_trans (lcmOf_all i (by omega) j x h hx) (Nat.dvd_lcm_left _ _)
    · subst h
      rw [hy] at hx
      cases hx
      exact Nat.dvd_lcm_right _ _
theorem tot_fr {ws : W2} {t b : Int} {M : Nat} (sm : Small ws M) (co : ∀ (i : Nat) (x : Int × Int), ws[i]? = some x → Nat.gcd x.1.natAbs x.2.natAbs = 1) (h : TotOf ws t b) : IsFr M (sumOf ws M) t b := by
  rcases h with ⟨x, rfl, rfl, rfl⟩ | ⟨rfl, rfl⟩
  · obtain ⟨h1, h2⟩ := sm.bot 0 x rfl
    refine ⟨h1, co 0 x rfl, ?_⟩
    rw [sumOf_cons, show sumOf [] (M : Int) = 0 from rfl, Int.add_zero, Int.mul_assoc, Int.ediv_mul_cancel (dvd_int h2)]
  · have l1 := lcmOf_lt sm (i := ws.length) (Nat.le_refl _)
    have d := lcmOf_dvd sm ws.length (Nat.le_refl _)
    rw [List.take_length] at l1 d
    obtain ⟨k, hk⟩ := d
    refine fr_low (by omega) ?_
    have e : (M : Int) = ((lcmOf ws : Nat) : Int) * (k : Int) := by rw [hk]; exact Int.natCast_mul _ _
    rw [e, sumOf_mul ws (fun x hx => by
      obtain ⟨i, hi⟩ := List.mem_iff_getElem?.mp hx
      have q := lcmOf_all ws.length (Nat.le_refl _) i x (List.getElem?_eq_some_iff.mp hi).1 hi
      rw [List.take_length] at q
      exact ⟨(sm.bot i x hi).1, dvd_int q⟩), Int.mul_assoc, Int.mul_comm ((lcmOf ws : Nat) : Int) (k : Int)]
theorem fr_times {M : Nat} {S t b r : Int} (h : IsFr M S t b) : IsFr M (r * S) (lowT (r * t) (1 * b)) (lowB (r * t) (1 * b)) := by
  refine fr_low (by have := h.1; omega) ?_
  rw [Int.mul_assoc, h.2.2, Int.one_mul, Int.mul_assoc]
/-! ### what comes together in so many days -/
/-- the first x of a word that is told again and again -/
def dayS (M : Nat) (ws : W2) : Nat → Int
  | 0 => 0
  | x + 1 => dayS M ws x + match ws[x % ws.length]? with | some y => y.1 * ((M : Int) / y.2) | none => 0
theorem dayS_is {M : Nat} {ws : W2} (h : 1 ≤ ws.length) : ∀ x, dayS M ws x = ((x / ws.length : Nat) : Int) * sumOf ws M + sumOf (ws.take (x % ws.length)) M
  | 0 => by
    rw [Nat.zero_div, Nat.zero_mod, List.take_zero]
    simp [dayS, sumOf]
  | x + 1 => by
    have hm : x % ws.length < ws.length := Nat.mod_lt _ (by omega)
    have hx : ws[x % ws.length]? = some ws[x % ws.length] := List.getElem?_eq_getElem hm
    show dayS M ws x + (match ws[x % ws.length]? with | some y => y.1 * ((M : Int) / y.2) | none => 0) = _
    rw [hx, dayS_is h x]
    have st : sumOf (ws.take (x % ws.length)) M + ws[x % ws.length].1 * ((M : Int) / ws[x % ws.length].2) = sumOf (ws.take (x % ws.length + 1)) M := by
      rw [List.take_succ_eq_append_getElem hm, sumOf_append, sumOf_cons, show sumOf [] (M : Int) = 0 from rfl, Int.add_zero]
    show _ + _ + ws[x % ws.length].1 * ((M : Int) / ws[x % ws.length].2) = _
    rw [Int.add_assoc, st]
    by_cases c : x % ws.length + 1 = ws.length
    · have a := Nat.div_add_mod x ws.length
      have e : x + 1 = ws.length * (x / ws.length + 1) := by rw [Nat.mul_add, Nat.mul_one]; omega
      have e1 : (x + 1) % ws.length = 0 := by rw [e, Nat.mul_mod_right]
      have e2 : (x + 1) / ws.length = x / ws.length + 1 := by
        have q : (ws.length * (x / ws.length + 1)) / ws.length = x / ws.length + 1 := Nat.mul_div_cancel_left _ (by omega)
        rw [← e] at q
        exact q
      rw [e1, e2, c, List.take_length, List.take_zero, show sumOf [] (M : Int) = 0 from rfl, Int.add_zero, Int.natCast_add, Int.add_mul]
      simp
    · have hl : x % ws.length + 1 < ws.length := by omega
      have a := Nat.div_add_mod x ws.length
      have e1 : (x + 1) % ws.length = x % ws.length + 1 := by
        have e : x + 1 = (x % ws.length + 1) + ws.length * (x / ws.length) := by omega
        rw [e, Nat.add_mul_mod_self_left, Nat.mod_eq_of_lt hl]
      have e2 : (x + 1) / ws.length = x / ws.length := by
        have e : x + 1 = (x % ws.length + 1) + ws.length * (x / ws.length) := by omega
        rw [e, Nat.add_mul_div_left _ _ (by omega), Nat.div_eq_of_lt hl, Nat.zero_add]
      rw [e1, e2]
theorem dayS_like {M : Nat} {ws vs : W2} : ∀ x, (∀ i, i < x → ws[i % ws.length]? = vs[i % vs.length]?) → dayS M ws x = dayS M vs x
  | 0, _ => rfl
  | x + 1, h => by
    show dayS M ws x + _ = dayS M vs x + _
    rw [dayS_like x (fun i hi => h i (by omega)), h x (Nat.lt_succ_self x)]
end K13

namespace K13
open PySem PySem.Spec PyProof.Rows L2
/-- pairs told in a list -/
def PrsAt (K : PySem.W.Frag) (H : Hp) (a : Addr) (ws : W2) : Prop := ∃ qs : List Addr, SqL K H a (qs.map V.ref) ∧ qs.length = ws.length ∧ ∀ (j : Nat) (q : Addr) (y : Int × Int), qs[j]? = some q → ws[j]? = some y → SqT K H q [.int y.1, .int y.2]
theorem PrsAt.mono {K : PySem.W.Frag} {H H' : Hp} {a : Addr} {ws : W2} (h : PrsAt K H a ws) (s : Same H H') : PrsAt K H' a ws := by
  obtain ⟨qs, x, y, z⟩ := h
  exact ⟨qs, s.seq x, y, fun j q w a b => Same.tup s (z j q w a b)⟩
theorem fr_zero {m : Nat} : IsFr m 0 0 1 := ⟨by decide, rfl, by rw [Int.zero_mul, Int.zero_mul]⟩
theorem fr_plus {m : Nat} {S t b : Int} {y : Int × Int} (h : IsFr m S t b) (y0 : 0 < y.2) (yd : y.2.natAbs ∣ m) :
    IsFr m (S + y.1 * ((m : Int) / y.2)) (lowT (t * y.2 + y.1 * b) (b * y.2)) (lowB (t * y.2 + y.1 * b) (b * y.2)) := by
  have b0 := h.1
  refine fr_low (Int.mul_ne_zero (by omega) (by omega)) ?_
  obtain ⟨k, hk⟩ := dvd_int yd
  have e := h.2.2
  have hq : (m : Int) / y.2 = k := by rw [hk, Int.mul_ediv_cancel_left _ (by omega)]
  rw [hq, Int.add_mul, Int.add_mul]
  have e1 : t * y.2 * (m : Int) = S * (b * y.2) := by rw [Int.mul_assoc, Int.mul_comm y.2, ← Int.mul_assoc, e, Int.mul_assoc]
  have e2 : y.1 * b * (m : Int) = y.1 * k * (b * y.2) := by
    rw [hk, Int.mul_assoc, Int.mul_assoc]
    congr 1
    rw [Int.mul_comm y.2 k, ← Int.mul_assoc, ← Int.mul_assoc, Int.mul_comm b k]
  rw [e1, e2]
theorem take_small {ws : W2} {m : Nat} (h : Small ws m) (i : Nat) : Small (ws.take i) m := by
  refine ⟨h.pos, h.lt, fun j x hx => ?_, fun j x hx => ?_, by rw [List.length_take]; exact Nat.le_trans (Nat.min_le_right _ _) h.few⟩
  · rw [List.getElem?_take] at hx
    split at hx
    · exact h.bot j x hx
    · cases hx
  · rw [List.getElem?_take] at hx
    split at hx
    · exact h.top j x hx
    · cases hx
theorem sumOf_m {ws : W2} {m : Nat} (h : Small ws m) : (sumOf ws m).natAbs < 2 ^ 1100 := by
  have a := sum_lt (ws.map fun x => x.1 * ((m : Int) / x.2)) (2 ^ 1060) (fun y hy => by
    obtain ⟨x, hx, rfl⟩ := List.mem_map.mp hy
    obtain ⟨i, hi⟩ := List.mem_iff_getElem?.mp hx
    have t := h.top i x hi
    have b := (h.bot i x hi).1
    have e : ((m : Int) / x.2).natAbs ≤ m := by
      have q0 : 0 ≤ (m : Int) / x.2 := Int.ediv_nonneg (by omega) (by omega)
      have q1 : (m : Int) / x.2 ≤ (m : Int) := Int.ediv_le_self _ (by omega)
      omega
    rw [Int.natAbs_mul, show (2 : Nat) ^ 1060 = 2 ^ 1000 * 2 ^ 60 from by rw [← Nat.pow_add]]
    exact Nat.mul_le_mul (Nat.le_of_lt t) (Nat.le_trans e (Nat.le_of_lt h.lt)))
  rw [List.length_map] at a
  have c : ws.length * 2 ^ 1060 ≤ 2 ^ 12 * 2 ^ 1060 := Nat.mul_le_mul_right _ (Nat.le_trans h.few (by decide))
  rw [← Nat.pow_add] at c
  exact Nat.lt_of_le_of_lt (Nat.le_trans a c) (Nat.pow_lt_pow_right (by decide) (by decide))
def spSum (K : PySem.W.Frag) : Sp := fun vs H Q _ => ∃ (a : Addr) (ws : W2) (m : Nat), vs = [.ref a] ∧ PrsAt K H a ws ∧ Small ws m ∧
  ∀ (H' : Hp) (q : Addr) (t b : Int), Same H H' → IsFr m (sumOf ws m) t b → H' q = some (.tup [.int t, .int b]) → Q (.ref q) H'
section
variable {P : Program} {w : World} {K : PySem.W.Frag} {mg : Str → Option Value} {base : Heap}
theorem scLSum : FnScope ["pairs", "top", "bottom", "one", "other"] ["pairs"] (defScope d_law_sum) := ⟨rfl, rfl, rfl, by decide +kernel, rfl, by decide +kernel, by decide +kernel⟩
theorem ok_lsum {f fL : Addr} {fd fdL : FuncData} (F : Fun K "_law_sum" "_law_sum" d_law_sum f fd) (GL : FnOk P w K mg base CX0 1 fL fdL ["top", "bottom"] spLow) (mL : mg "_law_low" = some (.ref fL)) (kL : PySem.W.keepIn K (.ref fL) = true) (bL : Binds K fdL ["top", "bottom"] []) :
    FnOk P w K mg base CX0 2 f fd ["pairs"] (spSum K) := by
  refine F.ok scLSum (fun vs H Q E h => ?_) (fun cdv A outer s H vs Q E hr h => ?_)
  · obtain ⟨a, _, _, rfl, _⟩ := h
    rfl
  · obtain ⟨a, ws, m, rfl, ⟨qs, ha, lq, hq⟩, sm, kq⟩ := h
    refine ⟨_, pss_cons (ps_asg (pe_tup (pa_cons pe_int (pa_cons pe_int pa_nil))) (pg_tup (by rfl) (pgs_cons (pg_name (i := 1) scLSum.nd rfl (.inl rfl)) (pgs_cons (pg_name (i := 2) scLSum.nd rfl (.inl rfl)) pgs_nil))))
      (pss_cons (ps_for PassesOwn.never rfl (pi_list (pv 0)) (pg_tup (by rfl) (pgs_cons (pg_name (i := 3) scLSum.nd rfl (.inl rfl)) (pgs_cons (pg_name (i := 4) scLSum.nd rfl (.inl rfl)) pgs_nil)))
        (pss_one (ps_asg (pe_call GL hr rfl mL kL bL .nil pass0 (pa_cons (pe_op op_add (pe_op op_mulW (pv 1) (pv 4)) (pe_op op_mulW (pv 3) (pv 2))) (pa_cons (pe_op op_mulW (pv 2) (pv 4)) pa_nil))) (pg_tup (by rfl) (pgs_cons (pg_name (i := 1) scLSum.nd rfl (.inl rfl)) (pgs_cons (pg_name (i := 2) scLSum.nd rfl (.inl rfl)) pgs_nil))))))
      (pss_one (ps_ret (pe_tup (pa_cons (pv 1) (pa_cons (pv 2) pa_nil)))))), ?_⟩
    refine ⟨(by show 2 ≤ sizeLine; decide), fun z hz => ?_⟩
    have s0 : Same H (upd H z (.tup [.int 0, .int 1])) := same1 hz
    refine ⟨z, _, rfl, SqT.of upd_same, rfl, _, _, rfl, _, _, rfl, rfl, ?_⟩
    refine ⟨_, rfl, a, rfl, ⟨_, s0.seq ha⟩, ?_⟩
    refine for_list (K := K) (a := a) (xs := qs.map V.ref) (fun i σ G => ∃ (t b : Int) (v3 v4 : Option V), σ = [some (.ref a), some (.int t), some (.int b), v3, v4] ∧ Same H G ∧ IsFr m (sumOf (ws.take i) m) t b) ⟨0, 1, _, _, rfl, s0, fr_zero⟩ ?_ ?_ ?_
    · rintro i σ G _ ⟨_, _, _, _, _, s1, _⟩
      exact s1.seq ha
    · rintro i x σ G hx ⟨t, b, v3, v4, rfl, s1, f⟩
      rw [List.getElem?_map] at hx
      obtain ⟨q, hqi, rfl⟩ := Option.map_eq_some_iff.mp hx
      have il : i < ws.length := by
        have := (List.getElem?_eq_some_iff.mp hqi).1
        omega
      have hy : ws[i]? = some ws[i] := List.getElem?_eq_getElem il
      have st := take_small sm i
      have tb := Nat.lt_of_le_of_lt (fr_abs sm.pos f) (sumOf_m st)
      have bb : b.natAbs < 2 ^ 60 := Nat.lt_of_le_of_lt (Nat.le_of_dvd sm.pos (fr_dvd f)) sm.lt
      have yb := sm.bot i _ hy
      have yt := sm.top i _ hy
      have yb2 : ws[i].2.natAbs < 2 ^ 60 := Nat.lt_of_le_of_lt (Nat.le_of_dvd sm.pos yb.2) sm.lt
      refine ⟨q, _, rfl, Same.tup s1 (hq i q _ hqi hy), rfl, _, _, rfl, _, _, rfl, rfl, ?_⟩
      refine ⟨_, rfl, _, rfl, _, _, rfl, rfl, wide_mul (a := 1100) (b := 60) tb yb2 (by decide) (by decide) (by decide), _, rfl, _, rfl, _, _, rfl, rfl, wide_mul (a := 1000) (b := 60) yt bb (by decide) (by decide) (by decide), _, _, rfl, rfl, ?_⟩
      refine ⟨_, rfl, _, rfl, _, _, rfl, rfl, wide_mul (a := 60) (b := 60) bb yb2 (by decide) (by decide) (by decide), ?_⟩
      have n1 := pow_le (wide_lt tb yb2) (show 1100 + 60 ≤ 2000 by decide)
      have n2 := pow_le (wide_lt yt bb) (show 1000 + 60 ≤ 2000 by decide)
      refine ⟨_, _, rfl, Int.mul_ne_zero (by have := f.1; omega) (by have := yb.1; omega), pow_le (add_lt n1 n2) (by decide), pow_le (wide_lt bb yb2) (by decide), fun r hr' => ?_⟩
      refine ⟨r, _, rfl, SqT.of upd_same, rfl, _, _, rfl, _, _, rfl, rfl, ?_⟩
      refine ⟨_, _, _, _, rfl, s1.trans (same1 hr'), ?_⟩
      rw [List.take_succ_eq_append_getElem il, sumOf_append, sumOf_cons, show sumOf [] (m : Int) = 0 from rfl, Int.add_zero]
      exact fr_plus f yb.1 yb.2
    · rintro σ G ⟨t, b, v3, v4, rfl, s1, f⟩
      rw [List.length_map, lq, List.take_length] at f
      refine ⟨_, rfl, _, rfl, (by show 2 ≤ sizeLine; decide), fun r hr' => ?_⟩
      exact kq _ r t b (s1.trans (same1 hr')) f upd_same
end
end K13

namespace K13
open PySem PySem.Spec PyProof.Rows L2
/-- what the law tells: stretches of pairs -/
def LTold (K : PySem.W.Frag) (H : Hp) (a : Addr) (told : List (Option Int × W2)) : Prop := ∃ ts : List Addr, SqL K H a (ts.map V.ref) ∧ ts.length = told.length ∧
  ∀ (i : Nat) (t : Addr) (x : Option Int × W2), ts[i]? = some t → told[i]? = some x → ∃ wl, SqT K H t [dv x.1, .ref wl] ∧ PrsAt K H wl x.2
theorem LTold.mono {K : PySem.W.Frag} {H H' : Hp} {a : Addr} {told : List (Option Int × W2)} (h : LTold K H a told) (s : Same H H') : LTold K H' a told := by
  obtain ⟨ts, x, y, z⟩ := h
  refine ⟨ts, s.seq x, y, fun i t w a b => ?_⟩
  obtain ⟨wl, p, q⟩ := z i t w a b
  exact ⟨wl, Same.tup s p, q.mono s⟩
def spLOn (K : PySem.W.Frag) : Sp := fun vs H Q _ => ∃ (a : Addr) (day : Int) (told : List (Option Int × W2)), vs = [.ref a, .int day] ∧ LTold K H a told ∧ Told told ∧ 0 ≤ day ∧
  ∀ (q : Addr) (y : Int × Int), onV told day = some y → SqT K H q [.int y.1, .int y.2] → Q (.ref q) H
section
variable {P : Program} {w : World} {K : PySem.W.Frag} {mg : Str → Option Value} {base : Heap}
theorem scLOn : FnScope ["told", "day", "days", "word"] ["told", "day"] (defScope d_law_on) := ⟨rfl, rfl, rfl, by decide +kernel, rfl, by decide +kernel, by decide +kernel⟩
theorem ok_lon {f : Addr} {fd : FuncData} (F : Fun K "_law_on" "_law_on" d_law_on f fd) (B : TxtB mg) : FnOk P w K mg base CX0 1 f fd ["told", "day"] (spLOn K) := by
  refine F.ok scLOn (fun vs H Q E h => ?_) (fun cdv A outer s H vs Q E hr h => ?_)
  · obtain ⟨a, _, _, rfl, _⟩ := h
    rfl
  · obtain ⟨a, day, told, rfl, ⟨ts, ha, lt, hst⟩, ok, d0, kq⟩ := h
    refine ⟨_, pss_cons (ps_for PassesOwn.never rfl (pi_list (pv 0)) (pg_tup (by rfl) (pgs_cons (pg_name (i := 2) scLOn.nd rfl (.inl rfl)) (pgs_cons (pg_name (i := 3) scLOn.nd rfl (.inl rfl)) pgs_nil)))
        (pss_cons (ps_if (PW.pt (pw_or (pt_cmp (pc_isN (pv 2))) (pw_or1 (pt_cmpR op_lt (pv 1) (pv 2) (nomark _)))))
          (pss_one (ps_ret (pe_ix ix_list (pv 3) (pe_op op_mod (pv 1) (pe_callB call_len_seq (by rfl) B.len PySem.boot_len (pa_cons (pv 3) pa_nil))) (fun _ _ => rfl)))) pss_nil)
        (pss_one (ps_set (i := 1) scLOn.nd rfl (Or.inl rfl) (pe_op op_sub (pv 1) (pv 2))))))
      (pss_one (ps_ret (pe_tup (pa_cons pe_int (pa_cons pe_int pa_nil))))), ?_⟩
    refine ⟨_, rfl, a, rfl, ⟨_, ha⟩, for_list (K := K) (a := a) (xs := ts.map V.ref) (fun i σ G => ∃ (dy : Int) (v2 v3 : Option V), σ = [some (.ref a), some (.int dy), v2, v3] ∧ G = H ∧ i < told.length ∧ 0 ≤ dy ∧ onV (told.drop i) dy = onV told day) ⟨day, _, _, rfl, rfl, ok.pos, d0, rfl⟩ ?_ ?_ ?_⟩
    · rintro i σ G _ ⟨_, _, _, _, e, _⟩
      rw [e]
      exact ha
    · rintro i x σ G hx ⟨dy, v2, v3, rfl, eG, il, y0, eq⟩
      have eG := eG.symm
      subst eG
      rw [List.getElem?_map] at hx
      obtain ⟨t, ht, rfl⟩ := Option.map_eq_some_iff.mp hx
      obtain ⟨⟨d, ws⟩, hxi⟩ : ∃ x, told[i]? = some x := ⟨_, List.getElem?_eq_getElem il⟩
      obtain ⟨wl, q1, qs, h1, h2, h3⟩ := hst i t _ ht hxi
      have l1 := (ok.word i _ hxi).1
      have l1 : 1 ≤ ws.length := l1
      have h2 : qs.length = ws.length := h2
      have ob := ok.open_ i _ hxi
      have dn := fun n e => ok.days i _ n hxi e
      have dr : told.drop i = (d, ws) :: told.drop (i + 1) := by
        rw [List.drop_eq_getElem_cons il, Option.some.inj ((List.getElem?_eq_getElem il).symm.trans hxi)]
      rw [dr] at eq
      have lp : (qs.map V.ref).length = ws.length := by rw [List.length_map, h2]
      have n0 := Int.emod_nonneg dy (show (ws.length : Int) ≠ 0 by omega)
      have n1 := Int.emod_lt_of_pos dy (show (0 : Int) < (ws.length : Int) by omega)
      have hk : (dy % (ws.length : Int)).toNat < ws.length := by omega
      have hk' : (dy % (ws.length : Int)).toNat < qs.length := by omega
      have ret : onV told day = ws[(dy % (ws.length : Int)).toNat]? → Q (.ref (qs[(dy % (ws.length : Int)).toNat])) H := fun e =>
        kq _ _ (e.trans (List.getElem?_eq_getElem hk)) (h3 _ _ _ (List.getElem?_eq_getElem hk') (List.getElem?_eq_getElem hk))
      refine ⟨t, _, rfl, q1, rfl, _, _, rfl, _, _, rfl, rfl, ?_⟩
      refine ⟨_, rfl, _, rfl, if_stop (d := d) (fun e => ?_) (fun n e => ?_)⟩
      · subst e
        refine iteT ⟨_, rfl, _, rfl, _, rfl, wl, _, rfl, .inl h1, _, _, rfl, rfl, (by rw [lp]; omega), ?_⟩
        rw [lp]
        exact ⟨wl, _, _, .ref (qs[(dy % (ws.length : Int)).toNat]), rfl, rfl, h1, at_k n0 (by rw [List.getElem?_map, List.getElem?_eq_getElem hk']; rfl), ret eq.symm⟩
      · subst e
        refine ⟨_, rfl, _, rfl, _, _, rfl, rfl, _, rfl, ?_⟩
        have e2 : onV ((some n, ws) :: told.drop (i + 1)) dy = if dy < n then ws[(dy % (ws.length : Int)).toNat]? else onV (told.drop (i + 1)) (dy - n) := rfl
        rw [e2] at eq
        refine ite2 (fun h => ?_) (fun h => ?_)
        · rw [if_pos (of_decide_eq_true h)] at eq
          refine ⟨_, rfl, _, rfl, _, rfl, wl, _, rfl, .inl h1, _, _, rfl, rfl, (by rw [lp]; omega), ?_⟩
          rw [lp]
          exact ⟨wl, _, _, .ref (qs[(dy % (ws.length : Int)).toNat]), rfl, rfl, h1, at_k n0 (by rw [List.getElem?_map, List.getElem?_eq_getElem hk']; rfl), ret eq.symm⟩
        · have h : ¬ dy < n := fun z => h (decide_eq_true z)
          rw [if_neg h] at eq
          have i1 : i + 1 < told.length := by
            have : i + 1 ≠ told.length := fun z => nomatch (ob.mpr z)
            omega
          exact ⟨_, rfl, _, rfl, _, _, rfl, rfl, dy - n, _, _, rfl, rfl, i1, by omega, eq⟩
    · rintro σ G ⟨_, _, _, _, _, il, _⟩
      rw [List.length_map, lt] at il
      exact absurd il (Nat.lt_irrefl _)
end
end K13

namespace K13
open PySem PySem.Spec PyProof.Rows L2
theorem But.trans {p : Addr} {H H1 H2 : Hp} (a : But p H H1) (b : But p H1 H2) : But p H H2 := fun c o h e => b c o h (a c o h e)
theorem same_but {p : Addr} {H H' : Hp} (s : Same H H') : But p H H' := fun b o _ e => s b o e
theorem WellAt.same {H H' : Hp} {p : Addr} {z : Int} (h : WellAt H p z) (s : Same H H') : WellAt H' p z := by
  obtain ⟨x, y, e, a, b⟩ := h
  exact ⟨x, y, s _ _ e, a, b⟩
/-- pairs as the law draws them -/
def POkN (k : Nat) (y : Int × Int) : Prop := 0 < y.2 ∧ y.2.natAbs ∣ 6 ∧ y.1.natAbs < 2 ^ k ∧ Nat.gcd y.1.natAbs y.2.natAbs = 1
abbrev POk := POkN 20
theorem POkN.up {j k : Nat} {y : Int × Int} (h : POkN j y) (e : j ≤ k) : POkN k y := ⟨h.1, h.2.1, Nat.lt_of_lt_of_le h.2.2.1 (Nat.pow_le_pow_right (by decide) e), h.2.2.2⟩
theorem low_ok {k : Nat} {t b : Int} (b1 : 1 ≤ b) (b3 : b ≤ 3) (ht : t.natAbs < 2 ^ k) : POkN k (lowT t b, lowB t b) := by
  have b0 : b ≠ 0 := by omega
  have hb := lowB_mul t b
  have hd : lowB t b ∣ b := ⟨sg t b, hb.symm⟩
  have h6 : b ∣ 6 := by
    have : b = 1 ∨ b = 2 ∨ b = 3 := by omega
    rcases this with h | h | h <;> subst h <;> decide
  refine ⟨lowB_pos b0, ?_, Nat.lt_of_le_of_lt (lowT_le b0) ht, low_coprime b0⟩
  exact Int.natAbs_dvd_natAbs.mpr (Int.dvd_trans hd h6)
/-- pairs in a list of our own -/
def PrsL (H : Hp) (l : Addr) (ws : W2) : Prop := ∃ qs : List Addr, H l = some (.lst (qs.map V.ref)) ∧ qs.length = ws.length ∧ ∀ (j : Nat) (q : Addr) (y : Int × Int), qs[j]? = some q → ws[j]? = some y → H q = some (.tup [.int y.1, .int y.2])
theorem PrsL.at_ {K : PySem.W.Frag} {H : Hp} {l : Addr} {ws : W2} (h : PrsL H l ws) : PrsAt K H l ws := by
  obtain ⟨qs, a, b, c⟩ := h
  exact ⟨qs, SqL.of a, b, fun j q y h1 h2 => SqT.of (c j q y h1 h2)⟩
def spLWord : Sp := fun vs H Q _ => ∃ (p : Addr) (z most far : Int), vs = [.ref p, .int most, .int far] ∧ WellAt H p z ∧ 0 ≤ z ∧ z < 2 ^ 29 ∧ 0 < most ∧ most ≤ 60 ∧ 0 ≤ far ∧ far ≤ 1 ∧
  ∀ (H' : Hp) (l : Addr) (ws : W2) (z' : Int), But p H H' → H l = none → l ≠ p → WellAt H' p z' → 0 ≤ z' → z' ≤ z + 200 → PrsL H' l ws → 1 ≤ ws.length → (ws.length : Int) ≤ most → (∀ y ∈ ws, POkN 10 y) → Q (.ref l) H'
section
variable {P : Program} {w : World} {K : PySem.W.Frag} {mg : Str → Option Value} {base : Heap}
abbrev lwordN : List Str := ["well", "most", "far", "bottom", "top", "k"]
theorem scLWord : FnScope lwordN ["well", "most", "far"] (defScope d_law_word) := ⟨rfl, rfl, rfl, by decide +kernel, rfl, by decide +kernel, by decide +kernel⟩
theorem ok_lword {f fD fO fL : Addr} {fd fdD fdO fdL : FuncData} (F : Fun K "_law_word" "_law_word" d_law_word f fd) (hrange : mg "range" = none)
    (GD : FnOk P w K mg base CX0 1 fD fdD ["well", "many"] spDraw) (mD : mg "_law_draw" = some (.ref fD)) (kD : PySem.W.keepIn K (.ref fD) = true) (bD : Binds K fdD ["well", "many"] [])
    (GO : FnOk P w K mg base CX0 2 fO fdO ["well", "some"] (spOne K)) (mO : mg "_law_one" = some (.ref fO)) (kO : PySem.W.keepIn K (.ref fO) = true) (bO : Binds K fdO ["well", "some"] [])
    (GL : FnOk P w K mg base CX0 1 fL fdL ["top", "bottom"] spLow) (mL : mg "_law_low" = some (.ref fL)) (kL : PySem.W.keepIn K (.ref fL) = true) (bL : Binds K fdL ["top", "bottom"] []) :
    FnOk P w K mg base CX0 3 f fd ["well", "most", "far"] spLWord := by
  refine F.ok scLWord (fun vs H Q E h => ?_) (fun cdv A outer s H vs Q E hr h => ?_)
  · obtain ⟨p, z, most, far, rfl, _⟩ := h
    rfl
  · obtain ⟨p, z, most, far, rfl, hp, z0, z1, m0, m1, f0, f1, kq⟩ := h
    have r1 : Room 1 _ := hr.mono (by decide)
    refine ⟨_, pss_cons (ps_set (i := 3) scLWord.nd rfl (by first | exact Or.inl rfl | exact Or.inr rfl) (pe_op op_add pe_int (pe_call GD r1 rfl mD kD bD .nil pass0 (pa_cons (pv 0) (pa_cons (pe_call GO hr rfl mO kO bO .nil pass0 (pa_cons (pv 0) (pa_cons (pe_lst (pa_cons pe_int (pa_cons pe_int (pa_cons pe_int pa_nil)))) pa_nil))) pa_nil)))))
      (pss_cons (ps_set (i := 4) scLWord.nd rfl (by first | exact Or.inl rfl | exact Or.inr rfl) (pe_call GO hr rfl mO kO bO .nil pass0 (pa_cons (pv 0) (pa_cons (pe_lst (pa_cons pe_int (pa_cons pe_int (pa_cons pe_int pa_nil)))) pa_nil))))
      (pss_one (ps_ret (pe_lc (own := [("k", 5)]) (g := gName 5) (by rfl) scLWord.nd (pi_range1 (by rfl) hrange (pa_cons (pe_op op_add pe_int (pe_call GD r1 rfl mD kD bD .nil pass0 (pa_cons (pv 0) (pa_cons (pv 1) pa_nil)))) pa_nil)) (blkOk_by (own := [("k", 5)]) (N := lwordN) (sc := defScope d_law_word) (by decide +kernel)) (fun _ _ _ _ _ => pg_name (i := 5) scLWord.nd rfl (.inl rfl)) (fun _ _ _ _ _ => pts_nil)
        (fun _ _ _ _ _ => pe_call GL r1 rfl mL kL bL .nil pass0 (pa_cons (pe_op op_sub (pe_call GD r1 rfl mD kD bD .nil pass0 (pa_cons (pv 0) (pa_cons (pv 4) pa_nil))) (pe_op op_mul (pv 2) (pe_call GD r1 rfl mD kD bD .nil pass0 (pa_cons (pv 0) (pa_cons pe_int pa_nil))))) (pa_cons (pv 3) pa_nil))))))), ?_⟩
    have np : ∀ {G : Hp} {q : Addr} {zz : Int}, WellAt G p zz → G q = none → q ≠ p := fun {G q zz} h hq e => by
      obtain ⟨_, _, e1, _⟩ := h
      rw [e, e1] at hq
      cases hq
    refine ⟨_, rfl, _, rfl, (by show 3 ≤ sizeLine; decide), fun q hq => ?_⟩
    have b1 : But p H (upd H q (.lst [.int 1, .int 1, .int 3])) := same_but (same1 hq)
    refine ⟨p, q, _, z, rfl, hp.same (same1 hq), z0, by omega, upd_same, np hp hq, (by show 0 < 3; decide), (by show 3 < 1000; decide), fun H1 za x bt1 w1 a0 a1 hx => ?_⟩
    obtain ⟨m, rfl, hm⟩ : ∃ m : Int, x = .int m ∧ (m = 1 ∨ m = 3) := by
      have hx : x ∈ [V.int 1, .int 1, .int 3] := hx
      simp only [List.mem_cons, List.not_mem_nil, or_false] at hx
      rcases hx with h | h | h
      · exact ⟨1, h, .inl rfl⟩
      · exact ⟨1, h, .inl rfl⟩
      · exact ⟨3, h, .inr rfl⟩
    refine ⟨p, m, za, rfl, w1, by omega, by omega, a0, by omega, fun H2 d zb bt2 w2 c0 c1 d0 d1 => ?_⟩
    refine ⟨_, _, rfl, rfl, ?_⟩
    have bb : 1 ≤ 1 + d ∧ 1 + d ≤ 3 := by omega
    refine ⟨_, rfl, (by show 3 ≤ sizeLine; decide), fun q2 hq2 => ?_⟩
    have b3 : But p H2 (upd H2 q2 (.lst [.int 2, .int 3, .int 7])) := same_but (same1 hq2)
    refine ⟨p, q2, _, zb, rfl, w2.same (same1 hq2), c0, by omega, upd_same, np w2 hq2, (by show 0 < 3; decide), (by show 3 < 1000; decide), fun H3 zc x2 bt3 w3 e0 e1 hx2 => ?_⟩
    obtain ⟨tp, rfl, htp⟩ : ∃ m : Int, x2 = .int m ∧ 0 < m ∧ m ≤ 7 := by
      have hx2 : x2 ∈ [V.int 2, .int 3, .int 7] := hx2
      simp only [List.mem_cons, List.not_mem_nil, or_false] at hx2
      rcases hx2 with h | h | h
      · exact ⟨2, h, by decide, by decide⟩
      · exact ⟨3, h, by decide, by decide⟩
      · exact ⟨7, h, by decide, by decide⟩
    refine ⟨_, rfl, _, rfl, p, most, zc, rfl, w3, m0, by omega, e0, by omega, fun H4 dm zd bt4 w4 g0 g1 h0 h1 => ?_⟩
    refine ⟨_, _, rfl, rfl, _, rfl, by omega, by omega, fun D hD => ?_⟩
    have Dp := np w4 hD
    have B4 : But p H H4 := (b1.trans bt1).trans (bt2.trans (b3.trans (bt3.trans bt4)))
    refine lc_range (lo := 0) (n := (1 + dm).toNat) (fun i M => ∃ (qs : List Addr) (ws : W2) (zz : Int), M D = some (.lst (qs.map V.ref)) ∧ qs.length = i ∧ ws.length = i ∧ (∀ (j : Nat) (q : Addr) (y : Int × Int), qs[j]? = some q → ws[j]? = some y → M q = some (.tup [.int y.1, .int y.2])) ∧
      (∀ y ∈ ws, POkN 10 y) ∧ WellAt M p zz ∧ 0 ≤ zz ∧ zz ≤ zd + 2 * (i : Int) ∧ But p H4 M) ?_ ?_ ?_
    · exact ⟨[], [], zd, upd_same, rfl, rfl, (fun j q y h _ => by simp at h), (fun y h => nomatch h), w4.same (same1 hD), g0, by omega, same_but (same1 hD)⟩
    · rintro i M hi ⟨qs, ws, zz, eD, lq, lw, hqs, hws, wz, k0, k1, bM⟩
      refine ⟨rfl, ?_⟩
      refine ⟨_, rfl, _, rfl, p, tp, zz, rfl, wz, by omega, by omega, k0, by omega, fun M1 da z2 bA wA n0 n1 da0 da1 => ?_⟩
      refine ⟨_, rfl, _, rfl, p, 3, z2, rfl, wA, by decide, by decide, n0, by omega, fun M2 db z3 bB wB o0 o1 db0 db1 => ?_⟩
      refine ⟨_, _, rfl, rfl, .inl ⟨by omega, by omega⟩, _, _, rfl, rfl, _, rfl, ?_⟩
      have fd : 0 ≤ far * db ∧ far * db ≤ 3 := by
        have : far = 0 ∨ far = 1 := by omega
        rcases this with h | h <;> subst h <;> omega
      have tb : (da - far * db).natAbs < 2 ^ 10 := by omega
      refine ⟨_, 1 + d, rfl, by omega, pow_le tb (by decide), Nat.lt_of_lt_of_le (show (1 + d).natAbs < 2 ^ 20 by omega) (Nat.pow_le_pow_right (by decide) (by decide)), fun q hq => ?_⟩
      have bM2 : But p M M2 := bA.trans bB
      have eD2 : M2 D = some (.lst (qs.map V.ref)) := bM2 _ _ Dp eD
      have Dq : D ≠ q := fun e => by rw [← e, eD2] at hq; cases hq
      have pq := np wB hq
      refine ⟨_, by rw [upd_ne Dq]; exact eD2, (by rw [List.length_map, lq]; exact Nat.lt_of_lt_of_le hi (Nat.le_trans (show (1 + dm).toNat ≤ 60 by omega) (show 60 ≤ sizeLine by decide))), ?_⟩
      refine ⟨qs ++ [q], ws ++ [(lowT (da - far * db) (1 + d), lowB (da - far * db) (1 + d))], z3, by rw [List.map_append]; exact upd_same, by rw [List.length_append, lq]; rfl, by rw [List.length_append, lw]; rfl, fun j q' y h1' h2' => ?_, fun y hy => ?_, ?_, o0, by omega, fun b o hb e => ?_⟩
      · by_cases c : j < qs.length
        · rw [List.getElem?_append_left c] at h1'
          rw [List.getElem?_append_left (by omega)] at h2'
          have e := hqs j q' y h1' h2'
          have qp : q' ≠ p := fun e' => by
            obtain ⟨_, _, e1, _⟩ := wz
            rw [e', e1] at e
            cases e
          have e2 := bM2 _ _ qp e
          rw [upd_ne (fun e' => by rw [e', eD] at e; cases e), upd_ne (ne_of_none e2 hq)]
          exact e2
        · rw [List.getElem?_append_right (by omega)] at h1' h2'
          have c0 : j - qs.length = 0 := by
            have := (List.getElem?_eq_some_iff.mp h1').1
            simp at this
            omega
          rw [c0] at h1'
          rw [show j - ws.length = 0 from by omega] at h2'
          have e1 : q = q' := by simpa using h1'
          have e2 : (lowT (da - far * db) (1 + d), lowB (da - far * db) (1 + d)) = y := by simpa using h2'
          subst e1 e2
          rw [upd_ne (Ne.symm Dq), upd_same]
      · rcases List.mem_append.mp hy with h | h
        · exact hws y h
        · have e : y = (lowT (da - far * db) (1 + d), lowB (da - far * db) (1 + d)) := by simpa using h
          rw [e]
          exact low_ok bb.1 bb.2 tb
      · obtain ⟨x', y', e, u, v⟩ := wB
        exact ⟨x', y', by rw [upd_ne (Ne.symm Dp), upd_ne (Ne.symm pq)]; exact e, u, v⟩
      · have e3 := bM2 _ _ hb (bM _ _ hb e)
        rw [upd_ne (ne_of_none e hD), upd_ne (ne_of_none e3 hq)]
        exact e3
    · rintro M ⟨qs, ws, zz, eD, lq, lw, hqs, hws, wz, k0, k1, bM⟩
      refine kq M D ws zz (B4.trans bM) ?_ Dp wz k0 (by omega) ⟨qs, eD, by omega, hqs⟩ (by omega) (by omega) hws
      cases e : H D with
      | none => rfl
      | some o =>
        have := B4 D o Dp e
        rw [hD] at this
        cases this
end
end K13

namespace K13
open PySem PySem.Spec PyProof.Rows L2
/-! ### what is drawn, beside a well and other lists that may change -/
/-- some list of our own stands at p -/
def LstAt (H : Hp) (p : Addr) : Prop := ∃ xs, H p = some (.lst xs)
theorem WellAt.lst {H : Hp} {p : Addr} {z : Int} (h : WellAt H p z) : LstAt H p := by
  obtain ⟨x, y, e, _⟩ := h
  exact ⟨_, e⟩
/-- all but what N tells stays; what N tells are lists -/
structure ButN (N : Addr → Prop) (H H' : Hp) : Prop where
  lst : ∀ q, N q → LstAt H q
  keep : ∀ b o, ¬ N b → H b = some o → H' b = some o
theorem ButN.ne {N : Addr → Prop} {H H' : Hp} (h : ButN N H H') {q : Addr} {o : HO} (e : H q = some o) (n : ∀ xs, o ≠ .lst xs) : ¬ N q := fun z => by
  obtain ⟨xs, e2⟩ := h.lst q z
  rw [e] at e2
  exact n xs (Option.some.inj e2)
theorem ButN.tup {N : Addr → Prop} {H H' : Hp} (h : ButN N H H') {q : Addr} {xs : List V} (e : H q = some (.tup xs)) : H' q = some (.tup xs) := h.keep q _ (h.ne e (fun _ z => nomatch z)) e
theorem ButN.same {N : Addr → Prop} {H H' : Hp} (l : ∀ q, N q → LstAt H q) (s : Same H H') : ButN N H H' := ⟨l, fun b o _ e => s b o e⟩
theorem ButN.but {N : Addr → Prop} {p : Addr} {H H' : Hp} (l : ∀ q, N q → LstAt H q) (n : N p) (b : But p H H') : ButN N H H' := ⟨l, fun q o h e => b q o (fun z => h (by rw [z]; exact n)) e⟩
theorem ButN.put {N : Addr → Prop} {p : Addr} {H : Hp} {o : HO} (l : ∀ q, N q → LstAt H q) (n : N p) : ButN N H (upd H p o) := ⟨l, fun q u h e => by rw [upd_ne (fun z => h (by rw [z]; exact n))]; exact e⟩
theorem ButN.trans {N : Addr → Prop} {H H1 H2 : Hp} (a : ButN N H H1) (b : ButN N H1 H2) : ButN N H H2 := ⟨a.lst, fun q o n e => b.keep q o n (a.keep q o n e)⟩
/-- a pair at q -/
def PrAt (H : Hp) (q : Addr) (y : Int × Int) : Prop := H q = some (.tup [.int y.1, .int y.2])
/-- pairs in a list of our own, which N doesn't tell -/
def PrsN (N : Addr → Prop) (H : Hp) (l : Addr) (ws : W2) : Prop := ¬ N l ∧ ∃ qs : List Addr, H l = some (.lst (qs.map V.ref)) ∧ All2 (PrAt H) qs ws
theorem PrsN.but {N : Addr → Prop} {H H' : Hp} {l : Addr} {ws : W2} (h : PrsN N H l ws) (b : ButN N H H') : PrsN N H' l ws := by
  obtain ⟨n, qs, e, a⟩ := h
  exact ⟨n, qs, b.keep _ _ n e, a.mono fun q y _ _ r => b.tup r⟩
theorem PrsN.at_ {K : PySem.W.Frag} {N : Addr → Prop} {H : Hp} {l : Addr} {ws : W2} (h : PrsN N H l ws) : PrsAt K H l ws := by
  obtain ⟨n, qs, e, a⟩ := h
  exact ⟨qs, SqL.of e, a.len, fun j q y h1 h2 => SqT.of (a.all j q y h1 h2)⟩
theorem PrsL.prsN {N : Addr → Prop} {H : Hp} {l : Addr} {ws : W2} (h : PrsL H l ws) (n : ¬ N l) : PrsN N H l ws := by
  obtain ⟨qs, e, a, b⟩ := h
  exact ⟨n, qs, e, ⟨a, fun i q y h1 h2 => b i q y h1 h2⟩⟩
theorem PrsN.less {N N' : Addr → Prop} {H : Hp} {l : Addr} {ws : W2} (h : PrsN N H l ws) (f : ∀ q, N' q → N q) : PrsN N' H l ws := ⟨fun z => h.1 (f _ z), h.2⟩
/-- a stretch at t -/
def StN (N : Addr → Prop) (H : Hp) (t : Addr) (x : Option Int × W2) : Prop := ∃ wl, H t = some (.tup [dv x.1, .ref wl]) ∧ PrsN N H wl x.2
theorem StN.but {N : Addr → Prop} {H H' : Hp} {t : Addr} {x : Option Int × W2} (h : StN N H t x) (b : ButN N H H') : StN N H' t x := by
  obtain ⟨wl, e, a⟩ := h
  exact ⟨wl, b.tup e, a.but b⟩
theorem StN.less {N N' : Addr → Prop} {H : Hp} {t : Addr} {x : Option Int × W2} (h : StN N H t x) (f : ∀ q, N' q → N q) : StN N' H t x := by
  obtain ⟨wl, e, a⟩ := h
  exact ⟨wl, e, a.less f⟩
/-- stretches in a list at l -/
def TolL (N : Addr → Prop) (H : Hp) (l : Addr) (told : List (Option Int × W2)) : Prop := ∃ ts : List Addr, H l = some (.lst (ts.map V.ref)) ∧ All2 (StN N H) ts told
def TolN (N : Addr → Prop) (H : Hp) (l : Addr) (told : List (Option Int × W2)) : Prop := ¬ N l ∧ TolL N H l told
theorem TolN.but {N : Addr → Prop} {H H' : Hp} {l : Addr} {told : List (Option Int × W2)} (h : TolN N H l told) (b : ButN N H H') : TolN N H' l told := by
  obtain ⟨n, ts, e, a⟩ := h
  exact ⟨n, ts, b.keep _ _ n e, a.mono fun t x _ _ r => r.but b⟩
theorem TolL.at_ {K : PySem.W.Frag} {N : Addr → Prop} {H : Hp} {l : Addr} {told : List (Option Int × W2)} (h : TolL N H l told) : LTold K H l told := by
  obtain ⟨ts, e, a⟩ := h
  refine ⟨ts, SqL.of e, a.len, fun i t x h1 h2 => ?_⟩
  obtain ⟨wl, e2, r⟩ := a.all i t x h1 h2
  exact ⟨wl, SqT.of e2, r.at_⟩
/-- stretches as the law has them: at most n of them, words of at most k shares, tops below 2 ^ e -/
structure DT (n k e : Nat) (told : List (Option Int × W2)) : Prop where
  ok : Told told
  few : told.length ≤ n
  len : ∀ x ∈ told, x.2.length ≤ k
  prs : ∀ x ∈ told, ∀ y ∈ x.2, POkN e y
  far : ∀ x ∈ told, ∀ n, x.1 = some n → n ≤ 2 ^ 41
structure DHead (k : Nat) (told : List (Option Int × W2)) : Prop where
  word : ∀ x ∈ told, 1 ≤ x.2.length ∧ x.2.length ≤ k
  prs : ∀ x ∈ told, ∀ y ∈ x.2, POkN 10 y
  far : ∀ x ∈ told, ∃ n, x.1 = some n ∧ 1 ≤ n ∧ n ≤ 2 ^ 41
theorem DHead.nil {k : Nat} : DHead k [] := ⟨(fun _ h => nomatch h), (fun _ h => nomatch h), (fun _ h => nomatch h)⟩
theorem DHead.snoc {k : Nat} {told : List (Option Int × W2)} {n : Int} {ws : W2} (h : DHead k told) (n1 : 1 ≤ n) (n2 : n ≤ 2 ^ 41) (l1 : 1 ≤ ws.length) (l2 : ws.length ≤ k) (hp : ∀ y ∈ ws, POkN 10 y) : DHead k (told ++ [(some n, ws)]) := by
  have cs : ∀ {Pr : Option Int × W2 → Prop}, (∀ x ∈ told, Pr x) → Pr (some n, ws) → ∀ x ∈ told ++ [(some n, ws)], Pr x := fun a b x hx => by
    rcases List.mem_append.mp hx with z | z
    · exact a x z
    · rw [List.mem_singleton.mp z]
      exact b
  exact ⟨cs h.word ⟨l1, l2⟩, cs h.prs hp, cs h.far ⟨n, rfl, n1, n2⟩⟩
/-- heads with an end, and one without -/
theorem told_of {k : Nat} {told : List (Option Int × W2)} {ws : W2} (hw : ∀ x ∈ told, 1 ≤ x.2.length ∧ x.2.length ≤ k) (hf : ∀ x ∈ told, ∃ n, x.1 = some n ∧ 1 ≤ n) (few : told.length ≤ 59) (k60 : k ≤ 60) (l1 : 1 ≤ ws.length) (l2 : ws.length ≤ k) : Told (told ++ [(none, ws)]) := by
  have cs : ∀ {Pr : Option Int × W2 → Prop}, (∀ x ∈ told, Pr x) → Pr (none, ws) → ∀ x ∈ told ++ [(none, ws)], Pr x := fun a b x hx => by
    rcases List.mem_append.mp hx with z | z
    · exact a x z
    · rw [List.mem_singleton.mp z]
      exact b
  have le : (told ++ [((none : Option Int), ws)]).length = told.length + 1 := by rw [List.length_append]; rfl
  refine ⟨by rw [le]; omega, by rw [le]; omega, fun i x hx => ?_, fun i x hx => ?_, fun i x n hx e => ?_⟩
  · have := cs (Pr := fun x => 1 ≤ x.2.length ∧ x.2.length ≤ k) hw ⟨l1, l2⟩ x (List.mem_of_getElem? hx)
    omega
  · rw [le]
    by_cases c : i < told.length
    · rw [List.getElem?_append_left c] at hx
      obtain ⟨n, e, _⟩ := hf x (List.mem_of_getElem? hx)
      rw [e]
      exact ⟨(fun z => nomatch z), fun z => absurd z (by omega)⟩
    · have il := (List.getElem?_eq_some_iff.mp hx).1
      rw [le] at il
      have ei : i = told.length := by omega
      subst ei
      rw [List.getElem?_append_right (Nat.le_refl _), Nat.sub_self] at hx
      have : (none, ws) = x := by simpa using hx
      subst this
      exact ⟨fun _ => rfl, fun _ => rfl⟩
  · rcases List.mem_append.mp (List.mem_of_getElem? hx) with z | z
    · obtain ⟨m, e1, m1⟩ := hf x z
      rw [e] at e1
      cases e1
      exact m1
    · rw [List.mem_singleton.mp z] at e
      cases e
theorem DHead.told {n k : Nat} {told : List (Option Int × W2)} {ws : W2} (h : DHead k told) (few : told.length + 1 ≤ n) (n60 : n ≤ 60) (k60 : k ≤ 60) (l1 : 1 ≤ ws.length) (l2 : ws.length ≤ k) (hp : ∀ y ∈ ws, POkN 10 y) : DT n k 10 (told ++ [(none, ws)]) := by
  have cs : ∀ {Pr : Option Int × W2 → Prop}, (∀ x ∈ told, Pr x) → Pr (none, ws) → ∀ x ∈ told ++ [(none, ws)], Pr x := fun a b x hx => by
    rcases List.mem_append.mp hx with z | z
    · exact a x z
    · rw [List.mem_singleton.mp z]
      exact b
  refine ⟨told_of h.word (fun x hx => ?_) (by omega) k60 l1 l2, by rw [List.length_append]; exact few, cs (fun x hx => (h.word x hx).2) l2, cs h.prs hp, cs (fun x hx n e => ?_) (fun n e => nomatch e)⟩
  · obtain ⟨n, a, b, _⟩ := h.far x hx
    exact ⟨n, a, b⟩
  · obtain ⟨m, e1, _, m2⟩ := h.far x hx
    rw [e] at e1
    cases e1
    exact m2
def spLStr : Sp := fun vs H Q _ => ∃ (p : Addr) (z most word long far : Int), vs = [.ref p, .int most, .int word, .int long, .int far] ∧ WellAt H p z ∧ 0 ≤ z ∧ z < 2 ^ 28 ∧ 0 < most ∧ most ≤ 60 ∧ 0 < word ∧ word ≤ 60 ∧ 0 < long ∧ long ≤ 1000000000000 ∧ 0 ≤ far ∧ far ≤ 1 ∧
  ∀ (H' : Hp) (l : Addr) (told : List (Option Int × W2)) (z' : Int), But p H H' → H l = none → WellAt H' p z' → 0 ≤ z' → z' ≤ z + 20000 → TolN (· = p) H' l told → DT most.toNat word.toNat 10 told → Q (.ref l) H'
section
variable {P : Program} {w : World} {K : PySem.W.Frag} {mg : Str → Option Value} {base : Heap}
abbrev lstrN : List Str := ["well", "most", "word", "long", "far", "found", "k"]
theorem scLStr : FnScope lstrN ["well", "most", "word", "long", "far"] (defScope d_law_stretches) := ⟨rfl, rfl, rfl, by decide +kernel, rfl, by decide +kernel, by decide +kernel⟩
theorem ok_lstr {f fD fW : Addr} {fd fdD fdW : FuncData} (F : Fun K "_law_stretches" "_law_stretches" d_law_stretches f fd) (hrange : mg "range" = none)
    (GD : FnOk P w K mg base CX0 1 fD fdD ["well", "many"] spDraw) (mD : mg "_law_draw" = some (.ref fD)) (kD : PySem.W.keepIn K (.ref fD) = true) (bD : Binds K fdD ["well", "many"] [])
    (GW : FnOk P w K mg base CX0 3 fW fdW ["well", "most", "far"] spLWord) (mW : mg "_law_word" = some (.ref fW)) (kW : PySem.W.keepIn K (.ref fW) = true) (bW : Binds K fdW ["well", "most", "far"] []) :
    FnOk P w K mg base CX0 4 f fd ["well", "most", "word", "long", "far"] spLStr := by
  refine F.ok scLStr (fun vs H Q E h => ?_) (fun cdv A outer s H vs Q E hr h => ?_)
  · obtain ⟨p, z, _, _, _, _, rfl, _⟩ := h
    rfl
  · obtain ⟨p, z, most, word, long, far, rfl, hp, z0, z1, m0, m1, w0, w1, l0, l1, f0, f1, kq⟩ := h
    have r1 : Room 1 _ := hr.mono (by decide)
    refine ⟨_, pss_cons (ps_set (i := 5) scLStr.nd rfl (Or.inl rfl) (pe_lst pa_nil))
      (pss_cons (ps_for PassesOwn.never rfl (pi_range1 (by rfl) hrange (pa_cons (pe_call GD r1 rfl mD kD bD .nil pass0 (pa_cons (pv 0) (pa_cons (pv 1) pa_nil))) pa_nil)) (pg_name (i := 6) scLStr.nd rfl (.inl rfl))
        (pss_one (ps_expr (pe_bm PySem.F.plainAttrs_list PySem.F.slot_list_append PySem.F.type_list_append mt_append (pv 5) (pa_cons (pe_tup (pa_cons (pe_op op_add pe_int (pe_call GD r1 rfl mD kD bD .nil pass0 (pa_cons (pv 0) (pa_cons (pv 3) pa_nil)))) (pa_cons (pe_call GW hr rfl mW kW bW .nil pass0 (pa_cons (pv 0) (pa_cons (pv 2) (pa_cons (pv 4) pa_nil)))) pa_nil))) pa_nil)))))
      (pss_one (ps_ret (pe_op op_cat (pv 5) (pe_lst (pa_cons (pe_tup (pa_cons pe_non (pa_cons (pe_call GW hr rfl mW kW bW .nil pass0 (pa_cons (pv 0) (pa_cons (pv 2) (pa_cons (pv 4) pa_nil)))) pa_nil))) pa_nil)))))), ?_⟩
    refine ⟨(by show 0 ≤ sizeLine; decide), fun F hF => ?_⟩
    have nF : F ≠ p := fun e => by
      obtain ⟨_, _, e1, _⟩ := hp
      rw [← e, hF] at e1
      cases e1
    have b0 : But p H (upd H F (.lst [])) := same_but (same1 hF)
    have hF1 : (upd H F (.lst []) : Hp) F = some (.lst []) := upd_same
    have w1' := hp.same (same1 (o := .lst []) hF)
    generalize upd H F (.lst []) = H0 at *
    refine ⟨_, rfl, _, rfl, p, most, z, rfl, w1', m0, by omega, z0, by omega, fun H1 d za bt wa a0 a1 d0 d1 => ?_⟩
    refine ⟨_, rfl, by omega, by omega, ?_⟩
    have hF2 := bt F _ nF hF1
    refine for_range (lo := 0) (n := d.toNat) (fun i σ G => ∃ (told : List (Option Int × W2)) (zz : Int) (v6 : Option V), σ = [some (.ref p), some (.int most), some (.int word), some (.int long), some (.int far), some (.ref F), v6] ∧
      TolL (fun q => q = p ∨ q = F) G F told ∧ told.length = i ∧ DHead word.toNat told ∧ WellAt G p zz ∧ 0 ≤ zz ∧ zz ≤ za + 201 * (i : Int) ∧ But p H G) ⟨[], za, none, rfl, ⟨[], hF2, .nil⟩, rfl, .nil, wa, a0, by omega, b0.trans bt⟩ ?_ ?_
    · rintro i σ G hi ⟨told, zz, v6, rfl, ⟨ts, eF, hts⟩, lt, dh, wz, y0, y1, bG⟩
      refine ⟨_, rfl, .inl ⟨rfl, _, SqL.of eF⟩, _, rfl, _, rfl, p, long, zz, rfl, wz, l0, by omega, y0, by omega, fun G1 dd z2 bA wA n0 n1 d0' d1' => ?_⟩
      refine ⟨_, _, rfl, rfl, ?_⟩
      refine ⟨_, rfl, _, rfl, _, rfl, p, z2, word, far, rfl, wA, n0, by omega, w0, w1, f0, f1, fun G2 wl ws z3 bB hwl nwl wB o0 o1 pw lw1 lw2 hpw => ?_⟩
      have lst0 : ∀ q, (q = p ∨ q = F) → LstAt G q := fun q h => by
        rcases h with h | h
        · rw [h]; exact wz.lst
        · rw [h]; exact ⟨_, eF⟩
      have eF1 := bA F _ nF eF
      have lst1 : ∀ q, (q = p ∨ q = F) → LstAt G1 q := fun q h => by
        rcases h with h | h
        · rw [h]; exact wA.lst
        · rw [h]; exact ⟨_, eF1⟩
      have eF2 := bB F _ nF eF1
      have lst2 : ∀ q, (q = p ∨ q = F) → LstAt G2 q := fun q h => by
        rcases h with h | h
        · rw [h]; exact wB.lst
        · rw [h]; exact ⟨_, eF2⟩
      have k02 : ButN (fun q => q = p ∨ q = F) G G2 := (ButN.but lst0 (.inl rfl) bA).trans (ButN.but lst1 (.inl rfl) bB)
      have nwF : wl ≠ F := fun e => by rw [e, eF1] at hwl; cases hwl
      have pn : PrsN (fun q => q = p ∨ q = F) G2 wl ws := pw.prsN (fun h => h.elim nwl nwF)
      refine ⟨(by show 2 ≤ sizeLine; decide), fun t ht => ?_⟩
      have s3 : Same G2 (upd G2 t (.tup [.int (1 + dd), .ref wl])) := same1 ht
      have et : (upd G2 t (.tup [.int (1 + dd), .ref wl]) : Hp) t = some (.tup [.int (1 + dd), .ref wl]) := upd_same
      generalize upd G2 t (.tup [.int (1 + dd), .ref wl]) = G3 at *
      have eF3 := s3 _ _ eF2
      have lst3 : ∀ q, (q = p ∨ q = F) → LstAt G3 q := fun q h => by
        obtain ⟨xs, e⟩ := lst2 q h
        exact ⟨xs, s3 _ _ e⟩
      have k23 : ButN (fun q => q = p ∨ q = F) G2 G3 := ButN.same lst2 s3
      refine ⟨F, _, _, rfl, rfl, eF3, (by rw [List.length_map, hts.len, lt]; exact Nat.lt_of_lt_of_le hi (Nat.le_trans (show d.toNat ≤ 60 by omega) (show 60 ≤ sizeLine by decide))), ?_⟩
      have k34 : ButN (fun q => q = p ∨ q = F) G3 (upd G3 F (.lst (ts.map V.ref ++ [.ref t]))) := ButN.put lst3 (.inr rfl)
      refine ⟨told ++ [(some (1 + dd), ws)], z3, _, rfl, ⟨ts ++ [t], by rw [List.map_append]; exact upd_same, ((hts.mono fun t x _ _ r => r.but (k02.trans (k23.trans k34))).snoc ⟨wl, k34.tup et, pn.but (k23.trans k34)⟩)⟩, by rw [List.length_append, lt]; rfl, dh.snoc (by omega) (by omega) lw1 (by omega) hpw, ?_, o0, by omega, fun b o hb e => ?_⟩
      · obtain ⟨x', y', e, u, v⟩ := wB
        exact ⟨x', y', by rw [upd_ne (Ne.symm nF)]; exact s3 _ _ e, u, v⟩
      · rw [upd_ne (ne_of_none e hF)]
        exact s3 _ _ (bB b o hb (bA b o hb (bG b o hb e)))
    · rintro σ G ⟨told, zz, v6, rfl, ⟨ts, eF, hts⟩, lt, dh, wz, y0, y1, bG⟩
      refine ⟨_, rfl, _, rfl, _, rfl, _, rfl, p, zz, word, far, rfl, wz, y0, by omega, w0, w1, f0, f1, fun G2 wl ws z3 bB hwl nwl wB o0 o1 pw lw1 lw2 hpw => ?_⟩
      have lst1 : ∀ q, (q = p ∨ q = F) → LstAt G q := fun q h => by
        rcases h with h | h
        · rw [h]; exact wz.lst
        · rw [h]; exact ⟨_, eF⟩
      have eF2 := bB F _ nF eF
      have k12 : ButN (fun q => q = p ∨ q = F) G G2 := ButN.but lst1 (.inl rfl) bB
      have nwF : wl ≠ F := fun e => by rw [e, eF] at hwl; cases hwl
      have lst2 : ∀ q, (q = p ∨ q = F) → LstAt G2 q := fun q h => by
        rcases h with h | h
        · rw [h]; exact wB.lst
        · rw [h]; exact ⟨_, eF2⟩
      have pn : PrsN (fun q => q = p ∨ q = F) G2 wl ws := pw.prsN (fun h => h.elim nwl nwF)
      refine ⟨(by show 2 ≤ sizeLine; decide), fun t ht => ⟨(by show 1 ≤ sizeLine; decide), fun D hD => ?_⟩⟩
      have s3 : Same G2 (upd G2 t (.tup [.non, .ref wl])) := same1 ht
      have et : (upd G2 t (.tup [.non, .ref wl]) : Hp) t = some (.tup [.non, .ref wl]) := upd_same
      generalize upd G2 t (.tup [.non, .ref wl]) = G3 at *
      have s4 : Same G3 (upd G3 D (.lst [.ref t])) := same1 hD
      have eD : (upd G3 D (.lst [.ref t]) : Hp) D = some (.lst [.ref t]) := upd_same
      generalize upd G3 D (.lst [.ref t]) = G4 at *
      have eF4 := s4 _ _ (s3 _ _ eF2)
      refine ⟨F, D, _, _, rfl, rfl, eF4, eD, (by rw [List.length_map, hts.len, lt]; exact Nat.le_trans (show d.toNat + 1 ≤ 61 by omega) (show 61 ≤ sizeLine by decide)), fun R hR => ?_⟩
      have s5 : Same G4 (upd G4 R (.lst (ts.map V.ref ++ [.ref t]))) := same1 hR
      have eR : (upd G4 R (.lst (ts.map V.ref ++ [.ref t])) : Hp) R = some (.lst (ts.map V.ref ++ [.ref t])) := upd_same
      generalize upd G4 R (.lst (ts.map V.ref ++ [.ref t])) = G5 at *
      have s25 := s3.trans (s4.trans s5)
      have k25 : ButN (fun q => q = p ∨ q = F) G2 G5 := ButN.same lst2 s25
      have all : All2 (StN (fun q => q = p ∨ q = F) G5) (ts ++ [t]) (told ++ [(none, ws)]) := (hts.mono fun t x _ _ r => r.but (k12.trans k25)).snoc ⟨wl, s5 _ _ (s4 _ _ et), pn.but k25⟩
      refine kq G5 R (told ++ [(none, ws)]) z3 (bG.trans (bB.trans (same_but s25))) ?_ (wB.same s25) o0 (by omega) ⟨fun e => (by
        obtain ⟨_, _, e1, _⟩ := wB
        have e2 := s4 _ _ (s3 _ _ e1)
        rw [← e, hR] at e2
        cases e2), ts ++ [t], by rw [List.map_append]; exact eR, all.mono fun t x _ _ r => r.less (fun q h => .inl h)⟩ (dh.told (by omega) (by omega) (by omega) lw1 (by omega) hpw)
      have nR : R ≠ p := fun e => by
        obtain ⟨_, _, e1, _⟩ := wB
        have e2 := s4 _ _ (s3 _ _ e1)
        rw [← e, hR] at e2
        cases e2
      cases e : H R with
      | none => rfl
      | some o =>
        have := s4 _ _ (s3 _ _ (bB _ _ nR (bG _ _ nR e)))
        rw [hR] at this
        cases this
end
end K13

namespace K13
open PySem PySem.Spec PyProof.Rows L2
/-! ### two lists of spans side by side -/
def minO : Option Int → Option Int → Option Int
  | none, b => b
  | a, none => a
  | some x, some y => some (if y < x then y else x)
def spSooner : Sp := fun vs H Q _ => ∃ a b : Option Int, vs = [dv a, dv b] ∧ Q (dv (minO a b)) H
def stopOf (told : List (Option Int × W2)) (i : Nat) : Option Int := match told[i]? with
  | some x => x.1.map fun n => bAt told i + n
  | none => none
/-- a row: its begin, its stop, the numbers of the two spans -/
structure RowV where
  b : Int
  e : Option Int
  h : Nat
  t : Nat
structure AtDay (told : List (Option Int × W2)) (i : Nat) (b : Int) : Prop where
  lt : i < told.length
  from_ : bAt told i ≤ b
  till : ∀ s, stopOf told i = some s → b < s
structure RowOk (A B : List (Option Int × W2)) (r : RowV) : Prop where
  pos : 0 ≤ r.b
  one : AtDay A r.h r.b
  two : AtDay B r.t r.b
  stop : r.e = minO (stopOf A r.h) (stopOf B r.t)
structure RowsOk (A B : List (Option Int × W2)) (rs : List RowV) : Prop where
  row : ∀ r ∈ rs, RowOk A B r
  head : ∀ r, rs[0]? = some r → r.b = 0
  next : ∀ (i : Nat) (r r' : RowV), rs[i]? = some r → rs[i + 1]? = some r' → r.e = some r'.b
def RowAt (K : PySem.W.Frag) (H : Hp) (ss us : List Addr) (q : Addr) (r : RowV) : Prop := ∃ s u, ss[r.h]? = some s ∧ us[r.t]? = some u ∧ SqT K H q [.int r.b, dv r.e, .ref s, .ref u]
theorem RowAt.mono {K : PySem.W.Frag} {H H' : Hp} {ss us : List Addr} {q : Addr} {r : RowV} (h : RowAt K H ss us q r) (s : Same H H') : RowAt K H' ss us q r := by
  obtain ⟨a, b, c, d, e⟩ := h
  exact ⟨a, b, c, d, Same.tup s e⟩
theorem Keep.row {K : PySem.W.Frag} {H H' : Hp} {ss us : List Addr} {q : Addr} {r : RowV} (h : RowAt K H ss us q r) (s : Keep H H') : RowAt K H' ss us q r := by
  obtain ⟨a, b, c, d, e⟩ := h
  exact ⟨a, b, c, d, s.tup e⟩
/-- spans of what is told, in a list -/
structure Spans (K : PySem.W.Frag) (C : Addr) (H : Hp) (l : Addr) (ss : List Addr) (told : List (Option Int × W2)) : Prop where
  l : SqL K H l (ss.map V.ref)
  len : ss.length = told.length
  at_ : ∀ (i : Nat) (s : Addr), ss[i]? = some s → SpanOf K C H told i s
  ok : Told told
theorem Spans.mono {K : PySem.W.Frag} {C : Addr} {H H' : Hp} {l : Addr} {ss : List Addr} {told : List (Option Int × W2)} (h : Spans K C H l ss told) (s : Same H H') : Spans K C H' l ss told :=
  ⟨s.seq h.l, h.len, fun i x hx => (h.at_ i x hx).mono s, h.ok⟩
/-- the span of a number, with its parts -/
theorem Spans.get {K : PySem.W.Frag} {C : Addr} {H : Hp} {l : Addr} {ss : List Addr} {told : List (Option Int × W2)} (h : Spans K C H l ss told) {i : Nat} (hi : i < told.length) :
    ∃ s wa, ss[i]? = some s ∧ (ss.map V.ref)[i]? = some (.ref s) ∧ SqT K H s [.int (bAt told i), dv (stopOf told i), .ref wa] := by
  have hs : i < ss.length := by rw [h.len]; exact hi
  have e : ss[i]? = some ss[i] := List.getElem?_eq_getElem hs
  obtain ⟨x, hx, wa, q, _⟩ := h.at_ i _ e
  refine ⟨ss[i], wa, e, by rw [List.getElem?_map, e]; rfl, ?_⟩
  unfold stopOf
  rw [hx]
  exact q
theorem AtDay.next {told : List (Option Int × W2)} (ok : Told told) {i : Nat} {b s : Int} (h : AtDay told i b) (e : stopOf told i = some s) : AtDay told (i + 1) s := by
  have lt0 := h.lt
  have hx : told[i]? = some told[i] := List.getElem?_eq_getElem lt0
  have e1 := e
  unfold stopOf at e1
  rw [hx] at e1
  obtain ⟨n, en, rfl⟩ := Option.map_eq_some_iff.mp e1
  have lt : i + 1 < told.length := by
    have := (ok.open_ i _ hx)
    have h2 : i + 1 ≠ told.length := fun z => by
      have := this.mpr z
      rw [en] at this
      cases this
    have := h.lt
    omega
  have nx := bAt_next hx
  rw [en] at nx
  refine ⟨lt, by rw [nx]; exact Int.le_refl _, fun s2 e2 => ?_⟩
  have hy : told[i + 1]? = some told[i + 1] := List.getElem?_eq_getElem lt
  unfold stopOf at e2
  rw [hy] at e2
  obtain ⟨m, em, rfl⟩ := Option.map_eq_some_iff.mp e2
  have := ok.days _ _ m hy em
  rw [nx]
  show bAt told i + n < bAt told i + n + m
  omega
theorem dv_eq (a b : Option Int) : decide (dv a = dv b) = decide (a = b) := by
  refine decide_eq_decide.mpr ⟨fun h => ?_, fun h => by rw [h]⟩
  cases a with
  | none => cases b with
    | none => rfl
    | some y => cases h
  | some x => cases b with
    | none => cases h
    | some y =>
      have h : V.int x = V.int y := h
      cases h
      rfl
theorem dv_scal (a b : Option Int) : scal (dv a) (dv b) = true := by cases a <;> cases b <;> rfl
theorem AtDay.stay {told : List (Option Int × W2)} {i : Nat} {b x : Int} (h : AtDay told i b) (l : b ≤ x) (n : ∀ s, stopOf told i = some s → x < s) : AtDay told i x := ⟨h.lt, Int.le_trans h.from_ l, n⟩
def spBeside (K : PySem.W.Frag) (C : Addr) : Sp := fun vs H Q _ => ∃ (a b : Addr) (ss us : List Addr) (A B : List (Option Int × W2)), vs = [.ref a, .ref b] ∧ Spans K C H a ss A ∧ Spans K C H b us B ∧
  ∀ (H' : Hp) (R : Addr) (qs : List Addr) (rs : List RowV), Same H H' → SqL K H' R (qs.map V.ref) → All2 (RowAt K H' ss us) qs rs → RowsOk A B rs → 1 ≤ rs.length → (∀ r, rs[rs.length - 1]? = some r → r.e = none) → Q (.ref R) H'
def restOf (n : Nat) : L2.St → Nat
  | [_, _, _, some (.int h), some (.int t), _, _, _, _] => (n : Int).toNat - (h + t).toNat
  | _ => 0
end K13

namespace K13
open PySem PySem.Spec PyProof.Rows L2
/-! ### != of two shares: object.__ne__ over the own == -/
section
variable {X : Cx} {n : Nat} {C f : Addr} {A : Around} {pins : List (Addr × Obj)} {s : Shared} {σ : L2.St} {H : Hp} {x y : Addr} {t1 b1 t2 b2 : Int}
theorem ne_body (O : OwnEq X n C f) (sb : Sub X (n + 1) A) (I : Inv X pins σ H s) (hx : ShAt C H x t1 b1) (hy : ShAt C H y t2 b2) {Q : Fin → Shared → Prop}
    (hq : ∀ s', Inv X pins σ H s' → Q (.done (.ret (.bool (!(decide (t1 = t2) && decide (b1 = b2)))))) s') :
    wpAny (model X.prog X.w) A (Builtin.«object.__ne__» ⟨[.ref x, .ref y], []⟩) Q X.xe s := by
  obtain ⟨ox, od, J⟩ := ins_at I hx
  have sb0 : Sub X n A := sb.mono (Nat.le_succ n)
  unfold Builtin.«object.__ne__»
  refine wpAny_bind (wpAny_of_eq (a := ((Value.ref x : Value), [Value.ref y])) (by first | rfl | (simp only [slotArgs]; rfl)) ?_)
  dsimp only
  refine wpAny_bind (wpAny_cRoomFor sb.room.units0 ?_)
  refine wpAny_bind (PySem.W.ifBound_K I.kIn J O.at_ O.isf (wpAny_mono (run_own O sb0 I (v := .ref y) rfl hx (.inl ⟨y, t2, b2, rfl, hy, rfl⟩)) (fun q s' z => ?_) fun _ _ z => z))
  obtain ⟨rfl, I'⟩ := z
  dsimp only
  exact wpAny_bind (wpAny_truthy_bool (wpAny_pure (hq _ I')))
theorem ne_two (O : OwnEq X n C f) (sb : Sub X (n + 2) A) (I : Inv X pins σ H s) (hne : PySem.W.findIn X.K (.ref C) "__ne__" = some (some (.builtin "object.__ne__"))) (hob : PySem.W.subIn X.K (.ref C) (.type "object") = some true)
    (hx : ShAt C H x t1 b1) (hy : ShAt C H y t2 b2) :
    wpAny (model X.prog X.w) A (richCompare .NotEq (.ref x) (.ref y)) (fun q s' => q = .bool (!(decide (t1 = t2) && decide (b1 = b2))) ∧ Inv X pins σ H s') X.xe s := by
  obtain ⟨ox, od, J⟩ := ins_at I hx
  obtain ⟨oy, od', J'⟩ := ins_at I hy
  have isob : PySem.W.Looks (model X.prog X.w) s.heap (isInstance (.ref x) (.type "object")) true := J.type.andThen (PySem.W.looks_subIn I.kIn hob)
  have called : wpAny (model X.prog X.w) A (call (.builtin "object.__ne__") [.ref x, .ref y]) (fun q s' => q = .bool (!(decide (t1 = t2) && decide (b1 = b2))) ∧ Inv X pins σ H s') X.xe s := by
    refine wpAny_call (codeAny_call_builtin F.cmp_object.ne.plain F.cmpEntry_ne (PySem.W.check_slot F.cmpKind_ne F.cmpSplit_ne isob (F.cmpArgs_ne _ _) ?_))
    exact ne_body O (sb.in1) I hx hy fun s' I' => ⟨rfl, I'⟩
  unfold richCompare
  simp only [oneThing_ref]
  refine wpAny_holding (wpAny_bind (wpAny_cRoomFor sb.room.units0 ?_))
  refine wpAny_bind (J.type.here (wpAny_bind (J'.type.here ?_)))
  rw [if_neg (show ¬ (Value.ref C != Value.ref C) = true by simp)]
  refine wpAny_bind (wpAny_pure ?_)
  simp only [Bool.false_eq_true, if_false]
  refine wpAny_bind (m := tryCompare (.ref x) _ (.ref y)) ?_
  unfold tryCompare
  have fin : wpAny (model X.prog X.w) A (call (.builtin "object.__ne__") ([.ref x] ++ [.ref y]) >>= fun v => pure (some v)) (fun o s' => ∃ q, o = some q ∧ q = .bool (!(decide (t1 = t2) && decide (b1 = b2))) ∧ Inv X pins σ H s') X.xe s :=
    wpAny_bind (wpAny_mono called (fun q s' z => wpAny_pure ⟨q, rfl, z⟩) fun _ _ z => z)
  have asked : wpAny (model X.prog X.w) A (callSpecialIfBound? (.ref x) "__ne__" [.ref y]) (fun o s' => ∃ q, o = some q ∧ q = .bool (!(decide (t1 = t2) && decide (b1 = b2))) ∧ Inv X pins σ H s') X.xe s := by
    simp only [callSpecialIfBound?, bindSpecialIfBound?]
    refine wpAny_holding (wpAny_bind (wpAny_bind (wpAny_bind (J.type.here ((PySem.W.looks_findIn I.kIn hne).here ?_)))))
    simp only [F.cmp_object.ne.bind]
    refine wpAny_bind (wpAny_askSetting (wpAny_ite ?_))
    split
    · exact wpAny_bind (wpAny_pure (wpAny_pure fin))
    · exact wpAny_tryCatch (wpAny_bind (wpAny_pure (wpAny_pure fin)))
  refine wpAny_bind (wpAny_mono asked (fun o s' z => ?_) fun _ _ z => z)
  obtain ⟨q, rfl, rfl, I'⟩ := z
  exact wpAny_pure (wpAny_pure ⟨rfl, I'⟩)
end
/-! ### the operators, as rules -/
section
variable {X : Cx} {n : Nat} {C f : Addr}
def rEqS (C : Addr) : R2 := fun x y H Q => ∃ (a b : Addr) (t1 b1 t2 b2 : Int), x = .ref a ∧ y = .ref b ∧ ShAt C H a t1 b1 ∧ ShAt C H b t2 b2 ∧ Q (.bl (decide (t1 = t2) && decide (b1 = b2))) H
def rNeS (C : Addr) : R2 := fun x y H Q => ∃ (a b : Addr) (t1 b1 t2 b2 : Int), x = .ref a ∧ y = .ref b ∧ ShAt C H a t1 b1 ∧ ShAt C H b t2 b2 ∧ Q (.bl (!(decide (t1 = t2) && decide (b1 = b2)))) H
theorem op_eqS (O : OwnEq X n C f) (hr : Room n X.A) : OpR X (compareOp .Eq) (rEqS C) := by
  intro pins s σ H x y v u Q I rx ry h
  obtain ⟨a, b, t1, b1, t2, b2, rfl, rfl, ha, hb, q⟩ := h
  cases rx
  cases ry
  show wpAny (model X.prog X.w) X.A (richCompare .Eq (.ref a) (.ref b)) (EP X pins σ Q) X.xe s
  refine wpAny_mono (rc_two O ⟨hr, rfl⟩ I ha hb) (fun r s' z => ?_) fun _ _ z => z
  obtain ⟨rfl, I'⟩ := z
  exact ⟨.bl _, H, I', rfl, q⟩
theorem op_neS (O : OwnEq X n C f) (hr : Room (n + 2) X.A) (hne : PySem.W.findIn X.K (.ref C) "__ne__" = some (some (.builtin "object.__ne__"))) (hob : PySem.W.subIn X.K (.ref C) (.type "object") = some true) : OpR X (compareOp .NotEq) (rNeS C) := by
  intro pins s σ H x y v u Q I rx ry h
  obtain ⟨a, b, t1, b1, t2, b2, rfl, rfl, ha, hb, q⟩ := h
  cases rx
  cases ry
  show wpAny (model X.prog X.w) X.A (richCompare .NotEq (.ref a) (.ref b)) (EP X pins σ Q) X.xe s
  refine wpAny_mono (ne_two O ⟨hr, rfl⟩ I hne hob ha hb) (fun r s' z => ?_) fun _ _ z => z
  obtain ⟨rfl, I'⟩ := z
  exact ⟨.bl _, H, I', rfl, q⟩
end
end K13

namespace K13
open PySem PySem.Spec PyProof.Rows L2
/-! ### the first unlike day -/
theorem iteN {c : Bool} {A B : Prop} (hc : c = true) (h : B) : if (!c) = true then A else B := by
  rw [hc]
  exact iteF h
def FirstV (A B : List (Option Int × W2)) : Option Int → Prop
  | none => ∀ x, 0 ≤ x → onV A x = onV B x
  | some d => 0 ≤ d ∧ onV A d ≠ onV B d ∧ ∀ x, 0 ≤ x → x < d → onV A x = onV B x
theorem FirstV.one {A B : List (Option Int × W2)} {r r' : Option Int} (h : FirstV A B r) (h' : FirstV A B r') : r = r' := by
  cases r with
  | none => cases r' with
    | none => rfl
    | some d => exact absurd (h d h'.1) h'.2.1
  | some d => cases r' with
    | none => exact absurd (h' d h.1) h.2.1
    | some e =>
      have a := h.2.2 e h'.1
      have b := h'.2.2 d h.1
      have c : ¬ e < d := fun z => h'.2.1 (a z)
      have c' : ¬ d < e := fun z => h.2.1 (b z)
      rw [show d = e from by omega]
theorem FirstV.symm {A B : List (Option Int × W2)} {r : Option Int} (h : FirstV A B r) : FirstV B A r := by
  cases r with
  | none => exact fun x hx => (h x hx).symm
  | some d => exact ⟨h.1, fun z => h.2.1 z.symm, fun x a b => (h.2.2 x a b).symm⟩
/-- two words said over and over: alike on so many days, alike for good -/
theorem fw {ws vs : W2} {bA bB b : Int} {e : Option Int} (l1 : 1 ≤ ws.length) (l2 : 1 ≤ vs.length)
    (h : ∀ x, b ≤ x → x < b + ws.length + vs.length → (∀ s, e = some s → x < s) → ws[((x - bA) % (ws.length : Int)).toNat]? = vs[((x - bB) % (vs.length : Int)).toNat]?) :
    ∀ (n : Nat) (x : Int), x - b = (n : Int) → (∀ s, e = some s → x < s) → ws[((x - bA) % (ws.length : Int)).toNat]? = vs[((x - bB) % (vs.length : Int)).toNat]? := by
  intro n
  induction n using Nat.strongRecOn with
  | _ n ih =>
    intro x hx he
    by_cases c : x < b + ws.length + vs.length
    · exact h x (by omega) c he
    · have pA : ∀ y : Int, (y - ws.length - bA) % (ws.length : Int) = (y - bA) % (ws.length : Int) := fun y => by
        rw [show y - (ws.length : Int) - bA = (y - bA) - (ws.length : Int) from by omega, Int.sub_emod_right]
      have pB : ∀ y : Int, (y - vs.length - bB) % (vs.length : Int) = (y - bB) % (vs.length : Int) := fun y => by
        rw [show y - (vs.length : Int) - bB = (y - bB) - (vs.length : Int) from by omega, Int.sub_emod_right]
      have i1 := ih (n - ws.length) (by omega) (x - ws.length) (by omega) (fun s q => by have := he s q; omega)
      have i2 := ih (n - vs.length) (by omega) (x - vs.length) (by omega) (fun s q => by have := he s q; omega)
      have i3 := ih (n - ws.length - vs.length) (by omega) (x - ws.length - vs.length) (by omega) (fun s q => by have := he s q; omega)
      rw [pA] at i1
      rw [pB] at i2
      rw [pB (x - ws.length)] at i3
      rw [i1, ← i3, ← i2, show x - (ws.length : Int) - (vs.length : Int) = (x - vs.length) - ws.length from by omega, pA (x - vs.length)]
/-- within a span what is told is what its word says -/
theorem in_span {told : List (Option Int × W2)} (ok : Told told) {h : Nat} {b : Int} (at_ : AtDay told h b) {x : Option Int × W2} (hx : told[h]? = some x) :
    (1 ≤ (leastW (cutO x.1 x.2)).length ∧ (leastW (cutO x.1 x.2)).length ≤ 60) ∧ ∀ y, b ≤ y → (∀ s, stopOf told h = some s → y < s) → onV told y = (leastW (cutO x.1 x.2))[((y - bAt told h) % ((leastW (cutO x.1 x.2)).length : Int)).toNat]? := by
  have lw := ok.word h x hx
  have hd : ∀ n, x.1 = some n → 1 ≤ n := fun n e => ok.days h x n hx e
  have cl := leastW_len (cutO_pos hd lw.1)
  have cle := cutO_le (d := x.1) (ws := x.2)
  have c3 := Nat.le_of_dvd (cutO_pos hd lw.1) cl.2
  refine ⟨⟨cl.1, by omega⟩, fun y hy hs => ?_⟩
  have hin : ∀ n, x.1 = some n → y < bAt told h + n := fun n e => hs _ (by unfold stopOf; rw [hx]; show x.1.map _ = _; rw [e]; rfl)
  have kl := at_.lt
  have fr := at_.from_
  obtain ⟨d, ws⟩ := x
  rw [onV_at told h d ws y hx (fun j z hj hz => ok.ends hj kl hz) (by omega) hin]
  exact (cut_at lw.1 hd (by omega) (fun n e => by have := hin n e; omega)).symm
/-- no stop is too far -/
def Near (told : List (Option Int × W2)) : Prop := ∀ i s, stopOf told i = some s → s ≤ 2 ^ 50
theorem row_near {A B : List (Option Int × W2)} {rs : List RowV} (ok : RowsOk A B rs) (nA : Near A) (nB : Near B) {i : Nat} {r : RowV} (hr : rs[i]? = some r) : r.b ≤ 2 ^ 50 := by
  cases i with
  | zero => rw [ok.head r hr]; decide
  | succ i =>
    have il := (List.getElem?_eq_some_iff.mp hr).1
    have h0 : rs[i]? = some rs[i] := List.getElem?_eq_getElem (by omega)
    have e := ok.next i _ r h0 hr
    have st := (ok.row _ (List.getElem_mem (by omega : i < rs.length))).stop
    rw [e] at st
    cases oa : stopOf A rs[i].h with
    | none => cases ob : stopOf B rs[i].t with
      | none => rw [oa, ob] at st; cases st
      | some y => rw [oa, ob] at st; cases st; exact nB _ _ ob
    | some x => cases ob : stopOf B rs[i].t with
      | none => rw [oa, ob] at st; cases st; exact nA _ _ oa
      | some y =>
        rw [oa, ob] at st
        have a := nA _ _ oa
        have b := nB _ _ ob
        have st : some r.b = some (if y < x then y else x) := st
        injection st with st
        rw [st]
        split <;> assumption
theorem minO_lt {a b : Option Int} {x s : Int} (h : ∀ y, minO a b = some y → x < y) : (a = some s → x < s) ∧ (b = some s → x < s) := by
  cases a with
  | none => exact ⟨(fun z => nomatch z), fun z => h s (by rw [z]; rfl)⟩
  | some u => cases b with
    | none => exact ⟨fun z => h s (by rw [z]; rfl), fun z => nomatch z⟩
    | some v =>
      have q := h _ rfl
      constructor
      · intro z
        cases z
        split at q <;> omega
      · intro z
        cases z
        split at q <;> omega
end K13

namespace K13
open PySem PySem.Spec PyProof.Rows L2
/-! ### told otherwise: what cutting, turning, saying over does to what is told -/
abbrev Sx := Option Int × W2
def turnW (ws : W2) (h : Int) : W2 := ws.drop (h % (ws.length : Int)).toNat ++ ws.take (h % (ws.length : Int)).toNat
def cutsAt (d : Option Int) (h : Int) : Bool := decide (0 < h) && (match d with | none => true | some n => decide (h < n))
def cut1 (x : Sx) (h : Int) : List Sx := if cutsAt x.1 h = true then [(some h, x.2), (x.1.map fun n => n - h, turnW x.2 h)] else [x]
def cutL : List Sx → Int → List Sx
  | [], _ => []
  | x :: r, h => cut1 x h ++ cutL r (h - x.1.getD 0)
def TLx : List Sx → Prop
  | [] => False
  | (none, w) :: r => r = [] ∧ 1 ≤ w.length
  | (some n, w) :: r => 1 ≤ n ∧ 1 ≤ w.length ∧ TLx r
theorem turn_len (ws : W2) (h : Int) : (turnW ws h).length = ws.length := by
  unfold turnW
  rw [List.length_append, List.length_drop, List.length_take]
  omega
theorem turn_mem {ws : W2} {h : Int} {z : Int × Int} (m : z ∈ turnW ws h) : z ∈ ws := by
  unfold turnW at m
  rcases List.mem_append.mp m with q | q
  · exact List.mem_of_mem_drop q
  · exact List.mem_of_mem_take q
theorem turn_at {ws : W2} (l : 1 ≤ ws.length) (h d : Int) : (turnW ws h)[((d - h) % (ws.length : Int)).toNat]? = ws[(d % (ws.length : Int)).toNat]? := by
  have L0 : (0 : Int) < (ws.length : Int) := by omega
  have a0 := Int.emod_nonneg h (show (ws.length : Int) ≠ 0 by omega)
  have a1 := Int.emod_lt_of_pos h L0
  have b0 := Int.emod_nonneg (d - h) (show (ws.length : Int) ≠ 0 by omega)
  have b1 := Int.emod_lt_of_pos (d - h) L0
  have e : d % (ws.length : Int) = (h % (ws.length : Int) + (d - h) % (ws.length : Int)) % (ws.length : Int) := by
    rw [← Int.add_emod, show h + (d - h) = d from by omega]
  rw [e]
  unfold turnW
  generalize h % (ws.length : Int) = a at *
  generalize (d - h) % (ws.length : Int) = b at *
  by_cases c : b.toNat < (ws.drop a.toNat).length
  · rw [List.getElem?_append_left c, List.getElem?_drop]
    rw [List.length_drop] at c
    rw [Int.emod_eq_of_lt (by omega) (by omega), show (a + b).toNat = a.toNat + b.toNat from by omega]
  · rw [List.getElem?_append_right (by omega), List.length_drop]
    rw [List.length_drop] at c
    have e2 : (a + b) % (ws.length : Int) = a + b - ws.length := by
      rw [← Int.sub_emod_right, Int.emod_eq_of_lt (by omega) (by omega)]
    rw [e2, List.getElem?_take_of_lt (by omega)]
    congr 1
    omega
theorem cuts_none {h : Int} : cutsAt none h = decide (0 < h) := by
  unfold cutsAt
  simp
theorem cuts_some {n h : Int} : cutsAt (some n) h = (decide (0 < h) && decide (h < n)) := rfl
theorem cutL_neg : ∀ {xs : List Sx} {h : Int}, TLx xs → h ≤ 0 → cutL xs h = xs
  | (none, w) :: r, h, t, l => by
    have t : r = [] ∧ 1 ≤ w.length := t
    rw [t.1]
    show cut1 (none, w) h ++ [] = _
    unfold cut1
    rw [cuts_none, if_neg (by simp; omega)]
    rfl
  | (some n, w) :: r, h, t, l => by
    have t : 1 ≤ n ∧ 1 ≤ w.length ∧ TLx r := t
    show cut1 (some n, w) h ++ cutL r (h - n) = _
    rw [cutL_neg t.2.2 (by omega)]
    unfold cut1
    rw [cuts_some, if_neg (by simp; omega)]
    rfl
theorem TLx.cut : ∀ {xs : List Sx} {h : Int}, TLx xs → TLx (cutL xs h) ∧ (cutL xs h).length ≤ xs.length + 1
  | (none, w) :: r, h, t => by
    have t : r = [] ∧ 1 ≤ w.length := t
    rw [t.1]
    show TLx (cut1 (none, w) h ++ []) ∧ (cut1 (none, w) h ++ []).length ≤ _
    unfold cut1
    rw [cuts_none]
    by_cases c : 0 < h
    · rw [if_pos (by simpa using c)]
      exact ⟨⟨by omega, t.2, rfl, by rw [turn_len]; exact t.2⟩, Nat.le_refl _⟩
    · rw [if_neg (by simpa using c)]
      exact ⟨⟨rfl, t.2⟩, by simp⟩
  | (some n, w) :: r, h, t => by
    have t : 1 ≤ n ∧ 1 ≤ w.length ∧ TLx r := t
    show TLx (cut1 (some n, w) h ++ cutL r (h - n)) ∧ (cut1 (some n, w) h ++ cutL r (h - n)).length ≤ _
    unfold cut1
    rw [cuts_some]
    by_cases c : 0 < h ∧ h < n
    · rw [if_pos (by simpa using c), cutL_neg t.2.2 (by omega)]
      exact ⟨⟨by omega, t.2.1, by show 1 ≤ n - h; omega, by rw [turn_len]; exact t.2.1, t.2.2⟩, by simp⟩
    · rw [if_neg (by simpa using c)]
      have ih := TLx.cut (h := h - n) t.2.2
      refine ⟨⟨t.1, t.2.1, ih.1⟩, ?_⟩
      have := ih.2
      simp only [List.length_append, List.length_cons, List.length_nil]
      omega
theorem onV_cut : ∀ {xs : List Sx} {h d : Int}, TLx xs → 0 ≤ d → onV (cutL xs h) d = onV xs d
  | (none, w) :: r, h, d, t, d0 => by
    have t : r = [] ∧ 1 ≤ w.length := t
    show onV (cut1 (none, w) h ++ cutL r (h - 0)) d = w[(d % (w.length : Int)).toNat]?
    unfold cut1
    rw [cuts_none]
    by_cases c : 0 < h
    · rw [if_pos (by simpa using c)]
      show (if d < h then w[(d % (w.length : Int)).toNat]? else (turnW w h)[((d - h) % ((turnW w h).length : Int)).toNat]?) = _
      rw [turn_len]
      split
      · rfl
      · exact turn_at t.2 h d
    · rw [if_neg (by simpa using c)]
      rfl
  | (some n, w) :: r, h, d, t, d0 => by
    have t : 1 ≤ n ∧ 1 ≤ w.length ∧ TLx r := t
    show onV (cut1 (some n, w) h ++ cutL r (h - n)) d = if d < n then w[(d % (w.length : Int)).toNat]? else onV r (d - n)
    unfold cut1
    rw [cuts_some]
    by_cases c : 0 < h ∧ h < n
    · rw [if_pos (by simpa using c), cutL_neg t.2.2 (by omega)]
      show (if d < h then w[(d % (w.length : Int)).toNat]? else if d - h < n - h then (turnW w h)[((d - h) % ((turnW w h).length : Int)).toNat]? else onV r (d - h - (n - h))) = _
      rw [turn_len, show d - h - (n - h) = d - n from by omega]
      by_cases c1 : d < h
      · rw [if_pos c1, if_pos (by omega)]
      · rw [if_neg c1]
        by_cases c2 : d < n
        · rw [if_pos (by omega), if_pos c2]
          exact turn_at t.2.1 h d
        · rw [if_neg (by omega), if_neg c2]
    · rw [if_neg (by simpa using c)]
      show (if d < n then w[(d % (w.length : Int)).toNat]? else onV (cutL r (h - n)) (d - n)) = _
      by_cases c2 : d < n
      · rw [if_pos c2, if_pos c2]
      · rw [if_neg c2, if_neg c2]
        exact onV_cut t.2.2 (by omega)
theorem cutL_mem : ∀ {xs : List Sx} {h B : Int} {x : Sx}, TLx xs → h ≤ B → x ∈ cutL xs h → ∃ y ∈ xs, (x.2 = y.2 ∨ ∃ g, x.2 = turnW y.2 g) ∧ ((∀ n, y.1 = some n → n ≤ B) → ∀ n, x.1 = some n → n ≤ B)
  | (d, w) :: r, h, B, x, t, hB, m => by
    have t2 : ∀ n, d = some n → 1 ≤ n := fun n e => by
      subst e
      exact (show 1 ≤ n ∧ _ from t).1
    have m : x ∈ cut1 (d, w) h ++ cutL r (h - d.getD 0) := m
    rcases List.mem_append.mp m with q | q
    · unfold cut1 at q
      refine ⟨(d, w), List.mem_cons_self, ?_⟩
      by_cases c : cutsAt d h = true
      · have c0 : 0 < h := by
          unfold cutsAt at c
          simp at c
          exact c.1
        rw [if_pos c] at q
        simp only [List.mem_cons, List.not_mem_nil, or_false] at q
        rcases q with q | q
        · rw [q]
          exact ⟨.inl rfl, fun _ n e => by cases e; exact hB⟩
        · rw [q]
          refine ⟨.inr ⟨h, rfl⟩, fun k n e => ?_⟩
          obtain ⟨m', em, rfl⟩ := Option.map_eq_some_iff.mp e
          have := k m' em
          omega
      · rw [if_neg c] at q
        rw [List.mem_singleton.mp q]
        exact ⟨.inl rfl, fun k => k⟩
    · cases d with
      | none =>
        have t : r = [] ∧ 1 ≤ w.length := t
        rw [t.1] at q
        cases q
      | some n =>
        have t : 1 ≤ n ∧ 1 ≤ w.length ∧ TLx r := t
        obtain ⟨y, hy, z⟩ := cutL_mem (B := B) t.2.2 (show h - n ≤ B by omega) q
        exact ⟨y, List.mem_cons_of_mem _ hy, z⟩
theorem TLx.all : ∀ {xs : List Sx}, TLx xs → ∀ (i : Nat) (x : Sx), xs[i]? = some x → 1 ≤ x.2.length ∧ (x.1 = none ↔ i + 1 = xs.length) ∧ ∀ n, x.1 = some n → 1 ≤ n
  | (none, w) :: r, t, i, x, hx => by
    have t : r = [] ∧ 1 ≤ w.length := t
    rw [t.1] at hx ⊢
    cases i with
    | zero =>
      have : (none, w) = x := by simpa using hx
      rw [← this]
      exact ⟨t.2, ⟨fun _ => rfl, fun _ => rfl⟩, fun n e => nomatch e⟩
    | succ i => simp at hx
  | (some n, w) :: r, t, i, x, hx => by
    have t : 1 ≤ n ∧ 1 ≤ w.length ∧ TLx r := t
    cases i with
    | zero =>
      have : (some n, w) = x := by simpa using hx
      rw [← this]
      refine ⟨t.2.1, ⟨(fun e => nomatch e), fun e => ?_⟩, fun m e => by cases e; exact t.1⟩
      have e : 0 + 1 = r.length + 1 := e
      cases r with
      | nil => exact t.2.2.elim
      | cons y r => simp at e
    | succ i =>
      have hx : r[i]? = some x := by simpa using hx
      obtain ⟨a, b, c⟩ := TLx.all t.2.2 i x hx
      refine ⟨a, ⟨fun e => ?_, fun e => ?_⟩, c⟩
      · have := b.mp e
        show i + 1 + 1 = r.length + 1
        omega
      · have e : i + 1 + 1 = r.length + 1 := e
        exact b.mpr (by omega)
theorem TLx.told {xs : List Sx} (t : TLx xs) (l : xs.length ≤ 60) (w : ∀ x ∈ xs, x.2.length ≤ 60) : Told xs := by
  refine ⟨?_, l, fun i x hx => ⟨(t.all i x hx).1, w x (List.mem_of_getElem? hx)⟩, fun i x hx => (t.all i x hx).2.1, fun i x n hx => (t.all i x hx).2.2 n⟩
  cases xs with
  | nil => exact t.elim
  | cons x r => simp
theorem TLx.of : ∀ {xs : List Sx}, 1 ≤ xs.length → (∀ (i : Nat) (x : Sx), xs[i]? = some x → 1 ≤ x.2.length ∧ (x.1 = none ↔ i + 1 = xs.length) ∧ ∀ n, x.1 = some n → 1 ≤ n) → TLx xs
  | [], h, _ => by simp at h
  | (none, w) :: r, _, f => by
    have h0 := f 0 _ rfl
    have := h0.2.1.mp rfl
    have e : 0 + 1 = r.length + 1 := this
    exact ⟨List.length_eq_zero_iff.mp (by omega), h0.1⟩
  | (some n, w) :: r, _, f => by
    have h0 := f 0 _ rfl
    have l : 1 ≤ r.length := by
      have := h0.2.1
      have e : ¬ (0 + 1 = r.length + 1) := fun e => nomatch this.mpr e
      omega
    refine ⟨h0.2.2 n rfl, h0.1, TLx.of l fun i x hx => ?_⟩
    obtain ⟨a, b, c⟩ := f (i + 1) x (by simpa using hx)
    refine ⟨a, ⟨fun e => ?_, fun e => b.mpr ?_⟩, c⟩
    · have := b.mp e
      have e : i + 1 + 1 = r.length + 1 := this
      omega
    · show i + 1 + 1 = r.length + 1
      omega
theorem told_tl {xs : List Sx} (h : Told xs) : TLx xs := TLx.of h.pos fun i x hx => ⟨(h.word i x hx).1, h.open_ i x hx, fun n e => h.days i x n hx e⟩
theorem DT.cut {n k e : Nat} {xs : List Sx} {h : Int} (d : DT n k e xs) (n60 : n + 1 ≤ 60) (k60 : k ≤ 60) (h1 : h ≤ 2 ^ 41) : DT (n + 1) k e (cutL xs h) := by
  have t := told_tl d.ok
  have c := t.cut (h := h)
  have few := d.few
  have ln : ∀ x ∈ cutL xs h, x.2.length ≤ k := fun x hx => by
    obtain ⟨y, hy, z, _⟩ := cutL_mem t h1 hx
    have := d.len y hy
    rcases z with z | ⟨g, z⟩
    · rw [z]; exact this
    · rw [z, turn_len]; exact this
  refine ⟨c.1.told (by omega) (fun x hx => Nat.le_trans (ln x hx) k60), by omega, ln, fun x hx y hy => ?_, fun x hx m em => ?_⟩
  · obtain ⟨y', hy', z, _⟩ := cutL_mem t h1 hx
    rcases z with z | ⟨g, z⟩
    · rw [z] at hy; exact d.prs y' hy' y hy
    · rw [z] at hy; exact d.prs y' hy' y (turn_mem hy)
  · obtain ⟨y', hy', _, z⟩ := cutL_mem t h1 hx
    exact z (d.far y' hy') m em
theorem cutL_snoc : ∀ (xs : List Sx) (x : Sx) (h : Int), cutL (xs ++ [x]) h = cutL xs h ++ cut1 x (h - (xs.map fun y => y.1.getD 0).sum)
  | [], x, h => by
    show cut1 x h ++ [] = [] ++ cut1 x (h - 0)
    rw [Int.sub_zero, List.append_nil, List.nil_append]
  | y :: r, x, h => by
    show cut1 y h ++ cutL (r ++ [x]) (h - y.1.getD 0) = (cut1 y h ++ cutL r (h - y.1.getD 0)) ++ cut1 x (h - (y.1.getD 0 + (r.map fun y => y.1.getD 0).sum))
    rw [cutL_snoc r x, List.append_assoc, show h - y.1.getD 0 - (r.map fun y => y.1.getD 0).sum = h - (y.1.getD 0 + (r.map fun y => y.1.getD 0).sum) from by omega]
theorem cutL_next {told : List Sx} {i : Nat} {x : Sx} (hx : told[i]? = some x) (h : Int) : cutL (told.take (i + 1)) h = cutL (told.take i) h ++ cut1 x (h - bAt told i) := by
  obtain ⟨hi, e⟩ := List.getElem?_eq_some_iff.mp hx
  rw [List.take_succ_eq_append_getElem hi, e, cutL_snoc]
  rfl
/-! a day on which a stretch begins -/
def Beg : List Sx → Int → Prop
  | [], _ => False
  | x :: r, h => h = 0 ∨ ∃ n, x.1 = some n ∧ n ≤ h ∧ Beg r (h - n)
theorem beg_cut : ∀ {xs : List Sx} {h : Int}, TLx xs → 0 ≤ h → Beg (cutL xs h) h
  | (none, w) :: r, h, t, h0 => by
    show Beg (cut1 (none, w) h ++ cutL r (h - 0)) h
    unfold cut1
    rw [cuts_none]
    by_cases c : 0 < h
    · rw [if_pos (by simpa using c)]
      exact .inr ⟨h, rfl, Int.le_refl _, .inl (by omega)⟩
    · rw [if_neg (by simpa using c)]
      exact .inl (by omega)
  | (some n, w) :: r, h, t, h0 => by
    have t : 1 ≤ n ∧ 1 ≤ w.length ∧ TLx r := t
    show Beg (cut1 (some n, w) h ++ cutL r (h - n)) h
    unfold cut1
    rw [cuts_some]
    by_cases c : 0 < h ∧ h < n
    · rw [if_pos (by simpa using c)]
      exact .inr ⟨h, rfl, Int.le_refl _, .inl (by omega)⟩
    · rw [if_neg (by simpa using c)]
      by_cases c0 : h = 0
      · exact .inl c0
      · exact .inr ⟨n, rfl, by omega, beg_cut t.2.2 (by omega)⟩
theorem Beg.cut : ∀ {xs : List Sx} {h g : Int}, Beg xs h → Beg (cutL xs g) h
  | x :: r, h, g, b => by
    show Beg (cut1 x g ++ cutL r (g - x.1.getD 0)) h
    unfold cut1
    rcases b with b | ⟨n, e, l, b⟩
    · split <;> exact .inl b
    · by_cases c : cutsAt x.1 g = true
      · rw [if_pos c]
        rw [e] at c ⊢
        rw [cuts_some] at c
        simp at c
        refine .inr ⟨g, rfl, by omega, .inr ⟨n - g, rfl, by omega, ?_⟩⟩
        rw [show h - g - (n - g) = h - n from by omega]
        exact b.cut
      · rw [if_neg c]
        exact .inr ⟨n, e, l, b.cut⟩
theorem Beg.at_ : ∀ {xs : List Sx} {h : Int}, Beg xs h → ∃ k, k < xs.length ∧ bAt xs k = h
  | x :: r, h, b => by
    rcases b with b | ⟨n, e, l, b⟩
    · exact ⟨0, by simp, by rw [bAt_zero, b]⟩
    · obtain ⟨k, kl, kb⟩ := b.at_
      refine ⟨k + 1, by simpa using kl, ?_⟩
      rw [bAt_cons, e, kb]
      show n + (h - n) = h
      omega
/-! said over so many times -/
def repW (ws : W2) (m : Nat) : W2 := (List.replicate m ws).flatten
theorem rep_len (ws : W2) (m : Nat) : (repW ws m).length = m * ws.length := by
  unfold repW
  simp
theorem rep_mem {ws : W2} {m : Nat} {z : Int × Int} (h : z ∈ repW ws m) : z ∈ ws := by
  unfold repW at h
  simp at h
  obtain ⟨a, ⟨_, rfl⟩, hz⟩ := h
  exact hz
theorem rep_get {ws : W2} (l : 1 ≤ ws.length) : ∀ (m j : Nat), j < m * ws.length → (repW ws m)[j]? = ws[j % ws.length]?
  | 0, j, h => by simp at h
  | m + 1, j, h => by
    show (ws ++ repW ws m)[j]? = _
    by_cases c : j < ws.length
    · rw [List.getElem?_append_left c, Nat.mod_eq_of_lt c]
    · rw [List.getElem?_append_right (by omega), rep_get l m (j - ws.length) (by rw [Nat.succ_mul] at h; omega)]
      congr 1
      exact (Nat.mod_eq_sub_mod (by omega)).symm
theorem rep_at {ws : W2} (l : 1 ≤ ws.length) {m : Nat} (m1 : 1 ≤ m) {d : Int} (d0 : 0 ≤ d) : (repW ws m)[(d % ((repW ws m).length : Int)).toNat]? = ws[(d % (ws.length : Int)).toNat]? := by
  obtain ⟨y, rfl⟩ : ∃ y : Nat, d = (y : Int) := ⟨d.toNat, (Int.toNat_of_nonneg d0).symm⟩
  rw [← Int.natCast_emod, ← Int.natCast_emod, Int.toNat_natCast, Int.toNat_natCast, rep_len]
  have p : 0 < m * ws.length := Nat.mul_pos m1 l
  rw [rep_get l m _ (Nat.mod_lt _ p), Nat.mod_mod_of_dvd _ (Nat.dvd_mul_left _ _)]
theorem onV_set : ∀ {xs : List Sx} {a m : Nat} {x : Sx} {d : Int}, xs[a]? = some x → 1 ≤ x.2.length → 1 ≤ m → TLx xs → 0 ≤ d → onV (xs.set a (x.1, repW x.2 m)) d = onV xs d
  | (dx, w) :: r, 0, m, x, d, h, l, m1, t, d0 => by
    have e : (dx, w) = x := by simpa using h
    subst e
    have l : 1 ≤ w.length := l
    cases dx with
    | none => exact rep_at l m1 d0
    | some n =>
      show (if d < n then (repW w m)[(d % ((repW w m).length : Int)).toNat]? else onV r (d - n)) = if d < n then w[(d % (w.length : Int)).toNat]? else onV r (d - n)
      rw [rep_at l m1 d0]
  | (none, w) :: r, a + 1, m, x, d, h, l, m1, t, d0 => by
    have t : r = [] ∧ 1 ≤ w.length := t
    rw [t.1] at h
    simp at h
  | (some n, w) :: r, a + 1, m, x, d, h, l, m1, t, d0 => by
    have t : 1 ≤ n ∧ 1 ≤ w.length ∧ TLx r := t
    show (if d < n then w[(d % (w.length : Int)).toNat]? else onV (r.set a (x.1, repW x.2 m)) (d - n)) = if d < n then w[(d % (w.length : Int)).toNat]? else onV r (d - n)
    by_cases c : d < n
    · rw [if_pos c, if_pos c]
    · rw [if_neg c, if_neg c]
      exact onV_set (by simpa using h) l m1 t.2.2 (by omega)
theorem TLx.set : ∀ {xs : List Sx} {a : Nat} {x : Sx} {w' : W2}, xs[a]? = some x → 1 ≤ w'.length → TLx xs → TLx (xs.set a (x.1, w'))
  | (dx, w) :: r, 0, x, w', h, l, t => by
    have e : (dx, w) = x := by simpa using h
    subst e
    cases dx with
    | none => exact ⟨(show r = [] ∧ _ from t).1, l⟩
    | some n => exact ⟨(show 1 ≤ n ∧ _ from t).1, l, (show 1 ≤ n ∧ 1 ≤ w.length ∧ TLx r from t).2.2⟩
  | (none, w) :: r, a + 1, x, w', h, l, t => by
    have t : r = [] ∧ 1 ≤ w.length := t
    rw [t.1] at h
    simp at h
  | (some n, w) :: r, a + 1, x, w', h, l, t => by
    have t : 1 ≤ n ∧ 1 ≤ w.length ∧ TLx r := t
    exact ⟨t.1, t.2.1, TLx.set (by simpa using h) l t.2.2⟩
theorem DT.rep {n k e a m : Nat} {xs : List Sx} {x : Sx} (d : DT n k e xs) (n60 : n ≤ 60) (hx : xs[a]? = some x) (m1 : 1 ≤ m) (m3 : m ≤ 3) (k60 : 3 * k ≤ 60) : DT n (3 * k) e (xs.set a (x.1, repW x.2 m)) ∧ ∀ y, 0 ≤ y → onV (xs.set a (x.1, repW x.2 m)) y = onV xs y := by
  have t := told_tl d.ok
  have lx := (d.ok.word a x hx).1
  have mx := List.mem_of_getElem? hx
  have lk := d.len x mx
  have cs : ∀ {Pr : Sx → Prop}, (∀ y ∈ xs, Pr y) → Pr (x.1, repW x.2 m) → ∀ y ∈ xs.set a (x.1, repW x.2 m), Pr y := fun p q y hy => by
    rcases List.mem_or_eq_of_mem_set hy with z | z
    · exact p y z
    · rw [z]; exact q
  have rl : (repW x.2 m).length ≤ 3 * k := by
    rw [rep_len]
    exact Nat.mul_le_mul m3 lk
  have ln : ∀ y ∈ xs.set a (x.1, repW x.2 m), y.2.length ≤ 3 * k := cs (fun y hy => by have := d.len y hy; omega) rl
  have r1 : 1 ≤ (repW x.2 m).length := by
    rw [rep_len]
    exact Nat.mul_pos m1 lx
  refine ⟨⟨(TLx.set hx r1 t).told (by rw [List.length_set]; have := d.few; omega) (fun y hy => Nat.le_trans (ln y hy) k60), by rw [List.length_set]; exact d.few, ln, cs d.prs (fun z hz => d.prs x mx z (rep_mem hz)), cs d.far (d.far x mx)⟩, fun y y0 => onV_set hx lx m1 t y0⟩
end K13

namespace K13
open PySem PySem.Spec PyProof.Rows L2
/-! ### the law's own cuts -/
def spTurned : Sp := fun vs H Q _ => ∃ (l : Addr) (by_ : Int) (ws : W2) (N : Addr → Prop), vs = [.ref l, .int by_] ∧ (∀ q, N q → LstAt H q) ∧ PrsN N H l ws ∧ 1 ≤ ws.length ∧ ws.length ≤ 60 ∧
  ∀ (H' : Hp) (r : Addr), Same H H' → H r = none → PrsN N H' r (turnW ws by_) → Q (.ref r) H'
def spCut : Sp := fun vs H Q _ => ∃ (l : Addr) (day : Int) (told : List Sx) (N : Addr → Prop), vs = [.ref l, .int day] ∧ (∀ q, N q → LstAt H q) ∧ TolN N H l told ∧ Told told ∧
  ∀ (H' : Hp) (r : Addr), Same H H' → H r = none → TolN N H' r (cutL told day) → Q (.ref r) H'
theorem prs_new {N : Addr → Prop} {G : Hp} {r : Addr} {qs : List Addr} {ws : W2} (lN : ∀ q, N q → LstAt G q) (hr : G r = none) (a : All2 (PrAt G) qs ws) : PrsN N (upd G r (.lst (qs.map V.ref))) r ws :=
  ⟨fun z => (by
    obtain ⟨xs, e⟩ := lN r z
    rw [hr] at e
    cases e), qs, upd_same, a.mono fun q y _ _ h => (by
      show upd G r (.lst (qs.map V.ref)) q = _
      rw [upd_ne (ne_of_none h hr)]
      exact h)⟩
theorem PrsN.same {N : Addr → Prop} {H H' : Hp} {l : Addr} {ws : W2} (h : PrsN N H l ws) (s : Same H H') : PrsN N H' l ws := by
  obtain ⟨n, qs, e, a⟩ := h
  exact ⟨n, qs, s _ _ e, a.mono fun q y _ _ z => s _ _ z⟩
theorem StN.same {N : Addr → Prop} {H H' : Hp} {t : Addr} {x : Sx} (h : StN N H t x) (s : Same H H') : StN N H' t x := by
  obtain ⟨wl, e, p⟩ := h
  exact ⟨wl, s _ _ e, p.same s⟩
theorem TolN.same {N : Addr → Prop} {H H' : Hp} {l : Addr} {told : List Sx} (h : TolN N H l told) (s : Same H H') : TolN N H' l told := by
  obtain ⟨n, ts, e, a⟩ := h
  exact ⟨n, ts, s _ _ e, a.mono fun t x _ _ z => z.same s⟩
theorem lst_same {N : Addr → Prop} {H H' : Hp} (h : ∀ q, N q → LstAt H q) (s : Same H H') : ∀ q, N q → LstAt H' q := fun q n => by
  obtain ⟨xs, e⟩ := h q n
  exact ⟨xs, s _ _ e⟩
/-- one more list that may change -/
def Or1 (N : Addr → Prop) (F : Addr) : Addr → Prop := fun q => N q ∨ q = F
theorem PrsN.or1 {N : Addr → Prop} {H : Hp} {l F : Addr} {ws : W2} (h : PrsN N H l ws) (hF : H F = none) : PrsN (Or1 N F) H l ws := by
  obtain ⟨n, qs, e, a⟩ := h
  exact ⟨fun z => z.elim n (fun z => by rw [z, hF] at e; cases e), qs, e, a⟩
/-- a new stretch, appended -/
theorem push {M : Addr → Prop} {H G : Hp} {F T wl : Addr} {ts : List Addr} {tl : List Sx} {dd : Option Int} {ws : W2} (hF : H F = none) (s : Same H G) (eF : G F = some (.lst (ts.map V.ref))) (hts : All2 (StN M G) ts tl)
    (lM : ∀ q, M q → LstAt G q) (mF : M F) (hT : G T = none) (pw : PrsN M G wl ws) {G' : Hp} (e : G' = upd (upd G T (.tup [dv dd, .ref wl])) F (.lst (ts.map V.ref ++ [.ref T]))) :
    Same H G' ∧ G' F = some (.lst ((ts ++ [T]).map V.ref)) ∧ All2 (StN M G') (ts ++ [T]) (tl ++ [(dd, ws)]) ∧ (∀ q, M q → LstAt G' q) ∧ ButN M G G' := by
  have s1 : Same G (upd G T (.tup [dv dd, .ref wl])) := same1 hT
  have eT : (upd G T (.tup [dv dd, .ref wl]) : Hp) T = some (.tup [dv dd, .ref wl]) := upd_same
  have lM1 := lst_same lM s1
  generalize upd G T (.tup [dv dd, .ref wl]) = G1 at *
  subst e
  have k : ButN M G1 (upd G1 F (.lst (ts.map V.ref ++ [.ref T]))) := ButN.put lM1 mF
  have k0 : ButN M G G1 := ButN.same lM s1
  refine ⟨fun b o eb => ?_, by rw [List.map_append]; exact upd_same, (hts.mono fun t x _ _ z => (z.same s1).but k).snoc ⟨wl, k.tup eT, (pw.same s1).but k⟩, fun q mq => ?_, k0.trans k⟩
  · rw [upd_ne (ne_of_none eb hF)]
    exact s1 _ _ (s _ _ eb)
  · by_cases c : q = F
    · rw [c]; exact ⟨_, upd_same⟩
    · obtain ⟨xs, ex⟩ := lM1 q mq
      exact ⟨xs, by rw [upd_ne c]; exact ex⟩
theorem All2.drop {α β : Type} {R : α → β → Prop} {as : List α} {bs : List β} (h : All2 R as bs) (n : Nat) : All2 R (as.drop n) (bs.drop n) :=
  ⟨by rw [List.length_drop, List.length_drop, h.len], fun i a b ha hb => h.all (n + i) a b (by rw [← List.getElem?_drop]; exact ha) (by rw [← List.getElem?_drop]; exact hb)⟩
theorem All2.app {α β : Type} {R : α → β → Prop} {as cs : List α} {bs ds : List β} (h : All2 R as bs) (k : All2 R cs ds) : All2 R (as ++ cs) (bs ++ ds) := by
  refine ⟨by rw [List.length_append, List.length_append, h.len, k.len], fun i x y hx hy => ?_⟩
  by_cases c : i < as.length
  · rw [List.getElem?_append_left c] at hx
    rw [List.getElem?_append_left (by rw [← h.len]; exact c)] at hy
    exact h.all i x y hx hy
  · rw [List.getElem?_append_right (by omega)] at hx
    rw [List.getElem?_append_right (by rw [← h.len]; omega), ← h.len] at hy
    exact k.all _ x y hx hy
end K13

namespace K13
open PySem PySem.Spec PyProof.Rows L2
theorem All2.set {α β : Type} {R : α → β → Prop} {as : List α} {bs : List β} (h : All2 R as bs) (n : Nat) {a : α} {b : β} (r : R a b) : All2 R (as.set n a) (bs.set n b) := by
  refine ⟨by rw [List.length_set, List.length_set, h.len], fun i x y hx hy => ?_⟩
  rw [List.getElem?_set] at hx hy
  by_cases c : n = i
  · rw [if_pos c] at hx hy
    split at hx
    · split at hy
      · cases hx
        cases hy
        exact r
      · cases hy
    · cases hx
  · rw [if_neg c] at hx hy
    exact h.all i x y hx hy
theorem All2.rep {α β : Type} {R : α → β → Prop} {as : List α} {bs : List β} (h : All2 R as bs) : ∀ m, All2 R (List.replicate m as).flatten (List.replicate m bs).flatten
  | 0 => .nil
  | m + 1 => by
    rw [List.replicate_succ, List.replicate_succ, List.flatten_cons, List.flatten_cons]
    exact h.app (All2.rep h m)
/-- a word's list is not the list of the stretches -/
theorem wl_ne {N : Addr → Prop} {G : Hp} {F t : Addr} {ts : List Addr} {tl : List Sx} {x : Sx} (eF : G F = some (.lst (ts.map V.ref))) (hts : All2 (StN N G) ts tl) (l1 : 1 ≤ x.2.length) (h : StN N G t x) : StN (Or1 N F) G t x := by
  obtain ⟨wl, e, n, qs, ew, al⟩ := h
  refine ⟨wl, e, fun z => z.elim n (fun z => ?_), qs, ew, al⟩
  rw [z, eF] at ew
  have ew : some (HO.lst (ts.map V.ref)) = some (HO.lst (qs.map V.ref)) := ew
  injection ew with ew
  injection ew with ew
  have lq : qs.length = x.2.length := al.len
  have q0 : qs[0]? = some qs[0] := List.getElem?_eq_getElem (by omega)
  have lt : ts.length = qs.length := by
    have := congrArg List.length ew
    simpa using this
  have t0 : ts[0]? = some ts[0] := List.getElem?_eq_getElem (by omega)
  have e0 : (ts.map V.ref)[0]? = (qs.map V.ref)[0]? := by rw [ew]
  rw [List.getElem?_map, List.getElem?_map, t0, q0] at e0
  have e0 : some (V.ref ts[0]) = some (V.ref qs[0]) := e0
  injection e0 with e0
  injection e0 with e0
  have ltl : ts.length = tl.length := hts.len
  obtain ⟨_, e1, _⟩ := hts.all 0 _ _ t0 (List.getElem?_eq_getElem (by omega : 0 < tl.length))
  have e2 : PrAt G qs[0] x.2[0] := al.all 0 _ _ q0 (List.getElem?_eq_getElem (by omega : 0 < x.2.length))
  unfold PrAt at e2
  rw [← e0, e1] at e2
  injection e2 with e2
  injection e2 with e2
  injection e2 with _ e2
  injection e2 with e2
  cases e2
def spOther : Sp := fun vs H Q _ => ∃ (p l : Addr) (z : Int) (told : List Sx), vs = [.ref p, .ref l] ∧ WellAt H p z ∧ 0 ≤ z ∧ z < 2 ^ 28 ∧ TolN (· = p) H l told ∧ DT 4 4 10 told ∧
  ∀ (H' : Hp) (r : Addr) (told' : List Sx) (z' : Int), But p H H' → H r = none → WellAt H' p z' → 0 ≤ z' → z' ≤ z + 100 → TolN (· = p) H' r told' → DT 8 12 10 told' → (∀ d, 0 ≤ d → onV told' d = onV told d) → Q (.ref r) H'
theorem none_but {p r : Addr} {H H' : Hp} (b : But p H H') (n : r ≠ p) (h : H' r = none) : H r = none := by
  cases e : H r with
  | none => rfl
  | some o =>
    have := b _ _ n e
    rw [h] at this
    cases this
theorem none_same {r : Addr} {H H' : Hp} (b : Same H H') (h : H' r = none) : H r = none := by
  cases e : H r with
  | none => rfl
  | some o =>
    have := b _ _ e
    rw [h] at this
    cases this
theorem well_ne {G : Hp} {p q : Addr} {z : Int} (h : WellAt G p z) (hq : G q = none) : q ≠ p := fun e => by
  obtain ⟨_, _, e1, _⟩ := h
  rw [e, e1] at hq
  cases hq
theorem TolN.butp {p l : Addr} {H H' : Hp} {told : List Sx} {z : Int} (h : TolN (· = p) H l told) (w : WellAt H p z) (b : But p H H') : TolN (· = p) H' l told :=
  h.but (ButN.but (fun q e => by rw [e]; exact w.lst) rfl b)
end K13

namespace K13
open PySem PySem.Spec PyProof.Rows L2
/-! ### one day otherwise -/
theorem at_ex {A : List Sx} (ok : Told A) {day : Int} (d0 : 0 ≤ day) : ∃ h, AtDay A h day := by
  have key : ∀ i, (∃ h, AtDay A h day) ∨ (i < A.length ∧ bAt A i ≤ day) ∨ A.length ≤ i := by
    intro i
    induction i with
    | zero => exact .inr (.inl ⟨ok.pos, by rw [bAt_zero]; exact d0⟩)
    | succ i ih =>
      rcases ih with ih | ⟨il, ib⟩ | ih
      · exact .inl ih
      · by_cases c : ∀ s, stopOf A i = some s → day < s
        · exact .inl ⟨i, il, ib, c⟩
        · have c : ∃ s, stopOf A i = some s ∧ ¬ day < s := Classical.byContradiction fun n => c fun s e => Classical.byContradiction fun m => n ⟨s, e, m⟩
          obtain ⟨s, e, ns⟩ := c
          have at_ : AtDay A i (bAt A i) := ⟨il, Int.le_refl _, fun s' e' => by
            have hx : A[i]? = some A[i] := List.getElem?_eq_getElem il
            unfold stopOf at e'
            rw [hx] at e'
            obtain ⟨n, en, rfl⟩ := Option.map_eq_some_iff.mp e'
            have := ok.days _ _ n hx en
            omega⟩
          have nx := AtDay.next ok at_ e
          exact .inr (.inl ⟨nx.lt, Int.le_trans nx.from_ (by omega)⟩)
      · exact .inr (.inr (by omega))
  rcases key A.length with h | ⟨h, _⟩ | h
  · exact h
  · exact absurd h (Nat.lt_irrefl _)
  · -- the last one has no end
    rcases key (A.length - 1) with h2 | ⟨h2, hb⟩ | h2
    · exact h2
    · have hx : A[A.length - 1]? = some A[A.length - 1] := List.getElem?_eq_getElem h2
      have pos := ok.pos
      have := (ok.open_ _ _ hx).mpr (by omega)
      refine ⟨A.length - 1, h2, hb, fun s e => ?_⟩
      unfold stopOf at e
      rw [hx] at e
      have e : (A[A.length - 1].1.map fun n => bAt A (A.length - 1) + n) = some s := e
      rw [this] at e
      cases e
    · have pos := ok.pos
      omega
theorem on_day {A : List Sx} (ok : Told A) {h : Nat} {day : Int} (at_ : AtDay A h day) {x : Sx} (hx : A[h]? = some x) : onV A day = x.2[((day - bAt A h) % (x.2.length : Int)).toNat]? := by
  have hin : ∀ n, x.1 = some n → day < bAt A h + n := fun n e => at_.till _ (by unfold stopOf; rw [hx]; show x.1.map _ = _; rw [e]; rfl)
  obtain ⟨d, ws⟩ := x
  exact onV_at A h d ws day hx (fun j z hj hz => ok.ends hj at_.lt hz) at_.from_ hin
/-- rows: the same, but for the first share of what begins on the day -/
def ChgTo (day : Int) (found rows : List Sx) (i : Nat) : Prop := rows.length = i ∧ ∀ (j : Nat) (x : Sx), j < i → found[j]? = some x → ∃ w', rows[j]? = some (x.1, w') ∧ (bAt found j ≠ day → w' = x.2) ∧
  (bAt found j = day → ∃ y y' t, x.2 = y :: t ∧ w' = y' :: t ∧ y ≠ y' ∧ POkN 20 y')
theorem bAt_fst {A B : List Sx} (h : A.map Prod.fst = B.map Prod.fst) (i : Nat) : bAt A i = bAt B i := by
  have e : ∀ L : List Sx, bAt L i = (((L.map Prod.fst).take i).map fun x => x.getD 0).sum := fun L => by
    unfold bAt
    rw [← List.map_take, List.map_map]
    rfl
  rw [e A, e B, h]
theorem ChgTo.snoc {day : Int} {found rows : List Sx} {i : Nat} {x : Sx} {w' : W2} (h : ChgTo day found rows i) (hx : found[i]? = some x) (a : bAt found i ≠ day → w' = x.2) (b : bAt found i = day → ∃ y y' t, x.2 = y :: t ∧ w' = y' :: t ∧ y ≠ y' ∧ POkN 20 y') :
    ChgTo day found (rows ++ [(x.1, w')]) (i + 1) := by
  obtain ⟨l, k⟩ := h
  refine ⟨by rw [List.length_append, l]; rfl, fun j z hj hz => ?_⟩
  by_cases c : j < i
  · rw [List.getElem?_append_left (by omega)]
    exact k j z c hz
  · have : j = i := by omega
    subst this
    rw [hx] at hz
    cases hz
    rw [List.getElem?_append_right (by omega), show j - rows.length = 0 from by omega]
    exact ⟨w', rfl, a, b⟩
theorem ChgTo.all {day : Int} {n k : Nat} {found rows : List Sx} (h : ChgTo day found rows found.length) (d : DT n k 10 found) (hk : ∃ i, i < found.length ∧ bAt found i = day) (d0 : 0 ≤ day) : DT n k 20 rows ∧ FirstV found rows (some day) := by
  obtain ⟨l, g⟩ := h
  have get : ∀ (j : Nat) (z : Sx), rows[j]? = some z → ∃ x, found[j]? = some x ∧ z.1 = x.1 ∧ z.2.length = x.2.length ∧ (bAt found j ≠ day → z.2 = x.2) ∧ (bAt found j = day → ∃ y y' t, x.2 = y :: t ∧ z.2 = y' :: t ∧ y ≠ y' ∧ POkN 20 y') := fun j z hz => by
    have jl : j < found.length := by
      have := (List.getElem?_eq_some_iff.mp hz).1
      omega
    have hx : found[j]? = some found[j] := List.getElem?_eq_getElem jl
    obtain ⟨w', e, a, b⟩ := g j _ jl hx
    rw [hz] at e
    cases e
    refine ⟨_, hx, rfl, ?_, a, b⟩
    by_cases c : bAt found j = day
    · obtain ⟨y, y', t, e1, e2, _⟩ := b c
      show w'.length = _
      rw [e1, e2]
      rfl
    · show w'.length = _
      rw [a c]
  have fst : rows.map Prod.fst = found.map Prod.fst := by
    refine List.ext_getElem? fun j => ?_
    rw [List.getElem?_map, List.getElem?_map]
    by_cases c : j < found.length
    · have hz : rows[j]? = some (rows[j]'(by omega)) := List.getElem?_eq_getElem (by omega)
      obtain ⟨x, hx, e, _⟩ := get j _ hz
      rw [hz, hx]
      all_goals exact congrArg some e
    · rw [List.getElem?_eq_none (by omega), List.getElem?_eq_none (by omega)]
      all_goals rfl
  have bb := bAt_fst fst
  have st : ∀ j, stopOf rows j = stopOf found j := fun j => by
    unfold stopOf
    by_cases c : j < found.length
    · have hz : rows[j]? = some (rows[j]'(by omega)) := List.getElem?_eq_getElem (by omega)
      obtain ⟨x, hx, e, _⟩ := get j _ hz
      rw [hz, hx]
      show (rows[j]'(by omega)).1.map _ = x.1.map _
      rw [e, bb]
    · rw [List.getElem?_eq_none (by omega), List.getElem?_eq_none (by omega)]
  have ok' : Told rows := by
    refine ⟨by have := d.ok.pos; omega, by have := d.ok.few; omega, fun i z hz => ?_, fun i z hz => ?_, fun i z m hz e => ?_⟩
    · obtain ⟨x, hx, _, e, _⟩ := get i z hz
      rw [e]
      exact d.ok.word i x hx
    · obtain ⟨x, hx, e, _⟩ := get i z hz
      rw [e, l]
      exact d.ok.open_ i x hx
    · obtain ⟨x, hx, e1, _⟩ := get i z hz
      rw [e1] at e
      exact d.ok.days i x m hx e
  have atd : ∀ {h : Nat} {x : Int}, AtDay found h x → AtDay rows h x := fun {h x} a => ⟨by rw [l]; exact a.lt, by rw [bb]; exact a.from_, fun s e => a.till s (by rw [← st]; exact e)⟩
  refine ⟨⟨ok', by have := d.few; omega, fun z hz => ?_, fun z hz y hy => ?_, fun z hz m e => ?_⟩, d0, ?_, fun x x0 x1 => ?_⟩
  · obtain ⟨i, hi⟩ := List.mem_iff_getElem?.mp hz
    obtain ⟨x, hx, _, e, _⟩ := get i z hi
    rw [e]
    exact d.len x (List.mem_of_getElem? hx)
  · obtain ⟨i, hi⟩ := List.mem_iff_getElem?.mp hz
    obtain ⟨x, hx, _, _, a, b⟩ := get i z hi
    have px := d.prs x (List.mem_of_getElem? hx)
    by_cases c : bAt found i = day
    · obtain ⟨y0, y1, t, e1, e2, _, pk⟩ := b c
      rw [e2] at hy
      rcases List.mem_cons.mp hy with q | q
      · rw [q]; exact pk
      · exact (px y (by rw [e1]; exact List.mem_cons_of_mem _ q)).up (by decide)
    · rw [a c] at hy
      exact (px y hy).up (by decide)
  · obtain ⟨i, hi⟩ := List.mem_iff_getElem?.mp hz
    obtain ⟨x, hx, e1, _⟩ := get i z hi
    rw [e1] at e
    exact d.far x (List.mem_of_getElem? hx) m e
  · obtain ⟨i, il, ib⟩ := hk
    have hx : found[i]? = some found[i] := List.getElem?_eq_getElem il
    have a : AtDay found i day := ⟨il, by omega, fun s e => by
      unfold stopOf at e
      rw [hx] at e
      obtain ⟨m, em, rfl⟩ := Option.map_eq_some_iff.mp e
      have := d.ok.days _ _ m hx em
      omega⟩
    have hz : rows[i]? = some (rows[i]'(by omega)) := List.getElem?_eq_getElem (by omega)
    rw [on_day d.ok a hx, on_day ok' (atd a) hz, bb, show day - bAt found i = 0 from by omega, Int.zero_emod, Int.zero_emod]
    obtain ⟨x, hx', _, _, _, b⟩ := get i _ hz
    obtain ⟨y, y', t, e1, e2, ne, _⟩ := b ib
    rw [hx] at hx'
    injection hx' with hx'
    rw [hx', e1, e2]
    exact fun z => ne (Option.some.inj z)
  · obtain ⟨i, a⟩ := at_ex d.ok x0
    have hx : found[i]? = some (found[i]'a.lt) := List.getElem?_eq_getElem a.lt
    have il := a.lt
    have fr := a.from_
    have hz : rows[i]? = some (rows[i]'(by omega)) := List.getElem?_eq_getElem (by omega)
    rw [on_day d.ok a hx, on_day ok' (atd a) hz, bb]
    obtain ⟨x', hx', _, _, b, _⟩ := get i _ hz
    rw [hx] at hx'
    injection hx' with hx'
    rw [b (by omega), hx']
/-- a new stretch, appended: the well may have changed meanwhile -/
theorem push2 {M : Addr → Prop} {G : Hp} {F T wl : Addr} {ts : List Addr} {tl : List Sx} {dd : Option Int} {ws : W2} (eF : G F = some (.lst (ts.map V.ref))) (hts : All2 (StN M G) ts tl)
    (lM : ∀ q, M q → LstAt G q) (mF : M F) (hT : G T = none) (pw : PrsN M G wl ws) {G' : Hp} (e : G' = upd (upd G T (.tup [dv dd, .ref wl])) F (.lst (ts.map V.ref ++ [.ref T]))) :
    (∀ b o, b ≠ F → G b = some o → G' b = some o) ∧ G' F = some (.lst ((ts ++ [T]).map V.ref)) ∧ All2 (StN M G') (ts ++ [T]) (tl ++ [(dd, ws)]) ∧ (∀ q, M q → LstAt G' q) ∧ ButN M G G' := by
  have nTF : T ≠ F := fun z => by rw [z, eF] at hT; cases hT
  have s1 : Same G (upd G T (.tup [dv dd, .ref wl])) := same1 hT
  have eT : (upd G T (.tup [dv dd, .ref wl]) : Hp) T = some (.tup [dv dd, .ref wl]) := upd_same
  have lM1 := lst_same lM s1
  generalize upd G T (.tup [dv dd, .ref wl]) = G1 at *
  subst e
  have k : ButN M G1 (upd G1 F (.lst (ts.map V.ref ++ [.ref T]))) := ButN.put lM1 mF
  have k0 : ButN M G G1 := ButN.same lM s1
  refine ⟨fun b o hb eb => by rw [upd_ne hb]; exact s1 _ _ eb, by rw [List.map_append]; exact upd_same, (hts.mono fun t x _ _ z => (z.same s1).but k).snoc ⟨wl, k.tup eT, (pw.same s1).but k⟩, fun q mq => ?_, k0.trans k⟩
  by_cases c : q = F
  · rw [c]; exact ⟨_, upd_same⟩
  · obtain ⟨xs, ex⟩ := lM1 q mq
    exact ⟨xs, by rw [upd_ne c]; exact ex⟩
def spChanged : Sp := fun vs H Q _ => ∃ (p l : Addr) (z day : Int) (told : List Sx) (n k : Nat), vs = [.ref p, .ref l, .int day] ∧ WellAt H p z ∧ 0 ≤ z ∧ z < 2 ^ 28 ∧ TolN (· = p) H l told ∧ DT n k 10 told ∧ n ≤ 40 ∧ k ≤ 60 ∧ 0 ≤ day ∧ day ≤ 1000000000000 ∧
  ∀ (H' : Hp) (r : Addr) (told' : List Sx) (z' : Int), But p H H' → H r = none → WellAt H' p z' → 0 ≤ z' → z' ≤ z + 100 → TolN (· = p) H' r told' → DT (n + 2) k 20 told' → FirstV told told' (some day) → Q (.ref r) H'
/-- the changed share -/
theorem chg_share {y : Int × Int} {d t b : Int} (py : POkN 10 y) (d0 : 0 ≤ d) (d3 : d < 3) (h : IsFr 6 (sumOf [y, (1 + d, 2)] 6) t b) : POkN 20 (t, b) ∧ y ≠ (t, b) := by
  obtain ⟨y0, y6, y10, yc⟩ := py
  have e : sumOf [y, (1 + d, 2)] 6 = y.1 * (6 / y.2) + (1 + d) * 3 := by
    unfold sumOf
    simp
  rw [e] at h
  refine ⟨⟨h.1, fr_dvd h, ?_, h.2.1⟩, fun z => ?_⟩
  · have a := fr_abs (by decide) h
    have q0 : 0 ≤ 6 / y.2 := Int.ediv_nonneg (by decide) (by omega)
    have q1 : 6 / y.2 ≤ 6 := Int.ediv_le_self _ (by decide)
    have m : (y.1 * (6 / y.2)).natAbs ≤ 2 ^ 10 * 6 := by
      rw [Int.natAbs_mul]
      exact Nat.mul_le_mul (Nat.le_of_lt y10) (by omega)
    show t.natAbs < 2 ^ 20
    omega
  · have f := fr_term h
    have e1 : t = y.1 := by rw [z]
    have e2 : b = y.2 := by rw [z]
    rw [e1, e2] at f
    have f : y.1 * (6 / y.2) = y.1 * (6 / y.2) + (1 + d) * 3 := f
    omega
end K13

namespace K13
open PySem PySem.Spec PyProof.Rows L2
/-! ### the law's own first unlike day -/
theorem DT.reach {n k e : Nat} {A : List Sx} (d : DT n k e A) : ∀ i, i ≤ A.length → 0 ≤ bAt A i ∧ bAt A i ≤ (i : Int) * 2 ^ 41
  | 0, _ => by rw [bAt_zero]; exact ⟨Int.le_refl _, by decide⟩
  | i + 1, h => by
    have ih := d.reach i (by omega)
    have hx : A[i]? = some A[i] := List.getElem?_eq_getElem (by omega)
    have nx := bAt_next hx
    have fr := d.far _ (List.mem_of_getElem? hx)
    have ds := fun n => d.ok.days i _ n hx
    have e : ((i + 1 : Nat) : Int) * 2 ^ 41 = (i : Int) * 2 ^ 41 + 2 ^ 41 := by
      rw [show ((i + 1 : Nat) : Int) = (i : Int) + 1 from by omega, Int.add_mul, Int.one_mul]
    rw [nx, e]
    cases q : A[i].1 with
    | none =>
      show 0 ≤ bAt A i + 0 ∧ bAt A i + 0 ≤ _
      omega
    | some m =>
      have a := fr m q
      have b := ds m q
      show 0 ≤ bAt A i + m ∧ bAt A i + m ≤ _
      omega
theorem stop_next {A : List Sx} (ok : Told A) {h : Nat} {s : Int} (hl : h < A.length) (e : stopOf A h = some s) : h + 1 < A.length ∧ s = bAt A (h + 1) := by
  have hx : A[h]? = some A[h] := List.getElem?_eq_getElem hl
  have nx := bAt_next hx
  unfold stopOf at e
  rw [hx] at e
  obtain ⟨m, em, rfl⟩ := Option.map_eq_some_iff.mp e
  rw [em] at nx
  refine ⟨?_, nx.symm⟩
  have := ok.open_ h _ hx
  have h2 : h + 1 ≠ A.length := fun z => by
    have := this.mpr z
    rw [em] at this
    cases this
  omega
theorem DT.near {n k e : Nat} {A : List Sx} (d : DT n k e A) : Near A := fun i s es => by
  have il : i < A.length := by
    unfold stopOf at es
    cases q : A[i]? with
    | none => rw [q] at es; cases es
    | some x => exact (List.getElem?_eq_some_iff.mp q).1
  obtain ⟨l, rfl⟩ := stop_next d.ok il es
  have r := d.reach (i + 1) (by omega)
  have few := d.ok.few
  have : ((i + 1 : Nat) : Int) * 2 ^ 41 ≤ 60 * 2 ^ 41 := Int.mul_le_mul_of_nonneg_right (by omega) (by decide)
  exact Int.le_trans r.2 (Int.le_trans this (by decide))
def bsA (A : List Sx) (m : Nat) : List Int := (List.range m).map fun i => bAt A (i + 1)
theorem bsA_next (A : List Sx) (m : Nat) : bsA A (m + 1) = bsA A m ++ [bAt A (m + 1)] := by
  unfold bsA
  rw [List.range_succ, List.map_append]
  rfl
theorem bsA_len (A : List Sx) (m : Nat) : (bsA A m).length = m := by
  unfold bsA
  simp
theorem bsA_mem {A : List Sx} {h : Nat} (l : h + 1 < A.length) : bAt A (h + 1) ∈ bsA A (A.length - 1) := List.mem_map.mpr ⟨h, List.mem_range.mpr (by omega), rfl⟩
theorem bsA_ok {n k e : Nat} {A : List Sx} (d : DT n k e A) {x : Int} (m : x ∈ bsA A (A.length - 1)) : 0 ≤ x ∧ x ≤ 2 ^ 50 := by
  obtain ⟨i, hi, rfl⟩ := List.mem_map.mp m
  have hi := List.mem_range.mp hi
  have r := d.reach (i + 1) (by omega)
  have few := d.ok.few
  have : ((i + 1 : Nat) : Int) * 2 ^ 41 ≤ 60 * 2 ^ 41 := Int.mul_le_mul_of_nonneg_right (by omega) (by decide)
  exact ⟨r.1, Int.le_trans r.2 (Int.le_trans this (by decide))⟩
theorem seg_all {A B : List Sx} (okA : Told A) (okB : Told B) {ka kb : Nat} (lA : ∀ x ∈ A, x.2.length ≤ ka) (lB : ∀ x ∈ B, x.2.length ≤ kb) (l40 : ka + kb ≤ 40) {b : Int} {fo : Option Int} (b0 : 0 ≤ b)
    (hA : ∀ h s, AtDay A h b → stopOf A h = some s → ∃ f, fo = some f ∧ f ≤ s) (hB : ∀ h s, AtDay B h b → stopOf B h = some s → ∃ f, fo = some f ∧ f ≤ s)
    (eq : ∀ x, b ≤ x → x < b + 40 → (∀ f, fo = some f → x < f) → onV A x = onV B x) : ∀ x, b ≤ x → (∀ f, fo = some f → x < f) → onV A x = onV B x := by
  obtain ⟨h, a⟩ := at_ex okA b0
  obtain ⟨g, c⟩ := at_ex okB b0
  have hx : A[h]? = some (A[h]'a.lt) := List.getElem?_eq_getElem a.lt
  have hy : B[g]? = some (B[g]'c.lt) := List.getElem?_eq_getElem c.lt
  have la := lA _ (List.mem_of_getElem? hx)
  have lb := lB _ (List.mem_of_getElem? hy)
  have wa := (okA.word _ _ hx).1
  have wb := (okB.word _ _ hy).1
  have onA : ∀ x, b ≤ x → (∀ f, fo = some f → x < f) → onV A x = (A[h]'a.lt).2[((x - bAt A h) % ((A[h]'a.lt).2.length : Int)).toNat]? := fun x bx xf =>
    on_day okA (a.stay bx (fun s es => by obtain ⟨f, ef, fs⟩ := hA h s a es; have := xf f ef; omega)) hx
  have onB : ∀ x, b ≤ x → (∀ f, fo = some f → x < f) → onV B x = (B[g]'c.lt).2[((x - bAt B g) % ((B[g]'c.lt).2.length : Int)).toNat]? := fun x bx xf =>
    on_day okB (c.stay bx (fun s es => by obtain ⟨f, ef, fs⟩ := hB g s c es; have := xf f ef; omega)) hy
  intro x bx xf
  rw [onA x bx xf, onB x bx xf]
  refine fw (b := b) (e := fo) wa wb (fun y y0 y1 yf => ?_) (x - b).toNat x (by omega) xf
  rw [← onA y y0 yf, ← onB y y0 yf]
  exact eq y y0 (by omega) yf
theorem sorted_next {ns : List Int} (pw : ns.Pairwise (· < ·)) {i : Nat} {b s : Int} (hb : ns[i]? = some b) (hs : s ∈ ns) (l : b < s) : ∃ f, ns[i + 1]? = some f ∧ f ≤ s := by
  obtain ⟨il, eb⟩ := List.getElem?_eq_some_iff.mp hb
  obtain ⟨j, jl, es⟩ := List.getElem_of_mem hs
  have pg := List.pairwise_iff_getElem.mp pw
  have ij : i < j := by
    rcases Nat.lt_trichotomy i j with h | h | h
    · exact h
    · subst h
      omega
    · have := pg j i jl il h
      omega
  refine ⟨ns[i + 1]'(by omega), List.getElem?_eq_getElem (by omega), ?_⟩
  by_cases c : i + 1 = j
  · subst c
    omega
  · have := pg (i + 1) j (by omega) jl (by omega)
    omega
theorem zip_fin (ns : List Int) {i : Nat} (h : i < ns.length) : ((ns.drop 1).map V.int ++ [V.non])[i]? = some (dv ns[i + 1]?) := by
  by_cases c : i + 1 < ns.length
  · rw [List.getElem?_append_left (by rw [List.length_map, List.length_drop]; omega), List.getElem?_map, List.getElem?_drop, show 1 + i = i + 1 from by omega, List.getElem?_eq_getElem c]
    rfl
  · rw [List.getElem?_append_right (by rw [List.length_map, List.length_drop]; omega), List.length_map, List.length_drop, show i - (ns.length - 1) = 0 from by omega, List.getElem?_eq_none (show ns.length ≤ i + 1 by omega)]
    rfl
theorem eqv_pair (a b c d : Int) : PyData.eqv (.tuple [.int a, .int b]) (.tuple [.int c, .int d]) = (decide (a = c) && decide (b = d)) := by
  simp [PyData.eqv, PyData.eqvAll]
  rfl
def spLFirst (K : PySem.W.Frag) : Sp := fun vs H Q _ => ∃ (a b : Addr) (A B : List Sx) (na nb ka kb ea eb : Nat), vs = [.ref a, .ref b] ∧ LTold K H a A ∧ LTold K H b B ∧ DT na ka ea A ∧ DT nb kb eb B ∧ ka + kb ≤ 40 ∧ na + nb ≤ 40 ∧
  ∀ (H' : Hp) (r : Option Int), Same H H' → FirstV A B r → Q (dv r) H'
end K13

namespace K13
open PySem PySem.Spec PyProof.Rows L2
/-! ### the least round, and from when on -/
abbrev Fn := Int → Option (Int × Int)
structure EndV (f : Fn) (b r : Int) : Prop where
  r1 : 1 ≤ r
  b0 : 0 ≤ b
  per : ∀ x, b ≤ x → f (x + r) = f x
  first : 0 < b → f (b - 1 + r) ≠ f (b - 1)
  least : ∀ r' b', 1 ≤ r' → (∀ x, b' ≤ x → f (x + r') = f x) → r ≤ r'
theorem EndV.one {f : Fn} {b r b' r' : Int} (h : EndV f b r) (h' : EndV f b' r') : b = b' ∧ r = r' := by
  have er : r = r' := Int.le_antisymm (h.least r' b' h'.r1 h'.per) (h'.least r b h.r1 h.per)
  subst er
  refine ⟨?_, rfl⟩
  rcases Int.lt_trichotomy b b' with c | c | c
  · exact absurd (h.per (b' - 1) (by omega)) (h'.first (by have := h.b0; omega))
  · exact c
  · exact absurd (h'.per (b - 1) (by omega)) (h.first (by have := h'.b0; omega))
theorem per_mul {f : Fn} {b r : Int} (h : ∀ x, b ≤ x → f (x + r) = f x) (r0 : 0 ≤ r) : ∀ (k : Nat) (x : Int), b ≤ x → f (x + (k : Int) * r) = f x
  | 0, x, _ => by rw [show x + ((0 : Nat) : Int) * r = x from by simp]
  | k + 1, x, hx => by
    have e : x + ((k + 1 : Nat) : Int) * r = (x + (k : Int) * r) + r := by
      rw [show ((k + 1 : Nat) : Int) = (k : Int) + 1 from by omega, Int.add_mul, Int.one_mul]
      omega
    have p : 0 ≤ (k : Int) * r := Int.mul_nonneg (by omega) r0
    rw [e, h _ (by omega), per_mul h r0 k x hx]
/-- a round that divides no less is the least -/
theorem min_per {f : Fn} {p m b : Int} (p1 : 1 ≤ p) (hp : ∀ x, b ≤ x → f (x + p) = f x) (hm : ∀ k b', 1 ≤ k → k ∣ p → (∀ x, b' ≤ x → f (x + k) = f x) → m ≤ k) :
    ∀ (n : Nat) (b' : Int), 1 ≤ n → (∀ x, b' ≤ x → f (x + (n : Int)) = f x) → m ≤ (n : Int) := by
  intro n
  induction n using Nat.strongRecOn with
  | _ n ih =>
    intro b' n1 hn
    by_cases c : (n : Int) ∣ p
    · exact hm n b' (by omega) c hn
    · have n0 : (0 : Int) < (n : Int) := by omega
      have s0 := Int.emod_nonneg p (show (n : Int) ≠ 0 by omega)
      have s1 := Int.emod_lt_of_pos p n0
      have sne : p % (n : Int) ≠ 0 := fun z => c (Int.dvd_of_emod_eq_zero z)
      have q0 : 0 ≤ p / (n : Int) := Int.ediv_nonneg (by omega) (by omega)
      have dm := Int.emod_add_mul_ediv p (n : Int)
      obtain ⟨s, hs⟩ : ∃ s : Nat, p % (n : Int) = (s : Int) := ⟨(p % (n : Int)).toNat, (Int.toNat_of_nonneg s0).symm⟩
      obtain ⟨k, hk⟩ : ∃ k : Nat, p / (n : Int) = (k : Int) := ⟨(p / (n : Int)).toNat, (Int.toNat_of_nonneg q0).symm⟩
      rw [hs, hk] at dm
      have ih' := ih s (by omega) (max b b') (by omega) (fun x hx => by
        have h1 : b ≤ x := by omega
        have h2 : b' ≤ x := by omega
        have a := per_mul hn (by omega) k (x + (s : Int)) (by omega)
        rw [← a, show x + (s : Int) + (k : Int) * (n : Int) = x + p from by rw [← dm, Int.mul_comm (n : Int) (k : Int)]; omega]
        exact hp x h1)
      omega
/-- a word said over and over from a day on -/
def cyc (ws : W2) (B : Int) : Fn := fun x => ws[((x - B) % (ws.length : Int)).toNat]?
theorem cyc_per {ws : W2} {B : Int} (x : Int) : cyc ws B (x + ws.length) = cyc ws B x := by
  unfold cyc
  rw [show x + (ws.length : Int) - B = x - B + ws.length from by omega, Int.add_emod_right]
/-- the word turned by k is the word -/
def Rot (ws : W2) (k : Nat) : Prop := ∀ x : Nat, ws[(x + k) % ws.length]? = ws[x % ws.length]?
theorem rot_of {ws : W2} {B b' : Int} {k : Nat} {f : Fn} {b : Int} (l : 1 ≤ ws.length) (hf : ∀ x, b ≤ x → f x = cyc ws B x) (h : ∀ x, b' ≤ x → f (x + (k : Int)) = f x) : Rot ws k := fun x => by
  obtain ⟨N, hN⟩ : ∃ N : Nat, b ≤ B + N ∧ b' ≤ B + N := ⟨(b - B).natAbs + (b' - B).natAbs, by omega, by omega⟩
  have hX : (N : Int) ≤ (x : Int) + (N : Int) * (ws.length : Int) := by
    have : (N : Int) * 1 ≤ (N : Int) * (ws.length : Int) := Int.mul_le_mul_of_nonneg_left (by omega) (by omega)
    omega
  have e := h (B + ((x : Int) + (N : Int) * (ws.length : Int))) (by omega)
  rw [hf _ (by omega), hf _ (by omega)] at e
  unfold cyc at e
  rw [show B + ((x : Int) + (N : Int) * (ws.length : Int)) + (k : Int) - B = ((x + k : Nat) : Int) + (N : Int) * (ws.length : Int) from by omega, show B + ((x : Int) + (N : Int) * (ws.length : Int)) - B = (x : Int) + (N : Int) * (ws.length : Int) from by omega,
    Int.add_mul_emod_self_right, Int.add_mul_emod_self_right, ← Int.natCast_emod, ← Int.natCast_emod, Int.toNat_natCast, Int.toNat_natCast] at e
  exact e
theorem rot_per {ws : W2} {k : Nat} {B : Int} (l : 1 ≤ ws.length) (h : Rot ws k) (x : Int) : cyc ws B (x + (k : Int)) = cyc ws B x := by
  unfold cyc
  have L0 : (0 : Int) < (ws.length : Int) := by omega
  have a0 := Int.emod_nonneg (x - B) (show (ws.length : Int) ≠ 0 by omega)
  obtain ⟨y, hy⟩ : ∃ y : Nat, (x - B) % (ws.length : Int) = (y : Int) := ⟨((x - B) % (ws.length : Int)).toNat, (Int.toNat_of_nonneg a0).symm⟩
  have e : (x + (k : Int) - B) % (ws.length : Int) = (((y + k) % ws.length : Nat) : Int) := by
    rw [show x + (k : Int) - B = (x - B) + (k : Int) from by omega, Int.add_emod, hy, Int.add_emod_emod, Int.natCast_emod]
    rfl
  have a1 := Int.emod_lt_of_pos (x - B) L0
  have yl : y < ws.length := by omega
  rw [e, hy, Int.toNat_natCast, Int.toNat_natCast, h y, Nat.mod_eq_of_lt yl]
/-- the least part of a word is no longer than any that it is turned by -/
theorem rot_least {ws : W2} {k : Nat} (l : 1 ≤ ws.length) (k1 : 1 ≤ k) (kd : k ∣ ws.length) (h : Rot ws k) : (leastW ws).length ≤ k := by
  obtain ⟨m, hm⟩ := least_ex l
  have hd := hm.2.1.1
  have hle := Nat.le_of_dvd l hd
  rw [leastW_of hm, List.length_take, Nat.min_eq_left hle]
  by_cases c : k < m
  · refine absurd ⟨kd, ?_⟩ (hm.2.2 k k1 c)
    refine List.ext_getElem? fun i => ?_
    rw [List.getElem?_drop]
    by_cases ci : i + k < ws.length
    · rw [List.getElem?_take_of_lt (by omega)]
      have := h i
      rw [Nat.mod_eq_of_lt ci, Nat.mod_eq_of_lt (by omega)] at this
      rw [Nat.add_comm]
      exact this
    · rw [List.getElem?_eq_none (by omega), List.getElem?_eq_none (by rw [List.length_take]; omega)]
  · omega
/-- turned by what turns the least part -/
theorem rot_up {ws : W2} {k : Nat} (l : 1 ≤ ws.length) (h : Rot (leastW ws) k) : Rot ws k := fun x => by
  have a := leastW_at l x
  have b := leastW_at l (x + k)
  rw [← a, ← b]
  exact h x
/-- what a word says, its least part says -/
theorem cyc_least {ws : W2} {B x : Int} (l : 1 ≤ ws.length) (x0 : B ≤ x) : cyc (leastW ws) B x = cyc ws B x := by
  unfold cyc
  obtain ⟨y, hy⟩ : ∃ y : Nat, x - B = (y : Int) := ⟨(x - B).toNat, (Int.toNat_of_nonneg (by omega)).symm⟩
  rw [hy, ← Int.natCast_emod, ← Int.natCast_emod, Int.toNat_natCast, Int.toNat_natCast]
  exact leastW_at l y
/-- the round of the last word is the least there is -/
theorem last_least {f : Fn} {ws : W2} {B b : Int} (l : 1 ≤ ws.length) (hf : ∀ x, b ≤ x → f x = cyc (leastW ws) B x) {r' b' : Int} (r1 : 1 ≤ r') (h : ∀ x, b' ≤ x → f (x + r') = f x) : ((leastW ws).length : Int) ≤ r' := by
  have lw := leastW_len l
  obtain ⟨n, rfl⟩ : ∃ n : Nat, r' = (n : Int) := ⟨r'.toNat, (Int.toNat_of_nonneg (by omega)).symm⟩
  refine min_per (p := ((leastW ws).length : Int)) (b := b) (by omega) (fun x hx => ?_) (fun k b2 k1 kd hk => ?_) n b' (by omega) h
  · rw [hf _ (by omega), hf _ hx, cyc_per]
  · obtain ⟨k, rfl⟩ : ∃ n : Nat, k = (n : Int) := ⟨k.toNat, (Int.toNat_of_nonneg (by omega)).symm⟩
    have kd := Int.natCast_dvd_natCast.mp kd
    have := rot_least l (by omega) (Nat.dvd_trans kd lw.2) (rot_up l (rot_of lw.1 hf hk))
    omega
/-- alike on so many days ahead, alike on all of them ahead -/
theorem fwB {ws vs : W2} {bA bB b e : Int} (l1 : 1 ≤ ws.length) (l2 : 1 ≤ vs.length) (h : ∀ x, b ≤ x → e - ws.length - vs.length ≤ x → x < e → cyc ws bA x = cyc vs bB x) :
    ∀ (n : Nat) (x : Int), e - x = (n : Int) → b ≤ x → x < e → cyc ws bA x = cyc vs bB x := by
  intro n
  induction n using Nat.strongRecOn with
  | _ n ih =>
    intro x hx bx xe
    by_cases c : e - ws.length - vs.length ≤ x
    · exact h x bx c xe
    · have i1 := ih (n - ws.length) (by omega) (x + ws.length) (by omega) (by omega) (by omega)
      have i2 := ih (n - vs.length) (by omega) (x + vs.length) (by omega) (by omega) (by omega)
      have i3 := ih (n - ws.length - vs.length) (by omega) (x + ws.length + vs.length) (by omega) (by omega) (by omega)
      rw [cyc_per] at i1
      rw [cyc_per] at i2
      rw [cyc_per, show x + (ws.length : Int) + (vs.length : Int) = x + vs.length + ws.length from by omega, cyc_per] at i3
      rw [i1, ← i3, i2]
end K13

namespace K13
open PySem PySem.Spec PyProof.Rows L2
/-! ### the end of a course -/
theorem at_last {xs : List V} {v : V} (l : 1 ≤ xs.length) (h : xs[xs.length - 1]? = some v) : atI xs (-1) = some v := by
  unfold atI ixN
  rw [if_neg (by decide), if_pos (by omega)]
  show xs[((-1 : Int) + (xs.length : Int)).toNat]? = some v
  rw [show ((-1 : Int) + (xs.length : Int)).toNat = xs.length - 1 from by omega]
  exact h
def LastV (f g : Fn) (b e : Int) : Option Int → Prop
  | none => ∀ x, b ≤ x → x < e → f x = g x
  | some d => b ≤ d ∧ d < e ∧ f d ≠ g d ∧ ∀ x, d < x → x < e → f x = g x
def spLastU (K : PySem.W.Frag) (C : Addr) : Sp := fun vs H Q _ => ∃ (s1 s2 : Addr) (b1 b2 begin stop : Int) (e1 e2 : Option Int) (w1 w2 : W2), vs = [.ref s1, .ref s2, .int begin, .int stop] ∧ SpanAt K C H s1 b1 e1 w1 ∧ SpanAt K C H s2 b2 e2 w2 ∧
  1 ≤ w1.length ∧ w1.length ≤ 60 ∧ 1 ≤ w2.length ∧ w2.length ≤ 60 ∧ 0 ≤ begin ∧ begin < stop ∧ stop ≤ 2 ^ 50 ∧ ∀ r, LastV (cyc w1 b1) (cyc w2 b2) begin stop r → Q (dv r) H
def spRound (K : PySem.W.Frag) (C : Addr) : Sp := fun vs H Q _ => ∃ (l : Addr) (ss : List Addr) (told : List Sx), vs = [.ref l] ∧ Spans K C H l ss told ∧ Near told ∧
  ∀ (H' : Hp) (q : Addr) (b r : Int), Same H H' → EndV (onV told) b r → H' q = some (.tup [.int b, .int r]) → Q (.ref q) H'
def spEnd (K : PySem.W.Frag) (C CC : Addr) : Sp := fun vs H Q _ => ∃ (c : Addr) (told : List Sx), vs = [.ref c] ∧ CourseAt K C CC H c told ∧ Near told ∧
  ∀ (H' : Hp) (q : Addr) (b r : Int), Same H H' → EndV (onV told) b r → H' q = some (.tup [.int b, .int r]) → Q (.ref q) H'
section
variable {P : Program} {w : World} {K : PySem.W.Frag} {mg : Str → Option Value} {base : Heap}
abbrev luN : List Str := ["one", "other", "begin", "stop", "first", "day"]
theorem scLastU : FnScope luN ["one", "other", "begin", "stop"] (defScope d_last_unlike_in) := ⟨rfl, rfl, rfl, by decide +kernel, rfl, by decide +kernel, by decide +kernel⟩
theorem ok_lastU {f f2 fE C : Addr} {fd fd2 fdE : FuncData} (F : Fun K "last_unlike_in" "last_unlike_in" d_last_unlike_in f fd) (B : TxtB mg) (hmax : mg "max" = none) (hrange : mg "range" = none)
    (A2 : At P w K mg base CX0 1 "share_on" ["span", "day"] (spShareOn K C) f2 fd2)
    (GE : FnOk P w K mg base CX0 1 fE fdE ["self", "other"] (spEqS K C)) (bE : Binds K fdE ["self", "other"] []) (aE : PySem.W.findIn K (.ref C) "__eq__" = some (some (.ref fE))) (iE : PySem.W.isFn K (.ref fE) = true)
    (hne : PySem.W.findIn K (.ref C) "__ne__" = some (some (.builtin "object.__ne__"))) (hob : PySem.W.subIn K (.ref C) (.type "object") = some true) :
    FnOk P w K mg base CX0 4 f fd ["one", "other", "begin", "stop"] (spLastU K C) := by
  refine F.ok scLastU (fun vs H Q E h => ?_) (fun cdv A outer s H vs Q E hr h => ?_)
  · obtain ⟨_, _, _, _, _, _, _, _, _, _, rfl, _⟩ := h
    rfl
  · obtain ⟨s1, s2, b1, b2, begin, stop, o1, o2, w1, w2, rfl, h1, h2, l1, l1', l2, l2', g0, g1, g2, q⟩ := h
    have own : OwnEq (cxOf CX0 P w K mg base luN "last_unlike_in" (defScope d_last_unlike_in) f cdv A outer s H E).nox 1 C fE := ⟨⟨_, _, GE, bE⟩, aE, iE⟩
    have r1 : Room 1 _ := hr.mono (by decide)
    refine ⟨_, pss_cons (ps_set (i := 4) scLastU.nd rfl (Or.inl rfl) (pe_callB (call_max2 rfl) (by rfl) hmax (by decide +kernel) (pa_cons (pv 2) (pa_cons (pe_op op_sub (pe_op op_sub (pv 3) (pe_callB call_len_seq (by rfl) B.len PySem.boot_len (pa_cons (pe_ix ix_tup (pv 0) pe_int (fun _ _ => rfl)) pa_nil))) (pe_callB call_len_seq (by rfl) B.len PySem.boot_len (pa_cons (pe_ix ix_tup (pv 1) pe_int (fun _ _ => rfl)) pa_nil))) pa_nil))))
      (pss_cons (ps_for PassesOwn.never rfl (pi_range3 (by rfl) hrange (pa_cons (pe_op op_sub (pv 3) pe_int) (pa_cons (pe_op op_sub (pv 4) pe_int) (pa_cons (pe_un un_neg pe_int) pa_nil)))) (pg_name (i := 5) scLastU.nd rfl (.inl rfl))
        (pss_one (ps_if (pt_cmpR (op_neS own hr hne hob) (pe_call A2.G r1 rfl A2.m A2.k A2.b .nil pass0 (pa_cons (pv 0) (pa_cons (pv 5) pa_nil))) (pe_call A2.G r1 rfl A2.m A2.k A2.b .nil pass0 (pa_cons (pv 1) (pa_cons (pv 5) pa_nil))) (nomark _)) (pss_one (ps_ret (pv 5))) pss_nil)))
      (pss_one (ps_ret pe_non))), ?_⟩
    obtain ⟨wa, qa, pa, qa2, qa3⟩ := id h1
    obtain ⟨wb, qb, pb, qb2, qb3⟩ := id h2
    have lpa : (pa.map V.ref).length = w1.length := by rw [List.length_map, qa3.1]
    have lpb : (pb.map V.ref).length = w2.length := by rw [List.length_map, qb3.1]
    refine ⟨_, rfl, _, rfl, _, rfl, s1, _, 2, .ref wa, rfl, rfl, qa, at_k (by decide) rfl, wa, _, rfl, .inr qa2, _, _, rfl, rfl, ?_⟩
    refine ⟨_, rfl, s2, _, 2, .ref wb, rfl, rfl, qb, at_k (by decide) rfl, wb, _, rfl, .inr qb2, _, _, rfl, rfl, ?_⟩
    rw [lpa, lpb]
    refine ⟨_, _, rfl, ?_⟩
    obtain ⟨fi, hfi, f0, f1, f2⟩ : ∃ fi : Int, fi = (if stop - (w1.length : Int) - (w2.length : Int) > begin then stop - (w1.length : Int) - (w2.length : Int) else begin) ∧ begin ≤ fi ∧ fi ≤ stop ∧ (fi = begin ∨ fi ≤ stop - w1.length - w2.length) := by
      refine ⟨_, rfl, ?_⟩
      split <;> omega
    rw [← hfi]
    have w62 : (2 : Int) ^ 50 < 2 ^ 62 := by decide
    refine ⟨_, rfl, _, _, rfl, rfl, _, rfl, _, _, rfl, rfl, _, rfl, stop - 1, fi - 1, -1, _, rfl, RgC.neg (by omega) (by omega) (by omega) (by omega), ?_⟩
    rw [show (stop - 1 - (fi - 1)).toNat = (stop - fi).toNat from by omega]
    refine for_rangeC (lo := stop - 1) (c := -1) (n := (stop - fi).toNat) (fun j σ N => N = H ∧ (∃ v : Option V, σ = [some (.ref s1), some (.ref s2), some (.int begin), some (.int stop), some (.int fi), v]) ∧ ∀ x, stop - (j : Int) ≤ x → x < stop → cyc w1 b1 x = cyc w2 b2 x) ⟨rfl, ⟨_, rfl⟩, fun x a b => by omega⟩ ?_ ?_
    · rintro j σ N hj ⟨rfl, ⟨v, rfl⟩, hx⟩
      obtain ⟨day, hd⟩ : ∃ day : Int, stop - 1 + (j : Nat) * -1 = day := ⟨_, rfl⟩
      have hd' : day = stop - 1 - (j : Int) := by omega
      show gName 5 (V.int (stop - 1 + (j : Nat) * -1)) _ _ _
      rw [hd]
      refine ⟨_, rfl, _, rfl, s1, day, b1, o1, w1, rfl, h1, l1, fun p1 y1 e1 k1 => ?_⟩
      refine ⟨_, rfl, _, rfl, s2, day, b2, o2, w2, rfl, h2, l2, fun p2 y2 e2 k2 => ?_⟩
      have va : cyc w1 b1 day = some y1 := e1
      have vb : cyc w2 b2 day = some y2 := e2
      refine ⟨p1, p2, _, _, _, _, rfl, rfl, k1, k2, _, rfl, ?_⟩
      by_cases e : y1 = y2
      · subst e
        rw [decide_eq_true rfl, decide_eq_true rfl]
        refine iteF ⟨rfl, ⟨_, rfl⟩, fun x x0 x1 => ?_⟩
        by_cases cx : x = day
        · rw [cx, va, vb]
        · exact hx x (by omega) x1
      · have de : (!(decide (y1.1 = y2.1) && decide (y1.2 = y2.2))) = true := by
          rw [← Bool.decide_and, decide_eq_false (fun z => e (Prod.ext z.1 z.2))]
          rfl
        rw [de]
        refine iteT ⟨_, rfl, q (some day) ⟨by omega, by omega, ?_, fun x x0 x1 => hx x (by omega) x1⟩⟩
        rw [va, vb]
        exact fun z => e (Option.some.inj z)
    · rintro σ N ⟨rfl, ⟨v, rfl⟩, hx⟩
      refine q none fun x x0 x1 => fwB l1 l2 (fun y y0 y1 y2 => hx y ?_ y2) (stop - x).toNat x (by omega) x0 x1
      rcases f2 with f2 | f2 <;> omega
abbrev roN : List Str := ["spans", "last", "size", "span", "day"]
theorem scRound : FnScope roN ["spans"] (defScope d_round_of) := ⟨rfl, rfl, rfl, by decide +kernel, rfl, by decide +kernel, by decide +kernel⟩
theorem ok_round {f f1 C : Addr} {fd fd1 : FuncData} (F : Fun K "round_of" "round_of" d_round_of f fd) (B : TxtB mg) (hrev : mg "reversed" = none)
    (A1 : At P w K mg base CX0 4 "last_unlike_in" ["one", "other", "begin", "stop"] (spLastU K C) f1 fd1) : FnOk P w K mg base CX0 5 f fd ["spans"] (spRound K C) := by
  refine F.ok scRound (fun vs H Q E h => ?_) (fun cdv A outer s H vs Q E hr h => ?_)
  · obtain ⟨_, _, _, rfl, _⟩ := h
    rfl
  · obtain ⟨l, ss, told, rfl, sp, near, q⟩ := h
    refine ⟨_, pss_cons (ps_set (i := 1) scRound.nd rfl (Or.inl rfl) (pe_ix ix_list (pv 0) (pe_un un_neg pe_int) (fun _ _ => rfl)))
      (pss_cons (ps_set (i := 2) scRound.nd rfl (Or.inl rfl) (pe_callB call_len_seq (by rfl) B.len PySem.boot_len (pa_cons (pe_ix ix_tup (pv 1) pe_int (fun _ _ => rfl)) pa_nil)))
      (pss_cons (ps_for PassesOwn.never rfl (pi_reversed (by rfl) hrev (pa_cons (pe_slice sl_list (pv 0) po_none (po_some (pe_un un_neg pe_int))) pa_nil)) (pg_name (i := 3) scRound.nd rfl (.inl rfl))
        (pss_cons (ps_set (i := 4) scRound.nd rfl (Or.inl rfl) (pe_call A1.G hr rfl A1.m A1.k A1.b .nil pass0 (pa_cons (pv 3) (pa_cons (pv 1) (pa_cons (pe_ix ix_tup (pv 3) pe_int (fun _ _ => rfl)) (pa_cons (pe_ix ix_tup (pv 3) pe_int (fun _ _ => rfl)) pa_nil))))))
        (pss_one (ps_if (pt_cmp (pc_notN (pv 4))) (pss_one (ps_ret (pe_tup (pa_cons (pe_op op_add (pv 4) pe_int) (pa_cons (pv 2) pa_nil))))) pss_nil))))
      (pss_one (ps_ret (pe_tup (pa_cons pe_int (pa_cons (pv 2) pa_nil))))))), ?_⟩
    have ok := sp.ok
    have pos := ok.pos
    have lss := sp.len
    have hL : told[told.length - 1]? = some (told[told.length - 1]'(by omega)) := List.getElem?_eq_getElem (by omega)
    have lastN := (ok.open_ _ _ hL).mpr (by omega)
    have lw := (ok.word _ _ hL).1
    have es : ss[told.length - 1]? = some (ss[told.length - 1]'(by omega)) := List.getElem?_eq_getElem (by omega)
    obtain ⟨xl, hxl, spl⟩ := sp.at_ _ _ es
    rw [hL] at hxl
    injection hxl with hxl
    subst hxl
    rw [lastN] at spl
    have spl : SpanAt K C H (ss[told.length - 1]'(by omega)) (bAt told (told.length - 1)) none (leastW (told[told.length - 1]'(by omega)).2) := spl
    generalize hBL : bAt told (told.length - 1) = BL at *
    generalize hwl : (told[told.length - 1]'(by omega)) = xl at *
    generalize hsl : (ss[told.length - 1]'(by omega)) = sl at *
    obtain ⟨wl, ql, pl, ql2, ql3⟩ := id spl
    have lpl : (pl.map V.ref).length = (leastW xl.2).length := by rw [List.length_map, ql3.1]
    have lwl := leastW_len lw
    have lwl60 : (leastW xl.2).length ≤ 60 := by
      have := Nat.le_of_dvd lw lwl.2
      have := (ok.word _ _ hL).2
      omega
    -- from the last begin on
    have tail : ∀ x, BL ≤ x → onV told x = cyc (leastW xl.2) BL x := fun x hx => by
      have a : AtDay told (told.length - 1) x := ⟨by omega, by omega, fun s e => by
        unfold stopOf at e
        rw [hL] at e
        have e : (xl.1.map fun n => bAt told (told.length - 1) + n) = some s := e
        rw [lastN] at e
        cases e⟩
      rw [on_day ok a hL, cyc_least lw hx]
      unfold cyc
      rw [hBL]
    have least : ∀ r' b', 1 ≤ r' → (∀ x, b' ≤ x → onV told (x + r') = onV told x) → ((leastW xl.2).length : Int) ≤ r' := fun r' b' h1 h2 => last_least lw tail h1 h2
    refine ⟨_, rfl, _, rfl, l, _, _, .ref sl, rfl, rfl, sp.l, ?_, ?_⟩
    · refine at_last (by rw [List.length_map]; omega) ?_
      rw [List.length_map, List.getElem?_map, lss, es]
      rfl
    refine ⟨_, rfl, sl, _, 2, .ref wl, rfl, rfl, ql, at_k (by decide) rfl, wl, _, rfl, .inr ql2, ?_⟩
    rw [lpl]
    refine ⟨_, rfl, _, rfl, _, rfl, l, _, rfl, sp.l, fun S hS => ?_⟩
    rw [show cutV (ss.map V.ref) none (some (-1)) = (ss.map V.ref).take ((ss.map V.ref).length - 1) from cut_back (n := 1) (by decide), List.length_map, ← List.map_take]
    have s1 : Same H (upd H S (.lst ((ss.take (ss.length - 1)).map V.ref))) := same1 hS
    have eS : (upd H S (.lst ((ss.take (ss.length - 1)).map V.ref)) : Hp) S = some (.lst ((ss.take (ss.length - 1)).map V.ref)) := upd_same
    generalize upd H S (.lst ((ss.take (ss.length - 1)).map V.ref)) = H1 at *
    have sp1 := sp.mono s1
    have spl1 := spl.mono s1
    have lS : ((ss.take (ss.length - 1)).map V.ref).length = told.length - 1 := by rw [List.length_map, List.length_take]; omega
    refine ⟨S, _, rfl, SqL.of eS, ?_⟩
    refine for_it (walk_rev (K := K) (a := S) (xs := (ss.take (ss.length - 1)).map V.ref)) (fun i σ G => G = H1 ∧ (∃ v3 v4 : Option V, σ = [some (.ref l), some (.ref sl), some (.int ((leastW xl.2).length : Int)), v3, v4]) ∧ ∀ x, bAt told (told.length - 1 - i) ≤ x → onV told x = cyc (leastW xl.2) BL x)
      ⟨rfl, ⟨_, _, rfl⟩, fun x hx => tail x (by rw [Nat.sub_zero, hBL] at hx; exact hx)⟩ ?_ ?_ ?_
    · rintro i σ G _ ⟨rfl, _⟩
      exact SqL.of eS
    · rintro i x σ G G' hi ⟨rfl, ⟨v3, v4, rfl⟩, hx⟩ ⟨rfl, ey⟩
      rw [lS] at hi ey
      obtain ⟨k, hk⟩ : ∃ k : Nat, told.length - 1 - 1 - i = k := ⟨_, rfl⟩
      rw [hk, List.getElem?_map, List.getElem?_take_of_lt (by omega)] at ey
      obtain ⟨sk, hsk, rfl⟩ := Option.map_eq_some_iff.mp ey
      have kl : k < told.length - 1 := by omega
      obtain ⟨xk, hxk, spk⟩ := sp1.at_ k sk hsk
      obtain ⟨m, em, m1⟩ := ok.ends (k := told.length - 1) kl (by omega) hxk
      have bn := bAt_next hxk
      rw [em] at bn spk
      have bn : bAt told (k + 1) = bAt told k + m := bn
      have spk : SpanAt K C G' sk (bAt told k) (some (bAt told k + m)) (leastW (cutO (some m) xk.2)) := spk
      have hx : ∀ x, bAt told (k + 1) ≤ x → onV told x = cyc (leastW xl.2) BL x := by
        rw [show told.length - 1 - i = k + 1 from by omega] at hx
        exact hx
      have b0 : 0 ≤ bAt told k := by
        have := bAt_mono ok k 0 (by omega)
        rw [bAt_zero, Nat.zero_add] at this
        exact this
      have st : stopOf told k = some (bAt told k + m) := by
        unfold stopOf
        rw [hxk]
        show xk.1.map _ = _
        rw [em]
        rfl
      have ak : AtDay told k (bAt told k) := ⟨by omega, Int.le_refl _, fun s e => by rw [st] at e; cases e; omega⟩
      obtain ⟨lk, onk⟩ := in_span ok ak hxk
      rw [em] at lk onk
      have nk := near k _ st
      obtain ⟨wk, qk, pk, qk2, qk3⟩ := id spk
      refine ⟨_, rfl, _, rfl, _, rfl, sk, _, 0, .int (bAt told k), rfl, rfl, qk, at_k (by decide) rfl, _, rfl, sk, _, 1, .int (bAt told k + m), rfl, rfl, qk, at_k (by decide) rfl, ?_⟩
      refine ⟨sk, sl, bAt told k, BL, bAt told k, bAt told k + m, _, _, _, _, rfl, spk, spl1, lk.1, lk.2, lwl.1, lwl60, b0, by omega, nk, fun r lv => ?_⟩
      have onk' : ∀ y, bAt told k ≤ y → y < bAt told k + m → onV told y = cyc (leastW (cutO (some m) xk.2)) (bAt told k) y := fun y y0 y1 => onk y y0 (fun s e => by rw [st] at e; cases e; exact y1)
      refine ⟨_, rfl, _, rfl, ?_⟩
      cases r with
      | none =>
        refine iteN (decide_eq_true rfl) ⟨rfl, ⟨_, _, rfl⟩, fun x x0 => ?_⟩
        rw [show told.length - 1 - (i + 1) = k from by omega] at x0
        by_cases c : x < bAt told k + m
        · rw [onk' x x0 c]
          exact lv x x0 c
        · exact hx x (by omega)
      | some d =>
        obtain ⟨d0, d1, dne, dal⟩ := lv
        show if (!decide (V.int d = V.non)) = true then _ else _
        rw [decide_eq_false (show ¬ (V.int d = V.non) from fun z => nomatch z)]
        have from_ : ∀ x, d + 1 ≤ x → onV told x = cyc (leastW xl.2) BL x := fun x x0 => by
          by_cases c : x < bAt told k + m
          · rw [onk' x (by omega) c]
            exact dal x (by omega) c
          · exact hx x (by omega)
        refine iteT ⟨_, rfl, _, _, rfl, rfl, _, rfl, (by show 2 ≤ sizeLine; decide), fun T hT => ?_⟩
        refine q _ T (d + 1) _ (s1.trans (same1 hT)) ⟨by omega, by omega, fun x x0 => ?_, fun _ => ?_, least⟩ upd_same
        · rw [from_ _ (by omega), from_ _ x0, cyc_per]
        · rw [show d + 1 - 1 = d from by omega, from_ _ (by omega), onk' d d0 d1, cyc_per]
          exact fun z => dne z.symm
    · rintro σ G ⟨rfl, ⟨v3, v4, rfl⟩, hx⟩
      rw [lS, Nat.sub_self, bAt_zero] at hx
      refine ⟨_, rfl, (by show 2 ≤ sizeLine; decide), fun T hT => ?_⟩
      refine q _ T 0 _ (s1.trans (same1 hT)) ⟨by omega, Int.le_refl _, fun x x0 => ?_, fun z => absurd z (Int.lt_irrefl _), least⟩ upd_same
      rw [hx _ (by omega), hx _ x0, cyc_per]
theorem scEnd : FnScope ["course"] ["course"] (defScope d_end) := ⟨rfl, rfl, rfl, by decide +kernel, rfl, by decide +kernel, by decide +kernel⟩
theorem ok_end {f f1 C CC : Addr} {fd fd1 : FuncData} (F : Fun K "end" "end" d_end f fd) (TC : CrsC K CC) (A1 : At P w K mg base CX0 5 "round_of" ["spans"] (spRound K C) f1 fd1) : FnOk P w K mg base CX0 6 f fd ["course"] (spEnd K C CC) := by
  refine F.ok scEnd (fun vs H Q E h => ?_) (fun cdv A outer s H vs Q E hr h => ?_)
  · obtain ⟨_, _, rfl, _⟩ := h
    rfl
  · obtain ⟨c, told, rfl, ⟨dx, l, ss, hc, hl, lss, hss, ok⟩, near, q⟩ := h
    refine ⟨_, pss_one (ps_ret (pe_call A1.G hr rfl A1.m A1.k A1.b .nil pass0 (pa_cons (pe_fld (pv 0) rfl) pa_nil))), ?_⟩
    exact ⟨_, rfl, c, CC, dx, _, _, rfl, hc, TC.cl, TC.no, crs_spans l, l, ss, told, rfl, ⟨hl, lss, hss, ok⟩, near, q⟩
end
end K13

namespace K13
open PySem PySem.Spec PyProof.Rows L2
/-! ### later -/
def spWordFrom (K : PySem.W.Frag) (C : Addr) : Sp := fun vs H Q _ => ∃ (s : Addr) (b day : Int) (e : Option Int) (ws : W2), vs = [.ref s, .int day] ∧ SpanAt K C H s b e ws ∧ 1 ≤ ws.length ∧ ws.length ≤ 60 ∧
  ∀ (H' : Hp) (r : Addr), Same H H' → WordAt K C H' r (turnW ws (day - b)) → Q (.ref r) H'
theorem ShAll.all2' {C : Addr} {H : Hp} {ps : List Addr} {ws : W2} : ShAll C H ps ws ↔ All2 (fun p (x : Int × Int) => ShAt C H p x.1 x.2) ps ws := ⟨fun h => ⟨h.1, h.2⟩, fun h => ⟨h.len, h.all⟩⟩
section
variable {P : Program} {w : World} {K : PySem.W.Frag} {mg : Str → Option Value} {base : Heap}
abbrev wfN : List Str := ["span", "day", "begin", "_", "word", "at"]
theorem scWFrom : FnScope wfN ["span", "day"] (defScope d_word_from) := ⟨rfl, rfl, rfl, by decide +kernel, rfl, by decide +kernel, by decide +kernel⟩
theorem ok_wfrom {f C : Addr} {fd : FuncData} (F : Fun K "word_from" "word_from" d_word_from f fd) (B : TxtB mg) : FnOk P w K mg base CX0 1 f fd ["span", "day"] (spWordFrom K C) := by
  refine F.ok scWFrom (fun vs H Q E h => ?_) (fun cdv A outer s H vs Q E hr h => ?_)
  · obtain ⟨_, _, _, _, _, rfl, _⟩ := h
    rfl
  · obtain ⟨t, b, day, e, ws, rfl, ⟨wa, q1, ps, q2, q3⟩, l1, l60, q⟩ := h
    refine ⟨_, pss_cons (ps_asg (pv 0) (pg_tup (by rfl) (pgs_cons (pg_name (i := 2) scWFrom.nd rfl (.inl rfl)) (pgs_cons (pg_name (i := 3) scWFrom.nd rfl (.inl rfl)) (pgs_cons (pg_name (i := 4) scWFrom.nd rfl (.inl rfl)) pgs_nil)))))
      (pss_cons (ps_set (i := 5) scWFrom.nd rfl (Or.inl rfl) (pe_op op_mod (pe_op op_sub (pv 1) (pv 2)) (pe_callB call_len_seq (by rfl) B.len PySem.boot_len (pa_cons (pv 4) pa_nil))))
      (pss_one (ps_ret (pe_op op_catT (pe_slice sl_tupA (pv 4) (po_some (pv 5)) po_none) (pe_slice sl_tupA (pv 4) po_none (po_some (pv 5))))))), ?_⟩
    have lp : (ps.map V.ref).length = ws.length := by rw [List.length_map, q3.1]
    have n0 := Int.emod_nonneg (day - b) (show (ws.length : Int) ≠ 0 by omega)
    have n1 := Int.emod_lt_of_pos (day - b) (show (0 : Int) < (ws.length : Int) by omega)
    obtain ⟨k, hk⟩ : ∃ k : Nat, (day - b) % (ws.length : Int) = (k : Int) := ⟨((day - b) % (ws.length : Int)).toNat, (Int.toNat_of_nonneg n0).symm⟩
    have kl : k < ws.length := by omega
    have tw : turnW ws (day - b) = ws.drop k ++ ws.take k := by
      unfold turnW
      rw [hk, Int.toNat_natCast]
    rw [tw] at q
    refine ⟨_, rfl, t, _, rfl, q1, rfl, _, _, rfl, _, _, rfl, _, _, rfl, rfl, ?_⟩
    refine ⟨_, rfl, _, rfl, _, _, rfl, rfl, _, rfl, wa, _, rfl, .inr q2, _, _, rfl, rfl, (by rw [lp]; omega), ?_⟩
    rw [lp]
    show gName 5 (V.int ((day - b) % (ws.length : Int))) _ _ _
    rw [hk]
    have c1 : cutV (ps.map V.ref) (some (k : Int)) none = (ps.drop k).map V.ref := by rw [cut_from (by rw [lp]; omega), List.map_drop]
    have c2 : cutV (ps.map V.ref) none (some (k : Int)) = (ps.take k).map V.ref := by rw [cut_to, List.map_take]
    have al := ShAll.all2'.mp q3
    have nw : ¬ (HT.sIx (ps.map V.ref).length 0 none = 0 ∧ HT.sIx (ps.map V.ref).length (ps.map V.ref).length (some (k : Int)) = (ps.map V.ref).length) := fun h => by
      have := h.2
      rw [HT.sIx_nat, lp] at this
      omega
    by_cases k0 : k = 0
    · subst k0
      refine ⟨_, rfl, _, rfl, _, rfl, wa, _, rfl, q2, fun _ => ?_, fun n => absurd ⟨by rw [HT.sIx_nat]; simp, HT.sIx_none ..⟩ n⟩
      refine ⟨_, rfl, _, rfl, _, rfl, wa, _, rfl, q2, fun h => absurd h nw, fun _ p2 h2 => ?_⟩
      rw [c2]
      refine ⟨wa, p2, _, _, rfl, rfl, Same.tup (same1 h2) q2, SqT.of upd_same, (fun z => by have := congrArg List.length z; rw [lp] at this; have this : ws.length = 0 := this; omega), ?_, fun _ => ?_, fun n => absurd rfl n⟩
      · rw [lp]
        exact Nat.le_trans (show ws.length + 0 ≤ 60 by omega) (show 60 ≤ sizeLine by decide)
      · refine q _ wa (same1 h2) ⟨ps, Same.tup (same1 h2) q2, ?_⟩
        simp only [List.drop_zero, List.take_zero, List.append_nil]
        exact q3.mono (same1 h2)
    · have nw1 : ¬ (HT.sIx (ps.map V.ref).length 0 (some (k : Int)) = 0 ∧ HT.sIx (ps.map V.ref).length (ps.map V.ref).length none = (ps.map V.ref).length) := fun h => by
        have := h.1
        rw [HT.sIx_nat, lp] at this
        omega
      refine ⟨_, rfl, _, rfl, _, rfl, wa, _, rfl, q2, fun h => absurd h nw1, fun _ p1 h1 => ?_⟩
      rw [c1]
      have s1 : Same H (upd H p1 (.tup ((ps.drop k).map V.ref))) := same1 h1
      have e1 : (upd H p1 (.tup ((ps.drop k).map V.ref)) : Hp) p1 = some (.tup ((ps.drop k).map V.ref)) := upd_same
      generalize upd H p1 (.tup ((ps.drop k).map V.ref)) = H1 at *
      refine ⟨_, rfl, _, rfl, _, rfl, wa, _, rfl, Same.tup s1 q2, fun h => absurd h nw, fun _ p2 h2 => ?_⟩
      rw [c2]
      have s2 : Same H1 (upd H1 p2 (.tup ((ps.take k).map V.ref))) := same1 h2
      have e2 : (upd H1 p2 (.tup ((ps.take k).map V.ref)) : Hp) p2 = some (.tup ((ps.take k).map V.ref)) := upd_same
      generalize upd H1 p2 (.tup ((ps.take k).map V.ref)) = H2 at *
      have lps : ps.length = ws.length := q3.1
      refine ⟨p1, p2, _, _, rfl, rfl, SqT.of (s2 _ _ e1), SqT.of e2, (fun z => by have := congrArg List.length z; rw [List.length_map, List.length_drop] at this; have this : ps.length - k = 0 := this; omega), ?_, fun z => ?_, fun _ p3 h3 => ?_⟩
      · rw [List.length_map, List.length_map, List.length_drop, List.length_take]
        exact Nat.le_trans (show ps.length - k + min k ps.length ≤ 60 by omega) (show 60 ≤ sizeLine by decide)
      · exfalso
        have := congrArg List.length z
        rw [List.length_map, List.length_take] at this
        have this : min k ps.length = 0 := this
        omega
      · rw [← List.map_append]
        have s3 := (s1.trans s2).trans (same1 (o := .tup ((ps.drop k ++ ps.take k).map V.ref)) h3)
        exact q _ p3 s3 ⟨_, SqT.of upd_same, ShAll.all2'.mpr (((al.drop k).app (al.take k)).mono fun p x _ _ z => by
          obtain ⟨dx, e⟩ := z
          exact ⟨dx, s3 _ _ e⟩)⟩
theorem scCrsOf : FnScope ["spans", "course"] ["spans"] (defScope d_course_of) := ⟨rfl, rfl, rfl, by decide +kernel, rfl, by decide +kernel, by decide +kernel⟩
def spCrsOf (K : PySem.W.Frag) (C CC : Addr) : Sp := fun vs H Q _ => ∃ (l : Addr) (ss : List Addr) (told : List Sx), vs = [.ref l] ∧ Spans K C H l ss told ∧ ∀ (H' : Hp) (c : Addr), Same H H' → CourseAt K C CC H' c told → Q (.ref c) H'
theorem ok_crsof {f fI fJ C CN CC : Addr} {fd fdI fdJ : FuncData} {u0 : Value} (F : Fun K "course_of" "course_of" d_course_of f fd) (T : Txt K mg C CN) (TC : CrsC K CC)
    (M : Mk K C fI) (GI : FnOk P w K mg base (L2.CX P w) 2 fI fdI ["self", "top", "bottom"] (spInit C CN)) (bI1 : Binds K fdI ["self", "top", "bottom"] [u0]) (vd : Vals [.int 1] [u0])
    (mC : mg "Course" = some (.ref CC)) (MC : Mk K CC fJ) (GJ : FnOk P w K mg base (L2.CX P w) 5 fJ fdJ ["self", "stretches"] (spCInit K C CC)) (bJ : Binds K fdJ ["self", "stretches"] []) :
    FnOk P w K mg base CX0 7 f fd ["spans"] (spCrsOf K C CC) := by
  refine F.ok scCrsOf (fun vs H Q E h => ?_) (fun cdv A outer s H vs Q E hr h => ?_)
  · obtain ⟨_, _, _, rfl, _⟩ := h
    rfl
  · obtain ⟨l, ss, told, rfl, sp, q⟩ := h
    have r3 : Room 3 _ := hr.mono (by decide)
    refine ⟨_, pss_cons (ps_set (i := 1) scCrsOf.nd rfl (Or.inl rfl) (pe_make MC GJ hr rfl mC bJ .nil passL (pa_cons (pe_lst (pa_cons (pe_tup (pa_cons pe_non (pa_cons (pe_tup (pa_cons (pe_make M GI r3 rfl T.mgC bI1 vd passL (pa_cons pe_int pa_nil)) pa_nil)) pa_nil))) pa_nil)) pa_nil)))
      (pss_cons (ps_fld (pv 1) (pv 0) rfl)
      (pss_one (ps_ret (pv 1)))), ?_⟩
    refine fun x1 dx1 nx1 nd1 _ => ⟨x1, dx1, 0, 1, rfl, upd_same, by decide, by decide, fun e => absurd e (by decide), fun _ M1 g1 k1 => ⟨rfl, ?_⟩⟩
    have sM1 : Same H M1 := made_same (C := C) nx1 nd1 k1
    have lo1' := low_self (t := 0) (b := 1) (by decide) (by decide)
    rw [lo1'.1, lo1'.2] at g1
    refine ⟨(by show 1 ≤ sizeLine; decide), fun t1 h1 => ⟨(by show 2 ≤ sizeLine; decide), fun t2 h2 => ⟨(by show 1 ≤ sizeLine; decide), fun L hL => ?_⟩⟩⟩
    have s1 : Same M1 (upd M1 t1 (.tup [.ref x1])) := same1 h1
    have e1 : (upd M1 t1 (.tup [.ref x1]) : Hp) t1 = some (.tup [.ref x1]) := upd_same
    generalize upd M1 t1 (.tup [.ref x1]) = M2 at *
    have s2 : Same M2 (upd M2 t2 (.tup [.non, .ref t1])) := same1 h2
    have e2 : (upd M2 t2 (.tup [.non, .ref t1]) : Hp) t2 = some (.tup [.non, .ref t1]) := upd_same
    generalize upd M2 t2 (.tup [.non, .ref t1]) = M3 at *
    have s3 : Same M3 (upd M3 L (.lst [.ref t2])) := same1 hL
    have e3 : (upd M3 L (.lst [.ref t2]) : Hp) L = some (.lst [.ref t2]) := upd_same
    generalize upd M3 L (.lst [.ref t2]) = M4 at *
    have sh : ShAt C M4 x1 0 1 := ⟨dx1, s3 _ _ (s2 _ _ (s1 _ _ g1))⟩
    intro x dx nx ndx nex
    have sx : Same M4 (upd (upd M4 dx (.own x)) x (.ins CC dx [])) := made_same (C := CC) nx ndx (fun a _ => rfl)
    have tok : Told [((none : Option Int), [((0 : Int), (1 : Int))])] := TLx.told (xs := [(none, [(0, 1)])]) ⟨rfl, by decide⟩ (by decide) (fun z hz => by rw [List.mem_singleton.mp hz]; decide)
    refine ⟨x, dx, L, [(none, [(0, 1)])], rfl, upd_same, ⟨[t2], sx.seq (SqL.of e3), rfl, fun i t y h5 h6 => ?_⟩, tok, fun H' hc kp => ⟨rfl, ?_⟩⟩
    · cases i with
      | zero =>
        have h5 : t2 = t := by simpa using h5
        have h6 : ((none : Option Int), [((0 : Int), (1 : Int))]) = y := by simpa using h6
        subst h5 h6
        exact StrAt.mono ⟨t1, SqT.of (s3 _ _ e2), [x1], SqT.of (s3 _ _ (s2 _ _ e1)), rfl, fun j p z a b => by
          cases j with
          | zero =>
            have a : x1 = p := by simpa using a
            have b : ((0 : Int), (1 : Int)) = z := by simpa using b
            subst a b
            exact sh
          | succ j => simp at a⟩ sx
      | succ i => simp at h5
    · have s04 : Same H M4 := sM1.trans (s1.trans (s2.trans s3))
      have s0' : Same H H' := fun b o e => by
        have e4 := s04 _ _ e
        exact kp b o (ne_of_none e4 nx) (sx _ _ e4)
      obtain ⟨dx', l0, ss0, hx, _⟩ := hc
      have sp' := sp.mono s0'
      refine ⟨_, rfl, _, rfl, x, CC, dx', _, rfl, hx, TC.cl, TC.no, (by show 1 < 1000; decide), ?_⟩
      have nxH : H x = none := none_same s04 nx
      have k5 : ∀ a o, a ≠ x → H' a = some o → upd H' x (.ins CC dx' (putF "spans" (.ref l) (crs l0))) a = some o := fun a o n e => by rw [upd_ne n]; exact e
      have w5 : ∀ {a : Addr} {o : HO}, H a = some o → upd H' x (.ins CC dx' (putF "spans" (.ref l) (crs l0))) a = some o := fun {a o} e => k5 a o (ne_of_none e nxH) (s0' _ _ e)
      have sF : Same H (upd H' x (.ins CC dx' (putF "spans" (.ref l) (crs l0)))) := fun a o e => w5 e
      refine ⟨_, rfl, q _ x sF ⟨dx', l, ss, upd_same, (sp.mono sF).l, (sp.mono sF).len, (sp.mono sF).at_, sp.ok⟩⟩
end
end K13

namespace K13
open PySem PySem.Spec PyProof.Rows L2
/-! ### later, so many days -/
noncomputable def late1 (x : Sx) (h : Int) : List Sx := match x.1 with
  | none => [(none, turnW (leastW (cutO none x.2)) (max 0 h))]
  | some n => if h < n then [(some (n - max 0 h), turnW (leastW (cutO (some n) x.2)) (max 0 h))] else []
noncomputable def lat : List Sx → Int → List Sx
  | [], _ => []
  | x :: r, h => late1 x h ++ lat r (h - x.1.getD 0)
theorem lat_snoc : ∀ (xs : List Sx) (x : Sx) (h : Int), lat (xs ++ [x]) h = lat xs h ++ late1 x (h - (xs.map fun y => y.1.getD 0).sum)
  | [], x, h => by
    show late1 x h ++ [] = [] ++ late1 x (h - 0)
    rw [Int.sub_zero, List.append_nil, List.nil_append]
  | y :: r, x, h => by
    show late1 y h ++ lat (r ++ [x]) (h - y.1.getD 0) = (late1 y h ++ lat r (h - y.1.getD 0)) ++ late1 x (h - (y.1.getD 0 + (r.map fun y => y.1.getD 0).sum))
    rw [lat_snoc r x, List.append_assoc, show h - y.1.getD 0 - (r.map fun y => y.1.getD 0).sum = h - (y.1.getD 0 + (r.map fun y => y.1.getD 0).sum) from by omega]
theorem lat_next {told : List Sx} {i : Nat} {x : Sx} (hx : told[i]? = some x) (h : Int) : lat (told.take (i + 1)) h = lat (told.take i) h ++ late1 x (h - bAt told i) := by
  obtain ⟨hi, e⟩ := List.getElem?_eq_some_iff.mp hx
  rw [List.take_succ_eq_append_getElem hi, e, lat_snoc]
  rfl
theorem late_at {d : Option Int} {w : W2} {x hh : Int} (l : 1 ≤ w.length) (hd : ∀ n, d = some n → 1 ≤ n) (h0 : 0 ≤ hh) (x0 : 0 ≤ x) (hx : ∀ n, d = some n → x + hh < n) :
    (turnW (leastW (cutO d w)) hh)[(x % ((turnW (leastW (cutO d w)) hh).length : Int)).toNat]? = w[((x + hh) % (w.length : Int)).toNat]? := by
  have lc := leastW_len (cutO_pos hd l)
  have t := turn_at lc.1 hh (x + hh)
  rw [turn_len]
  rw [show x + hh - hh = x from by omega] at t
  rw [t]
  exact cut_at l hd (by omega) hx
theorem onV_lat : ∀ {xs : List Sx} {h x : Int}, TLx xs → 0 ≤ x → onV (lat xs h) x = onV xs (x + max 0 h)
  | (none, w) :: r, h, x, t, x0 => by
    have t : r = [] ∧ 1 ≤ w.length := t
    exact late_at (d := none) t.2 (fun _ z => nomatch z) (by omega) x0 (fun _ z => nomatch z)
  | (some n, w) :: r, h, x, t, x0 => by
    have t : 1 ≤ n ∧ 1 ≤ w.length ∧ TLx r := t
    show onV ((if h < n then [(some (n - max 0 h), turnW (leastW (cutO (some n) w)) (max 0 h))] else []) ++ lat r (h - n)) x = if x + max 0 h < n then w[((x + max 0 h) % (w.length : Int)).toNat]? else onV r (x + max 0 h - n)
    by_cases c : h < n
    · rw [if_pos c]
      show (if x < n - max 0 h then (turnW (leastW (cutO (some n) w)) (max 0 h))[(x % ((turnW (leastW (cutO (some n) w)) (max 0 h)).length : Int)).toNat]? else onV (lat r (h - n)) (x - (n - max 0 h))) = _
      by_cases c2 : x + max 0 h < n
      · rw [if_pos (by omega), if_pos c2]
        exact late_at (d := some n) t.2.1 (fun m z => by cases z; exact t.1) (by omega) x0 (fun m z => by cases z; exact c2)
      · rw [if_neg (by omega), if_neg c2, onV_lat t.2.2 (by omega)]
        congr 1
        omega
    · rw [if_neg c, if_neg (by omega)]
      show onV (lat r (h - n)) x = _
      rw [onV_lat t.2.2 x0]
      congr 1
      omega
theorem TLx.lat : ∀ {xs : List Sx} {h : Int}, TLx xs → TLx (lat xs h) ∧ (lat xs h).length ≤ xs.length
  | [], _, t => t.elim
  | (none, w) :: r, h, t => by
    have t : r = [] ∧ 1 ≤ w.length := t
    rw [t.1]
    exact ⟨⟨rfl, by rw [turn_len]; exact (leastW_len (cutO_pos (d := none) (fun _ z => nomatch z) t.2)).1⟩, Nat.le_refl _⟩
  | (some n, w) :: r, h, t => by
    have t : 1 ≤ n ∧ 1 ≤ w.length ∧ TLx r := t
    have ih := TLx.lat (h := h - n) t.2.2
    show TLx ((if h < n then [(some (n - max 0 h), turnW (leastW (cutO (some n) w)) (max 0 h))] else []) ++ K13.lat r (h - n)) ∧ ((if h < n then [(some (n - max 0 h), turnW (leastW (cutO (some n) w)) (max 0 h))] else []) ++ K13.lat r (h - n)).length ≤ r.length + 1
    split
    · exact ⟨⟨by omega, by rw [turn_len]; exact (leastW_len (cutO_pos (fun m z => by cases z; exact t.1) t.2.1)).1, ih.1⟩, by rw [List.length_append]; show 1 + _ ≤ _; omega⟩
    · exact ⟨ih.1, by show (K13.lat r (h - n)).length ≤ _; omega⟩
theorem lat_mem : ∀ {xs : List Sx} {h : Int} {x : Sx}, x ∈ lat xs h → ∃ y ∈ xs, x.2.length ≤ y.2.length ∧ (∀ m, x.1 = some m → ∃ n, y.1 = some n ∧ m ≤ n)
  | [], h, x, m => by cases m
  | y :: r, h, x, m => by
    have m : x ∈ late1 y h ++ lat r (h - y.1.getD 0) := m
    rcases List.mem_append.mp m with q | q
    · refine ⟨y, List.mem_cons_self, ?_⟩
      obtain ⟨d, w⟩ := y
      have ll : ∀ d : Option Int, (turnW (leastW (cutO d w)) (max 0 h)).length ≤ w.length := fun d => by
        rw [turn_len]
        have c := cutO_le (d := d) (ws := w)
        by_cases z : 1 ≤ (cutO d w).length
        · have := Nat.le_of_dvd z (leastW_len z).2
          omega
        · have e : cutO d w = [] := List.length_eq_zero_iff.mp (by omega)
          rw [e]
          have : leastW ([] : W2) = [] := by
            unfold leastW
            split <;> simp
          rw [this]
          exact Nat.zero_le _
      cases d with
      | none =>
        have q := List.mem_singleton.mp (show x ∈ [((none : Option Int), turnW (leastW (cutO none w)) (max 0 h))] from q)
        rw [q]
        exact ⟨ll none, fun m z => nomatch z⟩
      | some n =>
        have q : x ∈ (if h < n then [((some (n - max 0 h) : Option Int), turnW (leastW (cutO (some n) w)) (max 0 h))] else []) := q
        split at q
        · rw [List.mem_singleton.mp q]
          exact ⟨ll _, fun m z => by cases z; exact ⟨n, rfl, by omega⟩⟩
        · cases q
    · obtain ⟨z, hz, k⟩ := lat_mem q
      exact ⟨z, List.mem_cons_of_mem _ hz, k⟩
theorem Told.lat {told : List Sx} (ok : Told told) (h : Int) : Told (lat told h) := by
  have t := (told_tl ok).lat (h := h)
  refine t.1.told (by have := ok.few; omega) fun x hx => ?_
  obtain ⟨y, hy, l, _⟩ := lat_mem hx
  obtain ⟨i, hi⟩ := List.mem_iff_getElem?.mp hy
  have := (ok.word i y hi).2
  omega
theorem Keep.str' {K : PySem.W.Frag} {C : Addr} {H H' : Hp} {t : Addr} {x : Sx} (k : Keep H H') (h : StrAt K C H t x) : StrAt K C H' t x := by
  obtain ⟨wa, a, ps, b, c⟩ := h
  exact ⟨wa, k.tup a, ps, k.tup b, k.all c⟩
def spLater (K : PySem.W.Frag) (C CC : Addr) : Sp := fun vs H Q _ => ∃ (c : Addr) (d : Int) (told : List Sx), vs = [.ref c, .int d] ∧ CourseAt K C CC H c told ∧ 0 ≤ d ∧ d ≤ 1000000000000000 ∧ ∀ (H' : Hp) (r : Addr), Same H H' → CourseAt K C CC H' r (lat told d) → Q (.ref r) H'
section
variable {P : Program} {w : World} {K : PySem.W.Frag} {mg : Str → Option Value} {base : Heap}
abbrev laN : List Str := ["course", "days", "stretches", "span", "begin", "stop", "_", "first"]
theorem scLater : FnScope laN ["course", "days"] (defScope d_later) := ⟨rfl, rfl, rfl, by decide +kernel, rfl, by decide +kernel, by decide +kernel⟩
theorem ok_later {f f1 f2 f3 f4 C CC CD : Addr} {fd fd1 fd2 fd3 fd4 : FuncData} (F : Fun K "later" "later" d_later f fd) (TC : CrsC K CC) (hmax : mg "max" = none)
    (A1 : At P w K mg base CX0 3 "is_day" ["thing"] (spDay K) f1 fd1) (A2 : At P w K mg base CX0 1 "word_from" ["span", "day"] (spWordFrom K C) f2 fd2) (A3 : At P w K mg base CX0 4 "spans_of" ["stretches"] (spSpans K C) f3 fd3)
    (A4 : At P w K mg base CX0 7 "course_of" ["spans"] (spCrsOf K C CC) f4 fd4) : FnOk P w K mg base CX0 8 f fd ["course", "days"] (spLater K C CC) := by
  refine F.ok scLater (fun vs H Q E h => ?_) (fun cdv A outer s H vs Q E hr h => ?_)
  · obtain ⟨_, _, _, rfl, _⟩ := h
    rfl
  · obtain ⟨c, d, told, rfl, ⟨dx, l, ss, hc, hl, lss, hss, ok⟩, d0, d1, q⟩ := h
    have r1 : Room 1 _ := hr.mono (by decide)
    have r3 : Room 3 _ := hr.mono (by decide)
    have r4 : Room 4 _ := hr.mono (by decide)
    refine ⟨_, pss_cons (ps_if (pt_not (pt_val (pe_call A1.G r3 rfl A1.m A1.k A1.b .nil pass0 (pa_cons (pv 1) pa_nil)))) (pss_one ps_never) pss_nil)
      (pss_cons (ps_set (i := 2) scLater.nd rfl (Or.inl rfl) (pe_lst pa_nil))
      (pss_cons (ps_for PassesOwn.never rfl (pi_list (pe_fld (pv 0) rfl)) (pg_name (i := 3) scLater.nd rfl (.inl rfl))
        (pss_cons (ps_asg (pv 3) (pg_tup (by rfl) (pgs_cons (pg_name (i := 4) scLater.nd rfl (.inl rfl)) (pgs_cons (pg_name (i := 5) scLater.nd rfl (.inl rfl)) (pgs_cons (pg_name (i := 6) scLater.nd rfl (.inl rfl)) pgs_nil)))))
        (pss_one (ps_if (PW.pt (pw_or (pt_cmp (pc_isN (pv 5))) (pw_or1 (pt_cmpR op_gt (pv 5) (pv 1) (nomark _)))))
          (pss_cons (ps_set (i := 7) scLater.nd rfl (Or.inl rfl) (pe_callB (call_max2 rfl) (by rfl) hmax (by decide +kernel) (pa_cons (pv 4) (pa_cons (pv 1) pa_nil))))
          (pss_one (ps_expr (pe_bm PySem.F.plainAttrs_list PySem.F.slot_list_append PySem.F.type_list_append mt_append (pv 2) (pa_cons (pe_tup (pa_cons (pe_ifExp (pt_cmp (pc_isN (pv 5))) pe_non (pe_op op_sub (pv 5) (pv 7))) (pa_cons (pe_call A2.G r1 rfl A2.m A2.k A2.b .nil pass0 (pa_cons (pv 3) (pa_cons (pv 7) pa_nil))) pa_nil))) pa_nil))))) pss_nil))))
      (pss_one (ps_ret (pe_call A4.G hr rfl A4.m A4.k A4.b .nil pass0 (pa_cons (pe_call A3.G r4 rfl A3.m A3.k A3.b .nil pass0 (pa_cons (pv 2) pa_nil)) pa_nil)))))), ?_⟩
    refine ⟨_, rfl, .int d, true, false, rfl, kind_int _, .inl ⟨d, rfl, rfl, rfl, ?_⟩⟩
    rw [decide_eq_true d0, decide_eq_true d1]
    refine ⟨true, rfl, iteF ?_⟩
    refine ⟨(by show 0 ≤ sizeLine; decide), fun S hS => ?_⟩
    have s0 : Same H (upd H S (.lst [])) := same1 hS
    have few := ok.few
    refine ⟨_, rfl, c, CC, dx, _, _, rfl, s0 _ _ hc, TC.cl, TC.no, crs_spans l, l, rfl, ⟨_, s0.seq hl⟩, ?_⟩
    refine for_list (K := K) (a := l) (xs := ss.map V.ref) (fun i σ G => (∃ v3 v4 v5 v6 v7 : Option V, σ = [some (.ref c), some (.int d), some (.ref S), v3, v4, v5, v6, v7]) ∧ Same H G ∧ ∃ (ts : List Addr) (tl : List Sx), G S = some (.lst (ts.map V.ref)) ∧ All2 (StrAt K C G) ts tl ∧ tl = lat (told.take i) d ∧ tl.length ≤ i)
      ⟨⟨_, _, _, _, _, rfl⟩, s0, [], [], upd_same, .nil, rfl, Nat.le_refl _⟩ ?_ ?_ ?_
    · rintro i σ G _ ⟨_, sG, _⟩
      exact sG.seq hl
    · rintro i x σ G hx ⟨⟨v3, v4, v5, v6, v7, rfl⟩, sG, ts, tl, eS, hts, etl, ltl⟩
      rw [List.getElem?_map] at hx
      obtain ⟨sk, hsk, rfl⟩ := Option.map_eq_some_iff.mp hx
      obtain ⟨xk, hxk, spk⟩ := (hss i sk hsk).mono sG
      have il : i < told.length := (List.getElem?_eq_some_iff.mp hxk).1
      have nx := lat_next hxk d
      have lw := ok.word i _ hxk
      have hd : ∀ n, xk.1 = some n → 1 ≤ n := fun n e => ok.days i xk n hxk e
      have lc := leastW_len (cutO_pos hd lw.1)
      have lc60 : (leastW (cutO xk.1 xk.2)).length ≤ 60 := by
        have a := Nat.le_of_dvd (cutO_pos hd lw.1) lc.2
        have b := cutO_le (d := xk.1) (ws := xk.2)
        omega
      obtain ⟨dk, wk⟩ := xk
      obtain ⟨wa, q1, ps, q2, q3⟩ := id spk
      have lts : ts.length = tl.length := hts.len
      obtain ⟨fi, hfi, hfi2⟩ : ∃ fi : Int, fi = (if d > bAt told i then d else bAt told i) ∧ fi - bAt told i = max 0 (d - bAt told i) := by
        refine ⟨_, rfl, ?_⟩
        split <;> omega
      -- the stretch that is appended
      have app : ∀ (G2 : Hp) (r T : Addr) (dd : Option Int) (G' : Hp), Same G G2 → WordAt K C G2 r (turnW (leastW (cutO dk wk)) (max 0 (d - bAt told i))) → G2 T = none → late1 (dk, wk) (d - bAt told i) = [(dd, turnW (leastW (cutO dk wk)) (max 0 (d - bAt told i)))] →
          G' = upd (upd G2 T (.tup [dv dd, .ref r])) S (.lst (ts.map V.ref ++ [.ref T])) →
          Same H G' ∧ ∃ (ts : List Addr) (tl : List Sx), G' S = some (.lst (ts.map V.ref)) ∧ All2 (StrAt K C G') ts tl ∧ tl = lat (told.take (i + 1)) d ∧ tl.length ≤ i + 1 := by
        intro G2 r T dd G' sG2 wr hT e1 eG'
        have s3 : Same G2 (upd G2 T (.tup [dv dd, .ref r])) := same1 hT
        have eT : (upd G2 T (.tup [dv dd, .ref r]) : Hp) T = some (.tup [dv dd, .ref r]) := upd_same
        generalize upd G2 T (.tup [dv dd, .ref r]) = G3 at *
        subst eG'
        have eS3 := s3 _ _ (sG2 _ _ eS)
        have kp := keep_lst (ys := ts.map V.ref ++ [.ref T]) eS3
        refine ⟨fun b o eb => ?_, ts ++ [T], tl ++ [(dd, turnW (leastW (cutO dk wk)) (max 0 (d - bAt told i)))], by rw [List.map_append]; exact upd_same, (hts.mono fun t x _ _ z => kp.str' (z.mono (sG2.trans s3))).snoc (kp.str' ⟨r, SqT.of eT, wr.mono s3⟩), by rw [nx, ← etl, e1], by rw [List.length_append]; show tl.length + 1 ≤ _; omega⟩
        rw [upd_ne (ne_of_none eb hS)]
        exact s3 _ _ (sG2 _ _ (sG _ _ eb))
      have lenS : (ts.map V.ref).length < sizeLine := by
        rw [List.length_map, lts]
        exact Nat.lt_of_le_of_lt (show tl.length ≤ 60 by omega) (by decide)
      cases dk with
      | none =>
        have q1 : SqT K G sk [.int (bAt told i), .non, .ref wa] := q1
        refine ⟨_, rfl, sk, _, rfl, q1, rfl, _, _, rfl, _, _, rfl, _, _, rfl, rfl, ?_⟩
        refine ⟨_, rfl, _, rfl, ?_⟩
        rw [show decide (V.non = V.non) = true from decide_eq_true rfl]
        refine iteT ⟨_, rfl, _, rfl, _, _, rfl, ?_⟩
        rw [← hfi]
        refine ⟨_, rfl, .inl ⟨rfl, _, SqL.of eS⟩, _, rfl, _, rfl, ?_⟩
        rw [show decide (V.non = V.non) = true from decide_eq_true rfl]
        refine iteT ?_
        refine ⟨_, rfl, _, rfl, sk, bAt told i, fi, none, _, rfl, spk, lc.1, lc60, fun G2 r s2 wr => ?_⟩
        rw [hfi2] at wr
        refine ⟨(by show 2 ≤ sizeLine; decide), fun T hT => ?_⟩
        obtain ⟨a1, a2⟩ := app G2 r T none _ s2 wr hT rfl rfl
        exact ⟨S, _, _, rfl, rfl, same1 hT _ _ (s2 _ _ eS), lenS, ⟨_, _, _, _, _, rfl⟩, a1, a2⟩
      | some n =>
        have q1 : SqT K G sk [.int (bAt told i), .int (bAt told i + n), .ref wa] := q1
        refine ⟨_, rfl, sk, _, rfl, q1, rfl, _, _, rfl, _, _, rfl, _, _, rfl, rfl, ?_⟩
        refine ⟨_, rfl, _, rfl, ?_⟩
        rw [show decide (V.int (bAt told i + n) = V.non) = false from decide_eq_false (fun z => nomatch z)]
        refine iteF ⟨_, rfl, _, rfl, _, _, rfl, rfl, _, rfl, ?_⟩
        by_cases c1 : d < bAt told i + n
        · rw [decide_eq_true (show bAt told i + n > d from c1)]
          refine iteT ⟨_, rfl, _, rfl, _, _, rfl, ?_⟩
          rw [← hfi]
          refine ⟨_, rfl, .inl ⟨rfl, _, SqL.of eS⟩, _, rfl, _, rfl, ?_⟩
          rw [show decide (V.int (bAt told i + n) = V.non) = false from decide_eq_false (fun z => nomatch z)]
          refine iteF ?_
          refine ⟨_, rfl, _, rfl, _, _, rfl, rfl, ?_⟩
          refine ⟨_, rfl, _, rfl, sk, bAt told i, fi, some (bAt told i + n), _, rfl, spk, lc.1, lc60, fun G2 r s2 wr => ?_⟩
          rw [hfi2] at wr
          refine ⟨(by show 2 ≤ sizeLine; decide), fun T hT => ?_⟩
          have e1 : late1 (some n, wk) (d - bAt told i) = [(some (bAt told i + n - fi), turnW (leastW (cutO (some n) wk)) (max 0 (d - bAt told i)))] := by
            show (if d - bAt told i < n then _ else _) = _
            rw [if_pos (by omega), show n - max 0 (d - bAt told i) = bAt told i + n - fi from by omega]
          obtain ⟨a1, a2⟩ := app G2 r T _ _ s2 wr hT e1 rfl
          exact ⟨S, _, _, rfl, rfl, same1 hT _ _ (s2 _ _ eS), lenS, ⟨_, _, _, _, _, rfl⟩, a1, a2⟩
        · rw [decide_eq_false (show ¬ bAt told i + n > d from c1)]
          refine iteF ⟨⟨_, _, _, _, _, rfl⟩, sG, ts, tl, eS, hts, ?_, by omega⟩
          rw [nx, ← etl]
          show tl = tl ++ (if d - bAt told i < n then _ else _)
          rw [if_neg (by omega), List.append_nil]
    · rintro σ G ⟨⟨v3, v4, v5, v6, v7, rfl⟩, sG, ts, tl, eS, hts, etl, ltl⟩
      rw [List.length_map, lss, List.take_length] at etl
      subst etl
      have okl := ok.lat d
      refine ⟨_, rfl, S, ts, _, rfl, SqL.of eS, hts.len, fun j t x a b => hts.all j t x a b, okl, fun H2 l2 ss2 s2 _ e2 n2 sp2 => ?_⟩
      exact ⟨l2, ss2, _, rfl, ⟨SqL.of e2, n2, sp2, okl⟩, fun H3 c3 s3 c3' => q H3 c3 (sG.trans (s2.trans s3)) c3'⟩
end
end K13

namespace K13
open PySem PySem.Spec PyProof.Rows L2
/-! ### the law's own least round of a word -/
def pd (y : Int × Int) : PyData := .tuple [.int y.1, .int y.2]
theorem can_pd : ∀ ws : W2, PyData.canLayAll0 (ws.map pd) = true
  | [] => by simp [PyData.canLayAll0]
  | n :: r => by simp [PyData.canLayAll0, PyData.canLay0, pd, can_pd r]
theorem dep_pd : ∀ ws : W2, PyData.depthAll (ws.map pd) ≤ 2
  | [] => by simp [PyData.depthAll]
  | n :: r => by
    have := dep_pd r
    simp only [List.map_cons, PyData.depthAll, PyData.depth, pd]
    omega
theorem shaped_pd (ws : W2) : SeqAt.shaped (.list (ws.map pd)) = true := by
  have h1 := dep_pd ws
  have h2 : PyData.depth (.list (ws.map pd)) ≤ 64 := by simp only [PyData.depth]; omega
  show (PyData.canLay0 (.list (ws.map pd)) && decide (PyData.depth (.list (ws.map pd)) ≤ 64)) = true
  rw [Bool.and_eq_true]
  exact ⟨by simp only [PyData.canLay0]; exact can_pd ws, decide_eq_true h2⟩
theorem eqvAll_pd : ∀ ws vs : W2, ws.length = vs.length → PyData.eqvAll (ws.map pd) (vs.map pd) = decide (ws = vs)
  | [], [], _ => by simp [PyData.eqvAll]
  | [], _ :: _, h => by simp at h
  | _ :: _, [], h => by simp at h
  | y :: r, z :: t, h => by
    have ih := eqvAll_pd r t (by simpa using h)
    rw [List.map_cons, List.map_cons]
    show (PyData.eqv (pd y) (pd z) && PyData.eqvAll (r.map pd) (t.map pd)) = _
    rw [ih]
    show (PyData.eqv (.tuple [.int y.1, .int y.2]) (.tuple [.int z.1, .int z.2]) && _) = _
    rw [eqv_pair, ← Bool.decide_and, ← Bool.decide_and]
    refine decide_eq_decide.mpr ⟨fun q => ?_, fun q => ?_⟩
    · rw [show y = z from Prod.ext q.1.1 q.1.2, q.2]
    · injection q with q1 q2
      rw [q1, q2]
      exact ⟨⟨rfl, rfl⟩, rfl⟩
theorem eqv_pd {ws vs : W2} (h : ws.length = vs.length) : PyData.eqv (.list (ws.map pd)) (.list (vs.map pd)) = decide (ws = vs) := by
  rw [← eqvAll_pd ws vs h]
  simp [PyData.eqv, h]
theorem dp_pairs {K : PySem.W.Frag} {H : Hp} : ∀ {qs : List Addr} {ws : W2}, All2 (fun q (y : Int × Int) => SqT K H q [.int y.1, .int y.2]) qs ws → DpAll K H (qs.map V.ref) (ws.map pd)
  | [], [], _ => .nil
  | [], _ :: _, h => by have := h.len; simp at this
  | _ :: _, [], h => by have := h.len; simp at this
  | q :: r, y :: t, h => .cons (.tup (h.all 0 q y rfl rfl) (.cons (.int _) (.cons (.int _) .nil))) (dp_pairs ⟨by have := h.len; simpa using this, fun i a b h1 h2 => h.all (i + 1) a b (by simpa using h1) (by simpa using h2)⟩)
/-- the word turned by m -/
def rotW (ws : W2) (m : Nat) : W2 := (List.range ws.length).map fun i => ws[(i + m) % ws.length]?.getD (0, 1)
theorem rotW_get {ws : W2} {m j : Nat} (h : j < ws.length) : (rotW ws m)[j]? = ws[(j + m) % ws.length]? := by
  unfold rotW
  rw [List.getElem?_map, List.getElem?_range h]
  have hl := Nat.mod_lt (j + m) (show 0 < ws.length by omega)
  show some (ws[(j + m) % ws.length]?.getD (0, 1)) = _
  rw [List.getElem?_eq_getElem hl]
  rfl
theorem rotW_iff {ws : W2} {m : Nat} (l : 1 ≤ ws.length) : ws = rotW ws m ↔ Rot ws m := by
  constructor
  · intro h x
    have xl := Nat.mod_lt x (show 0 < ws.length by omega)
    have e1 : ws[x % ws.length]? = (rotW ws m)[x % ws.length]? := congrArg (·[x % ws.length]?) h
    rw [e1]
    unfold rotW
    rw [List.getElem?_map, List.getElem?_range xl]
    have hl := Nat.mod_lt (x + m) (show 0 < ws.length by omega)
    show _ = some (ws[(x % ws.length + m) % ws.length]?.getD (0, 1))
    rw [Nat.mod_add_mod, List.getElem?_eq_getElem hl]
    rfl
  · intro h
    refine List.ext_getElem? fun i => ?_
    unfold rotW
    rw [List.getElem?_map]
    by_cases c : i < ws.length
    · rw [List.getElem?_range c]
      have := h i
      rw [Nat.mod_eq_of_lt c] at this
      show ws[i]? = some (ws[(i + m) % ws.length]?.getD (0, 1))
      rw [this, List.getElem?_eq_getElem c]
      rfl
    · rw [List.getElem?_eq_none (by omega), List.getElem?_eq_none (by rw [List.length_range]; omega)]
      rfl
def RoundV (ws : W2) (m : Nat) : Prop := 1 ≤ m ∧ m ≤ ws.length ∧ Rot ws m ∧ ∀ k, 1 ≤ k → k < m → ¬ Rot ws k
def spLRound (K : PySem.W.Frag) : Sp := fun vs H Q _ => ∃ (l : Addr) (ws : W2), vs = [.ref l] ∧ PrsAt K H l ws ∧ 1 ≤ ws.length ∧ ws.length ≤ 60 ∧ ∀ (H' : Hp) (m : Nat), Same H H' → RoundV ws m → Q (.int (m : Int)) H'
section
variable {P : Program} {w : World} {K : PySem.W.Frag} {mg : Str → Option Value} {base : Heap}
abbrev lrN : List Str := ["word", "many", "at"]
theorem scLRound : FnScope lrN ["word"] (defScope d_law_round) := ⟨rfl, rfl, rfl, by decide +kernel, rfl, by decide +kernel, by decide +kernel⟩
theorem ok_lround {f : Addr} {fd : FuncData} (F : Fun K "_law_round" "_law_round" d_law_round f fd) (B : TxtB mg) (hrange : mg "range" = none) : FnOk P w K mg base CX0 1 f fd ["word"] (spLRound K) := by
  refine F.ok scLRound (fun vs H Q E h => ?_) (fun cdv A outer s H vs Q E hr h => ?_)
  · obtain ⟨_, _, rfl, _⟩ := h
    rfl
  · obtain ⟨l, ws, rfl, ⟨qs, hl, lq, hq⟩, l1, l60, q⟩ := h
    refine ⟨_, pss_cons (ps_for PassesOwn.never rfl (pi_range2 (by rfl) hrange (pa_cons pe_int (pa_cons (pe_op op_add (pe_callB call_len_seq (by rfl) B.len PySem.boot_len (pa_cons (pv 0) pa_nil)) pe_int) pa_nil))) (pg_name (i := 1) scLRound.nd rfl (.inr rfl))
        (pss_one (ps_if (pt_cmpR (op_eqD hr.units) (pv 0)
          (pe_lc (own := [("at", 2)]) (g := gName 2) (by rfl) scLRound.nd (pi_range1 (by rfl) hrange (pa_cons (pe_callB call_len_seq (by rfl) B.len PySem.boot_len (pa_cons (pv 0) pa_nil)) pa_nil)) (blkOk_by (own := [("at", 2)]) (N := lrN) (sc := defScope d_law_round) (by decide +kernel)) (fun _ _ _ _ _ => pg_name (i := 2) scLRound.nd rfl (.inl rfl)) (fun _ _ _ _ _ => pts_nil)
            (fun _ _ _ _ _ => pe_ix (show IxR _ (rIxL K) from ix_list) (pv 0) (pe_op op_mod (pe_op op_add (pv 2) (pv 1)) (pe_callB (show CallR _ (.builtin "len") (fun xs H Q => ∃ p ys, xs = [V.ref p] ∧ (SqL K H p ys ∨ SqT K H p ys) ∧ Q (.int ys.length) H) from call_len_seq) (by rfl) B.len PySem.boot_len (pa_cons (pv 0) pa_nil))) (fun _ _ => rfl))) (nomark _))
          (pss_one (ps_ret (pv 1))) pss_nil)))
      (pss_one (ps_ret (pe_callB call_len_seq (by rfl) B.len PySem.boot_len (pa_cons (pv 0) pa_nil)))), ?_⟩
    have lp : (qs.map V.ref).length = ws.length := by rw [List.length_map, lq]
    have al : All2 (fun q (y : Int × Int) => SqT K H q [.int y.1, .int y.2]) qs ws := ⟨lq, hq⟩
    refine ⟨_, rfl, l, _, rfl, .inl hl, _, _, rfl, rfl, 1, _, rfl, ?_, ?_⟩
    · rw [lp]
      exact ⟨by decide, by decide, by omega, by omega⟩
    rw [lp, show ((ws.length : Int) + 1 - 1).toNat = ws.length from by omega]
    refine for_range (lo := 1) (n := ws.length) (fun i σ G => (∃ v : Option V, σ = [some (.ref l), v, none]) ∧ Same H G ∧ ∀ k, 1 ≤ k → k < 1 + i → ¬ Rot ws k) ⟨⟨_, rfl⟩, Same.refl H, fun k h1 h2 => by omega⟩ ?_ ?_
    · rintro i σ G hi ⟨⟨v, rfl⟩, sG, np⟩
      have hlG := sG.seq hl
      refine ⟨_, rfl, _, rfl, l, _, rfl, .inl hlG, _, rfl, by omega, by rw [lp]; omega, fun D hD => ?_⟩
      rw [lp, Int.toNat_natCast]
      refine lc_range (lo := 0) (n := ws.length) (fun j M => ∃ rs : List Addr, M D = some (.lst (rs.map V.ref)) ∧ All2 (fun q (y : Int × Int) => SqT K M q [.int y.1, .int y.2]) rs ((rotW ws (1 + i)).take j) ∧ Same G M ∧ rs.length = j) ⟨[], upd_same, .nil, same1 hD, rfl⟩ ?_ ?_
      · rintro j M hj ⟨rs, eD, hrs, sM, lr⟩
        have hlM := sM.seq hlG
        have n0 : ((0 : Int) + (j : Int) + (1 + (i : Int))) % (ws.length : Int) = (((j + (1 + i)) % ws.length : Nat) : Int) := by
          rw [Int.natCast_emod]
          congr 1
          omega
        have kl := Nat.mod_lt (j + (1 + i)) (show 0 < ws.length by omega)
        have hk : qs[(j + (1 + i)) % ws.length]? = some (qs[(j + (1 + i)) % ws.length]'(by omega)) := List.getElem?_eq_getElem (by omega)
        have hw : ws[(j + (1 + i)) % ws.length]? = some ws[(j + (1 + i)) % ws.length] := List.getElem?_eq_getElem kl
        have htk : (rotW ws (1 + i)).take (j + 1) = (rotW ws (1 + i)).take j ++ [ws[(j + (1 + i)) % ws.length]] := by
          rw [List.take_add_one, rotW_get hj, hw]
          rfl
        refine ⟨rfl, ?_⟩
        refine ⟨_, rfl, _, rfl, _, rfl, _, _, rfl, rfl, _, rfl, l, _, rfl, .inl hlM, _, _, rfl, rfl, (by rw [lp]; omega), ?_⟩
        rw [lp]
        refine ⟨l, _, _, .ref (qs[(j + (1 + i)) % ws.length]'(by omega)), rfl, rfl, hlM, at_k (by rw [n0]; omega) (by rw [n0, Int.toNat_natCast, List.getElem?_map, hk]; rfl), ?_⟩
        have kp := keep_lst (ys := rs.map V.ref ++ [.ref (qs[(j + (1 + i)) % ws.length]'(by omega))]) eD
        refine ⟨_, eD, (by rw [List.length_map, lr]; exact Nat.lt_of_lt_of_le (show j < 60 by omega) (by decide)), rs ++ [_], by rw [List.map_append]; exact upd_same, ?_, fun b o eb => ?_, by rw [List.length_append, lr]; rfl⟩
        · rw [htk]
          exact (hrs.mono fun a y _ _ z => kp.tup z).snoc (kp.tup (Same.tup (sG.trans sM) (hq _ _ _ hk hw)))
        · rw [upd_ne (ne_of_none eb hD)]
          exact sM _ _ eb
      · rintro M ⟨rs, eD, hrs, sM, lr⟩
        have lrot : (rotW ws (1 + i)).length = ws.length := by unfold rotW; simp
        rw [show (rotW ws (1 + i)).take ws.length = rotW ws (1 + i) from List.take_of_length_le (by omega)] at hrs
        have sM2 := sG.trans sM
        refine ⟨_, _, Dp.lst (sM2.seq hl) (dp_pairs (al.mono fun a y _ _ z => Same.tup sM2 z)), Dp.lst (SqL.of eD) (dp_pairs hrs), shaped_pd _, shaped_pd _, _, rfl, ?_⟩
        rw [eqv_pd lrot.symm]
        refine ite2 (fun h => ?_) (fun h => ?_)
        · have h : Rot ws (1 + i) := (rotW_iff l1).mp (of_decide_eq_true h)
          refine ⟨_, rfl, ?_⟩
          have := q M (1 + i) sM2 ⟨by omega, by omega, h, np⟩
          rw [show ((1 + i : Nat) : Int) = 1 + (i : Int) from by omega] at this
          exact this
        · have h : ¬ Rot ws (1 + i) := fun z => h (decide_eq_true ((rotW_iff l1).mpr z))
          refine ⟨⟨_, rfl⟩, sM2, fun k k1 k2 => ?_⟩
          by_cases c : k < 1 + i
          · exact np k k1 c
          · rw [show k = 1 + i from by omega]
            exact h
    · rintro σ G ⟨⟨v, rfl⟩, sG, np⟩
      exfalso
      exact np ws.length l1 (by omega) fun x => by rw [Nat.add_mod_right]
end
end K13

namespace K13
open PySem PySem.Spec PyProof.Rows L2
/-! ### a stretch ahead -/
def AhOk (x : Sx) : Prop := (∃ n, x.1 = some n ∧ 1 ≤ n ∧ n ≤ 1000000000000) ∧ 1 ≤ x.2.length ∧ x.2.length ≤ 12 ∧ ∀ y ∈ x.2, POkN 10 y
def spAhead : Sp := fun vs H Q _ => ∃ (p l : Addr) (z : Int) (ws : W2), vs = [.ref p, .ref l] ∧ WellAt H p z ∧ 0 ≤ z ∧ z < 2 ^ 28 ∧ PrsN (· = p) H l ws ∧ 1 ≤ ws.length ∧ ws.length ≤ 12 ∧ (∀ y ∈ ws, POkN 10 y) ∧
  ∀ (H' : Hp) (t : Addr) (x : Sx) (z' : Int), But p H H' → WellAt H' p z' → 0 ≤ z' → z' ≤ z + 300 → StN (· = p) H' t x → AhOk x → Q (.ref t) H'
theorem pr_ne {G : Hp} {p q : Addr} {z : Int} {y : Int × Int} (w : WellAt G p z) (h : PrAt G q y) : q ≠ p := fun e => by
  obtain ⟨_, _, e1, _⟩ := w
  have h : G q = _ := h
  rw [e, e1] at h
  cases h
theorem PrsN.butp {p l : Addr} {H H' : Hp} {ws : W2} {z : Int} (h : PrsN (· = p) H l ws) (w : WellAt H p z) (b : But p H H') : PrsN (· = p) H' l ws := h.but (ButN.but (fun q e => by rw [e]; exact w.lst) rfl b)
section
variable {P : Program} {w : World} {K : PySem.W.Frag} {mg : Str → Option Value} {base : Heap}
abbrev ahN : List Str := ["well", "word", "days", "way", "begin", "other", "k"]
theorem scAhead : FnScope ahN ["well", "word"] (defScope d_law_ahead) := ⟨rfl, rfl, rfl, by decide +kernel, rfl, by decide +kernel, by decide +kernel⟩
theorem ok_ahead {f f1 f2 f3 : Addr} {fd fd1 fd2 fd3 : FuncData} (F : Fun K "_law_ahead" "_law_ahead" d_law_ahead f fd) (B : TxtB mg) (hrange : mg "range" = none)
    (A1 : At P w K mg base CX0 1 "_law_draw" ["well", "many"] spDraw f1 fd1) (A2 : At P w K mg base CX0 2 "_law_one" ["well", "some"] (spOne K) f2 fd2) (A3 : At P w K mg base CX0 3 "_law_word" ["well", "most", "far"] spLWord f3 fd3) :
    FnOk P w K mg base CX0 4 f fd ["well", "word"] spAhead := by
  refine F.ok scAhead (fun vs H Q E h => ?_) (fun cdv A outer s H vs Q E hr h => ?_)
  · obtain ⟨_, _, _, _, rfl, _⟩ := h
    rfl
  · obtain ⟨p, l, z, ws, rfl, hp, z0, z1, hl, l1, l12, hws, q⟩ := h
    have r1 : Room 1 _ := hr.mono (by decide)
    have r2 : Room 2 _ := hr.mono (by decide)
    refine ⟨_, pss_cons (ps_set (i := 2) scAhead.nd rfl (by first | exact Or.inl rfl | exact Or.inr rfl) (pe_op op_add pe_int (pe_call A1.G r1 rfl A1.m A1.k A1.b .nil pass0 (pa_cons (pv 0) (pa_cons (pe_call A2.G r2 rfl A2.m A2.k A2.b .nil pass0 (pa_cons (pv 0) (pa_cons (pe_lst (pa_cons pe_int (pa_cons pe_int (pa_cons pe_int (pa_cons (pe_op op_pow pe_int pe_int) pa_nil))))) pa_nil))) pa_nil)))))
      (pss_cons (ps_set (i := 3) scAhead.nd rfl (by first | exact Or.inl rfl | exact Or.inr rfl) (pe_call A1.G r1 rfl A1.m A1.k A1.b .nil pass0 (pa_cons (pv 0) (pa_cons pe_int pa_nil))))
      (pss_cons (ps_if (pt_cmpR op_lt (pv 3) pe_int (nomark _))
        (pss_cons (ps_set (i := 4) scAhead.nd rfl (by first | exact Or.inl rfl | exact Or.inr rfl) (pe_op op_mod (pe_op op_sub pe_int (pv 2)) (pe_callB call_len_seq (by rfl) B.len PySem.boot_len (pa_cons (pv 1) pa_nil))))
        (C8.pss_cut (ps_if (pt_cmpR op_eq (pv 3) pe_int (nomark _)) (pss_one (ps_set (i := 4) scAhead.nd rfl (by first | exact Or.inl rfl | exact Or.inr rfl) (pe_call A1.G r1 rfl A1.m A1.k A1.b .nil pass0 (pa_cons (pv 0) (pa_cons (pe_callB call_len_seq (by rfl) B.len PySem.boot_len (pa_cons (pv 1) pa_nil)) pa_nil))))) pss_nil)
        (pss_one (ps_ret (pe_tup (pa_cons (pv 2) (pa_cons (pe_op op_cat (pe_slice sl_list (pv 1) (po_some (pv 4)) po_none) (pe_slice sl_list (pv 1) po_none (po_some (pv 4)))) pa_nil)))))))
        pss_nil)
      (pss_cons (ps_if (pt_cmpR op_eq (pv 3) pe_int (nomark _))
        (pss_cons (ps_setLc (i := 5) (own := [("k", 6)]) (g := gName 6) (by rfl) scAhead.nd rfl rfl (sw_true rfl rfl rfl (by decide +kernel)) (pi_range1 (by rfl) hrange (pa_cons (pe_op op_add pe_int (pe_call A1.G r1 rfl A1.m A1.k A1.b .nil pass0 (pa_cons (pv 0) (pa_cons pe_int pa_nil)))) pa_nil)) (blkOk_by (own := [("k", 6)]) (N := ahN) (sc := defScope d_law_ahead) (by decide +kernel)) (fun _ _ _ _ _ => pg_name (i := 6) scAhead.nd rfl (.inl rfl)) (fun _ _ _ _ _ => pts_nil)
            (fun _ _ _ _ _ => pe_call A2.G r2 rfl A2.m A2.k A2.b .nil pass0 (pa_cons (pv 0) (pa_cons (pv 1) pa_nil))))
        (pss_one (ps_ret (pe_tup (pa_cons (pv 2) (pa_cons (pv 5) pa_nil)))))) pss_nil)
      (pss_one (ps_ret (pe_tup (pa_cons (pv 2) (pa_cons (pe_call A3.G hr rfl A3.m A3.k A3.b .nil pass0 (pa_cons (pv 0) (pa_cons pe_int (pa_cons pe_int pa_nil)))) pa_nil)))))))), ?_⟩
    refine ⟨_, rfl, _, rfl, _, _, rfl, rfl, ⟨by decide, by decide, by decide⟩, (by show 4 ≤ sizeLine; decide), fun u hu => ?_⟩
    have s1 : Same H (upd H u (.lst [.int 5, .int 30, .int 30, .int (10 ^ (12 : Int).toNat)])) := same1 hu
    have b1 := same_but (p := p) s1
    refine ⟨p, u, _, z, rfl, hp.same s1, z0, by omega, upd_same, well_ne hp hu, (by show 0 < 4; decide), (by show 4 < 1000; decide), fun G2 z2 x b2 w2 n0 n1 hx => ?_⟩
    obtain ⟨m, rfl, m0, m1⟩ : ∃ m : Int, x = .int m ∧ 0 < m ∧ m ≤ 1000000000000 := by
      have hx : x ∈ [V.int 5, .int 30, .int 30, .int (10 ^ (12 : Int).toNat)] := hx
      simp only [List.mem_cons, List.not_mem_nil, or_false] at hx
      rcases hx with h | h | h | h
      · exact ⟨5, h, by decide, by decide⟩
      · exact ⟨30, h, by decide, by decide⟩
      · exact ⟨30, h, by decide, by decide⟩
      · exact ⟨_, h, by decide, by decide⟩
    refine ⟨p, m, z2, rfl, w2, m0, by omega, n0, by omega, fun G3 dd z3 b3 w3 o0 o1 dd0 dd1 => ?_⟩
    refine ⟨_, _, rfl, rfl, ?_⟩
    obtain ⟨days, hdays⟩ : ∃ days : Int, 1 + dd = days := ⟨_, rfl⟩
    show gName 2 (V.int (1 + dd)) _ _ _
    rw [hdays]
    have dn : 1 ≤ days ∧ days ≤ 1000000000000 := by omega
    refine ⟨_, rfl, p, 4, z3, rfl, w3, by decide, by decide, o0, by omega, fun G4 way z4 b4 w4 k0 k1 y0 y1 => ?_⟩
    have b04 : But p H G4 := b1.trans (b2.trans (b3.trans b4))
    have hl4 := hl.butp hp b04
    refine ⟨_, rfl, _, _, rfl, rfl, _, rfl, ?_⟩
    refine ite2 (fun h => ?_) (fun h => ?_)
    · obtain ⟨nl, qs, el, al⟩ := id hl4
      have lq : qs.length = ws.length := al.len
      have lp : (qs.map V.ref).length = ws.length := by rw [List.length_map, lq]
      refine ⟨_, rfl, _, _, rfl, rfl, _, rfl, l, _, rfl, .inl (SqL.of el), _, _, rfl, rfl, (by rw [lp]; omega), ?_⟩
      rw [lp]
      have e0 := Int.emod_nonneg (0 - days) (show (ws.length : Int) ≠ 0 by omega)
      have e1 := Int.emod_lt_of_pos (0 - days) (show (0 : Int) < (ws.length : Int) by omega)
      refine ⟨fun σ' G' => ∃ (b : Nat) (z5 : Int), σ' = [some (.ref p), some (.ref l), some (.int days), some (.int way), some (.int (b : Int)), none, none] ∧ b < ws.length ∧ But p G4 G' ∧ WellAt G' p z5 ∧ 0 ≤ z5 ∧ z5 ≤ z4 + 1, ?_, ?_⟩
      · refine ⟨_, rfl, rfl, _, rfl, ?_⟩
        refine ite2 (fun h2 => ?_) (fun h2 => ?_)
        · refine ⟨_, rfl, _, rfl, l, _, rfl, .inl (SqL.of el), p, _, z4, rfl, w4, (by rw [lp]; omega), (by rw [lp]; omega), k0, by omega, fun G5 bb z5 b5 w5 j0 j1 bb0 bb1 => ?_⟩
          rw [lp] at bb1
          exact ⟨bb.toNat, z5, by rw [Int.toNat_of_nonneg bb0]; rfl, by omega, b5, w5, j0, by omega⟩
        · exact ⟨((0 - days) % (ws.length : Int)).toNat, z4, by rw [Int.toNat_of_nonneg e0]; rfl, by omega, same_but (Same.refl _), w4, k0, by omega⟩
      · rintro σ' G5 ⟨b, z5, rfl, bl, b5, w5, j0, j1⟩
        obtain ⟨nl5, qs5, el5, al5⟩ := hl4.butp w4 b5
        have lq5 : qs5.length = ws.length := al5.len
        have kl : b ≤ qs5.length := by omega
        refine ⟨_, rfl, _, rfl, _, rfl, _, rfl, l, _, rfl, SqL.of el5, fun p1 h1 => ?_⟩
        rw [cut_from (by rw [List.length_map]; exact kl), ← List.map_drop]
        have s6 : Same G5 (upd G5 p1 (.lst ((qs5.drop b).map V.ref))) := same1 h1
        have e6 : (upd G5 p1 (.lst ((qs5.drop b).map V.ref)) : Hp) p1 = some (.lst ((qs5.drop b).map V.ref)) := upd_same
        generalize upd G5 p1 (.lst ((qs5.drop b).map V.ref)) = G6 at *
        refine ⟨_, rfl, _, rfl, _, rfl, l, _, rfl, SqL.of (s6 _ _ el5), fun p2 h2 => ?_⟩
        rw [cut_to, ← List.map_take]
        have s7 : Same G6 (upd G6 p2 (.lst ((qs5.take b).map V.ref))) := same1 h2
        have e7 : (upd G6 p2 (.lst ((qs5.take b).map V.ref)) : Hp) p2 = some (.lst ((qs5.take b).map V.ref)) := upd_same
        generalize upd G6 p2 (.lst ((qs5.take b).map V.ref)) = G7 at *
        refine ⟨p1, p2, _, _, rfl, rfl, s7 _ _ e6, e7, ?_, fun r hr' => ?_⟩
        · rw [List.length_map, List.length_map, List.length_drop, List.length_take]
          exact Nat.le_trans (show qs5.length - b + min b qs5.length ≤ 60 by omega) (show 60 ≤ sizeLine by decide)
        · rw [← List.map_append]
          have s67 := s6.trans s7
          have w7 := w5.same s67
          have al7 : All2 (PrAt G7) (qs5.drop b ++ qs5.take b) (ws.drop b ++ ws.take b) := by
            have al2 : All2 (PrAt G7) qs5 ws := al5.mono fun c y _ _ z => s67 _ _ z
            exact (al2.drop b).app (al2.take b)
          have pn := prs_new (N := (· = p)) (fun q e => by rw [e]; exact w7.lst) hr' al7
          have s8 := same1 (o := .lst ((qs5.drop b ++ qs5.take b).map V.ref)) hr'
          generalize upd G7 r (.lst ((qs5.drop b ++ qs5.take b).map V.ref)) = G8 at *
          have w8 := w7.same s8
          refine ⟨(by show 2 ≤ sizeLine; decide), fun T hT => ?_⟩
          have s9 := same1 (o := .tup [.int days, .ref r]) hT
          refine q _ T (some days, ws.drop b ++ ws.take b) z5 (b04.trans (b5.trans (same_but ((s67.trans s8).trans s9)))) (w8.same s9) j0 (by omega) ⟨r, upd_same, pn.same s9⟩ ⟨⟨days, rfl, dn.1, dn.2⟩, ?_, ?_, fun y hy => ?_⟩
          · show 1 ≤ (ws.drop b ++ ws.take b).length
            rw [List.length_append, List.length_drop, List.length_take]
            omega
          · show (ws.drop b ++ ws.take b).length ≤ 12
            rw [List.length_append, List.length_drop, List.length_take]
            omega
          · rcases List.mem_append.mp hy with h | h
            · exact hws y (List.mem_of_mem_drop h)
            · exact hws y (List.mem_of_mem_take h)
    · refine ⟨_, rfl, rfl, _, rfl, ?_⟩
      refine ite2 (fun h2 => ?_) (fun h2 => ?_)
      · refine ⟨_, rfl, p, 6, z4, rfl, w4, by decide, by decide, k0, by omega, fun G5 dm z5 b5 w5 j0 j1 dm0 dm1 => ?_⟩
        refine ⟨_, _, rfl, rfl, _, rfl, by omega, by omega, fun D hD => ?_⟩
        have Dp := well_ne w5 hD
        have hl5 := hl4.butp w4 b5
        refine lc_range (lo := 0) (n := (1 + dm).toNat) (fun i M => ∃ (rs : List Addr) (vs : W2) (zz : Int), M D = some (.lst (rs.map V.ref)) ∧ All2 (PrAt M) rs vs ∧ rs.length = i ∧ (∀ y ∈ vs, POkN 10 y) ∧ WellAt M p zz ∧ 0 ≤ zz ∧ zz ≤ z5 + (i : Int) ∧ But p G5 M)
          ⟨[], [], z5, upd_same, .nil, rfl, (fun y h => nomatch h), w5.same (same1 hD), j0, by omega, same_but (same1 hD)⟩ ?_ ?_
        · rintro i M hi ⟨rs, vs, zz, eD, hrs, lr, hvs, wz, x0, x1, bM⟩
          obtain ⟨nl, qs, el, al⟩ := hl5.butp w5 bM
          have lq : qs.length = ws.length := al.len
          refine ⟨rfl, ?_⟩
          refine ⟨_, rfl, _, rfl, p, l, _, zz, rfl, wz, x0, by omega, el, nl, (by rw [List.length_map]; omega), (by rw [List.length_map]; omega), fun M2 z6 x b6 w6 u0 u1 hx => ?_⟩
          obtain ⟨qx, hqx, rfl⟩ := List.mem_map.mp hx
          obtain ⟨j, hj⟩ := List.mem_iff_getElem?.mp hqx
          have jl : j < ws.length := by
            have := (List.getElem?_eq_some_iff.mp hj).1
            omega
          have hy : ws[j]? = some ws[j] := List.getElem?_eq_getElem jl
          have pq := al.all j qx _ hj hy
          have pk := hws _ (List.mem_of_getElem? hy)
          have eD2 := b6 _ _ Dp eD
          have kp := keep_lst (ys := rs.map V.ref ++ [.ref qx]) eD2
          have kpr : ∀ {q : Addr} {y : Int × Int}, PrAt M q y → PrAt (upd M2 D (.lst (rs.map V.ref ++ [.ref qx]))) q y := fun {q y} h => kp _ _ (b6 _ _ (pr_ne wz h) h) (fun _ z => nomatch z)
          refine ⟨_, eD2, (by rw [List.length_map, lr]; exact Nat.lt_of_lt_of_le (show i < 60 by omega) (by decide)), rs ++ [qx], vs ++ [ws[j]], z6, by rw [List.map_append]; exact upd_same, (hrs.mono fun q y _ _ h => kpr h).snoc (kpr pq), by rw [List.length_append, lr]; rfl, fun y hy' => ?_, ?_, u0, by omega, fun b o hb e => ?_⟩
          · rcases List.mem_append.mp hy' with h | h
            · exact hvs y h
            · rw [List.mem_singleton.mp h]
              exact pk
          · obtain ⟨x', y', e, u, v⟩ := w6
            exact ⟨x', y', by rw [upd_ne (Ne.symm Dp)]; exact e, u, v⟩
          · rw [upd_ne (ne_of_none e hD)]
            exact b6 _ _ hb (bM _ _ hb e)
        · rintro M ⟨rs, vs, zz, eD, hrs, lr, hvs, wz, x0, x1, bM⟩
          have lv : vs.length = rs.length := hrs.len.symm
          refine ⟨_, rfl, _, rfl, (by show 2 ≤ sizeLine; decide), fun T hT => ?_⟩
          have s9 := same1 (o := .tup [.int days, .ref D]) hT
          refine q _ T (some days, vs) zz (b04.trans (b5.trans (bM.trans (same_but s9)))) (wz.same s9) x0 (by omega) ⟨D, upd_same, Dp, rs, s9 _ _ eD, hrs.mono fun q y _ _ h => s9 _ _ h⟩ ⟨⟨days, rfl, dn.1, dn.2⟩, ?_, ?_, hvs⟩
          · show 1 ≤ vs.length
            omega
          · show vs.length ≤ 12
            omega
      · refine ⟨_, rfl, _, rfl, p, z4, 4, 1, rfl, w4, k0, by omega, by decide, by decide, by decide, by decide, fun G5 wl vs z5 b5 hwl nwl w5 j0 j1 pw lw1 lw2 hpw => ?_⟩
        refine ⟨(by show 2 ≤ sizeLine; decide), fun T hT => ?_⟩
        have s9 := same1 (o := .tup [.int days, .ref wl]) hT
        have pn : PrsN (· = p) G5 wl vs := pw.prsN nwl
        refine q _ T (some days, vs) z5 (b04.trans (b5.trans (same_but s9))) (w5.same s9) j0 (by omega) ⟨wl, upd_same, pn.same s9⟩ ⟨⟨days, rfl, dn.1, dn.2⟩, lw1, ?_, hpw⟩
        show vs.length ≤ 12
        omega
end
end K13

namespace K13
open PySem PySem.Spec PyProof.Rows L2
/-! ### the law's own end -/
theorem rot_take {ws : W2} {m : Nat} {B : Int} (m1 : 1 ≤ m) (ml : m ≤ ws.length) (h : Rot ws m) (x : Int) : cyc ws B x = cyc (ws.take m) B x := by
  have l : 1 ≤ ws.length := by omega
  have lt : (ws.take m).length = m := by rw [List.length_take]; omega
  have m0 : (0 : Int) < (m : Int) := by omega
  have r0 := Int.emod_nonneg (x - B) (show (m : Int) ≠ 0 by omega)
  have r1 := Int.emod_lt_of_pos (x - B) m0
  have dm := Int.emod_add_mul_ediv (x - B) (m : Int)
  have key : cyc ws B x = cyc ws B (B + (x - B) % (m : Int)) := by
    have pm := fun k => per_mul (f := cyc ws B) (b := min x (B + (x - B) % (m : Int))) (r := (m : Int)) (fun y _ => rot_per l h y) (by omega) k
    by_cases c : 0 ≤ (x - B) / (m : Int)
    · obtain ⟨k, hk⟩ : ∃ k : Nat, (x - B) / (m : Int) = (k : Int) := ⟨((x - B) / (m : Int)).toNat, (Int.toNat_of_nonneg c).symm⟩
      rw [hk] at dm
      have := pm k (B + (x - B) % (m : Int)) (by omega)
      rw [← this]
      congr 1
      rw [Int.mul_comm (m : Int)] at dm
      omega
    · obtain ⟨k, hk⟩ : ∃ k : Nat, -((x - B) / (m : Int)) = (k : Int) := ⟨(-((x - B) / (m : Int))).toNat, (Int.toNat_of_nonneg (by omega)).symm⟩
      have := pm k x (by omega)
      rw [← this]
      congr 1
      have e : (m : Int) * ((x - B) / (m : Int)) = -((k : Int) * (m : Int)) := by
        rw [show (x - B) / (m : Int) = -(k : Int) from by omega, Int.mul_neg, Int.mul_comm]
      omega
  rw [key]
  unfold cyc
  rw [lt, show B + (x - B) % (m : Int) - B = (x - B) % (m : Int) from by omega, Int.emod_eq_of_lt (b := (ws.length : Int)) r0 (by omega), List.getElem?_take_of_lt (by omega)]
def spLEnd (K : PySem.W.Frag) : Sp := fun vs H Q _ => ∃ (l : Addr) (told : List Sx) (n k e : Nat), vs = [.ref l] ∧ LTold K H l told ∧ DT n k e told ∧
  ∀ (H' : Hp) (q : Addr) (b r : Int), Same H H' → EndV (onV told) b r → H' q = some (.tup [.int b, .int r]) → Q (.ref q) H'
section
variable {P : Program} {w : World} {K : PySem.W.Frag} {mg : Str → Option Value} {base : Heap}
abbrev leN : List Str := ["told", "word", "many", "begin", "days", "one", "last", "least", "k", "day", "due"]
theorem scLEnd : FnScope leN ["told"] (defScope d_law_end) := ⟨rfl, rfl, rfl, by decide +kernel, rfl, by decide +kernel, by decide +kernel⟩
theorem ok_lend {f f1 : Addr} {fd fd1 : FuncData} (F : Fun K "_law_end" "_law_end" d_law_end f fd) (B : TxtB mg) (hrange : mg "range" = none) (hsum : mg "sum" = none) (hmax : mg "max" = none)
    (A1 : At P w K mg base CX0 1 "_law_round" ["word"] (spLRound K) f1 fd1) : FnOk P w K mg base CX0 2 f fd ["told"] (spLEnd K) := by
  refine F.ok scLEnd (fun vs H Q E h => ?_) (fun cdv A outer s H vs Q E hr h => ?_)
  · obtain ⟨_, _, _, _, _, rfl, _⟩ := h
    rfl
  · obtain ⟨l, told, n, k, e, rfl, ⟨ts, hl, lt, hst⟩, d, q⟩ := h
    refine ⟨_, pss_cons (ps_set (i := 1) scLEnd.nd rfl (Or.inl rfl) (pe_ix ix_tup (pe_ix ix_list (pv 0) (pe_un un_neg pe_int) (fun _ _ => rfl)) pe_int (fun _ _ => rfl)))
      (pss_cons (ps_set (i := 2) scLEnd.nd rfl (Or.inl rfl) (pe_call A1.G hr rfl A1.m A1.k A1.b .nil pass0 (pa_cons (pv 1) pa_nil)))
      (pss_cons (ps_set (i := 3) scLEnd.nd rfl (Or.inl rfl) (pe_callB (cr_sum rfl) (by rfl) hsum (by decide +kernel) (pa_cons
        (pe_lc (own := [("days", 4), ("one", 5)]) (g := gTup K 2 (gCons (gName 4) (gCons (gName 5) gNil))) (by rfl) scLEnd.nd (pi_list (pe_slice sl_list (pv 0) po_none (po_some (pe_un un_neg pe_int)))) (blkOk_by (own := [("days", 4), ("one", 5)]) (N := leN) (sc := defScope d_law_end) (by decide +kernel))
          (fun _ _ _ _ _ => pg_tup (by rfl) (pgs_cons (pg_name (i := 4) scLEnd.nd rfl (.inl rfl)) (pgs_cons (pg_name (i := 5) scLEnd.nd rfl (.inl rfl)) pgs_nil))) (fun _ _ _ _ _ => pts_nil) (fun _ _ _ _ _ => pv 4)) pa_nil)))
      (pss_cons (ps_set (i := 6) scLEnd.nd rfl (Or.inl rfl) (pv 3))
      (pss_cons (ps_for PassesOwn.never rfl (pi_list (pe_revL (pe_slice sl_list (pv 0) po_none (po_some (pe_un un_neg pe_int))))) (pg_tup (by rfl) (pgs_cons (pg_name (i := 4) scLEnd.nd rfl (.inl rfl)) (pgs_cons (pg_name (i := 5) scLEnd.nd rfl (.inl rfl)) pgs_nil)))
        (pss_cons (ps_set (i := 7) scLEnd.nd rfl (Or.inl rfl) (pe_callB (call_max2 rfl) (by rfl) hmax (by decide +kernel) (pa_cons (pe_op op_sub (pv 3) (pv 4)) (pa_cons (pe_op op_sub (pe_op op_sub (pv 3) (pe_callB call_len_seq (by rfl) B.len PySem.boot_len (pa_cons (pv 5) pa_nil))) (pv 2)) pa_nil))))
        (pss_cons (ps_for PassesOwn.never rfl (pi_range1 (by rfl) hrange (pa_cons (pe_op op_sub (pv 3) (pv 7)) pa_nil)) (pg_name (i := 8) scLEnd.nd rfl (.inl rfl))
          (pss_cons (ps_set (i := 9) scLEnd.nd rfl (Or.inl rfl) (pe_op op_sub (pe_op op_sub (pv 3) pe_int) (pv 8)))
          (pss_cons (ps_set (i := 10) scLEnd.nd rfl (Or.inl rfl) (pe_ix ix_list (pv 1) (pe_op op_mod (pe_op op_sub (pv 9) (pv 6)) (pv 2)) (fun _ _ => rfl)))
          (pss_one (ps_if (pt_cmpR (op_neD hr.units) (pe_ix ix_list (pv 5) (pe_op op_mod (pe_op op_add (pe_op op_sub (pv 9) (pv 3)) (pv 4)) (pe_callB call_len_seq (by rfl) B.len PySem.boot_len (pa_cons (pv 5) pa_nil))) (fun _ _ => rfl)) (pv 10) (nomark _))
            (pss_one (ps_ret (pe_tup (pa_cons (pe_op op_add (pv 9) pe_int) (pa_cons (pv 2) pa_nil))))) pss_nil)))))
        (pss_one (ps_set (i := 3) scLEnd.nd rfl (Or.inl rfl) (pe_op op_sub (pv 3) (pv 4)))))))
      (pss_one (ps_ret (pe_tup (pa_cons (pv 3) (pa_cons (pv 2) pa_nil))))))))), ?_⟩
    have ok := d.ok
    have pos := ok.pos
    have few := ok.few
    have hL : told[told.length - 1]? = some (told[told.length - 1]'(by omega)) := List.getElem?_eq_getElem (by omega)
    have lastN := (ok.open_ _ _ hL).mpr (by omega)
    have lw := ok.word _ _ hL
    have htL : ts[told.length - 1]? = some (ts[told.length - 1]'(by omega)) := List.getElem?_eq_getElem (by omega)
    obtain ⟨wl, q1, pr⟩ := hst _ _ _ htL hL
    rw [lastN] at q1
    generalize hxl : (told[told.length - 1]'(by omega)) = xl at *
    generalize htl : (ts[told.length - 1]'(by omega)) = tl at *
    obtain ⟨dl, ws⟩ := xl
    have lw1 : 1 ≤ ws.length := lw.1
    have lw60 : ws.length ≤ 60 := lw.2
    have lastN : dl = none := lastN
    have tail : ∀ x, bAt told (told.length - 1) ≤ x → onV told x = cyc ws (bAt told (told.length - 1)) x := fun x hx => by
      have a : AtDay told (told.length - 1) x := ⟨by omega, hx, fun s e => by
        unfold stopOf at e
        rw [hL] at e
        have e : (dl.map fun n => bAt told (told.length - 1) + n) = some s := e
        rw [lastN] at e
        cases e⟩
      rw [on_day ok a hL]
      rfl
    obtain ⟨qs, hwl, lqs, hqs⟩ := id pr
    have lqs : qs.length = ws.length := lqs
    refine ⟨_, rfl, _, rfl, l, _, _, .ref tl, rfl, rfl, hl, ?_, ?_⟩
    · refine at_last (by rw [List.length_map]; omega) ?_
      rw [List.length_map, List.getElem?_map, lt, htL]
      rfl
    refine ⟨tl, _, 1, .ref wl, rfl, rfl, q1, at_k (by decide) rfl, ?_⟩
    refine ⟨_, rfl, wl, ws, rfl, pr, lw1, lw60, fun H1 m s1 rv => ?_⟩
    obtain ⟨m1, ml, mr, mn⟩ := rv
    have hl1 := s1.seq hl
    generalize hB : bAt told (told.length - 1) = BL at *
    have lm : (ws.take m).length = m := by rw [List.length_take]; omega
    have tail' : ∀ x, BL ≤ x → onV told x = cyc (ws.take m) BL x := fun x hx => (tail x hx).trans (rot_take m1 ml mr x)
    have least : ∀ r' b', 1 ≤ r' → (∀ x, b' ≤ x → onV told (x + r') = onV told x) → (m : Int) ≤ r' := fun r' b' h1 h2 => by
      obtain ⟨n, rfl⟩ : ∃ n : Nat, r' = (n : Int) := ⟨r'.toNat, (Int.toNat_of_nonneg (by omega)).symm⟩
      refine min_per (p := (ws.length : Int)) (b := BL) (by omega) (fun x hx => ?_) (fun k b2 k1 kd hk => ?_) n b' (by omega) h2
      · rw [tail _ (by omega), tail _ hx, cyc_per]
      · obtain ⟨k, rfl⟩ : ∃ n : Nat, k = (n : Int) := ⟨k.toNat, (Int.toNat_of_nonneg (by omega)).symm⟩
        have r := rot_of lw1 tail hk
        by_cases c : k < m
        · exact absurd r (mn k (by omega) c)
        · omega
    have cutE : cutV (ts.map V.ref) none (some (-1)) = (ts.take (told.length - 1)).map V.ref := by
      rw [show cutV (ts.map V.ref) none (some (-1)) = (ts.map V.ref).take ((ts.map V.ref).length - 1) from cut_back (n := 1) (by decide), List.length_map, ← List.map_take, lt]
    have ltk : (ts.take (told.length - 1)).length = told.length - 1 := by rw [List.length_take]; omega
    -- the sum of the days
    refine ⟨_, rfl, _, rfl, _, rfl, l, _, rfl, hl1, fun S hS => ?_⟩
    rw [cutE]
    have s2 : Same H1 (upd H1 S (.lst ((ts.take (told.length - 1)).map V.ref))) := same1 hS
    have eS : (upd H1 S (.lst ((ts.take (told.length - 1)).map V.ref)) : Hp) S = some (.lst ((ts.take (told.length - 1)).map V.ref)) := upd_same
    generalize upd H1 S (.lst ((ts.take (told.length - 1)).map V.ref)) = H2 at *
    have s02 := s1.trans s2
    refine ⟨S, rfl, ⟨_, SqL.of eS⟩, fun D hD => ?_⟩
    have nSD : S ≠ D := fun e => by rw [e, hD] at eS; cases eS
    refine lc_list (K := K) (a := S) (xs := (ts.take (told.length - 1)).map V.ref) (fun i M => M D = some (.lst (((told.take i).map fun x => x.1.getD 0).map V.int)) ∧ Same H2 M) ⟨upd_same, same1 hD⟩ ?_ ?_ ?_
    · rintro i M _ ⟨_, sM⟩
      exact sM.seq (SqL.of eS)
    · rintro i x M hx ⟨eD, sM⟩
      rw [List.getElem?_map] at hx
      obtain ⟨t, ht, rfl⟩ := Option.map_eq_some_iff.mp hx
      have il : i < told.length - 1 := by
        have := (List.getElem?_eq_some_iff.mp ht).1
        omega
      rw [List.getElem?_take_of_lt il] at ht
      have hxi : told[i]? = some told[i] := List.getElem?_eq_getElem (by omega)
      obtain ⟨wi, qi, _⟩ := hst i t _ ht hxi
      obtain ⟨mi, em, _⟩ := ok.ends (k := told.length - 1) il (by omega) hxi
      rw [em] at qi
      refine ⟨t, _, rfl, Same.tup (s02.trans sM) qi, rfl, _, _, rfl, _, _, rfl, rfl, rfl, ?_⟩
      refine ⟨_, rfl, _, eD, ?_, ?_, fun b o eb => ?_⟩
      · rw [List.length_map, List.length_map, List.length_take]
        exact Nat.lt_of_le_of_lt (Nat.min_le_left _ _) (Nat.lt_of_lt_of_le (show i < 60 by omega) (by decide))
      · rw [List.take_succ_eq_append_getElem (by omega : i < told.length), List.map_append, List.map_append]
        refine Eq.trans upd_same ?_
        show _ = some (HO.lst (_ ++ [V.int (told[i].1.getD 0)]))
        rw [em]
        rfl
      · rw [upd_ne (ne_of_none eb hD)]
        exact sM _ _ eb
    · rintro M ⟨eD, sM⟩
      rw [List.length_map, ltk] at eD
      have sM2 := s02.trans sM
      have hlM := sM2.seq hl
      refine ⟨D, _, rfl, SqL.of eD, ?_⟩
      show gName 3 (V.int (bAt told (told.length - 1))) _ _ _
      rw [hB]
      refine ⟨_, rfl, ?_⟩
      refine ⟨_, rfl, _, rfl, _, rfl, l, _, rfl, hlM, fun S2 hS2 => ?_⟩
      rw [cutE]
      have s3 : Same M (upd M S2 (.lst ((ts.take (told.length - 1)).map V.ref))) := same1 hS2
      have eS2 : (upd M S2 (.lst ((ts.take (told.length - 1)).map V.ref)) : Hp) S2 = some (.lst ((ts.take (told.length - 1)).map V.ref)) := upd_same
      generalize upd M S2 (.lst ((ts.take (told.length - 1)).map V.ref)) = M2 at *
      refine ⟨S2, _, rfl, SqL.of eS2, fun S3 hS3 => ?_⟩
      have s4 : Same M2 (upd M2 S3 (.lst ((ts.take (told.length - 1)).map V.ref).reverse)) := same1 hS3
      have eS3 : (upd M2 S3 (.lst ((ts.take (told.length - 1)).map V.ref).reverse) : Hp) S3 = some (.lst ((ts.take (told.length - 1)).map V.ref).reverse) := upd_same
      generalize upd M2 S3 (.lst ((ts.take (told.length - 1)).map V.ref).reverse) = M3 at *
      have s03 := sM2.trans (s3.trans s4)
      refine ⟨S3, rfl, ⟨_, SqL.of eS3⟩, ?_⟩
      refine for_list (K := K) (a := S3) (xs := ((ts.take (told.length - 1)).map V.ref).reverse) (fun i σ G => G = M3 ∧ (∃ v4 v5 v7 v8 v9 va : Option V, σ = [some (.ref l), some (.ref wl), some (.int (m : Int)), some (.int (bAt told (told.length - 1 - i))), v4, v5, some (.int BL), v7, v8, v9, va]) ∧ ∀ x, bAt told (told.length - 1 - i) ≤ x → onV told x = cyc (ws.take m) BL x)
        ⟨rfl, ⟨_, _, _, _, _, _, by rw [Nat.sub_zero, hB]; rfl⟩, fun x hx => tail' x (by rw [Nat.sub_zero, hB] at hx; exact hx)⟩ ?_ ?_ ?_
      · rintro i σ G _ ⟨rfl, _⟩
        exact SqL.of eS3
      · rintro i x σ G hx ⟨rfl, ⟨v4, v5, v7, v8, v9, va, rfl⟩, hal⟩
        have hi : i < told.length - 1 := by
          have := (List.getElem?_eq_some_iff.mp hx).1
          rw [List.length_reverse, List.length_map, ltk] at this
          exact this
        rw [List.getElem?_reverse (by rw [List.length_map, ltk]; exact hi), List.length_map, ltk, List.getElem?_map] at hx
        obtain ⟨t, ht, rfl⟩ := Option.map_eq_some_iff.mp hx
        obtain ⟨kk, hkk⟩ : ∃ kk : Nat, told.length - 1 - 1 - i = kk := ⟨_, rfl⟩
        rw [hkk, List.getElem?_take_of_lt (by omega)] at ht
        have hxk : told[kk]? = some told[kk] := List.getElem?_eq_getElem (by omega)
        obtain ⟨w1, qk, prk⟩ := hst kk t _ ht hxk
        obtain ⟨mk, em, mk1⟩ := ok.ends (k := told.length - 1) (show kk < told.length - 1 by omega) (by omega) hxk
        have bn := bAt_next hxk
        have lk := ok.word kk _ hxk
        have fk := d.far _ (List.mem_of_getElem? hxk) mk em
        have rk := d.reach kk (by omega)
        have rk1 := d.reach (kk + 1) (by omega)
        rw [em] at qk bn
        have bn : bAt told (kk + 1) = bAt told kk + mk := bn
        have onk : ∀ y, bAt told kk ≤ y → y < bAt told (kk + 1) → onV told y = cyc told[kk].2 (bAt told kk) y := fun y y0 y1 => by
          have a : AtDay told kk y := ⟨by omega, y0, fun s e => by
            unfold stopOf at e
            rw [hxk] at e
            have e : (told[kk].1.map fun n => bAt told kk + n) = some s := e
            rw [em] at e
            have e : some (bAt told kk + mk) = some s := e
            injection e with e
            omega⟩
          rw [on_day ok a hxk]
          rfl
        generalize told[kk] = xk at *
        obtain ⟨dk, wk⟩ := xk
        have lk1 : 1 ≤ wk.length := lk.1
        have lk60 : wk.length ≤ 60 := lk.2
        obtain ⟨qw, hw1, lqw, hqw⟩ := prk
        have lqw : qw.length = wk.length := lqw
        rw [show told.length - 1 - i = kk + 1 from by omega] at hal ⊢
        generalize hbeg : bAt told (kk + 1) = bg at *
        have qk3 := Same.tup s03 qk
        refine ⟨t, _, rfl, qk3, rfl, _, _, rfl, _, _, rfl, rfl, ?_⟩
        have hw3 := s03.seq hw1
        have hwl3 := s03.seq hwl
        refine ⟨_, rfl, _, rfl, _, _, rfl, rfl, _, rfl, _, rfl, w1, _, rfl, .inl hw3, _, _, rfl, rfl, _, rfl, _, _, rfl, rfl, ?_⟩
        rw [List.length_map, lqw]
        refine ⟨_, _, rfl, ?_⟩
        obtain ⟨le, hle, le0, le1, le2⟩ : ∃ le : Int, le = (if bg - (wk.length : Int) - (m : Int) > bg - mk then bg - (wk.length : Int) - (m : Int) else bg - mk) ∧ le < bg ∧ bg - mk ≤ le ∧ (le = bg - mk ∨ le = bg - wk.length - m) := by
          refine ⟨_, rfl, ?_⟩
          split <;> omega
        rw [← hle]
        have w62 : (60 : Int) * 2 ^ 41 + 200 < 2 ^ 62 := by decide
        refine ⟨_, rfl, _, rfl, _, _, rfl, rfl, _, rfl, by omega, by omega, ?_⟩
        refine for_range (lo := 0) (n := (bg - le).toNat) (fun j σ N => N = G ∧ (∃ v8 v9 va : Option V, σ = [some (.ref l), some (.ref wl), some (.int (m : Int)), some (.int bg), some (.int mk), some (.ref w1), some (.int BL), some (.int le), v8, v9, va]) ∧ ∀ x, bg - (j : Int) ≤ x → onV told x = cyc (ws.take m) BL x)
          ⟨rfl, ⟨_, _, _, rfl⟩, fun x hx => hal x (by omega)⟩ ?_ ?_
        · rintro j σ N hj ⟨rfl, ⟨v8, v9, va, rfl⟩, hx⟩
          refine ⟨_, rfl, _, _, rfl, rfl, _, rfl, _, _, rfl, rfl, ?_⟩
          obtain ⟨day, hd⟩ : ∃ day : Int, bg - 1 - (0 + (j : Int)) = day := ⟨_, rfl⟩
          show gName 9 (V.int (bg - 1 - (0 + (j : Int)))) _ _ _
          rw [hd]
          have n0 := Int.emod_nonneg (day - BL) (show (m : Int) ≠ 0 by omega)
          have n1 := Int.emod_lt_of_pos (day - BL) (show (0 : Int) < (m : Int) by omega)
          have kl : ((day - BL) % (m : Int)).toNat < ws.length := by omega
          have hk1 : qs[((day - BL) % (m : Int)).toNat]? = some (qs[((day - BL) % (m : Int)).toNat]'(by omega)) := List.getElem?_eq_getElem (by omega)
          have hk2 : ws[((day - BL) % (m : Int)).toNat]? = some ws[((day - BL) % (m : Int)).toNat] := List.getElem?_eq_getElem kl
          have vG : cyc (ws.take m) BL day = some ws[((day - BL) % (m : Int)).toNat] := by
            unfold cyc
            rw [lm, List.getElem?_take_of_lt (by omega), hk2]
          refine ⟨_, rfl, _, rfl, _, rfl, _, _, rfl, rfl, _, rfl, _, _, rfl, rfl, by omega, ?_⟩
          refine ⟨wl, _, _, .ref (qs[((day - BL) % (m : Int)).toNat]'(by omega)), rfl, rfl, hwl3, at_k n0 (by rw [List.getElem?_map, hk1]; rfl), ?_⟩
          have c0 := Int.emod_nonneg (day - bg + mk) (show (wk.length : Int) ≠ 0 by omega)
          have c1 := Int.emod_lt_of_pos (day - bg + mk) (show (0 : Int) < (wk.length : Int) by omega)
          have hk3 : qw[((day - bg + mk) % (wk.length : Int)).toNat]? = some (qw[((day - bg + mk) % (wk.length : Int)).toNat]'(by omega)) := List.getElem?_eq_getElem (by omega)
          have hk4 : wk[((day - bg + mk) % (wk.length : Int)).toNat]? = some (wk[((day - bg + mk) % (wk.length : Int)).toNat]'(by omega)) := List.getElem?_eq_getElem (by omega)
          have vF : onV told day = some (wk[((day - bg + mk) % (wk.length : Int)).toNat]'(by omega)) := by
            rw [onk day (by omega) (by omega)]
            unfold cyc
            show wk[((day - bAt told kk) % (wk.length : Int)).toNat]? = _
            rw [show day - bAt told kk = day - bg + mk from by omega]
            exact hk4
          refine ⟨_, rfl, _, rfl, _, rfl, _, _, rfl, rfl, _, rfl, _, _, rfl, rfl, _, rfl, w1, _, rfl, .inl hw3, _, _, rfl, rfl, (by rw [List.length_map, lqw]; omega), ?_⟩
          rw [List.length_map, lqw]
          refine ⟨w1, _, _, .ref (qw[((day - bg + mk) % (wk.length : Int)).toNat]'(by omega)), rfl, rfl, hw3, at_k c0 (by rw [List.getElem?_map, hk3]; rfl), ?_⟩
          refine ⟨_, rfl, _, _, Dp.tup (Same.tup s03 (hqw _ _ _ hk3 hk4)) (.cons (.int _) (.cons (.int _) .nil)), Dp.tup (Same.tup s03 (hqs _ _ _ hk1 hk2)) (.cons (.int _) (.cons (.int _) .nil)), rfl, rfl, _, rfl, ?_⟩
          rw [eqv_pair]
          generalize (wk[((day - bg + mk) % (wk.length : Int)).toNat]'(by omega)) = y1 at *
          generalize ws[((day - BL) % (m : Int)).toNat] = y2 at *
          by_cases e : y1 = y2
          · subst e
            rw [decide_eq_true rfl, decide_eq_true rfl]
            refine iteF ⟨rfl, ⟨_, _, _, rfl⟩, fun x x0 => ?_⟩
            by_cases cx : x = day
            · rw [cx, vF, vG]
            · exact hx x (by omega)
          · have de : (!(decide (y1.1 = y2.1) && decide (y1.2 = y2.2))) = true := by
              rw [← Bool.decide_and, decide_eq_false (fun z => e (Prod.ext z.1 z.2))]
              rfl
            rw [de]
            refine iteT ⟨_, rfl, _, _, rfl, rfl, _, rfl, (by show 2 ≤ sizeLine; decide), fun T hT => ?_⟩
            refine q _ T (day + 1) _ (s03.trans (same1 hT)) ⟨by omega, by omega, fun x x0 => ?_, fun _ => ?_, least⟩ upd_same
            · rw [hx _ (by omega), hx _ (by omega)]
              have := cyc_per (ws := ws.take m) (B := BL) x
              rw [lm] at this
              exact this
            · rw [show day + 1 - 1 = day from by omega, hx _ (by omega), vF]
              have := cyc_per (ws := ws.take m) (B := BL) day
              rw [lm] at this
              rw [this, vG]
              exact fun z => e (Option.some.inj z).symm
        · rintro σ N ⟨rfl, ⟨v8, v9, va, rfl⟩, hx⟩
          refine ⟨_, rfl, _, rfl, _, _, rfl, rfl, rfl, ⟨_, _, _, _, _, _, by rw [show told.length - 1 - (i + 1) = kk from by omega, show bAt told kk = bg - mk from by omega]; rfl⟩, fun x x0 => ?_⟩
          rw [show told.length - 1 - (i + 1) = kk from by omega] at x0
          by_cases c : bg ≤ x
          · exact hal x c
          · rw [onk x x0 (by omega)]
            refine fwB (b := bAt told kk) (e := bg) lk1 (by omega) (fun y y0 y1 y2 => ?_) (bg - x).toNat x (by omega) x0 (by omega)
            rw [← onk y y0 y2]
            refine hx y ?_
            rw [lm] at y1
            rcases le2 with z | z <;> omega
      · rintro σ G ⟨rfl, ⟨v4, v5, v7, v8, v9, va, rfl⟩, hal⟩
        rw [List.length_reverse, List.length_map, ltk, Nat.sub_self, bAt_zero] at hal ⊢
        refine ⟨_, rfl, _, rfl, (by show 2 ≤ sizeLine; decide), fun T hT => ?_⟩
        refine q _ T 0 _ (s03.trans (same1 hT)) ⟨by omega, Int.le_refl _, fun x x0 => ?_, fun z => absurd z (Int.lt_irrefl _), least⟩ upd_same
        rw [hal _ (by omega), hal _ x0]
        have := cyc_per (ws := ws.take m) (B := BL) x
        rw [lm] at this
        exact this
end
end K13

namespace K13
open PySem PySem.Spec PyProof.Rows L2
/-! ### by all rounds there are -/
theorem rot_by {ws : W2} {B : Int} {k : Nat} (l : 1 ≤ ws.length) (h : ∀ i : Nat, i < ws.length → cyc ws B (B + (i : Int) + (k : Int)) = cyc ws B (B + (i : Int))) : Rot ws k := fun x => by
  have xl := Nat.mod_lt x (show 0 < ws.length by omega)
  have e := h (x % ws.length) xl
  unfold cyc at e
  rw [show B + ((x % ws.length : Nat) : Int) + (k : Int) - B = ((x % ws.length + k : Nat) : Int) from by omega, show B + ((x % ws.length : Nat) : Int) - B = ((x % ws.length : Nat) : Int) from by omega, ← Int.natCast_emod, ← Int.natCast_emod, Int.toNat_natCast, Int.toNat_natCast, Nat.mod_add_mod, Nat.mod_mod] at e
  exact e
def spPlain (K : PySem.W.Frag) : Sp := fun vs H Q _ => ∃ (l : Addr) (told : List Sx) (n k e : Nat), vs = [.ref l, .int (bAt told (told.length - 1))] ∧ LTold K H l told ∧ DT n k e told ∧ k ≤ 12 ∧ bAt told (told.length - 1) < 90 ∧
  ∀ (H' : Hp) (q : Addr) (b r : Int), Same H H' → EndV (onV told) b r → H' q = some (.tup [.int b, .int r]) → Q (.ref q) H'
def begOf : L2.St → Nat
  | [_, _, _, _, _, some (.int b)] => b.toNat
  | _ => 0
section
variable {P : Program} {w : World} {K : PySem.W.Frag} {mg : Str → Option Value} {base : Heap}
abbrev plN : List Str := ["told", "long", "days", "day", "many", "begin"]
theorem scPlain : FnScope plN ["told", "long"] (defScope d_law_plain) := ⟨rfl, rfl, rfl, by decide +kernel, rfl, by decide +kernel, by decide +kernel⟩
theorem ok_plain {f f1 : Addr} {fd fd1 : FuncData} (F : Fun K "_law_plain" "_law_plain" d_law_plain f fd) (B : TxtB mg) (hrange : mg "range" = none)
    (A1 : At P w K mg base CX0 1 "_law_on" ["told", "day"] (spLOn K) f1 fd1) : FnOk P w K mg base CX0 2 f fd ["told", "long"] (spPlain K) := by
  refine F.ok scPlain (fun vs H Q E h => ?_) (fun cdv A outer s H vs Q E hr h => ?_)
  · obtain ⟨_, _, _, _, _, rfl, _⟩ := h
    rfl
  · obtain ⟨l, told, n, k, e, rfl, hl, d, k12, l90, q⟩ := h
    refine ⟨_, pss_cons (ps_setLc (i := 2) (own := [("day", 3)]) (g := gName 3) (by rfl) scPlain.nd rfl rfl (sw_true rfl rfl rfl (by decide +kernel)) (pi_range1 (by rfl) hrange (pa_cons (pe_op op_add (pv 1) pe_int) pa_nil)) (blkOk_by (own := [("day", 3)]) (N := plN) (sc := defScope d_law_plain) (by decide +kernel)) (fun _ _ _ _ _ => pg_name (i := 3) scPlain.nd rfl (.inl rfl)) (fun _ _ _ _ _ => pts_nil)
          (fun _ _ _ _ _ => pe_call A1.G hr rfl A1.m A1.k A1.b .nil pass0 (pa_cons (pv 0) (pa_cons (pv 3) pa_nil))))
      (pss_cons (ps_for PassesOwn.never rfl (pi_range2 (by rfl) hrange (pa_cons pe_int (pa_cons pe_int pa_nil))) (pg_name (i := 4) scPlain.nd rfl (.inl rfl))
        (pss_cons (ps_set (i := 5) scPlain.nd rfl (Or.inl rfl) (pe_op op_sub (pe_callB call_len_seq (by rfl) B.len PySem.boot_len (pa_cons (pv 2) pa_nil)) (pv 4)))
        (pss_cons (ps_while PassesOwn.never (PW.pt (pw_and (pt_cmpR op_gt (pv 5) pe_int (nomark _)) (pw_and1 (pt_cmpR (op_eqD hr.units) (pe_ix ix_list (pv 2) (pe_op op_sub (pv 5) pe_int) (fun _ _ => rfl)) (pe_ix ix_list (pv 2) (pe_op op_add (pe_op op_sub (pv 5) pe_int) (pv 4)) (fun _ _ => rfl)) (nomark _)))))
          (pss_one (ps_set (i := 5) scPlain.nd rfl (Or.inl rfl) (pe_op op_sub (pv 5) pe_int))))
        (pss_one (ps_if (pt_cmpR op_le (pv 5) (pv 1) (nomark _)) (pss_one (ps_ret (pe_tup (pa_cons (pv 5) (pa_cons (pv 4) pa_nil))))) pss_nil)))))
      (pss_one (ps_ret pe_non))), ?_⟩
    have ok := d.ok
    have pos := ok.pos
    have hL : told[told.length - 1]? = some (told[told.length - 1]'(by omega)) := List.getElem?_eq_getElem (by omega)
    have lastN := (ok.open_ _ _ hL).mpr (by omega)
    have lw := (ok.word _ _ hL).1
    have lk := d.len _ (List.mem_of_getElem? hL)
    have B0 := (d.reach (told.length - 1) (by omega)).1
    have tail : ∀ x, bAt told (told.length - 1) ≤ x → onV told x = cyc (told[told.length - 1]'(by omega)).2 (bAt told (told.length - 1)) x := fun x hx => by
      have a : AtDay told (told.length - 1) x := ⟨by omega, hx, fun s e => by
        unfold stopOf at e
        rw [hL] at e
        have e : ((told[told.length - 1]'(by omega)).1.map fun n => bAt told (told.length - 1) + n) = some s := e
        rw [lastN] at e
        cases e⟩
      rw [on_day ok a hL]
      rfl
    generalize (told[told.length - 1]'(by omega)).2 = ws at *
    generalize bAt told (told.length - 1) = BL at *
    obtain ⟨N0, hN0⟩ : ∃ N0 : Nat, BL + 160 = (N0 : Int) := ⟨(BL + 160).toNat, (Int.toNat_of_nonneg (by omega)).symm⟩
    refine ⟨_, rfl, _, _, rfl, rfl, _, rfl, by omega, by omega, fun D hD => ?_⟩
    rw [show (BL + 160).toNat = N0 from by omega]
    refine lc_range (lo := 0) (n := N0) (fun j M => ∃ (rs : List Addr) (vs : W2), M D = some (.lst (rs.map V.ref)) ∧ All2 (fun r (y : Int × Int) => SqT K M r [.int y.1, .int y.2]) rs vs ∧ rs.length = j ∧ (∀ i : Nat, i < j → vs[i]? = onV told (i : Int)) ∧ Same H M)
      ⟨[], [], upd_same, .nil, rfl, (fun i h => absurd h (Nat.not_lt_zero i)), same1 hD⟩ ?_ ?_
    · rintro j M hj ⟨rs, vs, eD, hrs, lr, hv, sM⟩
      refine ⟨rfl, ?_⟩
      refine ⟨_, rfl, _, rfl, l, (0 : Int) + (j : Int), told, rfl, hl.mono sM, ok, by omega, fun r y hy er => ?_⟩
      have kp := keep_lst (ys := rs.map V.ref ++ [.ref r]) eD
      have lv : vs.length = rs.length := hrs.len.symm
      refine ⟨_, eD, (by rw [List.length_map, lr]; exact Nat.lt_of_lt_of_le (show j < 250 by omega) (by decide)), rs ++ [r], vs ++ [y], by rw [List.map_append]; exact upd_same, (hrs.mono fun a z _ _ h => kp.tup h).snoc (kp.tup er), by rw [List.length_append, lr]; rfl, fun i hi => ?_, fun b o eb => ?_⟩
      · by_cases c : i < j
        · rw [List.getElem?_append_left (by omega)]
          exact hv i c
        · have : i = j := by omega
          subst this
          rw [List.getElem?_append_right (by omega), show i - vs.length = 0 from by omega]
          rw [Int.zero_add] at hy
          rw [hy]
          rfl
      · rw [upd_ne (ne_of_none eb hD)]
        exact sM _ _ eb
    · rintro M ⟨rs, vs, eD, hrs, lr, hv, sM⟩
      have lv : vs.length = N0 := hrs.len.symm.trans lr
      refine ⟨1, 13, rfl, ⟨by decide, by decide, by decide, by decide⟩, ?_⟩
      show (∃ W : Nat → Nat → L2.St → Hp → Prop, _)
      rw [show ((13 : Int) - 1).toNat = 12 from rfl]
      refine for_range (lo := 1) (n := 12) (fun i σ G => G = M ∧ (∃ v4 v5 : Option V, σ = [some (.ref l), some (.int BL), some (.ref D), none, v4, v5]) ∧ ∀ k, 1 ≤ k → k < 1 + i → ¬ Rot ws k) ⟨rfl, ⟨_, _, rfl⟩, fun k h1 h2 => by omega⟩ ?_ ?_
      · rintro i σ G hi ⟨rfl, ⟨v4, v5, rfl⟩, np⟩
        refine ⟨_, rfl, D, _, rfl, .inl (SqL.of eD), _, rfl, _, _, rfl, rfl, ?_⟩
        rw [List.length_map, lr]
        obtain ⟨mm, hmm⟩ : ∃ mm : Nat, 1 + i = mm := ⟨_, rfl⟩
        have hmI : 1 + (i : Int) = (mm : Int) := by omega
        rw [hmI]
        have fval : ∀ x : Int, 0 ≤ x → x < (N0 : Int) → ∃ (r : Addr) (y : Int × Int), (rs.map V.ref)[x.toNat]? = some (.ref r) ∧ onV told x = some y ∧ SqT K G r [.int y.1, .int y.2] := fun x x0 x1 => by
          have h1 : rs[x.toNat]? = some (rs[x.toNat]'(by omega)) := List.getElem?_eq_getElem (by omega)
          have h2 : vs[x.toNat]? = some (vs[x.toNat]'(by omega)) := List.getElem?_eq_getElem (by omega)
          refine ⟨_, _, by rw [List.getElem?_map, h1]; rfl, ?_, hrs.all _ _ _ h1 h2⟩
          have := hv x.toNat (by omega)
          rw [Int.toNat_of_nonneg x0] at this
          rw [← this, h2]
        refine while_by (fun σ G' => G' = G ∧ ∃ bg : Int, σ = [some (.ref l), some (.int BL), some (.ref D), none, some (.int (mm : Int)), some (.int bg)] ∧ 0 ≤ bg ∧ bg ≤ (N0 : Int) - (mm : Int) ∧ ∀ x, bg ≤ x → x < (N0 : Int) - (mm : Int) → onV told (x + (mm : Int)) = onV told x) (fun σ _ => begOf σ)
          ⟨rfl, (N0 : Int) - (mm : Int), rfl, by omega, Int.le_refl _, fun x x0 x1 => by omega⟩ ?_ ?_
        · rintro σ G' ⟨rfl, bg, rfl, g0, g1, gx⟩
          have endv : bg ≤ BL → (0 < bg → onV told (bg - 1 + (mm : Int)) ≠ onV told (bg - 1)) → EndV (onV told) bg (mm : Int) := fun hb hf => by
            have rot : Rot ws mm := rot_by (B := BL) lw fun i hi => by
              rw [← tail _ (by omega), ← tail _ (by omega)]
              exact gx _ (by omega) (by omega)
            refine ⟨by omega, g0, fun x x0 => ?_, hf, fun r' b' h1 h2 => ?_⟩
            · by_cases c : x < BL
              · exact gx x x0 (by omega)
              · rw [tail _ (by omega), tail _ (by omega)]
                exact rot_per lw rot x
            · obtain ⟨n, rfl⟩ : ∃ n : Nat, r' = (n : Int) := ⟨r'.toNat, (Int.toNat_of_nonneg (by omega)).symm⟩
              have r := rot_of lw tail h2
              by_cases c : n < mm
              · exact absurd r (np n (by omega) (by omega))
              · omega
          have norot : ¬ bg ≤ BL → (0 < bg → onV told (bg - 1 + (mm : Int)) ≠ onV told (bg - 1)) → ¬ Rot ws mm := fun hb hf r => by
            refine hf (by omega) ?_
            rw [tail _ (by omega), tail _ (by omega)]
            exact rot_per lw r (bg - 1)
          refine ⟨_, rfl, _, _, rfl, rfl, _, rfl, ?_⟩
          by_cases c0 : 0 < bg
          · rw [decide_eq_true (show bg > 0 from c0)]
            refine iteT ?_
            obtain ⟨r1, y1, a1, b1, c1⟩ := fval (bg - 1) (by omega) (by omega)
            obtain ⟨r2, y2, a2, b2, c2⟩ := fval (bg - 1 + (mm : Int)) (by omega) (by omega)
            refine ⟨_, rfl, _, rfl, _, _, rfl, rfl, D, _, _, .ref r1, rfl, rfl, SqL.of eD, at_k (by omega) a1, ?_⟩
            refine ⟨_, rfl, _, rfl, _, _, rfl, rfl, _, rfl, _, _, rfl, rfl, D, _, _, .ref r2, rfl, rfl, SqL.of eD, at_k (by omega) a2, ?_⟩
            refine ⟨_, _, Dp.tup c1 (.cons (.int _) (.cons (.int _) .nil)), Dp.tup c2 (.cons (.int _) (.cons (.int _) .nil)), rfl, rfl, _, rfl, ?_⟩
            rw [eqv_pair]
            by_cases e : y1 = y2
            · subst e
              rw [decide_eq_true rfl, decide_eq_true rfl]
              refine iteT ⟨_, rfl, _, _, rfl, rfl, ⟨rfl, bg - 1, rfl, by omega, by omega, fun x x0 x1 => ?_⟩, ?_⟩
              · by_cases cx : x = bg - 1
                · rw [cx, b1, b2]
                · exact gx x (by omega) x1
              · show (bg - 1).toNat < bg.toNat
                omega
            · have de : (decide (y1.1 = y2.1) && decide (y1.2 = y2.2)) = false := by
                rw [← Bool.decide_and, decide_eq_false (fun z => e (Prod.ext z.1 z.2))]
              rw [de]
              have hf : 0 < bg → onV told (bg - 1 + (mm : Int)) ≠ onV told (bg - 1) := fun _ => by
                rw [b1, b2]
                exact fun z => e (Option.some.inj z).symm
              refine iteF ⟨_, rfl, _, rfl, _, _, rfl, rfl, _, rfl, ?_⟩
              refine ite2 (fun h => ?_) (fun h => ?_)
              · refine ⟨_, rfl, _, rfl, (by show 2 ≤ sizeLine; decide), fun T hT => ?_⟩
                exact q _ T bg _ (sM.trans (same1 hT)) (endv (of_decide_eq_true h) hf) upd_same
              · refine ⟨rfl, ⟨_, _, rfl⟩, fun k k1 k2 => ?_⟩
                by_cases ck : k < 1 + i
                · exact np k k1 ck
                · rw [show k = mm from by omega]
                  exact norot (fun z => h (decide_eq_true z)) hf
          · rw [decide_eq_false (show ¬ bg > 0 from c0)]
            have hf : 0 < bg → onV told (bg - 1 + (mm : Int)) ≠ onV told (bg - 1) := fun z => absurd z c0
            refine iteF ⟨_, rfl, _, rfl, _, _, rfl, rfl, _, rfl, ?_⟩
            rw [decide_eq_true (show bg ≤ BL by omega)]
            refine iteT ⟨_, rfl, _, rfl, (by show 2 ≤ sizeLine; decide), fun T hT => ?_⟩
            exact q _ T bg _ (sM.trans (same1 hT)) (endv (by omega) hf) upd_same
        · intro σ H' Q1 Q2 mm h
          obtain ⟨a0, a1, a2, a3, a4, a5, a6, a7, q0⟩ := h
          refine ⟨a0, a1, a2, a3, a4, a5, a6, a7, ?_⟩
          cases a6 with
          | false => exact mm _ _ q0
          | true =>
            obtain ⟨u0, u1, u2, u3, u4, u5, u6, u7, u8, u9, u10, u11, u12, u13, u14, u15, u16, u17, u18, u19, u20, u21, u22, u23, u24, u25, u26, u27, u28, u29, u30, u31, u32, u33, u34, u35, u36, u37, u38, u39, u40, u41, u42, u43, u44, u45, q1⟩ := (show _ from q0)
            exact ⟨u0, u1, u2, u3, u4, u5, u6, u7, u8, u9, u10, u11, u12, u13, u14, u15, u16, u17, u18, u19, u20, u21, u22, u23, u24, u25, u26, u27, u28, u29, u30, u31, u32, u33, u34, u35, u36, u37, u38, u39, u40, u41, u42, u43, u44, u45, mm _ _ q1⟩
      · rintro σ G ⟨rfl, ⟨v4, v5, rfl⟩, np⟩
        exfalso
        exact np ws.length lw (by omega) fun x => by rw [Nat.add_mod_right]
end
end K13

namespace K13
open PySem PySem.Spec PyProof.Rows L2
theorem Keep.str {K : PySem.W.Frag} {C : Addr} {H H' : Hp} {t : Addr} {x : Option Int × W2} (k : Keep H H') (h : StrAt K C H t x) : StrAt K C H' t x := by
  obtain ⟨wa, a, ps, b, c⟩ := h
  exact ⟨wa, k.tup a, ps, k.tup b, k.all c⟩
theorem ShAll.all2 {C : Addr} {H : Hp} {ps : List Addr} {ws : W2} : ShAll C H ps ws ↔ All2 (fun p (x : Int × Int) => ShAt C H p x.1 x.2) ps ws := ⟨fun h => ⟨h.1, h.2⟩, fun h => ⟨h.len, h.all⟩⟩
def rTupO (K : PySem.W.Frag) : List V → Hp → VK → Prop := fun xs H Q => ∃ p ys, xs = [.ref p] ∧ ((SqL K H p ys ∧ ∀ l, H l = none → Q (.ref l) (upd H l (.tup ys))) ∨ (SqT K H p ys ∧ Q (.ref p) H))
theorem cr_tup {X : Cx} {K : PySem.W.Frag} (e : X.K = K) : CallR X (.type "tuple") (rTupO K) := by
  subst e
  exact call_tuple_of
def spLCourse (K : PySem.W.Frag) (C CC : Addr) : Sp := fun vs H Q _ => ∃ (l : Addr) (told : List (Option Int × W2)), vs = [.ref l] ∧ LTold K H l told ∧ Told told ∧ (∀ x ∈ told, ∀ y ∈ x.2, POk y) ∧
  ∀ (H' : Hp) (c : Addr), Same H H' → CourseAt K C CC H' c told → Q (.ref c) H'
section
variable {P : Program} {w : World} {K : PySem.W.Frag} {mg : Str → Option Value} {base : Heap}
abbrev lcrsN : List Str := ["told", "days", "word", "one", "other"]
theorem scLCrs : FnScope lcrsN ["told"] (defScope d_law_course) := ⟨rfl, rfl, rfl, by decide +kernel, rfl, by decide +kernel, by decide +kernel⟩
theorem ok_lcrs {f fI fJ C CN CC : Addr} {fd fdI fdJ : FuncData} (F : Fun K "_law_course" "_law_course" d_law_course f fd) (T : Txt K mg C CN) (htup : mg "tuple" = none)
    (M : Mk K C fI) (GI : FnOk P w K mg base (L2.CX P w) 2 fI fdI ["self", "top", "bottom"] (spInit C CN)) (bI : Binds K fdI ["self", "top", "bottom"] [])
    (mC : mg "Course" = some (.ref CC)) (MC : Mk K CC fJ) (GJ : FnOk P w K mg base (L2.CX P w) 5 fJ fdJ ["self", "stretches"] (spCInit K C CC)) (bJ : Binds K fdJ ["self", "stretches"] []) :
    FnOk P w K mg base CX0 7 f fd ["told"] (spLCourse K C CC) := by
  refine F.ok scLCrs (fun vs H Q E h => ?_) (fun cdv A outer s H vs Q E hr h => ?_)
  · obtain ⟨l, _, rfl, _⟩ := h
    rfl
  · obtain ⟨l, told, rfl, ⟨ts, hl, lt, hst⟩, ok, pok, kq⟩ := h
    have r3 : Room 3 _ := hr.mono (by decide)
    refine ⟨_, pss_one (ps_ret (pe_make MC GJ hr rfl mC bJ .nil passL (pa_cons
      (pe_lc (own := [("days", 1), ("word", 2)]) (g := gTup K 2 (gCons (gName 1) (gCons (gName 2) gNil))) (by rfl) scLCrs.nd (pi_list (pv 0)) (blkOk_by (own := [("days", 1), ("word", 2)]) (N := lcrsN) (sc := defScope d_law_course) (by decide +kernel))
        (fun _ _ _ _ _ => pg_tup (by rfl) (pgs_cons (pg_name (i := 1) scLCrs.nd rfl (.inl rfl)) (pgs_cons (pg_name (i := 2) scLCrs.nd rfl (.inl rfl)) pgs_nil))) (fun _ _ _ _ _ => pts_nil)
        (fun _ _ _ _ _ => pe_tup (pa_cons (pv 1) (pa_cons (pe_callTy (cr_tup (K := K) rfl) (by rfl) htup (by decide +kernel) (pa_cons
          (pe_lc (own := [("one", 3), ("other", 4)]) (g := gTup K 2 (gCons (gName 3) (gCons (gName 4) gNil))) (by rfl) scLCrs.nd (show PI _ _ _ (iList K (tVar 2)) from pi_list (pv 2)) (blkOk_by (own := [("one", 3), ("other", 4)]) (N := lcrsN) (by rfl))
            (fun _ _ _ _ _ => pg_tup (by rfl) (pgs_cons (pg_name (i := 3) scLCrs.nd rfl (.inl rfl)) (pgs_cons (pg_name (i := 4) scLCrs.nd rfl (.inl rfl)) pgs_nil))) (fun _ _ _ _ _ => pts_nil)
            (fun _ _ _ _ _ => pe_make M GI r3 rfl T.mgC bI .nil passL (pa_cons (pv 3) (pa_cons (pv 4) pa_nil)))) pa_nil)) pa_nil)))) pa_nil))), ?_⟩
    refine ⟨_, rfl, l, rfl, ⟨_, hl⟩, fun D hD => ?_⟩
    refine lc_list (K := K) (a := l) (xs := ts.map V.ref) (fun i N => ∃ us : List Addr, N D = some (.lst (us.map V.ref)) ∧ All2 (StrAt K C N) us (told.take i) ∧ Same H N) ⟨[], upd_same, .nil, same1 hD⟩ ?_ ?_ ?_
    · rintro i N _ ⟨_, _, _, sN⟩
      exact sN.seq hl
    · rintro i x N hx ⟨us, nD, nA, sN⟩
      rw [List.getElem?_map] at hx
      obtain ⟨t, ht, rfl⟩ := Option.map_eq_some_iff.mp hx
      have il : i < told.length := by
        have := (List.getElem?_eq_some_iff.mp ht).1
        omega
      have hxi : told[i]? = some told[i] := List.getElem?_eq_getElem il
      have k60 := ok.few
      have w60 := (ok.word i _ hxi).2
      have pk := pok _ (List.mem_of_getElem? hxi)
      obtain ⟨wl, q1, qs, h1, h2, h3⟩ := hst i t _ ht hxi
      generalize e0 : told[i] = y at *
      obtain ⟨d, ws⟩ := y
      have q1 := Same.tup sN q1
      refine ⟨t, _, rfl, q1, rfl, _, _, rfl, _, _, rfl, rfl, rfl, ?_⟩
      have hwl := sN.seq h1
      refine ⟨_, rfl, _, rfl, wl, rfl, ⟨_, hwl⟩, fun B hB => ?_⟩
      refine lc_list (K := K) (a := wl) (xs := qs.map V.ref) (fun j M => ∃ ps : List Addr, M B = some (.lst (ps.map V.ref)) ∧ All2 (fun p (x : Int × Int) => ShAt C M p x.1 x.2) ps (ws.take j) ∧ Same N M) ⟨[], upd_same, .nil, same1 hB⟩ ?_ ?_ ?_
      · rintro j M _ ⟨_, _, _, sM⟩
        exact sM.seq hwl
      · rintro j x M hx ⟨ps, mB, mA, sM⟩
        rw [List.getElem?_map] at hx
        obtain ⟨q, hq, rfl⟩ := Option.map_eq_some_iff.mp hx
        have jl : j < ws.length := by
          have := (List.getElem?_eq_some_iff.mp hq).1
          have h2 : qs.length = ws.length := h2
          omega
        have hy : ws[j]? = some ws[j] := List.getElem?_eq_getElem jl
        obtain ⟨y0, ym, yt, yc⟩ := pk _ (List.mem_of_getElem? hy)
        have q2 := Same.tup (sN.trans sM) (h3 j q _ hq hy)
        have lw : (ws.take j).length ≤ 60 := by
          rw [List.length_take]
          exact Nat.le_trans (Nat.min_le_right _ _) w60
        have tk := List.take_succ_eq_append_getElem jl
        generalize ws[j] = y at *
        obtain ⟨yn, yd⟩ := y
        refine ⟨q, _, rfl, q2, rfl, _, _, rfl, _, _, rfl, rfl, rfl, ?_⟩
        refine ⟨_, rfl, _, rfl, fun p1 d1 np nd nex => ⟨p1, d1, yn, yd, rfl, upd_same, pow_le yt (by decide), ?_, fun z => absurd z (by have := y0; omega), fun _ L e ka => ⟨rfl, ?_⟩⟩⟩
        · exact Nat.lt_of_le_of_lt (Nat.le_of_dvd (by decide) ym) (Nat.lt_of_lt_of_le (show 6 < 2 ^ 3 by decide) (Nat.pow_le_pow_right (by decide) (by decide)))
        have s1 : Same M L := made_same (C := C) np nd ka
        have eB := s1 _ _ mB
        have kB := keep_lst (ys := ps.map V.ref ++ [.ref p1]) eB
        have lo := low_self y0 yc
        rw [lo.1, lo.2] at e
        refine ⟨_, eB, (by rw [List.length_map, mA.len]; exact Nat.lt_of_le_of_lt lw (show 60 < sizeLine by decide)), ps ++ [p1], by rw [List.map_append]; exact upd_same, ?_, fun b o eb => ?_⟩
        · rw [tk]
          refine (mA.mono fun p x _ _ r => ?_).snoc ?_
          · obtain ⟨dq, r⟩ := r
            exact ⟨dq, kB _ _ (s1 _ _ r) (fun _ z => nomatch z)⟩
          · exact ⟨d1, kB _ _ e (fun _ z => nomatch z)⟩
        · rw [upd_ne (ne_of_none eb hB)]
          exact s1 _ _ (sM _ _ eb)
      · rintro M ⟨ps, mB, mA, sM⟩
        rw [List.length_map, h2, List.take_length] at mA
        refine ⟨B, _, rfl, .inl ⟨SqL.of mB, fun u hu => ?_⟩⟩
        have s1 : Same M (upd M u (.tup (ps.map V.ref))) := same1 hu
        have eu : (upd M u (.tup (ps.map V.ref)) : Hp) u = some (.tup (ps.map V.ref)) := upd_same
        generalize upd M u (.tup (ps.map V.ref)) = M1 at *
        refine ⟨(by show 2 ≤ sizeLine; decide), fun v hv => ?_⟩
        have s2 : Same M1 (upd M1 v (.tup [dv d, .ref u])) := same1 hv
        have ev : (upd M1 v (.tup [dv d, .ref u]) : Hp) v = some (.tup [dv d, .ref u]) := upd_same
        generalize upd M1 v (.tup [dv d, .ref u]) = M2 at *
        have s02 := sM.trans (s1.trans s2)
        have eD := s02 _ _ nD
        have kD := keep_lst (ys := us.map V.ref ++ [.ref v]) eD
        refine ⟨_, eD, ?_, us ++ [v], by rw [List.map_append]; exact upd_same, ?_, fun b o eb => ?_⟩
        · rw [List.length_map, nA.len, List.length_take]
          exact Nat.lt_of_le_of_lt (Nat.le_trans (Nat.min_le_right _ _) k60) (show 60 < sizeLine by decide)
        · rw [List.take_succ_eq_append_getElem il, e0]
          refine (nA.mono fun p x _ _ r => kD.str (r.mono s02)).snoc (kD.str ⟨u, SqT.of ev, ps, SqT.of (s2 _ _ eu), ShAll.all2.mpr (mA.mono fun p x _ _ r => ?_)⟩)
          obtain ⟨dq, r⟩ := r
          exact ⟨dq, s2 _ _ (s1 _ _ r)⟩
        · rw [upd_ne (ne_of_none eb hD)]
          exact s02 _ _ (sN _ _ eb)
    · rintro N ⟨us, nD, nA, sN⟩
      rw [List.length_map, lt, List.take_length] at nA
      intro x dx nx ndx nex
      have sx : Same N (upd (upd N dx (.own x)) x (.ins CC dx [])) := made_same (C := CC) nx ndx (fun a _ => rfl)
      refine ⟨x, dx, D, told, rfl, upd_same, ⟨us, sx.seq (SqL.of nD), nA.len, fun i t y h1 h2 => (nA.all i t y h1 h2).mono sx⟩, ok, fun H' hc kp => ⟨rfl, kq H' x (fun b o e => ?_) hc⟩⟩
      have e2 := sx _ _ (sN _ _ e)
      exact kp b o (ne_of_none (sN _ _ e) nx) e2
end
end K13

namespace K13
open PySem PySem.Spec PyProof.Rows L2
/-! ### the law of ends -/
theorem But.crs {K : PySem.W.Frag} {C CC p : Addr} {z : Int} {H H' : Hp} {c : Addr} {told : List (Option Int × W2)} (w : WellAt H p z) (k : But p H H') (h : CourseAt K C CC H c told) : CourseAt K C CC H' c told := by
  obtain ⟨wx, wy, ez, _⟩ := w
  have nt : ∀ {b o}, H b = some o → (∀ xs, o ≠ .lst xs) → H' b = some o := fun {b o} e n => k b o (fun z => by rw [z, ez] at e; exact n _ (Option.some.inj e).symm) e
  have tup : ∀ {a : Addr} {xs : List V}, SqT K H a xs → SqT K H' a xs := fun {a xs} h => h.elim (fun h => .inl (h.elim (fun h => .inl (nt h (fun _ z => nomatch z))) fun ⟨o, h⟩ => .inr ⟨o, nt h (fun _ z => nomatch z)⟩)) fun h => .inr h
  obtain ⟨dx, l, ss, a, b, e, g, t⟩ := h
  refine ⟨dx, l, ss, nt a (fun _ z => nomatch z), b.elim (fun h => .inl (h.elim (fun h => .inl (k _ _ (fun z => ?_) h)) fun ⟨o, h⟩ => .inr ⟨o, nt h (fun _ z => nomatch z)⟩)) fun h => .inr h, e, fun i x hx => ?_, t⟩
  · rw [z, ez] at h
    cases ss with
    | nil => cases h
    | cons s0 r => cases h
  obtain ⟨y, e, wa, a, ps, b, c1, c2⟩ := g i x hx
  refine ⟨y, e, wa, tup a, ps, tup b, c1, fun i p x h1 h2 => ?_⟩
  obtain ⟨dq, e⟩ := c2 i p x h1 h2
  exact ⟨dq, nt e (fun _ z => nomatch z)⟩
/-! ### sums stay small -/


theorem near_of {A : List Sx} (ok : Told A) (far : ∀ x ∈ A, ∀ n, x.1 = some n → n ≤ 2 ^ 41) : Near A := by
  have reach : ∀ i, i ≤ A.length → bAt A i ≤ (i : Int) * 2 ^ 41 := by
    intro i
    induction i with
    | zero => intro _; rw [bAt_zero]; decide
    | succ i ih =>
      intro h
      have ih := ih (by omega)
      have hx : A[i]? = some A[i] := List.getElem?_eq_getElem (by omega)
      have nx := bAt_next hx
      have fr := far _ (List.mem_of_getElem? hx)
      have e : ((i + 1 : Nat) : Int) * 2 ^ 41 = (i : Int) * 2 ^ 41 + 2 ^ 41 := by
        rw [show ((i + 1 : Nat) : Int) = (i : Int) + 1 from by omega, Int.add_mul, Int.one_mul]
      rw [nx, e]
      cases q : A[i].1 with
      | none =>
        show bAt A i + 0 ≤ _
        omega
      | some m =>
        have a := fr m q
        show bAt A i + m ≤ _
        omega
  intro i s es
  have il : i < A.length := by
    unfold stopOf at es
    cases q : A[i]? with
    | none => rw [q] at es; cases es
    | some x => exact (List.getElem?_eq_some_iff.mp q).1
  obtain ⟨l, rfl⟩ := stop_next ok il es
  have r := reach (i + 1) (by omega)
  have few := ok.few
  have : ((i + 1 : Nat) : Int) * 2 ^ 41 ≤ 60 * 2 ^ 41 := Int.mul_le_mul_of_nonneg_right (by omega) (by decide)
  exact Int.le_trans r (Int.le_trans this (by decide))
/-- later: begun so much sooner -/
theorem EndV.later {f g : Fn} {b r d : Int} (h : EndV f b r) (d0 : 0 ≤ d) (hg : ∀ x, 0 ≤ x → g x = f (x + d)) : EndV g (max 0 (b - d)) r := by
  have r1 := h.r1
  refine ⟨h.r1, by omega, fun x hx => ?_, fun z => ?_, fun r' b' h1 h2 => h.least r' (max 0 b' + d) h1 fun x hx => ?_⟩
  · rw [hg _ (by omega), hg _ (by omega), show x + r + d = x + d + r from by omega]
    exact h.per _ (by omega)
  · rw [hg _ (by omega), hg _ (by omega), show max 0 (b - d) - 1 + r + d = b - 1 + r from by omega, show max 0 (b - d) - 1 + d = b - 1 from by omega]
    exact h.first (by omega)
  · have := h2 (x - d) (by omega)
    rw [hg _ (by omega), hg _ (by omega), show x - d + r' + d = x + r' from by omega, show x - d + d = x from by omega] at this
    exact this
/-- what stands in the list told -/
structure Tl (tl : List Sx) : Prop where
  t : TLx tl
  all : ∀ x ∈ tl, x.2.length ≤ 12 ∧ (∀ y ∈ x.2, POkN 10 y) ∧ ∀ n, x.1 = some n → n ≤ 2 ^ 41
theorem Tl.dt {tl : List Sx} (h : Tl tl) (l : tl.length ≤ 5) : DT 5 12 10 tl := ⟨h.t.told (by omega) (fun x hx => by have := (h.all x hx).1; omega), l, fun x hx => (h.all x hx).1, fun x hx => (h.all x hx).2.1, fun x hx => (h.all x hx).2.2⟩
theorem Tl.cons {tl : List Sx} {x : Sx} (h : Tl tl) (a : AhOk x) : Tl (x :: tl) := by
  obtain ⟨⟨n, e, n1, n2⟩, l1, l2, pk⟩ := a
  obtain ⟨d, w⟩ := x
  have e : d = some n := e
  subst e
  refine ⟨⟨n1, l1, h.t⟩, fun y hy => ?_⟩
  rcases List.mem_cons.mp hy with z | z
  · rw [z]
    exact ⟨l2, pk, fun m em => by cases em; exact Int.le_trans n2 (by decide)⟩
  · exact h.all y z
def spLaw (K : PySem.W.Frag) : Sp := fun vs H Q _ => ∃ (a : Addr) (ns : List Int), vs = [.ref a] ∧ SqL K H a (ns.map V.int) ∧ ns.length ≤ 63 ∧ ∀ H', Q (.bl true) H'
section
variable {P : Program} {w : World} {K : PySem.W.Frag} {mg : Str → Option Value} {base : Heap}
abbrev lawN : List Str := ["script", "cell", "well", "word", "told", "k", "due", "course", "long", "days", "one", "by"]
theorem scLaw : FnScope lawN ["script"] (defScope d_law) := ⟨rfl, rfl, rfl, by decide +kernel, rfl, by decide +kernel, by decide +kernel⟩
theorem ok_law {f f1 f2 f3 f4 f5 f6 f7 f8 f9 f10 C CC : Addr} {fd fd1 fd2 fd3 fd4 fd5 fd6 fd7 fd8 fd9 fd10 : FuncData} (F : Fun K "law" "law" d_law f fd) (hrange : mg "range" = none) (hsum : mg "sum" = none) (hmax : mg "max" = none)
    (A1 : At P w K mg base CX0 1 "_law_well" ["cell"] spWell f1 fd1) (A2 : At P w K mg base CX0 3 "_law_word" ["well", "most", "far"] spLWord f2 fd2) (A3 : At P w K mg base CX0 2 "_law_one" ["well", "some"] (spOne K) f3 fd3)
    (A4 : At P w K mg base CX0 1 "_law_draw" ["well", "many"] spDraw f4 fd4) (A5 : At P w K mg base CX0 4 "_law_ahead" ["well", "word"] spAhead f5 fd5) (A6 : At P w K mg base CX0 2 "_law_end" ["told"] (spLEnd K) f6 fd6)
    (A7 : At P w K mg base CX0 7 "_law_course" ["told"] (spLCourse K C CC) f7 fd7) (A8 : At P w K mg base CX0 6 "end" ["course"] (spEnd K C CC) f8 fd8) (A9 : At P w K mg base CX0 2 "_law_plain" ["told", "long"] (spPlain K) f9 fd9)
    (A10 : At P w K mg base CX0 8 "later" ["course", "days"] (spLater K C CC) f10 fd10) :
    FnOk P w K mg base CX0 9 f fd ["script"] (spLaw K) := by
  refine F.ok scLaw (fun vs H Q E h => ?_) (fun cdv A outer s H vs Q E hr h => ?_)
  · obtain ⟨a, _, rfl, _⟩ := h
    rfl
  · obtain ⟨a, ns, rfl, ha, nl, kq⟩ := h
    have r1 : Room 1 _ := hr.mono (by decide)
    have r2 : Room 2 _ := hr.mono (by decide)
    have r3 : Room 3 _ := hr.mono (by decide)
    have r4 : Room 4 _ := hr.mono (by decide)
    have r6 : Room 6 _ := hr.mono (by decide)
    have r7 : Room 7 _ := hr.mono (by decide)
    refine ⟨_, pss_cons (ps_for PassesOwn.never rfl (pi_list (pe_op op_cat (pe_slice sl_list (pv 0) po_none (po_some pe_int)) (pe_lst (pa_cons pe_int (pa_cons pe_int pa_nil))))) (pg_name (i := 1) scLaw.nd rfl (.inl rfl))
        (pss_cons (ps_set (i := 2) scLaw.nd rfl (Or.inl rfl) (pe_call A1.G r1 rfl A1.m A1.k A1.b .nil pass0 (pa_cons (pv 1) pa_nil)))
        (pss_cons (ps_set (i := 3) scLaw.nd rfl (Or.inl rfl) (pe_call A2.G r3 rfl A2.m A2.k A2.b .nil pass0 (pa_cons (pv 2) (pa_cons pe_int (pa_cons pe_int pa_nil)))))
        (C8.pss_cut (ps_if (pt_cmpR op_eq (pe_call A4.G r1 rfl A4.m A4.k A4.b .nil pass0 (pa_cons (pv 2) (pa_cons pe_int pa_nil))) pe_int (nomark _)) (pss_one (ps_set (i := 3) scLaw.nd rfl (Or.inl rfl) (pe_op op_rep (pv 3) pe_int))) pss_nil)
        (pss_cons (ps_set (i := 4) scLaw.nd rfl (Or.inl rfl) (pe_lst (pa_cons (pe_tup (pa_cons pe_non (pa_cons (pv 3) pa_nil))) pa_nil)))
        (pss_cons (ps_for PassesOwn.never rfl (pi_range1 (by rfl) hrange (pa_cons (pe_call A4.G r1 rfl A4.m A4.k A4.b .nil pass0 (pa_cons (pv 2) (pa_cons pe_int pa_nil))) pa_nil)) (pg_name (i := 5) scLaw.nd rfl (.inl rfl))
          (pss_one (ps_set (i := 4) scLaw.nd rfl (Or.inl rfl) (pe_op op_cat (pe_lst (pa_cons (pe_call A5.G r4 rfl A5.m A5.k A5.b .nil pass0 (pa_cons (pv 2) (pa_cons (pv 3) pa_nil))) pa_nil)) (pv 4)))))
        (pss_cons (ps_set (i := 6) scLaw.nd rfl (Or.inl rfl) (pe_call A6.G r2 rfl A6.m A6.k A6.b .nil pass0 (pa_cons (pv 4) pa_nil)))
        (pss_cons (ps_set (i := 7) scLaw.nd rfl (Or.inl rfl) (pe_call A7.G r7 rfl A7.m A7.k A7.b .nil pass0 (pa_cons (pv 4) pa_nil)))
        (pss_cons (ps_if (PW.pt (pw_or (pt_cmpR (op_neD hr.units) (pe_call A8.G r6 rfl A8.m A8.k A8.b .nil pass0 (pa_cons (pv 7) pa_nil)) (pv 6) (nomark _)) (pw_or1 (pt_cmpR (op_neD hr.units) (pe_call A8.G r6 rfl A8.m A8.k A8.b .nil pass0 (pa_cons (pv 7) pa_nil)) (pv 6) (nomark _))))) (pss_one (ps_ret pe_bl)) pss_nil)
        (pss_cons (ps_set (i := 8) scLaw.nd rfl (Or.inl rfl) (pe_callB (cr_sum rfl) (by rfl) hsum (by decide +kernel) (pa_cons
          (pe_lc (own := [("days", 9), ("one", 10)]) (g := gTup K 2 (gCons (gName 9) (gCons (gName 10) gNil))) (by rfl) scLaw.nd (pi_list (pe_slice sl_list (pv 4) po_none (po_some (pe_un un_neg pe_int)))) (blkOk_by (own := [("days", 9), ("one", 10)]) (N := lawN) (sc := defScope d_law) (by decide +kernel))
            (fun _ _ _ _ _ => pg_tup (by rfl) (pgs_cons (pg_name (i := 9) scLaw.nd rfl (.inl rfl)) (pgs_cons (pg_name (i := 10) scLaw.nd rfl (.inl rfl)) pgs_nil))) (fun _ _ _ _ _ => pts_nil) (fun _ _ _ _ _ => pv 9)) pa_nil)))
        (C8.pss_cut (ps_if (PW.pt (pw_and (pt_cmpR op_lt (pv 8) pe_int (nomark _)) (pw_and1 (pt_cmpR (op_neD hr.units) (pe_call A9.G r2 rfl A9.m A9.k A9.b .nil pass0 (pa_cons (pv 4) (pa_cons (pv 8) pa_nil))) (pv 6) (nomark _))))) (pss_one (ps_ret pe_bl)) pss_nil)
        (pss_cons (ps_set (i := 11) scLaw.nd rfl (Or.inl rfl) (pe_call A4.G r1 rfl A4.m A4.k A4.b .nil pass0 (pa_cons (pv 2) (pa_cons (pe_call A3.G r2 rfl A3.m A3.k A3.b .nil pass0 (pa_cons (pv 2) (pa_cons (pe_lst (pa_cons pe_int (pa_cons pe_int (pa_cons (pe_op op_pow pe_int pe_int) pa_nil)))) pa_nil))) pa_nil))))
        (pss_one (ps_if (pt_cmpR (op_neD hr.units) (pe_call A8.G r6 rfl A8.m A8.k A8.b .nil pass0 (pa_cons (pe_call A10.G hr rfl A10.m A10.k A10.b .nil pass0 (pa_cons (pv 7) (pa_cons (pv 11) pa_nil))) pa_nil))
            (pe_tup (pa_cons (pe_callB (call_max2 rfl) (by rfl) hmax (by decide +kernel) (pa_cons pe_int (pa_cons (pe_op op_sub (pe_ix ix_tup (pv 6) pe_int (fun _ _ => rfl)) (pv 11)) pa_nil))) (pa_cons (pe_ix ix_tup (pv 6) pe_int (fun _ _ => rfl)) pa_nil))) (nomark _)) (pss_one (ps_ret pe_bl)) pss_nil))))))))))))))
      (pss_one (ps_ret pe_bl)), ?_⟩
    refine ⟨_, rfl, _, rfl, a, _, rfl, ha, fun B1 hB1 => ⟨(by show 2 ≤ sizeLine; decide), fun B2 hB2 => ?_⟩⟩
    have cut8 : cutV (ns.map V.int) none (some 8) = (ns.take 8).map V.int := by
      have := cut_to (xs := ns.map V.int) (n := 8)
      rw [← List.map_take] at this
      exact this
    have e1 : (upd (upd H B1 (.lst (cutV (ns.map V.int) none (some 8)))) B2 (.lst [.int 0, .int 1]) : Hp) B1 = some (.lst (cutV (ns.map V.int) none (some 8))) := by
      rw [upd_ne (ne_of_none upd_same hB2)]
      exact upd_same
    refine ⟨B1, B2, _, _, rfl, rfl, e1, upd_same, ?_, fun B hB => ?_⟩
    · rw [cut8, List.length_map, List.length_take]
      exact Nat.le_trans (show min 8 ns.length + 2 ≤ 10 by omega) (show 10 ≤ sizeLine by decide)
    have xe : cutV (ns.map V.int) none (some 8) ++ [.int 0, .int 1] = ((ns.take 8) ++ [0, 1]).map V.int := by rw [cut8, List.map_append]; rfl
    refine ⟨B, rfl, ⟨_, SqL.of upd_same⟩, ?_⟩
    rw [xe]
    generalize (ns.take 8) ++ [0, 1] = cs at *
    refine for_list (K := K) (a := B) (xs := cs.map V.int) (fun i σ G => (∃ v1 v2 v3 v4 v5 v6 v7 v8 v11 : Option V, σ = [some (.ref a), v1, v2, v3, v4, v5, v6, v7, v8, none, none, v11]) ∧ G B = some (.lst (cs.map V.int))) ⟨⟨_, _, _, _, _, _, _, _, _, rfl⟩, upd_same⟩ ?_ ?_ ?_
    · rintro i σ G _ ⟨_, gB⟩
      exact SqL.of gB
    · rintro i x σ G hx' ⟨⟨v1, v2, v3, v4, v5, v6, v7, v8, v11, rfl⟩, gB⟩
      rw [List.getElem?_map] at hx'
      obtain ⟨c, _, rfl⟩ := Option.map_eq_some_iff.mp hx'
      refine ⟨_, rfl, c, rfl, fun p wx wy hp y0 y1 => ?_⟩
      have wA : WellAt (upd G p (.lst [.int wx, .int wy, .int 0])) p 0 := ⟨wx, wy, upd_same, y0, y1⟩
      have sA : Same G (upd G p (.lst [.int wx, .int wy, .int 0])) := same1 hp
      have Bp : B ≠ p := fun e => by rw [← e, gB] at hp; cases hp
      generalize upd G p (.lst [.int wx, .int wy, .int 0]) = G1 at *
      have gB1 := sA _ _ gB
      refine ⟨_, rfl, p, 0, 6, 0, rfl, wA, by decide, by decide, by decide, by decide, by decide, by decide, fun G2 wl ws z2 b2 hwl nwl w2 z20 z21 pw lw1 lw2 hpw => ?_⟩
      refine ⟨fun σ' G' => ∃ (l : Addr) (ws : W2) (z : Int), σ' = [some (.ref a), some (.int c), some (.ref p), some (.ref l), v4, v5, v6, v7, v8, none, none, v11] ∧ PrsN (· = p) G' l ws ∧ 1 ≤ ws.length ∧ ws.length ≤ 12 ∧ (∀ y ∈ ws, POkN 10 y) ∧ WellAt G' p z ∧ 0 ≤ z ∧ z ≤ 1000 ∧ But p G1 G', ?_, ?_⟩
      · refine ⟨_, rfl, p, 3, z2, rfl, w2, by decide, by decide, z20, by omega, fun G3 d z3 b3 w3 z30 z31 d0 d1 => ⟨rfl, _, rfl, ite2 (fun _ => ?_) (fun _ => ?_)⟩⟩
        · obtain ⟨nl', qs, el, al⟩ := (pw.prsN (N := (· = p)) nwl).butp w2 b3
          have lq : qs.length = ws.length := al.len
          refine ⟨_, rfl, wl, 2, _, rfl, rfl, el, by decide, by decide, ?_, fun R hR => ?_⟩
          · rw [List.length_map, lq]
            exact Nat.le_trans (show ws.length * (2 : Int).toNat ≤ 12 by show ws.length * 2 ≤ 12; omega) (by decide)
          · have rw1 : (List.replicate (2 : Int).toNat (qs.map V.ref)).flatten = ((List.replicate 2 qs).flatten).map V.ref := by
              rw [List.map_flatten, List.map_replicate]
              rfl
            rw [rw1]
            have s4 := same1 (o := .lst (((List.replicate 2 qs).flatten).map V.ref)) hR
            exact ⟨R, repW ws 2, z3, rfl, prs_new (fun q e => by rw [e]; exact w3.lst) hR (al.rep 2), by rw [rep_len]; omega, by rw [rep_len]; omega, fun y hy => hpw y (rep_mem hy), w3.same s4, z30, by omega, b2.trans (b3.trans (same_but s4))⟩
        · exact ⟨wl, ws, z3, rfl, (pw.prsN (N := (· = p)) nwl).butp w2 b3, lw1, by omega, hpw, w3, z30, by omega, b2.trans b3⟩
      · rintro σ' G4 ⟨l, ws, z4, rfl, pw4, l1, l12, hws, w4, z40, z41, b14⟩
        refine ⟨_, rfl, (by show 2 ≤ sizeLine; decide), fun T0 hT0 => ⟨(by show 1 ≤ sizeLine; decide), fun L0 hL0 => ?_⟩⟩
        have s5 : Same G4 (upd G4 T0 (.tup [.non, .ref l])) := same1 hT0
        have eT0 : (upd G4 T0 (.tup [.non, .ref l]) : Hp) T0 = some (.tup [.non, .ref l]) := upd_same
        generalize upd G4 T0 (.tup [.non, .ref l]) = G5 at *
        have s6 : Same G5 (upd G5 L0 (.lst [.ref T0])) := same1 hL0
        have eL0 : (upd G5 L0 (.lst [.ref T0]) : Hp) L0 = some (.lst ([T0].map V.ref)) := upd_same
        have w5 := w4.same s5
        have nL0 := well_ne w5 hL0
        generalize upd G5 L0 (.lst [.ref T0]) = G6 at *
        have s56 := s5.trans s6
        have w6 := w4.same s56
        have pw6 := pw4.same s56
        have tol0 : TolN (· = p) G6 L0 [(none, ws)] := ⟨nL0, [T0], eL0, All2.one ⟨l, s6 _ _ eT0, pw6⟩⟩
        have tl0 : Tl [(none, ws)] := ⟨⟨rfl, l1⟩, fun y hy => by rw [List.mem_singleton.mp hy]; exact ⟨l12, hws, fun n e => nomatch e⟩⟩
        have b16 : But p G1 G6 := b14.trans (same_but s56)
        refine ⟨_, rfl, p, 5, z4, rfl, w6, by decide, by decide, z40, by omega, fun G7 d z7 b7 w7 z70 z71 d0 d1 => ?_⟩
        refine ⟨_, rfl, by omega, by omega, ?_⟩
        refine for_range (lo := 0) (n := d.toNat) (fun j σ M => ∃ (L : Addr) (tl : List Sx) (zz : Int) (v5 : Option V), σ = [some (.ref a), some (.int c), some (.ref p), some (.ref l), some (.ref L), v5, v6, v7, v8, none, none, v11] ∧ TolN (· = p) M L tl ∧ PrsN (· = p) M l ws ∧ Tl tl ∧ tl.length = j + 1 ∧ WellAt M p zz ∧ 0 ≤ zz ∧ zz ≤ z7 + 300 * (j : Int) ∧ But p G1 M)
          ⟨L0, _, z7, _, rfl, tol0.butp w6 b7, pw6.butp w6 b7, tl0, rfl, w7, z70, by omega, b16.trans b7⟩ ?_ ?_
        · rintro j σ M hj ⟨L, tl, zz, v5', rfl, tol, pwM, htl, ltl, wz, x0, x1, bM⟩
          refine ⟨_, rfl, _, rfl, p, l, zz, ws, rfl, wz, x0, by omega, pwM, l1, l12, hws, fun M2 t x z8 b8 w8 u0 u1 st ah => ?_⟩
          refine ⟨(by show 1 ≤ sizeLine; decide), fun S hS => ?_⟩
          have s9 : Same M2 (upd M2 S (.lst [.ref t])) := same1 hS
          have eS : (upd M2 S (.lst [.ref t]) : Hp) S = some (.lst [.ref t]) := upd_same
          generalize upd M2 S (.lst [.ref t]) = M3 at *
          have tol3 := (tol.butp wz b8).same s9
          have st3 := st.same s9
          have w83 := w8.same s9
          obtain ⟨nL, us, eL, al⟩ := tol3
          have lu : us.length = tl.length := al.len
          refine ⟨_, rfl, S, L, _, _, rfl, rfl, eS, eL, ?_, fun R hR => ?_⟩
          · rw [List.length_map, lu]
            exact Nat.le_trans (show 1 + tl.length ≤ 10 by omega) (by decide)
          · have nR := well_ne w83 hR
            have s10 : Same M3 (upd M3 R (.lst ([.ref t] ++ us.map V.ref))) := same1 hR
            have eR : (upd M3 R (.lst ([.ref t] ++ us.map V.ref)) : Hp) R = some (.lst ((t :: us).map V.ref)) := upd_same
            generalize upd M3 R (.lst ([.ref t] ++ us.map V.ref)) = M4 at *
            have al4 : All2 (StN (· = p) M4) (t :: us) (x :: tl) := (All2.one (R := StN (· = p) M4) (st3.same s10)).app (al.mono fun t x _ _ z => z.same s10)
            exact ⟨R, x :: tl, z8, _, rfl, ⟨nR, t :: us, eR, al4⟩, (pwM.butp wz b8).same (s9.trans s10), htl.cons ah, by rw [List.length_cons, ltl], w83.same s10, u0, by omega, bM.trans (b8.trans (same_but (s9.trans s10)))⟩
        · rintro σ M ⟨L, tl, zz, v5', rfl, tol, pwM, htl, ltl, wz, x0, x1, bM⟩
          have dt := htl.dt (by omega)
          have pos := dt.ok.pos
          refine ⟨_, rfl, L, tl, 5, 12, 10, rfl, tol.2.at_, dt, fun M2 T b r s8 ev eT => ?_⟩
          have tol8 := tol.same s8
          refine ⟨_, rfl, L, tl, rfl, tol8.2.at_, dt.ok, fun x hx y hy => (dt.prs x hx y hy).up (by decide), fun M3 cr s9 crs => ?_⟩
          have eT3 := s9 _ _ eT
          refine ⟨_, rfl, cr, tl, rfl, crs, dt.near, fun M4 T4 b4 r4 s10 ev4 eT4 => ?_⟩
          obtain ⟨rfl, rfl⟩ := ev.one ev4
          refine ⟨_, rfl, _, _, Dp.tup (SqT.of eT4) (.cons (.int _) (.cons (.int _) .nil)), Dp.tup (SqT.of (s10 _ _ eT3)) (.cons (.int _) (.cons (.int _) .nil)), rfl, rfl, _, rfl, ?_⟩
          rw [eqv_pair, decide_eq_true rfl, decide_eq_true rfl]
          refine iteF ?_
          refine ⟨_, rfl, cr, tl, rfl, crs.mono s10, dt.near, fun M5 T5 b5 r5 s11 ev5 eT5 => ?_⟩
          obtain ⟨rfl, rfl⟩ := ev.one ev5
          refine ⟨_, rfl, _, _, Dp.tup (SqT.of eT5) (.cons (.int _) (.cons (.int _) .nil)), Dp.tup (SqT.of (s11 _ _ (s10 _ _ eT3))) (.cons (.int _) (.cons (.int _) .nil)), rfl, rfl, _, rfl, ?_⟩
          rw [eqv_pair, decide_eq_true rfl, decide_eq_true rfl]
          refine iteF ?_
          have s25 := s9.trans (s10.trans s11)
          have tol5 := tol8.same s25
          have crs5 := (crs.mono s10).mono s11
          have eT5' := s11 _ _ (s10 _ _ eT3)
          have w5' := wz.same (s8.trans s25)
          obtain ⟨ts, hts, lts, hst⟩ := tol5.2.at_ (K := K)
          have cutE : cutV (ts.map V.ref) none (some (-1)) = (ts.take (tl.length - 1)).map V.ref := by
            rw [show cutV (ts.map V.ref) none (some (-1)) = (ts.map V.ref).take ((ts.map V.ref).length - 1) from cut_back (n := 1) (by decide), List.length_map, ← List.map_take, lts]
          have ltk : (ts.take (tl.length - 1)).length = tl.length - 1 := by rw [List.length_take]; omega
          refine ⟨_, rfl, _, rfl, _, rfl, L, _, rfl, hts, fun S hS => ?_⟩
          rw [cutE]
          have s12 : Same M5 (upd M5 S (.lst ((ts.take (tl.length - 1)).map V.ref))) := same1 hS
          have eS : (upd M5 S (.lst ((ts.take (tl.length - 1)).map V.ref)) : Hp) S = some (.lst ((ts.take (tl.length - 1)).map V.ref)) := upd_same
          generalize upd M5 S (.lst ((ts.take (tl.length - 1)).map V.ref)) = M6 at *
          refine ⟨S, rfl, ⟨_, SqL.of eS⟩, fun D hD => ?_⟩
          refine lc_list (K := K) (a := S) (xs := (ts.take (tl.length - 1)).map V.ref) (fun i M => M D = some (.lst (((tl.take i).map fun x => x.1.getD 0).map V.int)) ∧ Same M6 M) ⟨upd_same, same1 hD⟩ ?_ ?_ ?_
          · rintro i M _ ⟨_, sM⟩
            exact sM.seq (SqL.of eS)
          · rintro i x M hx ⟨eD, sM⟩
            rw [List.getElem?_map] at hx
            obtain ⟨t, ht, rfl⟩ := Option.map_eq_some_iff.mp hx
            have il : i < tl.length - 1 := by
              have := (List.getElem?_eq_some_iff.mp ht).1
              omega
            rw [List.getElem?_take_of_lt il] at ht
            have hxi : tl[i]? = some tl[i] := List.getElem?_eq_getElem (by omega)
            obtain ⟨wi, qi, _⟩ := hst i t _ ht hxi
            obtain ⟨mi, em, _⟩ := dt.ok.ends (k := tl.length - 1) il (by omega) hxi
            rw [em] at qi
            refine ⟨t, _, rfl, Same.tup (s12.trans sM) qi, rfl, _, _, rfl, _, _, rfl, rfl, rfl, ?_⟩
            refine ⟨_, rfl, _, eD, ?_, ?_, fun b o eb => ?_⟩
            · rw [List.length_map, List.length_map, List.length_take]
              exact Nat.lt_of_le_of_lt (Nat.min_le_left _ _) (Nat.lt_of_lt_of_le (show i < 60 by omega) (by decide))
            · rw [List.take_succ_eq_append_getElem (by omega : i < tl.length), List.map_append, List.map_append]
              refine Eq.trans upd_same ?_
              show _ = some (HO.lst (_ ++ [V.int (tl[i].1.getD 0)]))
              rw [em]
              rfl
            · rw [upd_ne (ne_of_none eb hD)]
              exact sM _ _ eb
          · rintro M7 ⟨eD, sM⟩
            rw [List.length_map, ltk] at eD
            have s57 := s12.trans sM
            have tol7 := tol5.same s57
            have crs7 := crs5.mono s57
            have eT7 := s57 _ _ eT5'
            have w7' := w5'.same s57
            have b17 : But p G1 M7 := bM.trans (same_but (s8.trans (s25.trans s57)))
            refine ⟨D, _, rfl, SqL.of eD, ?_⟩
            show gName 8 (V.int (bAt tl (tl.length - 1))) _ _ _
            -- the rest, behind the question of the few days
            have rest : ∀ M8, Same M7 M8 → TolN (· = p) M8 L tl ∧ CourseAt K C CC M8 cr tl ∧ M8 T = some (.tup [.int b, .int r]) ∧ WellAt M8 p zz ∧ But p G1 M8 := fun M8 s => ⟨tol7.same s, crs7.mono s, s _ _ eT7, w7'.same s, b17.trans (same_but s)⟩
            refine ⟨fun σ' G' => σ' = [some (.ref a), some (.int c), some (.ref p), some (.ref l), some (.ref L), v5', some (.ref T), some (.ref cr), some (.int (bAt tl (tl.length - 1))), none, none, v11] ∧ Same M7 G', ?_, ?_⟩
            · refine ⟨_, rfl, _, _, rfl, rfl, _, rfl, ?_⟩
              by_cases c90 : bAt tl (tl.length - 1) < 90
              · rw [decide_eq_true c90]
                refine iteT ?_
                refine ⟨_, rfl, _, rfl, L, tl, 5, 12, 10, rfl, tol7.2.at_, dt, by decide, c90, fun M8 T8 b8 r8 s8' ev8 eT8 => ?_⟩
                obtain ⟨rfl, rfl⟩ := ev.one ev8
                refine ⟨_, rfl, _, _, Dp.tup (SqT.of eT8) (.cons (.int _) (.cons (.int _) .nil)), Dp.tup (SqT.of (s8' _ _ eT7)) (.cons (.int _) (.cons (.int _) .nil)), rfl, rfl, _, rfl, ?_⟩
                rw [eqv_pair, decide_eq_true rfl, decide_eq_true rfl]
                exact iteF ⟨rfl, s8'⟩
              · rw [decide_eq_false c90]
                exact iteF ⟨rfl, Same.refl _⟩
            · rintro σ' M8 ⟨rfl, s78⟩
              obtain ⟨tol9, crs9, eT9, w9, b19⟩ := rest M8 s78
              refine ⟨_, rfl, _, rfl, _, _, rfl, rfl, ⟨by decide, by decide, by decide⟩, (by show 3 ≤ sizeLine; decide), fun u hu => ?_⟩
              have s13 : Same M8 (upd M8 u (.lst [.int 9, .int 90, .int (10 ^ (13 : Int).toNat)])) := same1 hu
              refine ⟨p, u, _, zz, rfl, w9.same s13, x0, by omega, upd_same, well_ne w9 hu, (by show 0 < 3; decide), (by show 3 < 1000; decide), fun M9 z9 x b9 w10 u0 u1 hx => ?_⟩
              obtain ⟨m, rfl, m0, m1⟩ : ∃ m : Int, x = .int m ∧ 0 < m ∧ m ≤ 10000000000000 := by
                have hx : x ∈ [V.int 9, .int 90, .int (10 ^ (13 : Int).toNat)] := hx
                simp only [List.mem_cons, List.not_mem_nil, or_false] at hx
                rcases hx with h | h | h
                · exact ⟨9, h, by decide, by decide⟩
                · exact ⟨90, h, by decide, by decide⟩
                · exact ⟨_, h, by decide, by decide⟩
              refine ⟨p, m, z9, rfl, w10, m0, by omega, u0, by omega, fun M10 by_ z10 b10 w11 o0 o1 by0 by1 => ?_⟩
              have b810 : But p M8 M10 := (same_but s13).trans (b9.trans b10)
              have crs10 := But.crs w9 b810 crs9
              have nT : T ≠ p := fun e => by
                obtain ⟨_, _, e1, _⟩ := w9
                rw [e, e1] at eT9
                cases eT9
              have eT10 := b810 _ _ nT eT9
              have gB10 := b810 _ _ Bp (b19 _ _ Bp gB1)
              refine ⟨_, rfl, _, rfl, cr, by_, tl, rfl, crs10, by0, by omega, fun M11 r2 s14 c2 => ?_⟩
              have okl := dt.ok.lat by_
              have farl : ∀ x ∈ lat tl by_, ∀ n, x.1 = some n → n ≤ 2 ^ 41 := fun x hx n en => by
                obtain ⟨y, hy, _, k⟩ := lat_mem hx
                obtain ⟨n', en', le⟩ := k n en
                exact Int.le_trans le (dt.far y hy n' en')
              refine ⟨r2, lat tl by_, rfl, c2, near_of okl farl, fun M12 T2 b2' r2' s15 ev2 eT2 => ?_⟩
              have evl := ev.later by0 (g := onV (lat tl by_)) fun x hx => by
                rw [onV_lat (told_tl dt.ok) hx, show max 0 by_ = by_ from by omega]
              obtain ⟨rfl, rfl⟩ := evl.one ev2
              have eT12 := s15 _ _ (s14 _ _ eT10)
              refine ⟨_, rfl, T, _, 0, .int b, rfl, rfl, SqT.of eT12, at_k (by decide) rfl, _, rfl, _, _, rfl, rfl, _, _, rfl, ?_⟩
              rw [show (if b - by_ > 0 then b - by_ else 0) = max 0 (b - by_) from by split <;> omega]
              refine ⟨_, rfl, T, _, 1, .int r, rfl, rfl, SqT.of eT12, at_k (by decide) rfl, (by show 2 ≤ sizeLine; decide), fun T3 hT3 => ?_⟩
              have s16 := same1 (o := .tup [.int (max 0 (b - by_)), .int r]) hT3
              refine ⟨_, _, Dp.tup (SqT.of (s16 _ _ eT2)) (.cons (.int _) (.cons (.int _) .nil)), Dp.tup (SqT.of upd_same) (.cons (.int _) (.cons (.int _) .nil)), rfl, rfl, _, rfl, ?_⟩
              rw [eqv_pair, decide_eq_true rfl, decide_eq_true rfl]
              exact iteF ⟨⟨_, _, _, _, _, _, _, _, _, rfl⟩, s16 _ _ (s15 _ _ (s14 _ _ gB10))⟩
    · rintro σ G ⟨⟨v1, v2, v3, v4, v5, v6, v7, v8, v11, rfl⟩, _⟩
      exact kq G
end
theorem law_told {K : PySem.W.Frag} {a : Addr} {H : Hp} {ns : List Int} (hl : ns.length ≤ 63) (hS : SqL K H a (ns.map V.int)) : spLaw K [.ref a] H (fun v _ => v = .bl true) fun _ _ _ => False :=
  ⟨a, ns, rfl, hS, hl, fun _ => rfl⟩
end K13

namespace K13
open PySem PySem.Spec PyProof.Rows L2
theorem exm_own {K : PySem.W.Frag} {S : Addr} (h1 : PySem.W.subIn K (.ref S) (.type "BaseException") = some true) (h2 : PySem.W.isClsIn K S = true) (h3 : PySem.W.typeIn K (.ref S) = some (.type "type")) (h4 : PySem.W.subIn K (.ref S) (.ref S) = some true) :
    PySem.W.exmOne K (.ref S) (.ref S) = some true := by
  have a : (PySem.W.subIn K (.ref S) (.type "BaseException") == some true) = true := by rw [h1] <;> rfl
  have b : ((PySem.W.clsIn K S).isSome && PySem.W.typeIn K (.ref S) == some (.type "type")) = true := by
    rw [show (PySem.W.clsIn K S).isSome = true from h2, h3] <;> rfl
  show (if (PySem.W.subIn K (.ref S) (.type "BaseException") == some true) = true then (if ((PySem.W.clsIn K S).isSome && PySem.W.typeIn K (.ref S) == some (.type "type")) = true then PySem.W.subIn K (.ref S) (.ref S) else none) else none) = some true
  rw [if_pos a, if_pos b]
  exact h4
end K13

namespace K13
open PySem PySem.Spec PyProof.Rows L2
theorem all_mk {P : Program} {w : World} {K : PySem.W.Frag} {h : Heap} {mg : Str → Option Value} {fa : Addr} (X : K.In h) (G : h.Ns mainGlobals mg) (hfa : mg "law" = some (.ref fa))
    {tk_LAST_DAY : Tok}
    {tk_MOST_STRETCHES : Tok}
    {tk_MOST_SHARES : Tok}
    {cRillError : Addr}
    {cNoShare : Addr}
    {cNoCourse : Addr}
    {cNoDay : Addr}
    {cShare : Addr}
    {f_Share_init : Addr} {od_Share_init an_Share_init : Option Addr} {sl_Share_init : Array (Option Value)} {oc_Share_init kV_Share_init dc_Share_init pm_Share_init ct_Share_init : Value}
    {cd_Share_init : Value}
    {TD_Share_init : Addr} {ocTD_Share_init : Value} {odTD_Share_init : Option Addr} {nTD_Share_init : Nat} {slTD_Share_init : Array (Option Value)} {tkTD_Share_init : Tok}
    {f_Share_eq : Addr} {od_Share_eq an_Share_eq : Option Addr} {sl_Share_eq : Array (Option Value)} {oc_Share_eq kV_Share_eq dc_Share_eq pm_Share_eq ct_Share_eq : Value}
    {cd_Share_eq : Value}
    {cCourse : Addr}
    {f_Course_init : Addr} {od_Course_init an_Course_init : Option Addr} {sl_Course_init : Array (Option Value)} {oc_Course_init kV_Course_init dc_Course_init pm_Course_init ct_Course_init : Value}
    {cd_Course_init : Value}
    {f_Course_eq : Addr} {od_Course_eq an_Course_eq : Option Addr} {sl_Course_eq : Array (Option Value)} {oc_Course_eq kV_Course_eq dc_Course_eq pm_Course_eq ct_Course_eq : Value}
    {cd_Course_eq : Value}
    {f_is_whole : Addr} {od_is_whole an_is_whole : Option Addr} {sl_is_whole : Array (Option Value)} {oc_is_whole kV_is_whole dc_is_whole pm_is_whole ct_is_whole : Value}
    {cd_is_whole : Value}
    {f_is_between : Addr} {od_is_between an_is_between : Option Addr} {sl_is_between : Array (Option Value)} {oc_is_between kV_is_between dc_is_between pm_is_between ct_is_between : Value}
    {cd_is_between : Value}
    {f_is_day : Addr} {od_is_day an_is_day : Option Addr} {sl_is_day : Array (Option Value)} {oc_is_day kV_is_day dc_is_day pm_is_day ct_is_day : Value}
    {cd_is_day : Value}
    {f_least_word : Addr} {od_least_word an_least_word : Option Addr} {sl_least_word : Array (Option Value)} {oc_least_word kV_least_word dc_least_word pm_least_word ct_least_word : Value}
    {cd_least_word : Value}
    {f_spans_of : Addr} {od_spans_of an_spans_of : Option Addr} {sl_spans_of : Array (Option Value)} {oc_spans_of kV_spans_of dc_spans_of pm_spans_of ct_spans_of : Value}
    {cd_spans_of : Value}
    {f_share_on : Addr} {od_share_on an_share_on : Option Addr} {sl_share_on : Array (Option Value)} {oc_share_on kV_share_on dc_share_on pm_share_on ct_share_on : Value}
    {cd_share_on : Value}
    {f_word_from : Addr} {od_word_from an_word_from : Option Addr} {sl_word_from : Array (Option Value)} {oc_word_from kV_word_from dc_word_from pm_word_from ct_word_from : Value}
    {cd_word_from : Value}
    {f_sooner : Addr} {od_sooner an_sooner : Option Addr} {sl_sooner : Array (Option Value)} {oc_sooner kV_sooner dc_sooner pm_sooner ct_sooner : Value}
    {cd_sooner : Value}
    {f_beside : Addr} {od_beside an_beside : Option Addr} {sl_beside : Array (Option Value)} {oc_beside kV_beside dc_beside pm_beside ct_beside : Value}
    {cd_beside : Value}
    {f_round_of : Addr} {od_round_of an_round_of : Option Addr} {sl_round_of : Array (Option Value)} {oc_round_of kV_round_of dc_round_of pm_round_of ct_round_of : Value}
    {cd_round_of : Value}
    {f_last_unlike_in : Addr} {od_last_unlike_in an_last_unlike_in : Option Addr} {sl_last_unlike_in : Array (Option Value)} {oc_last_unlike_in kV_last_unlike_in dc_last_unlike_in pm_last_unlike_in ct_last_unlike_in : Value}
    {cd_last_unlike_in : Value}
    {f_are_stretches : Addr} {od_are_stretches an_are_stretches : Option Addr} {sl_are_stretches : Array (Option Value)} {oc_are_stretches kV_are_stretches dc_are_stretches pm_are_stretches ct_are_stretches : Value}
    {cd_are_stretches : Value}
    {f_is_stretch : Addr} {od_is_stretch an_is_stretch : Option Addr} {sl_is_stretch : Array (Option Value)} {oc_is_stretch kV_is_stretch dc_is_stretch pm_is_stretch ct_is_stretch : Value}
    {cd_is_stretch : Value}
    {f_is_word : Addr} {od_is_word an_is_word : Option Addr} {sl_is_word : Array (Option Value)} {oc_is_word kV_is_word dc_is_word pm_is_word ct_is_word : Value}
    {cd_is_word : Value}
    {f_course_of : Addr} {od_course_of an_course_of : Option Addr} {sl_course_of : Array (Option Value)} {oc_course_of kV_course_of dc_course_of pm_course_of ct_course_of : Value}
    {cd_course_of : Value}
    {f_first_unlike : Addr} {od_first_unlike an_first_unlike : Option Addr} {sl_first_unlike : Array (Option Value)} {oc_first_unlike kV_first_unlike dc_first_unlike pm_first_unlike ct_first_unlike : Value}
    {cd_first_unlike : Value}
    {f_end : Addr} {od_end an_end : Option Addr} {sl_end : Array (Option Value)} {oc_end kV_end dc_end pm_end ct_end : Value}
    {cd_end : Value}
    {f_later : Addr} {od_later an_later : Option Addr} {sl_later : Array (Option Value)} {oc_later kV_later dc_later pm_later ct_later : Value}
    {cd_later : Value}
    {f_law_well : Addr} {od_law_well an_law_well : Option Addr} {sl_law_well : Array (Option Value)} {oc_law_well kV_law_well dc_law_well pm_law_well ct_law_well : Value}
    {cd_law_well : Value}
    {f_law_draw : Addr} {od_law_draw an_law_draw : Option Addr} {sl_law_draw : Array (Option Value)} {oc_law_draw kV_law_draw dc_law_draw pm_law_draw ct_law_draw : Value}
    {cd_law_draw : Value}
    {f_law_one : Addr} {od_law_one an_law_one : Option Addr} {sl_law_one : Array (Option Value)} {oc_law_one kV_law_one dc_law_one pm_law_one ct_law_one : Value}
    {cd_law_one : Value}
    {f_law_low : Addr} {od_law_low an_law_low : Option Addr} {sl_law_low : Array (Option Value)} {oc_law_low kV_law_low dc_law_low pm_law_low ct_law_low : Value}
    {cd_law_low : Value}
    {f_law_word : Addr} {od_law_word an_law_word : Option Addr} {sl_law_word : Array (Option Value)} {oc_law_word kV_law_word dc_law_word pm_law_word ct_law_word : Value}
    {cd_law_word : Value}
    {f_law_course : Addr} {od_law_course an_law_course : Option Addr} {sl_law_course : Array (Option Value)} {oc_law_course kV_law_course dc_law_course pm_law_course ct_law_course : Value}
    {cd_law_course : Value}
    {f_law_on : Addr} {od_law_on an_law_on : Option Addr} {sl_law_on : Array (Option Value)} {oc_law_on kV_law_on dc_law_on pm_law_on ct_law_on : Value}
    {cd_law_on : Value}
    {f_law_round : Addr} {od_law_round an_law_round : Option Addr} {sl_law_round : Array (Option Value)} {oc_law_round kV_law_round dc_law_round pm_law_round ct_law_round : Value}
    {cd_law_round : Value}
    {f_law_ahead : Addr} {od_law_ahead an_law_ahead : Option Addr} {sl_law_ahead : Array (Option Value)} {oc_law_ahead kV_law_ahead dc_law_ahead pm_law_ahead ct_law_ahead : Value}
    {cd_law_ahead : Value}
    {f_law_end : Addr} {od_law_end an_law_end : Option Addr} {sl_law_end : Array (Option Value)} {oc_law_end kV_law_end dc_law_end pm_law_end ct_law_end : Value}
    {cd_law_end : Value}
    {f_law_plain : Addr} {od_law_plain an_law_plain : Option Addr} {sl_law_plain : Array (Option Value)} {oc_law_plain kV_law_plain dc_law_plain pm_law_plain ct_law_plain : Value}
    {cd_law_plain : Value}
    {f_law : Addr} {od_law an_law : Option Addr} {sl_law : Array (Option Value)} {oc_law kV_law dc_law pm_law ct_law : Value}
    {cd_law : Value}
    (z_ValueError : PySem.W.nsIn K mainGlobals "ValueError" = some none)
    (z_abs : PySem.W.nsIn K mainGlobals "abs" = some none)
    (z_all : PySem.W.nsIn K mainGlobals "all" = some none)
    (z_any : PySem.W.nsIn K mainGlobals "any" = some none)
    (z_bool : PySem.W.nsIn K mainGlobals "bool" = some none)
    (z_int : PySem.W.nsIn K mainGlobals "int" = some none)
    (z_isinstance : PySem.W.nsIn K mainGlobals "isinstance" = some none)
    (z_len : PySem.W.nsIn K mainGlobals "len" = some none)
    (z_list : PySem.W.nsIn K mainGlobals "list" = some none)
    (z_max : PySem.W.nsIn K mainGlobals "max" = some none)
    (z_min : PySem.W.nsIn K mainGlobals "min" = some none)
    (z_range : PySem.W.nsIn K mainGlobals "range" = some none)
    (z_reversed : PySem.W.nsIn K mainGlobals "reversed" = some none)
    (z_sum : PySem.W.nsIn K mainGlobals "sum" = some none)
    (z_tuple : PySem.W.nsIn K mainGlobals "tuple" = some none)
    (i_gcd : PySem.W.nsIn K mainGlobals "gcd" = some (some (.builtin "math.gcd")))
    (g_LAST_DAY : PySem.W.nsIn K mainGlobals "LAST_DAY" = some (some (.int 1000000000000000 tk_LAST_DAY)))
    (g_MOST_STRETCHES : PySem.W.nsIn K mainGlobals "MOST_STRETCHES" = some (some (.int 60 tk_MOST_STRETCHES)))
    (g_MOST_SHARES : PySem.W.nsIn K mainGlobals "MOST_SHARES" = some (some (.int 60 tk_MOST_SHARES)))
    (acRillError : PySem.W.nsIn K mainGlobals "RillError" = some (some (.ref cRillError)))
    (xcRillError : PySem.W.excIn K cRillError [.type "ValueError", .type "Exception", .type "BaseException", .type "object"] "ValueError.__new__" = true)
    (kcRillError : PySem.W.keepIn K (.ref cRillError) = true)
    (bcRillError : PySem.W.subIn K (.ref cRillError) (.type "BaseException") = some true)
    (tcRillError : PySem.W.typeIn K (.ref cRillError) = some (.type "type"))
    (icRillError : PySem.W.isClsIn K cRillError = true)
    (scRillError : PySem.W.subIn K (.ref cRillError) (.ref cRillError) = some true)
    (acNoShare : PySem.W.nsIn K mainGlobals "NoShare" = some (some (.ref cNoShare)))
    (xcNoShare : PySem.W.excIn K cNoShare [.type "ValueError", .type "Exception", .type "BaseException", .type "object"] "ValueError.__new__" = true)
    (kcNoShare : PySem.W.keepIn K (.ref cNoShare) = true)
    (bcNoShare : PySem.W.subIn K (.ref cNoShare) (.type "BaseException") = some true)
    (tcNoShare : PySem.W.typeIn K (.ref cNoShare) = some (.type "type"))
    (icNoShare : PySem.W.isClsIn K cNoShare = true)
    (scNoShare : PySem.W.subIn K (.ref cNoShare) (.ref cNoShare) = some true)
    (acNoCourse : PySem.W.nsIn K mainGlobals "NoCourse" = some (some (.ref cNoCourse)))
    (xcNoCourse : PySem.W.excIn K cNoCourse [.type "ValueError", .type "Exception", .type "BaseException", .type "object"] "ValueError.__new__" = true)
    (kcNoCourse : PySem.W.keepIn K (.ref cNoCourse) = true)
    (bcNoCourse : PySem.W.subIn K (.ref cNoCourse) (.type "BaseException") = some true)
    (tcNoCourse : PySem.W.typeIn K (.ref cNoCourse) = some (.type "type"))
    (icNoCourse : PySem.W.isClsIn K cNoCourse = true)
    (scNoCourse : PySem.W.subIn K (.ref cNoCourse) (.ref cNoCourse) = some true)
    (acNoDay : PySem.W.nsIn K mainGlobals "NoDay" = some (some (.ref cNoDay)))
    (xcNoDay : PySem.W.excIn K cNoDay [.type "ValueError", .type "Exception", .type "BaseException", .type "object"] "ValueError.__new__" = true)
    (kcNoDay : PySem.W.keepIn K (.ref cNoDay) = true)
    (bcNoDay : PySem.W.subIn K (.ref cNoDay) (.type "BaseException") = some true)
    (tcNoDay : PySem.W.typeIn K (.ref cNoDay) = some (.type "type"))
    (icNoDay : PySem.W.isClsIn K cNoDay = true)
    (scNoDay : PySem.W.subIn K (.ref cNoDay) (.ref cNoDay) = some true)
    (acShare : PySem.W.nsIn K mainGlobals "Share" = some (some (.ref cShare)))
    (pgcShare : PySem.W.plainGet K cShare Str.empty = true)
    (hdcShare : PySem.W.hasDictIn K cShare = true)
    (pocShare : PySem.W.plainOver K cShare = true)
    (sacShare : PySem.W.findIn K (.ref cShare) "__setattr__" = some (some (.builtin "object.__setattr__")))
    (mkcShare : PySem.W.makesIn K cShare = true)
    (kccShare : PySem.W.keepIn K (.ref cShare) = true)
    (ncShare_bottom : PySem.W.findIn K (.ref cShare) "bottom" = some none)
    (ncShare_top : PySem.W.findIn K (.ref cShare) "top" = some none)
    (gccShare : PySem.W.findIn K (.ref cShare) "__class__" = some (some (.builtin "object.__class__")))
    (gmcShare : PySem.W.mroIn K cShare (.type "object") = some true)
    (mecShare : PySem.W.kitOne K (.ref cShare) (.ref cShare) = some true)
    (mcShare_tuple : PySem.W.kitOne K (.type "tuple") (.ref cShare) = some false)
    (ucShare_tuple : PySem.W.kitOne K (.ref cShare) (.type "tuple") = some false)
    (mcShare_int : PySem.W.kitOne K (.type "int") (.ref cShare) = some false)
    (ucShare_int : PySem.W.kitOne K (.ref cShare) (.type "int") = some false)
    (mcShare_NoneType : PySem.W.kitOne K (.type "NoneType") (.ref cShare) = some false)
    (mcShare_list : PySem.W.kitOne K (.type "list") (.ref cShare) = some false)
    (ucShare_list : PySem.W.kitOne K (.ref cShare) (.type "list") = some false)
    (mcShare_str : PySem.W.kitOne K (.type "str") (.ref cShare) = some false)
    (mcShare_bool : PySem.W.kitOne K (.type "bool") (.ref cShare) = some false)
    (ucShare_bool : PySem.W.kitOne K (.ref cShare) (.type "bool") = some false)
    (mcShare_dict : PySem.W.kitOne K (.type "dict") (.ref cShare) = some false)
    (ecShare : PySem.W.findIn K (.ref cShare) "__ne__" = some (some (.builtin "object.__ne__")))
    (ocShare : PySem.W.subIn K (.ref cShare) (.type "object") = some true)
    (wcShare_tuple : PySem.W.subIn K (.ref cShare) (.type "tuple") = some false)
    (ycShare_tuple : PySem.W.subIn K (.type "tuple") (.ref cShare) = some false)
    (wcShare_int : PySem.W.subIn K (.ref cShare) (.type "int") = some false)
    (ycShare_int : PySem.W.subIn K (.type "int") (.ref cShare) = some false)
    (wcShare_NoneType : PySem.W.subIn K (.ref cShare) (.type "NoneType") = some false)
    (ycShare_NoneType : PySem.W.subIn K (.type "NoneType") (.ref cShare) = some false)
    (wcShare_list : PySem.W.subIn K (.ref cShare) (.type "list") = some false)
    (ycShare_list : PySem.W.subIn K (.type "list") (.ref cShare) = some false)
    (wcShare_str : PySem.W.subIn K (.ref cShare) (.type "str") = some false)
    (ycShare_str : PySem.W.subIn K (.type "str") (.ref cShare) = some false)
    (wcShare_bool : PySem.W.subIn K (.ref cShare) (.type "bool") = some false)
    (ycShare_bool : PySem.W.subIn K (.type "bool") (.ref cShare) = some false)
    (wcShare_dict : PySem.W.subIn K (.ref cShare) (.type "dict") = some false)
    (ycShare_dict : PySem.W.subIn K (.type "dict") (.ref cShare) = some false)
    (a_Share_init : PySem.W.findIn K (.ref cShare) "__init__" = some (some (.ref f_Share_init)))
    (i_Share_init : PySem.W.isFn K (.ref f_Share_init) = true)
    (l_Share_init : K.lookup f_Share_init = some ⟨oc_Share_init, od_Share_init, .func (PySem.W.fnOf "__init__" "Share.__init__" (defArgs d_Share_init) (defBody d_Share_init) (defScope d_Share_init) (.ref TD_Share_init) kV_Share_init dc_Share_init pm_Share_init an_Share_init cd_Share_init ct_Share_init), sl_Share_init⟩)
    (c_Share_init : PySem.W.codeIn K cd_Share_init "Share.__init__" = true)
    (k_Share_init : PySem.W.keepIn K (.ref f_Share_init) = true)
    (lTD_Share_init : K.lookup TD_Share_init = some ⟨ocTD_Share_init, odTD_Share_init, .seq [Value.int 1 tkTD_Share_init].toArray nTD_Share_init, slTD_Share_init⟩)
    (a_Share_eq : PySem.W.findIn K (.ref cShare) "__eq__" = some (some (.ref f_Share_eq)))
    (i_Share_eq : PySem.W.isFn K (.ref f_Share_eq) = true)
    (l_Share_eq : K.lookup f_Share_eq = some ⟨oc_Share_eq, od_Share_eq, .func (PySem.W.fnOf "__eq__" "Share.__eq__" (defArgs d_Share_eq) (defBody d_Share_eq) (defScope d_Share_eq) .none kV_Share_eq dc_Share_eq pm_Share_eq an_Share_eq cd_Share_eq ct_Share_eq), sl_Share_eq⟩)
    (c_Share_eq : PySem.W.codeIn K cd_Share_eq "Share.__eq__" = true)
    (k_Share_eq : PySem.W.keepIn K (.ref f_Share_eq) = true)
    (acCourse : PySem.W.nsIn K mainGlobals "Course" = some (some (.ref cCourse)))
    (pgcCourse : PySem.W.plainGet K cCourse Str.empty = true)
    (hdcCourse : PySem.W.hasDictIn K cCourse = true)
    (pocCourse : PySem.W.plainOver K cCourse = true)
    (sacCourse : PySem.W.findIn K (.ref cCourse) "__setattr__" = some (some (.builtin "object.__setattr__")))
    (mkcCourse : PySem.W.makesIn K cCourse = true)
    (kccCourse : PySem.W.keepIn K (.ref cCourse) = true)
    (ncCourse_spans : PySem.W.findIn K (.ref cCourse) "spans" = some none)
    (gccCourse : PySem.W.findIn K (.ref cCourse) "__class__" = some (some (.builtin "object.__class__")))
    (gmcCourse : PySem.W.mroIn K cCourse (.type "object") = some true)
    (mecCourse : PySem.W.kitOne K (.ref cCourse) (.ref cCourse) = some true)
    (mcCourse_tuple : PySem.W.kitOne K (.type "tuple") (.ref cCourse) = some false)
    (ucCourse_tuple : PySem.W.kitOne K (.ref cCourse) (.type "tuple") = some false)
    (mcCourse_int : PySem.W.kitOne K (.type "int") (.ref cCourse) = some false)
    (ucCourse_int : PySem.W.kitOne K (.ref cCourse) (.type "int") = some false)
    (mcCourse_NoneType : PySem.W.kitOne K (.type "NoneType") (.ref cCourse) = some false)
    (mcCourse_list : PySem.W.kitOne K (.type "list") (.ref cCourse) = some false)
    (ucCourse_list : PySem.W.kitOne K (.ref cCourse) (.type "list") = some false)
    (mcCourse_str : PySem.W.kitOne K (.type "str") (.ref cCourse) = some false)
    (mcCourse_bool : PySem.W.kitOne K (.type "bool") (.ref cCourse) = some false)
    (ucCourse_bool : PySem.W.kitOne K (.ref cCourse) (.type "bool") = some false)
    (mcCourse_dict : PySem.W.kitOne K (.type "dict") (.ref cCourse) = some false)
    (ecCourse : PySem.W.findIn K (.ref cCourse) "__ne__" = some (some (.builtin "object.__ne__")))
    (ocCourse : PySem.W.subIn K (.ref cCourse) (.type "object") = some true)
    (wcCourse_tuple : PySem.W.subIn K (.ref cCourse) (.type "tuple") = some false)
    (ycCourse_tuple : PySem.W.subIn K (.type "tuple") (.ref cCourse) = some false)
    (wcCourse_int : PySem.W.subIn K (.ref cCourse) (.type "int") = some false)
    (ycCourse_int : PySem.W.subIn K (.type "int") (.ref cCourse) = some false)
    (wcCourse_NoneType : PySem.W.subIn K (.ref cCourse) (.type "NoneType") = some false)
    (ycCourse_NoneType : PySem.W.subIn K (.type "NoneType") (.ref cCourse) = some false)
    (wcCourse_list : PySem.W.subIn K (.ref cCourse) (.type "list") = some false)
    (ycCourse_list : PySem.W.subIn K (.type "list") (.ref cCourse) = some false)
    (wcCourse_str : PySem.W.subIn K (.ref cCourse) (.type "str") = some false)
    (ycCourse_str : PySem.W.subIn K (.type "str") (.ref cCourse) = some false)
    (wcCourse_bool : PySem.W.subIn K (.ref cCourse) (.type "bool") = some false)
    (ycCourse_bool : PySem.W.subIn K (.type "bool") (.ref cCourse) = some false)
    (wcCourse_dict : PySem.W.subIn K (.ref cCourse) (.type "dict") = some false)
    (ycCourse_dict : PySem.W.subIn K (.type "dict") (.ref cCourse) = some false)
    (a_Course_init : PySem.W.findIn K (.ref cCourse) "__init__" = some (some (.ref f_Course_init)))
    (i_Course_init : PySem.W.isFn K (.ref f_Course_init) = true)
    (l_Course_init : K.lookup f_Course_init = some ⟨oc_Course_init, od_Course_init, .func (PySem.W.fnOf "__init__" "Course.__init__" (defArgs d_Course_init) (defBody d_Course_init) (defScope d_Course_init) .none kV_Course_init dc_Course_init pm_Course_init an_Course_init cd_Course_init ct_Course_init), sl_Course_init⟩)
    (c_Course_init : PySem.W.codeIn K cd_Course_init "Course.__init__" = true)
    (k_Course_init : PySem.W.keepIn K (.ref f_Course_init) = true)
    (a_Course_eq : PySem.W.findIn K (.ref cCourse) "__eq__" = some (some (.ref f_Course_eq)))
    (i_Course_eq : PySem.W.isFn K (.ref f_Course_eq) = true)
    (l_Course_eq : K.lookup f_Course_eq = some ⟨oc_Course_eq, od_Course_eq, .func (PySem.W.fnOf "__eq__" "Course.__eq__" (defArgs d_Course_eq) (defBody d_Course_eq) (defScope d_Course_eq) .none kV_Course_eq dc_Course_eq pm_Course_eq an_Course_eq cd_Course_eq ct_Course_eq), sl_Course_eq⟩)
    (c_Course_eq : PySem.W.codeIn K cd_Course_eq "Course.__eq__" = true)
    (k_Course_eq : PySem.W.keepIn K (.ref f_Course_eq) = true)
    (jShare_Course : PySem.W.kitOne K (.ref cShare) (.ref cCourse) = some false)
    (vShare_Course : PySem.W.subIn K (.ref cShare) (.ref cCourse) = some false)
    (jCourse_Share : PySem.W.kitOne K (.ref cCourse) (.ref cShare) = some false)
    (vCourse_Share : PySem.W.subIn K (.ref cCourse) (.ref cShare) = some false)
    (a_is_whole : PySem.W.nsIn K mainGlobals "is_whole" = some (some (.ref f_is_whole)))
    (l_is_whole : K.lookup f_is_whole = some ⟨oc_is_whole, od_is_whole, .func (PySem.W.fnOf "is_whole" "is_whole" (defArgs d_is_whole) (defBody d_is_whole) (defScope d_is_whole) .none kV_is_whole dc_is_whole pm_is_whole an_is_whole cd_is_whole ct_is_whole), sl_is_whole⟩)
    (c_is_whole : PySem.W.codeIn K cd_is_whole "is_whole" = true)
    (k_is_whole : PySem.W.keepIn K (.ref f_is_whole) = true)
    (a_is_between : PySem.W.nsIn K mainGlobals "is_between" = some (some (.ref f_is_between)))
    (l_is_between : K.lookup f_is_between = some ⟨oc_is_between, od_is_between, .func (PySem.W.fnOf "is_between" "is_between" (defArgs d_is_between) (defBody d_is_between) (defScope d_is_between) .none kV_is_between dc_is_between pm_is_between an_is_between cd_is_between ct_is_between), sl_is_between⟩)
    (c_is_between : PySem.W.codeIn K cd_is_between "is_between" = true)
    (k_is_between : PySem.W.keepIn K (.ref f_is_between) = true)
    (a_is_day : PySem.W.nsIn K mainGlobals "is_day" = some (some (.ref f_is_day)))
    (l_is_day : K.lookup f_is_day = some ⟨oc_is_day, od_is_day, .func (PySem.W.fnOf "is_day" "is_day" (defArgs d_is_day) (defBody d_is_day) (defScope d_is_day) .none kV_is_day dc_is_day pm_is_day an_is_day cd_is_day ct_is_day), sl_is_day⟩)
    (c_is_day : PySem.W.codeIn K cd_is_day "is_day" = true)
    (k_is_day : PySem.W.keepIn K (.ref f_is_day) = true)
    (a_least_word : PySem.W.nsIn K mainGlobals "least_word" = some (some (.ref f_least_word)))
    (l_least_word : K.lookup f_least_word = some ⟨oc_least_word, od_least_word, .func (PySem.W.fnOf "least_word" "least_word" (defArgs d_least_word) (defBody d_least_word) (defScope d_least_word) .none kV_least_word dc_least_word pm_least_word an_least_word cd_least_word ct_least_word), sl_least_word⟩)
    (c_least_word : PySem.W.codeIn K cd_least_word "least_word" = true)
    (k_least_word : PySem.W.keepIn K (.ref f_least_word) = true)
    (a_spans_of : PySem.W.nsIn K mainGlobals "spans_of" = some (some (.ref f_spans_of)))
    (l_spans_of : K.lookup f_spans_of = some ⟨oc_spans_of, od_spans_of, .func (PySem.W.fnOf "spans_of" "spans_of" (defArgs d_spans_of) (defBody d_spans_of) (defScope d_spans_of) .none kV_spans_of dc_spans_of pm_spans_of an_spans_of cd_spans_of ct_spans_of), sl_spans_of⟩)
    (c_spans_of : PySem.W.codeIn K cd_spans_of "spans_of" = true)
    (k_spans_of : PySem.W.keepIn K (.ref f_spans_of) = true)
    (a_share_on : PySem.W.nsIn K mainGlobals "share_on" = some (some (.ref f_share_on)))
    (l_share_on : K.lookup f_share_on = some ⟨oc_share_on, od_share_on, .func (PySem.W.fnOf "share_on" "share_on" (defArgs d_share_on) (defBody d_share_on) (defScope d_share_on) .none kV_share_on dc_share_on pm_share_on an_share_on cd_share_on ct_share_on), sl_share_on⟩)
    (c_share_on : PySem.W.codeIn K cd_share_on "share_on" = true)
    (k_share_on : PySem.W.keepIn K (.ref f_share_on) = true)
    (a_word_from : PySem.W.nsIn K mainGlobals "word_from" = some (some (.ref f_word_from)))
    (l_word_from : K.lookup f_word_from = some ⟨oc_word_from, od_word_from, .func (PySem.W.fnOf "word_from" "word_from" (defArgs d_word_from) (defBody d_word_from) (defScope d_word_from) .none kV_word_from dc_word_from pm_word_from an_word_from cd_word_from ct_word_from), sl_word_from⟩)
    (c_word_from : PySem.W.codeIn K cd_word_from "word_from" = true)
    (k_word_from : PySem.W.keepIn K (.ref f_word_from) = true)
    (a_sooner : PySem.W.nsIn K mainGlobals "sooner" = some (some (.ref f_sooner)))
    (l_sooner : K.lookup f_sooner = some ⟨oc_sooner, od_sooner, .func (PySem.W.fnOf "sooner" "sooner" (defArgs d_sooner) (defBody d_sooner) (defScope d_sooner) .none kV_sooner dc_sooner pm_sooner an_sooner cd_sooner ct_sooner), sl_sooner⟩)
    (c_sooner : PySem.W.codeIn K cd_sooner "sooner" = true)
    (k_sooner : PySem.W.keepIn K (.ref f_sooner) = true)
    (a_beside : PySem.W.nsIn K mainGlobals "beside" = some (some (.ref f_beside)))
    (l_beside : K.lookup f_beside = some ⟨oc_beside, od_beside, .func (PySem.W.fnOf "beside" "beside" (defArgs d_beside) (defBody d_beside) (defScope d_beside) .none kV_beside dc_beside pm_beside an_beside cd_beside ct_beside), sl_beside⟩)
    (c_beside : PySem.W.codeIn K cd_beside "beside" = true)
    (k_beside : PySem.W.keepIn K (.ref f_beside) = true)
    (a_round_of : PySem.W.nsIn K mainGlobals "round_of" = some (some (.ref f_round_of)))
    (l_round_of : K.lookup f_round_of = some ⟨oc_round_of, od_round_of, .func (PySem.W.fnOf "round_of" "round_of" (defArgs d_round_of) (defBody d_round_of) (defScope d_round_of) .none kV_round_of dc_round_of pm_round_of an_round_of cd_round_of ct_round_of), sl_round_of⟩)
    (c_round_of : PySem.W.codeIn K cd_round_of "round_of" = true)
    (k_round_of : PySem.W.keepIn K (.ref f_round_of) = true)
    (a_last_unlike_in : PySem.W.nsIn K mainGlobals "last_unlike_in" = some (some (.ref f_last_unlike_in)))
    (l_last_unlike_in : K.lookup f_last_unlike_in = some ⟨oc_last_unlike_in, od_last_unlike_in, .func (PySem.W.fnOf "last_unlike_in" "last_unlike_in" (defArgs d_last_unlike_in) (defBody d_last_unlike_in) (defScope d_last_unlike_in) .none kV_last_unlike_in dc_last_unlike_in pm_last_unlike_in an_last_unlike_in cd_last_unlike_in ct_last_unlike_in), sl_last_unlike_in⟩)
    (c_last_unlike_in : PySem.W.codeIn K cd_last_unlike_in "last_unlike_in" = true)
    (k_last_unlike_in : PySem.W.keepIn K (.ref f_last_unlike_in) = true)
    (a_are_stretches : PySem.W.nsIn K mainGlobals "are_stretches" = some (some (.ref f_are_stretches)))
    (l_are_stretches : K.lookup f_are_stretches = some ⟨oc_are_stretches, od_are_stretches, .func (PySem.W.fnOf "are_stretches" "are_stretches" (defArgs d_are_stretches) (defBody d_are_stretches) (defScope d_are_stretches) .none kV_are_stretches dc_are_stretches pm_are_stretches an_are_stretches cd_are_stretches ct_are_stretches), sl_are_stretches⟩)
    (c_are_stretches : PySem.W.codeIn K cd_are_stretches "are_stretches" = true)
    (k_are_stretches : PySem.W.keepIn K (.ref f_are_stretches) = true)
    (a_is_stretch : PySem.W.nsIn K mainGlobals "is_stretch" = some (some (.ref f_is_stretch)))
    (l_is_stretch : K.lookup f_is_stretch = some ⟨oc_is_stretch, od_is_stretch, .func (PySem.W.fnOf "is_stretch" "is_stretch" (defArgs d_is_stretch) (defBody d_is_stretch) (defScope d_is_stretch) .none kV_is_stretch dc_is_stretch pm_is_stretch an_is_stretch cd_is_stretch ct_is_stretch), sl_is_stretch⟩)
    (c_is_stretch : PySem.W.codeIn K cd_is_stretch "is_stretch" = true)
    (k_is_stretch : PySem.W.keepIn K (.ref f_is_stretch) = true)
    (a_is_word : PySem.W.nsIn K mainGlobals "is_word" = some (some (.ref f_is_word)))
    (l_is_word : K.lookup f_is_word = some ⟨oc_is_word, od_is_word, .func (PySem.W.fnOf "is_word" "is_word" (defArgs d_is_word) (defBody d_is_word) (defScope d_is_word) .none kV_is_word dc_is_word pm_is_word an_is_word cd_is_word ct_is_word), sl_is_word⟩)
    (c_is_word : PySem.W.codeIn K cd_is_word "is_word" = true)
    (k_is_word : PySem.W.keepIn K (.ref f_is_word) = true)
    (a_course_of : PySem.W.nsIn K mainGlobals "course_of" = some (some (.ref f_course_of)))
    (l_course_of : K.lookup f_course_of = some ⟨oc_course_of, od_course_of, .func (PySem.W.fnOf "course_of" "course_of" (defArgs d_course_of) (defBody d_course_of) (defScope d_course_of) .none kV_course_of dc_course_of pm_course_of an_course_of cd_course_of ct_course_of), sl_course_of⟩)
    (c_course_of : PySem.W.codeIn K cd_course_of "course_of" = true)
    (k_course_of : PySem.W.keepIn K (.ref f_course_of) = true)
    (a_first_unlike : PySem.W.nsIn K mainGlobals "first_unlike" = some (some (.ref f_first_unlike)))
    (l_first_unlike : K.lookup f_first_unlike = some ⟨oc_first_unlike, od_first_unlike, .func (PySem.W.fnOf "first_unlike" "first_unlike" (defArgs d_first_unlike) (defBody d_first_unlike) (defScope d_first_unlike) .none kV_first_unlike dc_first_unlike pm_first_unlike an_first_unlike cd_first_unlike ct_first_unlike), sl_first_unlike⟩)
    (c_first_unlike : PySem.W.codeIn K cd_first_unlike "first_unlike" = true)
    (k_first_unlike : PySem.W.keepIn K (.ref f_first_unlike) = true)
    (a_end : PySem.W.nsIn K mainGlobals "end" = some (some (.ref f_end)))
    (l_end : K.lookup f_end = some ⟨oc_end, od_end, .func (PySem.W.fnOf "end" "end" (defArgs d_end) (defBody d_end) (defScope d_end) .none kV_end dc_end pm_end an_end cd_end ct_end), sl_end⟩)
    (c_end : PySem.W.codeIn K cd_end "end" = true)
    (k_end : PySem.W.keepIn K (.ref f_end) = true)
    (a_later : PySem.W.nsIn K mainGlobals "later" = some (some (.ref f_later)))
    (l_later : K.lookup f_later = some ⟨oc_later, od_later, .func (PySem.W.fnOf "later" "later" (defArgs d_later) (defBody d_later) (defScope d_later) .none kV_later dc_later pm_later an_later cd_later ct_later), sl_later⟩)
    (c_later : PySem.W.codeIn K cd_later "later" = true)
    (k_later : PySem.W.keepIn K (.ref f_later) = true)
    (a_law_well : PySem.W.nsIn K mainGlobals "_law_well" = some (some (.ref f_law_well)))
    (l_law_well : K.lookup f_law_well = some ⟨oc_law_well, od_law_well, .func (PySem.W.fnOf "_law_well" "_law_well" (defArgs d_law_well) (defBody d_law_well) (defScope d_law_well) .none kV_law_well dc_law_well pm_law_well an_law_well cd_law_well ct_law_well), sl_law_well⟩)
    (c_law_well : PySem.W.codeIn K cd_law_well "_law_well" = true)
    (k_law_well : PySem.W.keepIn K (.ref f_law_well) = true)
    (a_law_draw : PySem.W.nsIn K mainGlobals "_law_draw" = some (some (.ref f_law_draw)))
    (l_law_draw : K.lookup f_law_draw = some ⟨oc_law_draw, od_law_draw, .func (PySem.W.fnOf "_law_draw" "_law_draw" (defArgs d_law_draw) (defBody d_law_draw) (defScope d_law_draw) .none kV_law_draw dc_law_draw pm_law_draw an_law_draw cd_law_draw ct_law_draw), sl_law_draw⟩)
    (c_law_draw : PySem.W.codeIn K cd_law_draw "_law_draw" = true)
    (k_law_draw : PySem.W.keepIn K (.ref f_law_draw) = true)
    (a_law_one : PySem.W.nsIn K mainGlobals "_law_one" = some (some (.ref f_law_one)))
    (l_law_one : K.lookup f_law_one = some ⟨oc_law_one, od_law_one, .func (PySem.W.fnOf "_law_one" "_law_one" (defArgs d_law_one) (defBody d_law_one) (defScope d_law_one) .none kV_law_one dc_law_one pm_law_one an_law_one cd_law_one ct_law_one), sl_law_one⟩)
    (c_law_one : PySem.W.codeIn K cd_law_one "_law_one" = true)
    (k_law_one : PySem.W.keepIn K (.ref f_law_one) = true)
    (a_law_low : PySem.W.nsIn K mainGlobals "_law_low" = some (some (.ref f_law_low)))
    (l_law_low : K.lookup f_law_low = some ⟨oc_law_low, od_law_low, .func (PySem.W.fnOf "_law_low" "_law_low" (defArgs d_law_low) (defBody d_law_low) (defScope d_law_low) .none kV_law_low dc_law_low pm_law_low an_law_low cd_law_low ct_law_low), sl_law_low⟩)
    (c_law_low : PySem.W.codeIn K cd_law_low "_law_low" = true)
    (k_law_low : PySem.W.keepIn K (.ref f_law_low) = true)
    (a_law_word : PySem.W.nsIn K mainGlobals "_law_word" = some (some (.ref f_law_word)))
    (l_law_word : K.lookup f_law_word = some ⟨oc_law_word, od_law_word, .func (PySem.W.fnOf "_law_word" "_law_word" (defArgs d_law_word) (defBody d_law_word) (defScope d_law_word) .none kV_law_word dc_law_word pm_law_word an_law_word cd_law_word ct_law_word), sl_law_word⟩)
    (c_law_word : PySem.W.codeIn K cd_law_word "_law_word" = true)
    (k_law_word : PySem.W.keepIn K (.ref f_law_word) = true)
    (a_law_course : PySem.W.nsIn K mainGlobals "_law_course" = some (some (.ref f_law_course)))
    (l_law_course : K.lookup f_law_course = some ⟨oc_law_course, od_law_course, .func (PySem.W.fnOf "_law_course" "_law_course" (defArgs d_law_course) (defBody d_law_course) (defScope d_law_course) .none kV_law_course dc_law_course pm_law_course an_law_course cd_law_course ct_law_course), sl_law_course⟩)
    (c_law_course : PySem.W.codeIn K cd_law_course "_law_course" = true)
    (k_law_course : PySem.W.keepIn K (.ref f_law_course) = true)
    (a_law_on : PySem.W.nsIn K mainGlobals "_law_on" = some (some (.ref f_law_on)))
    (l_law_on : K.lookup f_law_on = some ⟨oc_law_on, od_law_on, .func (PySem.W.fnOf "_law_on" "_law_on" (defArgs d_law_on) (defBody d_law_on) (defScope d_law_on) .none kV_law_on dc_law_on pm_law_on an_law_on cd_law_on ct_law_on), sl_law_on⟩)
    (c_law_on : PySem.W.codeIn K cd_law_on "_law_on" = true)
    (k_law_on : PySem.W.keepIn K (.ref f_law_on) = true)
    (a_law_round : PySem.W.nsIn K mainGlobals "_law_round" = some (some (.ref f_law_round)))
    (l_law_round : K.lookup f_law_round = some ⟨oc_law_round, od_law_round, .func (PySem.W.fnOf "_law_round" "_law_round" (defArgs d_law_round) (defBody d_law_round) (defScope d_law_round) .none kV_law_round dc_law_round pm_law_round an_law_round cd_law_round ct_law_round), sl_law_round⟩)
    (c_law_round : PySem.W.codeIn K cd_law_round "_law_round" = true)
    (k_law_round : PySem.W.keepIn K (.ref f_law_round) = true)
    (a_law_ahead : PySem.W.nsIn K mainGlobals "_law_ahead" = some (some (.ref f_law_ahead)))
    (l_law_ahead : K.lookup f_law_ahead = some ⟨oc_law_ahead, od_law_ahead, .func (PySem.W.fnOf "_law_ahead" "_law_ahead" (defArgs d_law_ahead) (defBody d_law_ahead) (defScope d_law_ahead) .none kV_law_ahead dc_law_ahead pm_law_ahead an_law_ahead cd_law_ahead ct_law_ahead), sl_law_ahead⟩)
    (c_law_ahead : PySem.W.codeIn K cd_law_ahead "_law_ahead" = true)
    (k_law_ahead : PySem.W.keepIn K (.ref f_law_ahead) = true)
    (a_law_end : PySem.W.nsIn K mainGlobals "_law_end" = some (some (.ref f_law_end)))
    (l_law_end : K.lookup f_law_end = some ⟨oc_law_end, od_law_end, .func (PySem.W.fnOf "_law_end" "_law_end" (defArgs d_law_end) (defBody d_law_end) (defScope d_law_end) .none kV_law_end dc_law_end pm_law_end an_law_end cd_law_end ct_law_end), sl_law_end⟩)
    (c_law_end : PySem.W.codeIn K cd_law_end "_law_end" = true)
    (k_law_end : PySem.W.keepIn K (.ref f_law_end) = true)
    (a_law_plain : PySem.W.nsIn K mainGlobals "_law_plain" = some (some (.ref f_law_plain)))
    (l_law_plain : K.lookup f_law_plain = some ⟨oc_law_plain, od_law_plain, .func (PySem.W.fnOf "_law_plain" "_law_plain" (defArgs d_law_plain) (defBody d_law_plain) (defScope d_law_plain) .none kV_law_plain dc_law_plain pm_law_plain an_law_plain cd_law_plain ct_law_plain), sl_law_plain⟩)
    (c_law_plain : PySem.W.codeIn K cd_law_plain "_law_plain" = true)
    (k_law_plain : PySem.W.keepIn K (.ref f_law_plain) = true)
    (a_law : PySem.W.nsIn K mainGlobals "law" = some (some (.ref f_law)))
    (l_law : K.lookup f_law = some ⟨oc_law, od_law, .func (PySem.W.fnOf "law" "law" (defArgs d_law) (defBody d_law) (defScope d_law) .none kV_law dc_law pm_law an_law cd_law ct_law), sl_law⟩)
    (c_law : PySem.W.codeIn K cd_law "law" = true)
    (k_law : PySem.W.keepIn K (.ref f_law) = true)
    (gs : PySem.W.specialIn K (.builtin "object.__class__") "__get__" = some (some (.builtin "getset_descriptor.__get__")))
    (gt : PySem.W.takesIn K (.builtin "object.__class__") = some true)
    : ∃ fd : FuncData, (∀ (s : Shared) (v : Value), BindsTo s fd ⟨[v], []⟩ [("script", v)]) ∧ ∀ base : Heap, K.In base → base.Ns mainGlobals mg → FnOk P w K mg base CX0 9 fa fd ["script"] (spLaw K) := by
  have e := hfa.symm.trans (PySem.W.mg_of X G a_law)
  cases e
  have z_ValueError := PySem.W.mg_none_of X G z_ValueError
  have z_abs := PySem.W.mg_none_of X G z_abs
  have z_all := PySem.W.mg_none_of X G z_all
  have z_any := PySem.W.mg_none_of X G z_any
  have z_bool := PySem.W.mg_none_of X G z_bool
  have z_int := PySem.W.mg_none_of X G z_int
  have z_isinstance := PySem.W.mg_none_of X G z_isinstance
  have z_len := PySem.W.mg_none_of X G z_len
  have z_list := PySem.W.mg_none_of X G z_list
  have z_max := PySem.W.mg_none_of X G z_max
  have z_min := PySem.W.mg_none_of X G z_min
  have z_range := PySem.W.mg_none_of X G z_range
  have z_reversed := PySem.W.mg_none_of X G z_reversed
  have z_sum := PySem.W.mg_none_of X G z_sum
  have z_tuple := PySem.W.mg_none_of X G z_tuple
  have i_gcd := PySem.W.mg_of X G i_gcd
  have g_LAST_DAY := PySem.W.mg_of X G g_LAST_DAY
  have g_MOST_STRETCHES := PySem.W.mg_of X G g_MOST_STRETCHES
  have g_MOST_SHARES := PySem.W.mg_of X G g_MOST_SHARES
  have mcRillError := PySem.W.mg_of X G acRillError
  have mcNoShare := PySem.W.mg_of X G acNoShare
  have mcNoCourse := PySem.W.mg_of X G acNoCourse
  have mcNoDay := PySem.W.mg_of X G acNoDay
  have mcShare := PySem.W.mg_of X G acShare
  have mcCourse := PySem.W.mg_of X G acCourse
  have ErRillError : ErrC K mg "RillError" cRillError := ⟨PySem.W.mg_of X G acRillError, xcRillError, kcRillError, bcRillError, tcRillError⟩
  have ErNoShare : ErrC K mg "NoShare" cNoShare := ⟨PySem.W.mg_of X G acNoShare, xcNoShare, kcNoShare, bcNoShare, tcNoShare⟩
  have ErNoCourse : ErrC K mg "NoCourse" cNoCourse := ⟨PySem.W.mg_of X G acNoCourse, xcNoCourse, kcNoCourse, bcNoCourse, tcNoCourse⟩
  have ErNoDay : ErrC K mg "NoDay" cNoDay := ⟨PySem.W.mg_of X G acNoDay, xcNoDay, kcNoDay, bcNoDay, tcNoDay⟩
  have F_Share_init : FunD K "__init__" "Share.__init__" (defArgs d_Share_init) (defBody d_Share_init) (defScope d_Share_init) [.int 1] [] f_Share_init _ := ⟨⟨_, _, _, _, _, _, _, _, _, _, rfl, l_Share_init, c_Share_init, .inr ⟨(fun z => nomatch z), TD_Share_init, _, [Value.int 1 tkTD_Share_init], nTD_Share_init, rfl, lTD_Share_init, rfl, .cons ⟨tkTD_Share_init, rfl⟩ .nil⟩, .inl rfl⟩, k_Share_init⟩
  obtain ⟨ds_Share_init3, rd_Share_init3, b_Share_init3⟩ := FunD.binds1 (ps := ["self", "top", "bottom"]) F_Share_init 3 1 (fun z => nomatch z) rfl (fun T kV doc pm an cdv ct us its hu hi => match us, its, hu, hi with | [_, _, _], [_], _, _ => ⟨_, rfl, rfl⟩)
  obtain ⟨ds_Share_init2, rd_Share_init2, b_Share_init2⟩ := FunD.binds1 (ps := ["self", "top", "bottom"]) F_Share_init 2 0 (fun z => nomatch z) rfl (fun T kV doc pm an cdv ct us its hu hi => match us, its, hu, hi with | [_, _], [_], _, _ => ⟨_, rfl, rfl⟩)
  cases rd_Share_init3
  obtain ⟨u0_Share_init, rfl⟩ : ∃ u0, ds_Share_init2 = [u0] := by
    cases rd_Share_init2 with
    | cons r1 rn =>
      cases rn
      exact ⟨_, rfl⟩
  have F_Share_eq := fun_mk (st := d_Share_eq) l_Share_eq c_Share_eq k_Share_eq
  have b_Share_eq := F_Share_eq.binds (ps := ["self", "other"]) fun _ _ _ _ _ _ us hl => match us, hl with | [_, _], _ => rfl
  have F_Course_init := fun_mk (st := d_Course_init) l_Course_init c_Course_init k_Course_init
  have b_Course_init := F_Course_init.binds (ps := ["self", "stretches"]) fun _ _ _ _ _ _ us hl => match us, hl with | [_, _], _ => rfl
  have F_Course_eq := fun_mk (st := d_Course_eq) l_Course_eq c_Course_eq k_Course_eq
  have b_Course_eq := F_Course_eq.binds (ps := ["self", "other"]) fun _ _ _ _ _ _ us hl => match us, hl with | [_, _], _ => rfl
  have F_is_whole := fun_mk (st := d_is_whole) l_is_whole c_is_whole k_is_whole
  have m_is_whole := PySem.W.mg_of X G a_is_whole
  have b_is_whole := F_is_whole.binds (ps := ["thing"]) fun _ _ _ _ _ _ us hl => match us, hl with | [_], _ => rfl
  have F_is_between := fun_mk (st := d_is_between) l_is_between c_is_between k_is_between
  have m_is_between := PySem.W.mg_of X G a_is_between
  have b_is_between := F_is_between.binds (ps := ["thing", "least", "most"]) fun _ _ _ _ _ _ us hl => match us, hl with | [_, _, _], _ => rfl
  have F_is_day := fun_mk (st := d_is_day) l_is_day c_is_day k_is_day
  have m_is_day := PySem.W.mg_of X G a_is_day
  have b_is_day := F_is_day.binds (ps := ["thing"]) fun _ _ _ _ _ _ us hl => match us, hl with | [_], _ => rfl
  have F_least_word := fun_mk (st := d_least_word) l_least_word c_least_word k_least_word
  have m_least_word := PySem.W.mg_of X G a_least_word
  have b_least_word := F_least_word.binds (ps := ["word"]) fun _ _ _ _ _ _ us hl => match us, hl with | [_], _ => rfl
  have F_spans_of := fun_mk (st := d_spans_of) l_spans_of c_spans_of k_spans_of
  have m_spans_of := PySem.W.mg_of X G a_spans_of
  have b_spans_of := F_spans_of.binds (ps := ["stretches"]) fun _ _ _ _ _ _ us hl => match us, hl with | [_], _ => rfl
  have F_share_on := fun_mk (st := d_share_on) l_share_on c_share_on k_share_on
  have m_share_on := PySem.W.mg_of X G a_share_on
  have b_share_on := F_share_on.binds (ps := ["span", "day"]) fun _ _ _ _ _ _ us hl => match us, hl with | [_, _], _ => rfl
  have F_word_from := fun_mk (st := d_word_from) l_word_from c_word_from k_word_from
  have m_word_from := PySem.W.mg_of X G a_word_from
  have b_word_from := F_word_from.binds (ps := ["span", "day"]) fun _ _ _ _ _ _ us hl => match us, hl with | [_, _], _ => rfl
  have F_sooner := fun_mk (st := d_sooner) l_sooner c_sooner k_sooner
  have m_sooner := PySem.W.mg_of X G a_sooner
  have b_sooner := F_sooner.binds (ps := ["one", "other"]) fun _ _ _ _ _ _ us hl => match us, hl with | [_, _], _ => rfl
  have F_beside := fun_mk (st := d_beside) l_beside c_beside k_beside
  have m_beside := PySem.W.mg_of X G a_beside
  have b_beside := F_beside.binds (ps := ["one", "other"]) fun _ _ _ _ _ _ us hl => match us, hl with | [_, _], _ => rfl
  have F_round_of := fun_mk (st := d_round_of) l_round_of c_round_of k_round_of
  have m_round_of := PySem.W.mg_of X G a_round_of
  have b_round_of := F_round_of.binds (ps := ["spans"]) fun _ _ _ _ _ _ us hl => match us, hl with | [_], _ => rfl
  have F_last_unlike_in := fun_mk (st := d_last_unlike_in) l_last_unlike_in c_last_unlike_in k_last_unlike_in
  have m_last_unlike_in := PySem.W.mg_of X G a_last_unlike_in
  have b_last_unlike_in := F_last_unlike_in.binds (ps := ["one", "other", "begin", "stop"]) fun _ _ _ _ _ _ us hl => match us, hl with | [_, _, _, _], _ => rfl
  have F_are_stretches := fun_mk (st := d_are_stretches) l_are_stretches c_are_stretches k_are_stretches
  have m_are_stretches := PySem.W.mg_of X G a_are_stretches
  have b_are_stretches := F_are_stretches.binds (ps := ["things"]) fun _ _ _ _ _ _ us hl => match us, hl with | [_], _ => rfl
  have F_is_stretch := fun_mk (st := d_is_stretch) l_is_stretch c_is_stretch k_is_stretch
  have m_is_stretch := PySem.W.mg_of X G a_is_stretch
  have b_is_stretch := F_is_stretch.binds (ps := ["thing"]) fun _ _ _ _ _ _ us hl => match us, hl with | [_], _ => rfl
  have F_is_word := fun_mk (st := d_is_word) l_is_word c_is_word k_is_word
  have m_is_word := PySem.W.mg_of X G a_is_word
  have b_is_word := F_is_word.binds (ps := ["thing"]) fun _ _ _ _ _ _ us hl => match us, hl with | [_], _ => rfl
  have F_course_of := fun_mk (st := d_course_of) l_course_of c_course_of k_course_of
  have m_course_of := PySem.W.mg_of X G a_course_of
  have b_course_of := F_course_of.binds (ps := ["spans"]) fun _ _ _ _ _ _ us hl => match us, hl with | [_], _ => rfl
  have F_first_unlike := fun_mk (st := d_first_unlike) l_first_unlike c_first_unlike k_first_unlike
  have m_first_unlike := PySem.W.mg_of X G a_first_unlike
  have b_first_unlike := F_first_unlike.binds (ps := ["one", "other"]) fun _ _ _ _ _ _ us hl => match us, hl with | [_, _], _ => rfl
  have F_end := fun_mk (st := d_end) l_end c_end k_end
  have m_end := PySem.W.mg_of X G a_end
  have b_end := F_end.binds (ps := ["course"]) fun _ _ _ _ _ _ us hl => match us, hl with | [_], _ => rfl
  have F_later := fun_mk (st := d_later) l_later c_later k_later
  have m_later := PySem.W.mg_of X G a_later
  have b_later := F_later.binds (ps := ["course", "days"]) fun _ _ _ _ _ _ us hl => match us, hl with | [_, _], _ => rfl
  have F_law_well := fun_mk (st := d_law_well) l_law_well c_law_well k_law_well
  have m_law_well := PySem.W.mg_of X G a_law_well
  have b_law_well := F_law_well.binds (ps := ["cell"]) fun _ _ _ _ _ _ us hl => match us, hl with | [_], _ => rfl
  have F_law_draw := fun_mk (st := d_law_draw) l_law_draw c_law_draw k_law_draw
  have m_law_draw := PySem.W.mg_of X G a_law_draw
  have b_law_draw := F_law_draw.binds (ps := ["well", "many"]) fun _ _ _ _ _ _ us hl => match us, hl with | [_, _], _ => rfl
  have F_law_one := fun_mk (st := d_law_one) l_law_one c_law_one k_law_one
  have m_law_one := PySem.W.mg_of X G a_law_one
  have b_law_one := F_law_one.binds (ps := ["well", "some"]) fun _ _ _ _ _ _ us hl => match us, hl with | [_, _], _ => rfl
  have F_law_low := fun_mk (st := d_law_low) l_law_low c_law_low k_law_low
  have m_law_low := PySem.W.mg_of X G a_law_low
  have b_law_low := F_law_low.binds (ps := ["top", "bottom"]) fun _ _ _ _ _ _ us hl => match us, hl with | [_, _], _ => rfl
  have F_law_word := fun_mk (st := d_law_word) l_law_word c_law_word k_law_word
  have m_law_word := PySem.W.mg_of X G a_law_word
  have b_law_word := F_law_word.binds (ps := ["well", "most", "far"]) fun _ _ _ _ _ _ us hl => match us, hl with | [_, _, _], _ => rfl
  have F_law_course := fun_mk (st := d_law_course) l_law_course c_law_course k_law_course
  have m_law_course := PySem.W.mg_of X G a_law_course
  have b_law_course := F_law_course.binds (ps := ["told"]) fun _ _ _ _ _ _ us hl => match us, hl with | [_], _ => rfl
  have F_law_on := fun_mk (st := d_law_on) l_law_on c_law_on k_law_on
  have m_law_on := PySem.W.mg_of X G a_law_on
  have b_law_on := F_law_on.binds (ps := ["told", "day"]) fun _ _ _ _ _ _ us hl => match us, hl with | [_, _], _ => rfl
  have F_law_round := fun_mk (st := d_law_round) l_law_round c_law_round k_law_round
  have m_law_round := PySem.W.mg_of X G a_law_round
  have b_law_round := F_law_round.binds (ps := ["word"]) fun _ _ _ _ _ _ us hl => match us, hl with | [_], _ => rfl
  have F_law_ahead := fun_mk (st := d_law_ahead) l_law_ahead c_law_ahead k_law_ahead
  have m_law_ahead := PySem.W.mg_of X G a_law_ahead
  have b_law_ahead := F_law_ahead.binds (ps := ["well", "word"]) fun _ _ _ _ _ _ us hl => match us, hl with | [_, _], _ => rfl
  have F_law_end := fun_mk (st := d_law_end) l_law_end c_law_end k_law_end
  have m_law_end := PySem.W.mg_of X G a_law_end
  have b_law_end := F_law_end.binds (ps := ["told"]) fun _ _ _ _ _ _ us hl => match us, hl with | [_], _ => rfl
  have F_law_plain := fun_mk (st := d_law_plain) l_law_plain c_law_plain k_law_plain
  have m_law_plain := PySem.W.mg_of X G a_law_plain
  have b_law_plain := F_law_plain.binds (ps := ["told", "long"]) fun _ _ _ _ _ _ us hl => match us, hl with | [_, _], _ => rfl
  have F_law := fun_mk (st := d_law) l_law c_law k_law
  have m_law := PySem.W.mg_of X G a_law
  refine ⟨PySem.W.fnOf "law" "law" (defArgs d_law) (defBody d_law) (defScope d_law) .none kV_law dc_law pm_law an_law cd_law ct_law, fun s v => .of_eq rfl, fun base _ _ => ?_⟩
  have T : Txt K mg cShare cNoShare := ⟨⟨pgcShare, hdcShare, pocShare, sacShare⟩, ncShare_top, ncShare_bottom, mcShare, i_gcd, z_isinstance, z_int, z_bool, mcNoShare, xcNoShare, kcNoShare, bcNoShare, tcNoShare, exm_own bcNoShare icNoShare tcNoShare scNoShare⟩
  have TI : TxtI K cShare := ⟨gccShare, gs, gt, gmcShare, mecShare, mcShare_tuple, mcShare_int, mcShare_NoneType⟩
  have Bt : TxtB mg := ⟨z_int, z_len, z_abs⟩
  have Yt : TxtY mg cShare := ⟨z_isinstance, z_tuple, z_list, z_all, z_any, z_len, mcShare⟩
  have TC : CrsC K cCourse := ⟨⟨pgcCourse, hdcCourse, pocCourse, sacCourse⟩, ncCourse_spans⟩
  have M : Mk K cShare f_Share_init := ⟨mkcShare, a_Share_init, i_Share_init, kccShare⟩
  have MC : Mk K cCourse f_Course_init := ⟨mkcCourse, a_Course_init, i_Course_init, kccCourse⟩
  have GW := ok_whole (P := P) (w := w) (mg := mg) (base := base) F_is_whole T
  have GI := ok_init (P := P) (w := w) (mg := mg) (base := base) F_Share_init T GW m_is_whole k_is_whole b_is_whole
  have GE := ok_eq (P := P) (w := w) (mg := mg) (base := base) F_Share_eq T TI
  have GWX := ok_wholeX (P := P) (w := w) (mg := mg) (base := base) F_is_whole z_isinstance z_int z_bool
  have GBw := ok_between (P := P) (w := w) (mg := mg) (base := base) F_is_between GWX m_is_whole k_is_whole b_is_whole
  have GDay := ok_day (P := P) (w := w) (mg := mg) (base := base) F_is_day GBw m_is_between k_is_between b_is_between g_LAST_DAY
  have GLe := ok_least (P := P) (w := w) (mg := mg) (base := base) F_least_word Bt z_range GE b_Share_eq a_Share_eq i_Share_eq
  have GSp := ok_spans (P := P) (w := w) (mg := mg) (base := base) F_spans_of GLe m_least_word k_least_word b_least_word
  have GSh := ok_share_on (P := P) (w := w) (mg := mg) (base := base) (C := cShare) F_share_on Bt
  have GWd := ok_wordG (P := P) (w := w) (mg := mg) (base := base) F_is_word Yt T TI g_MOST_SHARES
  have GSt := ok_strG (P := P) (w := w) (mg := mg) (base := base) F_is_stretch Yt GWd m_is_word k_is_word b_is_word GWX m_is_whole k_is_whole b_is_whole
  have GAr := ok_areG (P := P) (w := w) (mg := mg) (base := base) F_are_stretches Yt g_MOST_STRETCHES GSt m_is_stretch k_is_stretch b_is_stretch
  have GCi := ok_cinit (P := P) (w := w) (mg := mg) (base := base) F_Course_init TC ErNoCourse GAr m_are_stretches k_are_stretches b_are_stretches GSp m_spans_of k_spans_of b_spans_of
  have GLu := ok_lastU (P := P) (w := w) (mg := mg) (base := base) F_last_unlike_in Bt z_max z_range ⟨GSh, m_share_on, k_share_on, b_share_on⟩ GE b_Share_eq a_Share_eq i_Share_eq ecShare ocShare
  have GRo := ok_round (P := P) (w := w) (mg := mg) (base := base) F_round_of Bt z_reversed ⟨GLu, m_last_unlike_in, k_last_unlike_in, b_last_unlike_in⟩
  have GEn := ok_end (P := P) (w := w) (mg := mg) (base := base) F_end TC ⟨GRo, m_round_of, k_round_of, b_round_of⟩
  have GWf := ok_wfrom (P := P) (w := w) (mg := mg) (base := base) (C := cShare) F_word_from Bt
  have GCo := ok_crsof (P := P) (w := w) (mg := mg) (base := base) F_course_of T TC M GI b_Share_init2 rd_Share_init2 mcCourse MC GCi b_Course_init
  have GLa := ok_later (P := P) (w := w) (mg := mg) (base := base) (CD := cCourse) F_later TC z_max ⟨GDay, m_is_day, k_is_day, b_is_day⟩ ⟨GWf, m_word_from, k_word_from, b_word_from⟩ ⟨GSp, m_spans_of, k_spans_of, b_spans_of⟩ ⟨GCo, m_course_of, k_course_of, b_course_of⟩
  have GDr := ok_draw (P := P) (w := w) (mg := mg) (base := base) F_law_draw
  have GWe := ok_well (P := P) (w := w) (mg := mg) (base := base) F_law_well Bt
  have GO1 := ok_one (P := P) (w := w) (mg := mg) (base := base) F_law_one Bt GDr m_law_draw k_law_draw b_law_draw
  have GLo := ok_low (P := P) (w := w) (mg := mg) (base := base) F_law_low Bt
  have GLon := ok_lon (P := P) (w := w) (mg := mg) (base := base) F_law_on Bt
  have GLw := ok_lword (P := P) (w := w) (mg := mg) (base := base) F_law_word z_range GDr m_law_draw k_law_draw b_law_draw GO1 m_law_one k_law_one b_law_one GLo m_law_low k_law_low b_law_low
  have GLc := ok_lcrs (P := P) (w := w) (mg := mg) (base := base) F_law_course T z_tuple M GI b_Share_init3 mcCourse MC GCi b_Course_init
  have GRn := ok_lround (P := P) (w := w) (mg := mg) (base := base) F_law_round Bt z_range
  have GAh := ok_ahead (P := P) (w := w) (mg := mg) (base := base) F_law_ahead Bt z_range ⟨GDr, m_law_draw, k_law_draw, b_law_draw⟩ ⟨GO1, m_law_one, k_law_one, b_law_one⟩ ⟨GLw, m_law_word, k_law_word, b_law_word⟩
  have GLE := ok_lend (P := P) (w := w) (mg := mg) (base := base) F_law_end Bt z_range z_sum z_max ⟨GRn, m_law_round, k_law_round, b_law_round⟩
  have GPl := ok_plain (P := P) (w := w) (mg := mg) (base := base) F_law_plain Bt z_range ⟨GLon, m_law_on, k_law_on, b_law_on⟩
  exact ok_law F_law z_range z_sum z_max ⟨GWe, m_law_well, k_law_well, b_law_well⟩ ⟨GLw, m_law_word, k_law_word, b_law_word⟩ ⟨GO1, m_law_one, k_law_one, b_law_one⟩ ⟨GDr, m_law_draw, k_law_draw, b_law_draw⟩ ⟨GAh, m_law_ahead, k_law_ahead, b_law_ahead⟩ ⟨GLE, m_law_end, k_law_end, b_law_end⟩ ⟨GLc, m_law_course, k_law_course, b_law_course⟩ ⟨GEn, m_end, k_end, b_end⟩ ⟨GPl, m_law_plain, k_law_plain, b_law_plain⟩ ⟨GLa, m_later, k_later, b_later⟩
theorem walk {l : PySem.W.OpenLaw} {q : Program} {loose : List Str} {XP : (Str → Option Value) → Heap → Prop} {YP : World → Heap → Prop} {d : DefRec} {K : Params → PySem.W.Frag} (hn : l.most = some 63) (hdf : d.params.defaults = [])
    (hY : ∀ (w : World) (h : Heap), YP w h → (K w.params).In h)
    (F : ∀ (w : World) (mg : Str → Option Value) (fa : Addr) (h : Heap), (K w.params).In h → h.Ns mainGlobals mg → mg d.name = some (.ref fa) →
      ∃ fd : FuncData, (∀ (s : Shared) (u : Value), BindsTo s fd ⟨[u], []⟩ [("script", u)]) ∧ ∀ base : Heap, (K w.params).In base → base.Ns mainGlobals mg → FnOk l.prog w (K w.params) mg base CX0 9 fa fd ["script"] (spLaw (K w.params))) :
    PySem.W.WalkO q loose XP YP l.row.toRowW d [] (fun f vs => PySem.call f vs) :=
  walk_of (n := 63) (k := 9) (x := "script") (CX := fun _ => CX0) (sp := fun w => spLaw (K w.params)) hn (by decide) hdf ⟨rfl, by decide, by decide⟩ hY F (fun _ _ a ns hl _ hS => law_told hl hS) (fun _ _ _ _ _ z => z)
end K13

open PySem PySem.W PyProof.Rows in
set_option maxRecDepth 100000 in
set_option maxHeartbeats 0 in
theorem PySem.Challenge.cw_rillweb_k13_ends_of_courses_holds : PySem.Challenge.rw_rillweb_k13_ends_of_courses.Holds := by
  w_on; o_law; k_head; (case hw => w_witness2)
  k_fill
  refine K13.walk (l := PySem.Challenge.rw_rillweb_k13_ends_of_courses) rfl rfl (fun w h Y => PySem.W.kIn_of Y) ?F
  case F =>
    intro w mg fa h KX G hmg
    refine' K13.all_mk KX G hmg ?z_ValueError ?z_abs ?z_all ?z_any ?z_bool ?z_int ?z_isinstance ?z_len ?z_list ?z_max ?z_min ?z_range ?z_reversed ?z_sum ?z_tuple ?i_gcd ?g_LAST_DAY ?g_MOST_STRETCHES ?g_MOST_SHARES ?acRillError ?xcRillError ?kcRillError ?bcRillError ?tcRillError ?icRillError ?scRillError ?acNoShare ?xcNoShare ?kcNoShare ?bcNoShare ?tcNoShare ?icNoShare ?scNoShare ?acNoCourse ?xcNoCourse ?kcNoCourse ?bcNoCourse ?tcNoCourse ?icNoCourse ?scNoCourse ?acNoDay ?xcNoDay ?kcNoDay ?bcNoDay ?tcNoDay ?icNoDay ?scNoDay ?acShare ?pgcShare ?hdcShare ?pocShare ?sacShare ?mkcShare ?kccShare ?ncShare_bottom ?ncShare_top ?gccShare ?gmcShare ?mecShare ?mcShare_tuple ?ucShare_tuple ?mcShare_int ?ucShare_int ?mcShare_NoneType ?mcShare_list ?ucShare_list ?mcShare_str ?mcShare_bool ?ucShare_bool ?mcShare_dict ?ecShare ?ocShare ?wcShare_tuple ?ycShare_tuple ?wcShare_int ?ycShare_int ?wcShare_NoneType ?ycShare_NoneType ?wcShare_list ?ycShare_list ?wcShare_str ?ycShare_str ?wcShare_bool ?ycShare_bool ?wcShare_dict ?ycShare_dict ?a_Share_init ?i_Share_init ?l_Share_init ?c_Share_init ?k_Share_init ?lTD_Share_init ?a_Share_eq ?i_Share_eq ?l_Share_eq ?c_Share_eq ?k_Share_eq ?acCourse ?pgcCourse ?hdcCourse ?pocCourse ?sacCourse ?mkcCourse ?kccCourse ?ncCourse_spans ?gccCourse ?gmcCourse ?mecCourse ?mcCourse_tuple ?ucCourse_tuple ?mcCourse_int ?ucCourse_int ?mcCourse_NoneType ?mcCourse_list ?ucCourse_list ?mcCourse_str ?mcCourse_bool ?ucCourse_bool ?mcCourse_dict ?ecCourse ?ocCourse ?wcCourse_tuple ?ycCourse_tuple ?wcCourse_int ?ycCourse_int ?wcCourse_NoneType ?ycCourse_NoneType ?wcCourse_list ?ycCourse_list ?wcCourse_str ?ycCourse_str ?wcCourse_bool ?ycCourse_bool ?wcCourse_dict ?ycCourse_dict ?a_Course_init ?i_Course_init ?l_Course_init ?c_Course_init ?k_Course_init ?a_Course_eq ?i_Course_eq ?l_Course_eq ?c_Course_eq ?k_Course_eq ?jShare_Course ?vShare_Course ?jCourse_Share ?vCourse_Share ?a_is_whole ?l_is_whole ?c_is_whole ?k_is_whole ?a_is_between ?l_is_between ?c_is_between ?k_is_between ?a_is_day ?l_is_day ?c_is_day ?k_is_day ?a_least_word ?l_least_word ?c_least_word ?k_least_word ?a_spans_of ?l_spans_of ?c_spans_of ?k_spans_of ?a_share_on ?l_share_on ?c_share_on ?k_share_on ?a_word_from ?l_word_from ?c_word_from ?k_word_from ?a_sooner ?l_sooner ?c_sooner ?k_sooner ?a_beside ?l_beside ?c_beside ?k_beside ?a_round_of ?l_round_of ?c_round_of ?k_round_of ?a_last_unlike_in ?l_last_unlike_in ?c_last_unlike_in ?k_last_unlike_in ?a_are_stretches ?l_are_stretches ?c_are_stretches ?k_are_stretches ?a_is_stretch ?l_is_stretch ?c_is_stretch ?k_is_stretch ?a_is_word ?l_is_word ?c_is_word ?k_is_word ?a_course_of ?l_course_of ?c_course_of ?k_course_of ?a_first_unlike ?l_first_unlike ?c_first_unlike ?k_first_unlike ?a_end ?l_end ?c_end ?k_end ?a_later ?l_later ?c_later ?k_later ?a_law_well ?l_law_well ?c_law_well ?k_law_well ?a_law_draw ?l_law_draw ?c_law_draw ?k_law_draw ?a_law_one ?l_law_one ?c_law_one ?k_law_one ?a_law_low ?l_law_low ?c_law_low ?k_law_low ?a_law_word ?l_law_word ?c_law_word ?k_law_word ?a_law_course ?l_law_course ?c_law_course ?k_law_course ?a_law_on ?l_law_on ?c_law_on ?k_law_on ?a_law_round ?l_law_round ?c_law_round ?k_law_round ?a_law_ahead ?l_law_ahead ?c_law_ahead ?k_law_ahead ?a_law_end ?l_law_end ?c_law_end ?k_law_end ?a_law_plain ?l_law_plain ?c_law_plain ?k_law_plain ?a_law ?l_law ?c_law ?k_law ?gs ?gt
    (case z_ValueError => k_is)
    (case z_abs => k_is)
    (case z_all => k_is)
    (case z_any => k_is)
    (case z_bool => k_is)
    (case z_int => k_is)
    (case z_isinstance => k_is)
    (case z_len => k_is)
    (case z_list => k_is)
    (case z_max => k_is)
    (case z_min => k_is)
    (case z_range => k_is)
    (case z_reversed => k_is)
    (case z_sum => k_is)
    (case z_tuple => k_is)
    (case i_gcd => k_is)
    (case g_LAST_DAY => k_is)
    (case g_MOST_STRETCHES => k_is)
    (case g_MOST_SHARES => k_is)
    (case acRillError => k_is)
    (case xcRillError => k_exc)
    (case kcRillError => k_is)
    (case bcRillError => k_is)
    (case tcRillError => k_is)
    (case icRillError => k_is)
    (case scRillError => first | rfl | k_is)
    (case acNoShare => k_is)
    (case xcNoShare => k_exc)
    (case kcNoShare => k_is)
    (case bcNoShare => k_is)
    (case tcNoShare => k_is)
    (case icNoShare => k_is)
    (case scNoShare => first | rfl | k_is)
    (case acNoCourse => k_is)
    (case xcNoCourse => k_exc)
    (case kcNoCourse => k_is)
    (case bcNoCourse => k_is)
    (case tcNoCourse => k_is)
    (case icNoCourse => k_is)
    (case scNoCourse => first | rfl | k_is)
    (case acNoDay => k_is)
    (case xcNoDay => k_exc)
    (case kcNoDay => k_is)
    (case bcNoDay => k_is)
    (case tcNoDay => k_is)
    (case icNoDay => k_is)
    (case scNoDay => first | rfl | k_is)
    (case acShare => k_is)
    (case pgcShare => k_is)
    (case hdcShare => k_is)
    (case pocShare => k_is)
    (case sacShare => k_is)
    (case mkcShare => k_is)
    (case kccShare => k_is)
    (case ncShare_bottom => k_is)
    (case ncShare_top => k_is)
    (case gccShare => k_is)
    (case gmcShare => k_is)
    (case mecShare => first | rfl | k_is)
    (case mcShare_tuple => first | rfl | k_is)
    (case ucShare_tuple => first | rfl | k_is)
    (case mcShare_int => first | rfl | k_is)
    (case ucShare_int => first | rfl | k_is)
    (case mcShare_NoneType => first | rfl | k_is)
    (case mcShare_list => first | rfl | k_is)
    (case ucShare_list => first | rfl | k_is)
    (case mcShare_str => first | rfl | k_is)
    (case mcShare_bool => first | rfl | k_is)
    (case ucShare_bool => first | rfl | k_is)
    (case mcShare_dict => first | rfl | k_is)
    (case ecShare => k_is)
    (case ocShare => first | rfl | k_is)
    (case wcShare_tuple => first | rfl | k_is)
    (case ycShare_tuple => first | rfl | k_is)
    (case wcShare_int => first | rfl | k_is)
    (case ycShare_int => first | rfl | k_is)
    (case wcShare_NoneType => first | rfl | k_is)
    (case ycShare_NoneType => first | rfl | k_is)
    (case wcShare_list => first | rfl | k_is)
    (case ycShare_list => first | rfl | k_is)
    (case wcShare_str => first | rfl | k_is)
    (case ycShare_str => first | rfl | k_is)
    (case wcShare_bool => first | rfl | k_is)
    (case ycShare_bool => first | rfl | k_is)
    (case wcShare_dict => first | rfl | k_is)
    (case ycShare_dict => first | rfl | k_is)
    (case a_Share_init => k_is)
    (case i_Share_init => k_is)
    (case l_Share_init => k_is)
    (case c_Share_init => k_is)
    (case k_Share_init => k_is)
    (case lTD_Share_init => k_is)
    (case a_Share_eq => k_is)
    (case i_Share_eq => k_is)
    (case l_Share_eq => k_is)
    (case c_Share_eq => k_is)
    (case k_Share_eq => k_is)
    (case acCourse => k_is)
    (case pgcCourse => k_is)
    (case hdcCourse => k_is)
    (case pocCourse => k_is)
    (case sacCourse => k_is)
    (case mkcCourse => k_is)
    (case kccCourse => k_is)
    (case ncCourse_spans => k_is)
    (case gccCourse => k_is)
    (case gmcCourse => k_is)
    (case mecCourse => first | rfl | k_is)
    (case mcCourse_tuple => first | rfl | k_is)
    (case ucCourse_tuple => first | rfl | k_is)
    (case mcCourse_int => first | rfl | k_is)
    (case ucCourse_int => first | rfl | k_is)
    (case mcCourse_NoneType => first | rfl | k_is)
    (case mcCourse_list => first | rfl | k_is)
    (case ucCourse_list => first | rfl | k_is)
    (case mcCourse_str => first | rfl | k_is)
    (case mcCourse_bool => first | rfl | k_is)
    (case ucCourse_bool => first | rfl | k_is)
    (case mcCourse_dict => first | rfl | k_is)
    (case ecCourse => k_is)
    (case ocCourse => first | rfl | k_is)
    (case wcCourse_tuple => first | rfl | k_is)
    (case ycCourse_tuple => first | rfl | k_is)
    (case wcCourse_int => first | rfl | k_is)
    (case ycCourse_int => first | rfl | k_is)
    (case wcCourse_NoneType => first | rfl | k_is)
    (case ycCourse_NoneType => first | rfl | k_is)
    (case wcCourse_list => first | rfl | k_is)
    (case ycCourse_list => first | rfl | k_is)
    (case wcCourse_str => first | rfl | k_is)
    (case ycCourse_str => first | rfl | k_is)
    (case wcCourse_bool => first | rfl | k_is)
    (case ycCourse_bool => first | rfl | k_is)
    (case wcCourse_dict => first | rfl | k_is)
    (case ycCourse_dict => first | rfl | k_is)
    (case a_Course_init => k_is)
    (case i_Course_init => k_is)
    (case l_Course_init => k_is)
    (case c_Course_init => k_is)
    (case k_Course_init => k_is)
    (case a_Course_eq => k_is)
    (case i_Course_eq => k_is)
    (case l_Course_eq => k_is)
    (case c_Course_eq => k_is)
    (case k_Course_eq => k_is)
    (case jShare_Course => first | rfl | k_is)
    (case vShare_Course => first | rfl | k_is)
    (case jCourse_Share => first | rfl | k_is)
    (case vCourse_Share => first | rfl | k_is)
    (case a_is_whole => k_is)
    (case l_is_whole => k_is)
    (case c_is_whole => k_is)
    (case k_is_whole => k_is)
    (case a_is_between => k_is)
    (case l_is_between => k_is)
    (case c_is_between => k_is)
    (case k_is_between => k_is)
    (case a_is_day => k_is)
    (case l_is_day => k_is)
    (case c_is_day => k_is)
    (case k_is_day => k_is)
    (case a_least_word => k_is)
    (case l_least_word => k_is)
    (case c_least_word => k_is)
    (case k_least_word => k_is)
    (case a_spans_of => k_is)
    (case l_spans_of => k_is)
    (case c_spans_of => k_is)
    (case k_spans_of => k_is)
    (case a_share_on => k_is)
    (case l_share_on => k_is)
    (case c_share_on => k_is)
    (case k_share_on => k_is)
    (case a_word_from => k_is)
    (case l_word_from => k_is)
    (case c_word_from => k_is)
    (case k_word_from => k_is)
    (case a_sooner => k_is)
    (case l_sooner => k_is)
    (case c_sooner => k_is)
    (case k_sooner => k_is)
    (case a_beside => k_is)
    (case l_beside => k_is)
    (case c_beside => k_is)
    (case k_beside => k_is)
    (case a_round_of => k_is)
    (case l_round_of => k_is)
    (case c_round_of => k_is)
    (case k_round_of => k_is)
    (case a_last_unlike_in => k_is)
    (case l_last_unlike_in => k_is)
    (case c_last_unlike_in => k_is)
    (case k_last_unlike_in => k_is)
    (case a_are_stretches => k_is)
    (case l_are_stretches => k_is)
    (case c_are_stretches => k_is)
    (case k_are_stretches => k_is)
    (case a_is_stretch => k_is)
    (case l_is_stretch => k_is)
    (case c_is_stretch => k_is)
    (case k_is_stretch => k_is)
    (case a_is_word => k_is)
    (case l_is_word => k_is)
    (case c_is_word => k_is)
    (case k_is_word => k_is)
    (case a_course_of => k_is)
    (case l_course_of => k_is)
    (case c_course_of => k_is)
    (case k_course_of => k_is)
    (case a_first_unlike => k_is)
    (case l_first_unlike => k_is)
    (case c_first_unlike => k_is)
    (case k_first_unlike => k_is)
    (case a_end => k_is)
    (case l_end => k_is)
    (case c_end => k_is)
    (case k_end => k_is)
    (case a_later => k_is)
    (case l_later => k_is)
    (case c_later => k_is)
    (case k_later => k_is)
    (case a_law_well => k_is)
    (case l_law_well => k_is)
    (case c_law_well => k_is)
    (case k_law_well => k_is)
    (case a_law_draw => k_is)
    (case l_law_draw => k_is)
    (case c_law_draw => k_is)
    (case k_law_draw => k_is)
    (case a_law_one => k_is)
    (case l_law_one => k_is)
    (case c_law_one => k_is)
    (case k_law_one => k_is)
    (case a_law_low => k_is)
    (case l_law_low => k_is)
    (case c_law_low => k_is)
    (case k_law_low => k_is)
    (case a_law_word => k_is)
    (case l_law_word => k_is)
    (case c_law_word => k_is)
    (case k_law_word => k_is)
    (case a_law_course => k_is)
    (case l_law_course => k_is)
    (case c_law_course => k_is)
    (case k_law_course => k_is)
    (case a_law_on => k_is)
    (case l_law_on => k_is)
    (case c_law_on => k_is)
    (case k_law_on => k_is)
    (case a_law_round => k_is)
    (case l_law_round => k_is)
    (case c_law_round => k_is)
    (case k_law_round => k_is)
    (case a_law_ahead => k_is)
    (case l_law_ahead => k_is)
    (case c_law_ahead => k_is)
    (case k_law_ahead => k_is)
    (case a_law_end => k_is)
    (case l_law_end => k_is)
    (case c_law_end => k_is)
    (case k_law_end => k_is)
    (case a_law_plain => k_is)
    (case l_law_plain => k_is)
    (case c_law_plain => k_is)
    (case k_law_plain => k_is)
    (case a_law => k_is)
    (case l_law => k_is)
    (case c_law => k_is)
    (case k_law => k_is)
    (case gs => first | rfl | k_is)
    (case gt => first | rfl | k_is)
