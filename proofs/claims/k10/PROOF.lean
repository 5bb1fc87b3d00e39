import PyProof.Rows.All
import Wide.All
import OpenK.AllK
import Wide.FinOn
import HandS.ForMost
import HandS.Walk
import HandS.ForExc
import HandS.ExcInit
import HandS.ExcIs
import HandS.ExcValue
import HandS.Wide
import HandS.Gcd
import HandS.IsInst
import HandS.Defaults
import HandS.Codes
import HandS.OwnEq
import HandS.Lambda
import KE.KExcIs
import KE.GoesMore
import HandS.Style
import HandS.TryMany
import HandS.EndTab
import PySem.Challenge.RW_rillweb_k10_courses_told
set_option Elab.async false
set_option linter.all false
set_option maxRecDepth 100000
set_option maxHeartbeats 2000000
set_option exponentiation.threshold 20000
namespace K10
open PySem PySem.Spec PyProof.Rows L2
def top (i : Nat) : Stmt := PySem.Challenge.pw_rillweb_k10_courses_told.main.body.getD i (.Pass ⟨0, 0, 0, 0⟩)
abbrev d_is_whole : Stmt := top 8
abbrev d_is_between : Stmt := top 9
abbrev d_is_day : Stmt := top 10
abbrev d_Share_init : Stmt := inClass (top 12) 0
abbrev d_Share_eq : Stmt := inClass (top 12) 1
abbrev d_total : Stmt := top 13
abbrev d_least_word : Stmt := top 17
abbrev d_spans_of : Stmt := top 18
abbrev d_number_on : Stmt := top 19
abbrev d_share_on : Stmt := top 20
abbrev d_sooner : Stmt := top 21
abbrev d_beside : Stmt := top 22
abbrev d_Course_init : Stmt := inClass (top 24) 0
abbrev d_Course_eq : Stmt := inClass (top 24) 1
abbrev d_are_stretches : Stmt := top 25
abbrev d_is_stretch : Stmt := top 26
abbrev d_is_word : Stmt := top 27
abbrev d_on : Stmt := top 28
abbrev d_sum_to : Stmt := top 29
abbrev d_first_unlike : Stmt := top 30
abbrev d_law_cell_at : Stmt := top 32
abbrev d_law_well : Stmt := top 33
abbrev d_law_draw : Stmt := top 34
abbrev d_law_one : Stmt := top 35
abbrev d_law_low : Stmt := top 36
abbrev d_law_pair : Stmt := top 37
abbrev d_law_sum : Stmt := top 38
abbrev d_law_by : Stmt := top 39
abbrev d_law_word : Stmt := top 40
abbrev d_law_stretches : Stmt := top 41
abbrev d_law_course : Stmt := top 42
abbrev d_law_on : Stmt := top 43
abbrev d_law_great : Stmt := top 44
abbrev d_law_sum_to : Stmt := top 45
abbrev d_law_refused : Stmt := top 46
abbrev d_law_spots : Stmt := top 47
abbrev d_law : Stmt := top 48
end K10
namespace K10
/-- the common part of two whole numbers, with the sign of the second -/
def sg (a b : Int) : Int := if b < 0 then -((Nat.gcd a.natAbs b.natAbs : Nat) : Int) else ((Nat.gcd a.natAbs b.natAbs : Nat) : Int)
/-- the top and the bottom in lowest terms -/
def lowT (a b : Int) : Int := a.fdiv (sg a b)
def lowB (a b : Int) : Int := b.fdiv (sg a b)

theorem gcd_pos {a b : Int} (hb : b ≠ 0) : 0 < Nat.gcd a.natAbs b.natAbs := Nat.gcd_pos_of_pos_right _ (by omega)
theorem sg_ne {a b : Int} (hb : b ≠ 0) : sg a b ≠ 0 := by
  have := gcd_pos (a := a) hb
  unfold sg
  split <;> omega
theorem sg_dvd_left (a b : Int) : sg a b ∣ a := by
  have h : ((Nat.gcd a.natAbs b.natAbs : Nat) : Int) ∣ a := Int.ofNat_dvd_left.mpr (Nat.gcd_dvd_left _ _)
  unfold sg
  split
  · exact Int.neg_dvd.mpr h
  · exact h
theorem sg_dvd_right (a b : Int) : sg a b ∣ b := by
  have h : ((Nat.gcd a.natAbs b.natAbs : Nat) : Int) ∣ b := Int.ofNat_dvd_left.mpr (Nat.gcd_dvd_right _ _)
  unfold sg
  split
  · exact Int.neg_dvd.mpr h
  · exact h
theorem lowT_mul (a b : Int) : lowT a b * sg a b = a := Int.fdiv_mul_cancel (sg_dvd_left a b)
theorem lowB_mul (a b : Int) : lowB a b * sg a b = b := Int.fdiv_mul_cancel (sg_dvd_right a b)
theorem lowB_pos {a b : Int} (hb : b ≠ 0) : 0 < lowB a b := by
  have h := lowB_mul a b
  have hg := gcd_pos (a := a) hb
  have hs : (0 < b ∧ 0 < sg a b) ∨ (b < 0 ∧ sg a b < 0) := by
    unfold sg
    split <;> omega
  rcases hs with ⟨h1, h2⟩ | ⟨h1, h2⟩
  · rcases Int.lt_trichotomy (lowB a b) 0 with h3 | h3 | h3
    · have := Int.mul_neg_of_neg_of_pos h3 h2
      omega
    · rw [h3] at h; omega
    · exact h3
  · rcases Int.lt_trichotomy (lowB a b) 0 with h3 | h3 | h3
    · have := Int.mul_pos_of_neg_of_neg h3 h2
      omega
    · rw [h3] at h; omega
    · exact h3
theorem sg_abs (a b : Int) : (sg a b).natAbs = Nat.gcd a.natAbs b.natAbs := by
  unfold sg
  split <;> omega
theorem low_coprime {a b : Int} (hb : b ≠ 0) : Nat.gcd (lowT a b).natAbs (lowB a b).natAbs = 1 := by
  have h1 : (lowT a b).natAbs * (sg a b).natAbs = a.natAbs := by rw [← Int.natAbs_mul, lowT_mul]
  have h2 : (lowB a b).natAbs * (sg a b).natAbs = b.natAbs := by rw [← Int.natAbs_mul, lowB_mul]
  have hg := gcd_pos (a := a) hb
  have h3 : Nat.gcd ((lowT a b).natAbs * (sg a b).natAbs) ((lowB a b).natAbs * (sg a b).natAbs) = (sg a b).natAbs := by
    rw [h1, h2, sg_abs]
  rw [Nat.gcd_mul_right] at h3
  rw [sg_abs] at h3
  exact Nat.eq_of_mul_eq_mul_right hg (by rw [h3, Nat.one_mul])
theorem same_of {t b t' b' : Int} (hb : 0 < b) (hb' : 0 < b') (h : t * b' = t' * b) (c : Nat.gcd t.natAbs b.natAbs = 1) (c' : Nat.gcd t'.natAbs b'.natAbs = 1) : t = t' ∧ b = b' := by
  have e : t.natAbs * b'.natAbs = t'.natAbs * b.natAbs := by rw [← Int.natAbs_mul, ← Int.natAbs_mul, h]
  have d1 : b.natAbs ∣ b'.natAbs := by
    have : b.natAbs ∣ t.natAbs * b'.natAbs := ⟨t'.natAbs, by rw [e, Nat.mul_comm]⟩
    exact Nat.Coprime.dvd_of_dvd_mul_left (by rw [Nat.Coprime, Nat.gcd_comm]; exact c) this
  have d2 : b'.natAbs ∣ b.natAbs := by
    have : b'.natAbs ∣ t'.natAbs * b.natAbs := ⟨t.natAbs, by rw [← e, Nat.mul_comm]⟩
    exact Nat.Coprime.dvd_of_dvd_mul_left (by rw [Nat.Coprime, Nat.gcd_comm]; exact c') this
  have eb : b = b' := by
    have := Nat.dvd_antisymm d1 d2
    omega
  refine ⟨?_, eb⟩
  rw [← eb] at h
  exact Int.eq_of_mul_eq_mul_right (by omega) h
/-- fractions of one number have one form -/
theorem low_eq {p q p' q' : Int} (hq : q ≠ 0) (hq' : q' ≠ 0) (h : p * q' = p' * q) : lowT p q = lowT p' q' ∧ lowB p q = lowB p' q' := by
  refine same_of (lowB_pos hq) (lowB_pos hq') ?_ (low_coprime hq) (low_coprime hq')
  have h1 := lowT_mul p q
  have h2 := lowB_mul p q
  have h3 := lowT_mul p' q'
  have h4 := lowB_mul p' q'
  have g1 := sg_ne (a := p) hq
  have g2 := sg_ne (a := p') hq'
  have e : (lowT p q * lowB p' q') * (sg p q * sg p' q') = (lowT p' q' * lowB p q) * (sg p q * sg p' q') := by
    have e1 : (lowT p q * lowB p' q') * (sg p q * sg p' q') = (lowT p q * sg p q) * (lowB p' q' * sg p' q') := by grind
    have e2 : (lowT p' q' * lowB p q) * (sg p q * sg p' q') = (lowT p' q' * sg p' q') * (lowB p q * sg p q) := by grind
    rw [e1, e2, h1, h2, h3, h4, h]
  exact Int.eq_of_mul_eq_mul_right (Int.mul_ne_zero g1 g2) e
theorem low_iff {p q p' q' : Int} (hq : q ≠ 0) (hq' : q' ≠ 0) : (lowT p q = lowT p' q' ∧ lowB p q = lowB p' q') ↔ p * q' = p' * q := by
  refine ⟨fun ⟨h1, h2⟩ => ?_, low_eq hq hq'⟩
  have e1 := lowT_mul p q
  have e2 := lowB_mul p q
  have e3 := lowT_mul p' q'
  have e4 := lowB_mul p' q'
  rw [h1] at e1
  rw [h2] at e2
  rw [← e1, ← e2]
  rw [show p' * (lowB p' q' * sg p q) = (p' * lowB p' q') * sg p q by grind]
  have e5 : lowT p' q' * q' = p' * lowB p' q' := by
    calc lowT p' q' * q' = lowT p' q' * (lowB p' q' * sg p' q') := by rw [e4]
      _ = (lowT p' q' * sg p' q') * lowB p' q' := by grind
      _ = p' * lowB p' q' := by rw [e3]
  rw [← e5]
  grind
/-- already in lowest terms -/
theorem low_self {t b : Int} (hb : 0 < b) (c : Nat.gcd t.natAbs b.natAbs = 1) : lowT t b = t ∧ lowB t b = b :=
  same_of (lowB_pos (by omega)) hb (by
    have h1 := lowT_mul t b
    have h2 := lowB_mul t b
    have g := sg_ne (a := t) (b := b) (by omega)
    have e : (lowT t b * b) * sg t b = (t * lowB t b) * sg t b := by
      calc (lowT t b * b) * sg t b = (lowT t b * sg t b) * b := by grind
        _ = t * b := by rw [h1]
        _ = t * (lowB t b * sg t b) := by rw [h2]
        _ = (t * lowB t b) * sg t b := by grind
    exact Int.eq_of_mul_eq_mul_right g e) (low_coprime (by omega)) c
/-- what is cross-multiplied by lowest terms -/
theorem low_cross {p q : Int} : lowT p q * q = p * lowB p q := by
  have h1 := lowT_mul p q
  have h2 := lowB_mul p q
  calc lowT p q * q = lowT p q * (lowB p q * sg p q) := by rw [h2]
    _ = (lowT p q * sg p q) * lowB p q := by grind
    _ = p * lowB p q := by rw [h1]
/-- order -/
theorem lt_mul_pos {x y k : Int} (hk : 0 < k) : x * k < y * k ↔ x < y := ⟨fun h => Int.lt_of_mul_lt_mul_right h (Int.le_of_lt hk), fun h => Int.mul_lt_mul_of_pos_right h hk⟩
theorem less_low {p q p' q' : Int} (hq : 0 < q) (hq' : 0 < q') : lowT p q * lowB p' q' < lowT p' q' * lowB p q ↔ p * q' < p' * q := by
  have b1 := lowB_pos (a := p) (b := q) (by omega)
  have b2 := lowB_pos (a := p') (b := q') (by omega)
  have c1 := low_cross (p := p) (q := q)
  have c2 := low_cross (p := p') (q := q')
  have hk : 0 < q * q' := Int.mul_pos hq hq'
  have hl : 0 < lowB p q * lowB p' q' := Int.mul_pos b1 b2
  rw [← lt_mul_pos hk, ← lt_mul_pos (x := p * q') hl]
  have e1 : lowT p q * lowB p' q' * (q * q') = p * q' * (lowB p q * lowB p' q') := by
    calc lowT p q * lowB p' q' * (q * q') = (lowT p q * q) * (lowB p' q' * q') := by grind
      _ = (p * lowB p q) * (lowB p' q' * q') := by rw [c1]
      _ = p * q' * (lowB p q * lowB p' q') := by grind
  have e2 : lowT p' q' * lowB p q * (q * q') = p' * q * (lowB p q * lowB p' q') := by
    calc lowT p' q' * lowB p q * (q * q') = (lowT p' q' * q') * (lowB p q * q) := by grind
      _ = (p' * lowB p' q') * (lowB p q * q) := by rw [c2]
      _ = p' * q * (lowB p q * lowB p' q') := by grind
  rw [e1, e2]
theorem lowT_neg {p q : Int} (hq : q ≠ 0) : lowT p q < 0 ↔ p * q < 0 := by
  have b := lowB_pos (a := p) hq
  have h1 := lowT_mul p q
  have h2 := lowB_mul p q
  have g := sg_ne (a := p) hq
  have hs : 0 < sg p q * sg p q := by
    rcases Int.lt_or_gt_of_ne g with h | h
    · exact Int.mul_pos_of_neg_of_neg h h
    · exact Int.mul_pos h h
  have e : p * q = lowT p q * (lowB p q * (sg p q * sg p q)) := by
    calc p * q = (lowT p q * sg p q) * (lowB p q * sg p q) := by rw [h1, h2]
      _ = _ := by grind
  have hk := Int.mul_pos b hs
  have := lt_mul_pos (x := lowT p q) (y := 0) hk
  rw [Int.zero_mul] at this
  rw [e]
  exact this.symm
theorem lowT_pos {p q : Int} (hq : q ≠ 0) : 0 < lowT p q ↔ 0 < p * q := by
  have b := lowB_pos (a := p) hq
  have h1 := lowT_mul p q
  have h2 := lowB_mul p q
  have g := sg_ne (a := p) hq
  have hs : 0 < sg p q * sg p q := by
    rcases Int.lt_or_gt_of_ne g with h | h
    · exact Int.mul_pos_of_neg_of_neg h h
    · exact Int.mul_pos h h
  have e : p * q = lowT p q * (lowB p q * (sg p q * sg p q)) := by
    calc p * q = (lowT p q * sg p q) * (lowB p q * sg p q) := by rw [h1, h2]
      _ = _ := by grind
  have hk := Int.mul_pos b hs
  have := lt_mul_pos (x := 0) (y := lowT p q) hk
  rw [Int.zero_mul] at this
  rw [e]
  exact this.symm

/-! what the law puts beside what the program tells -/
section
variable {a b c d : Int}
theorem val_plus (hb : b ≠ 0) (hd : d ≠ 0) : lowT (lowT a b * lowB c d + lowT c d * lowB a b) (lowB a b * lowB c d) = lowT (a * d + c * b) (b * d) ∧
    lowB (lowT a b * lowB c d + lowT c d * lowB a b) (lowB a b * lowB c d) = lowB (a * d + c * b) (b * d) := by
  have b1 := lowB_pos (a := a) hb
  have b2 := lowB_pos (a := c) hd
  have c1 := low_cross (p := a) (q := b)
  have c2 := low_cross (p := c) (q := d)
  refine low_eq (Int.mul_ne_zero (by omega) (by omega)) (Int.mul_ne_zero hb hd) ?_
  generalize lowT a b = x at *
  generalize lowB a b = y at *
  generalize lowT c d = z at *
  generalize lowB c d = w at *
  grind
theorem val_minus (hb : b ≠ 0) (hd : d ≠ 0) : lowT (lowT a b * lowB c d - lowT c d * lowB a b) (lowB a b * lowB c d) = lowT (a * d - c * b) (b * d) ∧
    lowB (lowT a b * lowB c d - lowT c d * lowB a b) (lowB a b * lowB c d) = lowB (a * d - c * b) (b * d) := by
  have b1 := lowB_pos (a := a) hb
  have b2 := lowB_pos (a := c) hd
  have c1 := low_cross (p := a) (q := b)
  have c2 := low_cross (p := c) (q := d)
  refine low_eq (Int.mul_ne_zero (by omega) (by omega)) (Int.mul_ne_zero hb hd) ?_
  generalize lowT a b = x at *
  generalize lowB a b = y at *
  generalize lowT c d = z at *
  generalize lowB c d = w at *
  grind
theorem val_times (hb : b ≠ 0) (hd : d ≠ 0) : lowT (lowT a b * lowT c d) (lowB a b * lowB c d) = lowT (a * c) (b * d) ∧
    lowB (lowT a b * lowT c d) (lowB a b * lowB c d) = lowB (a * c) (b * d) := by
  have b1 := lowB_pos (a := a) hb
  have b2 := lowB_pos (a := c) hd
  have c1 := low_cross (p := a) (q := b)
  have c2 := low_cross (p := c) (q := d)
  refine low_eq (Int.mul_ne_zero (by omega) (by omega)) (Int.mul_ne_zero hb hd) ?_
  generalize lowT a b = x at *
  generalize lowB a b = y at *
  generalize lowT c d = z at *
  generalize lowB c d = w at *
  grind
theorem lowT_zero (hd : d ≠ 0) : lowT c d = 0 ↔ c = 0 := by
  have h := lowT_mul c d
  have g := sg_ne (a := c) hd
  constructor
  · intro e
    rw [e, Int.zero_mul] at h
    exact h.symm
  · intro e
    rw [e] at h ⊢
    rw [e] at g
    rcases Int.mul_eq_zero.mp h with z | z
    · exact z
    · exact absurd z g
theorem val_over (hb : b ≠ 0) (hd : d ≠ 0) (hc : c ≠ 0) : lowT (lowT a b * lowB c d) (lowB a b * lowT c d) = lowT (a * d) (b * c) ∧
    lowB (lowT a b * lowB c d) (lowB a b * lowT c d) = lowB (a * d) (b * c) := by
  have b1 := lowB_pos (a := a) hb
  have t2 : lowT c d ≠ 0 := fun e => hc ((lowT_zero hd).mp e)
  have c1 := low_cross (p := a) (q := b)
  have c2 := low_cross (p := c) (q := d)
  refine low_eq (Int.mul_ne_zero (by omega) t2) (Int.mul_ne_zero hb hc) ?_
  generalize lowT a b = x at *
  generalize lowB a b = y at *
  generalize lowT c d = z at *
  generalize lowB c d = w at *
  grind
theorem num_less (hb : b ≠ 0) (hd : d ≠ 0) : ((a * d - c * b) * (b * d) < 0 ↔ lowT a b * lowB c d < lowT c d * lowB a b) ∧ (0 < (a * d - c * b) * (b * d) ↔ lowT c d * lowB a b < lowT a b * lowB c d) := by
  have h := val_minus (a := a) (c := c) hb hd
  have b1 := lowB_pos (a := a) hb
  have b2 := lowB_pos (a := c) hd
  have hk : 0 < lowB a b * lowB c d := Int.mul_pos b1 b2
  have k1 := lowT_neg (p := a * d - c * b) (q := b * d) (Int.mul_ne_zero hb hd)
  have k2 := lowT_pos (p := a * d - c * b) (q := b * d) (Int.mul_ne_zero hb hd)
  have k3 := lowT_neg (p := lowT a b * lowB c d - lowT c d * lowB a b) (q := lowB a b * lowB c d) (by omega)
  have k4 := lowT_pos (p := lowT a b * lowB c d - lowT c d * lowB a b) (q := lowB a b * lowB c d) (by omega)
  have m1 := lt_mul_pos (x := lowT a b * lowB c d - lowT c d * lowB a b) (y := 0) hk
  have m2 := lt_mul_pos (x := 0) (y := lowT a b * lowB c d - lowT c d * lowB a b) hk
  rw [Int.zero_mul] at m1 m2
  rw [← k1, ← k2, ← h.1, k3, k4, m1, m2]
  omega
theorem val_less (hb : b ≠ 0) (hd : d ≠ 0) : (lowT (a * d - c * b) (b * d) < 0 ↔ lowT a b * lowB c d < lowT c d * lowB a b) ∧ (0 < lowT (a * d - c * b) (b * d) ↔ lowT c d * lowB a b < lowT a b * lowB c d) := by
  have k1 := lowT_neg (p := a * d - c * b) (q := b * d) (Int.mul_ne_zero hb hd)
  have k2 := lowT_pos (p := a * d - c * b) (q := b * d) (Int.mul_ne_zero hb hd)
  have := num_less (a := a) (c := c) hb hd
  rw [k1, k2]
  exact this
end
section
variable {t1 b1 t2 b2 t3 b3 : Int}
theorem ord_plus (h1 : 0 < b1) (h2 : 0 < b2) (h3 : 0 < b3) :
    lowT (t1 * b3 + t3 * b1) (b1 * b3) * lowB (t2 * b3 + t3 * b2) (b2 * b3) < lowT (t2 * b3 + t3 * b2) (b2 * b3) * lowB (t1 * b3 + t3 * b1) (b1 * b3) ↔ t1 * b2 < t2 * b1 := by
  rw [less_low (Int.mul_pos h1 h3) (Int.mul_pos h2 h3)]
  have hk : 0 < b3 * b3 := Int.mul_pos h3 h3
  rw [← lt_mul_pos (x := t1 * b2) hk]
  have e : (t1 * b3 + t3 * b1) * (b2 * b3) - t1 * b2 * (b3 * b3) = (t2 * b3 + t3 * b2) * (b1 * b3) - t2 * b1 * (b3 * b3) := by grind
  omega
theorem ord_times (h1 : 0 < b1) (h2 : 0 < b2) (h3 : 0 < b3) (ht : 0 < t3) :
    lowT (t1 * t3) (b1 * b3) * lowB (t2 * t3) (b2 * b3) < lowT (t2 * t3) (b2 * b3) * lowB (t1 * t3) (b1 * b3) ↔ t1 * b2 < t2 * b1 := by
  rw [less_low (Int.mul_pos h1 h3) (Int.mul_pos h2 h3)]
  have hk : 0 < t3 * b3 := Int.mul_pos ht h3
  rw [← lt_mul_pos (x := t1 * b2) hk]
  have e1 : t1 * t3 * (b2 * b3) = t1 * b2 * (t3 * b3) := by grind
  have e2 : t2 * t3 * (b1 * b3) = t2 * b1 * (t3 * b3) := by grind
  rw [e1, e2]
theorem ord_turned (h1 : 0 < b1) (h2 : 0 < b2) (h3 : 0 < b3) (ht : t3 < 0) :
    lowT (t2 * t3) (b2 * b3) * lowB (t1 * t3) (b1 * b3) < lowT (t1 * t3) (b1 * b3) * lowB (t2 * t3) (b2 * b3) ↔ t1 * b2 < t2 * b1 := by
  rw [less_low (Int.mul_pos h2 h3) (Int.mul_pos h1 h3)]
  have hk : 0 < (-t3) * b3 := Int.mul_pos (by omega) h3
  rw [← lt_mul_pos (x := t1 * b2) hk]
  have e1 : t2 * t3 * (b1 * b3) = -(t2 * b1 * (-t3 * b3)) := by grind
  have e2 : t1 * t3 * (b2 * b3) = -(t1 * b2 * (-t3 * b3)) := by grind
  rw [e1, e2]
  omega
theorem ord_none (h1 : 0 < b1) (h2 : 0 < b2) (h3 : 0 < b3) (ht : t3 = 0) : lowT (t1 * t3) (b1 * b3) = lowT (t2 * t3) (b2 * b3) ∧ lowB (t1 * t3) (b1 * b3) = lowB (t2 * t3) (b2 * b3) := by
  subst ht
  refine low_eq ?_ ?_ (by simp)
  · have := Int.mul_pos h1 h3
    omega
  · have := Int.mul_pos h2 h3
    omega
end
theorem lowT_one (a : Int) : lowT a 1 = a := by
  have h := lowT_mul a 1
  have e : sg a 1 = 1 := by unfold sg; simp
  rw [e] at h
  omega
theorem lowB_one (a : Int) : lowB a 1 = 1 := by
  have h := lowB_mul a 1
  have e : sg a 1 = 1 := by unfold sg; simp
  rw [e] at h
  omega
/-! sizes -/
theorem lowT_le {a b : Int} (hb : b ≠ 0) : (lowT a b).natAbs ≤ a.natAbs := by
  have h : (lowT a b).natAbs * (sg a b).natAbs = a.natAbs := by rw [← Int.natAbs_mul, lowT_mul]
  have g : 0 < (sg a b).natAbs := by have := sg_ne (a := a) hb; omega
  exact Nat.le_trans (Nat.le_mul_of_pos_right _ g) (Nat.le_of_eq h)
theorem lowB_le {a b : Int} (hb : b ≠ 0) : (lowB a b).natAbs ≤ b.natAbs := by
  have h : (lowB a b).natAbs * (sg a b).natAbs = b.natAbs := by rw [← Int.natAbs_mul, lowB_mul]
  have g : 0 < (sg a b).natAbs := by have := sg_ne (a := a) hb; omega
  exact Nat.le_trans (Nat.le_mul_of_pos_right _ g) (Nat.le_of_eq h)
theorem sg_le {a b : Int} (hb : b ≠ 0) : (sg a b).natAbs ≤ b.natAbs := by
  rw [sg_abs]
  exact Nat.le_of_dvd (by omega) (Nat.gcd_dvd_right _ _)
end K10
namespace K10
open PySem PySem.Spec PyProof.Rows L2
abbrev sWhole : Stmt := d_is_whole
abbrev sInit : Stmt := d_Share_init
abbrev sEq : Stmt := d_Share_eq
/-! ### a share on the heap -/
theorem tb_ : ¬ (("top" : Str) = "bottom") := by decide +kernel
theorem bt_ : ¬ (("bottom" : Str) = "top") := by decide +kernel
def shf (t b : Int) : List (Str × V) := putF "bottom" (.int b) (putF "top" (.int t) [])
theorem shf_top (t b : Int) : (shf t b).lookup ("top" : Str) = some (.int t) := by
  unfold shf
  rw [lookup_putF, if_neg tb_, lookup_putF, if_pos rfl]
theorem shf_bottom (t b : Int) : (shf t b).lookup ("bottom" : Str) = some (.int b) := by
  unfold shf
  rw [lookup_putF, if_pos rfl]
/-- a share t over b stands at p -/
def ShAt (C : Addr) (H : Hp) (p : Addr) (t b : Int) : Prop := ∃ dx, H p = some (.ins C dx (shf t b))
theorem ShAt.mono {C : Addr} {H H' : Hp} {p : Addr} {t b : Int} (h : ShAt C H p t b) (s : Same H H') : ShAt C H' p t b := by
  obtain ⟨dx, e⟩ := h
  exact ⟨dx, s _ _ e⟩
/-- what the top says of the program's own names -/
structure Txt (K : PySem.W.Frag) (mg : Str → Option Value) (C CN : Addr) : Prop where
  cl : Cls K C
  nT : NoAttr K C "top"
  nB : NoAttr K C "bottom"
  mgC : mg "Share" = some (.ref C)
  gcd : mg "gcd" = some (.builtin "math.gcd")
  isi : mg "isinstance" = none
  int : mg "int" = none
  bool : mg "bool" = none
  gN : mg "NoShare" = some (.ref CN)
  xN : PySem.W.excIn K CN [.type "ValueError", .type "Exception", .type "BaseException", .type "object"] "ValueError.__new__" = true
  kN : PySem.W.keepIn K (.ref CN) = true
  bN : PySem.W.subIn K (.ref CN) (.type "BaseException") = some true
  tN : PySem.W.typeIn K (.ref CN) = some (.type "type")
  eN : PySem.W.exmOne K (.ref CN) (.ref CN) = some true
/-! ### // by a divisor of either sign -/
def CDivX (_ j : Int) : Prop := j ≠ 0 ∧ j.natAbs.log2 < 9000
section
variable {X : Cx}
theorem op_fdivX : OpR X (binaryOp .FloorDiv) (rI CDivX fun i j => .int (i.fdiv j)) := opI fun i j _ _ _ _ _ hc q => floordiv_int hc.1 q (.inl (PyProof.noPylong_of_log2 hc.2))
end
theorem big_div {i j : Int} {b : Nat} (h : j ≠ 0) (hb : j.natAbs < 2 ^ b) (h0 : 0 < b) (h9 : b ≤ 9000) : CDivX i j := ⟨h, Nat.lt_of_lt_of_le (PySem.Flt.log2_lt_of h0 hb) h9⟩
theorem add_lt {i j : Int} {a : Nat} (hi : i.natAbs < 2 ^ a) (hj : j.natAbs < 2 ^ a) : (i + j).natAbs < 2 ^ (a + 1) := by
  have e : 2 ^ (a + 1) = 2 ^ a * 2 := Nat.pow_succ ..
  omega
theorem sub_lt {i j : Int} {a : Nat} (hi : i.natAbs < 2 ^ a) (hj : j.natAbs < 2 ^ a) : (i - j).natAbs < 2 ^ (a + 1) := by
  have e : 2 ^ (a + 1) = 2 ^ a * 2 := Nat.pow_succ ..
  omega
theorem pow_le {i : Int} {a b : Nat} (h : i.natAbs < 2 ^ a) (hab : a ≤ b) : i.natAbs < 2 ^ b := Nat.lt_of_lt_of_le h (Nat.pow_le_pow_right (by omega) hab)
/-! ### promises -/
def spWhole : Sp := fun vs H Q _ => ∃ i : Int, vs = [.int i] ∧ Q (.bl true) H
def spInit (C CN : Addr) : Sp := fun vs H Q E => ∃ (p dx : Addr) (t b : Int), vs = [.ref p, .int t, .int b] ∧ H p = some (.ins C dx []) ∧ t.natAbs < 2 ^ 4000 ∧ b.natAbs < 2 ^ 4000 ∧
  (b = 0 → E (.ref CN) none H) ∧ (b ≠ 0 → ∀ H' : Hp, H' p = some (.ins C dx (shf (lowT t b) (lowB t b))) → (∀ a, a ≠ p → H' a = H a) → Q .non H')
section
variable {P : Program} {w : World} {K : PySem.W.Frag} {mg : Str → Option Value} {base : Heap}
theorem scWhole : FnScope ["thing"] ["thing"] (defScope sWhole) := ⟨rfl, rfl, rfl, by decide +kernel, rfl, by decide +kernel, by decide +kernel⟩
theorem ok_whole {f C CN : Addr} {fd : FuncData} (F : Fun K "is_whole" "is_whole" sWhole f fd) (T : Txt K mg C CN) : FnOk P w K mg base CX0 1 f fd ["thing"] spWhole := by
  refine F.ok scWhole (fun vs H Q E h => ?_) (fun cdv A outer s H vs Q E hr h => ?_)
  · obtain ⟨i, rfl, _⟩ := h
    rfl
  · obtain ⟨i, rfl, k⟩ := h
    refine ⟨_, pss_one (ps_ret (pe_and (pe_callB call_isi (by rfl) T.isi (by decide +kernel) (pa_cons (pv 0) (pa_cons (pe_bltn (v := .ty "int") (by rfl) T.int (by decide +kernel) rfl) pa_nil)))
      (pe_one (pe_not (pe_callB call_isi (by rfl) T.isi (by decide +kernel) (pa_cons (pv 0) (pa_cons (pe_bltn (v := .ty "bool") (by rfl) T.bool (by decide +kernel) rfl) pa_nil))))))), ?_⟩
    refine ⟨_, rfl, _, _, _, _, true, rfl, ClsV.ty _, TyX.base (TyOf.int _), kit_ty (by decide +kernel), true, rfl, iteT ?_⟩
    exact ⟨_, rfl, _, _, _, _, false, rfl, ClsV.ty _, TyX.base (TyOf.int _), kit_ty (by decide +kernel), false, rfl, k⟩

theorem scInit : FnScope ["self", "top", "bottom", "common"] ["self", "top", "bottom"] (defScope sInit) := ⟨rfl, rfl, rfl, by decide +kernel, rfl, by decide +kernel, by decide +kernel⟩
theorem ok_init {f fW C CN : Addr} {fd fdW : FuncData} (F : FunD K "__init__" "Share.__init__" (defArgs sInit) (defBody sInit) (defScope sInit) [.int 1] [] f fd) (T : Txt K mg C CN)
    (GW : FnOk P w K mg base CX0 1 fW fdW ["thing"] spWhole) (mW : mg "is_whole" = some (.ref fW)) (kW : PySem.W.keepIn K (.ref fW) = true) (bW : Binds K fdW ["thing"] []) :
    FnOk P w K mg base (L2.CX P w) 2 f fd ["self", "top", "bottom"] (spInit C CN) := by
  refine FunD.ok (N := ["self", "top", "bottom", "common"]) F scInit (fun vs H Q E h => ?_) (fun cdv A outer s H vs Q E hr h => ?_)
  · obtain ⟨p, dx, t, b, rfl, _⟩ := h
    rfl
  · obtain ⟨p, dx, t, b, rfl, hp, st, sb, ke, kq⟩ := h
    refine ⟨_, pss_cons (ps_if (PW.pt (pw_or (pt_not (pt_val (pe_call GW hr rfl mW kW bW .nil pass0 (pa_cons (pv 1) pa_nil)))) (pw_or (pt_not (pt_val (pe_call GW hr rfl mW kW bW .nil pass0 (pa_cons (pv 2) pa_nil)))) (pw_or1 (pt_cmpR op_eq (pv 2) pe_int (nomark _))))))
        (pss_one (ps_raise rfl (takes_of rfl rfl rfl rfl) (pmk_own PySem.F.excBase_ValueError T.xN T.gN T.kN (raises_own T.bN T.tN) (by exact rfl)))) pss_nil)
      (pss_cons (ps_set (i := 3) scInit.nd rfl (Or.inl rfl) (pe_callBfun cr_gcd rfl T.gcd (pa_cons (pv 1) (pa_cons (pv 2) pa_nil))))
      (pss_cons (ps_if (pt_cmpR op_lt (pv 2) pe_int (nomark _)) (pss_one (ps_set (i := 3) scInit.nd rfl (Or.inl rfl) (pe_un un_neg (pv 3)))) pss_nil)
      (pss_cons (ps_fld (pv 0) (pe_op op_fdivX (pv 1) (pv 3)) rfl)
      (pss_one (ps_fld (pv 0) (pe_op op_fdivX (pv 2) (pv 3)) rfl))))), ?_⟩
    refine ⟨_, rfl, t, rfl, true, rfl, iteF ?_⟩
    refine ⟨_, rfl, b, rfl, true, rfl, iteF ?_⟩
    refine ⟨_, rfl, rfl, _, rfl, ?_⟩
    refine ite2 (fun h0 => ?_) (fun h0 => ?_)
    · exact ke (by simpa using h0)
    · have hb : b ≠ 0 := fun e => h0 (by rw [e]; exact decide_eq_true rfl)
      have gs : (sg t b).natAbs < 2 ^ 4000 := Nat.lt_of_le_of_lt (sg_le hb) sb
      refine ⟨_, rfl, _, rfl, t, b, rfl, ?_⟩
      refine ⟨_, rfl, _, _, rfl, rfl, _, rfl, ?_⟩
      refine ite2 (fun hn => ?_) (fun hn => ?_)
      · have hn : b < 0 := of_decide_eq_true hn
        have e : -((Nat.gcd t.natAbs b.natAbs : Nat) : Int) = sg t b := by unfold sg; rw [if_pos hn]
        have g0 : -((Nat.gcd t.natAbs b.natAbs : Nat) : Int) ≠ 0 := by rw [e]; exact sg_ne hb
        have gd : ∀ i : Int, CDivX i (-((Nat.gcd t.natAbs b.natAbs : Nat) : Int)) := fun i => big_div (b := 4000) g0 (by rw [e]; exact gs) (by decide) (by decide)
        refine ⟨_, rfl, _, rfl, ?_⟩
        refine ⟨_, rfl, _, rfl, _, _, rfl, rfl, gd _, _, rfl, p, C, dx, _, rfl, hp, T.cl, T.nT, (by show 0 < 1000; decide), ?_⟩
        refine ⟨_, rfl, _, rfl, _, _, rfl, rfl, gd _, _, rfl, p, C, dx, _, rfl, upd_same, T.cl, T.nB, (by show 1 < 1000; decide), ?_⟩
        refine kq hb _ (Eq.trans upd_same ?_) (fun a ha => by rw [upd_ne ha, upd_ne ha])
        rw [e]
        rfl
      · have hn : ¬ b < 0 := fun q => hn (decide_eq_true q)
        have e : ((Nat.gcd t.natAbs b.natAbs : Nat) : Int) = sg t b := by unfold sg; rw [if_neg hn]
        have g0 : ((Nat.gcd t.natAbs b.natAbs : Nat) : Int) ≠ 0 := by rw [e]; exact sg_ne hb
        have gd : ∀ i : Int, CDivX i ((Nat.gcd t.natAbs b.natAbs : Nat) : Int) := fun i => big_div (b := 4000) g0 (by rw [e]; exact gs) (by decide) (by decide)
        refine ⟨_, rfl, _, rfl, _, _, rfl, rfl, gd _, _, rfl, p, C, dx, _, rfl, hp, T.cl, T.nT, (by show 0 < 1000; decide), ?_⟩
        refine ⟨_, rfl, _, rfl, _, _, rfl, rfl, gd _, _, rfl, p, C, dx, _, rfl, upd_same, T.cl, T.nB, (by show 1 < 1000; decide), ?_⟩
        refine kq hb _ (Eq.trans upd_same ?_) (fun a ha => by rw [upd_ne ha, upd_ne ha])
        rw [e]
        rfl

/-- what is made stands beside what stood -/
theorem made_same {H H' : Hp} {x dx C : Addr} {o : HO} (nx : H x = none) (nd : H dx = none) (k : ∀ a, a ≠ x → H' a = (upd (upd H dx (.own x)) x o) a) : Same H H' := fun a u e => by
  have a1 : a ≠ x := fun z => by rw [z, nx] at e; cases e
  have a2 : a ≠ dx := fun z => by rw [z, nd] at e; cases e
  rw [k a a1, upd_ne a1, upd_ne a2]
  exact e
end
end K10

namespace K10
open PySem PySem.Spec PyProof.Rows L2
/-! ### the law's draws: any digit -/
/-- the builtins that the law asks by name -/
structure TxtB (mg : Str → Option Value) : Prop where
  int : mg "int" = none
  len : mg "len" = none
  abs : mg "abs" = none
/-- all but p stays -/
def But (p : Addr) (H H' : Hp) : Prop := ∀ b o, b ≠ p → H b = some o → H' b = some o
/-- a well that may be drawn from z times so far -/
def WellAt (H : Hp) (p : Addr) (z : Int) : Prop := ∃ x y : Int, H p = some (.lst [.int x, .int y, .int z]) ∧ 0 ≤ y ∧ y < 2 ^ 31
def spWell : Sp := fun vs H Q _ => ∃ c : Int, vs = [.int c] ∧ ∀ (p : Addr) (x y : Int), H p = none → 0 ≤ y → y < 2 ^ 31 → Q (.ref p) (upd H p (.lst [.int x, .int y, .int 0]))
def spDraw : Sp := fun vs H Q _ => ∃ (p : Addr) (m z : Int), vs = [.ref p, .int m] ∧ WellAt H p z ∧ 0 < m ∧ m < 2 ^ 62 ∧ 0 ≤ z ∧ z < 2 ^ 30 ∧
  ∀ (H' : Hp) (d z' : Int), But p H H' → WellAt H' p z' → 0 ≤ z' → z' ≤ z + 1 → 0 ≤ d → d < m → Q (.int d) H'
def spOne (K : PySem.W.Frag) : Sp := fun vs H Q _ => ∃ (p l : Addr) (xs : List V) (z : Int), vs = [.ref p, .ref l] ∧ WellAt H p z ∧ 0 ≤ z ∧ z < 2 ^ 30 ∧ H l = some (.lst xs) ∧ l ≠ p ∧ 0 < xs.length ∧ xs.length < 1000 ∧
  ∀ (H' : Hp) (z' : Int) (x : V), But p H H' → WellAt H' p z' → 0 ≤ z' → z' ≤ z + 1 → x ∈ xs → Q x H'
theorem at_k {xs : List V} {k : Int} {v : V} (h0 : 0 ≤ k) (h : xs[k.toNat]? = some v) : atI xs k = some v := by
  have e := atI_nat h
  rw [Int.toNat_of_nonneg h0] at e
  exact e
theorem prime_of {z : Int} : ∃ v : Int, atI [V.int 2147483647, V.int 2147483629, V.int 2147483587, V.int 2147483579, V.int 2147483563, V.int 2147483549, V.int 2147483543] (z % 7) = some (V.int v) ∧ 0 < v ∧ v < 2 ^ 31 := by
  have h : z % 7 = 0 ∨ z % 7 = 1 ∨ z % 7 = 2 ∨ z % 7 = 3 ∨ z % 7 = 4 ∨ z % 7 = 5 ∨ z % 7 = 6 := by omega
  rcases h with h | h | h | h | h | h | h <;> rw [h]
  · exact ⟨_, at_k (by decide) rfl, by decide, by decide⟩
  · exact ⟨_, at_k (by decide) rfl, by decide, by decide⟩
  · exact ⟨_, at_k (by decide) rfl, by decide, by decide⟩
  · exact ⟨_, at_k (by decide) rfl, by decide, by decide⟩
  · exact ⟨_, at_k (by decide) rfl, by decide, by decide⟩
  · exact ⟨_, at_k (by decide) rfl, by decide, by decide⟩
  · exact ⟨_, at_k (by decide) rfl, by decide, by decide⟩
section
variable {P : Program} {w : World} {K : PySem.W.Frag} {mg : Str → Option Value} {base : Heap}
theorem scWell : FnScope ["cell"] ["cell"] (defScope d_law_well) := ⟨rfl, rfl, rfl, by decide +kernel, rfl, by decide +kernel, by decide +kernel⟩
theorem ok_well {f : Addr} {fd : FuncData} (F : Fun K "_law_well" "_law_well" d_law_well f fd) (B : TxtB mg) : FnOk P w K mg base CX0 1 f fd ["cell"] spWell := by
  refine F.ok scWell (fun vs H Q E h => ?_) (fun cdv A outer s H vs Q E hr h => ?_)
  · obtain ⟨c, rfl, _⟩ := h
    rfl
  · obtain ⟨c, rfl, kq⟩ := h
    refine ⟨_, pss_one (ps_ret (pe_lst (pa_cons (pe_op op_mul (pv 0) (pe_callTy call_int1 (by rfl) B.int (by decide +kernel) (pa_cons (pe_cmpR op_ge (pv 0) (pe_op op_pow pe_int pe_int) (nomark _)) pa_nil)))
      (pa_cons (pe_op op_mod (pv 0) pe_int) (pa_cons pe_int pa_nil))))), ?_⟩
    refine ⟨_, rfl, _, rfl, _, _, rfl, rfl, ⟨by decide, by decide, by decide⟩, _, _, rfl, rfl, .inr ⟨_, rfl, ?_⟩⟩
    refine ⟨_, _, rfl, rfl, .inr (by split <;> decide), _, rfl, _, _, rfl, rfl, (by show (0 : Int) < 2147483647; decide), (by show 3 ≤ sizeLine; decide), fun p hp => ?_⟩
    exact kq p _ _ hp (Int.emod_nonneg _ (by decide)) (Int.lt_of_lt_of_le (Int.emod_lt_of_pos _ (by decide)) (by decide))
theorem scDraw : FnScope ["well", "many", "digit", "prime", "number"] ["well", "many"] (defScope d_law_draw) := ⟨rfl, rfl, rfl, by decide +kernel, rfl, by decide +kernel, by decide +kernel⟩
theorem ok_draw {f : Addr} {fd : FuncData} (F : Fun K "_law_draw" "_law_draw" d_law_draw f fd) : FnOk P w K mg base CX0 1 f fd ["well", "many"] spDraw := by
  refine F.ok scDraw (fun vs H Q E h => ?_) (fun cdv A outer s H vs Q E hr h => ?_)
  · obtain ⟨p, m, z, rfl, _⟩ := h
    rfl
  · obtain ⟨p, m, z, rfl, ⟨x, y, hp, y0, y1⟩, m0, m1, z0, z1, kq⟩ := h
    refine ⟨_, pss_cons (ps_if (pt_cmpR op_gt (pe_ix ix_list (pv 0) pe_int (fun _ _ => rfl)) pe_int (nomark _))
        (pss_cons (ps_set (i := 2) scDraw.nd rfl (Or.inl rfl) (pe_op op_mod (pe_ix ix_list (pv 0) pe_int (fun _ _ => rfl)) (pv 1)))
        (pss_cons (ps_asg (pe_op op_fdivW (pe_ix ix_list (pv 0) pe_int (fun _ _ => rfl)) (pv 1)) (pg_sub (pv 0) pe_int set_list))
        (pss_one (ps_ret (pv 2))))) pss_nil)
      (pss_cons (ps_asg (pe_op op_add (pe_ix ix_list (pv 0) pe_int (fun _ _ => rfl)) pe_int) (pg_sub (pv 0) pe_int set_list))
      (pss_cons (ps_set (i := 3) scDraw.nd rfl (Or.inl rfl) (pe_ix ix_list (pe_lst (pa_cons pe_int (pa_cons pe_int (pa_cons pe_int (pa_cons pe_int (pa_cons pe_int (pa_cons pe_int (pa_cons pe_int pa_nil)))))))) (pe_op op_mod (pe_ix ix_list (pv 0) pe_int (fun _ _ => rfl)) pe_int) (fun _ _ => rfl)))
      (pss_cons (ps_set (i := 4) scDraw.nd rfl (Or.inl rfl) (pe_op op_mod (pe_op op_pow (pe_op op_add (pe_op op_add (pe_ix ix_list (pv 0) pe_int (fun _ _ => rfl)) (pe_op op_mul pe_int (pe_ix ix_list (pv 0) pe_int (fun _ _ => rfl)))) pe_int) pe_int) (pv 3)))
      (pss_cons (ps_set (i := 4) scDraw.nd rfl (Or.inl rfl) (pe_op op_mod (pe_op op_mul (pe_op op_add (pv 4) (pe_ix ix_list (pv 0) pe_int (fun _ _ => rfl))) (pe_op op_add (pe_op op_fdiv (pv 4) pe_int) pe_int)) (pv 3)))
      (pss_one (ps_ret (pe_op op_mod (pe_op op_fdiv (pv 4) pe_int) (pv 1)))))))), ?_⟩
    refine ⟨_, rfl, p, _, _, _, rfl, rfl, SqL.of hp, at_k (by decide) rfl, _, _, rfl, rfl, _, rfl, ?_⟩
    refine ite2 (fun h => ?_) (fun h => ?_)
    · refine ⟨_, rfl, p, _, _, _, rfl, rfl, SqL.of hp, at_k (by decide) rfl, _, rfl, _, _, rfl, rfl, m0, ?_⟩
      refine ⟨_, rfl, p, _, _, _, rfl, rfl, SqL.of hp, at_k (by decide) rfl, _, rfl, _, _, rfl, rfl, wide_div (b := 62) m0 (by omega) (by decide) (by decide), ?_⟩
      refine ⟨_, rfl, p, _, _, 0, rfl, rfl, hp, rfl, ?_⟩
      exact ⟨_, rfl, kq _ _ _ (fun b o hb e => by rw [upd_ne hb]; exact e) ⟨_, _, upd_same, y0, y1⟩ z0 (by omega) (Int.emod_nonneg _ (by omega)) (Int.emod_lt_of_pos _ m0)⟩
    · refine ⟨_, rfl, p, _, _, _, rfl, rfl, SqL.of hp, at_k (by decide) rfl, _, _, rfl, rfl, ?_⟩
      refine ⟨_, rfl, p, _, _, 2, rfl, rfl, hp, rfl, ?_⟩
      obtain ⟨v, hv, v0, v1⟩ := prime_of (z := z + 1)
      refine ⟨(by show 7 ≤ sizeLine; decide), fun q hq => ?_⟩
      have hqp : p ≠ q := fun e => by rw [← e, upd_same] at hq; cases hq
      have hw : upd (upd H p (.lst [.int x, .int y, .int (z + 1)])) q (.lst [V.int 2147483647, V.int 2147483629, V.int 2147483587, V.int 2147483579, V.int 2147483563, V.int 2147483549, V.int 2147483543]) p = some (.lst [.int x, .int y, .int (z + 1)]) := by rw [upd_ne hqp, upd_same]
      refine ⟨_, rfl, p, _, _, _, rfl, rfl, SqL.of hw, at_k (by decide) rfl, _, _, rfl, rfl, (by show (0 : Int) < 7; decide), ?_⟩
      refine ⟨q, _, _, _, rfl, rfl, SqL.of upd_same, hv, ?_⟩
      refine ⟨_, rfl, p, _, _, _, rfl, rfl, SqL.of hw, at_k (by decide) rfl, _, rfl, p, _, _, _, rfl, rfl, SqL.of hw, at_k (by decide) rfl, _, _, rfl, rfl, .inl ⟨by decide, by decide⟩, _, _, rfl, rfl, _, _, rfl, rfl, _, _, rfl, rfl,
        ⟨by decide, by decide, by omega⟩, _, rfl, _, _, rfl, rfl, v0, ?_⟩
      have n0 := Int.emod_nonneg ((y + 7919 * (z + 1) + 1) ^ (5 : Int).toNat) (show v ≠ 0 by omega)
      have n1 := Int.emod_lt_of_pos ((y + 7919 * (z + 1) + 1) ^ (5 : Int).toNat) v0
      refine ⟨_, rfl, _, rfl, p, _, _, _, rfl, rfl, SqL.of hw, at_k (by decide) rfl, _, _, rfl, rfl, _, rfl, _, _, rfl, rfl, ⟨by decide, by decide⟩, _, _, rfl, rfl, _, _, rfl, rfl, .inl ⟨by omega, by omega⟩, _, rfl, _, _, rfl, rfl, v0, ?_⟩
      refine ⟨_, rfl, _, _, rfl, rfl, ⟨by decide, by decide⟩, _, rfl, _, _, rfl, rfl, m0, ?_⟩
      refine kq _ _ _ (fun b o hb e => ?_) ⟨_, _, hw, y0, y1⟩ (by omega) (by omega) (Int.emod_nonneg _ (by omega)) (Int.emod_lt_of_pos _ m0)
      have e1 : upd H p (.lst [.int x, .int y, .int (z + 1)]) b = some o := by rw [upd_ne hb]; exact e
      rw [upd_ne (ne_of_none e1 hq)]
      exact e1
theorem scOne : FnScope ["well", "some"] ["well", "some"] (defScope d_law_one) := ⟨rfl, rfl, rfl, by decide +kernel, rfl, by decide +kernel, by decide +kernel⟩
theorem ok_one {f fD : Addr} {fd fdD : FuncData} (F : Fun K "_law_one" "_law_one" d_law_one f fd) (B : TxtB mg) (GD : FnOk P w K mg base CX0 1 fD fdD ["well", "many"] spDraw) (mD : mg "_law_draw" = some (.ref fD)) (kD : PySem.W.keepIn K (.ref fD) = true) (bD : Binds K fdD ["well", "many"] []) :
    FnOk P w K mg base CX0 2 f fd ["well", "some"] (spOne K) := by
  refine F.ok scOne (fun vs H Q E h => ?_) (fun cdv A outer s H vs Q E hr h => ?_)
  · obtain ⟨p, l, xs, z, rfl, _⟩ := h
    rfl
  · obtain ⟨p, l, xs, z, rfl, hp, z0, z1, hl, ne, l0, l1, kq⟩ := h
    refine ⟨_, pss_one (ps_ret (pe_ix ix_list (pv 1) (pe_call GD hr rfl mD kD bD .nil pass0 (pa_cons (pv 0) (pa_cons (pe_callB call_len_seq (by rfl) B.len PySem.boot_len (pa_cons (pv 1) pa_nil)) pa_nil))) (fun _ _ => rfl))), ?_⟩
    refine ⟨_, rfl, _, rfl, _, rfl, l, xs, rfl, .inl (SqL.of hl), ?_⟩
    refine ⟨p, _, z, rfl, hp, (by omega), (by omega), z0, z1, fun H' d z' bt hp' z0' z1' d0 d1 => ?_⟩
    have hd : d.toNat < xs.length := by omega
    refine ⟨l, xs, _, xs[d.toNat], rfl, rfl, SqL.of (bt l _ ne hl), at_k d0 (by simp [hd]), ?_⟩
    exact kq H' z' _ bt hp' z0' z1' (List.getElem_mem hd)
end
end K10

namespace K10
open PySem PySem.Spec PyProof.Rows L2
/-! ### in lowest terms, by the law -/
def spLow : Sp := fun vs H Q _ => ∃ a b : Int, vs = [.int a, .int b] ∧ b ≠ 0 ∧ a.natAbs < 2 ^ 4000 ∧ b.natAbs < 2 ^ 4000 ∧
  ∀ p : Addr, H p = none → Q (.ref p) (upd H p (.tup [.int (lowT a b), .int (lowB a b)]))
def leftOf : L2.St → Nat
  | [_, _, _, some (.int l)] => l.toNat
  | _ => 0
theorem absV (i : Int) : (if i < 0 then -i else i) = ((i.natAbs : Nat) : Int) := by split <;> omega
section
variable {P : Program} {w : World} {K : PySem.W.Frag} {mg : Str → Option Value} {base : Heap}
theorem scLow : FnScope ["top", "bottom", "one", "other"] ["top", "bottom"] (defScope d_law_low) := ⟨rfl, rfl, rfl, by decide +kernel, rfl, by decide +kernel, by decide +kernel⟩
theorem ok_low {f : Addr} {fd : FuncData} (F : Fun K "_law_low" "_law_low" d_law_low f fd) (B : TxtB mg) : FnOk P w K mg base CX0 1 f fd ["top", "bottom"] spLow := by
  refine F.ok scLow (fun vs H Q E h => ?_) (fun cdv A outer s H vs Q E hr h => ?_)
  · obtain ⟨a, b, rfl, _⟩ := h
    rfl
  · obtain ⟨a, b, rfl, hb, sa, sb, kq⟩ := h
    refine ⟨_, pss_cons (ps_par (i := 2) (j := 3) rfl scLow.nd rfl rfl (by decide) rfl rfl (pa_cons (pe_callB call_abs (by rfl) B.abs (by decide +kernel) (pa_cons (pv 0) pa_nil)) (pa_cons (pe_callB call_abs (by rfl) B.abs (by decide +kernel) (pa_cons (pv 1) pa_nil)) pa_nil)) (by rfl))
      (pss_cons (ps_while PassesOwn.never (pt_cmpR op_gt (pv 3) pe_int (nomark _)) (pss_one (ps_par (i := 2) (j := 3) rfl scLow.nd rfl rfl (by decide) rfl rfl (pa_cons (pv 3) (pa_cons (pe_op op_mod (pv 2) (pv 3)) pa_nil)) (by rfl))))
      (pss_cons (ps_if (pt_cmpR op_lt (pv 1) pe_int (nomark _)) (pss_one (ps_set (i := 2) scLow.nd rfl (Or.inl rfl) (pe_op op_sub pe_int (pv 2)))) pss_nil)
      (pss_one (ps_ret (pe_tup (pa_cons (pe_op op_fdivX (pv 0) (pv 2)) (pa_cons (pe_op op_fdivX (pv 1) (pv 2)) pa_nil))))))), ?_⟩
    refine ⟨_, rfl, a, rfl, _, rfl, b, rfl, _, _, rfl, ?_⟩
    rw [absV, absV]
    refine while_by (fun σ H' => H' = H ∧ ∃ g l : Nat, σ = [some (.int a), some (.int b), some (.int (g : Int)), some (.int (l : Int))] ∧ Nat.gcd g l = Nat.gcd a.natAbs b.natAbs) (fun σ _ => leftOf σ) ⟨rfl, _, _, rfl, rfl⟩ ?_ ?_
    · rintro σ H' ⟨rfl, g, l, rfl, hg⟩
      refine ⟨_, rfl, _, _, rfl, rfl, _, rfl, ?_⟩
      by_cases hl : l = 0
      · subst hl
        rw [show decide ((0 : Int) < ((0 : Nat) : Int)) = false from by simp]
        refine iteF ?_
        have ge : g = Nat.gcd a.natAbs b.natAbs := by rw [← hg, Nat.gcd_zero_right]
        refine ⟨_, rfl, _, _, rfl, rfl, _, rfl, ?_⟩
        have gs : (sg a b).natAbs < 2 ^ 4000 := Nat.lt_of_le_of_lt (sg_le hb) sb
        refine ite2 (fun hn => ?_) (fun hn => ?_)
        · have hn : b < 0 := of_decide_eq_true hn
          have e : 0 - (g : Int) = sg a b := by unfold sg; rw [if_pos hn, ge]; omega
          have g0 : 0 - (g : Int) ≠ 0 := by rw [e]; exact sg_ne hb
          have gd : ∀ i : Int, CDivX i (0 - (g : Int)) := fun i => big_div (b := 4000) g0 (by rw [e]; exact gs) (by decide) (by decide)
          refine ⟨_, rfl, _, _, rfl, rfl, ?_⟩
          refine ⟨_, rfl, _, rfl, _, _, rfl, rfl, gd _, _, rfl, _, rfl, _, _, rfl, rfl, gd _, (by show 2 ≤ sizeLine; decide), fun p hp => ?_⟩
          have z := kq p hp
          unfold lowT lowB at z
          rw [← e] at z
          exact z
        · have hn : ¬ b < 0 := fun q => hn (decide_eq_true q)
          have e : (g : Int) = sg a b := by unfold sg; rw [if_neg hn, ge]
          have g0 : (g : Int) ≠ 0 := by rw [e]; exact sg_ne hb
          have gd : ∀ i : Int, CDivX i (g : Int) := fun i => big_div (b := 4000) g0 (by rw [e]; exact gs) (by decide) (by decide)
          refine ⟨_, rfl, _, rfl, _, _, rfl, rfl, gd _, _, rfl, _, rfl, _, _, rfl, rfl, gd _, (by show 2 ≤ sizeLine; decide), fun p hp => ?_⟩
          have z := kq p hp
          unfold lowT lowB at z
          rw [← e] at z
          exact z
      · rw [show decide ((0 : Int) < (l : Int)) = true from decide_eq_true (by omega)]
        refine iteT ?_
        refine ⟨_, rfl, _, rfl, _, rfl, _, _, rfl, rfl, (by show (0 : Int) < (l : Int); omega), _, _, rfl, ⟨rfl, l, g % l, ?_, ?_⟩, ?_⟩
        · show [some (V.int a), some (V.int b), some (V.int (l : Int)), some (V.int ((g : Int) % (l : Int)))] = _
          rw [Int.natCast_emod]
        · rw [← hg, Nat.gcd_comm g l, Nat.gcd_rec l g, Nat.gcd_comm]
        · show ((g : Int) % (l : Int)).toNat < ((l : Int)).toNat
          have h1 : (g : Int) % (l : Int) = ((g % l : Nat) : Int) := (Int.natCast_emod g l).symm
          rw [h1, Int.toNat_natCast, Int.toNat_natCast]
          exact Nat.mod_lt _ (by omega)
    · intro σ H' Q1 Q2 m h
      obtain ⟨v, e, i, j, e1, e2, k, ek, q⟩ := h
      exact ⟨v, e, i, j, e1, e2, k, ek, m _ _ q⟩
end
end K10

namespace K10
open PySem PySem.Spec PyProof.Rows PySem.Calls
/-! ### == of two tuples whose items have an own == : both answers -/
section
variable {prog : Program} {w : World} {A : Around} {R : Result → Shared → Prop}
theorem tuple_eqB (l b : Addr) (items items2 : Array Value) (n n2 : Nat) (dd dd2 : Option Addr) (sl sl2 : Array (Option Value)) (I : Nat → Shared → Prop)
    (turn : ∀ i (h1 : i < items.size) (h2 : i < items2.size) s, I i s → wpAny (model prog w) A.in1 (eqBool items[i] items2[i]) (fun r s' => (r = true ∧ I (i + 1) s') ∨ (r = false ∧ R (.ok (.ret (.bool false))) s')) (fun e s' => R (.error e) s') s)
    (fin : ∀ s, I (min items.size items2.size) s → R (.ok (.ret (.bool (items.size == items2.size)))) s) {s : Shared} (hl1 : s.heap.get? l = some { cls := .type "tuple", dict := dd, data := .seq items n, slots := sl }) (hb1 : s.heap.get? b = some { cls := .type "tuple", dict := dd2, data := .seq items2 n2, slots := sl2 }) (h : I 0 s) :
    wpAny (model prog w) A.in1 (Builtin.«tuple.__eq__» ⟨[.ref l, .ref b], []⟩) (GQ.FinOf prog w A R) (fun e s' => R (.error e) s') s := by
  have f2 := AutoSeq1.sub_tuple_tuple
  have hZ : (items.toList.zip items2.toList).length = min items.size items2.size := by simp
  have h0 := h
  obtain ⟨hp, g, d, tk, os⟩ := s
  wp_walk using wpAny_loadPart' hl1, wpAny_loadPart' hb1, wpAny_forIn_list _ (fun rest b s' => b.1 = none ∧ ∃ i, rest = (items.toList.zip items2.toList).drop i ∧ i ≤ min items.size items2.size ∧ I i s') _
  case turn =>
    rintro ⟨y, x⟩ rest b s' ⟨hb', i, hz, hi, hI⟩
    have hlt : i < (items.toList.zip items2.toList).length := by
      rcases Nat.lt_or_ge i (items.toList.zip items2.toList).length with h' | h'
      · exact h'
      · rw [List.drop_of_length_le h'] at hz; cases hz
    have h1 : i < items.size := by omega
    have h2 : i < items2.size := by omega
    rw [List.drop_eq_getElem_cons hlt] at hz
    injection hz with hyx hrest
    have hy : y = items[i] := by have := congrArg Prod.fst hyx; simpa using this
    have hx : x = items2[i] := by have := congrArg Prod.snd hyx; simpa using this
    subst hy hx
    refine wpAny_bind (wpAny_mono (turn i h1 h2 s' hI) (fun r s2 q2 => ?_) fun _ _ x => x)
    rcases q2 with ⟨hr, q2⟩ | ⟨hr, q2⟩
    · subst hr
      wp_walk
      exact ⟨rfl, i + 1, hrest, by omega, q2⟩
    · subst hr
      wp_walk
      exact q2
  case fin =>
    rintro ⟨b1, b2⟩ s' ⟨hb', i, hz, hi, hI⟩
    simp only at hb'
    subst hb'
    have hge : min items.size items2.size ≤ i := by
      rcases Nat.lt_or_ge i (items.toList.zip items2.toList).length with h' | h'
      · rw [List.drop_eq_getElem_cons h'] at hz; cases hz
      · exact hZ ▸ h'
    have hi' : i = min items.size items2.size := by omega
    have hR := fin s' (hi' ▸ hI)
    wp_walk
    simpa [Builtin.Tuple.tupleCompareSizes] using hR
  case h =>
    exact ⟨rfl, 0, rfl, Nat.zero_le _, h0⟩
end
section
variable {prog : Program} {w : World} {A : Around} {E : Value → Shared → Prop} {s : Shared}
theorem rc_tupB {l b : Addr} {items items2 : Array Value} {Q : Value → Shared → Prop} (hu : A.units < cLine) (I : Nat → Shared → Prop)
    (hl : s.heap.IsTuple l items) (hb : s.heap.IsTuple b items2)
    (turn : ∀ i (h1 : i < items.size) (h2 : i < items2.size) s, I i s → wpAny (model prog w) A.in1 (eqBool items[i] items2[i]) (fun r s' => (r = true ∧ I (i + 1) s') ∨ (r = false ∧ Q (.bool false) s')) E s)
    (fin : ∀ s, I (min items.size items2.size) s → Q (.bool (items.size == items2.size)) s) (h : I 0 s) : wpAny (model prog w) A (richCompare .Eq (.ref l) (.ref b)) Q E s := by
  obtain ⟨⟨cls, dd, data, sl⟩, ho, hc, n, hd⟩ := id hl
  obtain ⟨⟨cls2, dd2, data2, sl2⟩, ho2, hc2, n2, hd2⟩ := id hb
  simp only at hc hd hc2 hd2
  subst hc hd hc2 hd2
  refine wpAny_richCompare_same_room (op := .Eq) ⟨_, ho, rfl⟩ ⟨_, ho2, rfl⟩ F.slot_tuple_eq (GQ.call_here F.slot_tuple_eq ⟨_, ho, rfl⟩ F.entry_tuple_eq (F.args_tuple_eq_2 _ _) ?_) hu
  refine tuple_eqB (R := wants (fun v s' => v ≠ .notImplemented ∧ Q v s') E) l b items items2 n n2 dd dd2 sl sl2 I (fun i h1 h2 s' q => wpAny_mono (turn i h1 h2 s' q) (fun r s2 z => ?_) fun _ _ z => z) (fun s' q => ⟨(fun x => nomatch x), fin s' q⟩) ho ho2 h
  rcases z with z | ⟨hr, z⟩
  · exact .inl z
  · exact .inr ⟨hr, (fun x => nomatch x), z⟩
end
end K10

namespace K10
open PySem PySem.Spec PyProof.Rows L2
/-! ### == of a share and anything, by its own __eq__ -/
/-- what isinstance asks of the class, and what the law puts beside a share -/
structure TxtI (K : PySem.W.Frag) (C : Addr) : Prop where
  ha : PySem.W.findIn K (.ref C) "__class__" = some (some (.builtin "object.__class__"))
  hn : PySem.W.specialIn K (.builtin "object.__class__") "__get__" = some (some (.builtin "getset_descriptor.__get__"))
  htk : PySem.W.takesIn K (.builtin "object.__class__") = some true
  hm : PySem.W.mroIn K C (.type "object") = some true
  me : PySem.W.kitOne K (.ref C) (.ref C) = some true
  mt : PySem.W.kitOne K (.type "tuple") (.ref C) = some false
  mi : PySem.W.kitOne K (.type "int") (.ref C) = some false
  mn : PySem.W.kitOne K (.type "NoneType") (.ref C) = some false
/-- either another share, or something that is none -/
def EqTo (K : PySem.W.Frag) (C : Addr) (H : Hp) (v : V) (t1 b1 : Int) (r : Bool) : Prop :=
  (∃ (y : Addr) (t2 b2 : Int), v = .ref y ∧ ShAt C H y t2 b2 ∧ r = (decide (t1 = t2) && decide (b1 = b2))) ∨ (∃ ty, TyX K H v ty ∧ PySem.W.kitOne K ty (.ref C) = some false ∧ r = false)
def spEqS (K : PySem.W.Frag) (C : Addr) : Sp := fun vs H Q _ => ∃ (x : Addr) (v : V) (t1 b1 : Int) (r : Bool), vs = [.ref x, v] ∧ ShAt C H x t1 b1 ∧ EqTo K C H v t1 b1 r ∧ Q (.bl r) H
section
variable {P : Program} {w : World} {K : PySem.W.Frag} {mg : Str → Option Value} {base : Heap}
theorem decI (a b : Int) : decide (V.int a = V.int b) = decide (a = b) := by
  by_cases h : a = b
  · rw [h]; simp
  · simp [h]
theorem scEq : FnScope ["self", "other"] ["self", "other"] (defScope sEq) := ⟨rfl, rfl, rfl, by decide +kernel, rfl, by decide +kernel, by decide +kernel⟩
theorem ok_eq {f C CN : Addr} {fd : FuncData} (F : Fun K "__eq__" "Share.__eq__" sEq f fd) (T : Txt K mg C CN) (TI : TxtI K C) : FnOk P w K mg base CX0 1 f fd ["self", "other"] (spEqS K C) := by
  refine F.ok scEq (fun vs H Q E h => ?_) (fun cdv A outer s H vs Q E hr h => ?_)
  · obtain ⟨x, v, t1, b1, r, rfl, _⟩ := h
    rfl
  · obtain ⟨x, v, t1, b1, r, rfl, ⟨dx, hx⟩, hv, k⟩ := h
    refine ⟨_, pss_one (ps_ret (pe_and (pe_callB call_isi (by rfl) T.isi (by decide +kernel) (pa_cons (pv 1) (pa_cons (pe_glob (v := .ref C) rfl T.mgC rfl) pa_nil)))
      (pe_and (pe_cmpR op_eq (pe_fld (pv 0) rfl) (pe_fld (pv 1) rfl) (nomark _)) (pe_one (pe_cmpR op_eq (pe_fld (pv 0) rfl) (pe_fld (pv 1) rfl) (nomark _)))))), ?_⟩
    rcases hv with ⟨y, t2, b2, rfl, ⟨dy, hy⟩, rfl⟩ | ⟨ty, hty, hk, rfl⟩
    · refine ⟨_, rfl, _, _, _, _, true, rfl, ClsV.own C, TyX.base (TyOf.ins hy T.cl TI.ha TI.hn TI.htk TI.hm), TI.me, true, rfl, iteT ?_⟩
      refine ⟨_, rfl, x, C, dx, _, _, rfl, hx, T.cl, T.nT, shf_top .., _, rfl, y, C, dy, _, _, rfl, hy, T.cl, T.nT, shf_top .., rfl, _, rfl, ?_⟩
      rw [decI]
      by_cases e : t1 = t2
      · rw [decide_eq_true e] at k ⊢
        refine iteT ?_
        refine ⟨_, rfl, x, C, dx, _, _, rfl, hx, T.cl, T.nB, shf_bottom .., _, rfl, y, C, dy, _, _, rfl, hy, T.cl, T.nB, shf_bottom .., rfl, ?_⟩
        rw [decI]
        exact k
      · rw [decide_eq_false e] at k ⊢
        exact iteF k
    · refine ⟨_, rfl, _, _, _, _, false, rfl, ClsV.own C, hty, hk, false, rfl, iteF k⟩
end
end K10
namespace K10
open PySem PySem.Spec PyProof.Rows L2
/-! ### comparisons with a share in them -/
/-- what stands beside a share: another one, or a value of a built-in type that the share's class is no subclass of, and that is none of it -/
structure Odd (K : PySem.W.Frag) (C : Addr) (T : String) : Prop where
  k : PySem.W.kitOne K (.type T) (.ref C) = some false
  l : PySem.W.subIn K (.type T) (.ref C) = some false
  r : PySem.W.subIn K (.ref C) (.type T) = some false
/-- the own == of the class at C stands at f, and keeps its promise -/
structure OwnEq (X : Cx) (n : Nat) (C f : Addr) : Prop where
  fn : ∃ fd ps, FnOk X.prog X.w X.K X.mg X.base CX0 n f fd ps (spEqS X.K C) ∧ Binds X.K fd ps []
  at_ : PySem.W.findIn X.K (.ref C) "__eq__" = some (some (.ref f))
  isf : PySem.W.isFn X.K (.ref f) = true
section
variable {X : Cx} {n : Nat} {C f : Addr} {A : Around} {pins : List (Addr × Obj)} {s : Shared} {σ : L2.St} {H : Hp} {x : Addr} {v : V} {u : Value} {t1 b1 : Int} {r : Bool} {T : String}
/-- the def itself, called -/
theorem run_own (O : OwnEq X n C f) (sb : Sub X n A) (I : Inv X pins σ H s) (rv : RelV v u) (hx : ShAt C H x t1 b1) (hv : EqTo X.K C H v t1 b1 r) :
    wpAny (model X.prog X.w) A (call (.ref f) [.ref x, u]) (fun q s' => q = .bool r ∧ Inv X pins σ H s') X.xe s := by
  obtain ⟨fd, ps, F, hb⟩ := O.fn
  have hsp : spEqS X.K C [.ref x, v] H (fun z H' => z = .bl r ∧ H' = H) E0 := ⟨x, v, t1, b1, r, rfl, hx, hv, rfl, rfl⟩
  have e0 : Env0 X.prog X.w X.K X.mg X.base A X.stack s H := by
    have e := I.env0
    exact ⟨by rw [sb.fr]; exact e.frames, e.mod, e.bs, e.bsz, e.funs, e.frf, e.hok, e.bare⟩
  have hl := F.len _ _ _ _ hsp
  have r2 : Vals [V.ref x, v] [Value.ref x, u] := .cons rfl (.cons rv .nil)
  have bb := hb s [.ref x, u] I.kIn (by simpa using hl)
  rw [List.append_nil] at bb
  refine wpAny_call (codeAny_mono (F.run A X.stack s H ⟨[.ref x, u], []⟩ [.ref x, u] [.ref x, v] _ E0 sb.room e0 bb r2 hsp) fun q s' hq => ?_)
  cases q with
  | error e => exact hq.elim
  | ok fl =>
    cases fl with
    | ret z =>
      obtain ⟨y, H', I', ry, ey, eH⟩ := I.after hq
      subst ey
      subst eH
      cases ry
      exact ⟨rfl, I'⟩
    | next => exact False.elim hq
    | brk => exact False.elim hq
    | cont => exact False.elim hq
theorem ins_at (I : Inv X pins σ H s) (hx : ShAt C H x t1 b1) : ∃ ox od, PySem.W.InstAt s.heap x ox C od := by
  obtain ⟨dx, e⟩ := hx
  obtain ⟨m, J, _⟩ := ins_get I.hok e
  obtain ⟨od, J, _⟩ := J.look
  exact ⟨_, _, J⟩
/-- a share on the left -/
theorem rc_left (O : OwnEq X n C f) (sb : Sub X n A) (I : Inv X pins σ H s) (rv : RelV v u) (hx : ShAt C H x t1 b1) (hv : EqTo X.K C H v t1 b1 r)
    {tb : Value} (ht : PySem.W.Looks (model X.prog X.w) s.heap (typeOf u) tb) (hf : PySem.W.notFirst X.K C tb = true) :
    wpAny (model X.prog X.w) A (richCompare .Eq (.ref x) u) (fun q s' => q = .bool r ∧ Inv X pins σ H s') X.xe s := by
  obtain ⟨ox, od, J⟩ := ins_at I hx
  obtain ⟨m, hF⟩ := I.fr
  refine PySem.W.cmp_K (op := .Eq) (tb := tb) sb.room.units0 hF I.ok.mod.kin J ht hf O.at_ O.isf ?_
  refine wpAny_mono (run_own O sb I rv hx hv) (fun q s' z => ?_) fun _ _ z => z
  obtain ⟨rfl, I'⟩ := z
  exact ⟨rfl, I'⟩
/-- two shares -/
theorem rc_two (O : OwnEq X n C f) (sb : Sub X n A) (I : Inv X pins σ H s) {y : Addr} {t2 b2 : Int} (hx : ShAt C H x t1 b1) (hy : ShAt C H y t2 b2) :
    wpAny (model X.prog X.w) A (richCompare .Eq (.ref x) (.ref y)) (fun q s' => q = .bool (decide (t1 = t2) && decide (b1 = b2)) ∧ Inv X pins σ H s') X.xe s := by
  obtain ⟨oy, od, J⟩ := ins_at I hy
  exact rc_left O sb I (v := .ref y) rfl hx (.inl ⟨y, t2, b2, rfl, hy, rfl⟩) J.type (by simp [PySem.W.notFirst])
/-- a value of a built-in type on the left, a share on the right -/
theorem rc_right (O : OwnEq X n C f) (sb : Sub X n A) (I : Inv X pins σ H s) (rv : RelV v u) (hx : ShAt C H x t1 b1) (ty : TyX X.K H v (.type T)) (D : Odd X.K C T)
    (dec : wpAny (model X.prog X.w) A (tryCompare u "__eq__" (.ref x)) (fun q s' => q = none ∧ s' = s) X.xe s) :
    wpAny (model X.prog X.w) A (richCompare .Eq u (.ref x)) (fun q s' => q = .bool false ∧ Inv X pins σ H s') X.xe s := by
  obtain ⟨ox, od, J⟩ := ins_at I hx
  obtain ⟨Ph, Z, ph, _⟩ := kit_of I rv ty
  have LT := Z.ty (model X.prog X.w) s.heap I.kIn ph
  have nu : oneThing? .Eq u (.ref x) = none := by cases u <;> rfl
  unfold richCompare
  simp only [nu]
  refine wpAny_holding (wpAny_bind (wpAny_cRoomFor sb.room.units0 ?_))
  refine wpAny_bind (LT.here (wpAny_bind (J.type.here ?_)))
  rw [if_pos (show (Value.type T != Value.ref C) = true from rfl)]
  refine wpAny_bind ((PySem.W.looks_subIn I.kIn D.r).here ?_)
  simp only [Bool.false_eq_true, if_false]
  refine wpAny_bind (wpAny_mono dec (fun q s' z => ?_) fun _ _ z => z)
  obtain ⟨rfl, rfl⟩ := z
  simp only [Bool.not_false, if_true]
  refine wpAny_bind (m := tryCompare (.ref x) _ u) ?_
  unfold tryCompare
  refine wpAny_bind (PySem.W.ifBound_K I.kIn J O.at_ O.isf (wpAny_mono (run_own O sb I rv hx (.inr ⟨_, ty, D.k, rfl⟩)) (fun q s' z => ?_) fun _ _ z => z))
  obtain ⟨rfl, I'⟩ := z
  exact wpAny_pure (wpAny_pure ⟨rfl, I'⟩)
end
end K10

namespace K10
open PySem PySem.Spec PyProof.Rows PySem.Calls L2
/-! ### words: tuples of shares, and their == -/
/-- at each of ps stands the share of ws at the same place -/
def ShAll (C : Addr) (H : Hp) (ps : List Addr) (ws : List (Int × Int)) : Prop := ps.length = ws.length ∧ ∀ (i : Nat) (p : Addr) (x : Int × Int), ps[i]? = some p → ws[i]? = some x → ShAt C H p x.1 x.2
theorem ShAll.mono {C : Addr} {H H' : Hp} {ps : List Addr} {ws : List (Int × Int)} (h : ShAll C H ps ws) (s : Same H H') : ShAll C H' ps ws := ⟨h.1, fun i p x a b => (h.2 i p x a b).mono s⟩
theorem ShAll.drop {C : Addr} {H : Hp} {ps : List Addr} {ws : List (Int × Int)} (h : ShAll C H ps ws) (n : Nat) : ShAll C H (ps.drop n) (ws.drop n) :=
  ⟨by rw [List.length_drop, List.length_drop, h.1], fun i p x a b => h.2 (n + i) p x (by rw [← List.getElem?_drop]; exact a) (by rw [← List.getElem?_drop]; exact b)⟩
theorem ShAll.take {C : Addr} {H : Hp} {ps : List Addr} {ws : List (Int × Int)} (h : ShAll C H ps ws) (n : Nat) : ShAll C H (ps.take n) (ws.take n) :=
  ⟨by rw [List.length_take, List.length_take, h.1], fun i p x a b => by
    rw [List.getElem?_take] at a b
    split at a
    · rename_i q
      rw [if_pos q] at b
      exact h.2 i p x a b
    · cases a⟩
section
variable {X : Cx} {n : Nat} {C f : Addr} {A : Around} {pins : List (Addr × Obj)} {s : Shared} {σ : L2.St} {H : Hp}
theorem eqB_two (O : OwnEq X n C f) (sb : Sub X n A) (I : Inv X pins σ H s) {p q : Addr} {x y : Int × Int} (hx : ShAt C H p x.1 x.2) (hy : ShAt C H q y.1 y.2) :
    wpAny (model X.prog X.w) A (eqBool (.ref p) (.ref q)) (fun r s' => r = decide (x = y) ∧ Inv X pins σ H s') X.xe s := by
  by_cases h : p = q
  · subst h
    have e : x = y := by
      obtain ⟨dx, e1⟩ := hx
      obtain ⟨dy, e2⟩ := hy
      have e3 := e1.symm.trans e2
      injection e3 with e3
      injection e3 with _ _ e4
      have a1 := congrArg (fun l => l.lookup ("top" : Str)) e4
      have a2 := congrArg (fun l => l.lookup ("bottom" : Str)) e4
      simp only [shf_top, shf_bottom, Option.some.injEq, V.int.injEq] at a1 a2
      exact Prod.ext a1 a2
    rw [decide_eq_true e]
    exact SeqAt.EqAt.same (A := A) (s := s) (.ref p) X.prog X.w X.xe _ ⟨rfl, I⟩
  · refine GQ.eqBool_refG h (wpAny_mono (rc_two O sb I hx hy) (fun r s' z => ?_) fun _ _ z => z)
    obtain ⟨rfl, I'⟩ := z
    refine ⟨_, rfl, ?_, I'⟩
    rw [← Bool.decide_and]
    refine decide_eq_decide.mpr ⟨fun z => Prod.ext z.1 z.2, fun z => by rw [z]; exact ⟨rfl, rfl⟩⟩
theorem rc_words (O : OwnEq X n C f) (sb : Sub X (n + 1) A) (I : Inv X pins σ H s) {a b : Addr} {ps qs : List Addr} {ws vs : List (Int × Int)} (ha : SqT X.K H a (ps.map V.ref)) (hb : SqT X.K H b (qs.map V.ref)) (hw : ShAll C H ps ws) (hv : ShAll C H qs vs) :
    wpAny (model X.prog X.w) A (richCompare .Eq (.ref a) (.ref b)) (fun q s' => q = .bool (decide (ws = vs)) ∧ Inv X pins σ H s') X.xe s := by
  obtain ⟨its, r, e, z⟩ := I.tuple ha
  obtain ⟨its2, r2, e2, z2⟩ := I.tuple hb
  have l1 : its.length = ws.length := by rw [← r.length, List.length_map, hw.1]
  have l2 : its2.length = vs.length := by rw [← r2.length, List.length_map, hv.1]
  refine rc_tupB sb.room.units0 (fun i s' => Inv X pins σ H s' ∧ ∀ j, j < i → ws[j]? = vs[j]?) e e2 (fun i h1 h2 s' q => ?_) (fun s' q => ?_) ⟨I, fun j hj => absurd hj (Nat.not_lt_zero j)⟩
  · obtain ⟨I', hq⟩ := q
    have h1' : i < its.length := by simpa using h1
    have h2' : i < its2.length := by simpa using h2
    have k1 : i < ps.length := by rw [hw.1]; omega
    have k2 : i < qs.length := by rw [hv.1]; omega
    obtain ⟨u, hu, ru⟩ := r.get (i := i) (x := V.ref ps[i]) (by rw [List.getElem?_map, List.getElem?_eq_getElem k1]; rfl)
    obtain ⟨v, hv', rv⟩ := r2.get (i := i) (x := V.ref qs[i]) (by rw [List.getElem?_map, List.getElem?_eq_getElem k2]; rfl)
    obtain rfl : u = Value.ref ps[i] := ru
    obtain rfl : v = Value.ref qs[i] := rv
    have g1 : its.toArray[i] = Value.ref ps[i] := by
      have : its[i]? = some its.toArray[i] := by rw [List.getElem?_eq_getElem h1'] <;> simp
      rw [this] at hu
      exact Option.some.inj hu
    have g2 : its2.toArray[i] = Value.ref qs[i] := by
      have : its2[i]? = some its2.toArray[i] := by rw [List.getElem?_eq_getElem h2'] <;> simp
      rw [this] at hv'
      exact Option.some.inj hv'
    rw [g1, g2]
    have w1 : i < ws.length := by omega
    have w2 : i < vs.length := by omega
    refine wpAny_mono (eqB_two O sb.in1 I' (hw.2 i _ ws[i] (List.getElem?_eq_getElem k1) (List.getElem?_eq_getElem w1)) (hv.2 i _ vs[i] (List.getElem?_eq_getElem k2) (List.getElem?_eq_getElem w2))) (fun t s2 y => ?_) fun _ _ y => y
    obtain ⟨rfl, I2⟩ := y
    by_cases c : ws[i] = vs[i]
    · refine .inl ⟨decide_eq_true c, I2, fun j hj => ?_⟩
      rcases Nat.lt_succ_iff_lt_or_eq.mp hj with hj | rfl
      · exact hq j hj
      · rw [List.getElem?_eq_getElem w1, List.getElem?_eq_getElem w2, c]
    · refine .inr ⟨decide_eq_false c, ?_, I2⟩
      rw [decide_eq_false (fun q => c (by subst q; rfl))]
  · obtain ⟨I', hq⟩ := q
    refine ⟨?_, I'⟩
    rw [List.size_toArray, List.size_toArray, l1, l2] at hq
    show Value.bool (its.toArray.size == its2.toArray.size) = _
    rw [List.size_toArray, List.size_toArray, l1, l2]
    by_cases c : ws.length = vs.length
    · have e3 : ws = vs := List.ext_getElem? fun i => by
        by_cases hi : i < min ws.length vs.length
        · exact hq i hi
        · rw [List.getElem?_eq_none (by omega), List.getElem?_eq_none (by omega)]
      rw [decide_eq_true e3]
      simp [c]
    · rw [decide_eq_false (fun q => c (by rw [q]))]
      simp [c]
/-- a word == a word -/
def rEqW (K : PySem.W.Frag) (C : Addr) : R2 := fun x y H Q => ∃ (a b : Addr) (ps qs : List Addr) (ws vs : List (Int × Int)), x = .ref a ∧ y = .ref b ∧ SqT K H a (ps.map V.ref) ∧ SqT K H b (qs.map V.ref) ∧ ShAll C H ps ws ∧ ShAll C H qs vs ∧ Q (.bl (decide (ws = vs))) H
theorem op_eqW (O : OwnEq X n C f) (hr : Room (n + 1) X.A) : OpR X (compareOp .Eq) (rEqW X.K C) := by
  intro pins s σ H x y v u Q I rx ry h
  obtain ⟨a, b, ps, qs, ws, vs, rfl, rfl, ha, hb, hw, hv, q⟩ := h
  cases rx
  cases ry
  show wpAny (model X.prog X.w) X.A (richCompare .Eq (.ref a) (.ref b)) (EP X pins σ Q) X.xe s
  refine wpAny_mono (rc_words O ⟨hr, rfl⟩ I ha hb hw hv) (fun r s' z => ?_) fun _ _ z => z
  obtain ⟨rfl, I'⟩ := z
  exact ⟨.bl _, H, I', rfl, q⟩
end
end K10

namespace K10
open PySem PySem.Spec PyProof.Rows PySem.Calls L2
/-! ### t[lo:hi], the whole of it too: then t itself -/
section
variable {prog : Program} {w : World} {A : Around} {E : Value → Shared → Prop} {s : Shared}
theorem getItem_tuple_whole {t sl : Addr} {items : Array Value} {vl vu : Value} {lo hi : Option Int} {Q : Value → Shared → Prop} (ht : IsTup s.heap t items) (hs : s.heap.IsSliceOf sl vl vu .none) (pl : IsPart vl lo) (pu : IsPart vu hi)
    (hw : HT.sIx items.size 0 lo = 0 ∧ HT.sIx items.size items.size hi = items.size) (h : Q (.ref t) s) : wpAny (model prog w) A (getItem (.ref t) (.ref sl)) Q E s := by
  obtain ⟨os, hos, hcs, hds⟩ := id hs
  have hTs : s.TypeIs (.ref sl) "slice" := ⟨os, hos, hcs⟩
  unfold getItem
  try with_reducible refine wpAny_holding ?_
  first | refine wpAny_bind (wpAny_pure ?_) | skip
  refine wpAny_bind (wpAny_sequenceKey ht.typeIs (by decide) ?_)
  refine wpAny_bind (wpAny_callSpecial?_slot (name := Str.ofString "__getitem__") ht.typeIs PyProof.Rows.slot_tuple_getitem
    (wpAny_call_entry PyProof.Rows.slot_tuple_getitem ht.typeIs entry_tuple_getitem ?_ (args_tuple_getitem _ _)))
  show wpAny _ _ (Builtin.Tuple.tupleItemsOf (.ref t) >>= _) _ _ s
  refine wpAny_bind (PyProof.Rows.tupleItemsOf_ ht ?_)
  refine wpAny_bind (wpAny_typeOf hTs ?_)
  rw [if_pos (by decide)]
  refine wpAny_bind (HT.sliceApplied_gen hs pl pu ?_)
  have hyes : ((((HT.sIx items.size 0 lo : Nat) : Int) == 0 && (1 : Int) == 1 && (HT.sIx items.size items.size hi - HT.sIx items.size 0 lo) == items.size) = true) := by
    rw [hw.1, hw.2]
    simp
  show wpAny _ _ (if (((HT.sIx items.size 0 lo : Nat) : Int) == 0 && (1 : Int) == 1 && (HT.sIx items.size items.size hi - HT.sIx items.size 0 lo) == items.size) = true then _ else _) _ _ s
  rw [if_pos hyes]
  obtain ⟨o, ho, hc, n, hd⟩ := id ht
  have hT : s.TypeIs (.ref t) "tuple" := ⟨o, ho, hc⟩
  unfold Builtin.Tuple.tupleIsExact
  refine wpAny_bind (wpAny_bind (wpAny_typeOf hT (wpAny_pure ?_)))
  rw [if_pos (by decide)]
  wp_walk
  exact ⟨_, rfl, wpAny_pure h⟩
end
/-- t[lo:hi]: t itself, or a new one -/
def rSlA (K : PySem.W.Frag) : V → Option Int → Option Int → Hp → VK → Prop := fun x lo hi H Q => ∃ a xs, x = .ref a ∧ SqT K H a xs ∧
  (HT.sIx xs.length 0 lo = 0 ∧ HT.sIx xs.length xs.length hi = xs.length → Q (.ref a) H) ∧ (¬ (HT.sIx xs.length 0 lo = 0 ∧ HT.sIx xs.length xs.length hi = xs.length) → ∀ p, H p = none → Q (.ref p) (upd H p (.tup (cutV xs lo hi))))
theorem sl_tupA {X : Cx} : SlR X (rSlA X.K) := by
  intro pins s σ H x v vl vu lo hi sl Q I rx hs pl pu h
  obtain ⟨a, xs, rfl, hx, hw, q⟩ := h
  by_cases c : HT.sIx xs.length 0 lo = 0 ∧ HT.sIx xs.length xs.length hi = xs.length
  · cases rx
    obtain ⟨its, r, ht, hz⟩ := I.tuple hx
    have hlen : its.toArray.size = xs.length := by rw [List.size_toArray]; exact r.length.symm
    refine ⟨"tuple", _, PyProof.Rows.slot_tuple_getitem.lookup, ht.typeIs, ?_⟩
    exact getItem_tuple_whole ht hs pl pu (by rw [hlen]; exact c) ⟨.ref a, H, I, rfl, hw c⟩
  · exact sl_tup pins s σ H (.ref a) v vl vu lo hi sl Q I rx hs pl pu ⟨a, xs, rfl, hx, c, q c⟩
/-- a slice's part that may be None -/
def tPartN (t : TE) : TO := fun σ H Q => t σ H fun x H1 => (x = .non ∧ Q none H1) ∨ ∃ i, x = .int i ∧ Q (some i) H1
theorem po_any {X : Cx} {e : Expr} {te : TE} (h : PE X e te) : PO X (some e) (tPartN te) := by
  refine ⟨fun pins s σ H Q I hw => ?_⟩
  rw [evalPart_some]
  refine thn (h.run pins s σ H _ I hw) fun u s1 ⟨x, H1, I1, r1, q1⟩ => ?_
  rcases q1 with ⟨rfl, q⟩ | ⟨i, rfl, q⟩
  · cases r1
    exact ⟨none, H1, I1, .none, q⟩
  · obtain ⟨t, rfl⟩ := r1
    exact ⟨some i, H1, I1, .int i t, q⟩
end K10

namespace K10
open PySem PySem.Spec PyProof.Rows L2
/-! ### a word by its least part -/
theorem cut_from {xs : List V} {n : Nat} (h : n ≤ xs.length) : cutV xs (some (n : Int)) none = xs.drop n := by
  unfold cutV
  rw [HT.sIx_nat, HT.sIx_none, Nat.min_eq_left h, List.take_of_length_le (by rw [List.length_drop]; exact Nat.le_refl _)]
theorem cut_to {xs : List V} {n : Nat} : cutV xs none (some (n : Int)) = xs.take n := by
  unfold cutV
  rw [HT.sIx_nat, HT.sIx_none, List.drop_zero, Nat.sub_zero]
  by_cases h : n ≤ xs.length
  · rw [Nat.min_eq_left h]
  · rw [Nat.min_eq_right (by omega), List.take_of_length_le (Nat.le_refl _), List.take_of_length_le (by omega)]
theorem sIx_back {l d n : Nat} (h : 0 < n) : HT.sIx l d (some (-(n : Int))) = l - n := by
  show (if -(n : Int) < 0 then (-(n : Int) + (l : Int)).toNat else min (-(n : Int)).toNat l) = l - n
  rw [if_pos (by omega)]
  omega
theorem cut_back {xs : List V} {n : Nat} (h : 0 < n) : cutV xs none (some (-(n : Int))) = xs.take (xs.length - n) := by
  unfold cutV
  rw [sIx_back h, HT.sIx_none, List.drop_zero, Nat.sub_zero]
/-- ws is its first m, again and again -/
def Per (ws : List (Int × Int)) (m : Nat) : Prop := m ∣ ws.length ∧ ws.drop m = ws.take (ws.length - m)
def Least (ws : List (Int × Int)) (m : Nat) : Prop := 1 ≤ m ∧ Per ws m ∧ ∀ k, 1 ≤ k → k < m → ¬ Per ws k
def spLeast (K : PySem.W.Frag) (C : Addr) : Sp := fun vs H Q _ => ∃ (a : Addr) (ps : List Addr) (ws : List (Int × Int)), vs = [.ref a] ∧ SqT K H a (ps.map V.ref) ∧ ShAll C H ps ws ∧ 1 ≤ ws.length ∧ ws.length ≤ 1000 ∧
  ∀ (H' : Hp) (q : Addr) (m : Nat), Same H H' → Least ws m → SqT K H' q ((ps.take m).map V.ref) → Q (.ref q) H'
theorem same1 {H : Hp} {p : Addr} {o : HO} (h : H p = none) : Same H (upd H p o) := fun b u e => by rw [upd_ne (ne_of_none e h)]; exact e
theorem Same.tup {K : PySem.W.Frag} {H H' : Hp} {a : Addr} {xs : List V} (e : Same H H') (h : SqT K H a xs) : SqT K H' a xs := SqT.ext h e
section
variable {P : Program} {w : World} {K : PySem.W.Frag} {mg : Str → Option Value} {base : Heap}
theorem scLeast : FnScope ["word", "size"] ["word"] (defScope d_least_word) := ⟨rfl, rfl, rfl, by decide +kernel, rfl, by decide +kernel, by decide +kernel⟩
theorem ok_least {f fE C : Addr} {fd fdE : FuncData} (F : Fun K "least_word" "least_word" d_least_word f fd) (B : TxtB mg) (hr_ : mg "range" = none)
    (GE : FnOk P w K mg base CX0 1 fE fdE ["self", "other"] (spEqS K C)) (bE : Binds K fdE ["self", "other"] []) (aE : PySem.W.findIn K (.ref C) "__eq__" = some (some (.ref fE))) (iE : PySem.W.isFn K (.ref fE) = true) :
    FnOk P w K mg base CX0 3 f fd ["word"] (spLeast K C) := by
  refine F.ok scLeast (fun vs H Q E h => ?_) (fun cdv A outer s H vs Q E hr h => ?_)
  · obtain ⟨a, ps, ws, rfl, _⟩ := h
    rfl
  · obtain ⟨a, ps, ws, rfl, ha, hw, l1, l2, kq⟩ := h
    have own : OwnEq (cxOf CX0 P w K mg base ["word", "size"] "least_word" (defScope d_least_word) f cdv A outer s H E).nox 1 C fE := ⟨⟨_, _, GE, bE⟩, aE, iE⟩
    refine ⟨_, pss_cons (ps_for PassesOwn.never rfl (pi_range2 (by rfl) hr_ (pa_cons pe_int (pa_cons (pe_op op_add (pe_op op_fdiv (pe_callB call_len_seq (by rfl) B.len PySem.boot_len (pa_cons (pv 0) pa_nil)) pe_int) pe_int) pa_nil))) (pg_name (i := 1) scLeast.nd rfl (.inl rfl))
        (pss_one (ps_if (PW.pt (pw_and (pt_cmpR op_eq (pe_op op_mod (pe_callB call_len_seq (by rfl) B.len PySem.boot_len (pa_cons (pv 0) pa_nil)) (pv 1)) pe_int (nomark _))
            (pw_and1 (pt_cmpR (op_eqW own hr) (pe_slice sl_tup (pv 0) (po_some (pv 1)) po_none) (pe_slice sl_tup (pv 0) po_none (po_some (pe_un un_neg (pv 1)))) (nomark _)))))
          (pss_one (ps_ret (pe_slice sl_tup (pv 0) po_none (po_some (pv 1))))) pss_nil)))
      (pss_one (ps_ret (pv 0))), ?_⟩
    have lp : (ps.map V.ref).length = ws.length := by rw [List.length_map, hw.1]
    refine ⟨_, rfl, a, _, rfl, .inr ha, _, _, rfl, rfl, ⟨by decide, by decide⟩, _, _, rfl, rfl, 1, _, rfl, ?_, ?_⟩
    · rw [lp]
      exact ⟨by decide, by decide, by omega, by omega⟩
    rw [lp]
    rw [show ((ws.length : Int) / 2 + 1 - 1).toNat = ws.length / 2 from by omega]
    refine for_range (lo := 1) (n := ws.length / 2) (fun i σ G => (∃ v, σ = [some (.ref a), v]) ∧ Same H G ∧ ∀ k, 1 ≤ k → k < 1 + i → ¬ Per ws k) ⟨⟨none, rfl⟩, Same.refl H, fun k h1 h2 => by omega⟩ ?_ ?_
    · rintro i σ G hi ⟨⟨v, rfl⟩, sm, np⟩
      have haG := Same.tup sm ha
      have hwG := hw.mono sm
      refine ⟨_, rfl, a, _, rfl, .inr haG, _, rfl, _, _, rfl, rfl, (by show (0 : Int) < 1 + (i : Int); omega), rfl, _, rfl, ?_⟩
      rw [lp]
      have ed : decide (V.int ((ws.length : Int) % (1 + (i : Int))) = V.int 0) = decide ((1 + i) ∣ ws.length) := by
        refine decide_eq_decide.mpr ?_
        rw [V.int.injEq]
        rw [show (1 + (i : Int)) = ((1 + i : Nat) : Int) from by omega, ← Int.natCast_emod]
        constructor
        · intro q
          exact Nat.dvd_of_mod_eq_zero (by omega)
        · intro q
          rw [Nat.mod_eq_zero_of_dvd q]
          rfl
      rw [ed]
      refine ite2 (fun hd => ?_) (fun hd => ?_)
      · have hd : (1 + i) ∣ ws.length := of_decide_eq_true hd
        have en : (1 + (i : Int)) = ((1 + i : Nat) : Int) := by omega
        have f1 : cutV (ps.map V.ref) (some (1 + (i : Int))) none = (ps.drop (1 + i)).map V.ref := by rw [en, cut_from (by rw [lp]; omega), List.map_drop]
        have f2 : cutV (ps.map V.ref) none (some (-(1 + (i : Int)))) = (ps.take (ws.length - (1 + i))).map V.ref := by rw [en, cut_back (by omega), lp, List.map_take]
        have f3 : cutV (ps.map V.ref) none (some (1 + (i : Int))) = (ps.take (1 + i)).map V.ref := by rw [en, cut_to, List.map_take]
        refine ⟨_, rfl, _, rfl, _, rfl, a, _, rfl, haG, (fun z => by
          have z := z.1
          rw [lp, en, HT.sIx_nat] at z
          omega), fun p hp => ?_⟩
        have s1 : Same G (upd G p (.tup (cutV (ps.map V.ref) (some (1 + (i : Int))) none))) := same1 hp
        have t1 : SqT K (upd G p (.tup (cutV (ps.map V.ref) (some (1 + (i : Int))) none))) p ((ps.drop (1 + i)).map V.ref) := by
          rw [← f1]
          exact SqT.of upd_same
        generalize upd G p (.tup (cutV (ps.map V.ref) (some (1 + (i : Int))) none)) = G1 at *
        refine ⟨_, rfl, _, rfl, _, rfl, _, rfl, a, _, rfl, Same.tup s1 haG, (fun z => by
          have z := z.2
          rw [lp, en, sIx_back (by omega)] at z
          omega), fun p' hp' => ?_⟩
        have s2 : Same G1 (upd G1 p' (.tup (cutV (ps.map V.ref) none (some (-(1 + (i : Int))))))) := same1 hp'
        have t2 : SqT K (upd G1 p' (.tup (cutV (ps.map V.ref) none (some (-(1 + (i : Int))))))) p' ((ps.take (ws.length - (1 + i))).map V.ref) := by
          rw [← f2]
          exact SqT.of upd_same
        generalize upd G1 p' (.tup (cutV (ps.map V.ref) none (some (-(1 + (i : Int)))))) = G2 at *
        have s12 := s1.trans s2
        refine ⟨p, p', _, _, _, _, rfl, rfl, Same.tup s2 t1, t2, (hwG.mono s12).drop (1 + i), (hwG.mono s12).take (ws.length - (1 + i)), _, rfl, ?_⟩
        refine ite2 (fun hp2 => ?_) (fun hp2 => ?_)
        · have pr : Per ws (1 + i) := ⟨hd, of_decide_eq_true hp2⟩
          refine ⟨_, rfl, _, rfl, _, rfl, a, _, rfl, Same.tup s12 haG, (fun z => by
            have z := z.2
            rw [lp, en, HT.sIx_nat] at z
            omega), fun q hq => ?_⟩
          refine kq _ q (1 + i) (sm.trans (s12.trans (same1 hq))) ⟨by omega, pr, np⟩ ?_
          rw [← f3]
          exact SqT.of upd_same
        · refine ⟨⟨_, rfl⟩, sm.trans s12, fun k h1 h2 => ?_⟩
          rcases Nat.lt_or_ge k (1 + i) with h3 | h3
          · exact np k h1 h3
          · have e : k = 1 + i := by omega
            rw [e]
            exact fun pr => hp2 (decide_eq_true pr.2)
      · refine iteF ⟨⟨_, rfl⟩, sm, fun k h1 h2 => ?_⟩
        rcases Nat.lt_or_ge k (1 + i) with h3 | h3
        · exact np k h1 h3
        · have e : k = 1 + i := by omega
          rw [e]
          exact fun pr => hd (decide_eq_true pr.1)
    · rintro σ G ⟨⟨v, rfl⟩, sm, np⟩
      refine ⟨_, rfl, kq G a ws.length sm ⟨l1, ⟨Nat.dvd_refl _, by rw [List.drop_length, Nat.sub_self, List.take_zero]⟩, fun k h1 h2 pr => ?_⟩ ?_⟩
      · refine np k h1 ?_ pr
        obtain ⟨c, hc⟩ := pr.1
        have c2 : 2 ≤ c := by
          rcases c with _ | _ | c
          · omega
          · omega
          · omega
        have := Nat.mul_le_mul_left k c2
        omega
      · rw [List.take_of_length_le (by rw [hw.1]; exact Nat.le_refl _)]
        exact Same.tup sm ha
end
end K10

namespace K10
open PySem PySem.Spec PyProof.Rows L2
/-! ### stretches and spans -/
abbrev W2 := List (Int × Int)
theorem least_one {ws : W2} {m m' : Nat} (h : Least ws m) (h' : Least ws m') : m = m' := by
  rcases Nat.lt_trichotomy m m' with q | q | q
  · exact absurd h.2.1 (h'.2.2 m h.1 q)
  · exact q
  · exact absurd h'.2.1 (h.2.2 m' h'.1 q)
open Classical in
/-- a word's least part -/
noncomputable def leastW (ws : W2) : W2 := if h : ∃ m, Least ws m then ws.take h.choose else ws
theorem leastW_of {ws : W2} {m : Nat} (h : Least ws m) : leastW ws = ws.take m := by
  unfold leastW
  have e : ∃ m, Least ws m := ⟨m, h⟩
  rw [dif_pos e, least_one e.choose_spec h]
def dv : Option Int → V
  | none => .non
  | some n => .int n
/-- the first d, all where d is None -/
def cutO {α : Type} (d : Option Int) (ws : List α) : List α := match d with
  | none => ws
  | some n => ws.take n.toNat
/-- the day on which the i-th stretch begins -/
def bAt (told : List (Option Int × W2)) (i : Nat) : Int := ((told.take i).map fun x => x.1.getD 0).sum
theorem bAt_next {told : List (Option Int × W2)} {i : Nat} {x : Option Int × W2} (h : told[i]? = some x) : bAt told (i + 1) = bAt told i + x.1.getD 0 := by
  unfold bAt
  obtain ⟨hi, e⟩ := List.getElem?_eq_some_iff.mp h
  rw [List.take_succ_eq_append_getElem hi, List.map_append, List.sum_append, e]
  simp
/-- what may be handed in -/
structure Told (told : List (Option Int × W2)) : Prop where
  pos : 1 ≤ told.length
  few : told.length ≤ 60
  word : ∀ (i : Nat) (x : Option Int × W2), told[i]? = some x → 1 ≤ x.2.length ∧ x.2.length ≤ 60
  open_ : ∀ (i : Nat) (x : Option Int × W2), told[i]? = some x → (x.1 = none ↔ i + 1 = told.length)
  days : ∀ (i : Nat) (x : Option Int × W2) (n : Int), told[i]? = some x → x.1 = some n → 1 ≤ n
/-- a word at wa -/
def WordAt (K : PySem.W.Frag) (C : Addr) (H : Hp) (wa : Addr) (ws : W2) : Prop := ∃ ps, SqT K H wa (ps.map V.ref) ∧ ShAll C H ps ws
theorem WordAt.mono {K : PySem.W.Frag} {C : Addr} {H H' : Hp} {wa : Addr} {ws : W2} (h : WordAt K C H wa ws) (s : Same H H') : WordAt K C H' wa ws := by
  obtain ⟨ps, a, b⟩ := h
  exact ⟨ps, Same.tup s a, b.mono s⟩
def StrAt (K : PySem.W.Frag) (C : Addr) (H : Hp) (t : Addr) (x : Option Int × W2) : Prop := ∃ wa, SqT K H t [dv x.1, .ref wa] ∧ WordAt K C H wa x.2
theorem StrAt.mono {K : PySem.W.Frag} {C : Addr} {H H' : Hp} {t : Addr} {x : Option Int × W2} (h : StrAt K C H t x) (s : Same H H') : StrAt K C H' t x := by
  obtain ⟨wa, a, b⟩ := h
  exact ⟨wa, Same.tup s a, b.mono s⟩
def SpanAt (K : PySem.W.Frag) (C : Addr) (H : Hp) (t : Addr) (b : Int) (e : Option Int) (ws : W2) : Prop := ∃ wa, SqT K H t [.int b, dv e, .ref wa] ∧ WordAt K C H wa ws
theorem SpanAt.mono {K : PySem.W.Frag} {C : Addr} {H H' : Hp} {t : Addr} {b : Int} {e : Option Int} {ws : W2} (h : SpanAt K C H t b e ws) (s : Same H H') : SpanAt K C H' t b e ws := by
  obtain ⟨wa, a, b⟩ := h
  exact ⟨wa, Same.tup s a, b.mono s⟩
/-- the i-th span of what was told stands at s -/
def SpanOf (K : PySem.W.Frag) (C : Addr) (H : Hp) (told : List (Option Int × W2)) (i : Nat) (s : Addr) : Prop := ∃ x, told[i]? = some x ∧ SpanAt K C H s (bAt told i) (x.1.map fun n => bAt told i + n) (leastW (cutO x.1 x.2))
def spSpans (K : PySem.W.Frag) (C : Addr) : Sp := fun vs H Q _ => ∃ (a : Addr) (ts : List Addr) (told : List (Option Int × W2)), vs = [.ref a] ∧ SqL K H a (ts.map V.ref) ∧ ts.length = told.length ∧
  (∀ (i : Nat) (t : Addr) (x : Option Int × W2), ts[i]? = some t → told[i]? = some x → StrAt K C H t x) ∧ Told told ∧
  ∀ (H' : Hp) (l : Addr) (ss : List Addr), Same H H' → H l = none → H' l = some (.lst (ss.map V.ref)) → ss.length = told.length → (∀ (i : Nat) (s : Addr), ss[i]? = some s → SpanOf K C H' told i s) → Q (.ref l) H'
theorem cut_any {xs : List V} {d : Option Int} (h : ∀ n, d = some n → 0 ≤ n) : cutV xs none d = cutO d xs := by
  cases d with
  | none =>
    unfold cutV
    rw [HT.sIx_none, HT.sIx_none, List.drop_zero, Nat.sub_zero, List.take_of_length_le (Nat.le_refl _)]
    rfl
  | some n =>
    obtain ⟨k, rfl⟩ : ∃ k : Nat, n = (k : Int) := ⟨n.toNat, (Int.toNat_of_nonneg (h n rfl)).symm⟩
    rw [cut_to]
    show xs.take k = xs.take ((k : Int)).toNat
    rw [Int.toNat_natCast]
theorem cutO_map {α β : Type} (f : α → β) (d : Option Int) (xs : List α) : cutO d (xs.map f) = (cutO d xs).map f := by
  cases d with
  | none => rfl
  | some n => exact (List.map_take).symm
theorem ShAll.cutO {C : Addr} {H : Hp} {ps : List Addr} {ws : W2} (h : ShAll C H ps ws) (d : Option Int) : ShAll C H (K10.cutO d ps) (K10.cutO d ws) := by
  cases d with
  | none => exact h
  | some n => exact h.take _
theorem cutO_all {α : Type} {d : Option Int} {xs : List α} (hd : ∀ n, d = some n → 0 ≤ n) (h : HT.sIx xs.length 0 none = 0 ∧ HT.sIx xs.length xs.length d = xs.length) : cutO d xs = xs := by
  cases d with
  | none => rfl
  | some n =>
    obtain ⟨k, rfl⟩ : ∃ k : Nat, n = (k : Int) := ⟨n.toNat, (Int.toNat_of_nonneg (hd n rfl)).symm⟩
    have h2 := h.2
    rw [HT.sIx_nat] at h2
    show xs.take ((k : Int)).toNat = xs
    rw [Int.toNat_natCast]
    exact List.take_of_length_le (by omega)
/-- word[:days] -/
theorem sl_word {K : PySem.W.Frag} {C : Addr} {H : Hp} {wa : Addr} {ps : List Addr} {ws : W2} {d : Option Int} {Q : VK} (hd : ∀ n, d = some n → 0 ≤ n) (q2 : SqT K H wa (ps.map V.ref)) (q3 : ShAll C H ps ws)
    (k : ∀ (H' : Hp) (wa' : Addr) (ps' : List Addr), Same H H' → SqT K H' wa' (ps'.map V.ref) → ShAll C H' ps' (cutO d ws) → Q (.ref wa') H') : rSlA K (.ref wa) none d H Q := by
  refine ⟨wa, _, rfl, q2, fun z => ?_, fun _ p hp => ?_⟩
  · have e : cutO d ps = ps := cutO_all hd (by rw [List.length_map] at z; exact z)
    have q := q3.cutO d
    rw [e] at q
    exact k H wa ps (Same.refl H) q2 q
  · refine k _ p (cutO d ps) (same1 hp) ?_ ((q3.cutO d).mono (same1 hp))
    rw [cut_any hd, cutO_map]
    exact SqT.of upd_same
theorem part_dv {d : Option Int} {H : Hp} {Q : Option Int → Hp → Prop} (h : Q d H) : (dv d = .non ∧ Q none H) ∨ ∃ i, dv d = .int i ∧ Q (some i) H := by
  cases d with
  | none => exact .inl ⟨rfl, h⟩
  | some n => exact .inr ⟨n, rfl, h⟩
theorem cutO_pos {d : Option Int} {ws : W2} (hd : ∀ n, d = some n → 1 ≤ n) (h : 1 ≤ ws.length) : 1 ≤ (cutO d ws).length := by
  cases d with
  | none => exact h
  | some n =>
    have := hd n rfl
    show 1 ≤ (ws.take n.toNat).length
    rw [List.length_take]
    omega
theorem cutO_le {d : Option Int} {ws : W2} : (cutO d ws).length ≤ ws.length := by
  cases d with
  | none => exact Nat.le_refl _
  | some n =>
    show (ws.take n.toNat).length ≤ _
    rw [List.length_take]
    omega
/-- lists may change, nothing else -/
def Keep (H H' : Hp) : Prop := ∀ b o, H b = some o → (∀ xs, o ≠ .lst xs) → H' b = some o
theorem Keep.tup {K : PySem.W.Frag} {H H' : Hp} {a : Addr} {xs : List V} (k : Keep H H') (h : SqT K H a xs) : SqT K H' a xs :=
  h.elim (fun h => .inl (h.elim (fun h => .inl (k _ _ h (fun _ z => nomatch z))) fun ⟨o, h⟩ => .inr ⟨o, k _ _ h (fun _ z => nomatch z)⟩)) fun h => .inr h
theorem Keep.all {C : Addr} {H H' : Hp} {ps : List Addr} {ws : W2} (k : Keep H H') (h : ShAll C H ps ws) : ShAll C H' ps ws := ⟨h.1, fun i p x a b => by
  obtain ⟨dx, e⟩ := h.2 i p x a b
  exact ⟨dx, k _ _ e (fun _ z => nomatch z)⟩⟩
theorem Keep.span {K : PySem.W.Frag} {C : Addr} {H H' : Hp} {told : List (Option Int × W2)} {i : Nat} {s : Addr} (k : Keep H H') (h : SpanOf K C H told i s) : SpanOf K C H' told i s := by
  obtain ⟨x, e, wa, a, ps, b, c⟩ := h
  exact ⟨x, e, wa, k.tup a, ps, k.tup b, k.all c⟩
theorem SpanOf.mono {K : PySem.W.Frag} {C : Addr} {H H' : Hp} {told : List (Option Int × W2)} {i : Nat} {s : Addr} (h : SpanOf K C H told i s) (k : Same H H') : SpanOf K C H' told i s := Keep.span (fun b o e _ => k b o e) h
theorem keep_lst {H : Hp} {l : Addr} {xs ys : List V} (h : H l = some (.lst xs)) : Keep H (upd H l (.lst ys)) := fun b o e n => by
  rw [upd_ne (fun z => by rw [z, h] at e; exact n _ (Option.some.inj e).symm)]
  exact e
theorem if_stop {d : Option Int} {A B : Prop} (hn : d = none → A) (hs : ∀ n, d = some n → B) : if decide (dv d = V.non) = true then A else B := by
  cases d with
  | none =>
    rw [if_pos (decide_eq_true (show dv none = V.non from rfl))]
    exact hn rfl
  | some n =>
    rw [if_neg (by simp [dv])]
    exact hs n rfl
section
variable {P : Program} {w : World} {K : PySem.W.Frag} {mg : Str → Option Value} {base : Heap}
theorem scSpans : FnScope ["stretches", "spans", "begin", "days", "word", "stop"] ["stretches"] (defScope d_spans_of) := ⟨rfl, rfl, rfl, by decide +kernel, rfl, by decide +kernel, by decide +kernel⟩
theorem ok_spans {f fL C : Addr} {fd fdL : FuncData} (F : Fun K "spans_of" "spans_of" d_spans_of f fd) (GL : FnOk P w K mg base CX0 3 fL fdL ["word"] (spLeast K C)) (mL : mg "least_word" = some (.ref fL)) (kL : PySem.W.keepIn K (.ref fL) = true) (bL : Binds K fdL ["word"] []) :
    FnOk P w K mg base CX0 4 f fd ["stretches"] (spSpans K C) := by
  refine F.ok scSpans (fun vs H Q E h => ?_) (fun cdv A outer s H vs Q E hr h => ?_)
  · obtain ⟨a, ts, told, rfl, _⟩ := h
    rfl
  · obtain ⟨a, ts, told, rfl, ha, lt, hst, ok, kq⟩ := h
    refine ⟨_, pss_cons (ps_set (i := 1) scSpans.nd rfl (Or.inl rfl) (pe_lst pa_nil))
      (pss_cons (ps_set (i := 2) scSpans.nd rfl (Or.inl rfl) pe_int)
      (pss_cons (ps_for PassesOwn.never rfl (pi_list (pv 0)) (pg_tup (by rfl) (pgs_cons (pg_name (i := 3) scSpans.nd rfl (.inl rfl)) (pgs_cons (pg_name (i := 4) scSpans.nd rfl (.inl rfl)) pgs_nil)))
        (pss_cons (ps_set (i := 5) scSpans.nd rfl (Or.inl rfl) (pe_ifExp (pt_cmp (pc_isN (pv 3))) pe_non (pe_op op_add (pv 2) (pv 3))))
        (pss_cons (ps_expr (pe_bm PySem.F.plainAttrs_list PySem.F.slot_list_append PySem.F.type_list_append mt_append (pv 1) (pa_cons (pe_tup (pa_cons (pv 2) (pa_cons (pv 5) (pa_cons (pe_call GL hr rfl mL kL bL .nil pass0 (pa_cons (pe_slice sl_tupA (pv 4) po_none (po_any (pv 3))) pa_nil)) pa_nil)))) pa_nil)))
        (pss_one (ps_set (i := 2) scSpans.nd rfl (Or.inl rfl) (pv 5))))))
      (pss_one (ps_ret (pv 1))))), ?_⟩
    refine ⟨(by show 0 ≤ sizeLine; decide), fun l hl => ?_⟩
    have sm0 : Same H (upd H l (.lst [])) := same1 hl
    refine ⟨_, rfl, a, rfl, ⟨_, sm0.seq ha⟩, for_list (K := K) (a := a) (xs := ts.map V.ref) (fun i σ G => ∃ (ss : List Addr) (vb v3 v4 v5 : Option V), σ = [some (.ref a), some (.ref l), vb, v3, v4, v5] ∧ ss.length = i ∧ G l = some (.lst (ss.map V.ref)) ∧ Same H G ∧
      (∀ (k : Nat) (s : Addr), ss[k]? = some s → SpanOf K C G told k s) ∧ (i < told.length → vb = some (.int (bAt told i)))) ⟨[], _, _, _, _, rfl, rfl, upd_same, sm0, (fun k s (h : ([] : List Addr)[k]? = some s) => by simp at h), fun _ => rfl⟩ ?_ ?_ ?_⟩
    · rintro i σ G _ ⟨ss, _, _, _, _, _, _, _, sm, _⟩
      exact sm.seq ha
    · rintro i x σ G hx ⟨ss, vb, v3, v4, v5, rfl, sl, gl, sm, hsp, hb⟩
      rw [List.getElem?_map] at hx
      obtain ⟨t, ht, rfl⟩ := Option.map_eq_some_iff.mp hx
      have il : i < told.length := by
        have := (List.getElem?_eq_some_iff.mp ht).1
        omega
      have hb := hb il
      subst hb
      obtain ⟨⟨d, ws⟩, hxi⟩ : ∃ x, told[i]? = some x := ⟨_, List.getElem?_eq_getElem il⟩
      obtain ⟨wa, q1, ps, q2, q3⟩ := (hst i t _ ht hxi).mono sm
      have dn : ∀ n, d = some n → 1 ≤ n := fun n e => ok.days i _ n hxi e
      have dn0 : ∀ n, d = some n → 0 ≤ n := fun n e => by have := dn n e; omega
      have ob := ok.open_ i _ hxi
      refine ⟨t, _, rfl, q1, rfl, _, _, rfl, _, _, rfl, rfl, ?_⟩
      refine ⟨_, rfl, _, rfl, if_stop (fun e => ?_) (fun n e => ?_)⟩
      · subst e
        refine ⟨_, rfl, .inl ⟨rfl, _, SqL.of gl⟩, _, rfl, _, rfl, _, rfl, _, rfl, .inl ⟨rfl, sl_word (K := K) (C := C) (d := none) dn0 q2 q3 fun G1 wa' ps' s1 h1 h2 => ?_⟩⟩
        refine ⟨wa', ps', _, rfl, h1, h2, cutO_pos dn (ok.word i _ hxi).1, Nat.le_trans cutO_le (Nat.le_trans (ok.word i _ hxi).2 (by decide)), fun G2 q m s2 hm hq => ?_⟩
        refine ⟨(by show 3 ≤ sizeLine; decide), fun p hp => ?_⟩
        have s3 : Same G (upd G2 p (.tup [.int (bAt told i), .non, .ref q])) := s1.trans (s2.trans (same1 hp))
        have hp3 : SqT K (upd G2 p (.tup [.int (bAt told i), .non, .ref q])) p [.int (bAt told i), .non, .ref q] := SqT.of upd_same
        have hq3 := Same.tup (same1 (o := .tup [.int (bAt told i), .non, .ref q]) hp) hq
        have h3 := (h2.mono s2).mono (same1 (o := .tup [.int (bAt told i), .non, .ref q]) hp)
        generalize upd G2 p (.tup [.int (bAt told i), .non, .ref q]) = G3 at *
        have gl3 := s3 _ _ gl
        refine ⟨l, _, _, rfl, rfl, gl3, (by rw [List.length_map, sl]; exact Nat.lt_of_lt_of_le il (Nat.le_trans ok.few (by show 60 ≤ sizeLine; decide))), ?_⟩
        refine ⟨_, rfl, ss ++ [p], _, _, _, _, rfl, by rw [List.length_append, sl]; rfl, by rw [List.map_append]; exact upd_same, fun b o e => ?_, fun k s hk => ?_, fun hlt => ?_⟩
        · rw [upd_ne (ne_of_none e hl)]
          exact s3 _ _ (sm _ _ e)
        · refine (keep_lst gl3).span ?_
          by_cases hkl : k < ss.length
          · rw [List.getElem?_append_left hkl] at hk
            exact (hsp k s hk).mono s3
          · rw [List.getElem?_append_right (by omega)] at hk
            have k0 : k - ss.length = 0 := by
              have := (List.getElem?_eq_some_iff.mp hk).1
              simp at this
              omega
            rw [k0] at hk
            have ep : p = s := by simpa using hk
            have ki : k = i := by omega
            subst ep ki
            refine ⟨_, hxi, q, hp3, ps'.take m, hq3, ?_⟩
            rw [leastW_of hm]
            exact h3.take m
        · exact absurd (ob.mp rfl) (by omega)
      · subst e
        refine ⟨_, rfl, _, rfl, _, _, rfl, rfl, ?_⟩
        refine ⟨_, rfl, .inl ⟨rfl, _, SqL.of gl⟩, _, rfl, _, rfl, _, rfl, _, rfl, .inr ⟨n, rfl, sl_word (K := K) (C := C) (d := some n) dn0 q2 q3 fun G1 wa' ps' s1 h1 h2 => ?_⟩⟩
        refine ⟨wa', ps', _, rfl, h1, h2, cutO_pos dn (ok.word i _ hxi).1, Nat.le_trans cutO_le (Nat.le_trans (ok.word i _ hxi).2 (by decide)), fun G2 q m s2 hm hq => ?_⟩
        refine ⟨(by show 3 ≤ sizeLine; decide), fun p hp => ?_⟩
        have s3 : Same G (upd G2 p (.tup [.int (bAt told i), .int (bAt told i + n), .ref q])) := s1.trans (s2.trans (same1 hp))
        have hp3 : SqT K (upd G2 p (.tup [.int (bAt told i), .int (bAt told i + n), .ref q])) p [.int (bAt told i), .int (bAt told i + n), .ref q] := SqT.of upd_same
        have hq3 := Same.tup (same1 (o := .tup [.int (bAt told i), .int (bAt told i + n), .ref q]) hp) hq
        have h3 := (h2.mono s2).mono (same1 (o := .tup [.int (bAt told i), .int (bAt told i + n), .ref q]) hp)
        generalize upd G2 p (.tup [.int (bAt told i), .int (bAt told i + n), .ref q]) = G3 at *
        have gl3 := s3 _ _ gl
        refine ⟨l, _, _, rfl, rfl, gl3, (by rw [List.length_map, sl]; exact Nat.lt_of_lt_of_le il (Nat.le_trans ok.few (by show 60 ≤ sizeLine; decide))), ?_⟩
        refine ⟨_, rfl, ss ++ [p], _, _, _, _, rfl, by rw [List.length_append, sl]; rfl, by rw [List.map_append]; exact upd_same, fun b o e => ?_, fun k s hk => ?_, fun hlt => ?_⟩
        · rw [upd_ne (ne_of_none e hl)]
          exact s3 _ _ (sm _ _ e)
        · refine (keep_lst gl3).span ?_
          by_cases hkl : k < ss.length
          · rw [List.getElem?_append_left hkl] at hk
            exact (hsp k s hk).mono s3
          · rw [List.getElem?_append_right (by omega)] at hk
            have k0 : k - ss.length = 0 := by
              have := (List.getElem?_eq_some_iff.mp hk).1
              simp at this
              omega
            rw [k0] at hk
            have ep : p = s := by simpa using hk
            have ki : k = i := by omega
            subst ep ki
            refine ⟨_, hxi, q, hp3, ps'.take m, hq3, ?_⟩
            rw [leastW_of hm]
            exact h3.take m
        · rw [bAt_next hxi]
          rfl
    · rintro σ G ⟨ss, vb, v3, v4, v5, rfl, sl, gl, sm, hsp, hb⟩
      refine ⟨_, rfl, kq G l ss sm hl gl (by rw [sl, List.length_map, lt]) hsp⟩
end
end K10

namespace K10
open PySem PySem.Spec PyProof.Rows L2
/-! ### the share on a day -/
def spShareOn (K : PySem.W.Frag) (C : Addr) : Sp := fun vs H Q _ => ∃ (s : Addr) (day b : Int) (e : Option Int) (ws : W2), vs = [.ref s, .int day] ∧ SpanAt K C H s b e ws ∧ 1 ≤ ws.length ∧
  ∀ (p : Addr) (x : Int × Int), ws[((day - b) % (ws.length : Int)).toNat]? = some x → ShAt C H p x.1 x.2 → Q (.ref p) H
section
variable {P : Program} {w : World} {K : PySem.W.Frag} {mg : Str → Option Value} {base : Heap}
theorem scShareOn : FnScope ["span", "day", "begin", "_", "word"] ["span", "day"] (defScope d_share_on) := ⟨rfl, rfl, rfl, by decide +kernel, rfl, by decide +kernel, by decide +kernel⟩
theorem ok_share_on {f C : Addr} {fd : FuncData} (F : Fun K "share_on" "share_on" d_share_on f fd) (B : TxtB mg) : FnOk P w K mg base CX0 1 f fd ["span", "day"] (spShareOn K C) := by
  refine F.ok scShareOn (fun vs H Q E h => ?_) (fun cdv A outer s H vs Q E hr h => ?_)
  · obtain ⟨s, day, b, e, ws, rfl, _⟩ := h
    rfl
  · obtain ⟨t, day, b, e, ws, rfl, ⟨wa, q1, ps, q2, q3⟩, l1, kq⟩ := h
    refine ⟨_, pss_cons (ps_asg (pv 0) (pg_tup (by rfl) (pgs_cons (pg_name (i := 2) scShareOn.nd rfl (.inl rfl)) (pgs_cons (pg_name (i := 3) scShareOn.nd rfl (.inl rfl)) (pgs_cons (pg_name (i := 4) scShareOn.nd rfl (.inl rfl)) pgs_nil)))))
      (pss_one (ps_ret (pe_ix ix_tup (pv 4) (pe_op op_mod (pe_op op_sub (pv 1) (pv 2)) (pe_callB call_len_seq (by rfl) B.len PySem.boot_len (pa_cons (pv 4) pa_nil))) (fun _ _ => rfl)))), ?_⟩
    have lp : (ps.map V.ref).length = ws.length := by rw [List.length_map, q3.1]
    refine ⟨_, rfl, t, _, rfl, q1, rfl, _, _, rfl, _, _, rfl, _, _, rfl, rfl, ?_⟩
    refine ⟨_, rfl, _, rfl, _, rfl, _, _, rfl, rfl, _, rfl, wa, _, rfl, .inr q2, _, _, rfl, rfl, (by rw [lp]; omega), ?_⟩
    rw [lp]
    have n0 := Int.emod_nonneg (day - b) (show (ws.length : Int) ≠ 0 by omega)
    have n1 := Int.emod_lt_of_pos (day - b) (show (0 : Int) < (ws.length : Int) by omega)
    have hk : ((day - b) % (ws.length : Int)).toNat < ws.length := by omega
    have hk' : ((day - b) % (ws.length : Int)).toNat < ps.length := by rw [q3.1]; exact hk
    refine ⟨wa, _, _, .ref (ps[((day - b) % (ws.length : Int)).toNat]), rfl, rfl, q2, at_k n0 (by rw [List.getElem?_map, List.getElem?_eq_getElem hk']; rfl), ?_⟩
    exact kq _ _ (List.getElem?_eq_getElem hk) (q3.2 _ _ _ (List.getElem?_eq_getElem hk') (List.getElem?_eq_getElem hk))
end
end K10

namespace K10
open PySem PySem.Spec PyProof.Rows L2
/-! ### the number of the span of a day -/
theorem bAt_zero (told : List (Option Int × W2)) : bAt told 0 = 0 := rfl
theorem bAt_mono {told : List (Option Int × W2)} (ok : Told told) : ∀ (n i : Nat), i + n < told.length → bAt told i ≤ bAt told (i + n)
  | 0, i, _ => Int.le_refl _
  | n + 1, i, h => by
    have ih := bAt_mono ok n i (by omega)
    have hx : told[i + n]? = some told[i + n] := List.getElem?_eq_getElem (by omega)
    have e := bAt_next hx
    have ob := ok.open_ _ _ hx
    cases q : told[i + n].1 with
    | none => exact absurd (ob.mp q) (by omega)
    | some d =>
      have := ok.days _ _ d hx q
      rw [q] at e
      rw [show i + (n + 1) = i + n + 1 from rfl, e]
      show bAt told i ≤ bAt told (i + n) + d
      omega
/-- the number of the stretch of a day -/
def NumOf (told : List (Option Int × W2)) (day : Int) (k : Nat) : Prop := k < told.length ∧ bAt told k ≤ day ∧ ∀ j, k < j → j < told.length → day < bAt told j
def spNumOn (K : PySem.W.Frag) (C : Addr) : Sp := fun vs H Q _ => ∃ (l : Addr) (day : Int) (ss : List Addr) (told : List (Option Int × W2)), vs = [.ref l, .int day] ∧ SqL K H l (ss.map V.ref) ∧ ss.length = told.length ∧ Told told ∧
  (∀ (i : Nat) (s : Addr), ss[i]? = some s → SpanOf K C H told i s) ∧ 0 ≤ day ∧
  ∀ k : Nat, NumOf told day k → Q (.int k) H
def gapOf : L2.St → Nat
  | [_, _, some (.int a), some (.int b), _] => (b - a).toNat
  | _ => 0
section
variable {P : Program} {w : World} {K : PySem.W.Frag} {mg : Str → Option Value} {base : Heap}
abbrev numOnN : List Str := ["spans", "day", "first", "last", "middle"]
theorem scNumOn : FnScope numOnN ["spans", "day"] (defScope d_number_on) := ⟨rfl, rfl, rfl, by decide +kernel, rfl, by decide +kernel, by decide +kernel⟩
theorem ok_num_on {f C : Addr} {fd : FuncData} (F : Fun K "number_on" "number_on" d_number_on f fd) (B : TxtB mg) : FnOk P w K mg base CX0 1 f fd ["spans", "day"] (spNumOn K C) := by
  refine F.ok scNumOn (fun vs H Q E h => ?_) (fun cdv A outer s H vs Q E hr h => ?_)
  · obtain ⟨l, day, ss, told, rfl, _⟩ := h
    rfl
  · obtain ⟨l, day, ss, told, rfl, hl, le, ok, hsp, d0, kq⟩ := h
    refine ⟨_, pss_cons (ps_par (i := 2) (j := 3) rfl scNumOn.nd rfl rfl (by decide) rfl rfl (pa_cons pe_int (pa_cons (pe_op op_sub (pe_callB call_len_seq (by rfl) B.len PySem.boot_len (pa_cons (pv 0) pa_nil)) pe_int) pa_nil)) (by rfl))
      (pss_cons (ps_while PassesOwn.never (pt_cmpR op_lt (pv 2) (pv 3) (nomark _))
        (pss_cons (ps_set (i := 4) scNumOn.nd rfl (Or.inl rfl) (pe_op op_fdiv (pe_op op_add (pe_op op_add (pv 2) (pv 3)) pe_int) pe_int))
        (pss_one (ps_if (pt_cmpR op_le (pe_ix ix_tup (pe_ix ix_list (pv 0) (pv 4) (fun _ _ => rfl)) pe_int (fun _ _ => rfl)) (pv 1) (nomark _))
          (pss_one (ps_set (i := 2) scNumOn.nd rfl (Or.inl rfl) (pv 4)))
          (pss_one (ps_set (i := 3) scNumOn.nd rfl (Or.inl rfl) (pe_op op_sub (pv 4) pe_int)))))))
      (pss_one (ps_ret (pv 2)))), ?_⟩
    have lp : (ss.map V.ref).length = told.length := by rw [List.length_map, le]
    have l1 := ok.pos
    have l60 := ok.few
    refine ⟨_, rfl, l, _, rfl, .inl hl, _, _, rfl, rfl, _, _, rfl, ?_⟩
    rw [lp]
    refine while_by (fun σ H' => H' = H ∧ ∃ (a b : Nat) (v : Option V), σ = [some (.ref l), some (.int day), some (.int (a : Int)), some (.int (b : Int)), v] ∧ a ≤ b ∧ b < told.length ∧ bAt told a ≤ day ∧ ∀ j, b < j → j < told.length → day < bAt told j) (fun σ _ => gapOf σ) ⟨rfl, 0, told.length - 1, none, ?_, by omega, by omega, (by rw [bAt_zero]; exact d0), fun j h1 h2 => absurd h1 (by omega)⟩ ?_ ?_
    · rw [show ((told.length - 1 : Nat) : Int) = (told.length : Int) - 1 from by omega]
      rfl
    · rintro σ H' ⟨rfl, a, b, v, rfl, ab, bl, ha, hb⟩
      refine ⟨_, rfl, _, rfl, _, _, rfl, rfl, _, rfl, ?_⟩
      by_cases c : a < b
      · rw [decide_eq_true (show (a : Int) < (b : Int) by omega)]
        refine iteT ?_
        refine ⟨_, rfl, _, rfl, _, _, rfl, rfl, _, _, rfl, rfl, _, _, rfl, rfl, ⟨by decide, by decide⟩, ?_⟩
        obtain ⟨m, hm⟩ : ∃ m : Nat, ((a : Int) + (b : Int) + 1) / 2 = (m : Int) := ⟨(a + b + 1) / 2, by omega⟩
        show gName 4 (V.int (((a : Int) + (b : Int) + 1) / 2)) _ _ _
        rw [hm]
        have m1 : a < m ∧ m ≤ b := by omega
        have hs : m < ss.length := by omega
        obtain ⟨x, hx, wa, q1, _⟩ := hsp m _ (List.getElem?_eq_getElem hs)
        refine ⟨_, rfl, _, rfl, l, _, _, .ref ss[m], rfl, rfl, hl, at_k (by omega) (by rw [List.getElem?_map, Int.toNat_natCast, List.getElem?_eq_getElem hs]; rfl), ?_⟩
        refine ⟨_, _, _, .int (bAt told m), rfl, rfl, q1, at_k (by decide) rfl, _, rfl, _, _, rfl, rfl, _, rfl, ?_⟩
        refine ite2 (fun h => ?_) (fun h => ?_)
        · have h : bAt told m ≤ day := of_decide_eq_true h
          refine ⟨_, rfl, ⟨rfl, m, b, _, rfl, m1.2, bl, h, hb⟩, ?_⟩
          show ((b : Int) - (m : Int)).toNat < ((b : Int) - (a : Int)).toNat
          omega
        · have h : ¬ bAt told m ≤ day := fun z => h (decide_eq_true z)
          refine ⟨_, rfl, _, _, rfl, rfl, ⟨rfl, a, m - 1, some (.int (m : Int)), ?_, by omega, by omega, ha, fun j h1 h2 => ?_⟩, ?_⟩
          · rw [show ((m - 1 : Nat) : Int) = (m : Int) - 1 from by omega]
            rfl
          · have := bAt_mono ok (j - m) m (by omega)
            rw [show m + (j - m) = j from by omega] at this
            omega
          · show ((m : Int) - 1 - (a : Int)).toNat < ((b : Int) - (a : Int)).toNat
            omega
      · rw [decide_eq_false (show ¬ (a : Int) < (b : Int) by omega)]
        refine iteF ?_
        have e : a = b := by omega
        subst e
        exact ⟨_, rfl, kq a ⟨bl, ha, hb⟩⟩
    · intro σ H' Q1 Q2 m h
      obtain ⟨v, e, v', e', i, j, e1, e2, k, ek, q⟩ := h
      exact ⟨v, e, v', e', i, j, e1, e2, k, ek, m _ _ q⟩
end
end K10

namespace K10
open PySem PySem.Spec PyProof.Rows L2
/-! ### a word by its least part is the word -/
theorem per_at {ws : W2} {m : Nat} (hp : Per ws m) (h1 : 1 ≤ m) : ∀ i, i < ws.length → ws[i]? = (ws.take m)[i % m]? := by
  intro i
  induction i using Nat.strongRecOn with
  | _ i ih =>
    intro hi
    by_cases c : i < m
    · rw [Nat.mod_eq_of_lt c, List.getElem?_take_of_lt c]
    · have e : ws[i]? = (ws.drop m)[i - m]? := by
        rw [List.getElem?_drop]
        congr 1
        omega
      rw [e, hp.2, List.getElem?_take_of_lt (by omega), ih (i - m) (by omega) (by omega)]
      congr 1
      exact (Nat.mod_eq_sub_mod (by omega)).symm
theorem per_all (ws : W2) : Per ws ws.length := ⟨Nat.dvd_refl _, by rw [List.drop_length, Nat.sub_self, List.take_zero]⟩
theorem least_from {ws : W2} : ∀ k, 1 ≤ k → Per ws k → ∃ m, Least ws m := by
  intro k
  induction k using Nat.strongRecOn with
  | _ k ih =>
    intro h1 hp
    by_cases c : ∃ j, 1 ≤ j ∧ j < k ∧ Per ws j
    · obtain ⟨j, a, b, d⟩ := c
      exact ih j b a d
    · exact ⟨k, h1, hp, fun j a b d => c ⟨j, a, b, d⟩⟩
theorem least_ex {ws : W2} (h : 1 ≤ ws.length) : ∃ m, Least ws m := least_from ws.length h (per_all ws)
theorem leastW_len {ws : W2} (h : 1 ≤ ws.length) : 1 ≤ (leastW ws).length ∧ (leastW ws).length ∣ ws.length := by
  obtain ⟨m, hm⟩ := least_ex h
  have hd := hm.2.1.1
  have hle := Nat.le_of_dvd h hd
  rw [leastW_of hm, List.length_take, Nat.min_eq_left hle]
  exact ⟨hm.1, hd⟩
theorem leastW_at {ws : W2} (h : 1 ≤ ws.length) (x : Nat) : (leastW ws)[x % (leastW ws).length]? = ws[x % ws.length]? := by
  obtain ⟨m, hm⟩ := least_ex h
  have hd := hm.2.1.1
  have hle := Nat.le_of_dvd h hd
  rw [leastW_of hm, List.length_take, Nat.min_eq_left hle, per_at hm.2.1 hm.1 _ (Nat.mod_lt _ (by omega)), Nat.mod_mod_of_dvd _ hd]
/-- the share of a day, as it is told -/
def onV : List (Option Int × W2) → Int → Option (Int × Int)
  | [], _ => none
  | (d, ws) :: r, day => match d with
    | none => ws[(day % (ws.length : Int)).toNat]?
    | some n => if day < n then ws[(day % (ws.length : Int)).toNat]? else onV r (day - n)
theorem bAt_cons (x : Option Int × W2) (r : List (Option Int × W2)) (k : Nat) : bAt (x :: r) (k + 1) = x.1.getD 0 + bAt r k := by
  unfold bAt
  simp
/-- within the k-th stretch -/
theorem onV_at : ∀ (told : List (Option Int × W2)) (k : Nat) (d : Option Int) (ws : W2) (day : Int), told[k]? = some (d, ws) → (∀ j x, j < k → told[j]? = some x → ∃ n, x.1 = some n ∧ 1 ≤ n) → bAt told k ≤ day → (∀ n, d = some n → day < bAt told k + n) →
    onV told day = ws[((day - bAt told k) % (ws.length : Int)).toNat]?
  | [], k, d, ws, day, h, _, _, _ => by simp at h
  | x :: r, 0, d, ws, day, h, _, hb, hn => by
    have e : x = (d, ws) := by simpa using h
    subst e
    show onV ((d, ws) :: r) day = _
    rw [bAt_zero, Int.sub_zero]
    cases d with
    | none => rfl
    | some n =>
      have := hn n rfl
      rw [bAt_zero] at this
      show (if day < n then _ else _) = _
      rw [if_pos (by omega)]
  | x :: r, k + 1, d, ws, day, h, hp, hb, hn => by
    obtain ⟨n, e, n1⟩ := hp 0 x (Nat.succ_pos k) rfl
    obtain ⟨dx, wx⟩ := x
    have e : dx = some n := e
    subst e
    have hb0 : 0 ≤ bAt r k := by
      have : ∀ (l : List (Option Int × W2)) (k : Nat), (∀ j x, j < k → l[j]? = some x → ∃ n, x.1 = some n ∧ 1 ≤ n) → 0 ≤ bAt l k := by
        intro l
        induction l with
        | nil =>
          intro k _
          unfold bAt
          simp
        | cons y l ih =>
          intro k hq
          cases k with
          | zero => rw [bAt_zero]; exact Int.le_refl _
          | succ k =>
            rw [bAt_cons]
            obtain ⟨n', e', n1'⟩ := hq 0 y (Nat.succ_pos k) rfl
            have := ih k (fun j x hj hx => hq (j + 1) x (by omega) (by simpa using hx))
            rw [e']
            show 0 ≤ n' + bAt l k
            omega
      exact this r k (fun j x hj hx => hp (j + 1) x (by omega) (by simpa using hx))
    rw [bAt_cons] at hb hn ⊢
    have hb' : n + bAt r k ≤ day := hb
    show (if day < n then _ else onV r (day - n)) = _
    rw [if_neg (by omega), onV_at r k d ws (day - n) (by simpa using h) (fun j x hj hx => hp (j + 1) x (by omega) (by simpa using hx)) (by omega) (fun m hm => by
      have : day < n + bAt r k + m := hn m hm
      omega)]
    show _ = ws[((day - (n + bAt r k)) % (ws.length : Int)).toNat]?
    rw [show day - n - bAt r k = day - (n + bAt r k) from by omega]
/-- the least part of what is told within the stretch gives the same share -/
theorem cut_at {d : Option Int} {ws : W2} {x : Int} (h1 : 1 ≤ ws.length) (hd : ∀ n, d = some n → 1 ≤ n) (x0 : 0 ≤ x) (hx : ∀ n, d = some n → x < n) :
    (leastW (cutO d ws))[(x % ((leastW (cutO d ws)).length : Int)).toNat]? = ws[(x % (ws.length : Int)).toNat]? := by
  obtain ⟨y, rfl⟩ : ∃ y : Nat, x = (y : Int) := ⟨x.toNat, (Int.toNat_of_nonneg x0).symm⟩
  rw [← Int.natCast_emod, ← Int.natCast_emod, Int.toNat_natCast, Int.toNat_natCast, leastW_at (cutO_pos hd h1)]
  cases d with
  | none => rfl
  | some n =>
    have h2 := hd n rfl
    have h3 := hx n rfl
    show (ws.take n.toNat)[y % (ws.take n.toNat).length]? = _
    rw [List.length_take]
    by_cases c : n.toNat ≤ ws.length
    · rw [Nat.min_eq_left c, Nat.mod_eq_of_lt (show y < n.toNat by omega), Nat.mod_eq_of_lt (show y < ws.length by omega), List.getElem?_take_of_lt (by omega)]
    · rw [Nat.min_eq_right (by omega), List.take_of_length_le (by omega)]
end K10

namespace K10
open PySem PySem.Spec PyProof.Rows L2
/-! ### is_whole of anything, is_day, on -/
/-- what a value is, for is_whole: its type, and whether that is int, bool -/
def Kind (K : PySem.W.Frag) (H : Hp) (v : V) (bi bb : Bool) : Prop := ∃ t, TyX K H v t ∧ PySem.W.kitOne K t (.type "int") = some bi ∧ PySem.W.kitOne K t (.type "bool") = some bb
def spWholeX (K : PySem.W.Frag) : Sp := fun vs H Q _ => ∃ (v : V) (bi bb : Bool), vs = [v] ∧ Kind K H v bi bb ∧ Q (.bl (bi && !bb)) H
theorem kind_int {K : PySem.W.Frag} {H : Hp} (i : Int) : Kind K H (.int i) true false := ⟨_, TyX.base (TyOf.int i), kit_ty (by decide +kernel), kit_ty (by decide +kernel)⟩
def spBetween (K : PySem.W.Frag) : Sp := fun vs H Q _ => ∃ (v : V) (a b : Int) (bi bb : Bool), vs = [v, .int a, .int b] ∧ Kind K H v bi bb ∧ ((∃ i, v = .int i ∧ bi = true ∧ bb = false ∧ Q (.bl (decide (a ≤ i) && decide (i ≤ b))) H) ∨ ((bi && !bb) = false ∧ Q (.bl false) H))
def spDay (K : PySem.W.Frag) : Sp := fun vs H Q _ => ∃ (v : V) (bi bb : Bool), vs = [v] ∧ Kind K H v bi bb ∧ ((∃ i, v = .int i ∧ bi = true ∧ bb = false ∧ Q (.bl (decide (0 ≤ i) && decide (i ≤ 1000000000000000))) H) ∨ ((bi && !bb) = false ∧ Q (.bl false) H))
section
variable {P : Program} {w : World} {K : PySem.W.Frag} {mg : Str → Option Value} {base : Heap}
theorem ok_wholeX {f : Addr} {fd : FuncData} (F : Fun K "is_whole" "is_whole" d_is_whole f fd) (h1 : mg "isinstance" = none) (h2 : mg "int" = none) (h3 : mg "bool" = none) : FnOk P w K mg base CX0 1 f fd ["thing"] (spWholeX K) := by
  refine F.ok scWhole (fun vs H Q E h => ?_) (fun cdv A outer s H vs Q E hr h => ?_)
  · obtain ⟨v, _, _, rfl, _⟩ := h
    rfl
  · obtain ⟨v, bi, bb, rfl, ⟨t, ht, k1, k2⟩, kq⟩ := h
    refine ⟨_, pss_one (ps_ret (pe_and (pe_callB call_isi (by rfl) h1 (by decide +kernel) (pa_cons (pv 0) (pa_cons (pe_bltn (v := .ty "int") (by rfl) h2 (by decide +kernel) rfl) pa_nil)))
      (pe_one (pe_not (pe_callB call_isi (by rfl) h1 (by decide +kernel) (pa_cons (pv 0) (pa_cons (pe_bltn (v := .ty "bool") (by rfl) h3 (by decide +kernel) rfl) pa_nil))))))), ?_⟩
    refine ⟨_, rfl, _, _, t, _, bi, rfl, ClsV.ty _, ht, k1, bi, rfl, ?_⟩
    cases bi with
    | false => exact iteF kq
    | true => exact iteT ⟨_, rfl, _, _, t, _, bb, rfl, ClsV.ty _, ht, k2, bb, rfl, kq⟩
theorem scBetween : FnScope ["thing", "least", "most"] ["thing", "least", "most"] (defScope d_is_between) := ⟨rfl, rfl, rfl, by decide +kernel, rfl, by decide +kernel, by decide +kernel⟩
theorem ok_between {f fW : Addr} {fd fdW : FuncData} (F : Fun K "is_between" "is_between" d_is_between f fd) (GW : FnOk P w K mg base CX0 1 fW fdW ["thing"] (spWholeX K)) (mW : mg "is_whole" = some (.ref fW)) (kW : PySem.W.keepIn K (.ref fW) = true) (bW : Binds K fdW ["thing"] []) :
    FnOk P w K mg base CX0 2 f fd ["thing", "least", "most"] (spBetween K) := by
  refine F.ok scBetween (fun vs H Q E h => ?_) (fun cdv A outer s H vs Q E hr h => ?_)
  · obtain ⟨v, _, _, _, _, rfl, _⟩ := h
    rfl
  · obtain ⟨v, a, b, bi, bb, rfl, hk, kq⟩ := h
    refine ⟨_, pss_one (ps_ret (pe_and (pe_call GW hr rfl mW kW bW .nil pass0 (pa_cons (pv 0) pa_nil)) (pe_one (pe_chain op_le op_le (pv 1) (pv 0) (pv 2))))), ?_⟩
    refine ⟨_, rfl, v, bi, bb, rfl, hk, bi && !bb, rfl, ?_⟩
    rcases kq with ⟨i, rfl, rfl, rfl, q⟩ | ⟨e, q⟩
    · refine iteT ⟨_, rfl, _, rfl, _, _, rfl, rfl, _, rfl, ?_⟩
      refine ite2 (fun h => ?_) (fun h => ?_)
      · refine ⟨_, rfl, _, _, rfl, rfl, ?_⟩
        rw [h] at q
        exact q
      · rw [show decide (a ≤ i) = false from by simpa using h] at q
        exact q
    · rw [e]
      exact iteF q
theorem scDay : FnScope ["thing"] ["thing"] (defScope d_is_day) := ⟨rfl, rfl, rfl, by decide +kernel, rfl, by decide +kernel, by decide +kernel⟩
theorem ok_day {f fW : Addr} {fd fdW : FuncData} {tk : Tok} (F : Fun K "is_day" "is_day" d_is_day f fd) (GW : FnOk P w K mg base CX0 2 fW fdW ["thing", "least", "most"] (spBetween K)) (mW : mg "is_between" = some (.ref fW)) (kW : PySem.W.keepIn K (.ref fW) = true) (bW : Binds K fdW ["thing", "least", "most"] [])
    (hL : mg "LAST_DAY" = some (.int 1000000000000000 tk)) : FnOk P w K mg base CX0 3 f fd ["thing"] (spDay K) := by
  refine F.ok scDay (fun vs H Q E h => ?_) (fun cdv A outer s H vs Q E hr h => ?_)
  · obtain ⟨v, _, _, rfl, _⟩ := h
    rfl
  · obtain ⟨v, bi, bb, rfl, hk, kq⟩ := h
    refine ⟨_, pss_one (ps_ret (pe_call GW hr rfl mW kW bW .nil pass0 (pa_cons (pv 0) (pa_cons pe_int (pa_cons (pe_glob (v := .int 1000000000000000) rfl hL ⟨tk, rfl⟩) pa_nil))))), ?_⟩
    exact ⟨_, rfl, v, 0, 1000000000000000, bi, bb, rfl, hk, kq⟩
end
end K10

namespace K10
open PySem PySem.Spec PyProof.Rows L2
/-! ### a course, and on -/
/-- an error's class, raised with a text -/
structure ErrC (K : PySem.W.Frag) (mg : Str → Option Value) (x : Str) (CN : Addr) : Prop where
  gN : mg x = some (.ref CN)
  xN : PySem.W.excIn K CN [.type "ValueError", .type "Exception", .type "BaseException", .type "object"] "ValueError.__new__" = true
  kN : PySem.W.keepIn K (.ref CN) = true
  bN : PySem.W.subIn K (.ref CN) (.type "BaseException") = some true
  tN : PySem.W.typeIn K (.ref CN) = some (.type "type")
structure CrsC (K : PySem.W.Frag) (CC : Addr) : Prop where
  cl : L2.Cls K CC
  no : NoAttr K CC "spans"
def crs (l : Addr) : List (Str × V) := putF "spans" (.ref l) []
theorem crs_spans (l : Addr) : (crs l).lookup ("spans" : Str) = some (.ref l) := by
  unfold crs
  rw [lookup_putF, if_pos rfl]
def CourseAt (K : PySem.W.Frag) (C CC : Addr) (H : Hp) (c : Addr) (told : List (Option Int × W2)) : Prop := ∃ (dx l : Addr) (ss : List Addr), H c = some (.ins CC dx (crs l)) ∧ SqL K H l (ss.map V.ref) ∧ ss.length = told.length ∧
  (∀ (i : Nat) (s : Addr), ss[i]? = some s → SpanOf K C H told i s) ∧ Told told
theorem CourseAt.mono {K : PySem.W.Frag} {C CC : Addr} {H H' : Hp} {c : Addr} {told : List (Option Int × W2)} (h : CourseAt K C CC H c told) (s : Same H H') : CourseAt K C CC H' c told := by
  obtain ⟨dx, l, ss, a, b, e, g, t⟩ := h
  exact ⟨dx, l, ss, s _ _ a, s.seq b, e, fun i x hx => (g i x hx).mono s, t⟩
def spOn (K : PySem.W.Frag) (C CC CD : Addr) : Sp := fun vs H Q E => ∃ (c : Addr) (v : V) (told : List (Option Int × W2)) (bi bb : Bool), vs = [.ref c, v] ∧ CourseAt K C CC H c told ∧ Kind K H v bi bb ∧
  ((∃ i, v = .int i ∧ bi = true ∧ bb = false ∧ 0 ≤ i ∧ i ≤ 1000000000000000 ∧ ∀ (H' : Hp) (p : Addr) (x : Int × Int), Same H H' → onV told i = some x → ShAt C H' p x.1 x.2 → Q (.ref p) H') ∨
    (((∃ i, v = .int i ∧ bi = true ∧ bb = false ∧ ¬ (0 ≤ i ∧ i ≤ 1000000000000000)) ∨ (bi && !bb) = false) ∧ E (.ref CD) none H))
/-- before the last stretch all have an end -/
theorem Told.ends {told : List (Option Int × W2)} (h : Told told) {j k : Nat} {x : Option Int × W2} (hj : j < k) (hk : k < told.length) (hx : told[j]? = some x) : ∃ n, x.1 = some n ∧ 1 ≤ n := by
  cases e : x.1 with
  | none => exact absurd ((h.open_ j x hx).mp e) (by omega)
  | some n => exact ⟨n, rfl, h.days j x n hx e⟩
section
variable {P : Program} {w : World} {K : PySem.W.Frag} {mg : Str → Option Value} {base : Heap}
theorem scOn : FnScope ["course", "day"] ["course", "day"] (defScope d_on) := ⟨rfl, rfl, rfl, by decide +kernel, rfl, by decide +kernel, by decide +kernel⟩
theorem ok_on {f fD fS fH C CC CD : Addr} {fd fdD fdS fdH : FuncData} (F : Fun K "on" "on" d_on f fd) (TC : CrsC K CC) (TD : ErrC K mg "NoDay" CD)
    (GD : FnOk P w K mg base CX0 3 fD fdD ["thing"] (spDay K)) (mD : mg "is_day" = some (.ref fD)) (kD : PySem.W.keepIn K (.ref fD) = true) (bD : Binds K fdD ["thing"] [])
    (GS : FnOk P w K mg base CX0 1 fS fdS ["spans", "day"] (spNumOn K C)) (mS : mg "number_on" = some (.ref fS)) (kS : PySem.W.keepIn K (.ref fS) = true) (bS : Binds K fdS ["spans", "day"] [])
    (GH : FnOk P w K mg base CX0 1 fH fdH ["span", "day"] (spShareOn K C)) (mH : mg "share_on" = some (.ref fH)) (kH : PySem.W.keepIn K (.ref fH) = true) (bH : Binds K fdH ["span", "day"] []) :
    FnOk P w K mg base (L2.CX P w) 4 f fd ["course", "day"] (spOn K C CC CD) := by
  refine F.okX scOn (fun vs H Q E h => ?_) (fun cdv A outer s H vs Q E hr h => ?_)
  · obtain ⟨c, v, _, _, _, rfl, _⟩ := h
    rfl
  · obtain ⟨c, v, told, bi, bb, rfl, ⟨dx, l, ss, hc, hl, le, hsp, ok⟩, hk, kq⟩ := h
    have r1 : Room 1 _ := hr.mono (by decide)
    refine ⟨_, pss_cons (ps_if (pt_not (pt_val (pe_call GD hr rfl mD kD bD .nil pass0 (pa_cons (pv 1) pa_nil))))
        (pss_one (ps_raise rfl (takes_of rfl rfl rfl rfl) (pmk_own PySem.F.excBase_ValueError TD.xN TD.gN TD.kN (raises_own TD.bN TD.tN) (by exact rfl)))) pss_nil)
      (pss_one (ps_ret (pe_call GH r1 rfl mH kH bH .nil pass0 (pa_cons (pe_ix ix_list (pe_fld (pv 0) rfl) (pe_call GS r1 rfl mS kS bS .nil pass0 (pa_cons (pe_fld (pv 0) rfl) (pa_cons (pv 1) pa_nil))) (fun _ _ => rfl)) (pa_cons (pv 1) pa_nil))))), ?_⟩
    refine ⟨_, rfl, v, bi, bb, rfl, hk, ?_⟩
    rcases kq with ⟨i, rfl, rfl, rfl, i0, i1, kq⟩ | ⟨⟨i, rfl, rfl, rfl, hi⟩ | hb, ke⟩
    · refine .inl ⟨i, rfl, rfl, rfl, _, rfl, ?_⟩
      rw [decide_eq_true i0, decide_eq_true i1]
      refine iteF ?_
      refine ⟨_, rfl, c, CC, dx, _, _, rfl, hc, TC.cl, TC.no, crs_spans l, ?_⟩
      refine ⟨_, rfl, c, CC, dx, _, _, rfl, hc, TC.cl, TC.no, crs_spans l, ?_⟩
      refine ⟨_, rfl, l, i, ss, told, rfl, hl, le, ok, hsp, i0, fun k ⟨kl, hb, hn⟩ => ?_⟩
      have ks : k < ss.length := by omega
      have hs : ss[k]? = some ss[k] := List.getElem?_eq_getElem ks
      refine ⟨l, _, _, .ref ss[k], rfl, rfl, hl, at_k (by omega) (by rw [List.getElem?_map, Int.toNat_natCast, hs]; rfl), ?_⟩
      obtain ⟨⟨d, ws⟩, hx, q⟩ := hsp k _ hs
      have l1 := (ok.word k _ hx).1
      have hd : ∀ n, d = some n → 1 ≤ n := fun n e => ok.days k _ n hx e
      have hin : ∀ n, d = some n → i < bAt told k + n := fun n e => by
        have nk : k + 1 < told.length := by
          have := ok.open_ k _ hx
          have h2 : k + 1 ≠ told.length := fun z => by
            have := this.mpr z
            rw [show (d, ws).1 = d from rfl, e] at this
            cases this
          omega
        have := hn (k + 1) (Nat.lt_succ_self k) nk
        rw [bAt_next hx, show (d, ws).1 = d from rfl, e] at this
        exact this
      refine ⟨_, rfl, ss[k], i, bAt told k, _, _, rfl, q, (leastW_len (cutO_pos hd l1)).1, fun p x hx' hp => ?_⟩
      refine kq H p x (Same.refl H) ?_ hp
      rw [onV_at told k d ws i hx (fun j x hj hxj => ok.ends hj kl hxj) hb hin]
      rw [← hx']
      exact (cut_at l1 hd (by omega) (fun n e => by have := hin n e; omega)).symm
    · refine .inl ⟨i, rfl, rfl, rfl, _, rfl, ?_⟩
      rw [show (decide (0 ≤ i) && decide (i ≤ 1000000000000000)) = false from by
        rw [← Bool.decide_and]
        exact decide_eq_false hi]
      exact iteT ke
    · exact .inr ⟨hb, _, rfl, iteT ke⟩
end
end K10

namespace K10
open PySem PySem.Spec PyProof.Rows L2
/-! ### what may make a course: the good ones -/
theorem ty_tup {K : PySem.W.Frag} {H : Hp} {a : Addr} {xs : List V} (h : SqT K H a xs) : TyX K H (.ref a) (.type "tuple") := by
  rcases h with (h | ⟨o, h⟩) | ⟨o, its, n, hk, hc, _⟩
  · exact .base (.tup h)
  · exact .fTuple h
  · exact .kTuple hk hc
theorem ty_lst {K : PySem.W.Frag} {H : Hp} {a : Addr} {xs : List V} (h : SqL K H a xs) : TyX K H (.ref a) (.type "list") := by
  rcases h with (h | ⟨o, h⟩) | ⟨o, its, n, hk, hc, _⟩
  · exact .base (.lst h)
  · exact .base (.frz h)
  · exact .kList hk hc
structure TxtY (mg : Str → Option Value) (C : Addr) : Prop where
  isi : mg "isinstance" = none
  tuple : mg "tuple" = none
  list : mg "list" = none
  all : mg "all" = none
  any : mg "any" = none
  len : mg "len" = none
  sh : mg "Share" = some (.ref C)
def spWordG (K : PySem.W.Frag) (C : Addr) : Sp := fun vs H Q _ => ∃ (wa : Addr) (ws : W2), vs = [.ref wa] ∧ WordAt K C H wa ws ∧ 1 ≤ ws.length ∧ ws.length ≤ 60 ∧ ∀ H', Same H H' → Q (.bl true) H'
section
variable {P : Program} {w : World} {K : PySem.W.Frag} {mg : Str → Option Value} {base : Heap}
abbrev isWordN : List Str := ["thing", "share"]
theorem scWord : FnScope isWordN ["thing"] (defScope d_is_word) := ⟨rfl, rfl, rfl, by decide +kernel, rfl, by decide +kernel, by decide +kernel⟩
theorem ok_wordG {f C CN : Addr} {fd : FuncData} {tk : Tok} (F : Fun K "is_word" "is_word" d_is_word f fd) (Y : TxtY mg C) (T : Txt K mg C CN) (TI : TxtI K C) (hM : mg "MOST_SHARES" = some (.int 60 tk)) : FnOk P w K mg base CX0 1 f fd ["thing"] (spWordG K C) := by
  refine F.ok scWord (fun vs H Q E h => ?_) (fun cdv A outer s H vs Q E hr h => ?_)
  · obtain ⟨wa, _, rfl, _⟩ := h
    rfl
  · obtain ⟨wa, ws, rfl, ⟨ps, q2, q3⟩, l1, l2, kq⟩ := h
    refine ⟨_, pss_cons (ps_if (PW.pt (pw_or (pt_not (pt_val (pe_callB call_isi (by rfl) Y.isi (by decide +kernel) (pa_cons (pv 0) (pa_cons (pe_bltn (v := .ty "tuple") (by rfl) Y.tuple (by decide +kernel) rfl) pa_nil)))))
          (pw_or1 (pt_not (pt_chain op_le op_le pe_int (pe_callB call_len_seq (by rfl) Y.len PySem.boot_len (pa_cons (pv 0) pa_nil)) (pe_glob (v := .int 60) rfl hM ⟨tk, rfl⟩)))))) (pss_one (ps_ret pe_bl)) pss_nil)
      (pss_one (ps_ret (pe_callB (cr_all rfl) (by rfl) Y.all (by decide +kernel) (pa_cons
        (pe_lc (own := [("share", 1)]) (g := gName 1) (by rfl) scWord.nd (pi_tup (pv 0)) (blkOk_by (own := [("share", 1)]) (N := isWordN) (sc := defScope d_is_word) (by decide +kernel)) (fun _ _ _ _ _ => pg_name (i := 1) scWord.nd rfl (.inl rfl)) (fun _ _ _ _ _ => pts_nil)
          (fun _ _ _ _ _ => pe_callB (show CallR _ (.builtin "isinstance") (rIsi K) from call_isi) (by rfl) Y.isi (by decide +kernel) (pa_cons (pv 1) (pa_cons (pe_glob (v := .ref C) rfl Y.sh rfl) pa_nil)))) pa_nil)))), ?_⟩
    have lp : (ps.map V.ref).length = ws.length := by rw [List.length_map, q3.1]
    refine ⟨_, rfl, _, _, _, _, true, rfl, ClsV.ty _, ty_tup q2, kit_ty (by decide +kernel), true, rfl, iteF ?_⟩
    refine ⟨_, rfl, wa, _, rfl, .inr q2, _, _, rfl, rfl, _, rfl, ?_⟩
    rw [lp, decide_eq_true (show (1 : Int) ≤ (ws.length : Int) by omega)]
    refine iteT ⟨_, _, rfl, rfl, _, rfl, ?_⟩
    rw [decide_eq_true (show (ws.length : Int) ≤ 60 by omega)]
    refine iteF ?_
    refine ⟨_, rfl, wa, rfl, ⟨_, q2⟩, fun D hD => ?_⟩
    refine lc_tup (K := K) (a := wa) (xs := ps.map V.ref) (fun i M => M D = some (.lst ((List.replicate i true).map V.bl)) ∧ Same H M) ⟨upd_same, same1 hD⟩ ?_ ?_ ?_
    · rintro i M _ ⟨_, sm⟩
      exact Same.tup sm q2
    · rintro i x M hx ⟨eD, sm⟩
      rw [List.getElem?_map] at hx
      obtain ⟨p, hp, rfl⟩ := Option.map_eq_some_iff.mp hx
      have il : i < ws.length := by
        have := (List.getElem?_eq_some_iff.mp hp).1
        rw [q3.1] at this
        exact this
      obtain ⟨dx, ep⟩ := (q3.mono sm).2 i p _ hp (List.getElem?_eq_getElem il)
      refine ⟨rfl, ?_⟩
      refine ⟨_, rfl, _, _, _, _, true, rfl, ClsV.own C, TyX.base (TyOf.ins ep T.cl TI.ha TI.hn TI.htk TI.hm), TI.me, _, eD, (by rw [List.length_map, List.length_replicate]; exact Nat.lt_of_lt_of_le il (Nat.le_trans l2 (show 60 ≤ sizeLine by decide))), ?_, fun b o e => ?_⟩
      · rw [List.replicate_succ', List.map_append]
        exact upd_same
      · rw [upd_ne (ne_of_none e hD)]
        exact sm _ _ e
    · rintro M ⟨eD, sm⟩
      refine ⟨D, _, rfl, SqL.of eD, ?_⟩
      rw [show (List.replicate (ps.map V.ref).length true).all id = true from by simp]
      exact kq M sm
end
end K10

namespace K10
open PySem PySem.Spec PyProof.Rows L2
def spStrG (K : PySem.W.Frag) (C : Addr) : Sp := fun vs H Q _ => ∃ (t : Addr) (x : Option Int × W2), vs = [.ref t] ∧ StrAt K C H t x ∧ 1 ≤ x.2.length ∧ x.2.length ≤ 60 ∧ (∀ n, x.1 = some n → 1 ≤ n) ∧ ∀ H', Same H H' → Q (.bl true) H'
def spStrsG (K : PySem.W.Frag) (C : Addr) : Sp := fun vs H Q _ => ∃ (a : Addr) (ts : List Addr) (told : List (Option Int × W2)), vs = [.ref a] ∧ SqL K H a (ts.map V.ref) ∧ ts.length = told.length ∧
  (∀ (i : Nat) (t : Addr) (x : Option Int × W2), ts[i]? = some t → told[i]? = some x → StrAt K C H t x) ∧ Told told ∧ ∀ H', Same H H' → Q (.bl true) H'
theorem ends_last {told : List (Option Int × W2)} (h : Told told) : atI ((told.map fun x => x.1.isNone).map V.bl) (-1) = some (V.bl true) := by
  have hl : told ≠ [] := fun z => by have := h.pos; rw [z] at this; simp at this
  have e : told = told.dropLast ++ [told.getLast hl] := (List.dropLast_concat_getLast hl).symm
  have g : told[told.length - 1]? = some (told.getLast hl) := by rw [← List.getLast?_eq_getElem?, List.getLast?_eq_getLast hl]
  have n : (told.getLast hl).1 = none := (h.open_ (told.length - 1) _ g).mpr (by have := h.pos; omega)
  rw [e, List.map_append, List.map_append]
  have := atI_last ((told.dropLast.map fun x => x.1.isNone).map V.bl) (V.bl true)
  rw [show [told.getLast hl].map (fun x => x.1.isNone) = [true] from by simp [n]]
  exact this
theorem ends_before {told : List (Option Int × W2)} (h : Told told) : ((told.map fun x => x.1.isNone).take (told.length - 1)).any id = false := by
  rw [List.any_eq_false]
  intro b hb
  obtain ⟨i, hi⟩ := List.mem_iff_getElem?.mp hb
  rw [List.getElem?_take] at hi
  split at hi
  · rename_i il
    rw [List.getElem?_map] at hi
    obtain ⟨x, hx, rfl⟩ := Option.map_eq_some_iff.mp hi
    obtain ⟨n, e, _⟩ := h.ends (j := i) (k := told.length - 1) il (by have := h.pos; omega) hx
    simp [e]
  · cases hi
section
variable {P : Program} {w : World} {K : PySem.W.Frag} {mg : Str → Option Value} {base : Heap}
theorem scStr : FnScope ["thing", "days", "word"] ["thing"] (defScope d_is_stretch) := ⟨rfl, rfl, rfl, by decide +kernel, rfl, by decide +kernel, by decide +kernel⟩
theorem ok_strG {f fW fH C : Addr} {fd fdW fdH : FuncData} (F : Fun K "is_stretch" "is_stretch" d_is_stretch f fd) (Y : TxtY mg C)
    (GW : FnOk P w K mg base CX0 1 fW fdW ["thing"] (spWordG K C)) (mW : mg "is_word" = some (.ref fW)) (kW : PySem.W.keepIn K (.ref fW) = true) (bW : Binds K fdW ["thing"] [])
    (GH : FnOk P w K mg base CX0 1 fH fdH ["thing"] (spWholeX K)) (mH : mg "is_whole" = some (.ref fH)) (kH : PySem.W.keepIn K (.ref fH) = true) (bH : Binds K fdH ["thing"] []) :
    FnOk P w K mg base CX0 2 f fd ["thing"] (spStrG K C) := by
  refine F.ok scStr (fun vs H Q E h => ?_) (fun cdv A outer s H vs Q E hr h => ?_)
  · obtain ⟨t, _, rfl, _⟩ := h
    rfl
  · obtain ⟨t, ⟨d, ws⟩, rfl, ⟨wa, q1, hw⟩, l1, l2, hd, kq⟩ := h
    refine ⟨_, pss_cons (ps_if (PW.pt (pw_or (pt_not (pt_val (pe_callB call_isi (by rfl) Y.isi (by decide +kernel) (pa_cons (pv 0) (pa_cons (pe_bltn (v := .ty "tuple") (by rfl) Y.tuple (by decide +kernel) rfl) pa_nil)))))
          (pw_or1 (pt_cmpR op_ne (pe_callB call_len_seq (by rfl) Y.len PySem.boot_len (pa_cons (pv 0) pa_nil)) pe_int (nomark _))))) (pss_one (ps_ret pe_bl)) pss_nil)
      (pss_cons (ps_asg (pv 0) (pg_tup (by rfl) (pgs_cons (pg_name (i := 1) scStr.nd rfl (.inl rfl)) (pgs_cons (pg_name (i := 2) scStr.nd rfl (.inl rfl)) pgs_nil))))
      (pss_one (ps_ret (pe_and (pe_call GW hr rfl mW kW bW .nil pass0 (pa_cons (pv 2) pa_nil)) (pe_one (pe_or (pe_cmp (pc_isN (pv 1))) (pe_one (pe_and (pe_call GH hr rfl mH kH bH .nil pass0 (pa_cons (pv 1) pa_nil)) (pe_one (pe_cmpR op_ge (pv 1) pe_int (nomark _)))))))))))
      , ?_⟩
    refine ⟨_, rfl, _, _, _, _, true, rfl, ClsV.ty _, ty_tup q1, kit_ty (by decide +kernel), true, rfl, iteF ?_⟩
    refine ⟨_, rfl, t, _, rfl, .inr q1, rfl, _, rfl, iteF ?_⟩
    refine ⟨_, rfl, t, _, rfl, q1, rfl, _, _, rfl, _, _, rfl, rfl, ?_⟩
    refine ⟨_, rfl, wa, ws, rfl, hw, l1, l2, fun H1 s1 => ⟨true, rfl, iteT ?_⟩⟩
    refine ⟨_, rfl, _, rfl, if_stop (fun e => ?_) (fun n e => ?_)⟩
    · exact kq H1 s1
    · have n1 := hd n e
      have e : d = some n := e
      subst e
      refine ⟨_, rfl, .int n, true, false, rfl, kind_int n, true, rfl, iteT ⟨_, rfl, _, _, rfl, rfl, ?_⟩⟩
      have q := kq H1 s1
      rw [show V.bl true = V.bl (decide ((1 : Int) ≤ n)) from by rw [decide_eq_true n1]] at q
      exact q
abbrev areN : List Str := ["things", "thing", "ends", "days", "_"]
theorem scAre : FnScope areN ["things"] (defScope d_are_stretches) := ⟨rfl, rfl, rfl, by decide +kernel, rfl, by decide +kernel, by decide +kernel⟩
theorem ok_areG {f fS C : Addr} {fd fdS : FuncData} {tk : Tok} (F : Fun K "are_stretches" "are_stretches" d_are_stretches f fd) (Y : TxtY mg C) (hM : mg "MOST_STRETCHES" = some (.int 60 tk))
    (GS : FnOk P w K mg base CX0 2 fS fdS ["thing"] (spStrG K C)) (mS : mg "is_stretch" = some (.ref fS)) (kS : PySem.W.keepIn K (.ref fS) = true) (bS : Binds K fdS ["thing"] []) :
    FnOk P w K mg base CX0 3 f fd ["things"] (spStrsG K C) := by
  refine F.ok scAre (fun vs H Q E h => ?_) (fun cdv A outer s H vs Q E hr h => ?_)
  · obtain ⟨a, _, _, rfl, _⟩ := h
    rfl
  · obtain ⟨a, ts, told, rfl, ha, lt, hst, ok, kq⟩ := h
    refine ⟨_, pss_cons (ps_if (PW.pt (pw_or (pt_not (pt_val (pe_callB call_isi (by rfl) Y.isi (by decide +kernel) (pa_cons (pv 0) (pa_cons (pe_bltn (v := .ty "list") (by rfl) Y.list (by decide +kernel) rfl) pa_nil)))))
          (pw_or1 (pt_not (pt_chain op_le op_le pe_int (pe_callB call_len_seq (by rfl) Y.len PySem.boot_len (pa_cons (pv 0) pa_nil)) (pe_glob (v := .int 60) rfl hM ⟨tk, rfl⟩)))))) (pss_one (ps_ret pe_bl)) pss_nil)
      (pss_cons (ps_if (pt_not (pt_val (pe_callB (cr_all rfl) (by rfl) Y.all (by decide +kernel) (pa_cons
        (pe_lc (own := [("thing", 1)]) (g := gName 1) (by rfl) scAre.nd (pi_list (pv 0)) (blkOk_by (own := [("thing", 1)]) (N := areN) (sc := defScope d_are_stretches) (by decide +kernel)) (fun _ _ _ _ _ => pg_name (i := 1) scAre.nd rfl (.inl rfl)) (fun _ _ _ _ _ => pts_nil)
          (fun _ _ _ _ _ => pe_call GS hr rfl mS kS bS .nil pass0 (pa_cons (pv 1) pa_nil))) pa_nil)))) (pss_one (ps_ret pe_bl)) pss_nil)
      (pss_cons (ps_setLc (i := 2) (own := [("days", 3), ("_", 4)]) (g := gTup K 2 (gCons (gName 3) (gCons (gName 4) gNil))) (by rfl) scAre.nd rfl rfl (sw_true rfl rfl rfl rfl) (pi_list (pv 0)) (blkOk_by (own := [("days", 3), ("_", 4)]) (N := areN) (sc := defScope d_are_stretches) (by decide +kernel))
        (fun _ _ _ _ _ => pg_tup (by rfl) (pgs_cons (pg_name (i := 3) scAre.nd rfl (.inl rfl)) (pgs_cons (pg_name (i := 4) scAre.nd rfl (.inl rfl)) pgs_nil))) (fun _ _ _ _ _ => pts_nil) (fun _ _ _ _ _ => pe_cmp (pc_isN (pv 3))))
      (pss_one (ps_ret (pe_and (pe_ix ix_list (pv 2) (pe_un un_neg pe_int) (fun _ _ => rfl)) (pe_one (pe_not (pe_callB (cr_any rfl) (by rfl) Y.any (by decide +kernel) (pa_cons (pe_slice sl_list (pv 2) po_none (po_some (pe_un un_neg pe_int))) pa_nil))))))))), ?_⟩
    have lp : (ts.map V.ref).length = told.length := by rw [List.length_map, lt]
    have p1 := ok.pos
    have p2 := ok.few
    refine ⟨_, rfl, _, _, _, _, true, rfl, ClsV.ty _, ty_lst ha, kit_ty (by decide +kernel), true, rfl, iteF ?_⟩
    refine ⟨_, rfl, a, _, rfl, .inl ha, _, _, rfl, rfl, _, rfl, ?_⟩
    rw [lp, decide_eq_true (show (1 : Int) ≤ (told.length : Int) by omega)]
    refine iteT ⟨_, _, rfl, rfl, _, rfl, ?_⟩
    rw [decide_eq_true (show (told.length : Int) ≤ 60 by omega)]
    refine iteF ?_
    refine ⟨_, rfl, a, rfl, ⟨_, ha⟩, fun D hD => ?_⟩
    refine lc_list (K := K) (a := a) (xs := ts.map V.ref) (fun i M => M D = some (.lst ((List.replicate i true).map V.bl)) ∧ Same H M) ⟨upd_same, same1 hD⟩ ?_ ?_ ?_
    · rintro i M _ ⟨_, sm⟩
      exact sm.seq ha
    · rintro i x M hx ⟨eD, sm⟩
      rw [List.getElem?_map] at hx
      obtain ⟨t, ht, rfl⟩ := Option.map_eq_some_iff.mp hx
      have il : i < told.length := by
        have := (List.getElem?_eq_some_iff.mp ht).1
        omega
      obtain ⟨x, hxi⟩ : ∃ x, told[i]? = some x := ⟨_, List.getElem?_eq_getElem il⟩
      refine ⟨rfl, ?_⟩
      refine ⟨_, rfl, t, x, rfl, (hst i t x ht hxi).mono sm, (ok.word i x hxi).1, (ok.word i x hxi).2, fun n e => ok.days i x n hxi e, fun M1 s1 => ?_⟩
      refine ⟨_, s1 _ _ eD, (by rw [List.length_map, List.length_replicate]; exact Nat.lt_of_lt_of_le il (Nat.le_trans p2 (show 60 ≤ sizeLine by decide))), ?_, fun b o e => ?_⟩
      · rw [List.replicate_succ', List.map_append]
        exact upd_same
      · rw [upd_ne (ne_of_none e hD)]
        exact s1 _ _ (sm _ _ e)
    · rintro M ⟨eD, sm⟩
      refine ⟨D, _, rfl, SqL.of eD, ?_⟩
      rw [show (List.replicate (ts.map V.ref).length true).all id = true from by simp]
      refine ⟨true, rfl, iteF ?_⟩
      refine ⟨_, rfl, a, rfl, ⟨_, sm.seq ha⟩, fun B hB => ?_⟩
      refine lc_list (K := K) (a := a) (xs := ts.map V.ref) (fun i M' => M' B = some (.lst (((told.take i).map fun x => x.1.isNone).map V.bl)) ∧ Same M M') ⟨upd_same, same1 hB⟩ ?_ ?_ ?_
      · rintro i M' _ ⟨_, sm'⟩
        exact (sm.trans sm').seq ha
      · rintro i x M' hx ⟨eB, sm'⟩
        rw [List.getElem?_map] at hx
        obtain ⟨t, ht, rfl⟩ := Option.map_eq_some_iff.mp hx
        have il : i < told.length := by
          have := (List.getElem?_eq_some_iff.mp ht).1
          omega
        obtain ⟨x, hxi⟩ : ∃ x, told[i]? = some x := ⟨_, List.getElem?_eq_getElem il⟩
        obtain ⟨wa, q1, _⟩ := (hst i t x ht hxi).mono (sm.trans sm')
        refine ⟨t, _, rfl, q1, rfl, _, _, rfl, _, _, rfl, rfl, rfl, ?_⟩
        refine ⟨_, rfl, _, eB, (by rw [List.length_map, List.length_map, List.length_take]; exact Nat.lt_of_le_of_lt (Nat.min_le_left _ _) (Nat.lt_of_lt_of_le il (Nat.le_trans p2 (show 60 ≤ sizeLine by decide)))), ?_, fun b o e => ?_⟩
        · have ed : decide (dv x.1 = V.non) = x.1.isNone := by
            cases x.1 with
            | none => exact decide_eq_true rfl
            | some n => exact decide_eq_false (fun z => nomatch z)
          rw [List.take_succ_eq_append_getElem il, List.map_append, List.map_append, upd_same]
          have e3 : told[i] = x := Option.some.inj ((List.getElem?_eq_getElem il).symm.trans hxi)
          rw [e3]
          show some (HO.lst _) = some (HO.lst (_ ++ [V.bl x.1.isNone]))
          rw [← ed]
        · rw [upd_ne (ne_of_none e hB)]
          exact sm' _ _ e
      · rintro M' ⟨eB, sm'⟩
        rw [lp, List.take_length] at eB
        refine ⟨_, rfl, _, rfl, B, _, _, _, rfl, rfl, SqL.of eB, ends_last ok, true, rfl, iteT ?_⟩
        refine ⟨_, rfl, _, rfl, _, rfl, B, _, rfl, SqL.of eB, fun p hp => ?_⟩
        refine ⟨p, _, rfl, SqL.of (xs := ((told.map fun x => x.1.isNone).take (told.length - 1)).map V.bl) ?_, false, congrArg V.bl (ends_before ok), ?_⟩
        · rw [show cutV ((told.map fun x => x.1.isNone).map V.bl) none (some (-1)) = ((told.map fun x => x.1.isNone).take (told.length - 1)).map V.bl from by
            have := cut_back (xs := (told.map fun x => x.1.isNone).map V.bl) (n := 1) (by decide)
            rw [List.length_map, List.length_map, ← List.map_take] at this
            exact this]
          exact upd_same
        · exact kq _ (sm.trans (sm'.trans (same1 hp)))
end
end K10

namespace K10
open PySem PySem.Spec PyProof.Rows L2
/-! ### a course made -/
def StrsAt (K : PySem.W.Frag) (C : Addr) (H : Hp) (a : Addr) (told : List (Option Int × W2)) : Prop := ∃ ts : List Addr, SqL K H a (ts.map V.ref) ∧ ts.length = told.length ∧ (∀ (i : Nat) (t : Addr) (x : Option Int × W2), ts[i]? = some t → told[i]? = some x → StrAt K C H t x)
def spCInit (K : PySem.W.Frag) (C CC : Addr) : Sp := fun vs H Q _ => ∃ (p dx a : Addr) (told : List (Option Int × W2)), vs = [.ref p, .ref a] ∧ H p = some (.ins CC dx []) ∧ StrsAt K C H a told ∧ Told told ∧
  ∀ H', CourseAt K C CC H' p told → (∀ b o, b ≠ p → H b = some o → H' b = some o) → Q .non H'
/-- what is no object still being made stays -/
def Keep2 (H H' : Hp) : Prop := ∀ b o, H b = some o → (∀ C d, o ≠ .ins C d []) → H' b = some o
theorem Keep2.tup {K : PySem.W.Frag} {H H' : Hp} {a : Addr} {xs : List V} (k : Keep2 H H') (h : SqT K H a xs) : SqT K H' a xs :=
  h.elim (fun h => .inl (h.elim (fun h => .inl (k _ _ h (fun _ _ z => nomatch z))) fun ⟨o, h⟩ => .inr ⟨o, k _ _ h (fun _ _ z => nomatch z)⟩)) fun h => .inr h
theorem Keep2.all {C : Addr} {H H' : Hp} {ps : List Addr} {ws : W2} (k : Keep2 H H') (h : ShAll C H ps ws) : ShAll C H' ps ws := ⟨h.1, fun i p x a b => by
  obtain ⟨dx, e⟩ := h.2 i p x a b
  refine ⟨dx, k _ _ e (fun C' d z => ?_)⟩
  injection z with _ _ z
  have q := shf_top x.1 x.2
  rw [z] at q
  cases q⟩
theorem Keep2.span {K : PySem.W.Frag} {C : Addr} {H H' : Hp} {told : List (Option Int × W2)} {i : Nat} {s : Addr} (k : Keep2 H H') (h : SpanOf K C H told i s) : SpanOf K C H' told i s := by
  obtain ⟨x, e, wa, a, ps, b, c⟩ := h
  exact ⟨x, e, wa, k.tup a, ps, k.tup b, k.all c⟩
theorem keep2_ins {H : Hp} {p CC dx : Addr} {o : HO} (h : H p = some (.ins CC dx [])) : Keep2 H (upd H p o) := fun b u e n => by
  rw [upd_ne (fun z => by rw [z, h] at e; exact n _ _ (Option.some.inj e).symm)]
  exact e
section
variable {P : Program} {w : World} {K : PySem.W.Frag} {mg : Str → Option Value} {base : Heap}
theorem scCInit : FnScope ["self", "stretches"] ["self", "stretches"] (defScope d_Course_init) := ⟨rfl, rfl, rfl, by decide +kernel, rfl, by decide +kernel, by decide +kernel⟩
theorem ok_cinit {f fA fS C CC CN : Addr} {fd fdA fdS : FuncData} (F : Fun K "__init__" "Course.__init__" d_Course_init f fd) (TC : CrsC K CC) (TN : ErrC K mg "NoCourse" CN)
    (GA : FnOk P w K mg base CX0 3 fA fdA ["things"] (spStrsG K C)) (mA : mg "are_stretches" = some (.ref fA)) (kA : PySem.W.keepIn K (.ref fA) = true) (bA : Binds K fdA ["things"] [])
    (GS : FnOk P w K mg base CX0 4 fS fdS ["stretches"] (spSpans K C)) (mS : mg "spans_of" = some (.ref fS)) (kS : PySem.W.keepIn K (.ref fS) = true) (bS : Binds K fdS ["stretches"] []) :
    FnOk P w K mg base (L2.CX P w) 5 f fd ["self", "stretches"] (spCInit K C CC) := by
  refine F.okX scCInit (fun vs H Q E h => ?_) (fun cdv A outer s H vs Q E hr h => ?_)
  · obtain ⟨p, dx, a, _, rfl, _⟩ := h
    rfl
  · obtain ⟨p, dx, a, told, rfl, hp, ⟨ts, ha, lt, hst⟩, ok, kq⟩ := h
    have r3 : Room 3 _ := hr.mono (by decide)
    refine ⟨_, pss_cons (ps_if (pt_not (pt_val (pe_call GA r3 rfl mA kA bA .nil pass0 (pa_cons (pv 1) pa_nil))))
        (pss_one (ps_raise rfl (takes_of rfl rfl rfl rfl) (pmk_own PySem.F.excBase_ValueError TN.xN TN.gN TN.kN (raises_own TN.bN TN.tN) (by exact rfl)))) pss_nil)
      (pss_one (ps_fld (pv 0) (pe_call GS hr rfl mS kS bS .nil pass0 (pa_cons (pv 1) pa_nil)) rfl)), ?_⟩
    refine ⟨_, rfl, a, ts, told, rfl, ha, lt, hst, ok, fun H1 s1 => ⟨true, rfl, iteF ?_⟩⟩
    refine ⟨_, rfl, a, ts, told, rfl, s1.seq ha, lt, fun i t x h1 h2 => (hst i t x h1 h2).mono s1, ok, fun H2 l ss s2 hl0 hl ls hsp => ?_⟩
    have hp2 := s2 _ _ (s1 _ _ hp)
    refine ⟨_, rfl, p, CC, dx, _, rfl, hp2, TC.cl, TC.no, (by show 0 < 1000; decide), ?_⟩
    have pl : l ≠ p := fun z => by rw [z, hp2] at hl; cases hl
    refine kq _ ⟨dx, l, ss, upd_same, SqL.of (by rw [upd_ne pl]; exact hl), ls, fun i s' hs => ?_, ok⟩ (fun b o hb e => by rw [upd_ne hb]; exact s2 _ _ (s1 _ _ e))
    exact (keep2_ins hp2).span (hsp i s' hs)
end
end K10

namespace K10
open PySem PySem.Spec PyProof.Rows L2
/-! ### times, total -/
/-- a new share, from two -/
def spTwo (C : Addr) (N D : Int → Int → Int → Int → Int) : Sp := fun vs H Q _ => ∃ (x y : Addr) (t1 b1 t2 b2 : Int), vs = [.ref x, .ref y] ∧ ShAt C H x t1 b1 ∧ ShAt C H y t2 b2 ∧
  t1.natAbs < 2 ^ 1000 ∧ b1.natAbs < 2 ^ 1000 ∧ t2.natAbs < 2 ^ 1000 ∧ b2.natAbs < 2 ^ 1000 ∧ b1 ≠ 0 ∧ b2 ≠ 0 ∧
  ∀ (H' : Hp) (p : Addr), Same H H' → H p = none → ShAt C H' p (lowT (N t1 b1 t2 b2) (D t1 b1 t2 b2)) (lowB (N t1 b1 t2 b2) (D t1 b1 t2 b2)) → Q (.ref p) H'
section
variable {X : Cx}
def rLcm : List V → Hp → VK → Prop := fun xs H Q => ∃ a b : Int, xs = [.int a, .int b] ∧ a.natAbs < 2 ^ 64 ∧ b.natAbs < 2 ^ 64 ∧ Q (.int ((Nat.lcm a.natAbs b.natAbs : Nat) : Int)) H
theorem cr_lcm : CallR X (.builtin "math.lcm") rLcm := by
  intro pins s σ H vs us Q I r h
  obtain ⟨a, b, rfl, ha, hb, q⟩ := h
  obtain ⟨t, u, rfl⟩ := Vals.int2 r
  exact PySem.W.mc_lcm ha hb fun _ => ⟨.int _, H, I.tok _, ⟨_, rfl⟩, q⟩
theorem pi_or {tg e : Expr} {w1 w2 : TI} (h1 : PI X tg e w1) (h2 : PI X tg e w2) : PI X tg e (fun σ H R => w1 σ H R ∨ w2 σ H R) := ⟨fun pins s σ H R I h => by
  rcases h with h | h
  · exact h1.run pins s σ H R I h
  · exact h2.run pins s σ H R I h⟩
end
def lcmOf (ws : W2) : Nat := ws.foldl (fun m x => Nat.lcm m x.2.natAbs) 1
def sumOf (ws : W2) (D : Int) : Int := (ws.map fun x => x.1 * (D / x.2)).sum
/-- what total gives: the one itself, or the sum in lowest terms -/
def TotOf (ws : W2) (t b : Int) : Prop := (∃ x, ws = [x] ∧ t = x.1 ∧ b = x.2) ∨ (t = lowT (sumOf ws (lcmOf ws)) (lcmOf ws) ∧ b = lowB (sumOf ws (lcmOf ws)) (lcmOf ws))
structure Small (ws : W2) (M : Nat) : Prop where
  pos : 0 < M
  lt : M < 2 ^ 60
  bot : ∀ (i : Nat) (x : Int × Int), ws[i]? = some x → 0 < x.2 ∧ x.2.natAbs ∣ M
  top : ∀ (i : Nat) (x : Int × Int), ws[i]? = some x → x.1.natAbs < 2 ^ 1000
  few : ws.length ≤ 4000
theorem lcmOf_next {ws : W2} {i : Nat} {x : Int × Int} (h : ws[i]? = some x) : lcmOf (ws.take (i + 1)) = Nat.lcm (lcmOf (ws.take i)) x.2.natAbs := by
  obtain ⟨hi, e⟩ := List.getElem?_eq_some_iff.mp h
  unfold lcmOf
  rw [List.take_succ_eq_append_getElem hi, List.foldl_append, e]
  rfl
theorem lcmOf_dvd {ws : W2} {M : Nat} (h : Small ws M) : ∀ i, i ≤ ws.length → lcmOf (ws.take i) ∣ M
  | 0, _ => by
    rw [List.take_zero]
    exact Nat.one_dvd _
  | i + 1, hi => by
    have hx : ws[i]? = some ws[i] := List.getElem?_eq_getElem (by omega)
    rw [lcmOf_next hx]
    exact Nat.lcm_dvd (lcmOf_dvd h i (by omega)) (h.bot i _ hx).2
theorem lcmOf_lt {ws : W2} {M : Nat} (h : Small ws M) {i : Nat} (hi : i ≤ ws.length) : 0 < lcmOf (ws.take i) ∧ lcmOf (ws.take i) < 2 ^ 60 := by
  have d := lcmOf_dvd h i hi
  exact ⟨Nat.pos_of_dvd_of_pos d h.pos, Nat.lt_of_le_of_lt (Nat.le_of_dvd h.pos d) h.lt⟩
theorem sum_lt : ∀ (l : List Int) (B : Nat), (∀ x ∈ l, x.natAbs ≤ B) → l.sum.natAbs ≤ l.length * B
  | [], B, _ => by simp
  | a :: l, B, h => by
    have h1 := h a (by simp)
    have h2 := sum_lt l B (fun x hx => h x (by simp [hx]))
    rw [List.sum_cons, List.length_cons, Nat.succ_mul]
    have := Int.natAbs_add_le a l.sum
    omega
theorem sumOf_lt {ws : W2} {M : Nat} (h : Small ws M) {D : Nat} (hD : D < 2 ^ 60) : (sumOf ws D).natAbs < 2 ^ 4000 := by
  have a := sum_lt (ws.map fun x => x.1 * ((D : Int) / x.2)) (2 ^ 1060) (fun y hy => by
    obtain ⟨x, hx, rfl⟩ := List.mem_map.mp hy
    obtain ⟨i, hi⟩ := List.mem_iff_getElem?.mp hx
    have t := h.top i x hi
    have b := (h.bot i x hi).1
    have e : ((D : Int) / x.2).natAbs ≤ D := by
      have q0 : 0 ≤ (D : Int) / x.2 := Int.ediv_nonneg (by omega) (by omega)
      have q1 : (D : Int) / x.2 ≤ (D : Int) := Int.ediv_le_self _ (by omega)
      omega
    rw [Int.natAbs_mul, show (2 : Nat) ^ 1060 = 2 ^ 1000 * 2 ^ 60 from by rw [← Nat.pow_add]]
    exact Nat.mul_le_mul (Nat.le_of_lt t) (Nat.le_trans e (Nat.le_of_lt hD)))
  rw [List.length_map] at a
  have c : ws.length * 2 ^ 1060 ≤ 2 ^ 12 * 2 ^ 1060 := Nat.mul_le_mul_right _ (Nat.le_trans h.few (by decide))
  rw [← Nat.pow_add] at c
  exact Nat.lt_of_le_of_lt (Nat.le_trans a c) (Nat.pow_lt_pow_right (by decide) (by decide))
def spTotal (K : PySem.W.Frag) (C : Addr) : Sp := fun vs H Q _ => ∃ (a : Addr) (ps : List Addr) (ws : W2) (M : Nat), vs = [.ref a] ∧ (SqL K H a (ps.map V.ref) ∨ SqT K H a (ps.map V.ref)) ∧ ShAll C H ps ws ∧ Small ws M ∧
  ∀ (H' : Hp) (p : Addr) (t b : Int), Same H H' → TotOf ws t b → ShAt C H' p t b → Q (.ref p) H'
section
variable {P : Program} {w : World} {K : PySem.W.Frag} {mg : Str → Option Value} {base : Heap}
abbrev totalN : List Str := ["shares", "bottom", "share"]
theorem scTotal : FnScope totalN ["shares"] (defScope d_total) := ⟨rfl, rfl, rfl, by decide +kernel, rfl, by decide +kernel, by decide +kernel⟩
theorem ok_total {f fI C CN : Addr} {fd fdI : FuncData} (F : Fun K "total" "total" d_total f fd) (T : Txt K mg C CN) (hlen : mg "len" = none) (hsum : mg "sum" = none) (hlcm : mg "lcm" = some (.builtin "math.lcm"))
    (M : Mk K C fI) (GI : FnOk P w K mg base (L2.CX P w) 2 fI fdI ["self", "top", "bottom"] (spInit C CN)) (bI : Binds K fdI ["self", "top", "bottom"] []) :
    FnOk P w K mg base CX0 4 f fd ["shares"] (spTotal K C) := by
  refine F.ok scTotal (fun vs H Q E h => ?_) (fun cdv A outer s H vs Q E hr h => ?_)
  · obtain ⟨a, _, _, _, rfl, _⟩ := h
    rfl
  · obtain ⟨a, ps, ws, m, rfl, ha, hw, sm, kq⟩ := h
    refine ⟨_, pss_cons (ps_if (pt_cmpR op_eq (pe_callB call_len_seq (by rfl) hlen PySem.boot_len (pa_cons (pv 0) pa_nil)) pe_int (nomark _)) (pss_one (ps_ret (pe_ix ix_seq (pv 0) pe_int (fun _ _ => rfl)))) pss_nil)
      (pss_cons (ps_set (i := 1) scTotal.nd rfl (Or.inr rfl) pe_int)
      (pss_cons (ps_for PassesOwn.never rfl (pi_or (pi_list (pv 0)) (pi_tup (pv 0))) (pg_name (i := 2) scTotal.nd rfl (.inl rfl)) (pss_one (ps_set (i := 1) scTotal.nd rfl (Or.inr rfl) (pe_callBfun cr_lcm rfl hlcm (pa_cons (pv 1) (pa_cons (pe_fld (pv 2) rfl) pa_nil))))))
      (pss_one (ps_ret (pe_make M GI hr rfl T.mgC bI .nil passL (pa_cons (pe_callB (cr_sum rfl) (by rfl) hsum (by decide +kernel) (pa_cons
          (pe_lc (own := [("share", 2)]) (g := gName 2) (te := tOp (rI CMul fun i j => .int (i * j)) (tFld K (tVar 2) "top") (tOp (rI CDivW fun i j => .int (i / j)) (tVar 1) (tFld K (tVar 2) "bottom"))) (by rfl) scTotal.nd (pi_or (pi_list (pv 0)) (pi_tup (pv 0))) (blkOk_by (own := [("share", 2)]) (N := totalN) (sc := defScope d_total) (by decide +kernel)) (fun _ _ _ _ _ => pg_name (i := 2) scTotal.nd rfl (.inl rfl)) (fun _ _ _ _ _ => pts_nil)
            (fun _ _ _ _ _ => pe_op op_mul (pe_fld (pv 2) rfl) (pe_op op_fdivW (pv 1) (pe_fld (pv 2) rfl)))) pa_nil)) (pa_cons (pv 1) pa_nil))))))), ?_⟩
    have lp : (ps.map V.ref).length = ws.length := by rw [List.length_map, hw.1]
    refine ⟨_, rfl, a, _, rfl, ha, rfl, _, rfl, ?_⟩
    rw [lp]
    refine ite2 (fun h => ?_) (fun h => ?_)
    · have h : ws.length = 1 := by
        have h := of_decide_eq_true h
        injection h with h
        omega
      obtain ⟨x, hx⟩ : ∃ x, ws = [x] := List.length_eq_one_iff.mp h
      subst hx
      obtain ⟨p, hp⟩ : ∃ p, ps = [p] := List.length_eq_one_iff.mp hw.1
      subst hp
      have hs := hw.2 0 p x rfl rfl
      have q := kq H p x.1 x.2 (Same.refl H) (.inl ⟨x, rfl, rfl, rfl⟩) hs
      rcases ha with ha | ha
      · exact ⟨_, rfl, .inl ⟨a, _, _, _, rfl, rfl, ha, at_k (by decide) rfl, q⟩⟩
      · exact ⟨_, rfl, .inr (.inl ⟨a, _, _, _, rfl, rfl, ha, at_k (by decide) rfl, q⟩)⟩
    · rcases ha with ha | ha
      · refine .inl ⟨_, rfl, a, rfl, ⟨_, ha⟩, ?_⟩
        refine for_it (walk_list (K := K) (a := a) (xs := ps.map V.ref)) (fun i σ G => (∃ v2, σ = [some (.ref a), some (.int (lcmOf (ws.take i) : Nat)), v2]) ∧ G = H) ⟨⟨none, rfl⟩, rfl⟩ ?_ ?_ ?_
        · rintro i σ G _ ⟨_, rfl⟩
          exact ha
        · rintro i x σ G G' hi ⟨⟨v2, rfl⟩, rfl⟩ ⟨rfl, hx⟩
          rw [lp] at hi
          rw [List.getElem?_map] at hx
          obtain ⟨p, hp, rfl⟩ := Option.map_eq_some_iff.mp hx
          obtain ⟨y, hy⟩ : ∃ y, ws[i]? = some y := ⟨_, List.getElem?_eq_getElem hi⟩
          obtain ⟨dx, e⟩ := hw.2 i p y hp hy
          have l1 := lcmOf_lt sm (i := i) (by omega)
          have hb := sm.bot i y hy
          have hb2 : y.2.natAbs < 2 ^ 60 := Nat.lt_of_le_of_lt (Nat.le_of_dvd sm.pos hb.2) sm.lt
          refine ⟨_, rfl, _, rfl, p, C, dx, _, _, rfl, e, T.cl, T.nB, shf_bottom .., _, _, rfl, (by rw [Int.natAbs_natCast]; exact Nat.lt_trans l1.2 (by decide)), Nat.lt_trans hb2 (by decide), ?_⟩
          refine ⟨⟨some (.ref p), ?_⟩, rfl⟩
          rw [lcmOf_next hy, Int.natAbs_natCast]
          rfl
        · rintro σ G ⟨⟨v2, rfl⟩, rfl⟩
          rw [lp, List.take_length]
          have l1 := lcmOf_lt sm (i := ws.length) (Nat.le_refl _)
          rw [List.take_length] at l1
          refine .inl ⟨_, rfl, a, rfl, ⟨_, ha⟩, fun D hD => ?_⟩
          refine lc_it (walk_list (K := K) (a := a) (xs := ps.map V.ref)) (fun i N => N D = some (.lst (((ws.take i).map fun x => x.1 * ((lcmOf ws : Nat) / x.2 : Int)).map V.int)) ∧ Same G N) ⟨upd_same, same1 hD⟩ ?_ ?_ ?_
          · rintro i N _ ⟨_, sN⟩
            exact sN.seq ha
          · rintro i x N N' hi ⟨eN, sN⟩ ⟨rfl, hx⟩
            rw [lp] at hi
            rw [List.getElem?_map] at hx
            obtain ⟨p, hp, rfl⟩ := Option.map_eq_some_iff.mp hx
            obtain ⟨y, hy⟩ : ∃ y, ws[i]? = some y := ⟨_, List.getElem?_eq_getElem hi⟩
            obtain ⟨dx, e⟩ := (hw.mono sN).2 i p y hp hy
            have hb := sm.bot i y hy
            have hb2 : y.2.natAbs < 2 ^ 60 := Nat.lt_of_le_of_lt (Nat.le_of_dvd sm.pos hb.2) sm.lt
            have q0 : 0 ≤ ((lcmOf ws : Nat) : Int) / y.2 := Int.ediv_nonneg (by omega) (by omega)
            have q1 : ((lcmOf ws : Nat) : Int) / y.2 ≤ ((lcmOf ws : Nat) : Int) := Int.ediv_le_self _ (by omega)
            have l2 : ((lcmOf ws : Nat) : Int) < 2 ^ 60 := by exact_mod_cast l1.2
            refine ⟨rfl, ?_⟩
            refine ⟨_, rfl, p, C, dx, _, _, rfl, e, T.cl, T.nT, shf_top .., _, rfl, _, rfl, p, C, dx, _, _, rfl, e, T.cl, T.nB, shf_bottom .., _, _, rfl, rfl, wide_div (b := 60) hb.1 hb2 (by decide) (by decide), _, _, rfl, rfl, .inr ⟨by omega, by omega⟩, _, eN, (by rw [List.length_map, List.length_map, List.length_take]; exact Nat.lt_of_le_of_lt (Nat.min_le_left _ _) (Nat.lt_of_lt_of_le hi (Nat.le_trans sm.few (show 4000 ≤ sizeLine by decide)))), ?_, fun b o eb => ?_⟩
            · rw [List.take_succ_eq_append_getElem hi, List.map_append, List.map_append, upd_same]
              have e3 : ws[i] = y := Option.some.inj ((List.getElem?_eq_getElem hi).symm.trans hy)
              rw [e3]
              rfl
            · rw [upd_ne (ne_of_none eb hD)]
              exact sN _ _ eb
          · rintro N ⟨eN, sN⟩
            rw [lp, List.take_length] at eN
            refine ⟨D, _, rfl, SqL.of eN, _, rfl, ?_⟩
            intro p dp np ndp nex
            refine ⟨p, dp, _, _, rfl, upd_same, sumOf_lt sm l1.2, pow_le (a := 60) (by rw [Int.natAbs_natCast]; exact l1.2) (by decide), fun z => absurd z (by omega), fun _ H' e ka => ⟨rfl, ?_⟩⟩
            exact kq H' p _ _ (sN.trans (made_same (C := C) np ndp ka)) (.inr ⟨rfl, rfl⟩) ⟨dp, e⟩
      · refine .inr ⟨_, rfl, a, rfl, ⟨_, ha⟩, ?_⟩
        refine for_it (walk_tup (K := K) (a := a) (xs := ps.map V.ref)) (fun i σ G => (∃ v2, σ = [some (.ref a), some (.int (lcmOf (ws.take i) : Nat)), v2]) ∧ G = H) ⟨⟨none, rfl⟩, rfl⟩ ?_ ?_ ?_
        · rintro i σ G _ ⟨_, rfl⟩
          exact ha
        · rintro i x σ G G' hi ⟨⟨v2, rfl⟩, rfl⟩ ⟨rfl, hx⟩
          rw [lp] at hi
          rw [List.getElem?_map] at hx
          obtain ⟨p, hp, rfl⟩ := Option.map_eq_some_iff.mp hx
          obtain ⟨y, hy⟩ : ∃ y, ws[i]? = some y := ⟨_, List.getElem?_eq_getElem hi⟩
          obtain ⟨dx, e⟩ := hw.2 i p y hp hy
          have l1 := lcmOf_lt sm (i := i) (by omega)
          have hb := sm.bot i y hy
          have hb2 : y.2.natAbs < 2 ^ 60 := Nat.lt_of_le_of_lt (Nat.le_of_dvd sm.pos hb.2) sm.lt
          refine ⟨_, rfl, _, rfl, p, C, dx, _, _, rfl, e, T.cl, T.nB, shf_bottom .., _, _, rfl, (by rw [Int.natAbs_natCast]; exact Nat.lt_trans l1.2 (by decide)), Nat.lt_trans hb2 (by decide), ?_⟩
          refine ⟨⟨some (.ref p), ?_⟩, rfl⟩
          rw [lcmOf_next hy, Int.natAbs_natCast]
          rfl
        · rintro σ G ⟨⟨v2, rfl⟩, rfl⟩
          rw [lp, List.take_length]
          have l1 := lcmOf_lt sm (i := ws.length) (Nat.le_refl _)
          rw [List.take_length] at l1
          refine .inr ⟨_, rfl, a, rfl, ⟨_, ha⟩, fun D hD => ?_⟩
          refine lc_it (walk_tup (K := K) (a := a) (xs := ps.map V.ref)) (fun i N => N D = some (.lst (((ws.take i).map fun x => x.1 * ((lcmOf ws : Nat) / x.2 : Int)).map V.int)) ∧ Same G N) ⟨upd_same, same1 hD⟩ ?_ ?_ ?_
          · rintro i N _ ⟨_, sN⟩
            exact Same.tup sN ha
          · rintro i x N N' hi ⟨eN, sN⟩ ⟨rfl, hx⟩
            rw [lp] at hi
            rw [List.getElem?_map] at hx
            obtain ⟨p, hp, rfl⟩ := Option.map_eq_some_iff.mp hx
            obtain ⟨y, hy⟩ : ∃ y, ws[i]? = some y := ⟨_, List.getElem?_eq_getElem hi⟩
            obtain ⟨dx, e⟩ := (hw.mono sN).2 i p y hp hy
            have hb := sm.bot i y hy
            have hb2 : y.2.natAbs < 2 ^ 60 := Nat.lt_of_le_of_lt (Nat.le_of_dvd sm.pos hb.2) sm.lt
            have q0 : 0 ≤ ((lcmOf ws : Nat) : Int) / y.2 := Int.ediv_nonneg (by omega) (by omega)
            have q1 : ((lcmOf ws : Nat) : Int) / y.2 ≤ ((lcmOf ws : Nat) : Int) := Int.ediv_le_self _ (by omega)
            have l2 : ((lcmOf ws : Nat) : Int) < 2 ^ 60 := by exact_mod_cast l1.2
            refine ⟨rfl, ?_⟩
            refine ⟨_, rfl, p, C, dx, _, _, rfl, e, T.cl, T.nT, shf_top .., _, rfl, _, rfl, p, C, dx, _, _, rfl, e, T.cl, T.nB, shf_bottom .., _, _, rfl, rfl, wide_div (b := 60) hb.1 hb2 (by decide) (by decide), _, _, rfl, rfl, .inr ⟨by omega, by omega⟩, _, eN, (by rw [List.length_map, List.length_map, List.length_take]; exact Nat.lt_of_le_of_lt (Nat.min_le_left _ _) (Nat.lt_of_lt_of_le hi (Nat.le_trans sm.few (show 4000 ≤ sizeLine by decide)))), ?_, fun b o eb => ?_⟩
            · rw [List.take_succ_eq_append_getElem hi, List.map_append, List.map_append, upd_same]
              have e3 : ws[i] = y := Option.some.inj ((List.getElem?_eq_getElem hi).symm.trans hy)
              rw [e3]
              rfl
            · rw [upd_ne (ne_of_none eb hD)]
              exact sN _ _ eb
          · rintro N ⟨eN, sN⟩
            rw [lp, List.take_length] at eN
            refine ⟨D, _, rfl, SqL.of eN, _, rfl, ?_⟩
            intro p dp np ndp nex
            refine ⟨p, dp, _, _, rfl, upd_same, sumOf_lt sm l1.2, pow_le (a := 60) (by rw [Int.natAbs_natCast]; exact l1.2) (by decide), fun z => absurd z (by omega), fun _ H' e ka => ⟨rfl, ?_⟩⟩
            exact kq H' p _ _ (sN.trans (made_same (C := C) np ndp ka)) (.inr ⟨rfl, rfl⟩) ⟨dp, e⟩
end
end K10

namespace K10
open PySem PySem.Spec PyProof.Rows L2
/-! ### sums by a common multiple of all bottoms -/
/-- t over b is S over M, in lowest terms -/
def IsFr (M : Nat) (S t b : Int) : Prop := 0 < b ∧ Nat.gcd t.natAbs b.natAbs = 1 ∧ t * (M : Int) = S * b
theorem fr_low {p q S : Int} {M : Nat} (hq : q ≠ 0) (h : p * (M : Int) = S * q) : IsFr M S (lowT p q) (lowB p q) := by
  refine ⟨lowB_pos hq, low_coprime hq, ?_⟩
  have h1 := lowT_mul p q
  have h2 := lowB_mul p q
  have g := sg_ne (a := p) hq
  have e : lowT p q * (M : Int) * sg p q = S * lowB p q * sg p q := by
    calc lowT p q * (M : Int) * sg p q = (lowT p q * sg p q) * M := by rw [Int.mul_assoc, Int.mul_comm (M : Int), ← Int.mul_assoc]
      _ = p * M := by rw [h1]
      _ = S * q := h
      _ = S * (lowB p q * sg p q) := by rw [h2]
      _ = S * lowB p q * sg p q := by rw [Int.mul_assoc]
  exact Int.eq_of_mul_eq_mul_right g e
theorem fr_one {M : Nat} {S t b t' b' : Int} (hM : 0 < M) (h : IsFr M S t b) (h' : IsFr M S t' b') : t = t' ∧ b = b' := by
  refine same_of h.1 h'.1 ?_ h.2.1 h'.2.1
  have hM' : (M : Int) ≠ 0 := by omega
  refine Int.eq_of_mul_eq_mul_right hM' ?_
  calc t * b' * (M : Int) = (t * M) * b' := by rw [Int.mul_assoc, Int.mul_comm b', ← Int.mul_assoc]
    _ = (S * b) * b' := by rw [h.2.2]
    _ = (S * b') * b := by rw [Int.mul_assoc, Int.mul_comm b b', ← Int.mul_assoc]
    _ = (t' * M) * b := by rw [h'.2.2]
    _ = t' * b * M := by rw [Int.mul_assoc, Int.mul_comm (M : Int), ← Int.mul_assoc]
theorem fr_dvd {M : Nat} {S t b : Int} (h : IsFr M S t b) : b.natAbs ∣ M := by
  have e : t.natAbs * M = S.natAbs * b.natAbs := by
    have := congrArg Int.natAbs h.2.2
    rw [Int.natAbs_mul, Int.natAbs_mul, Int.natAbs_natCast] at this
    exact this
  have d : b.natAbs ∣ t.natAbs * M := ⟨S.natAbs, by rw [e, Nat.mul_comm]⟩
  exact Nat.Coprime.dvd_of_dvd_mul_left (by rw [Nat.Coprime, Nat.gcd_comm]; exact h.2.1) d
theorem dvd_int {M : Nat} {b : Int} (h : b.natAbs ∣ M) : b ∣ (M : Int) := Int.natAbs_dvd_natAbs.mp (by rw [Int.natAbs_natCast]; exact h)
theorem fr_term {M : Nat} {S t b : Int} (h : IsFr M S t b) : t * ((M : Int) / b) = S := by
  obtain ⟨k, hk⟩ := dvd_int (fr_dvd h)
  have b0 : b ≠ 0 := by have := h.1; omega
  have e := h.2.2
  rw [hk] at e ⊢
  rw [Int.mul_ediv_cancel_left _ b0]
  refine Int.eq_of_mul_eq_mul_right b0 ?_
  rw [← e, Int.mul_comm b k, Int.mul_assoc]
theorem fr_abs {M : Nat} {S t b : Int} (hM : 0 < M) (h : IsFr M S t b) : t.natAbs ≤ S.natAbs := by
  have q := fr_term h
  obtain ⟨k, hk⟩ := dvd_int (fr_dvd h)
  have b0 : b ≠ 0 := by have := h.1; omega
  rw [hk, Int.mul_ediv_cancel_left _ b0] at q
  rw [← q, Int.natAbs_mul]
  have k0 : k.natAbs ≠ 0 := fun z => by
    have : k = 0 := by omega
    rw [this, Int.mul_zero] at hk
    omega
  exact Nat.le_mul_of_pos_right _ (by omega)
theorem sumOf_cons (x : Int × Int) (ws : W2) (D : Int) : sumOf (x :: ws) D = x.1 * (D / x.2) + sumOf ws D := by
  unfold sumOf
  rw [List.map_cons, List.sum_cons]
theorem sumOf_append (a b : W2) (D : Int) : sumOf (a ++ b) D = sumOf a D + sumOf b D := by
  unfold sumOf
  rw [List.map_append, List.sum_append]
theorem sumOf_mul {L k : Int} : ∀ (ws : W2), (∀ x ∈ ws, 0 < x.2 ∧ x.2 ∣ L) → sumOf ws (L * k) = sumOf ws L * k
  | [], _ => by simp [sumOf]
  | x :: ws, h => by
    obtain ⟨h1, h2⟩ := h x (by simp)
    rw [sumOf_cons, sumOf_cons, sumOf_mul ws (fun y hy => h y (by simp [hy])), Int.add_mul]
    obtain ⟨c, hc⟩ := h2
    have x0 : x.2 ≠ 0 := by omega
    rw [hc, Int.mul_assoc, Int.mul_ediv_cancel_left _ x0, Int.mul_ediv_cancel_left _ x0, Int.mul_assoc]
theorem lcmOf_all {ws : W2} : ∀ i, i ≤ ws.length → ∀ j x, j < i → ws[j]? = some x → x.2.natAbs ∣ lcmOf (ws.take i)
  | 0, _, j, x, hj, _ => absurd hj (Nat.not_lt_zero j)
  | i + 1, hi, j, x, hj, hx => by
    have hy : ws[i]? = some ws[i] := List.getElem?_eq_getElem (by omega)
    rw [lcmOf_next hy]
    rcases Nat.lt_succ_iff_lt_or_eq.mp hj with h | h
    · exact Nat.dvd_trans (lcmOf_all i (by omega) j x h hx) (Nat.dvd_lcm_left _ _)
    · subst h
      rw [hy] at hx
      cases hx
      exact Nat.dvd_lcm_right _ _
theorem tot_fr {ws : W2} {t b : Int} {M : Nat} (sm : Small ws M) (co : ∀ (i : Nat) (x : Int × Int), ws[i]? = some x → Nat.gcd x.1.natAbs x.2.natAbs = 1) (h : TotOf ws t b) : IsFr M (sumOf ws M) t b := by
  rcases h with ⟨x, rfl, rfl, rfl⟩ | ⟨rfl, rfl⟩
  · obtain ⟨h1, h2⟩ := sm.bot 0 x rfl
    refine ⟨h1, co 0 x rfl, ?_⟩
    rw [sumOf_cons, show sumOf [] (M : Int) = 0 from rfl, Int.add_zero, Int.mul_assoc, Int.ediv_mul_cancel (dvd_int h2)]
  · have l1 := lcmOf_lt sm (i := ws.length) (Nat.le_refl _)
    have d := lcmOf_dvd sm ws.length (Nat.le_refl _)
    rw [List.take_length] at l1 d
    obtain ⟨k, hk⟩ := d
    refine fr_low (by omega) ?_
    have e : (M : Int) = ((lcmOf ws : Nat) : Int) * (k : Int) := by rw [hk]; exact Int.natCast_mul _ _
    rw [e, sumOf_mul ws (fun x hx => by
      obtain ⟨i, hi⟩ := List.mem_iff_getElem?.mp hx
      have q := lcmOf_all ws.length (Nat.le_refl _) i x (List.getElem?_eq_some_iff.mp hi).1 hi
      rw [List.take_length] at q
      exact ⟨(sm.bot i x hi).1, dvd_int q⟩), Int.mul_assoc, Int.mul_comm ((lcmOf ws : Nat) : Int) (k : Int)]
theorem fr_times {M : Nat} {S t b r : Int} (h : IsFr M S t b) : IsFr M (r * S) (lowT (r * t) (1 * b)) (lowB (r * t) (1 * b)) := by
  refine fr_low (by have := h.1; omega) ?_
  rw [Int.mul_assoc, h.2.2, Int.one_mul, Int.mul_assoc]
/-! ### what comes together in so many days -/
/-- the first x of a word that is told again and again -/
def dayS (M : Nat) (ws : W2) : Nat → Int
  | 0 => 0
  | x + 1 => dayS M ws x + match ws[x % ws.length]? with | some y => y.1 * ((M : Int) / y.2) | none => 0
theorem dayS_is {M : Nat} {ws : W2} (h : 1 ≤ ws.length) : ∀ x, dayS M ws x = ((x / ws.length : Nat) : Int) * sumOf ws M + sumOf (ws.take (x % ws.length)) M
  | 0 => by
    rw [Nat.zero_div, Nat.zero_mod, List.take_zero]
    simp [dayS, sumOf]
  | x + 1 => by
    have hm : x % ws.length < ws.length := Nat.mod_lt _ (by omega)
    have hx : ws[x % ws.length]? = some ws[x % ws.length] := List.getElem?_eq_getElem hm
    show dayS M ws x + (match ws[x % ws.length]? with | some y => y.1 * ((M : Int) / y.2) | none => 0) = _
    rw [hx, dayS_is h x]
    have st : sumOf (ws.take (x % ws.length)) M + ws[x % ws.length].1 * ((M : Int) / ws[x % ws.length].2) = sumOf (ws.take (x % ws.length + 1)) M := by
      rw [List.take_succ_eq_append_getElem hm, sumOf_append, sumOf_cons, show sumOf [] (M : Int) = 0 from rfl, Int.add_zero]
    show _ + _ + ws[x % ws.length].1 * ((M : Int) / ws[x % ws.length].2) = _
    rw [Int.add_assoc, st]
    by_cases c : x % ws.length + 1 = ws.length
    · have a := Nat.div_add_mod x ws.length
      have e : x + 1 = ws.length * (x / ws.length + 1) := by rw [Nat.mul_add, Nat.mul_one]; omega
      have e1 : (x + 1) % ws.length = 0 := by rw [e, Nat.mul_mod_right]
      have e2 : (x + 1) / ws.length = x / ws.length + 1 := by
        have q : (ws.length * (x / ws.length + 1)) / ws.length = x / ws.length + 1 := Nat.mul_div_cancel_left _ (by omega)
        rw [← e] at q
        exact q
      rw [e1, e2, c, List.take_length, List.take_zero, show sumOf [] (M : Int) = 0 from rfl, Int.add_zero, Int.natCast_add, Int.add_mul]
      simp
    · have hl : x % ws.length + 1 < ws.length := by omega
      have a := Nat.div_add_mod x ws.length
      have e1 : (x + 1) % ws.length = x % ws.length + 1 := by
        have e : x + 1 = (x % ws.length + 1) + ws.length * (x / ws.length) := by omega
        rw [e, Nat.add_mul_mod_self_left, Nat.mod_eq_of_lt hl]
      have e2 : (x + 1) / ws.length = x / ws.length := by
        have e : x + 1 = (x % ws.length + 1) + ws.length * (x / ws.length) := by omega
        rw [e, Nat.add_mul_div_left _ _ (by omega), Nat.div_eq_of_lt hl, Nat.zero_add]
      rw [e1, e2]
theorem dayS_like {M : Nat} {ws vs : W2} : ∀ x, (∀ i, i < x → ws[i % ws.length]? = vs[i % vs.length]?) → dayS M ws x = dayS M vs x
  | 0, _ => rfl
  | x + 1, h => by
    show dayS M ws x + _ = dayS M vs x + _
    rw [dayS_like x (fun i hi => h i (by omega)), h x (Nat.lt_succ_self x)]
end K10

namespace K10
open PySem PySem.Spec PyProof.Rows L2
/-! ### the sum up to a day -/
structure FrTold (told : List (Option Int × W2)) (M : Nat) : Prop where
  pos : 0 < M
  lt : M < 2 ^ 60
  sh : ∀ (i : Nat) (x : Option Int × W2) (j : Nat) (y : Int × Int), told[i]? = some x → x.2[j]? = some y → 0 < y.2 ∧ y.2.natAbs ∣ M ∧ y.1.natAbs < 2 ^ 800 ∧ Nat.gcd y.1.natAbs y.2.natAbs = 1
/-- how many days of a stretch fall into so many -/
def hereD (d : Option Int) (many : Int) : Int := match d with
  | none => many
  | some n => if n < many then n else many
/-- the sum of so many days, times M -/
def sumV (M : Nat) : List (Option Int × W2) → Int → Int
  | [], _ => 0
  | (d, ws) :: r, many => dayS M ws (hereD d many).toNat + sumV M r (many - hereD d many)
def upTo (x : Int) : Int := if 0 < x then x else 0
def con (M : Nat) (told : List (Option Int × W2)) (i : Int) (k : Nat) : Int := match told[k]? with
  | some x => dayS M x.2 (hereD x.1 (upTo (i - bAt told k))).toNat
  | none => 0
def conSum (M : Nat) (told : List (Option Int × W2)) (i : Int) : Nat → Int
  | 0 => 0
  | k + 1 => conSum M told i k + con M told i k
theorem hereD_zero {d : Option Int} (h : ∀ n, d = some n → 1 ≤ n) : hereD d 0 = 0 := by
  cases d with
  | none => rfl
  | some n =>
    have := h n rfl
    show (if n < 0 then n else 0) = 0
    rw [if_neg (by omega)]
theorem bAt_nonneg {told : List (Option Int × W2)} : ∀ k, (∀ (j : Nat) (x : Option Int × W2), told[j]? = some x → ∀ n, x.1 = some n → 1 ≤ n) → 0 ≤ bAt told k
  | 0, _ => by rw [bAt_zero]; exact Int.le_refl _
  | k + 1, h => by
    have ih := bAt_nonneg k h
    cases e : told[k]? with
    | none =>
      have : bAt told (k + 1) = bAt told k := by
        unfold bAt
        rw [List.take_of_length_le (by have := List.getElem?_eq_none_iff.mp e; omega), List.take_of_length_le (List.getElem?_eq_none_iff.mp e)]
      rw [this]
      exact ih
    | some x =>
      rw [bAt_next e]
      cases q : x.1 with
      | none => simpa [q] using ih
      | some n =>
        have := h k x e n q
        show 0 ≤ bAt told k + n
        omega
theorem con_cons {M : Nat} (d : Option Int) (ws : W2) (r : List (Option Int × W2)) (i : Int) (k : Nat) (h0 : 0 ≤ i) (hd : ∀ n, d = some n → 1 ≤ n) (hn : d = none → r = [])
    (hr : ∀ (j : Nat) (x : Option Int × W2), r[j]? = some x → ∀ n, x.1 = some n → 1 ≤ n) : con M ((d, ws) :: r) i (k + 1) = con M r (i - hereD d i) k := by
  unfold con
  rw [List.getElem?_cons_succ, bAt_cons]
  cases e : r[k]? with
  | none => rfl
  | some x =>
    have b0 := bAt_nonneg k hr
    cases d with
    | none =>
      rw [hn rfl] at e
      simp at e
    | some n =>
      have n1 := hd n rfl
      show dayS M x.2 (hereD x.1 (upTo (i - (n + bAt r k)))).toNat = dayS M x.2 (hereD x.1 (upTo (i - (if n < i then n else i) - bAt r k))).toNat
      congr 3
      unfold upTo
      by_cases c : n < i
      · rw [if_pos c]
        rw [show i - (n + bAt r k) = i - n - bAt r k from by omega]
      · rw [if_neg c, if_neg (by omega), if_neg (by omega)]
theorem conSum_cons {M : Nat} {x : Option Int × W2} {r : List (Option Int × W2)} {i j : Int} (h : ∀ k, con M (x :: r) i (k + 1) = con M r j k) : ∀ k, conSum M (x :: r) i (k + 1) = con M (x :: r) i 0 + conSum M r j k
  | 0 => by
    show 0 + con M (x :: r) i 0 = con M (x :: r) i 0 + 0
    omega
  | k + 1 => by
    show conSum M (x :: r) i (k + 1) + con M (x :: r) i (k + 1) = con M (x :: r) i 0 + (conSum M r j k + con M r j k)
    rw [conSum_cons h k, h k, Int.add_assoc]
theorem sumV_con {M : Nat} : ∀ (told : List (Option Int × W2)) (i : Int), 0 ≤ i → (∀ (j : Nat) (x : Option Int × W2), told[j]? = some x → ∀ n, x.1 = some n → 1 ≤ n) → (∀ (j : Nat) (x : Option Int × W2), told[j]? = some x → x.1 = none → j + 1 = told.length) →
    conSum M told i told.length = sumV M told i
  | [], i, _, _, _ => rfl
  | (d, ws) :: r, i, h0, hd, hn => by
    have hd0 : ∀ n, d = some n → 1 ≤ n := fun n e => hd 0 (d, ws) rfl n e
    have hn0 : d = none → r = [] := fun e => by
      have := hn 0 (d, ws) rfl e
      rw [List.length_cons] at this
      exact List.eq_nil_of_length_eq_zero (by omega)
    have hr : ∀ (j : Nat) (x : Option Int × W2), r[j]? = some x → ∀ n, x.1 = some n → 1 ≤ n := fun j x hx => hd (j + 1) x (by simpa using hx)
    have c0 : con M ((d, ws) :: r) i 0 = dayS M ws (hereD d i).toNat := by
      show dayS M ws (hereD d (upTo (i - bAt ((d, ws) :: r) 0))).toNat = _
      rw [bAt_zero, Int.sub_zero]
      unfold upTo
      by_cases c : 0 < i
      · rw [if_pos c]
      · rw [if_neg c, show i = 0 from by omega]
    show conSum M ((d, ws) :: r) i (r.length + 1) = _
    rw [conSum_cons (j := i - hereD d i) (fun k => con_cons d ws r i k h0 hd0 hn0 hr) r.length, c0]
    show _ = dayS M ws (hereD d i).toNat + sumV M r (i - hereD d i)
    rw [sumV_con r (i - hereD d i) (by
      cases d with
      | none => show 0 ≤ i - i; omega
      | some n =>
        show 0 ≤ i - (if n < i then n else i)
        split <;> omega) hr (fun j x hx e => by
      have := hn (j + 1) x (by simpa using hx) e
      rw [List.length_cons] at this
      omega)]
end K10

namespace K10
open PySem PySem.Spec PyProof.Rows L2
/-! ### a tuple, counted through -/
def IteT (K : PySem.W.Frag) (a : Addr) : It where
  go i H := ∃ (xs : List V) (x : V), SqT K H a xs ∧ xs[i]? = some x
  yld i H v H' := ∃ (t : Addr) (x : V), v = .ref t ∧ H t = none ∧ H' = upd H t (.tup [.int (i : Nat), x]) ∧ ∀ ys, SqT K H a ys → ys[i]? = some x
  stop i H := ∃ xs : List V, SqT K H a xs ∧ xs.length ≤ i
def CntAt (a e it : Addr) (i : Nat) (h : Heap) : Prop := (∃ o, IsEnum h e it ((i : Nat) : Int) o) ∧ h.IsTupleIter it a i ∧ e ≠ it
theorem cnt_turn {P : Program} {w : World} {K : PySem.W.Frag} {elts : List Expr} {kk : Nat} {tp : Pos} (a e it : Addr) :
    Turn P w K (.Tuple elts kk tp) (IteT K a) [e, it] e (CntAt a e it) where
  mem := List.mem_cons_self ..
  obj i h := by
    rintro ⟨⟨old, he⟩, ⟨o, ho, hc, hd⟩, _⟩ b hb
    rcases List.mem_cons.mp hb with z | z
    · rw [z]
      exact ⟨_, he, fun v q => nomatch q⟩
    · have z := List.mem_singleton.mp z
      exact ⟨o, by rw [z]; exact ho, fun v q => by rw [hd] at q; cases q⟩
  keep i h h' := by
    rintro ⟨⟨old, he⟩, hi, hne⟩ k
    exact ⟨⟨old, k e (by simp) _ he⟩, hi.at fun o q => k it (by simp) o q, hne⟩
  item := by
    intro X hP hw hK hc i pins s σ H E I hf st hg
    subst hP hw hK
    obtain ⟨⟨old, he⟩, hit, hne⟩ := st
    obtain ⟨xs, x, hq, hx⟩ := hg
    obtain ⟨its, rv, p, hz⟩ := I.tuple hq
    have p : s.heap.IsTuple a its.toArray := p
    obtain ⟨u, hu, ru⟩ := rv.get hx
    have ai : a ≠ it := fun z => by
      obtain ⟨o1, q1, c1, _⟩ := hit
      obtain ⟨o2, q2, c2, _⟩ := p
      rw [z, q1] at q2
      cases q2
      rw [c1] at c2
      exact absurd c2 (by decide)
    have ea : e ≠ a := fun z => by
      obtain ⟨o2, q2, c2, _⟩ := p
      have q3 : s.heap.get? e = some _ := he
      rw [z, q2] at q3
      cases q3
      have c2 : Value.type "enumerate" = Value.type "tuple" := c2
      exact absurd c2 (by decide)
    have il : i < its.toArray.size := by
      have := (List.getElem?_eq_some_iff.mp hu).1
      simpa using this
    have le : e < s.heap.objs.size := Heap.lt_size he
    have li : it < s.heap.objs.size := by
      obtain ⟨_, q, _⟩ := hit
      exact Heap.lt_size q
    refine wpAny_pyNext_enum_itemD (Draws.tuple (A := X.A.in1) (show X.A.in1.handled = none from I.ok.hd hc) it a ai its.toArray) he ⟨hit, p⟩ il hne (by simp [hne, ea]) fun y h' tk hy ho hst hT hsz hk => ?_
    obtain ⟨hit', _⟩ := hst
    have ey : y = u := by
      have hy : its.toArray[i]? = some y := hy
      have hy : its[i]? = some y := by simpa using hy
      rw [hu] at hy
      exact (Option.some.inj hy).symm
    subst ey
    refine ⟨_, rfl, wpAny_letOwnedTupleGo_enum (s := { s with heap := h', toks := tk + 1 }) ho fun h2 he2 sb => ?_⟩
    have t2 : h2.get? s.heap.objs.size = some { cls := .type "tuple", data := .seq #[.int i tk, y] } := (sb.2 _ (Nat.ne_of_gt le)).trans hT
    have nw : ObjOk X.prog X.w (upd H s.heap.objs.size (.tup [.int (i : Nat), x])) h2 s.heap.objs.size (.tup [.int (i : Nat), x]) :=
      ⟨(by show 2 ≤ sizeLine; decide), [.int i tk, y], .cons ⟨_, rfl⟩ (.cons ru .nil), ⟨_, t2, rfl, _, rfl⟩⟩
    have I2 : Inv X pins σ (upd H s.heap.objs.size (.tup [.int (i : Nat), x])) { s with heap := h2, toks := tk + 1 } := by
      refine I.turnedNew (ch := [e, it]) (fun b ob hb q => ?_) hf (Nat.le_refl _) nw
      have b1 : b ≠ e := fun z => hb (by simp [z])
      have b2 : b ≠ it := fun z => hb (by simp [z])
      exact (sb.2 b b1).trans (hk b ob b1 b2 q)
    refine ⟨.ref s.heap.objs.size, _, I2, rfl, ⟨_, x, rfl, I.hok.fresh (Nat.le_refl _), rfl, fun ys hy => ?_⟩, ⟨⟨y, ?_⟩, ?_, hne⟩, fun b hb => ?_⟩
    · rw [I.tuple_inj hy hq]
      exact hx
    · rw [show ((i + 1 : Nat) : Int) = (i : Int) + 1 from by omega]
      exact he2
    · exact hit'.at fun o q => (sb.2 it (Ne.symm hne)).trans q
    · have lb : b < s.heap.objs.size := by
        rcases List.mem_cons.mp hb with z | z
        · rw [z]; exact le
        · rw [List.mem_singleton.mp z]; exact li
      rw [upd_ne (Nat.ne_of_lt lb)]
      exact (hf b hb).1
  done := by
    intro X hP hw hK hc i pins s σ H E I hf st hg
    subst hP hw hK
    obtain ⟨⟨old, he⟩, hit, hne⟩ := st
    obtain ⟨xs, hq, hx⟩ := hg
    obtain ⟨its, rv, p, hz⟩ := I.tuple hq
    have p : s.heap.IsTuple a its.toArray := p
    obtain ⟨f0, f1, f2, f3, f4, f5⟩ := hf it (by simp)
    have hl := rv.length
    have hT : s.TypeIs (.ref e) "enumerate" := ⟨_, he, rfl⟩
    unfold pyNext
    refine wpAny_bind (wpAny_attempt (wpAny_callSpecial?_slot (name := Str.ofString "__next__") hT F.slot_enumerate_next (wpAny_call_entry F.slot_enumerate_next hT F.entry_enumerate_next ?_ (F.args_enumerate_next_1 _))))
    show wpAny _ _ (field (.ref e) 2 >>= _) _ _ _
    refine wpAny_bind (wpAny_field he rfl (x := .ref it) rfl ?_)
    refine wpAny_bind (wpAny_nextOf_tuple_end (I.ok.hd hc) hit p (by simp; omega) fun h' x eb hx' => ?_)
    obtain ⟨o, ho, oc⟩ := hx'
    refine wpAny_bind (wpAny_isInstance (T := "StopIteration") (b := true) ⟨o, ho, oc⟩ isSubtype_stop ?_)
    exact wpAny_pure ⟨rfl, I.turned (t' := s.toks) (fun b o hb q => eb b o hb q) f0 f1 f3 f4 f5⟩
  self _ i s Q E st h := by
    obtain ⟨⟨_, he⟩, _⟩ := st
    exact wpAny_pyIter_enum he h
abbrev enO (it : Addr) : Obj := { cls := .type "enumerate", data := .fields #[.none, .bool false, .ref it, rawInt 0, .none, .none] }
set_option maxHeartbeats 4000000 in
theorem cnt_new {v : Value} {o : Obj} {Hh : Heap → Prop} (B : Begins v o Hh) :
    Meets (Builtin.«enumerate.__new__» ⟨[.type "enumerate", v], []⟩) (fun _ R s => Hh s.heap ∧ R (.ok (.ret (.ref (s.heap.push o).objs.size))) { s with heap := (s.heap.push o).push (enO s.heap.objs.size) }) :=
  .of_wp fun prog w A R s h => by
    obtain ⟨hp, g, d, tk, os⟩ := s
    obtain ⟨h1, h⟩ := h
    have hsub := sub_enumerate
    have start : ∀ {A' : Around} {E : Value → Shared → Prop} {Q : Value → Shared → Prop}, Q (.ref hp.objs.size) ⟨hp.push o, g, d, tk, os⟩ → wpAny (model prog w) A' (pyIter v) Q E ⟨hp, g, d, tk, os⟩ := fun q => B.iter _ _ _ _ ⟨hp, g, d, tk, os⟩ _ h1 q
    wp_walk using start
    refine wpAny_stack_any fun st => wpAny_pure ?_
    split
    · rename_i c _ _ _ _ _
      cases (c == Value.type "enumerate") <;> (wp_walk using start; exact ⟨_, rfl, h⟩)
    · wp_walk using start
      exact ⟨_, rfl, h⟩
def iEnumT (K : PySem.W.Frag) (ta : TA) : TI := fun σ H R => ta σ H fun vs H1 => ∃ a xs, vs = [.ref a] ∧ SqT K H1 a xs ∧ R (IteT K a) H1
theorem pi_enumT {X : Cx} {x : Expr} {ta : TA} {p pos tp : Pos} {elts : List Expr} {kk : Nat} (hg : Gl X "enumerate") (hm : X.mg "enumerate" = none) (ha : PA X [x] ta) (hs : starEach [x] X.env = [(false, eval x X.env)] := by rfl) :
    PI X (.Tuple elts kk tp) (.Call (.Name "enumerate" p) [x] [] pos) (iEnumT X.K ta) := by
  constructor
  intro pins s σ H R I h
  refine Call_ (ld_blt I hg hm boot_enumerate (PyProof.Rows.callWith_type1 (thn (ha.run pos pins s σ H _ I h) fun us s1 ⟨vs, H1, I1, r1, q1⟩ => ?_) hs rfl))
  obtain ⟨a, xs, ex, hq, q⟩ := q1
  subst ex
  rcases r1 with _ | ⟨r, rr⟩
  cases rr
  cases r
  obtain ⟨its, rv, pt, hz⟩ := I1.tuple hq
  have pt : s1.heap.IsTuple a its.toArray := pt
  have B := begins_tuple a its.toArray
  refine callType_new F.called_enumerate (by decide) (F.typeCall_enumerate_1 _) (F.newCall_enumerate_1 _) (fun obj => F.args_object_init_2 obj _) F.entry_enumerate_new (cnt_new B) ⟨pt, ?_⟩
  generalize hit : ({ cls := .type "tuple_iterator", data := .fields #[.ref a, .int 0 0] } : Obj) = oi
  have fr : oi.isFreed = false := by rw [← hit]; rfl
  have sz : (s1.heap.push oi).objs.size = s1.heap.objs.size + 1 := Heap.size_push ..
  show _ ∧ _
  rw [sz]
  have he : ((s1.heap.push oi).push (enO s1.heap.objs.size)).get? (s1.heap.objs.size + 1) = some (enO s1.heap.objs.size) := by
    have z := Heap.get?_push_size (s1.heap.push oi) (o := enO s1.heap.objs.size) rfl
    rw [sz] at z
    exact z
  have hi : ((s1.heap.push oi).push (enO s1.heap.objs.size)).get? s1.heap.objs.size = some oi := Heap.get?_push_of_some _ (Heap.get?_push_size _ fr)
  have en : IsEnum ((s1.heap.push oi).push (enO s1.heap.objs.size)) (s1.heap.objs.size + 1) s1.heap.objs.size 0 .none := he
  have ti : ((s1.heap.push oi).push (enO s1.heap.objs.size)).IsTupleIter s1.heap.objs.size a 0 := ⟨oi, hi, by rw [← hit], by rw [← hit]; rfl⟩
  have keep : ∀ b o, s1.heap.get? b = some o → ((s1.heap.push oi).push (enO s1.heap.objs.size)).get? b = some o := fun b o z => Heap.get?_push_of_some _ (Heap.get?_push_of_some _ z)
  refine ⟨⟨_, he, rfl⟩, wpAny_pyIter_enum en ?_⟩
  refine ⟨s1.heap.objs.size + 1, [s1.heap.objs.size + 1, s1.heap.objs.size], _, _, H1, rfl, I1.kept (t' := s1.toks) keep, cnt_turn a (s1.heap.objs.size + 1) s1.heap.objs.size, ⟨⟨.none, en⟩, ti, Nat.succ_ne_self _⟩, fun b hb => ?_, q⟩
  have lb : s1.heap.objs.size ≤ b := by
    rcases List.mem_cons.mp hb with z | z
    · rw [z]; exact Nat.le_add_right _ _
    · rw [List.mem_singleton.mp z]; exact Nat.le_refl _
  exact I1.fpOk lb (I1.hok.fresh lb)
theorem walk_enumT {K : PySem.W.Frag} {a : Addr} {xs : List V} : Walk (IteT K a) xs.length (fun H => SqT K H a xs) (YPair (fun i => some (.int (i : Nat))) (fun i => xs[i]?)) where
  goes i H hi q := ⟨xs, xs[i], q, List.getElem?_eq_getElem hi⟩
  stops H q := ⟨xs, q, Nat.le_refl _⟩
  yields i H v H' _ q y := by
    obtain ⟨T, x, h1, h2, h3, h4⟩ := y
    exact ⟨T, .int (i : Nat), x, h1, h2, h3, rfl, h4 xs q⟩
end K10

namespace K10
open PySem PySem.Spec PyProof.Rows L2
/-! ### sums kept by their bottoms -/
abbrev DL := List (Int × Int)
def kvOf (ds : DL) : List (Key × V) := ds.map fun p => (Sum.inl p.1, V.int p.2)
def getD : DL → Int → Option Int
  | [], _ => none
  | p :: r, b => if p.1 = b then some p.2 else getD r b
def putD : DL → Int → Int → DL
  | [], b, v => [(b, v)]
  | p :: r, b, v => if p.1 = b then (p.1, v) :: r else p :: putD r b v
theorem kv_get (b : Int) : ∀ ds : DL, valV (kvOf ds) (Sum.inl b : Key) = (getD ds b).map V.int
  | [] => rfl
  | p :: r => by
    show valV ((Sum.inl p.1, V.int p.2) :: kvOf r) (Sum.inl b : Key) = (if p.1 = b then some p.2 else getD r b).map V.int
    by_cases h : p.1 = b
    · rw [if_pos h, valV_pos (by show (Sum.inl p.1 : Key) = Sum.inl b; rw [h])]
      rfl
    · rw [if_neg h, valV_neg (fun z => h (Sum.inl.inj z)), kv_get b r]
theorem putD_mem {b v : Int} : ∀ (ds : DL) (p : Int × Int), p ∈ putD ds b v → p ∈ ds ∨ p = (b, v)
  | [], p, h => .inr (by simpa [putD] using h)
  | q :: r, p, h => by
    unfold putD at h
    split at h
    · rename_i e
      rcases List.mem_cons.mp h with z | z
      · exact .inr (by rw [z, e])
      · exact .inl (List.mem_cons_of_mem _ z)
    · rcases List.mem_cons.mp h with z | z
      · exact .inl (by rw [z]; exact List.mem_cons_self ..)
      · rcases putD_mem r p z with z | z
        · exact .inl (List.mem_cons_of_mem _ z)
        · exact .inr z
theorem putD_len (b v : Int) : ∀ ds : DL, (putD ds b v).length ≤ ds.length + 1
  | [] => Nat.le_refl _
  | q :: r => by
    unfold putD
    split
    · exact Nat.le_succ _
    · exact Nat.succ_le_succ (putD_len b v r)
theorem putD_keys {b v : Int} : ∀ (ds : DL) (k : Int), k ∈ (putD ds b v).map (·.1) → k ∈ ds.map (·.1) ∨ k = b
  | ds, k, h => by
    obtain ⟨p, hp, rfl⟩ := List.mem_map.mp h
    rcases putD_mem ds p hp with z | z
    · exact .inl (List.mem_map.mpr ⟨p, z, rfl⟩)
    · exact .inr (by rw [z])
theorem putD_nd {b v : Int} : ∀ ds : DL, (ds.map (·.1)).Nodup → ((putD ds b v).map (·.1)).Nodup
  | [], _ => by simp [putD]
  | q :: r, h => by
    rw [List.map_cons, List.nodup_cons] at h
    unfold putD
    split
    · rw [List.map_cons, List.nodup_cons]
      exact h
    · rename_i e
      rw [List.map_cons, List.nodup_cons]
      refine ⟨fun z => ?_, putD_nd r h.2⟩
      rcases putD_keys r _ z with z | z
      · exact h.1 z
      · exact e z
theorem kv_same {b v : Int} (r : DL) (h : b ∉ r.map (·.1)) : (kvOf r).map (fun kv => if kv.1 = (Sum.inl b : Key) then (kv.1, V.int v) else kv) = kvOf r := by
  unfold kvOf
  rw [List.map_map]
  refine List.map_congr_left fun p hp => ?_
  show (if (Sum.inl p.1 : Key) = Sum.inl b then _ else _) = _
  rw [if_neg (fun z => h (List.mem_map.mpr ⟨p, hp, Sum.inl.inj z⟩))]
theorem kv_put {b v : Int} : ∀ ds : DL, (ds.map (·.1)).Nodup → putK (kvOf ds) (Sum.inl b : Key) (.int v) = kvOf (putD ds b v)
  | [], _ => rfl
  | q :: r, h => by
    rw [List.map_cons, List.nodup_cons] at h
    have ih := kv_put (b := b) (v := v) r h.2
    unfold putK at ih ⊢
    show (if (((Sum.inl q.1, V.int q.2) :: kvOf r).any fun kv => decide (kv.1 = (Sum.inl b : Key))) = true then ((Sum.inl q.1, V.int q.2) :: kvOf r).map (fun kv => if kv.1 = (Sum.inl b : Key) then (kv.1, V.int v) else kv) else ((Sum.inl q.1, V.int q.2) :: kvOf r) ++ [((Sum.inl b : Key), V.int v)]) = _
    rw [List.any_cons, List.map_cons, List.cons_append]
    by_cases e : q.1 = b
    · rw [show decide ((Sum.inl q.1, V.int q.2).1 = (Sum.inl b : Key)) = true from decide_eq_true (by show (Sum.inl q.1 : Key) = Sum.inl b; rw [e]), Bool.true_or, if_pos rfl]
      rw [kv_same r (by rw [← e]; exact h.1)]
      unfold putD
      rw [if_pos e, if_pos (by show (Sum.inl q.1 : Key) = Sum.inl b; rw [e])]
      rfl
    · have ne : ¬ (Sum.inl q.1 : Key) = Sum.inl b := fun z => e (Sum.inl.inj z)
      rw [show decide ((Sum.inl q.1, V.int q.2).1 = (Sum.inl b : Key)) = false from decide_eq_false ne, Bool.false_or]
      unfold putD
      rw [if_neg e, if_neg ne]
      show _ = (Sum.inl q.1, V.int q.2) :: kvOf (putD r b v)
      rw [← ih]
      split <;> rfl
/-- what they come to, times m -/
def dSum (m : Nat) (ds : DL) : Int := (ds.map fun p => p.2 * ((m : Int) / p.1)).sum
theorem dSum_put {m : Nat} {b x : Int} : ∀ ds : DL, dSum m (putD ds b ((getD ds b).getD 0 + x)) = dSum m ds + x * ((m : Int) / b)
  | [] => by
    show (0 + x) * ((m : Int) / b) + 0 = 0 + x * ((m : Int) / b)
    rw [Int.zero_add, Int.add_zero, Int.zero_add]
  | q :: r => by
    by_cases e : q.1 = b
    · have e1 : getD (q :: r) b = some q.2 := by
        show (if q.1 = b then some q.2 else getD r b) = _
        rw [if_pos e]
      have e2 : ∀ v, putD (q :: r) b v = (q.1, v) :: r := fun v => by
        show (if q.1 = b then (q.1, v) :: r else q :: putD r b v) = _
        rw [if_pos e]
      rw [e1, e2]
      show (q.2 + x) * ((m : Int) / q.1) + dSum m r = q.2 * ((m : Int) / q.1) + dSum m r + x * ((m : Int) / b)
      rw [e, Int.add_mul]
      omega
    · have e1 : getD (q :: r) b = getD r b := by
        show (if q.1 = b then some q.2 else getD r b) = _
        rw [if_neg e]
      have e2 : ∀ v, putD (q :: r) b v = q :: putD r b v := fun v => by
        show (if q.1 = b then (q.1, v) :: r else q :: putD r b v) = _
        rw [if_neg e]
      rw [e1, e2]
      show q.2 * ((m : Int) / q.1) + dSum m (putD r b ((getD r b).getD 0 + x)) = q.2 * ((m : Int) / q.1) + dSum m r + x * ((m : Int) / b)
      rw [dSum_put r]
      omega
theorem getD_mem {b v : Int} : ∀ ds : DL, getD ds b = some v → (b, v) ∈ ds
  | [], h => nomatch h
  | q :: r, h => by
    unfold getD at h
    split at h
    · rename_i e
      obtain rfl := Option.some.inj h
      rw [← e]
      exact List.mem_cons_self ..
    · exact List.mem_cons_of_mem _ (getD_mem r h)
/-- a dict of sums at S: N times something was put there -/
structure DictAt (m : Nat) (H : Hp) (S : Addr) (ds : DL) (N : Nat) : Prop where
  at_ : H S = some (.dK (kvOf ds))
  nd : (ds.map (·.1)).Nodup
  few : ds.length ≤ N
  key : ∀ p ∈ ds, 0 < p.1 ∧ p.1.natAbs ∣ m
  val : ∀ p ∈ ds, p.2.natAbs ≤ N * 2 ^ 860
theorem DictAt.same {m : Nat} {H H' : Hp} {S : Addr} {ds : DL} {N : Nat} (h : DictAt m H S ds N) (s : Same H H') : DictAt m H' S ds N := ⟨s _ _ h.at_, h.nd, h.few, h.key, h.val⟩
theorem DictAt.old {m : Nat} {H : Hp} {S : Addr} {ds : DL} {N : Nat} (h : DictAt m H S ds N) (b : Int) : ((getD ds b).getD 0).natAbs ≤ N * 2 ^ 860 := by
  cases e : getD ds b with
  | none => simp
  | some v => exact h.val _ (getD_mem ds e)
theorem DictAt.put {m : Nat} {H : Hp} {S : Addr} {ds : DL} {N : Nat} (h : DictAt m H S ds N) {b x : Int} (b0 : 0 < b) (bm : b.natAbs ∣ m) (hx : x.natAbs ≤ 2 ^ 860) :
    DictAt m (upd H S (.dK (putK (kvOf ds) (Sum.inl b) (.int ((getD ds b).getD 0 + x))))) S (putD ds b ((getD ds b).getD 0 + x)) (N + 1) := by
  have o := h.old b
  refine ⟨by rw [upd_same, kv_put ds h.nd], putD_nd ds h.nd, Nat.le_trans (putD_len ..) (Nat.succ_le_succ h.few), fun p hp => ?_, fun p hp => ?_⟩
  · rcases putD_mem ds p hp with z | z
    · exact h.key p z
    · rw [z]
      exact ⟨b0, bm⟩
  · rw [Nat.succ_mul]
    rcases putD_mem ds p hp with z | z
    · exact Nat.le_trans (h.val p z) (Nat.le_add_right _ _)
    · rw [z]
      exact Nat.le_trans (Int.natAbs_add_le _ _) (Nat.add_le_add o hx)
/-- so many days of a word: the first r once more -/
def wSum (m : Nat) (u : W2) (q : Int) (r : Nat) : Nat → Int
  | 0 => 0
  | j + 1 => wSum m u q r j + match u[j]? with | some y => (if j < r then q + 1 else q) * y.1 * ((m : Int) / y.2) | none => 0
theorem wSum_is {m : Nat} {u : W2} {q : Int} {r : Nat} : ∀ j, j ≤ u.length → wSum m u q r j = q * sumOf (u.take j) m + sumOf (u.take (min j r)) m
  | 0, _ => by
    rw [Nat.zero_min, List.take_zero]
    show (0 : Int) = q * 0 + 0
    rw [Int.mul_zero, Int.add_zero]
  | j + 1, h => by
    have hj : j < u.length := h
    have hy : u[j]? = some u[j] := List.getElem?_eq_getElem hj
    have st : ∀ k, k = j → sumOf (u.take (k + 1)) m = sumOf (u.take k) m + u[j].1 * ((m : Int) / u[j].2) := fun k e => by
      subst e
      rw [List.take_succ_eq_append_getElem hj, sumOf_append, sumOf_cons, show sumOf [] (m : Int) = 0 from rfl, Int.add_zero]
    show wSum m u q r j + (match u[j]? with | some y => (if j < r then q + 1 else q) * y.1 * ((m : Int) / y.2) | none => 0) = _
    rw [hy, wSum_is j (by omega), st j rfl, Int.mul_add]
    show _ + _ + (if j < r then q + 1 else q) * u[j].1 * ((m : Int) / u[j].2) = _
    generalize u[j].1 = t at *
    generalize (m : Int) / u[j].2 = c at *
    by_cases e : j < r
    · rw [if_pos e, Nat.min_eq_left (show j + 1 ≤ r by omega), Nat.min_eq_left (show j ≤ r by omega), st j rfl, Int.add_mul, Int.one_mul, Int.add_mul, Int.mul_assoc]
      omega
    · rw [if_neg e, Nat.min_eq_right (show r ≤ j + 1 by omega), Nat.min_eq_right (show r ≤ j by omega), Int.mul_assoc]
      omega
end K10

namespace K10
open PySem PySem.Spec PyProof.Rows L2
def spSumTo (K : PySem.W.Frag) (C CC CD : Addr) : Sp := fun vs H Q E => ∃ (c : Addr) (v : V) (told : List (Option Int × W2)) (bi bb : Bool) (M : Nat), vs = [.ref c, v] ∧ CourseAt K C CC H c told ∧ FrTold told M ∧ Kind K H v bi bb ∧
  ((∃ i, v = .int i ∧ bi = true ∧ bb = false ∧ 0 ≤ i ∧ i ≤ 1000000000000000 ∧ ∀ (H' : Hp) (p : Addr) (t b : Int), Same H H' → IsFr M (sumV M told i) t b → ShAt C H' p t b → Q (.ref p) H') ∨
    (((∃ i, v = .int i ∧ bi = true ∧ bb = false ∧ ¬ (0 ≤ i ∧ i ≤ 1000000000000000)) ∨ (bi && !bb) = false) ∧ E (.ref CD) none H))
theorem low_r (r : Int) : lowT r 1 = r ∧ lowB r 1 = 1 := by
  have g : sg r 1 = 1 := by
    unfold sg
    rw [if_neg (by decide), show ((1 : Int)).natAbs = 1 from rfl, Nat.gcd_one_right]
    rfl
  have a := lowT_mul r 1
  have b := lowB_mul r 1
  rw [g, Int.mul_one] at a b
  exact ⟨a, b⟩
theorem least_sub {d : Option Int} {ws : W2} {y : Int × Int} (h1 : 1 ≤ ws.length) (hd : ∀ n, d = some n → 1 ≤ n) (h : y ∈ leastW (cutO d ws)) : y ∈ ws := by
  obtain ⟨m, hm⟩ := least_ex (cutO_pos hd h1)
  rw [leastW_of hm] at h
  have h := List.mem_of_mem_take h
  cases d with
  | none => exact h
  | some n => exact List.mem_of_mem_take h
theorem small_of {ws vs : W2} {told : List (Option Int × W2)} {m : Nat} {k : Nat} {d : Option Int} (fr : FrTold told m) (hx : told[k]? = some (d, ws)) (hl : vs.length ≤ 60) (sub : ∀ y ∈ vs, y ∈ ws) : Small vs m ∧ ∀ (i : Nat) (y : Int × Int), vs[i]? = some y → Nat.gcd y.1.natAbs y.2.natAbs = 1 := by
  have g : ∀ (i : Nat) (y : Int × Int), vs[i]? = some y → 0 < y.2 ∧ y.2.natAbs ∣ m ∧ y.1.natAbs < 2 ^ 800 ∧ Nat.gcd y.1.natAbs y.2.natAbs = 1 := fun i y hy => by
    obtain ⟨j, hj⟩ := List.mem_iff_getElem?.mp (sub y (List.mem_of_getElem? hy))
    exact fr.sh k _ j y hx hj
  exact ⟨⟨fr.pos, fr.lt, fun i y hy => ⟨(g i y hy).1, (g i y hy).2.1⟩, fun i y hy => pow_le (g i y hy).2.2.1 (by decide), Nat.le_trans hl (by decide)⟩, fun i y hy => (g i y hy).2.2.2⟩
theorem sum_small {ws vs : W2} {told : List (Option Int × W2)} {m : Nat} {k : Nat} {d : Option Int} (fr : FrTold told m) (hx : told[k]? = some (d, ws)) (hl : vs.length ≤ 60) (sub : ∀ y ∈ vs, y ∈ ws) : (sumOf vs m).natAbs < 2 ^ 900 := by
  have a := sum_lt (vs.map fun x => x.1 * ((m : Int) / x.2)) (2 ^ 860) (fun y hy => by
    obtain ⟨x, hx', rfl⟩ := List.mem_map.mp hy
    obtain ⟨j, hj⟩ := List.mem_iff_getElem?.mp (sub x hx')
    obtain ⟨b, _, t, _⟩ := fr.sh k _ j x hx hj
    have e : ((m : Int) / x.2).natAbs ≤ m := by
      have q0 : 0 ≤ (m : Int) / x.2 := Int.ediv_nonneg (by omega) (by omega)
      have q1 : (m : Int) / x.2 ≤ (m : Int) := Int.ediv_le_self _ (by omega)
      omega
    rw [Int.natAbs_mul, show (2 : Nat) ^ 860 = 2 ^ 800 * 2 ^ 60 from by rw [← Nat.pow_add]]
    exact Nat.mul_le_mul (Nat.le_of_lt t) (Nat.le_trans e (Nat.le_of_lt fr.lt)))
  rw [List.length_map] at a
  have c : vs.length * 2 ^ 860 ≤ 2 ^ 6 * 2 ^ 860 := Nat.mul_le_mul_right _ (Nat.le_trans hl (by decide))
  rw [← Nat.pow_add] at c
  exact Nat.lt_of_le_of_lt (Nat.le_trans a c) (Nat.pow_lt_pow_right (by decide) (by decide))
/-- dicts may change, nothing else -/
def KeepD (H H' : Hp) : Prop := ∀ b o, H b = some o → (∀ kvs, o ≠ .dK kvs) → H' b = some o
theorem KeepD.refl {H : Hp} : KeepD H H := fun _ _ e _ => e
theorem KeepD.tup {K : PySem.W.Frag} {H H' : Hp} {a : Addr} {xs : List V} (k : KeepD H H') (h : SqT K H a xs) : SqT K H' a xs :=
  h.elim (fun h => .inl (h.elim (fun h => .inl (k _ _ h (fun _ z => nomatch z))) fun ⟨o, h⟩ => .inr ⟨o, k _ _ h (fun _ z => nomatch z)⟩)) fun h => .inr h
theorem KeepD.all {C : Addr} {H H' : Hp} {ps : List Addr} {ws : W2} (k : KeepD H H') (h : ShAll C H ps ws) : ShAll C H' ps ws := ⟨h.1, fun i p x a b => by
  obtain ⟨dx, e⟩ := h.2 i p x a b
  exact ⟨dx, k _ _ e (fun _ z => nomatch z)⟩⟩
theorem KeepD.same {H H1 H2 : Hp} (a : KeepD H H1) (s : Same H1 H2) : KeepD H H2 := fun b o e n => s _ _ (a _ _ e n)
theorem keep_dK {H : Hp} {l : Addr} {xs ys : List (Key × V)} (h : H l = some (.dK xs)) : KeepD H (upd H l (.dK ys)) := fun b o e n => by
  rw [upd_ne (fun z => by rw [z, h] at e; exact n _ (Option.some.inj e).symm)]
  exact e
theorem KeepD.trans {H H1 H2 : Hp} (a : KeepD H H1) (b : KeepD H1 H2) : KeepD H H2 := fun c o e n => b _ _ (a _ _ e n) n
def lowD (p : Int × Int) : Int × Int := (lowT p.2 p.1, lowB p.2 p.1)
theorem dSum_low {m : Nat} : ∀ ds : DL, (∀ p ∈ ds, 0 < p.1 ∧ p.1.natAbs ∣ m) → sumOf (ds.map lowD) m = dSum m ds
  | [], _ => rfl
  | p :: r, h => by
    have h1 := h p (by simp)
    have e : p.2 * (m : Int) = p.2 * ((m : Int) / p.1) * p.1 := by rw [Int.mul_assoc, Int.ediv_mul_cancel (dvd_int h1.2)]
    rw [List.map_cons, sumOf_cons, dSum_low r (fun q hq => h q (by simp [hq]))]
    show lowT p.2 p.1 * ((m : Int) / lowB p.2 p.1) + dSum m r = p.2 * ((m : Int) / p.1) + dSum m r
    rw [fr_term (fr_low (p := p.2) (q := p.1) (by omega) e)]
theorem low_small {m : Nat} {ds : DL} {N : Nat} (m0 : 0 < m) (lt : m < 2 ^ 60) (few : ds.length ≤ 4000) (hN : N ≤ 4000) (hk : ∀ p ∈ ds, 0 < p.1 ∧ p.1.natAbs ∣ m) (hv : ∀ p ∈ ds, p.2.natAbs ≤ N * 2 ^ 860) : Small (ds.map lowD) m ∧
    ∀ (i : Nat) (x : Int × Int), (ds.map lowD)[i]? = some x → Nat.gcd x.1.natAbs x.2.natAbs = 1 := by
  have g : ∀ (i : Nat) (x : Int × Int), (ds.map lowD)[i]? = some x → 0 < x.2 ∧ x.2.natAbs ∣ m ∧ x.1.natAbs < 2 ^ 1000 ∧ Nat.gcd x.1.natAbs x.2.natAbs = 1 := fun i x hx => by
    rw [List.getElem?_map] at hx
    obtain ⟨p, hp, rfl⟩ := Option.map_eq_some_iff.mp hx
    have hm := List.mem_of_getElem? hp
    obtain ⟨k0, k1⟩ := hk p hm
    have hv := hv p hm
    have p0 : p.1 ≠ 0 := by omega
    have hd : lowB p.2 p.1 ∣ p.1 := ⟨sg p.2 p.1, (lowB_mul p.2 p.1).symm⟩
    refine ⟨lowB_pos p0, Nat.dvd_trans (Int.natAbs_dvd_natAbs.mpr hd) k1, ?_, low_coprime p0⟩
    have c : N * 2 ^ 860 ≤ 2 ^ 12 * 2 ^ 860 := Nat.mul_le_mul_right _ (Nat.le_trans hN (by decide))
    rw [← Nat.pow_add] at c
    exact Nat.lt_of_le_of_lt (Nat.le_trans (lowT_le p0) (Nat.le_trans hv c)) (Nat.pow_lt_pow_right (by decide) (by decide))
  exact ⟨⟨m0, lt, fun i x hx => ⟨(g i x hx).1, (g i x hx).2.1⟩, fun i x hx => (g i x hx).2.2.1, by rw [List.length_map]; exact few⟩, fun i x hx => (g i x hx).2.2.2⟩
theorem told_le {u : W2} {m : Nat} {z j N n : Nat} : min j n ≤ j := Nat.min_le_left _ _
section
variable {P : Program} {w : World} {K : PySem.W.Frag} {mg : Str → Option Value} {base : Heap}
abbrev sumN : List Str := ["course", "days", "tops", "begin", "stop", "word", "past", "rounds", "rest", "at", "share", "told", "bottom", "top"]
theorem scSum : FnScope sumN ["course", "days"] (defScope d_sum_to) := ⟨rfl, rfl, rfl, by decide +kernel, rfl, by decide +kernel, by decide +kernel⟩
theorem ok_sum_to {f fD fT fI C CN CC CD : Addr} {fd fdD fdT fdI : FuncData} (F : Fun K "sum_to" "sum_to" d_sum_to f fd) (T : Txt K mg C CN) (TC : CrsC K CC) (TD : ErrC K mg "NoDay" CD) (B : TxtB mg) (hmin : mg "min" = none) (hdm : mg "divmod" = none) (hen : mg "enumerate" = none)
    (GD : FnOk P w K mg base CX0 3 fD fdD ["thing"] (spDay K)) (mD : mg "is_day" = some (.ref fD)) (kD : PySem.W.keepIn K (.ref fD) = true) (bD : Binds K fdD ["thing"] [])
    (GT : FnOk P w K mg base CX0 4 fT fdT ["shares"] (spTotal K C)) (mT : mg "total" = some (.ref fT)) (kT : PySem.W.keepIn K (.ref fT) = true) (bT : Binds K fdT ["shares"] [])
    (M : Mk K C fI) (GI : FnOk P w K mg base (L2.CX P w) 2 fI fdI ["self", "top", "bottom"] (spInit C CN)) (bI : Binds K fdI ["self", "top", "bottom"] []) :
    FnOk P w K mg base (L2.CX P w) 5 f fd ["course", "days"] (spSumTo K C CC CD) := by
  refine F.okX scSum (fun vs H Q E h => ?_) (fun cdv A outer s H vs Q E hr h => ?_)
  · obtain ⟨c, v, _, _, _, _, rfl, _⟩ := h
    rfl
  · obtain ⟨c, v, told, bi, bb, m, rfl, ⟨dx, l, ss, hc, hl, le, hsp, ok⟩, fr, hk, kq⟩ := h
    have r3 : Room 3 _ := hr.mono (by decide)
    have hu := hu_of hr
    refine ⟨_, pss_cons (ps_if (pt_not (pt_val (pe_call GD r3 rfl mD kD bD .nil pass0 (pa_cons (pv 1) pa_nil))))
        (pss_one (ps_raise rfl (takes_of rfl rfl rfl rfl) (pmk_own PySem.F.excBase_ValueError TD.xN TD.gN TD.kN (raises_own TD.bN TD.tN) (by exact rfl)))) pss_nil)
      (pss_cons (ps_set (i := 2) scSum.nd rfl (Or.inl rfl) pe_dnewK)
      (pss_cons (ps_for PassesOwn.leaving rfl (pi_list (pe_fld (pv 0) rfl)) (pg_tup (by rfl) (pgs_cons (pg_name (i := 3) scSum.nd rfl (.inl rfl)) (pgs_cons (pg_name (i := 4) scSum.nd rfl (.inl rfl)) (pgs_cons (pg_name (i := 5) scSum.nd rfl (.inl rfl)) pgs_nil))))
        (pss_one (ps_if (pt_cmpR op_lt (pv 3) (pv 1) (nomark _))
          (C8.pss_cut (ps_set (i := 6) scSum.nd rfl (Or.inl rfl) (pe_ifExp (pt_cmp (pc_isN (pv 4))) (pv 1) (pe_callB (call_min2 rfl) (by rfl) hmin (by decide +kernel) (pa_cons (pv 1) (pa_cons (pv 4) pa_nil)))))
          (pss_cons (ps_asg (pe_callB call_divmod (by rfl) hdm (by decide +kernel) (pa_cons (pe_op op_sub (pv 6) (pv 3)) (pa_cons (pe_callB call_len_seq (by rfl) B.len PySem.boot_len (pa_cons (pv 5) pa_nil)) pa_nil))) (pg_tup (by rfl) (pgs_cons (pg_name (i := 7) scSum.nd rfl (.inl rfl)) (pgs_cons (pg_name (i := 8) scSum.nd rfl (.inl rfl)) pgs_nil))))
          (pss_one (ps_for PassesOwn.leaving rfl (pi_enumT (by rfl) hen (pa_cons (pv 5) pa_nil)) (pg_tup (by rfl) (pgs_cons (pg_name (i := 9) scSum.nd rfl (.inl rfl)) (pgs_cons (pg_name (i := 10) scSum.nd rfl (.inl rfl)) pgs_nil)))
            (C8.pss_cut (ps_set (i := 11) scSum.nd rfl (Or.inl rfl) (pe_ifExp (pt_cmpR op_lt (pv 9) (pv 8) (nomark _)) (pe_op op_add (pv 7) pe_int) (pv 7)))
            (pss_one (ps_dput hu (pv 2) (pe_fld (pv 10) rfl) (pe_op op_add (pe_dget2 hu (pv 2) (pe_fld (pv 10) rfl) pe_int (by constructor <;> rfl)) (pe_op op_mulW (pv 11) (pe_fld (pv 10) rfl))) rfl)))))))
          pss_nil)))
      (pss_one (ps_ret (pe_call GT hr rfl mT kT bT .nil pass0 (pa_cons (pe_lock (pe_lc (own := [("bottom", 12), ("top", 13)]) (g := gTup K 2 (gCons (gName 12) (gCons (gName 13) gNil))) (by rfl) scSum.nd (pi_items (pv 2)) (blkOk_by (own := [("bottom", 12), ("top", 13)]) (N := sumN) (sc := defScope d_sum_to) (by decide +kernel))
        (fun _ _ _ _ _ => pg_tup (by rfl) (pgs_cons (pg_name (i := 12) scSum.nd rfl (.inl rfl)) (pgs_cons (pg_name (i := 13) scSum.nd rfl (.inl rfl)) pgs_nil))) (fun _ _ _ _ _ => pts_nil) (fun _ _ _ _ _ => pe_make M GI r3 rfl T.mgC bI .nil passL (pa_cons (pv 13) (pa_cons (pv 12) pa_nil))))) pa_nil))))))
      , ?_⟩
    refine ⟨_, rfl, v, bi, bb, rfl, hk, ?_⟩
    rcases kq with ⟨i, rfl, rfl, rfl, i0, i1, kq⟩ | ⟨⟨i, rfl, rfl, rfl, hi⟩ | hb, ke⟩
    · refine .inl ⟨i, rfl, rfl, rfl, _, rfl, ?_⟩
      rw [decide_eq_true i0, decide_eq_true i1]
      refine iteF ?_
      intro S hS
      have s0 : Same H (upd H S (.dK [])) := same1 hS
      refine ⟨_, rfl, c, CC, dx, _, _, rfl, s0 _ _ hc, TC.cl, TC.no, crs_spans l, l, rfl, ⟨_, s0.seq hl⟩, ?_⟩
      refine for_list (K := K) (a := l) (xs := ss.map V.ref) (fun k σ G => ∃ (ds : DL) (v3 v4 v5 v6 v7 v8 v9 va vb : Option V), σ = [some (.ref c), some (.int i), some (.ref S), v3, v4, v5, v6, v7, v8, v9, va, vb, none, none] ∧ DictAt m G S ds (60 * k) ∧ Same H G ∧ dSum m ds = conSum m told i k)
        ⟨[], _, _, _, _, _, _, _, _, _, rfl, ⟨upd_same, List.nodup_nil, Nat.le_refl _, (fun p h => nomatch h), (fun p h => nomatch h)⟩, s0, rfl⟩ ?_ ?_ ?_
      · rintro k σ G _ ⟨_, _, _, _, _, _, _, _, _, _, _, _, sm, _⟩
        exact sm.seq hl
      · rintro k x σ G hx ⟨ds, v3, v4, v5, v6, v7, v8, v9, va, vb, rfl, da, sm, tot⟩
        rw [List.getElem?_map] at hx
        obtain ⟨sk, hsk, rfl⟩ := Option.map_eq_some_iff.mp hx
        obtain ⟨⟨d, ws⟩, hx, wa, q1, ps', q2, q3⟩ := (hsp k sk hsk).mono sm
        have kl : k < told.length := (List.getElem?_eq_some_iff.mp hx).1
        have k60 := ok.few
        have l1 := (ok.word k _ hx).1
        have l60 := (ok.word k _ hx).2
        have hd : ∀ n, d = some n → 1 ≤ n := fun n e => ok.days k _ n hx e
        have b0 : 0 ≤ bAt told k := bAt_nonneg k (fun j x hj n e => ok.days j x n hj e)
        have ul := leastW_len (cutO_pos hd l1)
        have u60 : (leastW (cutO d ws)).length ≤ 60 := Nat.le_trans (Nat.le_of_dvd (cutO_pos hd l1) ul.2) (Nat.le_trans cutO_le l60)
        have us : ∀ y ∈ leastW (cutO d ws), y ∈ ws := fun y hy => least_sub l1 hd hy
        have q1 : SqT K G sk [.int (bAt told k), dv (d.map fun n => bAt told k + n), .ref wa] := q1
        have q3 : ShAll C G ps' (leastW (cutO d ws)) := q3
        have lkat := fun (x : Int) (x0 : 0 ≤ x) (h : ∀ n, d = some n → x < n) => cut_at (d := d) (ws := ws) (x := x) l1 hd x0 h
        generalize leastW (cutO d ws) = u at *
        refine ⟨sk, _, rfl, q1, rfl, _, _, rfl, _, _, rfl, _, _, rfl, rfl, ?_⟩
        refine ⟨_, rfl, _, rfl, _, _, rfl, rfl, _, rfl, ?_⟩
        have cs : conSum m told i (k + 1) = conSum m told i k + dayS m ws (hereD d (upTo (i - bAt told k))).toNat := by
          show conSum m told i k + con m told i k = _
          unfold con
          rw [hx]
        refine ite2 (fun hlt => ?_) (fun hlt => ?_)
        · have hlt : bAt told k < i := of_decide_eq_true hlt
          have up : upTo (i - bAt told k) = i - bAt told k := if_pos (by omega)
          rw [up] at cs
          have X0 : 0 < hereD d (i - bAt told k) ∧ hereD d (i - bAt told k) ≤ i := by
            cases d with
            | none =>
              show 0 < i - bAt told k ∧ i - bAt told k ≤ i
              omega
            | some n =>
              have := hd n rfl
              show 0 < (if n < i - bAt told k then n else i - bAt told k) ∧ (if n < i - bAt told k then n else i - bAt told k) ≤ i
              split <;> omega
          have Xd : ∀ n, d = some n → hereD d (i - bAt told k) ≤ n := fun n e => by
            rw [e]
            show (if n < i - bAt told k then n else i - bAt told k) ≤ n
            split <;> omega
          refine ⟨fun σ G' => σ = [some (.ref c), some (.int i), some (.ref S), some (.int (bAt told k)), some (dv (d.map fun n => bAt told k + n)), some (.ref wa), some (.int (bAt told k + hereD d (i - bAt told k))), v7, v8, v9, va, vb, none, none] ∧ G' = G, ?_, ?_⟩
          · refine ⟨_, rfl, _, rfl, if_stop (fun e => ?_) (fun n e => ?_)⟩
            · have e' : d = none := by
                cases d with
                | none => rfl
                | some n => cases e
              subst e'
              refine ⟨_, rfl, ?_, rfl⟩
              show [some (V.ref c), some (.int i), some (.ref S), some (.int (bAt told k)), some .non, some (.ref wa), some (.int i), v7, v8, v9, va, vb, none, none] = _
              rw [show bAt told k + hereD none (i - bAt told k) = i from by show bAt told k + (i - bAt told k) = i; omega]
              rfl
            · obtain ⟨n', e1⟩ : ∃ n', d = some n' := by
                cases d with
                | none => cases e
                | some n' => exact ⟨n', rfl⟩
              subst e1
              refine ⟨_, rfl, _, rfl, _, _, rfl, ?_, rfl⟩
              have ee : (if bAt told k + n' < i then bAt told k + n' else i) = bAt told k + hereD (some n') (i - bAt told k) := by
                show _ = bAt told k + (if n' < i - bAt told k then n' else i - bAt told k)
                split <;> split <;> omega
              rw [← ee]
              rfl
          rintro σ G' ⟨rfl, eG⟩
          have eG := eG.symm
          subst eG
          generalize hereD d (i - bAt told k) = X at *
          obtain ⟨z, rfl⟩ : ∃ z : Nat, X = (z : Int) := ⟨X.toNat, (Int.toNat_of_nonneg (by omega)).symm⟩
          have lp : (ps'.map V.ref).length = u.length := by rw [List.length_map, q3.1]
          refine ⟨_, rfl, _, rfl, _, _, rfl, rfl, _, rfl, wa, _, rfl, .inr q2, _, _, rfl, ?_, fun p hp => ?_⟩
          · rw [lp]
            exact ⟨by omega, by omega⟩
          rw [lp, show bAt told k + (z : Int) - bAt told k = (z : Int) from by omega]
          rw [← Int.natCast_ediv, ← Int.natCast_emod]
          have s1 : Same G (upd G p (.tup [.int ((z / u.length : Nat) : Int), .int ((z % u.length : Nat) : Int)])) := same1 hp
          refine ⟨p, _, rfl, SqT.of upd_same, rfl, _, _, rfl, _, _, rfl, rfl, ?_⟩
          generalize upd G p (.tup [.int ((z / u.length : Nat) : Int), .int ((z % u.length : Nat) : Int)]) = G1 at *
          have zb : z ≤ 1000000000000000 := by omega
          have q0 : z / u.length ≤ 1000000000000000 := Nat.le_trans (Nat.div_le_self _ _) zb
          have zr : z % u.length < u.length := Nat.mod_lt _ (by omega)
          have zs := dayS_is (M := m) ul.1 z
          generalize z / u.length = q at *
          generalize z % u.length = r at *
          have q2 := Same.tup s1 q2
          have q3 := q3.mono s1
          refine ⟨_, rfl, wa, _, rfl, q2, ?_⟩
          refine for_it (walk_enumT (K := K) (a := wa) (xs := ps'.map V.ref)) (fun j σ G2 => ∃ (ds2 : DL) (v9 va vb : Option V), σ = [some (.ref c), some (.int i), some (.ref S), some (.int (bAt told k)), some (dv (d.map fun n => bAt told k + n)), some (.ref wa), some (.int (bAt told k + (z : Int))), some (.int (q : Int)), some (.int (r : Int)), v9, va, vb, none, none] ∧
            DictAt m G2 S ds2 (60 * k + j) ∧ KeepD G1 G2 ∧ Same H G2 ∧ dSum m ds2 = dSum m ds + wSum m u (q : Int) r j) ⟨ds, _, _, _, rfl, da.same s1, KeepD.refl, sm.trans s1, by show _ = _ + 0; omega⟩ ?_ ?_ ?_
          · rintro j σ G2 _ ⟨_, _, _, _, _, _, kG, _, _⟩
            exact kG.tup q2
          · rintro j x σ G2 G3 hj ⟨ds2, v9, va, vb, rfl, da2, kG, sm2, tot2⟩ ⟨t, x1, x2, rfl, ht, rfl, e1, e2⟩
            obtain rfl := Option.some.inj e1
            rw [lp] at hj
            have e2 : (ps'.map V.ref)[j]? = some x2 := e2
            rw [List.getElem?_map] at e2
            obtain ⟨pa, hpa, rfl⟩ := Option.map_eq_some_iff.mp e2
            have s3 : Same G2 (upd G2 t (.tup [.int (j : Nat), .ref pa])) := same1 ht
            refine ⟨t, _, rfl, SqT.of upd_same, rfl, _, _, rfl, _, _, rfl, rfl, ?_⟩
            generalize upd G2 t (.tup [.int (j : Nat), .ref pa]) = G3 at *
            have hy : u[j]? = some u[j] := List.getElem?_eq_getElem hj
            have da3 := da2.same s3
            obtain ⟨dy, hpy⟩ := ((kG.same s3).all q3).2 j pa _ hpa hy
            obtain ⟨w1, hw1⟩ := List.mem_iff_getElem?.mp (us _ (List.mem_of_getElem? hy))
            obtain ⟨y0, ym, yt, _⟩ := fr.sh k _ w1 _ hx hw1
            generalize he : u[j] = y at *
            refine ⟨fun σ G' => σ = [some (.ref c), some (.int i), some (.ref S), some (.int (bAt told k)), some (dv (d.map fun n => bAt told k + n)), some (.ref wa), some (.int (bAt told k + (z : Int))), some (.int (q : Int)), some (.int (r : Int)), some (.int (j : Nat)), some (.ref pa), some (.int (if j < r then (q : Int) + 1 else (q : Int))), none, none] ∧ G' = G3, ?_, ?_⟩
            · refine ⟨_, rfl, _, rfl, _, _, rfl, rfl, _, rfl, ?_⟩
              refine ite2 (fun h => ?_) (fun h => ?_)
              · have h : (j : Int) < (r : Int) := of_decide_eq_true h
                refine ⟨_, rfl, _, _, rfl, rfl, ?_, rfl⟩
                rw [if_pos (show j < r by omega)]
                rfl
              · have h : ¬ (j : Int) < (r : Int) := fun z => h (decide_eq_true z)
                refine ⟨_, rfl, ?_, rfl⟩
                rw [if_neg (show ¬ j < r by omega)]
                rfl
            rintro σ G' ⟨rfl, eG⟩
            have eG := eG.symm
            subst eG
            have tb : ((if j < r then (q : Int) + 1 else (q : Int))).natAbs < 2 ^ 51 := by split <;> omega
            have ws : wSum m u (q : Int) r (j + 1) = wSum m u (q : Int) r j + (if j < r then (q : Int) + 1 else (q : Int)) * y.1 * ((m : Int) / y.2) := by
              show _ + _ = _
              rw [hy]
            generalize (if j < r then (q : Int) + 1 else (q : Int)) = tl at *
            have xb : (tl * y.1).natAbs ≤ 2 ^ 860 := Nat.le_of_lt (pow_le (wide_lt tb yt) (by decide))
            refine ⟨_, rfl, S, rfl, .inl ⟨_, .inl da3.at_⟩, _, rfl, pa, C, dy, _, _, rfl, hpy, T.cl, T.nB, shf_bottom .., _, DGet.k (k := Sum.inl y.2) da3.at_, ?_⟩
            refine ⟨_, rfl, _, rfl, pa, C, dy, _, _, rfl, hpy, T.cl, T.nT, shf_top .., _, _, rfl, rfl, wide_mul tb yt (by decide) (by decide) (by decide), (getD ds2 y.2).getD 0, _, ?_, rfl, ?_⟩
            · rw [kv_get]
              cases getD ds2 y.2 <;> rfl
            refine ⟨_, rfl, _, rfl, pa, C, dy, _, _, rfl, hpy, T.cl, T.nB, shf_bottom .., S, _, rfl, DPut.k (k := Sum.inl y.2) da3.at_ ?_, ?_⟩
            · unfold kvOf
              rw [List.length_map]
              exact Nat.lt_of_le_of_lt da3.few (Nat.lt_of_lt_of_le (show 60 * k + j < 4000 by omega) (show 4000 ≤ sizeLine by decide))
            · refine ⟨_, _, _, _, rfl, da3.put y0 ym xb, (kG.same s3).trans (keep_dK da3.at_), fun b o e => ?_, ?_⟩
              · rw [upd_ne (ne_of_none e hS)]
                exact s3 _ _ (sm2 _ _ e)
              · rw [dSum_put, tot2, ws]
                omega
          · rintro σ G2 ⟨ds2, v9, va, vb, rfl, da2, kG, sm2, tot2⟩
            rw [lp] at da2 tot2
            refine ⟨ds2, _, _, _, _, _, _, _, _, _, rfl, ⟨da2.at_, da2.nd, Nat.le_trans da2.few (by omega), da2.key, fun p hp => Nat.le_trans (da2.val p hp) (Nat.mul_le_mul_right _ (by omega))⟩, sm2, ?_⟩
            rw [tot2, tot, cs, Int.toNat_natCast, wSum_is u.length (Nat.le_refl _), List.take_length, Nat.min_eq_right (Nat.le_of_lt zr), ← zs]
            congr 1
            refine dayS_like (ws := u) (vs := ws) z (fun j hj => ?_)
            have q := lkat (j : Int) (by omega) (fun n e => by have := Xd n e; omega)
            rw [← Int.natCast_emod, ← Int.natCast_emod, Int.toNat_natCast, Int.toNat_natCast] at q
            exact q
        · have hlt : ¬ bAt told k < i := fun q => hlt (decide_eq_true q)
          have up : upTo (i - bAt told k) = 0 := if_neg (by omega)
          rw [up, hereD_zero hd] at cs
          refine ⟨ds, _, _, _, _, _, _, _, _, _, rfl, ⟨da.at_, da.nd, Nat.le_trans da.few (by omega), da.key, fun p hp => Nat.le_trans (da.val p hp) (Nat.mul_le_mul_right _ (by omega))⟩, sm, ?_⟩
          rw [tot, cs]
          show _ = _ + dayS m ws 0
          show _ = _ + 0
          rw [Int.add_zero]
      · rintro σ G ⟨ds, v3, v4, v5, v6, v7, v8, v9, va, vb, rfl, da, sm, tot⟩
        rw [List.length_map, le] at da tot
        have k60 := ok.few
        have few : ds.length ≤ 4000 := Nat.le_trans da.few (by omega)
        obtain ⟨sml, co⟩ := low_small fr.pos fr.lt few (show 60 * told.length ≤ 4000 by omega) da.key da.val
        refine ⟨S, _, da.at_, trivial, fun od => ?_⟩
        refine ⟨_, rfl, S, od, kvOf ds, rfl, upd_same, fun D hD => ?_⟩
        have lk : (kvOf ds).length = ds.length := by unfold kvOf; rw [List.length_map]
        have sF : ∀ b o, b ≠ S → H b = some o → upd G S (.frz od (.dK (kvOf ds))) b = some o := fun b o n e => by rw [upd_ne n]; exact sm _ _ e
        have DS : S ≠ D := fun e => by rw [e, upd_same] at hD; cases hD
        refine lc_it (walk_items (d := S) (o := od) (kvs := kvOf ds)) (fun j N => ∃ ps : List Addr, N D = some (.lst (ps.map V.ref)) ∧ ShAll C N ps ((ds.take j).map lowD) ∧ N S = some (.frz od (.dK (kvOf ds))) ∧ ∀ b o, b ≠ S → H b = some o → N b = some o) ⟨[], upd_same, ⟨by simp, fun j p x h _ => by simp at h⟩, by rw [upd_ne DS]; exact upd_same, fun b o n e => ?_⟩ ?_ ?_ ?_
        · have e1 := sF b o n e
          rw [upd_ne (ne_of_none e1 hD)]
          exact e1
        · rintro j N _ ⟨_, _, _, nS, _⟩
          exact nS
        · rintro j x N N' hj ⟨ps, nD, nA, nS, nH⟩ ⟨t, x1, x2, rfl, ht, rfl, e1, e2⟩
          rw [lk] at hj
          have hy : ds[j]? = some ds[j] := List.getElem?_eq_getElem hj
          have ek : (kvOf ds)[j]? = some (Sum.inl ds[j].1, V.int ds[j].2) := by
            unfold kvOf
            rw [List.getElem?_map, hy]
            rfl
          have e1 : ((kvOf ds)[j]?).map (fun kv => kV kv.1) = some x1 := e1
          have e2 : ((kvOf ds)[j]?).map Prod.snd = some x2 := e2
          rw [ek] at e1 e2
          obtain rfl := Option.some.inj e1
          obtain rfl := Option.some.inj e2
          have hm := List.getElem_mem hj
          obtain ⟨k0, k1⟩ := da.key _ hm
          have kv := da.val _ hm
          have s1 : Same N (upd N t (.tup [kV (Sum.inl ds[j].1), .int ds[j].2])) := same1 ht
          refine ⟨t, _, rfl, SqT.of upd_same, rfl, _, _, rfl, _, _, rfl, rfl, rfl, ?_⟩
          generalize upd N t (.tup [kV (Sum.inl ds[j].1), .int ds[j].2]) = N1 at *
          refine ⟨_, rfl, _, rfl, fun p1 d1 np nd nex => ⟨p1, d1, ds[j].2, ds[j].1, rfl, upd_same, ?_, ?_, fun z => absurd z (by omega), fun _ L e ka => ⟨rfl, ?_⟩⟩⟩
          · have c : 60 * told.length * 2 ^ 860 ≤ 2 ^ 12 * 2 ^ 860 := Nat.mul_le_mul_right _ (by omega)
            rw [← Nat.pow_add] at c
            exact Nat.lt_of_le_of_lt (Nat.le_trans kv c) (Nat.pow_lt_pow_right (by decide) (by decide))
          · exact Nat.lt_of_le_of_lt (Nat.le_of_dvd fr.pos k1) (Nat.lt_trans fr.lt (Nat.pow_lt_pow_right (by decide) (by decide)))
          have s2 : Same N1 L := made_same (C := C) np nd ka
          have s12 := s1.trans s2
          have eD := s12 _ _ nD
          have kD := keep_lst (ys := ps.map V.ref ++ [.ref p1]) eD
          refine ⟨_, eD, ?_, ps ++ [p1], by rw [List.map_append]; exact upd_same, ⟨?_, fun a q y ha hb => ?_⟩, kD _ _ (s12 _ _ nS) (fun _ z => nomatch z), fun b o n e => ?_⟩
          · rw [List.length_map, nA.1, List.length_map, List.length_take]
            exact Nat.lt_of_le_of_lt (Nat.min_le_left _ _) (Nat.lt_of_lt_of_le hj (Nat.le_trans few (show 4000 ≤ sizeLine by decide)))
          · rw [List.length_append, nA.1, List.length_map, List.length_map, List.length_take, List.length_take]
            show min j ds.length + 1 = min (j + 1) ds.length
            omega
          · rw [List.take_succ_eq_append_getElem hj, List.map_append] at hb
            by_cases c : a < ps.length
            · rw [List.getElem?_append_left c] at ha
              rw [List.getElem?_append_left (by rw [← nA.1]; exact c)] at hb
              exact (kD.all (nA.mono s12)).2 a q y ha hb
            · rw [List.getElem?_append_right (by omega)] at ha
              rw [List.getElem?_append_right (by rw [← nA.1]; omega)] at hb
              have c0 : a - ps.length = 0 := by
                have := (List.getElem?_eq_some_iff.mp ha).1
                simp at this
                omega
              rw [← nA.1, c0] at hb
              rw [c0] at ha
              have e1 : p1 = q := by simpa using ha
              have e2 : lowD ds[j] = y := by simpa using hb
              subst e1 e2
              exact ⟨d1, kD _ _ e (fun _ z => nomatch z)⟩
          · have e1 := nH b o n e
            have e2 := s12 _ _ e1
            rw [upd_ne (fun z => ?_)]
            · exact e2
            · rw [z] at e
              have := sF D o (Ne.symm DS) e
              rw [hD] at this
              cases this
        · rintro N ⟨ps, nD, nA, nS, nH⟩
          rw [lk, List.take_length] at nA
          refine ⟨nS, ?_⟩
          have sN : Same H (upd N S (.dK (kvOf ds))) := fun b o e => by
            have n := ne_of_none e hS
            rw [upd_ne n]
            exact nH b o n e
          refine ⟨D, ps, _, m, rfl, .inl (SqL.of (by rw [upd_ne (Ne.symm DS)]; exact nD)), ⟨nA.1, fun a q y ha hb => ?_⟩, sml, fun L p t b s1 ht hs => ?_⟩
          · obtain ⟨dq, e⟩ := nA.2 a q y ha hb
            exact ⟨dq, by rw [upd_ne (fun z => by rw [z, nS] at e; cases e)]; exact e⟩
          · refine kq L p t b (sN.trans s1) ?_ hs
            have f := tot_fr sml co ht
            rw [dSum_low ds da.key, tot, sumV_con told i i0 (fun j x hx n e => ok.days j x n hx e) (fun j x hx e => (ok.open_ j x hx).mp e)] at f
            exact f
    · refine .inl ⟨i, rfl, rfl, rfl, _, rfl, ?_⟩
      rw [show (decide (0 ≤ i) && decide (i ≤ 1000000000000000)) = false from by
        rw [← Bool.decide_and]
        exact decide_eq_false hi]
      exact iteT ke
    · exact .inr ⟨hb, _, rfl, iteT ke⟩
end
end K10

namespace K10
open PySem PySem.Spec PyProof.Rows L2
/-! ### the law's own reckoning -/
theorem low_same {t b : Int} (hb : 0 < b) (c : Nat.gcd t.natAbs b.natAbs = 1) : lowT t b = t ∧ lowB t b = b := by
  have g : sg t b = 1 := by
    unfold sg
    rw [if_neg (by omega), c]
    rfl
  have a := lowT_mul t b
  have d := lowB_mul t b
  rw [g, Int.mul_one] at a d
  exact ⟨a, d⟩
/-- a share in lowest terms, and not too great -/
def Low (C : Addr) (H : Hp) (p : Addr) (t b : Int) : Prop := ShAt C H p t b ∧ 0 < b ∧ Nat.gcd t.natAbs b.natAbs = 1 ∧ t.natAbs < 2 ^ 2000 ∧ b.natAbs < 2 ^ 2000
def spPair (C : Addr) : Sp := fun vs H Q _ => ∃ (p : Addr) (t b : Int), vs = [.ref p] ∧ Low C H p t b ∧ ∀ (H' : Hp) (q : Addr), Same H H' → H' q = some (.tup [.int t, .int b]) → Q (.ref q) H'
def spBy (K : PySem.W.Frag) : Sp := fun vs H Q _ => ∃ (x y : Addr) (a b c d : Int), vs = [.ref x, .ref y] ∧ SqT K H x [.int a, .int b] ∧ SqT K H y [.int c, .int d] ∧ a.natAbs < 2 ^ 1900 ∧ b.natAbs < 2 ^ 1900 ∧ c.natAbs < 2 ^ 1900 ∧ d.natAbs < 2 ^ 1900 ∧ b ≠ 0 ∧ d ≠ 0 ∧
  ∀ (q : Addr), H q = none → Q (.ref q) (upd H q (.tup [.int (lowT (a * c) (b * d)), .int (lowB (a * c) (b * d))]))
section
variable {P : Program} {w : World} {K : PySem.W.Frag} {mg : Str → Option Value} {base : Heap}
theorem scBy : FnScope ["one", "other"] ["one", "other"] (defScope d_law_by) := ⟨rfl, rfl, rfl, by decide +kernel, rfl, by decide +kernel, by decide +kernel⟩
theorem ok_by {f fL : Addr} {fd fdL : FuncData} (F : Fun K "_law_by" "_law_by" d_law_by f fd) (GL : FnOk P w K mg base CX0 1 fL fdL ["top", "bottom"] spLow) (mL : mg "_law_low" = some (.ref fL)) (kL : PySem.W.keepIn K (.ref fL) = true) (bL : Binds K fdL ["top", "bottom"] []) :
    FnOk P w K mg base CX0 2 f fd ["one", "other"] (spBy K) := by
  refine F.ok scBy (fun vs H Q E h => ?_) (fun cdv A outer s H vs Q E hr h => ?_)
  · obtain ⟨x, y, _, _, _, _, rfl, _⟩ := h
    rfl
  · obtain ⟨x, y, a, b, c, d, rfl, hx, hy, sa, sb, sc, sd, nb, nd, kq⟩ := h
    refine ⟨_, pss_one (ps_ret (pe_call GL hr rfl mL kL bL .nil pass0 (pa_cons (pe_op op_mulW (pe_ix ix_tup (pv 0) pe_int (fun _ _ => rfl)) (pe_ix ix_tup (pv 1) pe_int (fun _ _ => rfl))) (pa_cons (pe_op op_mulW (pe_ix ix_tup (pv 0) pe_int (fun _ _ => rfl)) (pe_ix ix_tup (pv 1) pe_int (fun _ _ => rfl))) pa_nil)))), ?_⟩
    refine ⟨_, rfl, x, _, _, _, rfl, rfl, hx, at_k (by decide) rfl, _, rfl, y, _, _, _, rfl, rfl, hy, at_k (by decide) rfl, _, _, rfl, rfl, wide_mul sa sc (by decide) (by decide) (by decide), ?_⟩
    refine ⟨_, rfl, x, _, _, _, rfl, rfl, hx, at_k (by decide) rfl, _, rfl, y, _, _, _, rfl, rfl, hy, at_k (by decide) rfl, _, _, rfl, rfl, wide_mul sb sd (by decide) (by decide) (by decide), ?_⟩
    exact ⟨_, _, rfl, Int.mul_ne_zero nb nd, pow_le (wide_lt sa sc) (by decide), pow_le (wide_lt sb sd) (by decide), fun q hq => kq q hq⟩
theorem scPair : FnScope ["share"] ["share"] (defScope d_law_pair) := ⟨rfl, rfl, rfl, by decide +kernel, rfl, by decide +kernel, by decide +kernel⟩
theorem ok_pair {f fL C CN : Addr} {fd fdL : FuncData} (F : Fun K "_law_pair" "_law_pair" d_law_pair f fd) (T : Txt K mg C CN) (TI : TxtI K C) (GL : FnOk P w K mg base CX0 1 fL fdL ["top", "bottom"] spLow) (mL : mg "_law_low" = some (.ref fL)) (kL : PySem.W.keepIn K (.ref fL) = true) (bL : Binds K fdL ["top", "bottom"] []) :
    FnOk P w K mg base CX0 2 f fd ["share"] (spPair C) := by
  refine F.ok scPair (fun vs H Q E h => ?_) (fun cdv A outer s H vs Q E hr h => ?_)
  · obtain ⟨p, _, _, rfl, _⟩ := h
    rfl
  · obtain ⟨p, t, b, rfl, ⟨⟨dx, hp⟩, b0, co, st, sb⟩, kq⟩ := h
    have ru : Room 1 _ := hr
    refine ⟨_, pss_cons (ps_if (PW.pt (pw_or (pt_not (pt_val (pe_callB call_isi (by rfl) T.isi (by decide +kernel) (pa_cons (pv 0) (pa_cons (pe_glob (v := .ref C) rfl T.mgC rfl) pa_nil)))))
          (pw_or (pt_val (pe_callB call_isi (by rfl) T.isi (by decide +kernel) (pa_cons (pe_fld (pv 0) rfl) (pa_cons (pe_bltn (v := .ty "bool") (by rfl) T.bool (by decide +kernel) rfl) pa_nil))))
          (pw_or1 (pt_val (pe_callB call_isi (by rfl) T.isi (by decide +kernel) (pa_cons (pe_fld (pv 0) rfl) (pa_cons (pe_bltn (v := .ty "bool") (by rfl) T.bool (by decide +kernel) rfl) pa_nil)))))))) (pss_one (ps_ret (pe_tup (pa_cons pe_int (pa_cons pe_int pa_nil))))) pss_nil)
      (pss_cons (ps_if (PW.pt (pw_or (pt_not (pt_val (pe_callB call_isi (by rfl) T.isi (by decide +kernel) (pa_cons (pe_fld (pv 0) rfl) (pa_cons (pe_bltn (v := .ty "int") (by rfl) T.int (by decide +kernel) rfl) pa_nil)))))
          (pw_or (pt_not (pt_val (pe_callB call_isi (by rfl) T.isi (by decide +kernel) (pa_cons (pe_fld (pv 0) rfl) (pa_cons (pe_bltn (v := .ty "int") (by rfl) T.int (by decide +kernel) rfl) pa_nil)))))
          (pw_or1 (pt_cmpR op_lt (pe_fld (pv 0) rfl) pe_int (nomark _)))))) (pss_one (ps_ret (pe_tup (pa_cons pe_int (pa_cons pe_int pa_nil))))) pss_nil)
      (pss_cons (ps_if (pt_cmpR (op_neD hr.units) (pe_call GL hr rfl mL kL bL .nil pass0 (pa_cons (pe_fld (pv 0) rfl) (pa_cons (pe_fld (pv 0) rfl) pa_nil))) (pe_tup (pa_cons (pe_fld (pv 0) rfl) (pa_cons (pe_fld (pv 0) rfl) pa_nil))) (nomark _)) (pss_one (ps_ret (pe_tup (pa_cons pe_int (pa_cons pe_int pa_nil))))) pss_nil)
      (pss_one (ps_ret (pe_tup (pa_cons (pe_fld (pv 0) rfl) (pa_cons (pe_fld (pv 0) rfl) pa_nil))))))), ?_⟩
    refine ⟨_, rfl, _, _, _, _, true, rfl, ClsV.own C, TyX.base (TyOf.ins hp T.cl TI.ha TI.hn TI.htk TI.hm), TI.me, true, rfl, iteF ?_⟩
    refine ⟨_, rfl, p, C, dx, _, _, rfl, hp, T.cl, T.nT, shf_top .., _, _, _, _, false, rfl, ClsV.ty _, TyX.base (TyOf.int _), kit_ty (by decide +kernel), false, rfl, iteF ?_⟩
    refine ⟨_, rfl, p, C, dx, _, _, rfl, hp, T.cl, T.nB, shf_bottom .., _, _, _, _, false, rfl, ClsV.ty _, TyX.base (TyOf.int _), kit_ty (by decide +kernel), false, rfl, iteF ?_⟩
    refine ⟨_, rfl, p, C, dx, _, _, rfl, hp, T.cl, T.nT, shf_top .., _, _, _, _, true, rfl, ClsV.ty _, TyX.base (TyOf.int _), kit_ty (by decide +kernel), true, rfl, iteF ?_⟩
    refine ⟨_, rfl, p, C, dx, _, _, rfl, hp, T.cl, T.nB, shf_bottom .., _, _, _, _, true, rfl, ClsV.ty _, TyX.base (TyOf.int _), kit_ty (by decide +kernel), true, rfl, iteF ?_⟩
    refine ⟨_, rfl, p, C, dx, _, _, rfl, hp, T.cl, T.nB, shf_bottom .., _, _, rfl, rfl, _, rfl, ?_⟩
    rw [decide_eq_false (show ¬ b < 1 by omega)]
    refine iteF ?_
    refine ⟨_, rfl, p, C, dx, _, _, rfl, hp, T.cl, T.nT, shf_top .., _, rfl, p, C, dx, _, _, rfl, hp, T.cl, T.nB, shf_bottom .., t, b, rfl, by omega, pow_le st (by decide), pow_le sb (by decide), fun q hq => ?_⟩
    obtain ⟨e1, e2⟩ := low_same b0 co
    rw [e1, e2]
    have s1 : Same H (upd H q (.tup [.int t, .int b])) := same1 hq
    have aq : upd H q (.tup [.int t, .int b]) q = some (.tup [.int t, .int b]) := upd_same
    generalize upd H q (.tup [.int t, .int b]) = H1 at *
    have hp1 := s1 _ _ hp
    refine ⟨_, rfl, p, C, dx, _, _, rfl, hp1, T.cl, T.nT, shf_top .., _, rfl, p, C, dx, _, _, rfl, hp1, T.cl, T.nB, shf_bottom .., (by show 2 ≤ sizeLine; decide), fun r hr' => ?_⟩
    have s2 : Same H1 (upd H1 r (.tup [.int t, .int b])) := same1 hr'
    refine ⟨_, _, Dp.tup (SqT.of (s2 _ _ aq)) (.cons (.int _) (.cons (.int _) .nil)), Dp.tup (SqT.of upd_same) (.cons (.int _) (.cons (.int _) .nil)), rfl, rfl, _, rfl, ?_⟩
    rw [show PyData.eqv (.tuple [.int t, .int b]) (.tuple [.int t, .int b]) = true from by simp [PyData.eqv, PyData.eqvAll]]
    refine iteF ?_
    have hp2 := s2 _ _ hp1
    refine ⟨_, rfl, p, C, dx, _, _, rfl, hp2, T.cl, T.nT, shf_top .., _, rfl, p, C, dx, _, _, rfl, hp2, T.cl, T.nB, shf_bottom .., (by show 2 ≤ sizeLine; decide), fun z hz => ?_⟩
    exact kq _ z (s1.trans (s2.trans (same1 hz))) upd_same
end
end K10

namespace K10
open PySem PySem.Spec PyProof.Rows L2
/-- pairs told in a list -/
def PrsAt (K : PySem.W.Frag) (H : Hp) (a : Addr) (ws : W2) : Prop := ∃ qs : List Addr, SqL K H a (qs.map V.ref) ∧ qs.length = ws.length ∧ ∀ (j : Nat) (q : Addr) (y : Int × Int), qs[j]? = some q → ws[j]? = some y → SqT K H q [.int y.1, .int y.2]
theorem PrsAt.mono {K : PySem.W.Frag} {H H' : Hp} {a : Addr} {ws : W2} (h : PrsAt K H a ws) (s : Same H H') : PrsAt K H' a ws := by
  obtain ⟨qs, x, y, z⟩ := h
  exact ⟨qs, s.seq x, y, fun j q w a b => Same.tup s (z j q w a b)⟩
theorem fr_zero {m : Nat} : IsFr m 0 0 1 := ⟨by decide, rfl, by rw [Int.zero_mul, Int.zero_mul]⟩
theorem fr_plus {m : Nat} {S t b : Int} {y : Int × Int} (h : IsFr m S t b) (y0 : 0 < y.2) (yd : y.2.natAbs ∣ m) :
    IsFr m (S + y.1 * ((m : Int) / y.2)) (lowT (t * y.2 + y.1 * b) (b * y.2)) (lowB (t * y.2 + y.1 * b) (b * y.2)) := by
  have b0 := h.1
  refine fr_low (Int.mul_ne_zero (by omega) (by omega)) ?_
  obtain ⟨k, hk⟩ := dvd_int yd
  have e := h.2.2
  have hq : (m : Int) / y.2 = k := by rw [hk, Int.mul_ediv_cancel_left _ (by omega)]
  rw [hq, Int.add_mul, Int.add_mul]
  have e1 : t * y.2 * (m : Int) = S * (b * y.2) := by rw [Int.mul_assoc, Int.mul_comm y.2, ← Int.mul_assoc, e, Int.mul_assoc]
  have e2 : y.1 * b * (m : Int) = y.1 * k * (b * y.2) := by
    rw [hk, Int.mul_assoc, Int.mul_assoc]
    congr 1
    rw [Int.mul_comm y.2 k, ← Int.mul_assoc, ← Int.mul_assoc, Int.mul_comm b k]
  rw [e1, e2]
theorem take_small {ws : W2} {m : Nat} (h : Small ws m) (i : Nat) : Small (ws.take i) m := by
  refine ⟨h.pos, h.lt, fun j x hx => ?_, fun j x hx => ?_, by rw [List.length_take]; exact Nat.le_trans (Nat.min_le_right _ _) h.few⟩
  · rw [List.getElem?_take] at hx
    split at hx
    · exact h.bot j x hx
    · cases hx
  · rw [List.getElem?_take] at hx
    split at hx
    · exact h.top j x hx
    · cases hx
theorem sumOf_m {ws : W2} {m : Nat} (h : Small ws m) : (sumOf ws m).natAbs < 2 ^ 1100 := by
  have a := sum_lt (ws.map fun x => x.1 * ((m : Int) / x.2)) (2 ^ 1060) (fun y hy => by
    obtain ⟨x, hx, rfl⟩ := List.mem_map.mp hy
    obtain ⟨i, hi⟩ := List.mem_iff_getElem?.mp hx
    have t := h.top i x hi
    have b := (h.bot i x hi).1
    have e : ((m : Int) / x.2).natAbs ≤ m := by
      have q0 : 0 ≤ (m : Int) / x.2 := Int.ediv_nonneg (by omega) (by omega)
      have q1 : (m : Int) / x.2 ≤ (m : Int) := Int.ediv_le_self _ (by omega)
      omega
    rw [Int.natAbs_mul, show (2 : Nat) ^ 1060 = 2 ^ 1000 * 2 ^ 60 from by rw [← Nat.pow_add]]
    exact Nat.mul_le_mul (Nat.le_of_lt t) (Nat.le_trans e (Nat.le_of_lt h.lt)))
  rw [List.length_map] at a
  have c : ws.length * 2 ^ 1060 ≤ 2 ^ 12 * 2 ^ 1060 := Nat.mul_le_mul_right _ (Nat.le_trans h.few (by decide))
  rw [← Nat.pow_add] at c
  exact Nat.lt_of_le_of_lt (Nat.le_trans a c) (Nat.pow_lt_pow_right (by decide) (by decide))
def spSum (K : PySem.W.Frag) : Sp := fun vs H Q _ => ∃ (a : Addr) (ws : W2) (m : Nat), vs = [.ref a] ∧ PrsAt K H a ws ∧ Small ws m ∧
  ∀ (H' : Hp) (q : Addr) (t b : Int), Same H H' → IsFr m (sumOf ws m) t b → H' q = some (.tup [.int t, .int b]) → Q (.ref q) H'
section
variable {P : Program} {w : World} {K : PySem.W.Frag} {mg : Str → Option Value} {base : Heap}
theorem scLSum : FnScope ["pairs", "top", "bottom", "one", "other"] ["pairs"] (defScope d_law_sum) := ⟨rfl, rfl, rfl, by decide +kernel, rfl, by decide +kernel, by decide +kernel⟩
theorem ok_lsum {f fL : Addr} {fd fdL : FuncData} (F : Fun K "_law_sum" "_law_sum" d_law_sum f fd) (GL : FnOk P w K mg base CX0 1 fL fdL ["top", "bottom"] spLow) (mL : mg "_law_low" = some (.ref fL)) (kL : PySem.W.keepIn K (.ref fL) = true) (bL : Binds K fdL ["top", "bottom"] []) :
    FnOk P w K mg base CX0 2 f fd ["pairs"] (spSum K) := by
  refine F.ok scLSum (fun vs H Q E h => ?_) (fun cdv A outer s H vs Q E hr h => ?_)
  · obtain ⟨a, _, _, rfl, _⟩ := h
    rfl
  · obtain ⟨a, ws, m, rfl, ⟨qs, ha, lq, hq⟩, sm, kq⟩ := h
    refine ⟨_, pss_cons (ps_asg (pe_tup (pa_cons pe_int (pa_cons pe_int pa_nil))) (pg_tup (by rfl) (pgs_cons (pg_name (i := 1) scLSum.nd rfl (.inl rfl)) (pgs_cons (pg_name (i := 2) scLSum.nd rfl (.inl rfl)) pgs_nil))))
      (pss_cons (ps_for PassesOwn.never rfl (pi_list (pv 0)) (pg_tup (by rfl) (pgs_cons (pg_name (i := 3) scLSum.nd rfl (.inl rfl)) (pgs_cons (pg_name (i := 4) scLSum.nd rfl (.inl rfl)) pgs_nil)))
        (pss_one (ps_asg (pe_call GL hr rfl mL kL bL .nil pass0 (pa_cons (pe_op op_add (pe_op op_mulW (pv 1) (pv 4)) (pe_op op_mulW (pv 3) (pv 2))) (pa_cons (pe_op op_mulW (pv 2) (pv 4)) pa_nil))) (pg_tup (by rfl) (pgs_cons (pg_name (i := 1) scLSum.nd rfl (.inl rfl)) (pgs_cons (pg_name (i := 2) scLSum.nd rfl (.inl rfl)) pgs_nil))))))
      (pss_one (ps_ret (pe_tup (pa_cons (pv 1) (pa_cons (pv 2) pa_nil)))))), ?_⟩
    refine ⟨(by show 2 ≤ sizeLine; decide), fun z hz => ?_⟩
    have s0 : Same H (upd H z (.tup [.int 0, .int 1])) := same1 hz
    refine ⟨z, _, rfl, SqT.of upd_same, rfl, _, _, rfl, _, _, rfl, rfl, ?_⟩
    refine ⟨_, rfl, a, rfl, ⟨_, s0.seq ha⟩, ?_⟩
    refine for_list (K := K) (a := a) (xs := qs.map V.ref) (fun i σ G => ∃ (t b : Int) (v3 v4 : Option V), σ = [some (.ref a), some (.int t), some (.int b), v3, v4] ∧ Same H G ∧ IsFr m (sumOf (ws.take i) m) t b) ⟨0, 1, _, _, rfl, s0, fr_zero⟩ ?_ ?_ ?_
    · rintro i σ G _ ⟨_, _, _, _, _, s1, _⟩
      exact s1.seq ha
    · rintro i x σ G hx ⟨t, b, v3, v4, rfl, s1, f⟩
      rw [List.getElem?_map] at hx
      obtain ⟨q, hqi, rfl⟩ := Option.map_eq_some_iff.mp hx
      have il : i < ws.length := by
        have := (List.getElem?_eq_some_iff.mp hqi).1
        omega
      have hy : ws[i]? = some ws[i] := List.getElem?_eq_getElem il
      have st := take_small sm i
      have tb := Nat.lt_of_le_of_lt (fr_abs sm.pos f) (sumOf_m st)
      have bb : b.natAbs < 2 ^ 60 := Nat.lt_of_le_of_lt (Nat.le_of_dvd sm.pos (fr_dvd f)) sm.lt
      have yb := sm.bot i _ hy
      have yt := sm.top i _ hy
      have yb2 : ws[i].2.natAbs < 2 ^ 60 := Nat.lt_of_le_of_lt (Nat.le_of_dvd sm.pos yb.2) sm.lt
      refine ⟨q, _, rfl, Same.tup s1 (hq i q _ hqi hy), rfl, _, _, rfl, _, _, rfl, rfl, ?_⟩
      refine ⟨_, rfl, _, rfl, _, _, rfl, rfl, wide_mul (a := 1100) (b := 60) tb yb2 (by decide) (by decide) (by decide), _, rfl, _, rfl, _, _, rfl, rfl, wide_mul (a := 1000) (b := 60) yt bb (by decide) (by decide) (by decide), _, _, rfl, rfl, ?_⟩
      refine ⟨_, rfl, _, rfl, _, _, rfl, rfl, wide_mul (a := 60) (b := 60) bb yb2 (by decide) (by decide) (by decide), ?_⟩
      have n1 := pow_le (wide_lt tb yb2) (show 1100 + 60 ≤ 2000 by decide)
      have n2 := pow_le (wide_lt yt bb) (show 1000 + 60 ≤ 2000 by decide)
      refine ⟨_, _, rfl, Int.mul_ne_zero (by have := f.1; omega) (by have := yb.1; omega), pow_le (add_lt n1 n2) (by decide), pow_le (wide_lt bb yb2) (by decide), fun r hr' => ?_⟩
      refine ⟨r, _, rfl, SqT.of upd_same, rfl, _, _, rfl, _, _, rfl, rfl, ?_⟩
      refine ⟨_, _, _, _, rfl, s1.trans (same1 hr'), ?_⟩
      rw [List.take_succ_eq_append_getElem il, sumOf_append, sumOf_cons, show sumOf [] (m : Int) = 0 from rfl, Int.add_zero]
      exact fr_plus f yb.1 yb.2
    · rintro σ G ⟨t, b, v3, v4, rfl, s1, f⟩
      rw [List.length_map, lq, List.take_length] at f
      refine ⟨_, rfl, _, rfl, (by show 2 ≤ sizeLine; decide), fun r hr' => ?_⟩
      exact kq _ r t b (s1.trans (same1 hr')) f upd_same
end
end K10

namespace K10
open PySem PySem.Spec PyProof.Rows L2
/-- what the law tells: stretches of pairs -/
def LTold (K : PySem.W.Frag) (H : Hp) (a : Addr) (told : List (Option Int × W2)) : Prop := ∃ ts : List Addr, SqL K H a (ts.map V.ref) ∧ ts.length = told.length ∧
  ∀ (i : Nat) (t : Addr) (x : Option Int × W2), ts[i]? = some t → told[i]? = some x → ∃ wl, SqT K H t [dv x.1, .ref wl] ∧ PrsAt K H wl x.2
theorem LTold.mono {K : PySem.W.Frag} {H H' : Hp} {a : Addr} {told : List (Option Int × W2)} (h : LTold K H a told) (s : Same H H') : LTold K H' a told := by
  obtain ⟨ts, x, y, z⟩ := h
  refine ⟨ts, s.seq x, y, fun i t w a b => ?_⟩
  obtain ⟨wl, p, q⟩ := z i t w a b
  exact ⟨wl, Same.tup s p, q.mono s⟩
def spLOn (K : PySem.W.Frag) : Sp := fun vs H Q _ => ∃ (a : Addr) (day : Int) (told : List (Option Int × W2)), vs = [.ref a, .int day] ∧ LTold K H a told ∧ Told told ∧ 0 ≤ day ∧
  ∀ (q : Addr) (y : Int × Int), onV told day = some y → SqT K H q [.int y.1, .int y.2] → Q (.ref q) H
section
variable {P : Program} {w : World} {K : PySem.W.Frag} {mg : Str → Option Value} {base : Heap}
theorem scLOn : FnScope ["told", "day", "days", "word"] ["told", "day"] (defScope d_law_on) := ⟨rfl, rfl, rfl, by decide +kernel, rfl, by decide +kernel, by decide +kernel⟩
theorem ok_lon {f : Addr} {fd : FuncData} (F : Fun K "_law_on" "_law_on" d_law_on f fd) (B : TxtB mg) : FnOk P w K mg base CX0 1 f fd ["told", "day"] (spLOn K) := by
  refine F.ok scLOn (fun vs H Q E h => ?_) (fun cdv A outer s H vs Q E hr h => ?_)
  · obtain ⟨a, _, _, rfl, _⟩ := h
    rfl
  · obtain ⟨a, day, told, rfl, ⟨ts, ha, lt, hst⟩, ok, d0, kq⟩ := h
    refine ⟨_, pss_cons (ps_for PassesOwn.never rfl (pi_list (pv 0)) (pg_tup (by rfl) (pgs_cons (pg_name (i := 2) scLOn.nd rfl (.inl rfl)) (pgs_cons (pg_name (i := 3) scLOn.nd rfl (.inl rfl)) pgs_nil)))
        (pss_cons (ps_if (PW.pt (pw_or (pt_cmp (pc_isN (pv 2))) (pw_or1 (pt_cmpR op_lt (pv 1) (pv 2) (nomark _)))))
          (pss_one (ps_ret (pe_ix ix_list (pv 3) (pe_op op_mod (pv 1) (pe_callB call_len_seq (by rfl) B.len PySem.boot_len (pa_cons (pv 3) pa_nil))) (fun _ _ => rfl)))) pss_nil)
        (pss_one (ps_set (i := 1) scLOn.nd rfl (Or.inl rfl) (pe_op op_sub (pv 1) (pv 2))))))
      (pss_one (ps_ret (pe_tup (pa_cons pe_int (pa_cons pe_int pa_nil))))), ?_⟩
    refine ⟨_, rfl, a, rfl, ⟨_, ha⟩, for_list (K := K) (a := a) (xs := ts.map V.ref) (fun i σ G => ∃ (dy : Int) (v2 v3 : Option V), σ = [some (.ref a), some (.int dy), v2, v3] ∧ G = H ∧ i < told.length ∧ 0 ≤ dy ∧ onV (told.drop i) dy = onV told day) ⟨day, _, _, rfl, rfl, ok.pos, d0, rfl⟩ ?_ ?_ ?_⟩
    · rintro i σ G _ ⟨_, _, _, _, e, _⟩
      rw [e]
      exact ha
    · rintro i x σ G hx ⟨dy, v2, v3, rfl, eG, il, y0, eq⟩
      have eG := eG.symm
      subst eG
      rw [List.getElem?_map] at hx
      obtain ⟨t, ht, rfl⟩ := Option.map_eq_some_iff.mp hx
      obtain ⟨⟨d, ws⟩, hxi⟩ : ∃ x, told[i]? = some x := ⟨_, List.getElem?_eq_getElem il⟩
      obtain ⟨wl, q1, qs, h1, h2, h3⟩ := hst i t _ ht hxi
      have l1 := (ok.word i _ hxi).1
      have l1 : 1 ≤ ws.length := l1
      have h2 : qs.length = ws.length := h2
      have ob := ok.open_ i _ hxi
      have dn := fun n e => ok.days i _ n hxi e
      have dr : told.drop i = (d, ws) :: told.drop (i + 1) := by
        rw [List.drop_eq_getElem_cons il, Option.some.inj ((List.getElem?_eq_getElem il).symm.trans hxi)]
      rw [dr] at eq
      have lp : (qs.map V.ref).length = ws.length := by rw [List.length_map, h2]
      have n0 := Int.emod_nonneg dy (show (ws.length : Int) ≠ 0 by omega)
      have n1 := Int.emod_lt_of_pos dy (show (0 : Int) < (ws.length : Int) by omega)
      have hk : (dy % (ws.length : Int)).toNat < ws.length := by omega
      have hk' : (dy % (ws.length : Int)).toNat < qs.length := by omega
      have ret : onV told day = ws[(dy % (ws.length : Int)).toNat]? → Q (.ref (qs[(dy % (ws.length : Int)).toNat])) H := fun e =>
        kq _ _ (e.trans (List.getElem?_eq_getElem hk)) (h3 _ _ _ (List.getElem?_eq_getElem hk') (List.getElem?_eq_getElem hk))
      refine ⟨t, _, rfl, q1, rfl, _, _, rfl, _, _, rfl, rfl, ?_⟩
      refine ⟨_, rfl, _, rfl, if_stop (d := d) (fun e => ?_) (fun n e => ?_)⟩
      · subst e
        refine iteT ⟨_, rfl, _, rfl, _, rfl, wl, _, rfl, .inl h1, _, _, rfl, rfl, (by rw [lp]; omega), ?_⟩
        rw [lp]
        exact ⟨wl, _, _, .ref (qs[(dy % (ws.length : Int)).toNat]), rfl, rfl, h1, at_k n0 (by rw [List.getElem?_map, List.getElem?_eq_getElem hk']; rfl), ret eq.symm⟩
      · subst e
        refine ⟨_, rfl, _, rfl, _, _, rfl, rfl, _, rfl, ?_⟩
        have e2 : onV ((some n, ws) :: told.drop (i + 1)) dy = if dy < n then ws[(dy % (ws.length : Int)).toNat]? else onV (told.drop (i + 1)) (dy - n) := rfl
        rw [e2] at eq
        refine ite2 (fun h => ?_) (fun h => ?_)
        · rw [if_pos (of_decide_eq_true h)] at eq
          refine ⟨_, rfl, _, rfl, _, rfl, wl, _, rfl, .inl h1, _, _, rfl, rfl, (by rw [lp]; omega), ?_⟩
          rw [lp]
          exact ⟨wl, _, _, .ref (qs[(dy % (ws.length : Int)).toNat]), rfl, rfl, h1, at_k n0 (by rw [List.getElem?_map, List.getElem?_eq_getElem hk']; rfl), ret eq.symm⟩
        · have h : ¬ dy < n := fun z => h (decide_eq_true z)
          rw [if_neg h] at eq
          have i1 : i + 1 < told.length := by
            have : i + 1 ≠ told.length := fun z => nomatch (ob.mpr z)
            omega
          exact ⟨_, rfl, _, rfl, _, _, rfl, rfl, dy - n, _, _, rfl, rfl, i1, by omega, eq⟩
    · rintro σ G ⟨_, _, _, _, _, il, _⟩
      rw [List.length_map, lt] at il
      exact absurd il (Nat.lt_irrefl _)
end
end K10

namespace K10
open PySem PySem.Spec PyProof.Rows L2
/-- the pairs that are summed -/
structure PSums (K : PySem.W.Frag) (m : Nat) (G : Hp) (S : Addr) (xs : W2) : Prop where
  at_ : ∃ qs : List Addr, G S = some (.lst (qs.map V.ref)) ∧ qs.length = xs.length ∧ ∀ (j : Nat) (q : Addr) (y : Int × Int), qs[j]? = some q → xs[j]? = some y → SqT K G q [.int y.1, .int y.2]
  fr : ∀ (j : Nat) (x : Int × Int), xs[j]? = some x → ∃ s, IsFr m s x.1 x.2 ∧ s.natAbs < 2 ^ 1000
theorem PSums.mono {K : PySem.W.Frag} {m : Nat} {G G' : Hp} {S : Addr} {xs : W2} (h : PSums K m G S xs) (s : Same G G') : PSums K m G' S xs := by
  obtain ⟨⟨qs, a, b, c⟩, f⟩ := h
  exact ⟨⟨qs, s _ _ a, b, fun j q y h1 h2 => Same.tup s (c j q y h1 h2)⟩, f⟩
theorem PSums.small {K : PySem.W.Frag} {m : Nat} {G : Hp} {S : Addr} {xs : W2} (h : PSums K m G S xs) (hm : 0 < m) (lt : m < 2 ^ 60) (few : xs.length ≤ 4000) : Small xs m :=
  ⟨hm, lt, fun i x hx => by
    obtain ⟨s, f, _⟩ := h.fr i x hx
    exact ⟨f.1, fr_dvd f⟩, fun i x hx => by
    obtain ⟨s, f, b⟩ := h.fr i x hx
    exact Nat.lt_of_le_of_lt (fr_abs hm f) b, few⟩
/-- one more -/
theorem PSums.add {K : PySem.W.Frag} {m : Nat} {G : Hp} {S : Addr} {xs : W2} {p : Addr} {t b s : Int} {Q : VK} (h : PSums K m G S xs) (hp : SqT K G p [.int t, .int b]) (f : IsFr m s t b) (sb : s.natAbs < 2 ^ 1000) (few : xs.length < 1000)
    (k : ∀ G', Keep G G' → PSums K m G' S (xs ++ [(t, b)]) → (∀ a o, a ≠ S → G a = some o → G' a = some o) → Q .non G') : rAppend (.ref S) [.ref p] G Q := by
  obtain ⟨⟨qs, a, l, c⟩, fr⟩ := h
  refine ⟨S, _, _, rfl, rfl, a, (by rw [List.length_map, l]; exact Nat.lt_of_lt_of_le few (show 1000 ≤ sizeLine by decide)), ?_⟩
  have kk := keep_lst (ys := qs.map V.ref ++ [.ref p]) a
  refine k _ kk ⟨⟨qs ++ [p], by rw [List.map_append]; exact upd_same, by rw [List.length_append, List.length_append, l]; rfl, fun i q x hq hx => ?_⟩, fun j x hx => ?_⟩ (fun a' o n e => by rw [upd_ne n]; exact e)
  · by_cases d : i < qs.length
    · rw [List.getElem?_append_left d] at hq
      rw [List.getElem?_append_left (by rw [← l]; exact d)] at hx
      exact kk.tup (c i q x hq hx)
    · rw [List.getElem?_append_right (by omega)] at hq
      rw [List.getElem?_append_right (by rw [← l]; omega)] at hx
      have c0 : i - qs.length = 0 := by
        have := (List.getElem?_eq_some_iff.mp hq).1
        simp at this
        omega
      rw [← l, c0] at hx
      rw [c0] at hq
      have e1 : p = q := by simpa using hq
      have e2 : (t, b) = x := by simpa using hx
      subst e1 e2
      exact kk.tup hp
  · by_cases d : j < xs.length
    · rw [List.getElem?_append_left d] at hx
      exact fr j x hx
    · rw [List.getElem?_append_right (by omega)] at hx
      have c0 : j - xs.length = 0 := by
        have := (List.getElem?_eq_some_iff.mp hx).1
        simp at this
        omega
      rw [c0] at hx
      have e2 : (t, b) = x := by simpa using hx
      subst e2
      exact ⟨s, f, sb⟩
theorem Keep.prs {K : PySem.W.Frag} {H H' : Hp} {a : Addr} {ws : W2} (h : PrsAt K H a ws) (k : Keep H H') (hl : ∀ xs, SqL K H a xs → SqL K H' a xs) : PrsAt K H' a ws := by
  obtain ⟨qs, x, y, z⟩ := h
  exact ⟨qs, hl _ x, y, fun j q w a b => k.tup (z j q w a b)⟩
theorem iteN {c : Bool} {A B : Prop} (hc : c = true) (h : B) : if (!c) = true then A else B := by
  rw [hc]
  exact iteF h
def spLSumTo (K : PySem.W.Frag) : Sp := fun vs H Q _ => ∃ (a : Addr) (i : Int) (told : List (Option Int × W2)) (m : Nat), vs = [.ref a, .int i] ∧ LTold K H a told ∧ Told told ∧ FrTold told m ∧ 0 ≤ i ∧ i ≤ 1000000000000000 ∧
  ∀ (H' : Hp) (q : Addr) (t b : Int), Same H H' → IsFr m (sumV m told i) t b → H' q = some (.tup [.int t, .int b]) → Q (.ref q) H'
section
variable {P : Program} {w : World} {K : PySem.W.Frag} {mg : Str → Option Value} {base : Heap}
theorem scLSumTo : FnScope ["told", "many", "found", "days", "word", "here"] ["told", "many"] (defScope d_law_sum_to) := ⟨rfl, rfl, rfl, by decide +kernel, rfl, by decide +kernel, by decide +kernel⟩
theorem ok_lsum_to {f fS fB : Addr} {fd fdS fdB : FuncData} (F : Fun K "_law_sum_to" "_law_sum_to" d_law_sum_to f fd) (B : TxtB mg) (hmin : mg "min" = none)
    (GS : FnOk P w K mg base CX0 2 fS fdS ["pairs"] (spSum K)) (mS : mg "_law_sum" = some (.ref fS)) (kS : PySem.W.keepIn K (.ref fS) = true) (bS : Binds K fdS ["pairs"] [])
    (GB : FnOk P w K mg base CX0 2 fB fdB ["one", "other"] (spBy K)) (mB : mg "_law_by" = some (.ref fB)) (kB : PySem.W.keepIn K (.ref fB) = true) (bB : Binds K fdB ["one", "other"] []) :
    FnOk P w K mg base CX0 3 f fd ["told", "many"] (spLSumTo K) := by
  refine F.ok scLSumTo (fun vs H Q E h => ?_) (fun cdv A outer s H vs Q E hr h => ?_)
  · obtain ⟨a, _, _, _, rfl, _⟩ := h
    rfl
  · obtain ⟨a, i, told, m, rfl, ⟨ts, ha, lt, hst⟩, ok, fr, i0, i1, kq⟩ := h
    refine ⟨_, pss_cons (ps_set (i := 2) scLSumTo.nd rfl (Or.inl rfl) (pe_lst pa_nil))
      (pss_cons (ps_for PassesOwn.never rfl (pi_list (pv 0)) (pg_tup (by rfl) (pgs_cons (pg_name (i := 3) scLSumTo.nd rfl (.inl rfl)) (pgs_cons (pg_name (i := 4) scLSumTo.nd rfl (.inl rfl)) pgs_nil)))
        (pss_cons (ps_set (i := 5) scLSumTo.nd rfl (Or.inl rfl) (pv 1))
        (C8.pss_cut (ps_if (pt_cmp (pc_notN (pv 3))) (pss_one (ps_set (i := 5) scLSumTo.nd rfl (Or.inl rfl) (pe_callB (call_min2 rfl) (by rfl) hmin (by decide +kernel) (pa_cons (pv 3) (pa_cons (pv 1) pa_nil))))) pss_nil)
        (C8.pss_cut (ps_expr (pe_bm PySem.F.plainAttrs_list PySem.F.slot_list_append PySem.F.type_list_append mt_append (pv 2) (pa_cons (pe_call GB hr rfl mB kB bB .nil pass0 (pa_cons (pe_tup (pa_cons (pe_op op_fdiv (pv 5) (pe_callB call_len_seq (by rfl) B.len PySem.boot_len (pa_cons (pv 4) pa_nil))) (pa_cons pe_int pa_nil))) (pa_cons (pe_call GS hr rfl mS kS bS .nil pass0 (pa_cons (pv 4) pa_nil)) pa_nil))) pa_nil)))
        (pss_cons (ps_expr (pe_bm PySem.F.plainAttrs_list PySem.F.slot_list_append PySem.F.type_list_append mt_append (pv 2) (pa_cons (pe_call GS hr rfl mS kS bS .nil pass0 (pa_cons (pe_slice sl_list (pv 4) po_none (po_some (pe_op op_mod (pv 5) (pe_callB call_len_seq (by rfl) B.len PySem.boot_len (pa_cons (pv 4) pa_nil))))) pa_nil)) pa_nil)))
        (pss_one (ps_set (i := 1) scLSumTo.nd rfl (Or.inl rfl) (pe_op op_sub (pv 1) (pv 5)))))))))
      (pss_one (ps_ret (pe_call GS hr rfl mS kS bS .nil pass0 (pa_cons (pv 2) pa_nil))))), ?_⟩
    refine ⟨(by show 0 ≤ sizeLine; decide), fun S hS => ?_⟩
    have s0 : Same H (upd H S (.lst [])) := same1 hS
    refine ⟨_, rfl, a, rfl, ⟨_, s0.seq ha⟩, for_list (K := K) (a := a) (xs := ts.map V.ref) (fun k σ G => ∃ (xs : W2) (many : Int) (v3 v4 v5 : Option V), σ = [some (.ref a), some (.int many), some (.ref S), v3, v4, v5] ∧ PSums K m G S xs ∧ Same H G ∧ xs.length ≤ 2 * k ∧ 0 ≤ many ∧ many ≤ i ∧
      sumOf xs m + sumV m (told.drop k) many = sumV m told i) ⟨[], i, _, _, _, rfl, ⟨⟨[], upd_same, rfl, fun j q y h _ => by simp at h⟩, fun j x h => by simp at h⟩, s0, Nat.le_refl _, i0, Int.le_refl _, by rw [List.drop_zero]; exact Int.zero_add _⟩ ?_ ?_ ?_⟩
    · rintro k σ G _ ⟨_, _, _, _, _, _, _, sm, _⟩
      exact sm.seq ha
    · rintro k x σ G hx ⟨xs, many, v3, v4, v5, rfl, sums, sm, few, m0, mi, tot⟩
      rw [List.getElem?_map] at hx
      obtain ⟨t, ht, rfl⟩ := Option.map_eq_some_iff.mp hx
      have kl : k < told.length := by
        have := (List.getElem?_eq_some_iff.mp ht).1
        omega
      have k60 := ok.few
      obtain ⟨⟨d, ws⟩, hxi⟩ : ∃ x, told[k]? = some x := ⟨_, List.getElem?_eq_getElem kl⟩
      obtain ⟨wl, q1, prs⟩ := hst k t _ ht hxi
      have q1 := Same.tup sm q1
      have prs : PrsAt K H wl ws := prs
      have l1 : 1 ≤ ws.length := (ok.word k _ hxi).1
      have l60 : ws.length ≤ 60 := (ok.word k _ hxi).2
      have hd : ∀ n, d = some n → 1 ≤ n := fun n e => ok.days k _ n hxi e
      have dr : told.drop k = (d, ws) :: told.drop (k + 1) := by
        rw [List.drop_eq_getElem_cons kl, Option.some.inj ((List.getElem?_eq_getElem kl).symm.trans hxi)]
      rw [dr] at tot
      have tot : sumOf xs m + (dayS m ws (hereD d many).toNat + sumV m (told.drop (k + 1)) (many - hereD d many)) = sumV m told i := tot
      obtain ⟨smw, cow⟩ := small_of fr hxi l60 (fun y h => h)
      have sw := sum_small fr hxi l60 (fun y h => h)
      refine ⟨t, _, rfl, q1, rfl, _, _, rfl, _, _, rfl, rfl, ?_⟩
      refine ⟨_, rfl, fun σ G' => σ = [some (.ref a), some (.int many), some (.ref S), some (dv d), some (.ref wl), some (.int (hereD d many))] ∧ G' = G, ?_, ?_⟩
      · cases d with
        | none => exact ⟨_, rfl, _, rfl, iteN (decide_eq_true rfl) ⟨rfl, rfl⟩⟩
        | some n =>
          refine ⟨_, rfl, _, rfl, ?_⟩
          show if (!decide (V.int n = V.non)) = true then _ else _
          rw [decide_eq_false (show ¬ (V.int n = V.non) from fun z => nomatch z)]
          refine iteT ⟨_, rfl, _, rfl, _, _, rfl, ?_, rfl⟩
          have ee : (if many < n then many else n) = hereD (some n) many := by
            show _ = (if n < many then n else many)
            split <;> split <;> omega
          rw [← ee]
          rfl
      rintro σ G' ⟨rfl, eG⟩
      have eG := eG.symm
      subst eG
      have X0 : 0 ≤ hereD d many ∧ hereD d many ≤ many := by
        cases d with
        | none => exact ⟨m0, Int.le_refl _⟩
        | some n =>
          have := hd n rfl
          show 0 ≤ (if n < many then n else many) ∧ (if n < many then n else many) ≤ many
          split <;> omega
      generalize hereD d many = X at *
      obtain ⟨z, rfl⟩ : ∃ z : Nat, X = (z : Int) := ⟨X.toNat, (Int.toNat_of_nonneg (by omega)).symm⟩
      rw [Int.toNat_natCast] at tot
      have zb : z ≤ 1000000000000000 := by omega
      have rb : (((z / ws.length : Nat) : Int)).natAbs < 2 ^ 50 := by
        rw [Int.natAbs_natCast]
        exact Nat.lt_of_le_of_lt (Nat.le_trans (Nat.div_le_self _ _) zb) (by decide)
      obtain ⟨qs, h1, h2, h3⟩ := prs
      have lp : (qs.map V.ref).length = ws.length := by rw [List.length_map, h2]
      refine ⟨fun σ G' => ∃ y1, σ = [some (.ref a), some (.int many), some (.ref S), some (dv d), some (.ref wl), some (.int (z : Int))] ∧ PSums K m G' S (xs ++ [y1]) ∧ Same H G' ∧ IsFr m (((z / ws.length : Nat) : Int) * sumOf ws m) y1.1 y1.2, ?_, ?_⟩
      · obtain ⟨qS, atS, _, _⟩ := id sums.at_
        refine ⟨_, rfl, .inl ⟨rfl, _, SqL.of atS⟩, _, rfl, _, rfl, wl, _, rfl, .inl (sm.seq h1), _, _, rfl, rfl, ?_, (by show 2 ≤ sizeLine; decide), fun p1 hp1 => ?_⟩
        · rw [lp]
          exact ⟨by omega, by omega⟩
        rw [lp]
        dsimp only
        rw [← Int.natCast_ediv]
        have s1 : Same G (upd G p1 (.tup [.int ((z / ws.length : Nat) : Int), .int 1])) := same1 hp1
        have ap : upd G p1 (.tup [.int ((z / ws.length : Nat) : Int), .int 1]) p1 = some (.tup [.int ((z / ws.length : Nat) : Int), .int 1]) := upd_same
        generalize upd G p1 (.tup [.int ((z / ws.length : Nat) : Int), .int 1]) = G1 at *
        refine ⟨_, rfl, wl, ws, m, rfl, PrsAt.mono ⟨qs, h1, h2, h3⟩ (sm.trans s1), smw, fun L2 q2 t b s2 f hq2 => ?_⟩
        have tb := fr_abs fr.pos f
        have bb : b.natAbs < 2 ^ 60 := Nat.lt_of_le_of_lt (Nat.le_of_dvd fr.pos (fr_dvd f)) fr.lt
        refine ⟨p1, q2, _, 1, t, b, rfl, SqT.of (s2 _ _ ap), SqT.of hq2, pow_le rb (by decide), (by decide), Nat.lt_of_le_of_lt tb (Nat.lt_trans sw (Nat.pow_lt_pow_right (by decide) (by decide))), Nat.lt_trans bb (Nat.pow_lt_pow_right (by decide) (by decide)), (by decide), (by have := f.1; omega), fun r hr' => ?_⟩
        have f2 := fr_times (r := ((z / ws.length : Nat) : Int)) f
        have sb : (((z / ws.length : Nat) : Int) * sumOf ws m).natAbs < 2 ^ 1000 := by
          rw [Int.natAbs_mul]
          have q : (((z / ws.length : Nat) : Int)).natAbs * (sumOf ws m).natAbs ≤ 2 ^ 50 * 2 ^ 900 := Nat.mul_le_mul (Nat.le_of_lt rb) (Nat.le_of_lt sw)
          rw [← Nat.pow_add] at q
          exact Nat.lt_of_le_of_lt q (Nat.pow_lt_pow_right (by decide) (by decide))
        have s3 := s1.trans (s2.trans (same1 (o := .tup [.int (lowT (((z / ws.length : Nat) : Int) * t) (1 * b)), .int (lowB (((z / ws.length : Nat) : Int) * t) (1 * b))]) hr'))
        obtain ⟨l', ys, y', e1, e2, e3, e4, ps', but⟩ := PSums.add (Q := fun _ G' => PSums K m G' S (xs ++ [(lowT (((z / ws.length : Nat) : Int) * t) (1 * b), lowB (((z / ws.length : Nat) : Int) * t) (1 * b))]) ∧ ∀ a' o, a' ≠ S → (upd L2 r (.tup [.int (lowT (((z / ws.length : Nat) : Int) * t) (1 * b)), .int (lowB (((z / ws.length : Nat) : Int) * t) (1 * b))])) a' = some o → G' a' = some o)
          (sums.mono s3) (SqT.of upd_same) f2 sb (by omega) (fun G' _ ps' but => ⟨ps', but⟩)
        cases e1
        cases e2
        refine ⟨S, _, _, rfl, rfl, e3, e4, ?_⟩
        refine ⟨_, rfl, ps', fun a' o e => ?_, f2⟩
        exact but a' o (fun z => by rw [z, hS] at e; cases e) (s3 _ _ (sm _ _ e))
      · rintro σ G2 ⟨y1, rfl, sums2, sm2, f1⟩
        obtain ⟨qS, atS, _, _⟩ := id sums2.at_
        refine ⟨_, rfl, .inl ⟨rfl, _, SqL.of atS⟩, _, rfl, _, rfl, _, rfl, wl, _, rfl, .inl (sm2.seq h1), _, _, rfl, rfl, (by rw [lp]; omega), _, rfl, wl, _, rfl, sm2.seq h1, fun p hp => ?_⟩
        rw [lp, ← Int.natCast_emod]
        have s4 : Same G2 (upd G2 p (.lst (cutV (qs.map V.ref) none (some ((z % ws.length : Nat) : Int))))) := same1 hp
        have ap : upd G2 p (.lst (cutV (qs.map V.ref) none (some ((z % ws.length : Nat) : Int)))) p = some (.lst ((qs.take (z % ws.length)).map V.ref)) := by
          rw [upd_same, cut_to, List.map_take]
        generalize upd G2 p (.lst (cutV (qs.map V.ref) none (some ((z % ws.length : Nat) : Int)))) = G3 at *
        have t60 : (ws.take (z % ws.length)).length ≤ 60 := by rw [List.length_take]; omega
        obtain ⟨smt, cot⟩ := small_of fr hxi t60 (fun y hy => List.mem_of_mem_take hy)
        have st := sum_small fr hxi t60 (fun y hy => List.mem_of_mem_take hy)
        refine ⟨p, ws.take (z % ws.length), m, rfl, ⟨qs.take (z % ws.length), SqL.of ap, by rw [List.length_take, List.length_take, h2], fun j q y hq hy => ?_⟩, smt, fun L2 q2 t b s5 f hq2 => ?_⟩
        · rw [List.getElem?_take] at hq hy
          split at hq
          · rename_i c
            rw [if_pos c] at hy
            exact Same.tup (sm2.trans s4) (h3 j q y hq hy)
          · cases hq
        have s6 := s4.trans s5
        obtain ⟨l', ys, y', e1, e2, e3, e4, ps', but⟩ := PSums.add (Q := fun _ G' => PSums K m G' S (xs ++ [y1] ++ [(t, b)]) ∧ ∀ a' o, a' ≠ S → L2 a' = some o → G' a' = some o)
          (sums2.mono s6) (SqT.of hq2) f (Nat.lt_trans st (Nat.pow_lt_pow_right (by decide) (by decide))) (by rw [List.length_append]; show xs.length + 1 < 1000; omega) (fun G' _ ps' but => ⟨ps', but⟩)
        cases e1
        cases e2
        refine ⟨S, _, _, rfl, rfl, e3, e4, ?_⟩
        refine ⟨_, rfl, _, rfl, _, _, rfl, rfl, _, _, _, _, _, rfl, ps', fun a' o e => but a' o (fun z => by rw [z, hS] at e; cases e) (s6 _ _ (sm2 _ _ e)), ?_, by omega, by omega, ?_⟩
        · rw [List.length_append, List.length_append]
          show xs.length + 1 + 1 ≤ 2 * (k + 1)
          omega
        · rw [sumOf_append, sumOf_append, sumOf_cons, sumOf_cons, show sumOf [] (m : Int) = 0 from rfl, fr_term f1, fr_term f]
          rw [dayS_is l1] at tot
          omega
    · rintro σ G ⟨xs, many, v3, v4, v5, rfl, sums, sm, few, m0, mi, tot⟩
      rw [List.length_map, lt] at few tot
      rw [List.drop_length] at tot
      have tot : sumOf xs m + 0 = sumV m told i := tot
      rw [Int.add_zero] at tot
      have k60 := ok.few
      obtain ⟨qS, atS, lS, aS⟩ := id sums.at_
      refine ⟨_, rfl, S, xs, m, rfl, ⟨qS, SqL.of atS, lS, aS⟩, sums.small fr.pos fr.lt (by omega), fun L q t b s1 f hq => ?_⟩
      rw [tot] at f
      exact kq L q t b (sm.trans s1) f hq
end
end K10

namespace K10
open PySem PySem.Spec PyProof.Rows L2
theorem But.trans {p : Addr} {H H1 H2 : Hp} (a : But p H H1) (b : But p H1 H2) : But p H H2 := fun c o h e => b c o h (a c o h e)
theorem same_but {p : Addr} {H H' : Hp} (s : Same H H') : But p H H' := fun b o _ e => s b o e
theorem WellAt.same {H H' : Hp} {p : Addr} {z : Int} (h : WellAt H p z) (s : Same H H') : WellAt H' p z := by
  obtain ⟨x, y, e, a, b⟩ := h
  exact ⟨x, y, s _ _ e, a, b⟩
/-- pairs as the law draws them -/
def POk (y : Int × Int) : Prop := 0 < y.2 ∧ y.2.natAbs ∣ 6 ∧ y.1.natAbs < 2 ^ 20 ∧ Nat.gcd y.1.natAbs y.2.natAbs = 1
theorem low_ok {t b : Int} (b1 : 1 ≤ b) (b3 : b ≤ 3) (ht : t.natAbs < 2 ^ 20) : POk (lowT t b, lowB t b) := by
  have b0 : b ≠ 0 := by omega
  have hb := lowB_mul t b
  have hd : lowB t b ∣ b := ⟨sg t b, hb.symm⟩
  have h6 : b ∣ 6 := by
    have : b = 1 ∨ b = 2 ∨ b = 3 := by omega
    rcases this with h | h | h <;> subst h <;> decide
  refine ⟨lowB_pos b0, ?_, Nat.lt_of_le_of_lt (lowT_le b0) ht, low_coprime b0⟩
  exact Int.natAbs_dvd_natAbs.mpr (Int.dvd_trans hd h6)
/-- pairs in a list of our own -/
def PrsL (H : Hp) (l : Addr) (ws : W2) : Prop := ∃ qs : List Addr, H l = some (.lst (qs.map V.ref)) ∧ qs.length = ws.length ∧ ∀ (j : Nat) (q : Addr) (y : Int × Int), qs[j]? = some q → ws[j]? = some y → H q = some (.tup [.int y.1, .int y.2])
theorem PrsL.at_ {K : PySem.W.Frag} {H : Hp} {l : Addr} {ws : W2} (h : PrsL H l ws) : PrsAt K H l ws := by
  obtain ⟨qs, a, b, c⟩ := h
  exact ⟨qs, SqL.of a, b, fun j q y h1 h2 => SqT.of (c j q y h1 h2)⟩
def spLWord : Sp := fun vs H Q _ => ∃ (p : Addr) (z most far : Int), vs = [.ref p, .int most, .int far] ∧ WellAt H p z ∧ 0 ≤ z ∧ z < 2 ^ 29 ∧ 0 < most ∧ most ≤ 60 ∧ 0 ≤ far ∧ far ≤ 1 ∧
  ∀ (H' : Hp) (l : Addr) (ws : W2) (z' : Int), But p H H' → H l = none → l ≠ p → WellAt H' p z' → 0 ≤ z' → z' ≤ z + 200 → PrsL H' l ws → 1 ≤ ws.length → ws.length ≤ 60 → (∀ y ∈ ws, POk y) → Q (.ref l) H'
section
variable {P : Program} {w : World} {K : PySem.W.Frag} {mg : Str → Option Value} {base : Heap}
abbrev lwordN : List Str := ["well", "most", "far", "bottom", "top", "k"]
theorem scLWord : FnScope lwordN ["well", "most", "far"] (defScope d_law_word) := ⟨rfl, rfl, rfl, by decide +kernel, rfl, by decide +kernel, by decide +kernel⟩
theorem ok_lword {f fD fO fL : Addr} {fd fdD fdO fdL : FuncData} (F : Fun K "_law_word" "_law_word" d_law_word f fd) (hrange : mg "range" = none)
    (GD : FnOk P w K mg base CX0 1 fD fdD ["well", "many"] spDraw) (mD : mg "_law_draw" = some (.ref fD)) (kD : PySem.W.keepIn K (.ref fD) = true) (bD : Binds K fdD ["well", "many"] [])
    (GO : FnOk P w K mg base CX0 2 fO fdO ["well", "some"] (spOne K)) (mO : mg "_law_one" = some (.ref fO)) (kO : PySem.W.keepIn K (.ref fO) = true) (bO : Binds K fdO ["well", "some"] [])
    (GL : FnOk P w K mg base CX0 1 fL fdL ["top", "bottom"] spLow) (mL : mg "_law_low" = some (.ref fL)) (kL : PySem.W.keepIn K (.ref fL) = true) (bL : Binds K fdL ["top", "bottom"] []) :
    FnOk P w K mg base CX0 3 f fd ["well", "most", "far"] spLWord := by
  refine F.ok scLWord (fun vs H Q E h => ?_) (fun cdv A outer s H vs Q E hr h => ?_)
  · obtain ⟨p, z, most, far, rfl, _⟩ := h
    rfl
  · obtain ⟨p, z, most, far, rfl, hp, z0, z1, m0, m1, f0, f1, kq⟩ := h
    have r1 : Room 1 _ := hr.mono (by decide)
    refine ⟨_, pss_cons (ps_set (i := 3) scLWord.nd rfl (by first | exact Or.inl rfl | exact Or.inr rfl) (pe_op op_add pe_int (pe_call GD r1 rfl mD kD bD .nil pass0 (pa_cons (pv 0) (pa_cons (pe_call GO hr rfl mO kO bO .nil pass0 (pa_cons (pv 0) (pa_cons (pe_lst (pa_cons pe_int (pa_cons pe_int (pa_cons pe_int pa_nil)))) pa_nil))) pa_nil)))))
      (pss_cons (ps_set (i := 4) scLWord.nd rfl (by first | exact Or.inl rfl | exact Or.inr rfl) (pe_call GO hr rfl mO kO bO .nil pass0 (pa_cons (pv 0) (pa_cons (pe_lst (pa_cons pe_int (pa_cons pe_int (pa_cons pe_int pa_nil)))) pa_nil))))
      (pss_one (ps_ret (pe_lc (own := [("k", 5)]) (g := gName 5) (by rfl) scLWord.nd (pi_range1 (by rfl) hrange (pa_cons (pe_op op_add pe_int (pe_call GD r1 rfl mD kD bD .nil pass0 (pa_cons (pv 0) (pa_cons (pv 1) pa_nil)))) pa_nil)) (blkOk_by (own := [("k", 5)]) (N := lwordN) (sc := defScope d_law_word) (by decide +kernel)) (fun _ _ _ _ _ => pg_name (i := 5) scLWord.nd rfl (.inl rfl)) (fun _ _ _ _ _ => pts_nil)
        (fun _ _ _ _ _ => pe_call GL r1 rfl mL kL bL .nil pass0 (pa_cons (pe_op op_sub (pe_call GD r1 rfl mD kD bD .nil pass0 (pa_cons (pv 0) (pa_cons (pv 4) pa_nil))) (pe_op op_mul (pv 2) (pe_call GD r1 rfl mD kD bD .nil pass0 (pa_cons (pv 0) (pa_cons pe_int pa_nil))))) (pa_cons (pv 3) pa_nil))))))), ?_⟩
    have np : ∀ {G : Hp} {q : Addr} {zz : Int}, WellAt G p zz → G q = none → q ≠ p := fun {G q zz} h hq e => by
      obtain ⟨_, _, e1, _⟩ := h
      rw [e, e1] at hq
      cases hq
    refine ⟨_, rfl, _, rfl, (by show 3 ≤ sizeLine; decide), fun q hq => ?_⟩
    have b1 : But p H (upd H q (.lst [.int 1, .int 1, .int 3])) := same_but (same1 hq)
    refine ⟨p, q, _, z, rfl, hp.same (same1 hq), z0, by omega, upd_same, np hp hq, (by show 0 < 3; decide), (by show 3 < 1000; decide), fun H1 za x bt1 w1 a0 a1 hx => ?_⟩
    obtain ⟨m, rfl, hm⟩ : ∃ m : Int, x = .int m ∧ (m = 1 ∨ m = 3) := by
      have hx : x ∈ [V.int 1, .int 1, .int 3] := hx
      simp only [List.mem_cons, List.not_mem_nil, or_false] at hx
      rcases hx with h | h | h
      · exact ⟨1, h, .inl rfl⟩
      · exact ⟨1, h, .inl rfl⟩
      · exact ⟨3, h, .inr rfl⟩
    refine ⟨p, m, za, rfl, w1, by omega, by omega, a0, by omega, fun H2 d zb bt2 w2 c0 c1 d0 d1 => ?_⟩
    refine ⟨_, _, rfl, rfl, ?_⟩
    have bb : 1 ≤ 1 + d ∧ 1 + d ≤ 3 := by omega
    refine ⟨_, rfl, (by show 3 ≤ sizeLine; decide), fun q2 hq2 => ?_⟩
    have b3 : But p H2 (upd H2 q2 (.lst [.int 2, .int 3, .int 7])) := same_but (same1 hq2)
    refine ⟨p, q2, _, zb, rfl, w2.same (same1 hq2), c0, by omega, upd_same, np w2 hq2, (by show 0 < 3; decide), (by show 3 < 1000; decide), fun H3 zc x2 bt3 w3 e0 e1 hx2 => ?_⟩
    obtain ⟨tp, rfl, htp⟩ : ∃ m : Int, x2 = .int m ∧ 0 < m ∧ m ≤ 7 := by
      have hx2 : x2 ∈ [V.int 2, .int 3, .int 7] := hx2
      simp only [List.mem_cons, List.not_mem_nil, or_false] at hx2
      rcases hx2 with h | h | h
      · exact ⟨2, h, by decide, by decide⟩
      · exact ⟨3, h, by decide, by decide⟩
      · exact ⟨7, h, by decide, by decide⟩
    refine ⟨_, rfl, _, rfl, p, most, zc, rfl, w3, m0, by omega, e0, by omega, fun H4 dm zd bt4 w4 g0 g1 h0 h1 => ?_⟩
    refine ⟨_, _, rfl, rfl, _, rfl, by omega, by omega, fun D hD => ?_⟩
    have Dp := np w4 hD
    have B4 : But p H H4 := (b1.trans bt1).trans (bt2.trans (b3.trans (bt3.trans bt4)))
    refine lc_range (lo := 0) (n := (1 + dm).toNat) (fun i M => ∃ (qs : List Addr) (ws : W2) (zz : Int), M D = some (.lst (qs.map V.ref)) ∧ qs.length = i ∧ ws.length = i ∧ (∀ (j : Nat) (q : Addr) (y : Int × Int), qs[j]? = some q → ws[j]? = some y → M q = some (.tup [.int y.1, .int y.2])) ∧
      (∀ y ∈ ws, POk y) ∧ WellAt M p zz ∧ 0 ≤ zz ∧ zz ≤ zd + 2 * (i : Int) ∧ But p H4 M) ?_ ?_ ?_
    · exact ⟨[], [], zd, upd_same, rfl, rfl, (fun j q y h _ => by simp at h), (fun y h => nomatch h), w4.same (same1 hD), g0, by omega, same_but (same1 hD)⟩
    · rintro i M hi ⟨qs, ws, zz, eD, lq, lw, hqs, hws, wz, k0, k1, bM⟩
      refine ⟨rfl, ?_⟩
      refine ⟨_, rfl, _, rfl, p, tp, zz, rfl, wz, by omega, by omega, k0, by omega, fun M1 da z2 bA wA n0 n1 da0 da1 => ?_⟩
      refine ⟨_, rfl, _, rfl, p, 3, z2, rfl, wA, by decide, by decide, n0, by omega, fun M2 db z3 bB wB o0 o1 db0 db1 => ?_⟩
      refine ⟨_, _, rfl, rfl, .inl ⟨by omega, by omega⟩, _, _, rfl, rfl, _, rfl, ?_⟩
      have fd : 0 ≤ far * db ∧ far * db ≤ 3 := by
        have : far = 0 ∨ far = 1 := by omega
        rcases this with h | h <;> subst h <;> omega
      have tb : (da - far * db).natAbs < 2 ^ 20 := by omega
      refine ⟨_, 1 + d, rfl, by omega, pow_le tb (by decide), Nat.lt_of_lt_of_le (show (1 + d).natAbs < 2 ^ 20 by omega) (Nat.pow_le_pow_right (by decide) (by decide)), fun q hq => ?_⟩
      have bM2 : But p M M2 := bA.trans bB
      have eD2 : M2 D = some (.lst (qs.map V.ref)) := bM2 _ _ Dp eD
      have Dq : D ≠ q := fun e => by rw [← e, eD2] at hq; cases hq
      have pq := np wB hq
      refine ⟨_, by rw [upd_ne Dq]; exact eD2, (by rw [List.length_map, lq]; exact Nat.lt_of_lt_of_le hi (Nat.le_trans (show (1 + dm).toNat ≤ 60 by omega) (show 60 ≤ sizeLine by decide))), ?_⟩
      refine ⟨qs ++ [q], ws ++ [(lowT (da - far * db) (1 + d), lowB (da - far * db) (1 + d))], z3, by rw [List.map_append]; exact upd_same, by rw [List.length_append, lq]; rfl, by rw [List.length_append, lw]; rfl, fun j q' y h1' h2' => ?_, fun y hy => ?_, ?_, o0, by omega, fun b o hb e => ?_⟩
      · by_cases c : j < qs.length
        · rw [List.getElem?_append_left c] at h1'
          rw [List.getElem?_append_left (by omega)] at h2'
          have e := hqs j q' y h1' h2'
          have qp : q' ≠ p := fun e' => by
            obtain ⟨_, _, e1, _⟩ := wz
            rw [e', e1] at e
            cases e
          have e2 := bM2 _ _ qp e
          rw [upd_ne (fun e' => by rw [e', eD] at e; cases e), upd_ne (ne_of_none e2 hq)]
          exact e2
        · rw [List.getElem?_append_right (by omega)] at h1' h2'
          have c0 : j - qs.length = 0 := by
            have := (List.getElem?_eq_some_iff.mp h1').1
            simp at this
            omega
          rw [c0] at h1'
          rw [show j - ws.length = 0 from by omega] at h2'
          have e1 : q = q' := by simpa using h1'
          have e2 : (lowT (da - far * db) (1 + d), lowB (da - far * db) (1 + d)) = y := by simpa using h2'
          subst e1 e2
          rw [upd_ne (Ne.symm Dq), upd_same]
      · rcases List.mem_append.mp hy with h | h
        · exact hws y h
        · have e : y = (lowT (da - far * db) (1 + d), lowB (da - far * db) (1 + d)) := by simpa using h
          rw [e]
          exact low_ok bb.1 bb.2 tb
      · obtain ⟨x', y', e, u, v⟩ := wB
        exact ⟨x', y', by rw [upd_ne (Ne.symm Dp), upd_ne (Ne.symm pq)]; exact e, u, v⟩
      · have e3 := bM2 _ _ hb (bM _ _ hb e)
        rw [upd_ne (ne_of_none e hD), upd_ne (ne_of_none e3 hq)]
        exact e3
    · rintro M ⟨qs, ws, zz, eD, lq, lw, hqs, hws, wz, k0, k1, bM⟩
      refine kq M D ws zz (B4.trans bM) ?_ Dp wz k0 (by omega) ⟨qs, eD, by omega, hqs⟩ (by omega) (by omega) hws
      cases e : H D with
      | none => rfl
      | some o =>
        have := B4 D o Dp e
        rw [hD] at this
        cases this
end
end K10

namespace K10
open PySem PySem.Spec PyProof.Rows L2
/-! ### two lists side by side -/
structure All2 {α β : Type} (R : α → β → Prop) (as : List α) (bs : List β) : Prop where
  len : as.length = bs.length
  all : ∀ (i : Nat) (a : α) (b : β), as[i]? = some a → bs[i]? = some b → R a b
theorem All2.nil {α β : Type} {R : α → β → Prop} : All2 R [] [] := ⟨rfl, fun i a b h _ => by simp at h⟩
theorem All2.mono {α β : Type} {R S : α → β → Prop} {as : List α} {bs : List β} (h : All2 R as bs) (f : ∀ a b, a ∈ as → b ∈ bs → R a b → S a b) : All2 S as bs :=
  ⟨h.len, fun i a b ha hb => f a b (List.mem_of_getElem? ha) (List.mem_of_getElem? hb) (h.all i a b ha hb)⟩
theorem All2.snoc {α β : Type} {R : α → β → Prop} {as : List α} {bs : List β} {a : α} {b : β} (h : All2 R as bs) (r : R a b) : All2 R (as ++ [a]) (bs ++ [b]) := by
  refine ⟨by rw [List.length_append, List.length_append, h.len]; rfl, fun i x y hx hy => ?_⟩
  by_cases c : i < as.length
  · rw [List.getElem?_append_left c] at hx
    rw [List.getElem?_append_left (by rw [← h.len]; exact c)] at hy
    exact h.all i x y hx hy
  · rw [List.getElem?_append_right (by omega)] at hx
    rw [List.getElem?_append_right (by rw [← h.len]; omega)] at hy
    have c0 : i - as.length = 0 := by
      have := (List.getElem?_eq_some_iff.mp hx).1
      simp at this
      omega
    rw [← h.len, c0] at hy
    rw [c0] at hx
    have e1 : a = x := by simpa using hx
    have e2 : b = y := by simpa using hy
    subst e1 e2
    exact r
theorem All2.one {α β : Type} {R : α → β → Prop} {a : α} {b : β} (r : R a b) : All2 R [a] [b] := All2.nil.snoc r
theorem All2.two {α β : Type} {R : α → β → Prop} {a a' : α} {b b' : β} (r : R a b) (r' : R a' b') : All2 R [a, a'] [b, b'] := (All2.one r).snoc r'
theorem All2.take {α β : Type} {R : α → β → Prop} {as : List α} {bs : List β} (h : All2 R as bs) (n : Nat) : All2 R (as.take n) (bs.take n) :=
  ⟨by rw [List.length_take, List.length_take, h.len], fun i a b ha hb => by
    rw [List.getElem?_take] at ha hb
    split at ha
    · rename_i c
      rw [if_pos c] at hb
      exact h.all i a b ha hb
    · cases ha⟩
theorem All2.rev {α β : Type} {R : α → β → Prop} {as : List α} {bs : List β} (h : All2 R as bs) : All2 R as.reverse bs.reverse :=
  ⟨by rw [List.length_reverse, List.length_reverse, h.len], fun i a b ha hb => by
    have hi : i < as.length := by
      have := (List.getElem?_eq_some_iff.mp ha).1
      simpa using this
    rw [List.getElem?_reverse hi] at ha
    rw [List.getElem?_reverse (by rw [← h.len]; exact hi), ← h.len] at hb
    exact h.all _ a b ha hb⟩
/-! ### what is drawn, beside a well and other lists that may change -/
/-- some list of our own stands at p -/
def LstAt (H : Hp) (p : Addr) : Prop := ∃ xs, H p = some (.lst xs)
theorem WellAt.lst {H : Hp} {p : Addr} {z : Int} (h : WellAt H p z) : LstAt H p := by
  obtain ⟨x, y, e, _⟩ := h
  exact ⟨_, e⟩
/-- all but what N tells stays; what N tells are lists -/
structure ButN (N : Addr → Prop) (H H' : Hp) : Prop where
  lst : ∀ q, N q → LstAt H q
  keep : ∀ b o, ¬ N b → H b = some o → H' b = some o
theorem ButN.ne {N : Addr → Prop} {H H' : Hp} (h : ButN N H H') {q : Addr} {o : HO} (e : H q = some o) (n : ∀ xs, o ≠ .lst xs) : ¬ N q := fun z => by
  obtain ⟨xs, e2⟩ := h.lst q z
  rw [e] at e2
  exact n xs (Option.some.inj e2)
theorem ButN.tup {N : Addr → Prop} {H H' : Hp} (h : ButN N H H') {q : Addr} {xs : List V} (e : H q = some (.tup xs)) : H' q = some (.tup xs) := h.keep q _ (h.ne e (fun _ z => nomatch z)) e
theorem ButN.same {N : Addr → Prop} {H H' : Hp} (l : ∀ q, N q → LstAt H q) (s : Same H H') : ButN N H H' := ⟨l, fun b o _ e => s b o e⟩
theorem ButN.but {N : Addr → Prop} {p : Addr} {H H' : Hp} (l : ∀ q, N q → LstAt H q) (n : N p) (b : But p H H') : ButN N H H' := ⟨l, fun q o h e => b q o (fun z => h (by rw [z]; exact n)) e⟩
theorem ButN.put {N : Addr → Prop} {p : Addr} {H : Hp} {o : HO} (l : ∀ q, N q → LstAt H q) (n : N p) : ButN N H (upd H p o) := ⟨l, fun q u h e => by rw [upd_ne (fun z => h (by rw [z]; exact n))]; exact e⟩
theorem ButN.trans {N : Addr → Prop} {H H1 H2 : Hp} (a : ButN N H H1) (b : ButN N H1 H2) : ButN N H H2 := ⟨a.lst, fun q o n e => b.keep q o n (a.keep q o n e)⟩
/-- a pair at q -/
def PrAt (H : Hp) (q : Addr) (y : Int × Int) : Prop := H q = some (.tup [.int y.1, .int y.2])
/-- pairs in a list of our own, which N doesn't tell -/
def PrsN (N : Addr → Prop) (H : Hp) (l : Addr) (ws : W2) : Prop := ¬ N l ∧ ∃ qs : List Addr, H l = some (.lst (qs.map V.ref)) ∧ All2 (PrAt H) qs ws
theorem PrsN.but {N : Addr → Prop} {H H' : Hp} {l : Addr} {ws : W2} (h : PrsN N H l ws) (b : ButN N H H') : PrsN N H' l ws := by
  obtain ⟨n, qs, e, a⟩ := h
  exact ⟨n, qs, b.keep _ _ n e, a.mono fun q y _ _ r => b.tup r⟩
theorem PrsN.at_ {K : PySem.W.Frag} {N : Addr → Prop} {H : Hp} {l : Addr} {ws : W2} (h : PrsN N H l ws) : PrsAt K H l ws := by
  obtain ⟨n, qs, e, a⟩ := h
  exact ⟨qs, SqL.of e, a.len, fun j q y h1 h2 => SqT.of (a.all j q y h1 h2)⟩
theorem PrsL.prsN {N : Addr → Prop} {H : Hp} {l : Addr} {ws : W2} (h : PrsL H l ws) (n : ¬ N l) : PrsN N H l ws := by
  obtain ⟨qs, e, a, b⟩ := h
  exact ⟨n, qs, e, ⟨a, fun i q y h1 h2 => b i q y h1 h2⟩⟩
theorem PrsN.less {N N' : Addr → Prop} {H : Hp} {l : Addr} {ws : W2} (h : PrsN N H l ws) (f : ∀ q, N' q → N q) : PrsN N' H l ws := ⟨fun z => h.1 (f _ z), h.2⟩
/-- a stretch at t -/
def StN (N : Addr → Prop) (H : Hp) (t : Addr) (x : Option Int × W2) : Prop := ∃ wl, H t = some (.tup [dv x.1, .ref wl]) ∧ PrsN N H wl x.2
theorem StN.but {N : Addr → Prop} {H H' : Hp} {t : Addr} {x : Option Int × W2} (h : StN N H t x) (b : ButN N H H') : StN N H' t x := by
  obtain ⟨wl, e, a⟩ := h
  exact ⟨wl, b.tup e, a.but b⟩
theorem StN.less {N N' : Addr → Prop} {H : Hp} {t : Addr} {x : Option Int × W2} (h : StN N H t x) (f : ∀ q, N' q → N q) : StN N' H t x := by
  obtain ⟨wl, e, a⟩ := h
  exact ⟨wl, e, a.less f⟩
/-- stretches in a list at l -/
def TolL (N : Addr → Prop) (H : Hp) (l : Addr) (told : List (Option Int × W2)) : Prop := ∃ ts : List Addr, H l = some (.lst (ts.map V.ref)) ∧ All2 (StN N H) ts told
def TolN (N : Addr → Prop) (H : Hp) (l : Addr) (told : List (Option Int × W2)) : Prop := ¬ N l ∧ TolL N H l told
theorem TolN.but {N : Addr → Prop} {H H' : Hp} {l : Addr} {told : List (Option Int × W2)} (h : TolN N H l told) (b : ButN N H H') : TolN N H' l told := by
  obtain ⟨n, ts, e, a⟩ := h
  exact ⟨n, ts, b.keep _ _ n e, a.mono fun t x _ _ r => r.but b⟩
theorem TolL.at_ {K : PySem.W.Frag} {N : Addr → Prop} {H : Hp} {l : Addr} {told : List (Option Int × W2)} (h : TolL N H l told) : LTold K H l told := by
  obtain ⟨ts, e, a⟩ := h
  refine ⟨ts, SqL.of e, a.len, fun i t x h1 h2 => ?_⟩
  obtain ⟨wl, e2, r⟩ := a.all i t x h1 h2
  exact ⟨wl, SqT.of e2, r.at_⟩
/-- stretches as the law draws them -/
structure DTold (told : List (Option Int × W2)) : Prop where
  ok : Told told
  prs : ∀ x ∈ told, ∀ y ∈ x.2, POk y
  far : ∀ x ∈ told, ∀ n, x.1 = some n → n ≤ 1000000000000
structure DHead (told : List (Option Int × W2)) : Prop where
  word : ∀ x ∈ told, 1 ≤ x.2.length ∧ x.2.length ≤ 60
  prs : ∀ x ∈ told, ∀ y ∈ x.2, POk y
  far : ∀ x ∈ told, ∃ n, x.1 = some n ∧ 1 ≤ n ∧ n ≤ 1000000000000
theorem DHead.nil : DHead [] := ⟨(fun _ h => nomatch h), (fun _ h => nomatch h), (fun _ h => nomatch h)⟩
theorem DHead.snoc {told : List (Option Int × W2)} {n : Int} {ws : W2} (h : DHead told) (n1 : 1 ≤ n) (n2 : n ≤ 1000000000000) (l1 : 1 ≤ ws.length) (l2 : ws.length ≤ 60) (hp : ∀ y ∈ ws, POk y) : DHead (told ++ [(some n, ws)]) := by
  have cs : ∀ {Pr : Option Int × W2 → Prop}, (∀ x ∈ told, Pr x) → Pr (some n, ws) → ∀ x ∈ told ++ [(some n, ws)], Pr x := fun a b x hx => by
    rcases List.mem_append.mp hx with z | z
    · exact a x z
    · rw [List.mem_singleton.mp z]
      exact b
  exact ⟨cs h.word ⟨l1, l2⟩, cs h.prs hp, cs h.far ⟨n, rfl, n1, n2⟩⟩
theorem DHead.told {told : List (Option Int × W2)} {ws : W2} (h : DHead told) (few : told.length ≤ 59) (l1 : 1 ≤ ws.length) (l2 : ws.length ≤ 60) (hp : ∀ y ∈ ws, POk y) : DTold (told ++ [(none, ws)]) := by
  have cs : ∀ {Pr : Option Int × W2 → Prop}, (∀ x ∈ told, Pr x) → Pr (none, ws) → ∀ x ∈ told ++ [(none, ws)], Pr x := fun a b x hx => by
    rcases List.mem_append.mp hx with z | z
    · exact a x z
    · rw [List.mem_singleton.mp z]
      exact b
  have le : (told ++ [((none : Option Int), ws)]).length = told.length + 1 := by rw [List.length_append]; rfl
  refine ⟨⟨by rw [le]; omega, by rw [le]; omega, fun i x hx => cs h.word ⟨l1, l2⟩ x (List.mem_of_getElem? hx), fun i x hx => ?_, fun i x n hx e => ?_⟩, cs h.prs hp, cs (fun x hx n e => ?_) (fun n e => nomatch e)⟩
  · rw [le]
    by_cases c : i < told.length
    · rw [List.getElem?_append_left c] at hx
      obtain ⟨n, e, _⟩ := h.far x (List.mem_of_getElem? hx)
      rw [e]
      exact ⟨(fun z => nomatch z), fun z => absurd z (by omega)⟩
    · have il := (List.getElem?_eq_some_iff.mp hx).1
      rw [le] at il
      have ei : i = told.length := by omega
      subst ei
      rw [List.getElem?_append_right (Nat.le_refl _), Nat.sub_self] at hx
      have : (none, ws) = x := by simpa using hx
      subst this
      exact ⟨fun _ => rfl, fun _ => rfl⟩
  · rcases List.mem_append.mp (List.mem_of_getElem? hx) with z | z
    · obtain ⟨m, e1, m1, _⟩ := h.far x z
      rw [e] at e1
      cases e1
      exact m1
    · rw [List.mem_singleton.mp z] at e
      cases e
  · obtain ⟨m, e1, _, m2⟩ := h.far x hx
    rw [e] at e1
    cases e1
    exact m2
def spLStr : Sp := fun vs H Q _ => ∃ (p : Addr) (z most word long far : Int), vs = [.ref p, .int most, .int word, .int long, .int far] ∧ WellAt H p z ∧ 0 ≤ z ∧ z < 2 ^ 28 ∧ 0 < most ∧ most ≤ 60 ∧ 0 < word ∧ word ≤ 60 ∧ 0 < long ∧ long ≤ 1000000000000 ∧ 0 ≤ far ∧ far ≤ 1 ∧
  ∀ (H' : Hp) (l : Addr) (told : List (Option Int × W2)) (z' : Int), But p H H' → WellAt H' p z' → 0 ≤ z' → z' ≤ z + 20000 → TolN (· = p) H' l told → DTold told → Q (.ref l) H'
section
variable {P : Program} {w : World} {K : PySem.W.Frag} {mg : Str → Option Value} {base : Heap}
abbrev lstrN : List Str := ["well", "most", "word", "long", "far", "found", "k"]
theorem scLStr : FnScope lstrN ["well", "most", "word", "long", "far"] (defScope d_law_stretches) := ⟨rfl, rfl, rfl, by decide +kernel, rfl, by decide +kernel, by decide +kernel⟩
theorem ok_lstr {f fD fW : Addr} {fd fdD fdW : FuncData} (F : Fun K "_law_stretches" "_law_stretches" d_law_stretches f fd) (hrange : mg "range" = none)
    (GD : FnOk P w K mg base CX0 1 fD fdD ["well", "many"] spDraw) (mD : mg "_law_draw" = some (.ref fD)) (kD : PySem.W.keepIn K (.ref fD) = true) (bD : Binds K fdD ["well", "many"] [])
    (GW : FnOk P w K mg base CX0 3 fW fdW ["well", "most", "far"] spLWord) (mW : mg "_law_word" = some (.ref fW)) (kW : PySem.W.keepIn K (.ref fW) = true) (bW : Binds K fdW ["well", "most", "far"] []) :
    FnOk P w K mg base CX0 4 f fd ["well", "most", "word", "long", "far"] spLStr := by
  refine F.ok scLStr (fun vs H Q E h => ?_) (fun cdv A outer s H vs Q E hr h => ?_)
  · obtain ⟨p, z, _, _, _, _, rfl, _⟩ := h
    rfl
  · obtain ⟨p, z, most, word, long, far, rfl, hp, z0, z1, m0, m1, w0, w1, l0, l1, f0, f1, kq⟩ := h
    have r1 : Room 1 _ := hr.mono (by decide)
    refine ⟨_, pss_cons (ps_set (i := 5) scLStr.nd rfl (Or.inl rfl) (pe_lst pa_nil))
      (pss_cons (ps_for PassesOwn.never rfl (pi_range1 (by rfl) hrange (pa_cons (pe_call GD r1 rfl mD kD bD .nil pass0 (pa_cons (pv 0) (pa_cons (pv 1) pa_nil))) pa_nil)) (pg_name (i := 6) scLStr.nd rfl (.inl rfl))
        (pss_one (ps_expr (pe_bm PySem.F.plainAttrs_list PySem.F.slot_list_append PySem.F.type_list_append mt_append (pv 5) (pa_cons (pe_tup (pa_cons (pe_op op_add pe_int (pe_call GD r1 rfl mD kD bD .nil pass0 (pa_cons (pv 0) (pa_cons (pv 3) pa_nil)))) (pa_cons (pe_call GW hr rfl mW kW bW .nil pass0 (pa_cons (pv 0) (pa_cons (pv 2) (pa_cons (pv 4) pa_nil)))) pa_nil))) pa_nil)))))
      (pss_one (ps_ret (pe_op op_cat (pv 5) (pe_lst (pa_cons (pe_tup (pa_cons pe_non (pa_cons (pe_call GW hr rfl mW kW bW .nil pass0 (pa_cons (pv 0) (pa_cons (pv 2) (pa_cons (pv 4) pa_nil)))) pa_nil))) pa_nil)))))), ?_⟩
    refine ⟨(by show 0 ≤ sizeLine; decide), fun F hF => ?_⟩
    have nF : F ≠ p := fun e => by
      obtain ⟨_, _, e1, _⟩ := hp
      rw [← e, hF] at e1
      cases e1
    have b0 : But p H (upd H F (.lst [])) := same_but (same1 hF)
    have hF1 : (upd H F (.lst []) : Hp) F = some (.lst []) := upd_same
    have w1' := hp.same (same1 (o := .lst []) hF)
    generalize upd H F (.lst []) = H0 at *
    refine ⟨_, rfl, _, rfl, p, most, z, rfl, w1', m0, by omega, z0, by omega, fun H1 d za bt wa a0 a1 d0 d1 => ?_⟩
    refine ⟨_, rfl, by omega, by omega, ?_⟩
    have hF2 := bt F _ nF hF1
    refine for_range (lo := 0) (n := d.toNat) (fun i σ G => ∃ (told : List (Option Int × W2)) (zz : Int) (v6 : Option V), σ = [some (.ref p), some (.int most), some (.int word), some (.int long), some (.int far), some (.ref F), v6] ∧
      TolL (fun q => q = p ∨ q = F) G F told ∧ told.length = i ∧ DHead told ∧ WellAt G p zz ∧ 0 ≤ zz ∧ zz ≤ za + 201 * (i : Int) ∧ But p H G) ⟨[], za, none, rfl, ⟨[], hF2, .nil⟩, rfl, .nil, wa, a0, by omega, b0.trans bt⟩ ?_ ?_
    · rintro i σ G hi ⟨told, zz, v6, rfl, ⟨ts, eF, hts⟩, lt, dh, wz, y0, y1, bG⟩
      refine ⟨_, rfl, .inl ⟨rfl, _, SqL.of eF⟩, _, rfl, _, rfl, p, long, zz, rfl, wz, l0, by omega, y0, by omega, fun G1 dd z2 bA wA n0 n1 d0' d1' => ?_⟩
      refine ⟨_, _, rfl, rfl, ?_⟩
      refine ⟨_, rfl, _, rfl, _, rfl, p, z2, word, far, rfl, wA, n0, by omega, w0, w1, f0, f1, fun G2 wl ws z3 bB hwl nwl wB o0 o1 pw lw1 lw2 hpw => ?_⟩
      have lst0 : ∀ q, (q = p ∨ q = F) → LstAt G q := fun q h => by
        rcases h with h | h
        · rw [h]; exact wz.lst
        · rw [h]; exact ⟨_, eF⟩
      have eF1 := bA F _ nF eF
      have lst1 : ∀ q, (q = p ∨ q = F) → LstAt G1 q := fun q h => by
        rcases h with h | h
        · rw [h]; exact wA.lst
        · rw [h]; exact ⟨_, eF1⟩
      have eF2 := bB F _ nF eF1
      have lst2 : ∀ q, (q = p ∨ q = F) → LstAt G2 q := fun q h => by
        rcases h with h | h
        · rw [h]; exact wB.lst
        · rw [h]; exact ⟨_, eF2⟩
      have k02 : ButN (fun q => q = p ∨ q = F) G G2 := (ButN.but lst0 (.inl rfl) bA).trans (ButN.but lst1 (.inl rfl) bB)
      have nwF : wl ≠ F := fun e => by rw [e, eF1] at hwl; cases hwl
      have pn : PrsN (fun q => q = p ∨ q = F) G2 wl ws := pw.prsN (fun h => h.elim nwl nwF)
      refine ⟨(by show 2 ≤ sizeLine; decide), fun t ht => ?_⟩
      have s3 : Same G2 (upd G2 t (.tup [.int (1 + dd), .ref wl])) := same1 ht
      have et : (upd G2 t (.tup [.int (1 + dd), .ref wl]) : Hp) t = some (.tup [.int (1 + dd), .ref wl]) := upd_same
      generalize upd G2 t (.tup [.int (1 + dd), .ref wl]) = G3 at *
      have eF3 := s3 _ _ eF2
      have lst3 : ∀ q, (q = p ∨ q = F) → LstAt G3 q := fun q h => by
        obtain ⟨xs, e⟩ := lst2 q h
        exact ⟨xs, s3 _ _ e⟩
      have k23 : ButN (fun q => q = p ∨ q = F) G2 G3 := ButN.same lst2 s3
      refine ⟨F, _, _, rfl, rfl, eF3, (by rw [List.length_map, hts.len, lt]; exact Nat.lt_of_lt_of_le hi (Nat.le_trans (show d.toNat ≤ 60 by omega) (show 60 ≤ sizeLine by decide))), ?_⟩
      have k34 : ButN (fun q => q = p ∨ q = F) G3 (upd G3 F (.lst (ts.map V.ref ++ [.ref t]))) := ButN.put lst3 (.inr rfl)
      refine ⟨told ++ [(some (1 + dd), ws)], z3, _, rfl, ⟨ts ++ [t], by rw [List.map_append]; exact upd_same, ((hts.mono fun t x _ _ r => r.but (k02.trans (k23.trans k34))).snoc ⟨wl, k34.tup et, pn.but (k23.trans k34)⟩)⟩, by rw [List.length_append, lt]; rfl, dh.snoc (by omega) (by omega) lw1 lw2 hpw, ?_, o0, by omega, fun b o hb e => ?_⟩
      · obtain ⟨x', y', e, u, v⟩ := wB
        exact ⟨x', y', by rw [upd_ne (Ne.symm nF)]; exact s3 _ _ e, u, v⟩
      · rw [upd_ne (ne_of_none e hF)]
        exact s3 _ _ (bB b o hb (bA b o hb (bG b o hb e)))
    · rintro σ G ⟨told, zz, v6, rfl, ⟨ts, eF, hts⟩, lt, dh, wz, y0, y1, bG⟩
      refine ⟨_, rfl, _, rfl, _, rfl, _, rfl, p, zz, word, far, rfl, wz, y0, by omega, w0, w1, f0, f1, fun G2 wl ws z3 bB hwl nwl wB o0 o1 pw lw1 lw2 hpw => ?_⟩
      have lst1 : ∀ q, (q = p ∨ q = F) → LstAt G q := fun q h => by
        rcases h with h | h
        · rw [h]; exact wz.lst
        · rw [h]; exact ⟨_, eF⟩
      have eF2 := bB F _ nF eF
      have k12 : ButN (fun q => q = p ∨ q = F) G G2 := ButN.but lst1 (.inl rfl) bB
      have nwF : wl ≠ F := fun e => by rw [e, eF] at hwl; cases hwl
      have lst2 : ∀ q, (q = p ∨ q = F) → LstAt G2 q := fun q h => by
        rcases h with h | h
        · rw [h]; exact wB.lst
        · rw [h]; exact ⟨_, eF2⟩
      have pn : PrsN (fun q => q = p ∨ q = F) G2 wl ws := pw.prsN (fun h => h.elim nwl nwF)
      refine ⟨(by show 2 ≤ sizeLine; decide), fun t ht => ⟨(by show 1 ≤ sizeLine; decide), fun D hD => ?_⟩⟩
      have s3 : Same G2 (upd G2 t (.tup [.non, .ref wl])) := same1 ht
      have et : (upd G2 t (.tup [.non, .ref wl]) : Hp) t = some (.tup [.non, .ref wl]) := upd_same
      generalize upd G2 t (.tup [.non, .ref wl]) = G3 at *
      have s4 : Same G3 (upd G3 D (.lst [.ref t])) := same1 hD
      have eD : (upd G3 D (.lst [.ref t]) : Hp) D = some (.lst [.ref t]) := upd_same
      generalize upd G3 D (.lst [.ref t]) = G4 at *
      have eF4 := s4 _ _ (s3 _ _ eF2)
      refine ⟨F, D, _, _, rfl, rfl, eF4, eD, (by rw [List.length_map, hts.len, lt]; exact Nat.le_trans (show d.toNat + 1 ≤ 61 by omega) (show 61 ≤ sizeLine by decide)), fun R hR => ?_⟩
      have s5 : Same G4 (upd G4 R (.lst (ts.map V.ref ++ [.ref t]))) := same1 hR
      have eR : (upd G4 R (.lst (ts.map V.ref ++ [.ref t])) : Hp) R = some (.lst (ts.map V.ref ++ [.ref t])) := upd_same
      generalize upd G4 R (.lst (ts.map V.ref ++ [.ref t])) = G5 at *
      have s25 := s3.trans (s4.trans s5)
      have k25 : ButN (fun q => q = p ∨ q = F) G2 G5 := ButN.same lst2 s25
      have all : All2 (StN (fun q => q = p ∨ q = F) G5) (ts ++ [t]) (told ++ [(none, ws)]) := (hts.mono fun t x _ _ r => r.but (k12.trans k25)).snoc ⟨wl, s5 _ _ (s4 _ _ et), pn.but k25⟩
      refine kq G5 R (told ++ [(none, ws)]) z3 (bG.trans (bB.trans (same_but s25))) (wB.same s25) o0 (by omega) ⟨fun e => ?_, ts ++ [t], by rw [List.map_append]; exact eR, all.mono fun t x _ _ r => r.less (fun q h => .inl h)⟩ (dh.told (by omega) lw1 lw2 hpw)
      obtain ⟨_, _, e1, _⟩ := wB
      have e2 := s4 _ _ (s3 _ _ e1)
      rw [← e, hR] at e2
      cases e2
end
end K10

namespace K10
open PySem PySem.Spec PyProof.Rows L2
theorem Keep.str {K : PySem.W.Frag} {C : Addr} {H H' : Hp} {t : Addr} {x : Option Int × W2} (k : Keep H H') (h : StrAt K C H t x) : StrAt K C H' t x := by
  obtain ⟨wa, a, ps, b, c⟩ := h
  exact ⟨wa, k.tup a, ps, k.tup b, k.all c⟩
theorem ShAll.all2 {C : Addr} {H : Hp} {ps : List Addr} {ws : W2} : ShAll C H ps ws ↔ All2 (fun p (x : Int × Int) => ShAt C H p x.1 x.2) ps ws := ⟨fun h => ⟨h.1, h.2⟩, fun h => ⟨h.len, h.all⟩⟩
def rTupO (K : PySem.W.Frag) : List V → Hp → VK → Prop := fun xs H Q => ∃ p ys, xs = [.ref p] ∧ ((SqL K H p ys ∧ ∀ l, H l = none → Q (.ref l) (upd H l (.tup ys))) ∨ (SqT K H p ys ∧ Q (.ref p) H))
theorem cr_tup {X : Cx} {K : PySem.W.Frag} (e : X.K = K) : CallR X (.type "tuple") (rTupO K) := by
  subst e
  exact call_tuple_of
def spLCourse (K : PySem.W.Frag) (C CC : Addr) : Sp := fun vs H Q _ => ∃ (l : Addr) (told : List (Option Int × W2)), vs = [.ref l] ∧ LTold K H l told ∧ Told told ∧ (∀ x ∈ told, ∀ y ∈ x.2, POk y) ∧
  ∀ (H' : Hp) (c : Addr), Same H H' → CourseAt K C CC H' c told → Q (.ref c) H'
section
variable {P : Program} {w : World} {K : PySem.W.Frag} {mg : Str → Option Value} {base : Heap}
abbrev lcrsN : List Str := ["told", "days", "word", "one", "other"]
theorem scLCrs : FnScope lcrsN ["told"] (defScope d_law_course) := ⟨rfl, rfl, rfl, by decide +kernel, rfl, by decide +kernel, by decide +kernel⟩
theorem ok_lcrs {f fI fJ C CN CC : Addr} {fd fdI fdJ : FuncData} (F : Fun K "_law_course" "_law_course" d_law_course f fd) (T : Txt K mg C CN) (htup : mg "tuple" = none)
    (M : Mk K C fI) (GI : FnOk P w K mg base (L2.CX P w) 2 fI fdI ["self", "top", "bottom"] (spInit C CN)) (bI : Binds K fdI ["self", "top", "bottom"] [])
    (mC : mg "Course" = some (.ref CC)) (MC : Mk K CC fJ) (GJ : FnOk P w K mg base (L2.CX P w) 5 fJ fdJ ["self", "stretches"] (spCInit K C CC)) (bJ : Binds K fdJ ["self", "stretches"] []) :
    FnOk P w K mg base CX0 7 f fd ["told"] (spLCourse K C CC) := by
  refine F.ok scLCrs (fun vs H Q E h => ?_) (fun cdv A outer s H vs Q E hr h => ?_)
  · obtain ⟨l, _, rfl, _⟩ := h
    rfl
  · obtain ⟨l, told, rfl, ⟨ts, hl, lt, hst⟩, ok, pok, kq⟩ := h
    have r3 : Room 3 _ := hr.mono (by decide)
    refine ⟨_, pss_one (ps_ret (pe_make MC GJ hr rfl mC bJ .nil passL (pa_cons
      (pe_lc (own := [("days", 1), ("word", 2)]) (g := gTup K 2 (gCons (gName 1) (gCons (gName 2) gNil))) (by rfl) scLCrs.nd (pi_list (pv 0)) (blkOk_by (own := [("days", 1), ("word", 2)]) (N := lcrsN) (sc := defScope d_law_course) (by decide +kernel))
        (fun _ _ _ _ _ => pg_tup (by rfl) (pgs_cons (pg_name (i := 1) scLCrs.nd rfl (.inl rfl)) (pgs_cons (pg_name (i := 2) scLCrs.nd rfl (.inl rfl)) pgs_nil))) (fun _ _ _ _ _ => pts_nil)
        (fun _ _ _ _ _ => pe_tup (pa_cons (pv 1) (pa_cons (pe_callTy (cr_tup (K := K) rfl) (by rfl) htup (by decide +kernel) (pa_cons
          (pe_lc (own := [("one", 3), ("other", 4)]) (g := gTup K 2 (gCons (gName 3) (gCons (gName 4) gNil))) (by rfl) scLCrs.nd (show PI _ _ _ (iList K (tVar 2)) from pi_list (pv 2)) (blkOk_by (own := [("one", 3), ("other", 4)]) (N := lcrsN) (by rfl))
            (fun _ _ _ _ _ => pg_tup (by rfl) (pgs_cons (pg_name (i := 3) scLCrs.nd rfl (.inl rfl)) (pgs_cons (pg_name (i := 4) scLCrs.nd rfl (.inl rfl)) pgs_nil))) (fun _ _ _ _ _ => pts_nil)
            (fun _ _ _ _ _ => pe_make M GI r3 rfl T.mgC bI .nil passL (pa_cons (pv 3) (pa_cons (pv 4) pa_nil)))) pa_nil)) pa_nil)))) pa_nil))), ?_⟩
    refine ⟨_, rfl, l, rfl, ⟨_, hl⟩, fun D hD => ?_⟩
    refine lc_list (K := K) (a := l) (xs := ts.map V.ref) (fun i N => ∃ us : List Addr, N D = some (.lst (us.map V.ref)) ∧ All2 (StrAt K C N) us (told.take i) ∧ Same H N) ⟨[], upd_same, .nil, same1 hD⟩ ?_ ?_ ?_
    · rintro i N _ ⟨_, _, _, sN⟩
      exact sN.seq hl
    · rintro i x N hx ⟨us, nD, nA, sN⟩
      rw [List.getElem?_map] at hx
      obtain ⟨t, ht, rfl⟩ := Option.map_eq_some_iff.mp hx
      have il : i < told.length := by
        have := (List.getElem?_eq_some_iff.mp ht).1
        omega
      have hxi : told[i]? = some told[i] := List.getElem?_eq_getElem il
      have k60 := ok.few
      have w60 := (ok.word i _ hxi).2
      have pk := pok _ (List.mem_of_getElem? hxi)
      obtain ⟨wl, q1, qs, h1, h2, h3⟩ := hst i t _ ht hxi
      generalize e0 : told[i] = y at *
      obtain ⟨d, ws⟩ := y
      have q1 := Same.tup sN q1
      refine ⟨t, _, rfl, q1, rfl, _, _, rfl, _, _, rfl, rfl, rfl, ?_⟩
      have hwl := sN.seq h1
      refine ⟨_, rfl, _, rfl, wl, rfl, ⟨_, hwl⟩, fun B hB => ?_⟩
      refine lc_list (K := K) (a := wl) (xs := qs.map V.ref) (fun j M => ∃ ps : List Addr, M B = some (.lst (ps.map V.ref)) ∧ All2 (fun p (x : Int × Int) => ShAt C M p x.1 x.2) ps (ws.take j) ∧ Same N M) ⟨[], upd_same, .nil, same1 hB⟩ ?_ ?_ ?_
      · rintro j M _ ⟨_, _, _, sM⟩
        exact sM.seq hwl
      · rintro j x M hx ⟨ps, mB, mA, sM⟩
        rw [List.getElem?_map] at hx
        obtain ⟨q, hq, rfl⟩ := Option.map_eq_some_iff.mp hx
        have jl : j < ws.length := by
          have := (List.getElem?_eq_some_iff.mp hq).1
          have h2 : qs.length = ws.length := h2
          omega
        have hy : ws[j]? = some ws[j] := List.getElem?_eq_getElem jl
        obtain ⟨y0, ym, yt, yc⟩ := pk _ (List.mem_of_getElem? hy)
        have q2 := Same.tup (sN.trans sM) (h3 j q _ hq hy)
        have lw : (ws.take j).length ≤ 60 := by
          rw [List.length_take]
          exact Nat.le_trans (Nat.min_le_right _ _) w60
        have tk := List.take_succ_eq_append_getElem jl
        generalize ws[j] = y at *
        obtain ⟨yn, yd⟩ := y
        refine ⟨q, _, rfl, q2, rfl, _, _, rfl, _, _, rfl, rfl, rfl, ?_⟩
        refine ⟨_, rfl, _, rfl, fun p1 d1 np nd nex => ⟨p1, d1, yn, yd, rfl, upd_same, pow_le yt (by decide), ?_, fun z => absurd z (by have := y0; omega), fun _ L e ka => ⟨rfl, ?_⟩⟩⟩
        · exact Nat.lt_of_le_of_lt (Nat.le_of_dvd (by decide) ym) (Nat.lt_of_lt_of_le (show 6 < 2 ^ 3 by decide) (Nat.pow_le_pow_right (by decide) (by decide)))
        have s1 : Same M L := made_same (C := C) np nd ka
        have eB := s1 _ _ mB
        have kB := keep_lst (ys := ps.map V.ref ++ [.ref p1]) eB
        have lo := low_self y0 yc
        rw [lo.1, lo.2] at e
        refine ⟨_, eB, (by rw [List.length_map, mA.len]; exact Nat.lt_of_le_of_lt lw (show 60 < sizeLine by decide)), ps ++ [p1], by rw [List.map_append]; exact upd_same, ?_, fun b o eb => ?_⟩
        · rw [tk]
          refine (mA.mono fun p x _ _ r => ?_).snoc ?_
          · obtain ⟨dq, r⟩ := r
            exact ⟨dq, kB _ _ (s1 _ _ r) (fun _ z => nomatch z)⟩
          · exact ⟨d1, kB _ _ e (fun _ z => nomatch z)⟩
        · rw [upd_ne (ne_of_none eb hB)]
          exact s1 _ _ (sM _ _ eb)
      · rintro M ⟨ps, mB, mA, sM⟩
        rw [List.length_map, h2, List.take_length] at mA
        refine ⟨B, _, rfl, .inl ⟨SqL.of mB, fun u hu => ?_⟩⟩
        have s1 : Same M (upd M u (.tup (ps.map V.ref))) := same1 hu
        have eu : (upd M u (.tup (ps.map V.ref)) : Hp) u = some (.tup (ps.map V.ref)) := upd_same
        generalize upd M u (.tup (ps.map V.ref)) = M1 at *
        refine ⟨(by show 2 ≤ sizeLine; decide), fun v hv => ?_⟩
        have s2 : Same M1 (upd M1 v (.tup [dv d, .ref u])) := same1 hv
        have ev : (upd M1 v (.tup [dv d, .ref u]) : Hp) v = some (.tup [dv d, .ref u]) := upd_same
        generalize upd M1 v (.tup [dv d, .ref u]) = M2 at *
        have s02 := sM.trans (s1.trans s2)
        have eD := s02 _ _ nD
        have kD := keep_lst (ys := us.map V.ref ++ [.ref v]) eD
        refine ⟨_, eD, ?_, us ++ [v], by rw [List.map_append]; exact upd_same, ?_, fun b o eb => ?_⟩
        · rw [List.length_map, nA.len, List.length_take]
          exact Nat.lt_of_le_of_lt (Nat.le_trans (Nat.min_le_right _ _) k60) (show 60 < sizeLine by decide)
        · rw [List.take_succ_eq_append_getElem il, e0]
          refine (nA.mono fun p x _ _ r => kD.str (r.mono s02)).snoc (kD.str ⟨u, SqT.of ev, ps, SqT.of (s2 _ _ eu), ShAll.all2.mpr (mA.mono fun p x _ _ r => ?_)⟩)
          obtain ⟨dq, r⟩ := r
          exact ⟨dq, s2 _ _ (s1 _ _ r)⟩
        · rw [upd_ne (ne_of_none eb hD)]
          exact s02 _ _ (sN _ _ eb)
    · rintro N ⟨us, nD, nA, sN⟩
      rw [List.length_map, lt, List.take_length] at nA
      intro x dx nx ndx nex
      have sx : Same N (upd (upd N dx (.own x)) x (.ins CC dx [])) := made_same (C := CC) nx ndx (fun a _ => rfl)
      refine ⟨x, dx, D, told, rfl, upd_same, ⟨us, sx.seq (SqL.of nD), nA.len, fun i t y h1 h2 => (nA.all i t y h1 h2).mono sx⟩, ok, fun H' hc kp => ⟨rfl, kq H' x (fun b o e => ?_) hc⟩⟩
      have e2 := sx _ _ (sN _ _ e)
      exact kp b o (ne_of_none (sN _ _ e) nx) e2
end
end K10

namespace K10
open PySem PySem.Spec PyProof.Rows L2
theorem pr_put {H : Hp} {l : Addr} {ys : List V} (e : LstAt H l) : ∀ q y, PrAt H q y → PrAt (upd H l (.lst ys)) q y := fun q y h => by
  obtain ⟨zs, ez⟩ := e
  unfold PrAt at h ⊢
  rw [upd_ne (fun z => by rw [z, ez] at h; cases h)]
  exact h
theorem PrsL.of {H : Hp} {l : Addr} {qs : List Addr} {ws : W2} (e : H l = some (.lst (qs.map V.ref))) (a : All2 (PrAt H) qs ws) : PrsL H l ws := ⟨qs, e, a.len, fun j q y h1 h2 => a.all j q y h1 h2⟩
def spLGreat : Sp := fun vs H Q _ => ∃ (p : Addr) (z : Int), vs = [.ref p] ∧ WellAt H p z ∧ 0 ≤ z ∧ z < 2 ^ 28 ∧
  ∀ (H' : Hp) (l : Addr) (told : List (Option Int × W2)) (z' : Int), But p H H' → WellAt H' p z' → 0 ≤ z' → z' ≤ z + 20000 → TolN (· = p) H' l told → DTold told → Q (.ref l) H'
section
variable {P : Program} {w : World} {K : PySem.W.Frag} {mg : Str → Option Value} {base : Heap}
abbrev lgrtN : List Str := ["well", "word", "k"]
theorem scLGrt : FnScope lgrtN ["well"] (defScope d_law_great) := ⟨rfl, rfl, rfl, by decide +kernel, rfl, by decide +kernel, by decide +kernel⟩
theorem ok_lgrt {f fD fW fL : Addr} {fd fdD fdW fdL : FuncData} (F : Fun K "_law_great" "_law_great" d_law_great f fd) (hrange : mg "range" = none)
    (GD : FnOk P w K mg base CX0 1 fD fdD ["well", "many"] spDraw) (mD : mg "_law_draw" = some (.ref fD)) (kD : PySem.W.keepIn K (.ref fD) = true) (bD : Binds K fdD ["well", "many"] [])
    (GW : FnOk P w K mg base CX0 3 fW fdW ["well", "most", "far"] spLWord) (mW : mg "_law_word" = some (.ref fW)) (kW : PySem.W.keepIn K (.ref fW) = true) (bW : Binds K fdW ["well", "most", "far"] [])
    (GL : FnOk P w K mg base CX0 1 fL fdL ["top", "bottom"] spLow) (mL : mg "_law_low" = some (.ref fL)) (kL : PySem.W.keepIn K (.ref fL) = true) (bL : Binds K fdL ["top", "bottom"] []) :
    FnOk P w K mg base CX0 4 f fd ["well"] spLGreat := by
  refine F.ok scLGrt (fun vs H Q E h => ?_) (fun cdv A outer s H vs Q E hr h => ?_)
  · obtain ⟨p, z, rfl, _⟩ := h
    rfl
  · obtain ⟨p, z, rfl, hp, z0, z1, kq⟩ := h
    have r1 : Room 1 _ := hr.mono (by decide)
    refine ⟨_, pss_cons (ps_if (pt_cmpR op_eq (pe_call GD r1 rfl mD kD bD .nil pass0 (pa_cons (pv 0) (pa_cons pe_int pa_nil))) pe_int (nomark _))
        (pss_one (ps_ret (pe_op op_cat (pe_lc (own := [("k", 2)]) (g := gName 2) (by rfl) scLGrt.nd (pi_range1 (by rfl) hrange (pa_cons pe_int pa_nil)) (blkOk_by (own := [("k", 2)]) (N := lgrtN) (sc := defScope d_law_great) (by decide +kernel)) (fun _ _ _ _ _ => pg_name (i := 2) scLGrt.nd rfl (.inl rfl)) (fun _ _ _ _ _ => pts_nil)
          (fun _ _ _ _ _ => pe_tup (pa_cons (pe_op op_add pe_int (pe_call GD r1 rfl mD kD bD .nil pass0 (pa_cons (pv 0) (pa_cons pe_int pa_nil)))) (pa_cons (pe_call GW hr rfl mW kW bW .nil pass0 (pa_cons (pv 0) (pa_cons pe_int (pa_cons pe_int pa_nil)))) pa_nil))))
          (pe_lst (pa_cons (pe_tup (pa_cons pe_non (pa_cons (pe_call GW hr rfl mW kW bW .nil pass0 (pa_cons (pv 0) (pa_cons pe_int (pa_cons pe_int pa_nil)))) pa_nil))) pa_nil))))) pss_nil)
      (pss_cons (ps_setLc (i := 1) (own := [("k", 2)]) (g := gName 2) (by rfl) scLGrt.nd rfl rfl (sw_true rfl rfl rfl (by decide +kernel)) (pi_range1 (by rfl) hrange (pa_cons pe_int pa_nil)) (blkOk_by (own := [("k", 2)]) (N := lgrtN) (sc := defScope d_law_great) (by decide +kernel)) (fun _ _ _ _ _ => pg_name (i := 2) scLGrt.nd rfl (.inl rfl)) (fun _ _ _ _ _ => pts_nil)
          (fun _ _ _ _ _ => pe_call GL r1 rfl mL kL bL .nil pass0 (pa_cons (pe_op op_sub (pe_call GD r1 rfl mD kD bD .nil pass0 (pa_cons (pv 0) (pa_cons pe_int pa_nil))) pe_int) (pa_cons (pe_op op_add pe_int (pe_op op_mod (pv 2) pe_int)) pa_nil))))
      (pss_one (ps_ret (pe_lst (pa_cons (pe_tup (pa_cons (pe_op op_add pe_int (pe_call GD r1 rfl mD kD bD .nil pass0 (pa_cons (pv 0) (pa_cons (pe_op op_pow pe_int pe_int) pa_nil)))) (pa_cons (pv 1) pa_nil))) (pa_cons (pe_tup (pa_cons pe_non (pa_cons (pe_revL (pv 1)) pa_nil))) pa_nil)))))), ?_⟩
    have wne : ∀ {G : Hp} {q : Addr} {zz : Int}, WellAt G p zz → G q = none → q ≠ p := fun {G q zz} h hq e => by
      obtain ⟨_, _, e1, _⟩ := h
      rw [e, e1] at hq
      cases hq
    refine ⟨_, rfl, p, 2, z, rfl, hp, by decide, by decide, z0, by omega, fun H1 d za bt wa a0 a1 d0 d1 => ⟨rfl, _, rfl, ite2 (fun _ => ?_) (fun _ => ?_)⟩⟩
    · refine ⟨_, rfl, by decide, by decide, fun D hD => ?_⟩
      have nD := wne wa hD
      refine lc_range (lo := 0) (n := 59) (fun i M => ∃ (ts : List Addr) (told : List (Option Int × W2)) (zz : Int), M D = some (.lst (ts.map V.ref)) ∧ All2 (StN (fun q => q = p ∨ q = D) M) ts told ∧ told.length = i ∧ DHead told ∧ WellAt M p zz ∧ 0 ≤ zz ∧ zz ≤ za + 201 * (i : Int) ∧ But p H1 M) ?_ ?_ ?_
      · exact ⟨[], [], za, upd_same, .nil, rfl, .nil, wa.same (same1 hD), a0, by omega, same_but (same1 hD)⟩
      · rintro i M hi ⟨ts, told, zz, eD, hts, lt, dh, wz, y0, y1, bM⟩
        refine ⟨rfl, ?_⟩
        refine ⟨_, rfl, p, 5, zz, rfl, wz, by decide, by decide, y0, by omega, fun G1 dd z2 bA wA n0 n1 d0' d1' => ?_⟩
        refine ⟨_, _, rfl, rfl, ?_⟩
        refine ⟨_, rfl, p, z2, 3, 1, rfl, wA, n0, by omega, by decide, by decide, by decide, by decide, fun G2 wl ws z3 bB hwl nwl wB o0 o1 pw lw1 lw2 hpw => ?_⟩
        have eD1 := bA D _ nD eD
        have eD2 := bB D _ nD eD1
        have l0 : ∀ q, (q = p ∨ q = D) → LstAt M q := fun q h => h.elim (fun h => by rw [h]; exact wz.lst) (fun h => by rw [h]; exact ⟨_, eD⟩)
        have l1 : ∀ q, (q = p ∨ q = D) → LstAt G1 q := fun q h => h.elim (fun h => by rw [h]; exact wA.lst) (fun h => by rw [h]; exact ⟨_, eD1⟩)
        have l2 : ∀ q, (q = p ∨ q = D) → LstAt G2 q := fun q h => h.elim (fun h => by rw [h]; exact wB.lst) (fun h => by rw [h]; exact ⟨_, eD2⟩)
        have k02 : ButN (fun q => q = p ∨ q = D) M G2 := (ButN.but l0 (.inl rfl) bA).trans (ButN.but l1 (.inl rfl) bB)
        have nwD : wl ≠ D := fun e => by rw [e, eD1] at hwl; cases hwl
        have pn : PrsN (fun q => q = p ∨ q = D) G2 wl ws := pw.prsN (fun h => h.elim nwl nwD)
        refine ⟨(by show 2 ≤ sizeLine; decide), fun t ht => ?_⟩
        have s3 : Same G2 (upd G2 t (.tup [.int (1 + dd), .ref wl])) := same1 ht
        have et : (upd G2 t (.tup [.int (1 + dd), .ref wl]) : Hp) t = some (.tup [.int (1 + dd), .ref wl]) := upd_same
        generalize upd G2 t (.tup [.int (1 + dd), .ref wl]) = G3 at *
        have eD3 := s3 _ _ eD2
        have l3 : ∀ q, (q = p ∨ q = D) → LstAt G3 q := fun q h => by
          obtain ⟨xs, e⟩ := l2 q h
          exact ⟨xs, s3 _ _ e⟩
        have k23 : ButN (fun q => q = p ∨ q = D) G2 G3 := ButN.same l2 s3
        have k34 : ButN (fun q => q = p ∨ q = D) G3 (upd G3 D (.lst (ts.map V.ref ++ [.ref t]))) := ButN.put l3 (.inr rfl)
        refine ⟨_, eD3, (by rw [List.length_map, hts.len, lt]; exact Nat.lt_of_lt_of_le hi (show 59 ≤ sizeLine by decide)), ts ++ [t], told ++ [(some (1 + dd), ws)], z3, by rw [List.map_append]; exact upd_same, (hts.mono fun t x _ _ r => r.but (k02.trans (k23.trans k34))).snoc ⟨wl, k34.tup et, pn.but (k23.trans k34)⟩, by rw [List.length_append, lt]; rfl, dh.snoc (by omega) (by omega) lw1 lw2 hpw, ?_, o0, by omega, fun b o hb e => ?_⟩
        · obtain ⟨x', y', e, u, v⟩ := wB
          exact ⟨x', y', by rw [upd_ne (Ne.symm nD)]; exact s3 _ _ e, u, v⟩
        · rw [upd_ne (ne_of_none e hD)]
          exact s3 _ _ (bB b o hb (bA b o hb (bM b o hb e)))
      · rintro M ⟨ts, told, zz, eD, hts, lt, dh, wz, y0, y1, bM⟩
        refine ⟨_, rfl, p, zz, 3, 0, rfl, wz, y0, by omega, by decide, by decide, by decide, by decide, fun G2 wl ws z3 bB hwl nwl wB o0 o1 pw lw1 lw2 hpw => ?_⟩
        have eD2 := bB D _ nD eD
        have l1 : ∀ q, (q = p ∨ q = D) → LstAt M q := fun q h => h.elim (fun h => by rw [h]; exact wz.lst) (fun h => by rw [h]; exact ⟨_, eD⟩)
        have l2 : ∀ q, (q = p ∨ q = D) → LstAt G2 q := fun q h => h.elim (fun h => by rw [h]; exact wB.lst) (fun h => by rw [h]; exact ⟨_, eD2⟩)
        have k12 : ButN (fun q => q = p ∨ q = D) M G2 := ButN.but l1 (.inl rfl) bB
        have nwD : wl ≠ D := fun e => by rw [e, eD] at hwl; cases hwl
        have pn : PrsN (fun q => q = p ∨ q = D) G2 wl ws := pw.prsN (fun h => h.elim nwl nwD)
        refine ⟨(by show 2 ≤ sizeLine; decide), fun t ht => ⟨(by show 1 ≤ sizeLine; decide), fun B hB => ?_⟩⟩
        have s3 : Same G2 (upd G2 t (.tup [.non, .ref wl])) := same1 ht
        have et : (upd G2 t (.tup [.non, .ref wl]) : Hp) t = some (.tup [.non, .ref wl]) := upd_same
        generalize upd G2 t (.tup [.non, .ref wl]) = G3 at *
        have s4 : Same G3 (upd G3 B (.lst [.ref t])) := same1 hB
        have eB : (upd G3 B (.lst [.ref t]) : Hp) B = some (.lst [.ref t]) := upd_same
        generalize upd G3 B (.lst [.ref t]) = G4 at *
        have eD4 := s4 _ _ (s3 _ _ eD2)
        refine ⟨D, B, _, _, rfl, rfl, eD4, eB, (by rw [List.length_map, hts.len, lt]; show 59 + 1 ≤ sizeLine; decide), fun R hR => ?_⟩
        have s5 : Same G4 (upd G4 R (.lst (ts.map V.ref ++ [.ref t]))) := same1 hR
        have eR : (upd G4 R (.lst (ts.map V.ref ++ [.ref t])) : Hp) R = some (.lst (ts.map V.ref ++ [.ref t])) := upd_same
        generalize upd G4 R (.lst (ts.map V.ref ++ [.ref t])) = G5 at *
        have s25 := s3.trans (s4.trans s5)
        have k25 : ButN (fun q => q = p ∨ q = D) G2 G5 := ButN.same l2 s25
        have all : All2 (StN (fun q => q = p ∨ q = D) G5) (ts ++ [t]) (told ++ [(none, ws)]) := (hts.mono fun t x _ _ r => r.but (k12.trans k25)).snoc ⟨wl, s5 _ _ (s4 _ _ et), pn.but k25⟩
        refine kq G5 R (told ++ [(none, ws)]) z3 (bt.trans (bM.trans (bB.trans (same_but s25)))) (wB.same s25) o0 (by omega) ⟨wne ((wB.same s3).same s4) hR, ts ++ [t], by rw [List.map_append]; exact eR, all.mono fun t x _ _ r => r.less (fun q h => .inl h)⟩ (dh.told (by omega) lw1 lw2 hpw)
    · refine ⟨_, rfl, by decide, by decide, fun D hD => ?_⟩
      have nD := wne wa hD
      refine lc_range (lo := 0) (n := 60) (fun i M => ∃ (qs : List Addr) (ws : W2) (zz : Int), M D = some (.lst (qs.map V.ref)) ∧ All2 (PrAt M) qs ws ∧ ws.length = i ∧ (∀ y ∈ ws, POk y) ∧ WellAt M p zz ∧ 0 ≤ zz ∧ zz ≤ za + (i : Int) ∧ But p H1 M) ?_ ?_ ?_
      · exact ⟨[], [], za, upd_same, .nil, rfl, (fun y h => nomatch h), wa.same (same1 hD), a0, by omega, same_but (same1 hD)⟩
      · rintro i M hi ⟨qs, ws, zz, eD, hqs, lw, hws, wz, y0, y1, bM⟩
        refine ⟨rfl, ?_⟩
        refine ⟨_, rfl, p, 5, zz, rfl, wz, by decide, by decide, y0, by omega, fun M1 da z2 bA wA n0 n1 da0 da1 => ?_⟩
        refine ⟨_, _, rfl, rfl, _, rfl, _, _, rfl, rfl, (by show (0 : Int) < 2; decide), _, _, rfl, rfl, ?_⟩
        have m0 := Int.emod_nonneg (0 + (i : Int)) (show (2 : Int) ≠ 0 by decide)
        have m1 := Int.emod_lt_of_pos (0 + (i : Int)) (show (0 : Int) < 2 by decide)
        refine ⟨da - 2, 1 + (0 + (i : Int)) % 2, rfl, by omega, Nat.lt_of_lt_of_le (show (da - 2).natAbs < 2 ^ 20 by omega) (Nat.pow_le_pow_right (by decide) (by decide)), Nat.lt_of_lt_of_le (show (1 + (0 + (i : Int)) % 2).natAbs < 2 ^ 20 by omega) (Nat.pow_le_pow_right (by decide) (by decide)), fun q hq => ?_⟩
        have ok := low_ok (t := da - 2) (b := 1 + (0 + (i : Int)) % 2) (by omega) (by omega) (by omega)
        have eD2 := bA D _ nD eD
        have s3 : Same M1 (upd M1 q (.tup [.int (lowT (da - 2) (1 + (0 + (i : Int)) % 2)), .int (lowB (da - 2) (1 + (0 + (i : Int)) % 2))])) := same1 hq
        have eq : PrAt (upd M1 q (.tup [.int (lowT (da - 2) (1 + (0 + (i : Int)) % 2)), .int (lowB (da - 2) (1 + (0 + (i : Int)) % 2))])) q (lowT (da - 2) (1 + (0 + (i : Int)) % 2), lowB (da - 2) (1 + (0 + (i : Int)) % 2)) := upd_same
        generalize lowT (da - 2) (1 + (0 + (i : Int)) % 2) = lt at *
        generalize lowB (da - 2) (1 + (0 + (i : Int)) % 2) = lb at *
        generalize upd M1 q (.tup [.int lt, .int lb]) = M3 at *
        have eD3 := s3 _ _ eD2
        have k13 : ButN (· = p) M M3 := (ButN.but (N := (· = p)) (fun q h => by have h : q = p := h; rw [h]; exact wz.lst) rfl bA).trans (ButN.same (N := (· = p)) (fun q h => by have h : q = p := h; rw [h]; exact wA.lst) s3)
        refine ⟨_, eD3, (by rw [List.length_map, hqs.len, lw]; exact Nat.lt_of_lt_of_le hi (show 60 ≤ sizeLine by decide)), qs ++ [q], ws ++ [(lt, lb)], z2, by rw [List.map_append]; exact upd_same, (hqs.mono fun a y _ _ r => pr_put ⟨_, eD3⟩ a y (k13.tup r)).snoc (pr_put ⟨_, eD3⟩ _ _ eq), by rw [List.length_append, lw]; rfl, fun y hy => ?_, ?_, n0, by omega, fun b o hb e => ?_⟩
        · rcases List.mem_append.mp hy with h | h
          · exact hws y h
          · rw [List.mem_singleton.mp h]
            exact ok
        · obtain ⟨x', y', e, u, v⟩ := wA
          exact ⟨x', y', by rw [upd_ne (Ne.symm nD)]; exact s3 _ _ e, u, v⟩
        · rw [upd_ne (ne_of_none e hD)]
          exact s3 _ _ (bA b o hb (bM b o hb e))
      · rintro M ⟨qs, ws, zz, eD, hqs, lw, hws, wz, y0, y1, bM⟩
        refine ⟨_, rfl, _, _, rfl, rfl, ⟨by decide, by decide, by decide⟩, p, _, zz, rfl, wz, by decide, by decide, y0, by omega, fun G1 dd z2 bA wA n0 n1 d0' d1' => ?_⟩
        have d1' : dd < 1000000000000 := d1'
        have eD1 := bA D _ nD eD
        have k1 : ButN (· = p) M G1 := ButN.but (N := (· = p)) (fun q h => by have h : q = p := h; rw [h]; exact wz.lst) rfl bA
        have hqs := hqs.mono (fun a y _ _ (r : PrAt M a y) => (k1.tup r : PrAt G1 a y))
        refine ⟨_, _, rfl, rfl, _, rfl, (by show 2 ≤ sizeLine; decide), fun t ht => ?_⟩
        have s2 : Same G1 (upd G1 t (.tup [.int (1 + dd), .ref D])) := same1 ht
        have et : (upd G1 t (.tup [.int (1 + dd), .ref D]) : Hp) t = some (.tup [.int (1 + dd), .ref D]) := upd_same
        generalize upd G1 t (.tup [.int (1 + dd), .ref D]) = G2 at *
        refine ⟨_, rfl, D, _, rfl, SqL.of (s2 _ _ eD1), fun R hR => ?_⟩
        have s3 : Same G2 (upd G2 R (.lst (qs.map V.ref).reverse)) := same1 hR
        have eR : (upd G2 R (.lst (qs.map V.ref).reverse) : Hp) R = some (.lst (qs.reverse.map V.ref)) := by rw [upd_same, List.map_reverse]
        have nR := wne (wA.same s2) hR
        generalize upd G2 R (.lst (qs.map V.ref).reverse) = G3 at *
        refine ⟨(by show 2 ≤ sizeLine; decide), fun t2 ht2 => ⟨(by show 2 ≤ sizeLine; decide), fun L hL => ?_⟩⟩
        have s4 : Same G3 (upd G3 t2 (.tup [.non, .ref R])) := same1 ht2
        have et2 : (upd G3 t2 (.tup [.non, .ref R]) : Hp) t2 = some (.tup [.non, .ref R]) := upd_same
        generalize upd G3 t2 (.tup [.non, .ref R]) = G4 at *
        have s5 : Same G4 (upd G4 L (.lst [.ref t, .ref t2])) := same1 hL
        have eL : (upd G4 L (.lst [.ref t, .ref t2]) : Hp) L = some (.lst ([t, t2].map V.ref)) := upd_same
        have nL := wne (((wA.same s2).same s3).same s4) hL
        generalize upd G4 L (.lst [.ref t, .ref t2]) = G5 at *
        have s15 := s2.trans (s3.trans (s4.trans s5))
        have h5 := hqs.mono (fun a y _ _ (r : PrAt G1 a y) => (s15 _ _ r : PrAt G5 a y))
        have all : All2 (StN (· = p) G5) [t, t2] [(some (1 + dd), ws), (none, ws.reverse)] := All2.two ⟨D, s5 _ _ (s4 _ _ (s3 _ _ et)), nD, qs, s15 _ _ eD1, h5⟩ ⟨R, s5 _ _ et2, nR, qs.reverse, s5 _ _ (s4 _ _ eR), h5.rev⟩
        have dt : DTold ([(some (1 + dd), ws)] ++ [(none, ws.reverse)]) := (DHead.nil.snoc (n := 1 + dd) (by omega) (by omega) (by omega) (by omega) hws).told (by show 1 ≤ 59; decide) (by rw [List.length_reverse]; omega) (by rw [List.length_reverse]; omega) (fun y hy => hws y (List.mem_reverse.mp hy))
        exact kq G5 L _ z2 (bt.trans (bM.trans (bA.trans (same_but s15)))) (wA.same s15) n0 (by omega) ⟨nL, [t, t2], eL, all⟩ dt
end
end K10

namespace K10
open PySem PySem.Spec PyProof.Rows L2
def DayOk (d : Int) : Prop := 0 ≤ d ∧ d ≤ 1000000000000000
def spSpots : Sp := fun vs H Q _ => ∃ (p l : Addr) (z : Int) (told : List (Option Int × W2)), vs = [.ref p, .ref l] ∧ WellAt H p z ∧ 0 ≤ z ∧ z < 2 ^ 28 ∧ TolN (· = p) H l told ∧ DTold told ∧
  ∀ (H' : Hp) (L : Addr) (ds : List Int) (z' : Int), But p H H' → WellAt H' p z' → 0 ≤ z' → z' ≤ z + 10 → H' L = some (.lst (ds.map V.int)) → L ≠ p → (∀ d ∈ ds, DayOk d) → Q (.ref L) H'
section
variable {P : Program} {w : World} {K : PySem.W.Frag} {mg : Str → Option Value} {base : Heap}
abbrev spotN : List Str := ["well", "told", "found", "at", "days", "word"]
theorem scSpots : FnScope spotN ["well", "told"] (defScope d_law_spots) := ⟨rfl, rfl, rfl, by decide +kernel, rfl, by decide +kernel, by decide +kernel⟩
theorem ok_spots {f fD : Addr} {fd fdD : FuncData} (F : Fun K "_law_spots" "_law_spots" d_law_spots f fd) (hmax : mg "max" = none)
    (GD : FnOk P w K mg base CX0 1 fD fdD ["well", "many"] spDraw) (mD : mg "_law_draw" = some (.ref fD)) (kD : PySem.W.keepIn K (.ref fD) = true) (bD : Binds K fdD ["well", "many"] []) :
    FnOk P w K mg base CX0 2 f fd ["well", "told"] spSpots := by
  refine F.ok scSpots (fun vs H Q E h => ?_) (fun cdv A outer s H vs Q E hr h => ?_)
  · obtain ⟨p, l, _, _, rfl, _⟩ := h
    rfl
  · obtain ⟨p, l, z, told, rfl, hp, z0, z1, tl, dt, kq⟩ := h
    refine ⟨_, pss_cons (ps_set (i := 2) scSpots.nd rfl (Or.inl rfl) (pe_lst (pa_cons pe_int (pa_cons pe_int (pa_cons (pe_op op_pow pe_int pe_int) (pa_cons (pe_call GD hr rfl mD kD bD .nil pass0 (pa_cons (pv 0) (pa_cons (pe_op op_add (pe_op op_pow pe_int pe_int) pe_int) pa_nil))) (pa_cons (pe_call GD hr rfl mD kD bD .nil pass0 (pa_cons (pv 0) (pa_cons pe_int pa_nil))) pa_nil)))))))
      (pss_cons (ps_set (i := 3) scSpots.nd rfl (Or.inl rfl) pe_int)
      (pss_cons (ps_for PassesOwn.never rfl (pi_list (pe_slice sl_list (pv 1) po_none (po_some pe_int))) (pg_tup (by rfl) (pgs_cons (pg_name (i := 4) scSpots.nd rfl (.inl rfl)) (pgs_cons (pg_name (i := 5) scSpots.nd rfl (.inl rfl)) pgs_nil)))
        (pss_one (ps_if (pt_cmp (pc_notN (pv 4)))
          (pss_cons (ps_set (i := 3) scSpots.nd rfl (Or.inl rfl) (pe_op op_add (pv 3) (pv 4)))
          (pss_one (ps_set (i := 2) scSpots.nd rfl (Or.inl rfl) (pe_op op_cat (pv 2) (pe_lst (pa_cons (pe_callB (call_max2 rfl) (by rfl) hmax (by decide +kernel) (pa_cons pe_int (pa_cons (pe_op op_sub (pv 3) pe_int) pa_nil))) (pa_cons (pv 3) (pa_cons (pe_op op_add (pv 3) pe_int) (pa_cons (pe_op op_add (pv 3) (pe_call GD hr rfl mD kD bD .nil pass0 (pa_cons (pv 0) (pa_cons pe_int pa_nil)))) pa_nil))))))))) pss_nil)))
      (pss_one (ps_ret (pv 2))))), ?_⟩
    have wne : ∀ {G : Hp} {q : Addr} {zz : Int}, WellAt G p zz → G q = none → q ≠ p := fun {G q zz} h hq e => by
      obtain ⟨_, _, e1, _⟩ := h
      rw [e, e1] at hq
      cases hq
    refine ⟨_, _, rfl, rfl, ⟨by decide, by decide, by decide⟩, ?_⟩
    refine ⟨_, rfl, _, _, rfl, rfl, ⟨by decide, by decide, by decide⟩, _, _, rfl, rfl, p, _, z, rfl, hp, by decide, by decide, z0, by omega, fun H1 d1 za bA wA a0 a1 d10 d11 => ?_⟩
    refine ⟨_, rfl, p, 99, za, rfl, wA, by decide, by decide, a0, by omega, fun H2 d2 zb bB wB b0 b1 d20 d21 => ?_⟩
    have d11 : d1 < 1000000000000001 := d11
    refine ⟨(by show 5 ≤ sizeLine; decide), fun F hF => ?_⟩
    have nF := wne wB hF
    have s3 : Same H2 (upd H2 F (.lst [.int 0, .int 1, .int (10 ^ (15 : Int).toNat), .int d1, .int d2])) := same1 hF
    have eF : (upd H2 F (.lst [.int 0, .int 1, .int (10 ^ (15 : Int).toNat), .int d1, .int d2]) : Hp) F = some (.lst ([0, 1, 1000000000000000, d1, d2].map V.int)) := upd_same
    have l0 : ∀ q, q = p → LstAt H q := fun q h => by rw [h]; exact hp.lst
    have l1 : ∀ q, q = p → LstAt H1 q := fun q h => by rw [h]; exact wA.lst
    have l2 : ∀ q, q = p → LstAt H2 q := fun q h => by rw [h]; exact wB.lst
    have k02 : ButN (· = p) H H2 := (ButN.but (N := (· = p)) l0 rfl bA).trans (ButN.but (N := (· = p)) l1 rfl bB)
    obtain ⟨nl, ts, el, hts⟩ := tl.but k02
    have lt : ts.length = told.length := hts.len
    refine ⟨_, rfl, _, rfl, l, _, rfl, SqL.of (s3 _ _ el), fun B hB => ?_⟩
    rw [show cutV (ts.map V.ref) none (some 5) = (ts.take 5).map V.ref from by
      have := cut_to (xs := ts.map V.ref) (n := 5)
      rw [← List.map_take] at this
      exact this] at *
    have s4 : Same H2 (upd (upd H2 F (.lst [.int 0, .int 1, .int (10 ^ (15 : Int).toNat), .int d1, .int d2])) B (.lst ((ts.take 5).map V.ref))) := s3.trans (same1 hB)
    have eB : (upd (upd H2 F (.lst [.int 0, .int 1, .int (10 ^ (15 : Int).toNat), .int d1, .int d2])) B (.lst ((ts.take 5).map V.ref)) : Hp) B = some (.lst ((ts.take 5).map V.ref)) := upd_same
    have nB := wne (wB.same s3) hB
    have BF : F ≠ B := fun e => by rw [← e, eF] at hB; cases hB
    have eF4 : (upd (upd H2 F (.lst [.int 0, .int 1, .int (10 ^ (15 : Int).toNat), .int d1, .int d2])) B (.lst ((ts.take 5).map V.ref)) : Hp) F = some (.lst ([0, 1, 1000000000000000, d1, d2].map V.int)) := by rw [upd_ne BF]; exact eF
    refine ⟨B, rfl, ⟨_, SqL.of eB⟩, ?_⟩
    refine for_list (K := K) (a := B) (xs := (ts.take 5).map V.ref) (fun i σ G => ∃ (R : Addr) (ds : List Int) (at_ zz : Int) (v4 v5 : Option V), σ = [some (.ref p), some (.ref l), some (.ref R), some (.int at_), v4, v5] ∧ G R = some (.lst (ds.map V.int)) ∧ R ≠ p ∧ (∀ d ∈ ds, DayOk d) ∧ ds.length ≤ 5 + 4 * i ∧ 0 ≤ at_ ∧ at_ ≤ 1000000000000 * (i : Int) ∧
      WellAt G p zz ∧ 0 ≤ zz ∧ zz ≤ zb + (i : Int) ∧ But p H2 G ∧ G B = some (.lst ((ts.take 5).map V.ref)))
      ⟨F, _, 0, zb, _, _, rfl, eF4, nF, ?_, (by simp), Int.le_refl _, Int.le_refl _, wB.same s4, b0, (by show zb ≤ zb + 0; omega), same_but s4, eB⟩ ?_ ?_ ?_
    · intro d hd
      simp only [List.mem_cons, List.not_mem_nil, or_false] at hd
      rcases hd with h | h | h | h | h <;> subst h
      · exact ⟨by decide, by decide⟩
      · exact ⟨by decide, by decide⟩
      · exact ⟨by decide, by decide⟩
      · exact ⟨d10, by omega⟩
      · exact ⟨d20, by omega⟩
    · rintro i σ G _ ⟨_, _, _, _, _, _, _, _, _, _, _, _, _, _, _, _, _, gB⟩
      exact SqL.of gB
    · rintro i x σ G hx ⟨R, ds, at_, zz, v4, v5, rfl, gR, nR, hds, ld, t0, t1, wz, y0, y1, bG, gB⟩
      rw [List.getElem?_map] at hx
      obtain ⟨t, ht, rfl⟩ := Option.map_eq_some_iff.mp hx
      have i5 : i < 5 := by
        have := (List.getElem?_eq_some_iff.mp ht).1
        rw [List.length_take] at this
        omega
      rw [List.getElem?_take_of_lt i5] at ht
      have il : i < told.length := by
        have := (List.getElem?_eq_some_iff.mp ht).1
        omega
      have hxi : told[i]? = some told[i] := List.getElem?_eq_getElem il
      have far := dt.far _ (List.mem_of_getElem? hxi)
      have pos := fun n e => dt.ok.days i _ n hxi e
      have k2G : ButN (· = p) H2 G := ButN.but (N := (· = p)) l2 rfl bG
      obtain ⟨wl, et, _⟩ := (hts.all i t _ ht hxi).but k2G
      generalize told[i] = y at *
      obtain ⟨dd, ws⟩ := y
      refine ⟨t, _, rfl, SqT.of et, rfl, _, _, rfl, _, _, rfl, rfl, _, rfl, _, rfl, ?_⟩
      cases dd with
      | none => exact iteN (decide_eq_true rfl) ⟨R, ds, at_, zz, _, _, rfl, gR, nR, hds, by omega, t0, by omega, wz, y0, by omega, bG, gB⟩
      | some n =>
        have f1 := far n rfl
        have f0 := pos n rfl
        show if (!decide (V.int n = V.non)) = true then _ else _
        rw [decide_eq_false (fun z => nomatch z)]
        refine iteT ?_
        refine ⟨_, rfl, _, rfl, _, _, rfl, rfl, ?_⟩
        refine ⟨_, rfl, _, rfl, _, _, rfl, rfl, _, _, rfl, _, rfl, _, rfl, _, _, rfl, rfl, _, rfl, _, rfl, p, 40, zz, rfl, wz, by decide, by decide, y0, by omega, fun G1 da z2 bC wC c0 c1 da0 da1 => ?_⟩
        refine ⟨_, _, rfl, rfl, (by show 4 ≤ sizeLine; decide), fun A2 hA2 => ?_⟩
        have nA := wne wC hA2
        have gR1 := bC R _ nR gR
        have s5 : Same G1 (upd G1 A2 (.lst [.int (if at_ + n - 1 > 0 then at_ + n - 1 else 0), .int (at_ + n), .int (at_ + n + 1), .int (at_ + n + da)])) := same1 hA2
        have eA : (upd G1 A2 (.lst [.int (if at_ + n - 1 > 0 then at_ + n - 1 else 0), .int (at_ + n), .int (at_ + n + 1), .int (at_ + n + da)]) : Hp) A2 = some (.lst ([if at_ + n - 1 > 0 then at_ + n - 1 else 0, at_ + n, at_ + n + 1, at_ + n + da].map V.int)) := upd_same
        refine ⟨R, A2, _, _, rfl, rfl, s5 _ _ gR1, upd_same, ?_, fun R2 hR2 => ?_⟩
        · rw [List.length_map]
          exact Nat.le_trans (show ds.length + 4 ≤ 100 by omega) (show 100 ≤ sizeLine by decide)
        have s6 := s5.trans (same1 (o := .lst (ds.map V.int ++ [.int (if at_ + n - 1 > 0 then at_ + n - 1 else 0), .int (at_ + n), .int (at_ + n + 1), .int (at_ + n + da)])) hR2)
        refine ⟨R2, ds ++ [if at_ + n - 1 > 0 then at_ + n - 1 else 0, at_ + n, at_ + n + 1, at_ + n + da], at_ + n, z2, _, _, rfl, by rw [List.map_append]; exact upd_same, wne (wC.same s5) hR2, fun d hd => ?_, by rw [List.length_append]; simp; omega, by omega, by omega, wC.same s6, c0, by omega, bG.trans (bC.trans (same_but s6)), s6 _ _ (bC B _ nB gB)⟩
        rcases List.mem_append.mp hd with h | h
        · exact hds d h
        · simp only [List.mem_cons, List.not_mem_nil, or_false] at h
          rcases h with h | h | h | h <;> subst h
          · refine ⟨?_, ?_⟩ <;> split <;> omega
          · exact ⟨by omega, by omega⟩
          · exact ⟨by omega, by omega⟩
          · exact ⟨by omega, by omega⟩
    · rintro σ G ⟨R, ds, at_, zz, v4, v5, rfl, gR, nR, hds, ld, t0, t1, wz, y0, y1, bG, gB⟩
      refine ⟨_, rfl, kq G R ds zz (bA.trans (bB.trans bG)) wz y0 ?_ gR nR hds⟩
      have : ((ts.take 5).map V.ref).length ≤ 5 := by rw [List.length_map, List.length_take]; omega
      omega
end
end K10

namespace K10
open PySem PySem.Spec PyProof.Rows L2 LamX
/-! ### a lambda that is refused -/
/-- an error of the class at S is what «except S» names -/
theorem exm_own {K : PySem.W.Frag} {S : Addr} (h1 : PySem.W.subIn K (.ref S) (.type "BaseException") = some true) (h2 : PySem.W.isClsIn K S = true) (h3 : PySem.W.typeIn K (.ref S) = some (.type "type")) (h4 : PySem.W.subIn K (.ref S) (.ref S) = some true) :
    PySem.W.exmOne K (.ref S) (.ref S) = some true := by
  have a : (PySem.W.subIn K (.ref S) (.type "BaseException") == some true) = true := by rw [h1] <;> rfl
  have b : ((PySem.W.clsIn K S).isSome && PySem.W.typeIn K (.ref S) == some (.type "type")) = true := by
    rw [show (PySem.W.clsIn K S).isSome = true from h2, h3] <;> rfl
  show (if (PySem.W.subIn K (.ref S) (.type "BaseException") == some true) = true then (if ((PySem.W.clsIn K S).isSome && PySem.W.typeIn K (.ref S) == some (.type "type")) = true then PySem.W.subIn K (.ref S) (.ref S) else none) else none) = some true
  rw [if_pos a, if_pos b]
  exact h4
/-- the call raises the one error, and the answer is True -/
def TRef (CD : Addr) : (XK → Hp → VK → Prop) → Hp → VK → Prop := fun tl H Q => tl (fun cls _ H' => cls = .ref CD ∧ Q (.bl true) H') H (fun _ H' => Q (.bl false) H')
theorem refused_gives {X : Cx} {Ng : List Str} {x a e r q : Str} {sg : Scope} {g CD CR : Addr} {cdg : Value} {p1 p2 p3 p4 p5 p6 p7 p8 p9 p10 p11 p12 p13 p14 : Pos} (hge : sg.names.lookup e = some .globalImplicit) (hme : X.mg e = some (.ref CD)) (hde : (e == ("__debug__" : Str)) = false)
    (hgr : sg.names.lookup r = some .globalImplicit) (hmr : X.mg r = some (.ref CR)) (hdr : (r == ("__debug__" : Str)) = false) (hx : PySem.W.exmOne X.K (.ref CD) (.ref CD) = some true) (h0 : ∀ f : Addr, (L2.start Ng [V.ref f])[0]? = some (some (V.ref f))) :
    GivesTo X Ng x sg g cdg [.Try [.Expr (.Call (.Name a p1) [] [] p2) p3] [.ExceptHandler (some (.Name e p4)) none [.Return (some (.Constant (.bool true) 0 p5)) p6] p7, .ExceptHandler (some (.Name r p8)) none [.Return (some (.Constant (.bool false) 0 p9)) p10] p11] [] [] p12, .Return (some (.Constant (.bool false) 0 p13)) p14] a q (TRef CD) := by
  intro f c' s H Q tl act hc h
  have hgl : Gl (cxOf C8.CX0 X.prog X.w X.K X.mg X.base Ng x sg g cdg X.A X.stack s H C8.E0).nox e := hge
  have hgr' : Gl (cxOf C8.CX0 X.prog X.w X.K X.mg X.base Ng x sg g cdg X.A X.stack s H C8.E0).nox r := hgr
  refine ⟨_, pss_cons (ps_try_many (X := (cxOf C8.CX0 X.prog X.w X.K X.mg X.base Ng x sg g cdg X.A X.stack s H C8.E0).nox)
      (tb := fun W D σ H => ∃ Ech : XK, (∀ cls d σ' H', Ech cls d H' → W cls d σ' H') ∧ σ[0]? = some (some (.ref f)) ∧ H c' = some (CodeO c' q) ∧ tl Ech H (fun _ H' => D.nx σ H'))
      rfl rfl takes_none5 (fun W pn xe tk _ => ?_) (HdsOk.cons (c := .ref CD) ⟨hgl, hde, .inl hme⟩ (fun a oe cls d pn _ _ => pss_one (ps_ret pe_bl)) (HdsOk.cons (c := .ref CR) ⟨hgr', hdr, .inl hmr⟩ (fun a oe cls d pn _ _ => pss_one (ps_ret pe_bl)) .nil))) (pss_one (ps_ret pe_bl)), ?_⟩
  · refine ⟨fun pins s' σ H' D I h' => ?_⟩
    obtain ⟨Ech, hW, h1, h2, h3⟩ := h'
    have hp := act W pn xe Ech p1 p2 tk hW
    have hq := pss_one (ps_expr (pos := p3) hp)
    exact hq.run pins s' σ H' D I ⟨h1, h2, h3⟩
  · exact ⟨fun cls d H' => cls = .ref CD ∧ Q (.bl true) H', fun cls d σ' H' ⟨e, q⟩ => ⟨true, by rw [e]; exact hx, fun _ a _ => q, fun z => nomatch z⟩, h0 f, hc, h⟩
/-! ### what stays while code tables grow -/
def Code1 (P : Addr) (q : Str) (H : Hp) : Prop := Tabs [(P, q)] H
theorem Code1.same {P : Addr} {q : Str} {H H' : Hp} (t : Code1 P q H) (s : Same H H') : Code1 P q H' := Tabs.ext t s
theorem Code1.but {P p : Addr} {q : Str} {H H' : Hp} (t : Code1 P q H) (l : LstAt H p) (b : But p H H') : Code1 P q H' := fun x hx => by
  obtain ⟨ps, h1, h2, h3⟩ := t x hx
  obtain ⟨xs, el⟩ := l
  refine ⟨ps, b _ _ (fun z => by rw [z, el] at h1; cases h1) h1, h2, fun pos cv hc => ?_⟩
  obtain ⟨c, e1, e2⟩ := h3 pos cv hc
  refine ⟨c, e1, b _ _ (fun z => ?_) e2⟩
  rw [z, el] at e2
  exact nomatch Option.some.inj e2
theorem ext_tup {K : PySem.W.Frag} {H H' : Hp} {a : Addr} {xs : List V} (k : ExtN H H') (h : SqT K H a xs) : SqT K H' a xs :=
  h.elim (fun h => .inl (h.elim (fun h => .inl (k _ _ h (fun _ z => nomatch z))) fun ⟨o, h⟩ => .inr ⟨o, k _ _ h (fun _ z => nomatch z)⟩)) fun h => .inr h
theorem ext_seq {K : PySem.W.Frag} {H H' : Hp} {a : Addr} {xs : List V} (k : ExtN H H') (h : SqL K H a xs) : SqL K H' a xs :=
  h.elim (fun h => .inl (h.elim (fun h => .inl (k _ _ h (fun _ z => nomatch z))) fun ⟨o, h⟩ => .inr ⟨o, k _ _ h (fun _ z => nomatch z)⟩)) fun h => .inr h
theorem ext_all {C : Addr} {H H' : Hp} {ps : List Addr} {ws : W2} (k : ExtN H H') (h : ShAll C H ps ws) : ShAll C H' ps ws := ⟨h.1, fun i p x a b => by
  obtain ⟨dx, e⟩ := h.2 i p x a b
  exact ⟨dx, k _ _ e (fun _ z => nomatch z)⟩⟩
theorem ext_crs {K : PySem.W.Frag} {C CC : Addr} {H H' : Hp} {c : Addr} {told : List (Option Int × W2)} (k : ExtN H H') (h : CourseAt K C CC H c told) : CourseAt K C CC H' c told := by
  obtain ⟨dx, l, ss, a, b, e, g, t⟩ := h
  refine ⟨dx, l, ss, k _ _ a (fun _ z => nomatch z), ext_seq k b, e, fun i x hx => ?_, t⟩
  obtain ⟨y, e, wa, a, ps, b, c⟩ := g i x hx
  exact ⟨y, e, wa, ext_tup k a, ps, ext_tup k b, ext_all k c⟩
theorem But.crs {K : PySem.W.Frag} {C CC p : Addr} {z : Int} {H H' : Hp} {c : Addr} {told : List (Option Int × W2)} (w : WellAt H p z) (k : But p H H') (h : CourseAt K C CC H c told) : CourseAt K C CC H' c told := by
  obtain ⟨wx, wy, ez, _⟩ := w
  have nt : ∀ {b o}, H b = some o → (∀ xs, o ≠ .lst xs) → H' b = some o := fun {b o} e n => k b o (fun z => by rw [z, ez] at e; exact n _ (Option.some.inj e).symm) e
  have tup : ∀ {a : Addr} {xs : List V}, SqT K H a xs → SqT K H' a xs := fun {a xs} h => h.elim (fun h => .inl (h.elim (fun h => .inl (nt h (fun _ z => nomatch z))) fun ⟨o, h⟩ => .inr ⟨o, nt h (fun _ z => nomatch z)⟩)) fun h => .inr h
  obtain ⟨dx, l, ss, a, b, e, g, t⟩ := h
  refine ⟨dx, l, ss, nt a (fun _ z => nomatch z), b.elim (fun h => .inl (h.elim (fun h => .inl (k _ _ (fun z => ?_) h)) fun ⟨o, h⟩ => .inr ⟨o, nt h (fun _ z => nomatch z)⟩)) fun h => .inr h, e, fun i x hx => ?_, t⟩
  · rw [z, ez] at h
    cases ss with
    | nil => cases h
    | cons s0 r => cases h
  obtain ⟨y, e, wa, a, ps, b, c1, c2⟩ := g i x hx
  refine ⟨y, e, wa, tup a, ps, tup b, c1, fun i p x h1 h2 => ?_⟩
  obtain ⟨dq, e⟩ := c2 i p x h1 h2
  exact ⟨dq, nt e (fun _ z => nomatch z)⟩
/-! ### sums stay small -/
theorem dayS_le {m B : Nat} {ws : W2} (h : ∀ y ∈ ws, (y.1 * ((m : Int) / y.2)).natAbs ≤ B) : ∀ x, (dayS m ws x).natAbs ≤ x * B
  | 0 => by simp [dayS]
  | x + 1 => by
    have ih := dayS_le h x
    show (dayS m ws x + match ws[x % ws.length]? with | some y => y.1 * ((m : Int) / y.2) | none => 0).natAbs ≤ (x + 1) * B
    rw [Nat.succ_mul]
    cases e : ws[x % ws.length]? with
    | none =>
      show (dayS m ws x + 0).natAbs ≤ _
      rw [Int.add_zero]
      omega
    | some y =>
      have := h y (List.mem_of_getElem? e)
      show (dayS m ws x + y.1 * ((m : Int) / y.2)).natAbs ≤ _
      have := Int.natAbs_add_le (dayS m ws x) (y.1 * ((m : Int) / y.2))
      omega
theorem sumV_le {m B : Nat} : ∀ (told : List (Option Int × W2)) (many : Int), 0 ≤ many → (∀ x ∈ told, ∀ y ∈ x.2, (y.1 * ((m : Int) / y.2)).natAbs ≤ B) → (∀ x ∈ told, ∀ n, x.1 = some n → 1 ≤ n) → (sumV m told many).natAbs ≤ many.toNat * B
  | [], _, _, _, _ => by simp [sumV]
  | (d, ws) :: r, many, h0, h1, h2 => by
    have a : (dayS m ws (hereD d many).toNat).natAbs ≤ (hereD d many).toNat * B := dayS_le (fun y hy => h1 (d, ws) (by simp) y hy) (hereD d many).toNat
    have hh : 0 ≤ hereD d many ∧ hereD d many ≤ many := by
      cases d with
      | none => exact ⟨h0, Int.le_refl _⟩
      | some n =>
        have := h2 (some n, ws) (by simp) n rfl
        show 0 ≤ (if n < many then n else many) ∧ (if n < many then n else many) ≤ many
        split <;> omega
    have b := sumV_le r (many - hereD d many) (by omega) (fun x hx => h1 x (by simp [hx])) (fun x hx => h2 x (by simp [hx]))
    show (dayS m ws (hereD d many).toNat + sumV m r (many - hereD d many)).natAbs ≤ _
    have c := Int.natAbs_add_le (dayS m ws (hereD d many).toNat) (sumV m r (many - hereD d many))
    have e : (hereD d many).toNat * B + (many - hereD d many).toNat * B = many.toNat * B := by
      rw [← Nat.add_mul]
      congr 1
      omega
    omega
theorem onV_mem : ∀ (told : List (Option Int × W2)) (day : Int) (x : Int × Int), onV told day = some x → ∃ s ∈ told, x ∈ s.2
  | [], _, _, h => nomatch h
  | (d, ws) :: r, day, x, h => by
    have g : ∀ {k : Nat}, ws[k]? = some x → ∃ s ∈ (d, ws) :: r, x ∈ s.2 := fun {k} e => ⟨(d, ws), by simp, List.mem_of_getElem? e⟩
    cases d with
    | none => exact g h
    | some n =>
      have h : (if day < n then ws[(day % (ws.length : Int)).toNat]? else onV r (day - n)) = some x := h
      split at h
      · exact g h
      · obtain ⟨s, hs, hx⟩ := onV_mem r (day - n) x h
        exact ⟨s, by simp [hs], hx⟩
theorem DTold.fr {told : List (Option Int × W2)} (h : DTold told) : FrTold told 6 := ⟨by decide, by decide, fun i x j y hx hy => by
  obtain ⟨a, b, c, d⟩ := h.prs x (List.mem_of_getElem? hx) y (List.mem_of_getElem? hy)
  exact ⟨a, b, pow_le c (by decide), d⟩⟩
theorem DTold.sum {told : List (Option Int × W2)} (h : DTold told) {day : Int} (d : 0 ≤ day ∧ day ≤ 1000000000000000) : (sumV 6 told day).natAbs < 2 ^ 80 := by
  have a := sumV_le (m := 6) (B := 2 ^ 23) told day d.1 (fun x hx y hy => by
    obtain ⟨y0, _, c, _⟩ := h.prs x hx y hy
    have e : (((6 : Nat) : Int) / y.2).natAbs ≤ 6 := by
      have q0 : 0 ≤ ((6 : Nat) : Int) / y.2 := Int.ediv_nonneg (by omega) (by omega)
      have q1 : ((6 : Nat) : Int) / y.2 ≤ ((6 : Nat) : Int) := Int.ediv_le_self _ (by omega)
      omega
    rw [Int.natAbs_mul, show (2 : Nat) ^ 23 = 2 ^ 20 * 8 from rfl]
    exact Nat.mul_le_mul (Nat.le_of_lt c) (by omega)) (fun x hx n e => by
    obtain ⟨i, hi⟩ := List.mem_iff_getElem?.mp hx
    exact h.ok.days i x n hi e)
  have b : day.toNat * 2 ^ 23 ≤ 2 ^ 50 * 2 ^ 23 := Nat.mul_le_mul_right _ (by omega)
  rw [← Nat.pow_add] at b
  exact Nat.lt_of_le_of_lt (Nat.le_trans a b) (Nat.pow_lt_pow_right (by decide) (by decide))
/-! ### what is no day -/
/-- what a share is, for isinstance -/
structure TxtK (K : PySem.W.Frag) (C : Addr) : Prop where
  ci : PySem.W.kitOne K (.ref C) (.type "int") = some false
  cb : PySem.W.kitOne K (.ref C) (.type "bool") = some false
/-- a thing that is no day -/
def NoDayV (K : PySem.W.Frag) (H : Hp) (v : V) : Prop := ∃ bi bb, Kind K H v bi bb ∧ ((∃ i, v = .int i ∧ bi = true ∧ bb = false ∧ ¬ (0 ≤ i ∧ i ≤ 1000000000000000)) ∨ (bi && !bb) = false)
theorem noDay_int {K : PySem.W.Frag} {H : Hp} {i : Int} (h : ¬ (0 ≤ i ∧ i ≤ 1000000000000000)) : NoDayV K H (.int i) := ⟨true, false, kind_int i, .inl ⟨i, rfl, rfl, rfl, h⟩⟩
theorem noDay_bl {K : PySem.W.Frag} {H : Hp} (b : Bool) : NoDayV K H (.bl b) := ⟨true, true, ⟨_, .base (.bl b), kit_ty (by decide +kernel), kit_ty (by decide +kernel)⟩, .inr rfl⟩
theorem noDay_non {K : PySem.W.Frag} {H : Hp} : NoDayV K H .non := ⟨false, false, ⟨_, .base .non, kit_ty (by decide +kernel), kit_ty (by decide +kernel)⟩, .inr rfl⟩
theorem noDay_str {K : PySem.W.Frag} {H : Hp} (x : Str) : NoDayV K H (.str x) := ⟨false, false, ⟨_, .base (.str x), kit_ty (by decide +kernel), kit_ty (by decide +kernel)⟩, .inr rfl⟩
theorem noDay_tup {K : PySem.W.Frag} {H : Hp} {a : Addr} {xs : List V} (e : H a = some (.tup xs)) : NoDayV K H (.ref a) := ⟨false, false, ⟨_, .base (.tup e), kit_ty (by decide +kernel), kit_ty (by decide +kernel)⟩, .inr rfl⟩
theorem noDay_sh {K : PySem.W.Frag} {mg : Str → Option Value} {C CN : Addr} {H : Hp} {p : Addr} {t b : Int} (T : Txt K mg C CN) (TI : TxtI K C) (TK : TxtK K C) (h : ShAt C H p t b) : NoDayV K H (.ref p) := by
  obtain ⟨dx, e⟩ := h
  exact ⟨false, false, ⟨_, .base (.ins e T.cl TI.ha TI.hn TI.htk TI.hm), TK.ci, TK.cb⟩, .inr rfl⟩
end K10

namespace K10
open PySem PySem.Spec PyProof.Rows L2 LamX
/-! ### the law -/
def lawQ : Str := ("law.<locals>.<lambda>" : Str)
def spLaw (K : PySem.W.Frag) (Pt : Addr) : Sp := fun vs H Q _ => ∃ (a : Addr) (ns : List Int), vs = [.ref a] ∧ SqL K H a (ns.map V.int) ∧ ns.length ≤ 63 ∧ Code1 Pt lawQ H ∧ ∀ H', Q (.bl true) H'
section
variable {P : Program} {w : World} {K : PySem.W.Frag} {mg : Str → Option Value} {base : Heap}
abbrev lawN : List Str := ["script", "cell", "well", "told", "course", "day", "odd"]
theorem scLaw : FnScope lawN ["script"] (defScope d_law) := ⟨rfl, rfl, rfl, by decide +kernel, rfl, by decide +kernel, by decide +kernel⟩
/-- a def at hand: its promise, its name, how it is called -/
structure At (P : Program) (w : World) (K : PySem.W.Frag) (mg : Str → Option Value) (base : Heap) (CX : CXT) (k : Nat) (x : Str) (ps : List Str) (sp : Sp) (f : Addr) (fd : FuncData) : Prop where
  G : FnOk P w K mg base CX k f fd ps sp
  m : mg x = some (.ref f)
  k : PySem.W.keepIn K (.ref f) = true
  b : Binds K fd ps []
theorem ok_law {fa f1 f2 f3 f4 f5 f6 f7 f8 f9 f10 f11 f12 fR fI C CN CC CD CR cc Pt : Addr} {fd1 fd2 fd3 fd4 fd5 fd6 fd7 fd8 fd9 fd10 fd11 fd12 fdI : FuncData} {kV doc pm ct oc : Value} {an od : Option Addr} {osl : Array (Option Value)} {kVR docR pmR cdR ctR ocR : Value} {anR odR : Option Addr} {oslR : Array (Option Value)} {u0 : Value}
    (lk : K.lookup fa = some ⟨oc, od, .func (PySem.W.fnOf "law" "law" (defArgs d_law) (defBody d_law) (defScope d_law) .none kV doc pm an (.ref cc) ct), osl⟩) (hcd : PySem.W.codeIn K (.ref cc) "law" = true)
    (T : Txt K mg C CN) (TI : TxtI K C) (TK : TxtK K C) (B : TxtB mg) (D : ErrC K mg "NoDay" CD) (hx : PySem.W.exmOne K (.ref CD) (.ref CD) = some true) (mR : mg "RillError" = some (.ref CR)) (TB : TabB base mg cc Pt)
    (lkR : K.lookup fR = some ⟨ocR, odR, .func (PySem.W.fnOf "_law_refused" "_law_refused" (defArgs d_law_refused) (defBody d_law_refused) (defScope d_law_refused) .none kVR docR pmR anR cdR ctR), oslR⟩) (hcR : PySem.W.codeIn K cdR "_law_refused" = true) (kR : PySem.W.keepIn K (.ref fR) = true) (mRf : mg "_law_refused" = some (.ref fR))
    (M : Mk K C fI) (GI : FnOk P w K mg base (L2.CX P w) 2 fI fdI ["self", "top", "bottom"] (spInit C CN)) (bI1 : Binds K fdI ["self", "top", "bottom"] [u0]) (vd : Vals [.int 1] [u0])
    (A1 : At P w K mg base CX0 1 "_law_well" ["cell"] spWell f1 fd1) (A2 : At P w K mg base CX0 4 "_law_stretches" ["well", "most", "word", "long", "far"] spLStr f2 fd2) (A3 : At P w K mg base CX0 2 "_law_one" ["well", "some"] (spOne K) f3 fd3)
    (A4 : At P w K mg base CX0 1 "_law_draw" ["well", "many"] spDraw f4 fd4) (A5 : At P w K mg base CX0 4 "_law_great" ["well"] spLGreat f5 fd5) (A6 : At P w K mg base CX0 7 "_law_course" ["told"] (spLCourse K C CC) f6 fd6)
    (A7 : At P w K mg base CX0 2 "_law_spots" ["well", "told"] spSpots f7 fd7) (A8 : At P w K mg base CX0 2 "_law_pair" ["share"] (spPair C) f8 fd8) (A9 : At P w K mg base (L2.CX P w) 4 "on" ["course", "day"] (spOn K C CC CD) f9 fd9)
    (A10 : At P w K mg base CX0 1 "_law_on" ["told", "day"] (spLOn K) f10 fd10) (A11 : At P w K mg base (L2.CX P w) 5 "sum_to" ["course", "days"] (spSumTo K C CC CD) f11 fd11) (A12 : At P w K mg base CX0 3 "_law_sum_to" ["told", "many"] (spLSumTo K) f12 fd12) :
    FnOk P w K mg base CX0 8 fa (PySem.W.fnOf "law" "law" (defArgs d_law) (defBody d_law) (defScope d_law) .none kV doc pm an (.ref cc) ct) ["script"] (spLaw K Pt) := by
  refine fn_of lk hcd scLaw (fun vs H Q E h => ?_) (fun A outer s H vs Q E hr h => ?_)
  · obtain ⟨a, _, rfl, _⟩ := h
    rfl
  · obtain ⟨a, ns, rfl, ha, nl, tb, kq⟩ := h
    have r1 : Room 1 _ := hr.mono (by decide)
    have r2 : Room 2 _ := hr.mono (by decide)
    have r3 : Room 3 _ := hr.mono (by decide)
    have r4 : Room 4 _ := hr.mono (by decide)
    have r5 : Room 5 _ := hr.mono (by decide)
    have bR : Binds K (PySem.W.fnOf "_law_refused" "_law_refused" (defArgs d_law_refused) (defBody d_law_refused) (defScope d_law_refused) .none kVR docR pmR anR cdR ctR) ["ask"] [] := .all (fun us hl => match us, hl with | [_], _ => rfl)
    have scR : FnScope ["ask"] ["ask"] (defScope d_law_refused) := ⟨rfl, rfl, rfl, by decide +kernel, rfl, by decide +kernel, by decide +kernel⟩
    refine ⟨_, PSs.nox (pss_cons (ps_for PassesOwn.never rfl (pi_list (pe_op op_cat (pe_slice sl_list (pv 0) po_none (po_some pe_int)) (pe_lst (pa_cons pe_int (pa_cons pe_int pa_nil))))) (pg_name (i := 1) scLaw.nd rfl (.inl rfl))
        (pss_cons (ps_set (i := 2) scLaw.nd rfl (Or.inl rfl) (pe_call A1.G r1 rfl A1.m A1.k A1.b .nil pass0 (pa_cons (pv 1) pa_nil)))
        (pss_cons (ps_set (i := 3) scLaw.nd rfl (Or.inl rfl) (pe_call A2.G r4 rfl A2.m A2.k A2.b .nil pass0 (pa_cons (pv 2) (pa_cons pe_int (pa_cons pe_int (pa_cons (pe_call A3.G r2 rfl A3.m A3.k A3.b .nil pass0 (pa_cons (pv 2) (pa_cons (pe_lst (pa_cons pe_int (pa_cons pe_int (pa_cons (pe_op op_pow pe_int pe_int) pa_nil)))) pa_nil))) (pa_cons pe_int pa_nil)))))))
        (C8.pss_cut (ps_if (pt_cmpR op_eq (pe_call A4.G r1 rfl A4.m A4.k A4.b .nil pass0 (pa_cons (pv 2) (pa_cons pe_int pa_nil))) pe_int (nomark _)) (pss_one (ps_set (i := 3) scLaw.nd rfl (Or.inl rfl) (pe_call A5.G r4 rfl A5.m A5.k A5.b .nil pass0 (pa_cons (pv 2) pa_nil)))) pss_nil)
        (pss_cons (ps_set (i := 4) scLaw.nd rfl (Or.inr rfl) (pe_call A6.G hr rfl A6.m A6.k A6.b .nil pass0 (pa_cons (pv 3) pa_nil)))
        (pss_cons (ps_for PassesOwn.never rfl (pi_list (pe_call A7.G r2 rfl A7.m A7.k A7.b .nil pass0 (pa_cons (pv 2) (pa_cons (pv 3) pa_nil)))) (pg_name (i := 5) scLaw.nd rfl (.inl rfl))
          (pss_cons (ps_if (pt_cmpR (op_neD hr.units) (pe_call A8.G r2 rfl A8.m A8.k A8.b .nil pass0 (pa_cons (pe_call A9.G r4 rfl A9.m A9.k A9.b .nil passL (pa_cons (pv 4) (pa_cons (pv 5) pa_nil))) pa_nil)) (pe_call A10.G r1 rfl A10.m A10.k A10.b .nil pass0 (pa_cons (pv 3) (pa_cons (pv 5) pa_nil))) (nomark _)) (pss_one (ps_ret pe_bl)) pss_nil)
          (pss_one (ps_if (pt_cmpR (op_neD hr.units) (pe_call A8.G r2 rfl A8.m A8.k A8.b .nil pass0 (pa_cons (pe_call A11.G r5 rfl A11.m A11.k A11.b .nil passL (pa_cons (pv 4) (pa_cons (pv 5) pa_nil))) pa_nil)) (pe_call A12.G r3 rfl A12.m A12.k A12.b .nil pass0 (pa_cons (pv 3) (pa_cons (pv 5) pa_nil))) (nomark _)) (pss_one (ps_ret pe_bl)) pss_nil))))
        (pss_cons (ps_set (i := 6) scLaw.nd rfl (Or.inr rfl) (pe_call A3.G r2 rfl A3.m A3.k A3.b .nil pass0 (pa_cons (pv 2) (pa_cons (pe_lst (pa_cons (pe_un un_neg pe_int) (pa_cons (pe_op op_add (pe_op op_pow pe_int pe_int) pe_int) (pa_cons (pe_cmpR op_eq pe_int pe_int (nomark _)) (pa_cons pe_non (pa_cons (pe_make M GI r3 rfl T.mgC bI1 vd passL (pa_cons pe_int pa_nil)) (pa_cons pe_str (pa_cons (pe_tup (pa_cons pe_int pa_nil)) (pa_cons (pe_cmpR op_eq pe_int pe_int (nomark _)) (pa_cons (pe_op op_pow pe_int pe_int) pa_nil)))))))))) pa_nil))))
        (pss_cons (ps_if (pt_not (pt_val (pe_lamcall (T := [(Pt, lawQ)]) (TT := TRef CD) (Ng := ["ask"]) (k := 5) rfl mRf kR lkR hcR bR scR rfl (.inl rfl)
            (refused_gives (x := "_law_refused") (a := "ask") (e := "NoDay") (r := "RillError") (CR := CR) rfl D.gN (by decide) rfl mR (by decide) hx (fun _ => rfl)) TB rfl (List.mem_singleton.mpr rfl) (fun _ h _ => by rw [List.mem_singleton.mp h]; rfl) hr (lamS_by (sc := defScope d_law) (by decide +kernel)) rfl (fun _ _ _ _ _ => rfl)
            (fun A' outer' s' H' E' f' c' hr2 => pe_call A9.G (hr2.mono (by decide)) rfl A9.m A9.k A9.b .nil (fun pins σ H s e s' I c => passes_call (takes_of rfl rfl rfl rfl) (fun _ _ _ _ h => h) pins σ H s e s' I c) (pa_cons (pv 4) (pa_cons (pv 6) pa_nil)))))) (pss_one (ps_ret pe_bl)) pss_nil)
        (pss_one (ps_if (pt_not (pt_val (pe_lamcall (T := [(Pt, lawQ)]) (TT := TRef CD) (Ng := ["ask"]) (k := 5) rfl mRf kR lkR hcR bR scR rfl (.inl rfl)
            (refused_gives (x := "_law_refused") (a := "ask") (e := "NoDay") (r := "RillError") (CR := CR) rfl D.gN (by decide) rfl mR (by decide) hx (fun _ => rfl)) TB rfl (List.mem_singleton.mpr rfl) (fun _ h _ => by rw [List.mem_singleton.mp h]; rfl) hr (lamS_by (sc := defScope d_law) (by decide +kernel)) rfl (fun _ _ _ _ _ => rfl)
            (fun A' outer' s' H' E' f' c' hr2 => pe_call A11.G hr2 rfl A11.m A11.k A11.b .nil (fun pins σ H s e s' I c => passes_call (takes_of rfl rfl rfl rfl) (fun _ _ _ _ h => h) pins σ H s e s' I c) (pa_cons (pv 4) (pa_cons (pv 6) pa_nil)))))) (pss_one (ps_ret pe_bl)) pss_nil))))))))))
      (pss_one (ps_ret pe_bl))), ?_⟩
    have lawQe : (lawQ : Str) = lawQ := rfl
    refine ⟨_, rfl, _, rfl, a, _, rfl, ha, fun B1 hB1 => ⟨(by show 2 ≤ sizeLine; decide), fun B2 hB2 => ?_⟩⟩
    have cut8 : cutV (ns.map V.int) none (some 8) = (ns.take 8).map V.int := by
      have := cut_to (xs := ns.map V.int) (n := 8)
      rw [← List.map_take] at this
      exact this
    have s1 : Same H (upd H B1 (.lst (cutV (ns.map V.int) none (some 8)))) := same1 hB1
    have s2 := s1.trans (same1 (o := .lst [.int 0, .int 1]) hB2)
    have e1 : (upd (upd H B1 (.lst (cutV (ns.map V.int) none (some 8)))) B2 (.lst [.int 0, .int 1]) : Hp) B1 = some (.lst (cutV (ns.map V.int) none (some 8))) := by
      rw [upd_ne (ne_of_none upd_same hB2)]
      exact upd_same
    refine ⟨B1, B2, _, _, rfl, rfl, e1, upd_same, ?_, fun B hB => ?_⟩
    · rw [cut8, List.length_map, List.length_take]
      exact Nat.le_trans (show min 8 ns.length + 2 ≤ 10 by omega) (show 10 ≤ sizeLine by decide)
    have s3 := s2.trans (same1 (o := .lst (((ns.take 8) ++ [0, 1]).map V.int)) hB)
    have xe : cutV (ns.map V.int) none (some 8) ++ [.int 0, .int 1] = ((ns.take 8) ++ [0, 1]).map V.int := by rw [cut8, List.map_append]; rfl
    refine ⟨B, rfl, ⟨_, SqL.of upd_same⟩, ?_⟩
    rw [xe]
    generalize (ns.take 8) ++ [0, 1] = cs at *
    refine for_list (K := K) (a := B) (xs := cs.map V.int) (fun i σ G => (∃ v1 v2 v3 v4 v5 v6 : Option V, σ = [some (.ref a), v1, v2, v3, v4, v5, v6]) ∧ G B = some (.lst (cs.map V.int)) ∧ Code1 Pt lawQ G) ⟨⟨_, _, _, _, _, _, rfl⟩, upd_same, tb.same s3⟩ ?_ ?_ ?_
    · rintro i σ G _ ⟨_, gB, _⟩
      exact SqL.of gB
    · rintro i x σ G hx' ⟨⟨v1, v2, v3, v4, v5, v6, rfl⟩, gB, gT⟩
      rw [List.getElem?_map] at hx'
      obtain ⟨c, _, rfl⟩ := Option.map_eq_some_iff.mp hx'
      refine ⟨_, rfl, c, rfl, fun p wx wy hp y0 y1 => ?_⟩
      have wA : WellAt (upd G p (.lst [.int wx, .int wy, .int 0])) p 0 := ⟨wx, wy, upd_same, y0, y1⟩
      have sA : Same G (upd G p (.lst [.int wx, .int wy, .int 0])) := same1 hp
      have Bp : B ≠ p := fun e => by rw [← e, gB] at hp; cases hp
      generalize upd G p (.lst [.int wx, .int wy, .int 0]) = G1 at *
      have gB1 := sA _ _ gB
      have gT1 := gT.same sA
      have wne : ∀ {G : Hp} {q : Addr} {zz : Int}, WellAt G p zz → G q = none → q ≠ p := fun {G q zz} h hq e => by
        obtain ⟨_, _, e1, _⟩ := h
        rw [e, e1] at hq
        cases hq
      have lst : ∀ {G : Hp} {zz : Int}, WellAt G p zz → ∀ q, q = p → LstAt G q := fun {G zz} h q e => by rw [e]; exact h.lst
      refine ⟨_, rfl, _, rfl, _, _, rfl, rfl, ⟨by decide, by decide, by decide⟩, (by show 3 ≤ sizeLine; decide), fun L hL => ?_⟩
      have sL : Same G1 (upd G1 L (.lst [.int 9, .int 40, .int (10 ^ (12 : Int).toNat)])) := same1 hL
      refine ⟨p, L, _, 0, rfl, wA.same sL, by decide, by decide, upd_same, wne wA hL, (by show 0 < 3; decide), (by show 3 < 1000; decide), fun G3 z1 x bt w3 z10 z11 hx3 => ?_⟩
      obtain ⟨long, rfl, lo0, lo1⟩ : ∃ m : Int, x = .int m ∧ 0 < m ∧ m ≤ 1000000000000 := by
        have hx3 : x ∈ [V.int 9, .int 40, .int (10 ^ (12 : Int).toNat)] := hx3
        simp only [List.mem_cons, List.not_mem_nil, or_false] at hx3
        rcases hx3 with h | h | h
        · exact ⟨9, h, by decide, by decide⟩
        · exact ⟨40, h, by decide, by decide⟩
        · exact ⟨_, h, by decide, by decide⟩
      refine ⟨p, z1, 5, 6, long, 1, rfl, w3, z10, by omega, by decide, by decide, by decide, by decide, lo0, lo1, by decide, by decide, fun G4 l told z2 bt4 w4 z20 z21 tol dt => ?_⟩
      have b14 : But p G1 G4 := (same_but sL).trans (bt.trans bt4)
      refine ⟨fun σ G' => ∃ (l : Addr) (told : List (Option Int × W2)) (z : Int), σ = [some (.ref a), some (.int c), some (.ref p), some (.ref l), v4, v5, v6] ∧ TolN (· = p) G' l told ∧ DTold told ∧ WellAt G' p z ∧ 0 ≤ z ∧ z ≤ 100000 ∧ But p G1 G', ?_, ?_⟩
      · refine ⟨_, rfl, p, 6, z2, rfl, w4, by decide, by decide, z20, by omega, fun G5 d z3 bt5 w5 z30 z31 d0 d1 => ⟨rfl, _, rfl, ite2 (fun _ => ?_) (fun _ => ?_)⟩⟩
        · refine ⟨_, rfl, p, z3, rfl, w5, z30, by omega, fun G6 l' told' z4 bt6 w6 z40 z41 tol' dt' => ?_⟩
          exact ⟨l', told', z4, rfl, tol', dt', w6, z40, by omega, b14.trans (bt5.trans bt6)⟩
        · exact ⟨l, told, z3, rfl, tol.but (ButN.but (N := (· = p)) (lst w4) rfl bt5), dt, w5, z30, by omega, b14.trans bt5⟩
      rintro σ G6 ⟨l, told, z, rfl, tol, dt, wz, z0, zl, b16⟩
      refine ⟨_, rfl, l, told, rfl, tol.2.at_, dt.ok, dt.prs, fun G7 cr s7 crs => ?_⟩
      refine ⟨_, rfl, _, rfl, p, l, z, told, rfl, wz.same s7, z0, by omega, tol.but (ButN.same (N := (· = p)) (lst wz) s7), dt, fun G8 L2 ds z' bt8 w8 z0' z1' eL nL hds => ?_⟩
      have crs8 := But.crs (wz.same s7) bt8 crs
      have tol8 := (tol.but (ButN.same (N := (· = p)) (lst wz) s7)).but (ButN.but (N := (· = p)) (lst (wz.same s7)) rfl bt8)
      have lt8 : LTold K G8 l told := tol8.2.at_
      have b18 : But p G1 G8 := b16.trans ((same_but s7).trans bt8)
      have fr6 := dt.fr
      refine ⟨L2, rfl, ⟨_, SqL.of eL⟩, ?_⟩
      refine for_list (K := K) (a := L2) (xs := ds.map V.int) (fun j σ M => (∃ v5 : Option V, σ = [some (.ref a), some (.int c), some (.ref p), some (.ref l), some (.ref cr), v5, v6]) ∧ Same G8 M) ⟨⟨_, rfl⟩, Same.refl _⟩ ?_ ?_ ?_
      · rintro j σ M _ ⟨_, sM⟩
        exact SqL.of (sM _ _ eL)
      · rintro j x σ M hxj ⟨⟨v5, rfl⟩, sM⟩
        rw [List.getElem?_map] at hxj
        obtain ⟨day, hday, rfl⟩ := Option.map_eq_some_iff.mp hxj
        obtain ⟨d0, d1⟩ := hds day (List.mem_of_getElem? hday)
        refine ⟨_, rfl, _, rfl, cr, .int day, told, true, false, rfl, crs8.mono sM, kind_int _, .inl ⟨day, rfl, rfl, rfl, d0, d1, fun M1 q x s1 hx hq => ?_⟩⟩
        obtain ⟨s, hs, hxs⟩ := onV_mem told day x hx
        obtain ⟨x0, xm, xt, xc⟩ := dt.prs s hs x hxs
        refine ⟨q, x.1, x.2, rfl, ⟨hq, x0, xc, pow_le xt (by decide), Nat.lt_of_le_of_lt (Nat.le_of_dvd (by decide) xm) (Nat.lt_of_lt_of_le (show 6 < 2 ^ 3 by decide) (Nat.pow_le_pow_right (by decide) (by decide)))⟩, fun M2 r s2 er => ?_⟩
        have sM2 := sM.trans (s1.trans s2)
        refine ⟨_, rfl, _, rfl, l, day, told, rfl, lt8.mono sM2, dt.ok, d0, fun r2 y hy er2 => ?_⟩
        have exy : x = y := Option.some.inj (hx.symm.trans hy)
        subst exy
        refine ⟨_, _, Dp.tup (SqT.of er) (.cons (.int _) (.cons (.int _) .nil)), Dp.tup er2 (.cons (.int _) (.cons (.int _) .nil)), rfl, rfl, _, rfl, ?_⟩
        rw [show PyData.eqv (.tuple [.int x.1, .int x.2]) (.tuple [.int x.1, .int x.2]) = true from by simp [PyData.eqv, PyData.eqvAll]]
        refine iteF ?_
        refine ⟨_, rfl, _, rfl, cr, .int day, told, true, false, 6, rfl, crs8.mono sM2, fr6, kind_int _, .inl ⟨day, rfl, rfl, rfl, d0, d1, fun M3 q3 t b s3 f hq3 => ?_⟩⟩
        have tb6 : t.natAbs < 2 ^ 80 := Nat.lt_of_le_of_lt (fr_abs (by decide) f) (dt.sum ⟨d0, d1⟩)
        refine ⟨q3, t, b, rfl, ⟨hq3, f.1, f.2.1, pow_le tb6 (by decide), Nat.lt_of_le_of_lt (Nat.le_of_dvd (by decide) (fr_dvd f)) (Nat.lt_of_lt_of_le (show 6 < 2 ^ 3 by decide) (Nat.pow_le_pow_right (by decide) (by decide)))⟩, fun M4 r3 s4 er3 => ?_⟩
        have sM4 := sM2.trans (s3.trans s4)
        refine ⟨_, rfl, _, rfl, l, day, told, 6, rfl, lt8.mono sM4, dt.ok, fr6, d0, d1, fun M5 r4 t' b' s5 f' er4 => ?_⟩
        obtain ⟨et, eb⟩ := fr_one (by decide) f f'
        subst et eb
        refine ⟨_, _, Dp.tup (SqT.of (s5 _ _ er3)) (.cons (.int _) (.cons (.int _) .nil)), Dp.tup (SqT.of er4) (.cons (.int _) (.cons (.int _) .nil)), rfl, rfl, _, rfl, ?_⟩
        rw [show PyData.eqv (.tuple [.int t, .int b]) (.tuple [.int t, .int b]) = true from by simp [PyData.eqv, PyData.eqvAll]]
        exact iteF ⟨⟨_, rfl⟩, sM4.trans s5⟩
      · rintro σ M ⟨⟨v5, rfl⟩, sM⟩
        have w8M := w8.same sM
        refine ⟨_, rfl, _, rfl, _, _, rfl, rfl, ⟨by decide, by decide, by decide⟩, _, _, rfl, rfl, rfl, fun x1 dx1 nx1 nd1 _ => ⟨x1, dx1, 1, 1, rfl, upd_same, by decide, by decide, fun e => absurd e (by decide), fun _ M1 g1 k1 => ⟨rfl, ?_⟩⟩⟩
        have sM1 : Same M M1 := made_same (C := C) nx1 nd1 k1
        have lo1 := low_self (t := 1) (b := 1) (by decide) (by decide)
        rw [lo1.1, lo1.2] at g1
        refine ⟨(by show 1 ≤ sizeLine; decide), fun t ht => ⟨rfl, _, _, rfl, rfl, ⟨by decide, by decide, by decide⟩, (by show 9 ≤ sizeLine; decide), fun L3 hL3 => ?_⟩⟩
        have sM2 : Same M1 (upd M1 t (.tup [.int 1])) := same1 ht
        have et : (upd M1 t (.tup [.int 1]) : Hp) t = some (.tup [.int 1]) := upd_same
        have g2 := sM2 _ _ g1
        generalize upd M1 t (.tup [.int 1]) = M2 at *
        have w2 := (w8M.same sM1).same sM2
        have eL3 := upd_same (H := M2) (a := L3) (o := .lst [.int (-1), .int (10 ^ (15 : Int).toNat + 1), .bl (decide (V.int 1 = V.int 1)), .non, .ref x1, .str "1", .ref t, .bl (decide (V.int 1 = V.int 2)), .int (10 ^ (30 : Int).toNat)])
        have sM3 : Same M2 (upd M2 L3 (.lst [.int (-1), .int (10 ^ (15 : Int).toNat + 1), .bl (decide (V.int 1 = V.int 1)), .non, .ref x1, .str "1", .ref t, .bl (decide (V.int 1 = V.int 2)), .int (10 ^ (30 : Int).toNat)])) := same1 hL3
        refine ⟨p, L3, _, z', rfl, w2.same sM3, z0', by omega, eL3, wne w2 hL3, (by show 0 < 9; decide), (by show 9 < 1000; decide), fun G9 z9 odd bt9 w9 z90 z91 hodd => ?_⟩
        generalize upd M2 L3 (.lst [.int (-1), .int (10 ^ (15 : Int).toNat + 1), .bl (decide (V.int 1 = V.int 1)), .non, .ref x1, .str "1", .ref t, .bl (decide (V.int 1 = V.int 2)), .int (10 ^ (30 : Int).toNat)]) = M3 at *
        have s03 := sM.trans (sM1.trans (sM2.trans sM3))
        have w3' := w2.same sM3
        have np : ∀ {q : Addr} {o : HO}, M3 q = some o → (∀ xs, o ≠ .lst xs) → q ≠ p := fun {q o} e n h => by
          obtain ⟨_, _, e1, _⟩ := w3'
          rw [h, e1] at e
          exact n _ (Option.some.inj e).symm
        have et9 : G9 t = some (.tup [.int 1]) := bt9 _ _ (np (sM3 _ _ et) (fun _ z => nomatch z)) (sM3 _ _ et)
        have ex9 : ShAt C G9 x1 1 1 := ⟨dx1, bt9 _ _ (np (sM3 _ _ g2) (fun _ z => nomatch z)) (sM3 _ _ g2)⟩
        have crs9 := But.crs w3' bt9 (crs8.mono s03)
        have b19 : But p G1 G9 := b18.trans ((same_but s03).trans bt9)
        have gT9 := gT1.but wA.lst b19
        have gB9 := b19 _ _ Bp gB1
        have nday : ∀ G : Hp, G t = some (.tup [.int 1]) → ShAt C G x1 1 1 → NoDayV K G odd := fun G e1 e2 => by
          simp only [List.mem_cons, List.not_mem_nil, or_false] at hodd
          rcases hodd with h | h | h | h | h | h | h | h | h <;> subst h
          · exact noDay_int (by decide)
          · exact noDay_int (by decide)
          · exact noDay_bl _
          · exact noDay_non
          · exact noDay_sh T TI TK e2
          · exact noDay_str _
          · exact noDay_tup e1
          · exact noDay_bl _
          · exact noDay_int (by decide)
        refine ⟨gT9, fun G10 x10 gT10 => ?_⟩
        have et10 := x10 _ _ et9 (fun _ z => nomatch z)
        have ex10 : ShAt C G10 x1 1 1 := by
          obtain ⟨dq, e⟩ := ex9
          exact ⟨dq, x10 _ _ e (fun _ z => nomatch z)⟩
        have crs10 := ext_crs x10 crs9
        have gB10 := x10 _ _ gB9 (fun _ z => nomatch z)
        obtain ⟨bi, bb, kd, nd⟩ := nday G10 et10 ex10
        refine ⟨_, rfl, _, rfl, cr, odd, told, bi, bb, rfl, crs10, kd, .inr ⟨nd, rfl, true, rfl, iteF ?_⟩⟩
        refine ⟨gT10, fun G11 x11 gT11 => ?_⟩
        have et11 := x11 _ _ et10 (fun _ z => nomatch z)
        have ex11 : ShAt C G11 x1 1 1 := by
          obtain ⟨dq, e⟩ := ex10
          exact ⟨dq, x11 _ _ e (fun _ z => nomatch z)⟩
        obtain ⟨bi2, bb2, kd2, nd2⟩ := nday G11 et11 ex11
        exact ⟨_, rfl, _, rfl, cr, odd, told, bi2, bb2, 6, rfl, ext_crs x11 crs10, fr6, kd2, .inr ⟨nd2, rfl, true, rfl, iteF ⟨⟨_, _, _, _, _, _, rfl⟩, x11 _ _ gB10 (fun _ z => nomatch z), gT11⟩⟩⟩
    · rintro σ G ⟨⟨v1, v2, v3, v4, v5, v6, rfl⟩, _, _⟩
      exact kq G
end
theorem law_told {K : PySem.W.Frag} {Pt a : Addr} {H : Hp} {ns : List Int} (hl : ns.length ≤ 63) (hT : H Pt = some (.tbl #[])) (hS : SqL K H a (ns.map V.int)) : spLaw K Pt [.ref a] H (fun v _ => v = .bl true) fun _ _ _ => False :=
  ⟨a, ns, rfl, hS, hl, fun p hp => by rw [List.mem_singleton.mp hp]; exact TabS.nil hT, fun _ => rfl⟩
end K10

namespace K10
open PySem PySem.Spec PyProof.Rows L2 LamX
theorem all_mk {P : Program} {w : World} {K : PySem.W.Frag} {h : Heap} {mg : Str → Option Value} {fa : Addr} (X : K.In h) (G : h.Ns mainGlobals mg) (hfa : mg "law" = some (.ref fa))
    {tk_LAST_DAY : Tok}
    {tk_MOST_STRETCHES : Tok}
    {tk_MOST_SHARES : Tok}
    {cRillError : Addr}
    {cNoShare : Addr}
    {cNoCourse : Addr}
    {cNoDay : Addr}
    {cShare : Addr}
    {f_Share_init : Addr} {od_Share_init an_Share_init : Option Addr} {sl_Share_init : Array (Option Value)} {oc_Share_init kV_Share_init dc_Share_init pm_Share_init ct_Share_init : Value}
    {cd_Share_init : Value}
    {TD_Share_init : Addr} {ocTD_Share_init : Value} {odTD_Share_init : Option Addr} {nTD_Share_init : Nat} {slTD_Share_init : Array (Option Value)} {tkTD_Share_init : Tok}
    {f_Share_eq : Addr} {od_Share_eq an_Share_eq : Option Addr} {sl_Share_eq : Array (Option Value)} {oc_Share_eq kV_Share_eq dc_Share_eq pm_Share_eq ct_Share_eq : Value}
    {cd_Share_eq : Value}
    {cCourse : Addr}
    {f_Course_init : Addr} {od_Course_init an_Course_init : Option Addr} {sl_Course_init : Array (Option Value)} {oc_Course_init kV_Course_init dc_Course_init pm_Course_init ct_Course_init : Value}
    {cd_Course_init : Value}
    {f_Course_eq : Addr} {od_Course_eq an_Course_eq : Option Addr} {sl_Course_eq : Array (Option Value)} {oc_Course_eq kV_Course_eq dc_Course_eq pm_Course_eq ct_Course_eq : Value}
    {cd_Course_eq : Value}
    {f_is_whole : Addr} {od_is_whole an_is_whole : Option Addr} {sl_is_whole : Array (Option Value)} {oc_is_whole kV_is_whole dc_is_whole pm_is_whole ct_is_whole : Value}
    {cd_is_whole : Value}
    {f_is_between : Addr} {od_is_between an_is_between : Option Addr} {sl_is_between : Array (Option Value)} {oc_is_between kV_is_between dc_is_between pm_is_between ct_is_between : Value}
    {cd_is_between : Value}
    {f_is_day : Addr} {od_is_day an_is_day : Option Addr} {sl_is_day : Array (Option Value)} {oc_is_day kV_is_day dc_is_day pm_is_day ct_is_day : Value}
    {cd_is_day : Value}
    {f_total : Addr} {od_total an_total : Option Addr} {sl_total : Array (Option Value)} {oc_total kV_total dc_total pm_total ct_total : Value}
    {cd_total : Value}
    {f_least_word : Addr} {od_least_word an_least_word : Option Addr} {sl_least_word : Array (Option Value)} {oc_least_word kV_least_word dc_least_word pm_least_word ct_least_word : Value}
    {cd_least_word : Value}
    {f_spans_of : Addr} {od_spans_of an_spans_of : Option Addr} {sl_spans_of : Array (Option Value)} {oc_spans_of kV_spans_of dc_spans_of pm_spans_of ct_spans_of : Value}
    {cd_spans_of : Value}
    {f_number_on : Addr} {od_number_on an_number_on : Option Addr} {sl_number_on : Array (Option Value)} {oc_number_on kV_number_on dc_number_on pm_number_on ct_number_on : Value}
    {cd_number_on : Value}
    {f_share_on : Addr} {od_share_on an_share_on : Option Addr} {sl_share_on : Array (Option Value)} {oc_share_on kV_share_on dc_share_on pm_share_on ct_share_on : Value}
    {cd_share_on : Value}
    {f_sooner : Addr} {od_sooner an_sooner : Option Addr} {sl_sooner : Array (Option Value)} {oc_sooner kV_sooner dc_sooner pm_sooner ct_sooner : Value}
    {cd_sooner : Value}
    {f_beside : Addr} {od_beside an_beside : Option Addr} {sl_beside : Array (Option Value)} {oc_beside kV_beside dc_beside pm_beside ct_beside : Value}
    {cd_beside : Value}
    {f_are_stretches : Addr} {od_are_stretches an_are_stretches : Option Addr} {sl_are_stretches : Array (Option Value)} {oc_are_stretches kV_are_stretches dc_are_stretches pm_are_stretches ct_are_stretches : Value}
    {cd_are_stretches : Value}
    {f_is_stretch : Addr} {od_is_stretch an_is_stretch : Option Addr} {sl_is_stretch : Array (Option Value)} {oc_is_stretch kV_is_stretch dc_is_stretch pm_is_stretch ct_is_stretch : Value}
    {cd_is_stretch : Value}
    {f_is_word : Addr} {od_is_word an_is_word : Option Addr} {sl_is_word : Array (Option Value)} {oc_is_word kV_is_word dc_is_word pm_is_word ct_is_word : Value}
    {cd_is_word : Value}
    {f_on : Addr} {od_on an_on : Option Addr} {sl_on : Array (Option Value)} {oc_on kV_on dc_on pm_on ct_on : Value}
    {cd_on : Value}
    {f_sum_to : Addr} {od_sum_to an_sum_to : Option Addr} {sl_sum_to : Array (Option Value)} {oc_sum_to kV_sum_to dc_sum_to pm_sum_to ct_sum_to : Value}
    {cd_sum_to : Value}
    {f_first_unlike : Addr} {od_first_unlike an_first_unlike : Option Addr} {sl_first_unlike : Array (Option Value)} {oc_first_unlike kV_first_unlike dc_first_unlike pm_first_unlike ct_first_unlike : Value}
    {cd_first_unlike : Value}
    {f_law_well : Addr} {od_law_well an_law_well : Option Addr} {sl_law_well : Array (Option Value)} {oc_law_well kV_law_well dc_law_well pm_law_well ct_law_well : Value}
    {cd_law_well : Value}
    {f_law_draw : Addr} {od_law_draw an_law_draw : Option Addr} {sl_law_draw : Array (Option Value)} {oc_law_draw kV_law_draw dc_law_draw pm_law_draw ct_law_draw : Value}
    {cd_law_draw : Value}
    {f_law_one : Addr} {od_law_one an_law_one : Option Addr} {sl_law_one : Array (Option Value)} {oc_law_one kV_law_one dc_law_one pm_law_one ct_law_one : Value}
    {cd_law_one : Value}
    {f_law_low : Addr} {od_law_low an_law_low : Option Addr} {sl_law_low : Array (Option Value)} {oc_law_low kV_law_low dc_law_low pm_law_low ct_law_low : Value}
    {cd_law_low : Value}
    {f_law_pair : Addr} {od_law_pair an_law_pair : Option Addr} {sl_law_pair : Array (Option Value)} {oc_law_pair kV_law_pair dc_law_pair pm_law_pair ct_law_pair : Value}
    {cd_law_pair : Value}
    {f_law_sum : Addr} {od_law_sum an_law_sum : Option Addr} {sl_law_sum : Array (Option Value)} {oc_law_sum kV_law_sum dc_law_sum pm_law_sum ct_law_sum : Value}
    {cd_law_sum : Value}
    {f_law_by : Addr} {od_law_by an_law_by : Option Addr} {sl_law_by : Array (Option Value)} {oc_law_by kV_law_by dc_law_by pm_law_by ct_law_by : Value}
    {cd_law_by : Value}
    {f_law_word : Addr} {od_law_word an_law_word : Option Addr} {sl_law_word : Array (Option Value)} {oc_law_word kV_law_word dc_law_word pm_law_word ct_law_word : Value}
    {cd_law_word : Value}
    {f_law_stretches : Addr} {od_law_stretches an_law_stretches : Option Addr} {sl_law_stretches : Array (Option Value)} {oc_law_stretches kV_law_stretches dc_law_stretches pm_law_stretches ct_law_stretches : Value}
    {cd_law_stretches : Value}
    {f_law_course : Addr} {od_law_course an_law_course : Option Addr} {sl_law_course : Array (Option Value)} {oc_law_course kV_law_course dc_law_course pm_law_course ct_law_course : Value}
    {cd_law_course : Value}
    {f_law_on : Addr} {od_law_on an_law_on : Option Addr} {sl_law_on : Array (Option Value)} {oc_law_on kV_law_on dc_law_on pm_law_on ct_law_on : Value}
    {cd_law_on : Value}
    {f_law_great : Addr} {od_law_great an_law_great : Option Addr} {sl_law_great : Array (Option Value)} {oc_law_great kV_law_great dc_law_great pm_law_great ct_law_great : Value}
    {cd_law_great : Value}
    {f_law_sum_to : Addr} {od_law_sum_to an_law_sum_to : Option Addr} {sl_law_sum_to : Array (Option Value)} {oc_law_sum_to kV_law_sum_to dc_law_sum_to pm_law_sum_to ct_law_sum_to : Value}
    {cd_law_sum_to : Value}
    {f_law_refused : Addr} {od_law_refused an_law_refused : Option Addr} {sl_law_refused : Array (Option Value)} {oc_law_refused kV_law_refused dc_law_refused pm_law_refused ct_law_refused : Value}
    {cd_law_refused : Value}
    {f_law_spots : Addr} {od_law_spots an_law_spots : Option Addr} {sl_law_spots : Array (Option Value)} {oc_law_spots kV_law_spots dc_law_spots pm_law_spots ct_law_spots : Value}
    {cd_law_spots : Value}
    {cc Pt : Addr}
    {f_law : Addr} {od_law an_law : Option Addr} {sl_law : Array (Option Value)} {oc_law kV_law dc_law pm_law ct_law : Value}
    {dcC : Option Addr} {vcC : Array Value} {scC : Array (Option Value)}
    (z_ValueError : PySem.W.nsIn K mainGlobals "ValueError" = some none)
    (z_abs : PySem.W.nsIn K mainGlobals "abs" = some none)
    (z_all : PySem.W.nsIn K mainGlobals "all" = some none)
    (z_any : PySem.W.nsIn K mainGlobals "any" = some none)
    (z_bool : PySem.W.nsIn K mainGlobals "bool" = some none)
    (z_divmod : PySem.W.nsIn K mainGlobals "divmod" = some none)
    (z_enumerate : PySem.W.nsIn K mainGlobals "enumerate" = some none)
    (z_int : PySem.W.nsIn K mainGlobals "int" = some none)
    (z_isinstance : PySem.W.nsIn K mainGlobals "isinstance" = some none)
    (z_len : PySem.W.nsIn K mainGlobals "len" = some none)
    (z_list : PySem.W.nsIn K mainGlobals "list" = some none)
    (z_max : PySem.W.nsIn K mainGlobals "max" = some none)
    (z_min : PySem.W.nsIn K mainGlobals "min" = some none)
    (z_range : PySem.W.nsIn K mainGlobals "range" = some none)
    (z_sum : PySem.W.nsIn K mainGlobals "sum" = some none)
    (z_tuple : PySem.W.nsIn K mainGlobals "tuple" = some none)
    (i_gcd : PySem.W.nsIn K mainGlobals "gcd" = some (some (.builtin "math.gcd")))
    (i_lcm : PySem.W.nsIn K mainGlobals "lcm" = some (some (.builtin "math.lcm")))
    (g_LAST_DAY : PySem.W.nsIn K mainGlobals "LAST_DAY" = some (some (.int 1000000000000000 tk_LAST_DAY)))
    (g_MOST_STRETCHES : PySem.W.nsIn K mainGlobals "MOST_STRETCHES" = some (some (.int 60 tk_MOST_STRETCHES)))
    (g_MOST_SHARES : PySem.W.nsIn K mainGlobals "MOST_SHARES" = some (some (.int 60 tk_MOST_SHARES)))
    (acRillError : PySem.W.nsIn K mainGlobals "RillError" = some (some (.ref cRillError)))
    (xcRillError : PySem.W.excIn K cRillError [.type "ValueError", .type "Exception", .type "BaseException", .type "object"] "ValueError.__new__" = true)
    (kcRillError : PySem.W.keepIn K (.ref cRillError) = true)
    (bcRillError : PySem.W.subIn K (.ref cRillError) (.type "BaseException") = some true)
    (tcRillError : PySem.W.typeIn K (.ref cRillError) = some (.type "type"))
    (icRillError : PySem.W.isClsIn K cRillError = true)
    (scRillError : PySem.W.subIn K (.ref cRillError) (.ref cRillError) = some true)
    (acNoShare : PySem.W.nsIn K mainGlobals "NoShare" = some (some (.ref cNoShare)))
    (xcNoShare : PySem.W.excIn K cNoShare [.type "ValueError", .type "Exception", .type "BaseException", .type "object"] "ValueError.__new__" = true)
    (kcNoShare : PySem.W.keepIn K (.ref cNoShare) = true)
    (bcNoShare : PySem.W.subIn K (.ref cNoShare) (.type "BaseException") = some true)
    (tcNoShare : PySem.W.typeIn K (.ref cNoShare) = some (.type "type"))
    (icNoShare : PySem.W.isClsIn K cNoShare = true)
    (scNoShare : PySem.W.subIn K (.ref cNoShare) (.ref cNoShare) = some true)
    (acNoCourse : PySem.W.nsIn K mainGlobals "NoCourse" = some (some (.ref cNoCourse)))
    (xcNoCourse : PySem.W.excIn K cNoCourse [.type "ValueError", .type "Exception", .type "BaseException", .type "object"] "ValueError.__new__" = true)
    (kcNoCourse : PySem.W.keepIn K (.ref cNoCourse) = true)
    (bcNoCourse : PySem.W.subIn K (.ref cNoCourse) (.type "BaseException") = some true)
    (tcNoCourse : PySem.W.typeIn K (.ref cNoCourse) = some (.type "type"))
    (icNoCourse : PySem.W.isClsIn K cNoCourse = true)
    (scNoCourse : PySem.W.subIn K (.ref cNoCourse) (.ref cNoCourse) = some true)
    (acNoDay : PySem.W.nsIn K mainGlobals "NoDay" = some (some (.ref cNoDay)))
    (xcNoDay : PySem.W.excIn K cNoDay [.type "ValueError", .type "Exception", .type "BaseException", .type "object"] "ValueError.__new__" = true)
    (kcNoDay : PySem.W.keepIn K (.ref cNoDay) = true)
    (bcNoDay : PySem.W.subIn K (.ref cNoDay) (.type "BaseException") = some true)
    (tcNoDay : PySem.W.typeIn K (.ref cNoDay) = some (.type "type"))
    (icNoDay : PySem.W.isClsIn K cNoDay = true)
    (scNoDay : PySem.W.subIn K (.ref cNoDay) (.ref cNoDay) = some true)
    (acShare : PySem.W.nsIn K mainGlobals "Share" = some (some (.ref cShare)))
    (pgcShare : PySem.W.plainGet K cShare Str.empty = true)
    (hdcShare : PySem.W.hasDictIn K cShare = true)
    (pocShare : PySem.W.plainOver K cShare = true)
    (sacShare : PySem.W.findIn K (.ref cShare) "__setattr__" = some (some (.builtin "object.__setattr__")))
    (mkcShare : PySem.W.makesIn K cShare = true)
    (kccShare : PySem.W.keepIn K (.ref cShare) = true)
    (ncShare_bottom : PySem.W.findIn K (.ref cShare) "bottom" = some none)
    (ncShare_top : PySem.W.findIn K (.ref cShare) "top" = some none)
    (gccShare : PySem.W.findIn K (.ref cShare) "__class__" = some (some (.builtin "object.__class__")))
    (gmcShare : PySem.W.mroIn K cShare (.type "object") = some true)
    (mecShare : PySem.W.kitOne K (.ref cShare) (.ref cShare) = some true)
    (mcShare_tuple : PySem.W.kitOne K (.type "tuple") (.ref cShare) = some false)
    (ucShare_tuple : PySem.W.kitOne K (.ref cShare) (.type "tuple") = some false)
    (mcShare_int : PySem.W.kitOne K (.type "int") (.ref cShare) = some false)
    (ucShare_int : PySem.W.kitOne K (.ref cShare) (.type "int") = some false)
    (mcShare_NoneType : PySem.W.kitOne K (.type "NoneType") (.ref cShare) = some false)
    (mcShare_list : PySem.W.kitOne K (.type "list") (.ref cShare) = some false)
    (ucShare_list : PySem.W.kitOne K (.ref cShare) (.type "list") = some false)
    (mcShare_str : PySem.W.kitOne K (.type "str") (.ref cShare) = some false)
    (mcShare_bool : PySem.W.kitOne K (.type "bool") (.ref cShare) = some false)
    (ucShare_bool : PySem.W.kitOne K (.ref cShare) (.type "bool") = some false)
    (mcShare_dict : PySem.W.kitOne K (.type "dict") (.ref cShare) = some false)
    (a_Share_init : PySem.W.findIn K (.ref cShare) "__init__" = some (some (.ref f_Share_init)))
    (i_Share_init : PySem.W.isFn K (.ref f_Share_init) = true)
    (l_Share_init : K.lookup f_Share_init = some ⟨oc_Share_init, od_Share_init, .func (PySem.W.fnOf "__init__" "Share.__init__" (defArgs d_Share_init) (defBody d_Share_init) (defScope d_Share_init) (.ref TD_Share_init) kV_Share_init dc_Share_init pm_Share_init an_Share_init cd_Share_init ct_Share_init), sl_Share_init⟩)
    (c_Share_init : PySem.W.codeIn K cd_Share_init "Share.__init__" = true)
    (k_Share_init : PySem.W.keepIn K (.ref f_Share_init) = true)
    (lTD_Share_init : K.lookup TD_Share_init = some ⟨ocTD_Share_init, odTD_Share_init, .seq [Value.int 1 tkTD_Share_init].toArray nTD_Share_init, slTD_Share_init⟩)
    (a_Share_eq : PySem.W.findIn K (.ref cShare) "__eq__" = some (some (.ref f_Share_eq)))
    (i_Share_eq : PySem.W.isFn K (.ref f_Share_eq) = true)
    (l_Share_eq : K.lookup f_Share_eq = some ⟨oc_Share_eq, od_Share_eq, .func (PySem.W.fnOf "__eq__" "Share.__eq__" (defArgs d_Share_eq) (defBody d_Share_eq) (defScope d_Share_eq) .none kV_Share_eq dc_Share_eq pm_Share_eq an_Share_eq cd_Share_eq ct_Share_eq), sl_Share_eq⟩)
    (c_Share_eq : PySem.W.codeIn K cd_Share_eq "Share.__eq__" = true)
    (k_Share_eq : PySem.W.keepIn K (.ref f_Share_eq) = true)
    (acCourse : PySem.W.nsIn K mainGlobals "Course" = some (some (.ref cCourse)))
    (pgcCourse : PySem.W.plainGet K cCourse Str.empty = true)
    (hdcCourse : PySem.W.hasDictIn K cCourse = true)
    (pocCourse : PySem.W.plainOver K cCourse = true)
    (sacCourse : PySem.W.findIn K (.ref cCourse) "__setattr__" = some (some (.builtin "object.__setattr__")))
    (mkcCourse : PySem.W.makesIn K cCourse = true)
    (kccCourse : PySem.W.keepIn K (.ref cCourse) = true)
    (ncCourse_spans : PySem.W.findIn K (.ref cCourse) "spans" = some none)
    (gccCourse : PySem.W.findIn K (.ref cCourse) "__class__" = some (some (.builtin "object.__class__")))
    (gmcCourse : PySem.W.mroIn K cCourse (.type "object") = some true)
    (mecCourse : PySem.W.kitOne K (.ref cCourse) (.ref cCourse) = some true)
    (mcCourse_tuple : PySem.W.kitOne K (.type "tuple") (.ref cCourse) = some false)
    (ucCourse_tuple : PySem.W.kitOne K (.ref cCourse) (.type "tuple") = some false)
    (mcCourse_int : PySem.W.kitOne K (.type "int") (.ref cCourse) = some false)
    (ucCourse_int : PySem.W.kitOne K (.ref cCourse) (.type "int") = some false)
    (mcCourse_NoneType : PySem.W.kitOne K (.type "NoneType") (.ref cCourse) = some false)
    (mcCourse_list : PySem.W.kitOne K (.type "list") (.ref cCourse) = some false)
    (ucCourse_list : PySem.W.kitOne K (.ref cCourse) (.type "list") = some false)
    (mcCourse_str : PySem.W.kitOne K (.type "str") (.ref cCourse) = some false)
    (mcCourse_bool : PySem.W.kitOne K (.type "bool") (.ref cCourse) = some false)
    (ucCourse_bool : PySem.W.kitOne K (.ref cCourse) (.type "bool") = some false)
    (mcCourse_dict : PySem.W.kitOne K (.type "dict") (.ref cCourse) = some false)
    (a_Course_init : PySem.W.findIn K (.ref cCourse) "__init__" = some (some (.ref f_Course_init)))
    (i_Course_init : PySem.W.isFn K (.ref f_Course_init) = true)
    (l_Course_init : K.lookup f_Course_init = some ⟨oc_Course_init, od_Course_init, .func (PySem.W.fnOf "__init__" "Course.__init__" (defArgs d_Course_init) (defBody d_Course_init) (defScope d_Course_init) .none kV_Course_init dc_Course_init pm_Course_init an_Course_init cd_Course_init ct_Course_init), sl_Course_init⟩)
    (c_Course_init : PySem.W.codeIn K cd_Course_init "Course.__init__" = true)
    (k_Course_init : PySem.W.keepIn K (.ref f_Course_init) = true)
    (a_Course_eq : PySem.W.findIn K (.ref cCourse) "__eq__" = some (some (.ref f_Course_eq)))
    (i_Course_eq : PySem.W.isFn K (.ref f_Course_eq) = true)
    (l_Course_eq : K.lookup f_Course_eq = some ⟨oc_Course_eq, od_Course_eq, .func (PySem.W.fnOf "__eq__" "Course.__eq__" (defArgs d_Course_eq) (defBody d_Course_eq) (defScope d_Course_eq) .none kV_Course_eq dc_Course_eq pm_Course_eq an_Course_eq cd_Course_eq ct_Course_eq), sl_Course_eq⟩)
    (c_Course_eq : PySem.W.codeIn K cd_Course_eq "Course.__eq__" = true)
    (k_Course_eq : PySem.W.keepIn K (.ref f_Course_eq) = true)
    (a_is_whole : PySem.W.nsIn K mainGlobals "is_whole" = some (some (.ref f_is_whole)))
    (l_is_whole : K.lookup f_is_whole = some ⟨oc_is_whole, od_is_whole, .func (PySem.W.fnOf "is_whole" "is_whole" (defArgs d_is_whole) (defBody d_is_whole) (defScope d_is_whole) .none kV_is_whole dc_is_whole pm_is_whole an_is_whole cd_is_whole ct_is_whole), sl_is_whole⟩)
    (c_is_whole : PySem.W.codeIn K cd_is_whole "is_whole" = true)
    (k_is_whole : PySem.W.keepIn K (.ref f_is_whole) = true)
    (a_is_between : PySem.W.nsIn K mainGlobals "is_between" = some (some (.ref f_is_between)))
    (l_is_between : K.lookup f_is_between = some ⟨oc_is_between, od_is_between, .func (PySem.W.fnOf "is_between" "is_between" (defArgs d_is_between) (defBody d_is_between) (defScope d_is_between) .none kV_is_between dc_is_between pm_is_between an_is_between cd_is_between ct_is_between), sl_is_between⟩)
    (c_is_between : PySem.W.codeIn K cd_is_between "is_between" = true)
    (k_is_between : PySem.W.keepIn K (.ref f_is_between) = true)
    (a_is_day : PySem.W.nsIn K mainGlobals "is_day" = some (some (.ref f_is_day)))
    (l_is_day : K.lookup f_is_day = some ⟨oc_is_day, od_is_day, .func (PySem.W.fnOf "is_day" "is_day" (defArgs d_is_day) (defBody d_is_day) (defScope d_is_day) .none kV_is_day dc_is_day pm_is_day an_is_day cd_is_day ct_is_day), sl_is_day⟩)
    (c_is_day : PySem.W.codeIn K cd_is_day "is_day" = true)
    (k_is_day : PySem.W.keepIn K (.ref f_is_day) = true)
    (a_total : PySem.W.nsIn K mainGlobals "total" = some (some (.ref f_total)))
    (l_total : K.lookup f_total = some ⟨oc_total, od_total, .func (PySem.W.fnOf "total" "total" (defArgs d_total) (defBody d_total) (defScope d_total) .none kV_total dc_total pm_total an_total cd_total ct_total), sl_total⟩)
    (c_total : PySem.W.codeIn K cd_total "total" = true)
    (k_total : PySem.W.keepIn K (.ref f_total) = true)
    (a_least_word : PySem.W.nsIn K mainGlobals "least_word" = some (some (.ref f_least_word)))
    (l_least_word : K.lookup f_least_word = some ⟨oc_least_word, od_least_word, .func (PySem.W.fnOf "least_word" "least_word" (defArgs d_least_word) (defBody d_least_word) (defScope d_least_word) .none kV_least_word dc_least_word pm_least_word an_least_word cd_least_word ct_least_word), sl_least_word⟩)
    (c_least_word : PySem.W.codeIn K cd_least_word "least_word" = true)
    (k_least_word : PySem.W.keepIn K (.ref f_least_word) = true)
    (a_spans_of : PySem.W.nsIn K mainGlobals "spans_of" = some (some (.ref f_spans_of)))
    (l_spans_of : K.lookup f_spans_of = some ⟨oc_spans_of, od_spans_of, .func (PySem.W.fnOf "spans_of" "spans_of" (defArgs d_spans_of) (defBody d_spans_of) (defScope d_spans_of) .none kV_spans_of dc_spans_of pm_spans_of an_spans_of cd_spans_of ct_spans_of), sl_spans_of⟩)
    (c_spans_of : PySem.W.codeIn K cd_spans_of "spans_of" = true)
    (k_spans_of : PySem.W.keepIn K (.ref f_spans_of) = true)
    (a_number_on : PySem.W.nsIn K mainGlobals "number_on" = some (some (.ref f_number_on)))
    (l_number_on : K.lookup f_number_on = some ⟨oc_number_on, od_number_on, .func (PySem.W.fnOf "number_on" "number_on" (defArgs d_number_on) (defBody d_number_on) (defScope d_number_on) .none kV_number_on dc_number_on pm_number_on an_number_on cd_number_on ct_number_on), sl_number_on⟩)
    (c_number_on : PySem.W.codeIn K cd_number_on "number_on" = true)
    (k_number_on : PySem.W.keepIn K (.ref f_number_on) = true)
    (a_share_on : PySem.W.nsIn K mainGlobals "share_on" = some (some (.ref f_share_on)))
    (l_share_on : K.lookup f_share_on = some ⟨oc_share_on, od_share_on, .func (PySem.W.fnOf "share_on" "share_on" (defArgs d_share_on) (defBody d_share_on) (defScope d_share_on) .none kV_share_on dc_share_on pm_share_on an_share_on cd_share_on ct_share_on), sl_share_on⟩)
    (c_share_on : PySem.W.codeIn K cd_share_on "share_on" = true)
    (k_share_on : PySem.W.keepIn K (.ref f_share_on) = true)
    (a_sooner : PySem.W.nsIn K mainGlobals "sooner" = some (some (.ref f_sooner)))
    (l_sooner : K.lookup f_sooner = some ⟨oc_sooner, od_sooner, .func (PySem.W.fnOf "sooner" "sooner" (defArgs d_sooner) (defBody d_sooner) (defScope d_sooner) .none kV_sooner dc_sooner pm_sooner an_sooner cd_sooner ct_sooner), sl_sooner⟩)
    (c_sooner : PySem.W.codeIn K cd_sooner "sooner" = true)
    (k_sooner : PySem.W.keepIn K (.ref f_sooner) = true)
    (a_beside : PySem.W.nsIn K mainGlobals "beside" = some (some (.ref f_beside)))
    (l_beside : K.lookup f_beside = some ⟨oc_beside, od_beside, .func (PySem.W.fnOf "beside" "beside" (defArgs d_beside) (defBody d_beside) (defScope d_beside) .none kV_beside dc_beside pm_beside an_beside cd_beside ct_beside), sl_beside⟩)
    (c_beside : PySem.W.codeIn K cd_beside "beside" = true)
    (k_beside : PySem.W.keepIn K (.ref f_beside) = true)
    (a_are_stretches : PySem.W.nsIn K mainGlobals "are_stretches" = some (some (.ref f_are_stretches)))
    (l_are_stretches : K.lookup f_are_stretches = some ⟨oc_are_stretches, od_are_stretches, .func (PySem.W.fnOf "are_stretches" "are_stretches" (defArgs d_are_stretches) (defBody d_are_stretches) (defScope d_are_stretches) .none kV_are_stretches dc_are_stretches pm_are_stretches an_are_stretches cd_are_stretches ct_are_stretches), sl_are_stretches⟩)
    (c_are_stretches : PySem.W.codeIn K cd_are_stretches "are_stretches" = true)
    (k_are_stretches : PySem.W.keepIn K (.ref f_are_stretches) = true)
    (a_is_stretch : PySem.W.nsIn K mainGlobals "is_stretch" = some (some (.ref f_is_stretch)))
    (l_is_stretch : K.lookup f_is_stretch = some ⟨oc_is_stretch, od_is_stretch, .func (PySem.W.fnOf "is_stretch" "is_stretch" (defArgs d_is_stretch) (defBody d_is_stretch) (defScope d_is_stretch) .none kV_is_stretch dc_is_stretch pm_is_stretch an_is_stretch cd_is_stretch ct_is_stretch), sl_is_stretch⟩)
    (c_is_stretch : PySem.W.codeIn K cd_is_stretch "is_stretch" = true)
    (k_is_stretch : PySem.W.keepIn K (.ref f_is_stretch) = true)
    (a_is_word : PySem.W.nsIn K mainGlobals "is_word" = some (some (.ref f_is_word)))
    (l_is_word : K.lookup f_is_word = some ⟨oc_is_word, od_is_word, .func (PySem.W.fnOf "is_word" "is_word" (defArgs d_is_word) (defBody d_is_word) (defScope d_is_word) .none kV_is_word dc_is_word pm_is_word an_is_word cd_is_word ct_is_word), sl_is_word⟩)
    (c_is_word : PySem.W.codeIn K cd_is_word "is_word" = true)
    (k_is_word : PySem.W.keepIn K (.ref f_is_word) = true)
    (a_on : PySem.W.nsIn K mainGlobals "on" = some (some (.ref f_on)))
    (l_on : K.lookup f_on = some ⟨oc_on, od_on, .func (PySem.W.fnOf "on" "on" (defArgs d_on) (defBody d_on) (defScope d_on) .none kV_on dc_on pm_on an_on cd_on ct_on), sl_on⟩)
    (c_on : PySem.W.codeIn K cd_on "on" = true)
    (k_on : PySem.W.keepIn K (.ref f_on) = true)
    (a_sum_to : PySem.W.nsIn K mainGlobals "sum_to" = some (some (.ref f_sum_to)))
    (l_sum_to : K.lookup f_sum_to = some ⟨oc_sum_to, od_sum_to, .func (PySem.W.fnOf "sum_to" "sum_to" (defArgs d_sum_to) (defBody d_sum_to) (defScope d_sum_to) .none kV_sum_to dc_sum_to pm_sum_to an_sum_to cd_sum_to ct_sum_to), sl_sum_to⟩)
    (c_sum_to : PySem.W.codeIn K cd_sum_to "sum_to" = true)
    (k_sum_to : PySem.W.keepIn K (.ref f_sum_to) = true)
    (a_first_unlike : PySem.W.nsIn K mainGlobals "first_unlike" = some (some (.ref f_first_unlike)))
    (l_first_unlike : K.lookup f_first_unlike = some ⟨oc_first_unlike, od_first_unlike, .func (PySem.W.fnOf "first_unlike" "first_unlike" (defArgs d_first_unlike) (defBody d_first_unlike) (defScope d_first_unlike) .none kV_first_unlike dc_first_unlike pm_first_unlike an_first_unlike cd_first_unlike ct_first_unlike), sl_first_unlike⟩)
    (c_first_unlike : PySem.W.codeIn K cd_first_unlike "first_unlike" = true)
    (k_first_unlike : PySem.W.keepIn K (.ref f_first_unlike) = true)
    (a_law_well : PySem.W.nsIn K mainGlobals "_law_well" = some (some (.ref f_law_well)))
    (l_law_well : K.lookup f_law_well = some ⟨oc_law_well, od_law_well, .func (PySem.W.fnOf "_law_well" "_law_well" (defArgs d_law_well) (defBody d_law_well) (defScope d_law_well) .none kV_law_well dc_law_well pm_law_well an_law_well cd_law_well ct_law_well), sl_law_well⟩)
    (c_law_well : PySem.W.codeIn K cd_law_well "_law_well" = true)
    (k_law_well : PySem.W.keepIn K (.ref f_law_well) = true)
    (a_law_draw : PySem.W.nsIn K mainGlobals "_law_draw" = some (some (.ref f_law_draw)))
    (l_law_draw : K.lookup f_law_draw = some ⟨oc_law_draw, od_law_draw, .func (PySem.W.fnOf "_law_draw" "_law_draw" (defArgs d_law_draw) (defBody d_law_draw) (defScope d_law_draw) .none kV_law_draw dc_law_draw pm_law_draw an_law_draw cd_law_draw ct_law_draw), sl_law_draw⟩)
    (c_law_draw : PySem.W.codeIn K cd_law_draw "_law_draw" = true)
    (k_law_draw : PySem.W.keepIn K (.ref f_law_draw) = true)
    (a_law_one : PySem.W.nsIn K mainGlobals "_law_one" = some (some (.ref f_law_one)))
    (l_law_one : K.lookup f_law_one = some ⟨oc_law_one, od_law_one, .func (PySem.W.fnOf "_law_one" "_law_one" (defArgs d_law_one) (defBody d_law_one) (defScope d_law_one) .none kV_law_one dc_law_one pm_law_one an_law_one cd_law_one ct_law_one), sl_law_one⟩)
    (c_law_one : PySem.W.codeIn K cd_law_one "_law_one" = true)
    (k_law_one : PySem.W.keepIn K (.ref f_law_one) = true)
    (a_law_low : PySem.W.nsIn K mainGlobals "_law_low" = some (some (.ref f_law_low)))
    (l_law_low : K.lookup f_law_low = some ⟨oc_law_low, od_law_low, .func (PySem.W.fnOf "_law_low" "_law_low" (defArgs d_law_low) (defBody d_law_low) (defScope d_law_low) .none kV_law_low dc_law_low pm_law_low an_law_low cd_law_low ct_law_low), sl_law_low⟩)
    (c_law_low : PySem.W.codeIn K cd_law_low "_law_low" = true)
    (k_law_low : PySem.W.keepIn K (.ref f_law_low) = true)
    (a_law_pair : PySem.W.nsIn K mainGlobals "_law_pair" = some (some (.ref f_law_pair)))
    (l_law_pair : K.lookup f_law_pair = some ⟨oc_law_pair, od_law_pair, .func (PySem.W.fnOf "_law_pair" "_law_pair" (defArgs d_law_pair) (defBody d_law_pair) (defScope d_law_pair) .none kV_law_pair dc_law_pair pm_law_pair an_law_pair cd_law_pair ct_law_pair), sl_law_pair⟩)
    (c_law_pair : PySem.W.codeIn K cd_law_pair "_law_pair" = true)
    (k_law_pair : PySem.W.keepIn K (.ref f_law_pair) = true)
    (a_law_sum : PySem.W.nsIn K mainGlobals "_law_sum" = some (some (.ref f_law_sum)))
    (l_law_sum : K.lookup f_law_sum = some ⟨oc_law_sum, od_law_sum, .func (PySem.W.fnOf "_law_sum" "_law_sum" (defArgs d_law_sum) (defBody d_law_sum) (defScope d_law_sum) .none kV_law_sum dc_law_sum pm_law_sum an_law_sum cd_law_sum ct_law_sum), sl_law_sum⟩)
    (c_law_sum : PySem.W.codeIn K cd_law_sum "_law_sum" = true)
    (k_law_sum : PySem.W.keepIn K (.ref f_law_sum) = true)
    (a_law_by : PySem.W.nsIn K mainGlobals "_law_by" = some (some (.ref f_law_by)))
    (l_law_by : K.lookup f_law_by = some ⟨oc_law_by, od_law_by, .func (PySem.W.fnOf "_law_by" "_law_by" (defArgs d_law_by) (defBody d_law_by) (defScope d_law_by) .none kV_law_by dc_law_by pm_law_by an_law_by cd_law_by ct_law_by), sl_law_by⟩)
    (c_law_by : PySem.W.codeIn K cd_law_by "_law_by" = true)
    (k_law_by : PySem.W.keepIn K (.ref f_law_by) = true)
    (a_law_word : PySem.W.nsIn K mainGlobals "_law_word" = some (some (.ref f_law_word)))
    (l_law_word : K.lookup f_law_word = some ⟨oc_law_word, od_law_word, .func (PySem.W.fnOf "_law_word" "_law_word" (defArgs d_law_word) (defBody d_law_word) (defScope d_law_word) .none kV_law_word dc_law_word pm_law_word an_law_word cd_law_word ct_law_word), sl_law_word⟩)
    (c_law_word : PySem.W.codeIn K cd_law_word "_law_word" = true)
    (k_law_word : PySem.W.keepIn K (.ref f_law_word) = true)
    (a_law_stretches : PySem.W.nsIn K mainGlobals "_law_stretches" = some (some (.ref f_law_stretches)))
    (l_law_stretches : K.lookup f_law_stretches = some ⟨oc_law_stretches, od_law_stretches, .func (PySem.W.fnOf "_law_stretches" "_law_stretches" (defArgs d_law_stretches) (defBody d_law_stretches) (defScope d_law_stretches) .none kV_law_stretches dc_law_stretches pm_law_stretches an_law_stretches cd_law_stretches ct_law_stretches), sl_law_stretches⟩)
    (c_law_stretches : PySem.W.codeIn K cd_law_stretches "_law_stretches" = true)
    (k_law_stretches : PySem.W.keepIn K (.ref f_law_stretches) = true)
    (a_law_course : PySem.W.nsIn K mainGlobals "_law_course" = some (some (.ref f_law_course)))
    (l_law_course : K.lookup f_law_course = some ⟨oc_law_course, od_law_course, .func (PySem.W.fnOf "_law_course" "_law_course" (defArgs d_law_course) (defBody d_law_course) (defScope d_law_course) .none kV_law_course dc_law_course pm_law_course an_law_course cd_law_course ct_law_course), sl_law_course⟩)
    (c_law_course : PySem.W.codeIn K cd_law_course "_law_course" = true)
    (k_law_course : PySem.W.keepIn K (.ref f_law_course) = true)
    (a_law_on : PySem.W.nsIn K mainGlobals "_law_on" = some (some (.ref f_law_on)))
    (l_law_on : K.lookup f_law_on = some ⟨oc_law_on, od_law_on, .func (PySem.W.fnOf "_law_on" "_law_on" (defArgs d_law_on) (defBody d_law_on) (defScope d_law_on) .none kV_law_on dc_law_on pm_law_on an_law_on cd_law_on ct_law_on), sl_law_on⟩)
    (c_law_on : PySem.W.codeIn K cd_law_on "_law_on" = true)
    (k_law_on : PySem.W.keepIn K (.ref f_law_on) = true)
    (a_law_great : PySem.W.nsIn K mainGlobals "_law_great" = some (some (.ref f_law_great)))
    (l_law_great : K.lookup f_law_great = some ⟨oc_law_great, od_law_great, .func (PySem.W.fnOf "_law_great" "_law_great" (defArgs d_law_great) (defBody d_law_great) (defScope d_law_great) .none kV_law_great dc_law_great pm_law_great an_law_great cd_law_great ct_law_great), sl_law_great⟩)
    (c_law_great : PySem.W.codeIn K cd_law_great "_law_great" = true)
    (k_law_great : PySem.W.keepIn K (.ref f_law_great) = true)
    (a_law_sum_to : PySem.W.nsIn K mainGlobals "_law_sum_to" = some (some (.ref f_law_sum_to)))
    (l_law_sum_to : K.lookup f_law_sum_to = some ⟨oc_law_sum_to, od_law_sum_to, .func (PySem.W.fnOf "_law_sum_to" "_law_sum_to" (defArgs d_law_sum_to) (defBody d_law_sum_to) (defScope d_law_sum_to) .none kV_law_sum_to dc_law_sum_to pm_law_sum_to an_law_sum_to cd_law_sum_to ct_law_sum_to), sl_law_sum_to⟩)
    (c_law_sum_to : PySem.W.codeIn K cd_law_sum_to "_law_sum_to" = true)
    (k_law_sum_to : PySem.W.keepIn K (.ref f_law_sum_to) = true)
    (a_law_refused : PySem.W.nsIn K mainGlobals "_law_refused" = some (some (.ref f_law_refused)))
    (l_law_refused : K.lookup f_law_refused = some ⟨oc_law_refused, od_law_refused, .func (PySem.W.fnOf "_law_refused" "_law_refused" (defArgs d_law_refused) (defBody d_law_refused) (defScope d_law_refused) .none kV_law_refused dc_law_refused pm_law_refused an_law_refused cd_law_refused ct_law_refused), sl_law_refused⟩)
    (c_law_refused : PySem.W.codeIn K cd_law_refused "_law_refused" = true)
    (k_law_refused : PySem.W.keepIn K (.ref f_law_refused) = true)
    (a_law_spots : PySem.W.nsIn K mainGlobals "_law_spots" = some (some (.ref f_law_spots)))
    (l_law_spots : K.lookup f_law_spots = some ⟨oc_law_spots, od_law_spots, .func (PySem.W.fnOf "_law_spots" "_law_spots" (defArgs d_law_spots) (defBody d_law_spots) (defScope d_law_spots) .none kV_law_spots dc_law_spots pm_law_spots an_law_spots cd_law_spots ct_law_spots), sl_law_spots⟩)
    (c_law_spots : PySem.W.codeIn K cd_law_spots "_law_spots" = true)
    (k_law_spots : PySem.W.keepIn K (.ref f_law_spots) = true)
    (a_law : PySem.W.nsIn K mainGlobals "law" = some (some (.ref f_law)))
    (l_law : K.lookup f_law = some ⟨oc_law, od_law, .func (PySem.W.fnOf "law" "law" (defArgs d_law) (defBody d_law) (defScope d_law) .none kV_law dc_law pm_law an_law (.ref cc) ct_law), sl_law⟩)
    (c_law : PySem.W.codeIn K (.ref cc) "law" = true)
    (k_law : PySem.W.keepIn K (.ref f_law) = true)
    (lC : K.lookup cc = some ⟨.type "code", dcC, .fields vcC, scC⟩)
    (vC : vcC[11]? = some (.ref Pt))
    (hC : PySem.W.codeHdIn K cc Pt = true)
    (nP : K.lookup Pt = none)
    (tP : h.get? Pt = some { cls := .none, data := .fields #[] })
    (gs : PySem.W.specialIn K (.builtin "object.__class__") "__get__" = some (some (.builtin "getset_descriptor.__get__")))
    (gt : PySem.W.takesIn K (.builtin "object.__class__") = some true)
    : ∃ (fd : FuncData) (cc Pt : Addr), h.get? Pt = some { cls := .none, data := .fields #[] } ∧ K.lookup Pt = none ∧ PySem.W.CodeHd h cc Pt ∧ (∀ (s : Shared) (v : Value), BindsTo s fd ⟨[v], []⟩ [("script", v)]) ∧ ∀ base : Heap, K.In base → base.Ns mainGlobals mg → TabB base mg cc Pt → FnOk P w K mg base CX0 8 fa fd ["script"] (spLaw K Pt) := by
  have e := hfa.symm.trans (PySem.W.mg_of X G a_law)
  cases e
  have z_ValueError := PySem.W.mg_none_of X G z_ValueError
  have z_abs := PySem.W.mg_none_of X G z_abs
  have z_all := PySem.W.mg_none_of X G z_all
  have z_any := PySem.W.mg_none_of X G z_any
  have z_bool := PySem.W.mg_none_of X G z_bool
  have z_divmod := PySem.W.mg_none_of X G z_divmod
  have z_enumerate := PySem.W.mg_none_of X G z_enumerate
  have z_int := PySem.W.mg_none_of X G z_int
  have z_isinstance := PySem.W.mg_none_of X G z_isinstance
  have z_len := PySem.W.mg_none_of X G z_len
  have z_list := PySem.W.mg_none_of X G z_list
  have z_max := PySem.W.mg_none_of X G z_max
  have z_min := PySem.W.mg_none_of X G z_min
  have z_range := PySem.W.mg_none_of X G z_range
  have z_sum := PySem.W.mg_none_of X G z_sum
  have z_tuple := PySem.W.mg_none_of X G z_tuple
  have i_gcd := PySem.W.mg_of X G i_gcd
  have i_lcm := PySem.W.mg_of X G i_lcm
  have g_LAST_DAY := PySem.W.mg_of X G g_LAST_DAY
  have g_MOST_STRETCHES := PySem.W.mg_of X G g_MOST_STRETCHES
  have g_MOST_SHARES := PySem.W.mg_of X G g_MOST_SHARES
  have mcRillError := PySem.W.mg_of X G acRillError
  have mcNoShare := PySem.W.mg_of X G acNoShare
  have mcNoCourse := PySem.W.mg_of X G acNoCourse
  have mcNoDay := PySem.W.mg_of X G acNoDay
  have mcShare := PySem.W.mg_of X G acShare
  have mcCourse := PySem.W.mg_of X G acCourse
  have ErRillError : ErrC K mg "RillError" cRillError := ⟨PySem.W.mg_of X G acRillError, xcRillError, kcRillError, bcRillError, tcRillError⟩
  have ErNoShare : ErrC K mg "NoShare" cNoShare := ⟨PySem.W.mg_of X G acNoShare, xcNoShare, kcNoShare, bcNoShare, tcNoShare⟩
  have ErNoCourse : ErrC K mg "NoCourse" cNoCourse := ⟨PySem.W.mg_of X G acNoCourse, xcNoCourse, kcNoCourse, bcNoCourse, tcNoCourse⟩
  have ErNoDay : ErrC K mg "NoDay" cNoDay := ⟨PySem.W.mg_of X G acNoDay, xcNoDay, kcNoDay, bcNoDay, tcNoDay⟩
  have F_Share_init : FunD K "__init__" "Share.__init__" (defArgs d_Share_init) (defBody d_Share_init) (defScope d_Share_init) [.int 1] [] f_Share_init _ := ⟨⟨_, _, _, _, _, _, _, _, _, _, rfl, l_Share_init, c_Share_init, .inr ⟨(fun z => nomatch z), TD_Share_init, _, [Value.int 1 tkTD_Share_init], nTD_Share_init, rfl, lTD_Share_init, rfl, .cons ⟨tkTD_Share_init, rfl⟩ .nil⟩, .inl rfl⟩, k_Share_init⟩
  obtain ⟨ds_Share_init3, rd_Share_init3, b_Share_init3⟩ := FunD.binds1 (ps := ["self", "top", "bottom"]) F_Share_init 3 1 (fun z => nomatch z) rfl (fun T kV doc pm an cdv ct us its hu hi => match us, its, hu, hi with | [_, _, _], [_], _, _ => ⟨_, rfl, rfl⟩)
  obtain ⟨ds_Share_init2, rd_Share_init2, b_Share_init2⟩ := FunD.binds1 (ps := ["self", "top", "bottom"]) F_Share_init 2 0 (fun z => nomatch z) rfl (fun T kV doc pm an cdv ct us its hu hi => match us, its, hu, hi with | [_, _], [_], _, _ => ⟨_, rfl, rfl⟩)
  cases rd_Share_init3
  obtain ⟨u0_Share_init, rfl⟩ : ∃ u0, ds_Share_init2 = [u0] := by
    cases rd_Share_init2 with
    | cons r1 rn =>
      cases rn
      exact ⟨_, rfl⟩
  have F_Share_eq := fun_mk (st := d_Share_eq) l_Share_eq c_Share_eq k_Share_eq
  have b_Share_eq := F_Share_eq.binds (ps := ["self", "other"]) fun _ _ _ _ _ _ us hl => match us, hl with | [_, _], _ => rfl
  have F_Course_init := fun_mk (st := d_Course_init) l_Course_init c_Course_init k_Course_init
  have b_Course_init := F_Course_init.binds (ps := ["self", "stretches"]) fun _ _ _ _ _ _ us hl => match us, hl with | [_, _], _ => rfl
  have F_Course_eq := fun_mk (st := d_Course_eq) l_Course_eq c_Course_eq k_Course_eq
  have b_Course_eq := F_Course_eq.binds (ps := ["self", "other"]) fun _ _ _ _ _ _ us hl => match us, hl with | [_, _], _ => rfl
  have F_is_whole := fun_mk (st := d_is_whole) l_is_whole c_is_whole k_is_whole
  have m_is_whole := PySem.W.mg_of X G a_is_whole
  have b_is_whole := F_is_whole.binds (ps := ["thing"]) fun _ _ _ _ _ _ us hl => match us, hl with | [_], _ => rfl
  have F_is_between := fun_mk (st := d_is_between) l_is_between c_is_between k_is_between
  have m_is_between := PySem.W.mg_of X G a_is_between
  have b_is_between := F_is_between.binds (ps := ["thing", "least", "most"]) fun _ _ _ _ _ _ us hl => match us, hl with | [_, _, _], _ => rfl
  have F_is_day := fun_mk (st := d_is_day) l_is_day c_is_day k_is_day
  have m_is_day := PySem.W.mg_of X G a_is_day
  have b_is_day := F_is_day.binds (ps := ["thing"]) fun _ _ _ _ _ _ us hl => match us, hl with | [_], _ => rfl
  have F_total := fun_mk (st := d_total) l_total c_total k_total
  have m_total := PySem.W.mg_of X G a_total
  have b_total := F_total.binds (ps := ["shares"]) fun _ _ _ _ _ _ us hl => match us, hl with | [_], _ => rfl
  have F_least_word := fun_mk (st := d_least_word) l_least_word c_least_word k_least_word
  have m_least_word := PySem.W.mg_of X G a_least_word
  have b_least_word := F_least_word.binds (ps := ["word"]) fun _ _ _ _ _ _ us hl => match us, hl with | [_], _ => rfl
  have F_spans_of := fun_mk (st := d_spans_of) l_spans_of c_spans_of k_spans_of
  have m_spans_of := PySem.W.mg_of X G a_spans_of
  have b_spans_of := F_spans_of.binds (ps := ["stretches"]) fun _ _ _ _ _ _ us hl => match us, hl with | [_], _ => rfl
  have F_number_on := fun_mk (st := d_number_on) l_number_on c_number_on k_number_on
  have m_number_on := PySem.W.mg_of X G a_number_on
  have b_number_on := F_number_on.binds (ps := ["spans", "day"]) fun _ _ _ _ _ _ us hl => match us, hl with | [_, _], _ => rfl
  have F_share_on := fun_mk (st := d_share_on) l_share_on c_share_on k_share_on
  have m_share_on := PySem.W.mg_of X G a_share_on
  have b_share_on := F_share_on.binds (ps := ["span", "day"]) fun _ _ _ _ _ _ us hl => match us, hl with | [_, _], _ => rfl
  have F_sooner := fun_mk (st := d_sooner) l_sooner c_sooner k_sooner
  have m_sooner := PySem.W.mg_of X G a_sooner
  have b_sooner := F_sooner.binds (ps := ["one", "other"]) fun _ _ _ _ _ _ us hl => match us, hl with | [_, _], _ => rfl
  have F_beside := fun_mk (st := d_beside) l_beside c_beside k_beside
  have m_beside := PySem.W.mg_of X G a_beside
  have b_beside := F_beside.binds (ps := ["one", "other"]) fun _ _ _ _ _ _ us hl => match us, hl with | [_, _], _ => rfl
  have F_are_stretches := fun_mk (st := d_are_stretches) l_are_stretches c_are_stretches k_are_stretches
  have m_are_stretches := PySem.W.mg_of X G a_are_stretches
  have b_are_stretches := F_are_stretches.binds (ps := ["things"]) fun _ _ _ _ _ _ us hl => match us, hl with | [_], _ => rfl
  have F_is_stretch := fun_mk (st := d_is_stretch) l_is_stretch c_is_stretch k_is_stretch
  have m_is_stretch := PySem.W.mg_of X G a_is_stretch
  have b_is_stretch := F_is_stretch.binds (ps := ["thing"]) fun _ _ _ _ _ _ us hl => match us, hl with | [_], _ => rfl
  have F_is_word := fun_mk (st := d_is_word) l_is_word c_is_word k_is_word
  have m_is_word := PySem.W.mg_of X G a_is_word
  have b_is_word := F_is_word.binds (ps := ["thing"]) fun _ _ _ _ _ _ us hl => match us, hl with | [_], _ => rfl
  have F_on := fun_mk (st := d_on) l_on c_on k_on
  have m_on := PySem.W.mg_of X G a_on
  have b_on := F_on.binds (ps := ["course", "day"]) fun _ _ _ _ _ _ us hl => match us, hl with | [_, _], _ => rfl
  have F_sum_to := fun_mk (st := d_sum_to) l_sum_to c_sum_to k_sum_to
  have m_sum_to := PySem.W.mg_of X G a_sum_to
  have b_sum_to := F_sum_to.binds (ps := ["course", "days"]) fun _ _ _ _ _ _ us hl => match us, hl with | [_, _], _ => rfl
  have F_first_unlike := fun_mk (st := d_first_unlike) l_first_unlike c_first_unlike k_first_unlike
  have m_first_unlike := PySem.W.mg_of X G a_first_unlike
  have b_first_unlike := F_first_unlike.binds (ps := ["one", "other"]) fun _ _ _ _ _ _ us hl => match us, hl with | [_, _], _ => rfl
  have F_law_well := fun_mk (st := d_law_well) l_law_well c_law_well k_law_well
  have m_law_well := PySem.W.mg_of X G a_law_well
  have b_law_well := F_law_well.binds (ps := ["cell"]) fun _ _ _ _ _ _ us hl => match us, hl with | [_], _ => rfl
  have F_law_draw := fun_mk (st := d_law_draw) l_law_draw c_law_draw k_law_draw
  have m_law_draw := PySem.W.mg_of X G a_law_draw
  have b_law_draw := F_law_draw.binds (ps := ["well", "many"]) fun _ _ _ _ _ _ us hl => match us, hl with | [_, _], _ => rfl
  have F_law_one := fun_mk (st := d_law_one) l_law_one c_law_one k_law_one
  have m_law_one := PySem.W.mg_of X G a_law_one
  have b_law_one := F_law_one.binds (ps := ["well", "some"]) fun _ _ _ _ _ _ us hl => match us, hl with | [_, _], _ => rfl
  have F_law_low := fun_mk (st := d_law_low) l_law_low c_law_low k_law_low
  have m_law_low := PySem.W.mg_of X G a_law_low
  have b_law_low := F_law_low.binds (ps := ["top", "bottom"]) fun _ _ _ _ _ _ us hl => match us, hl with | [_, _], _ => rfl
  have F_law_pair := fun_mk (st := d_law_pair) l_law_pair c_law_pair k_law_pair
  have m_law_pair := PySem.W.mg_of X G a_law_pair
  have b_law_pair := F_law_pair.binds (ps := ["share"]) fun _ _ _ _ _ _ us hl => match us, hl with | [_], _ => rfl
  have F_law_sum := fun_mk (st := d_law_sum) l_law_sum c_law_sum k_law_sum
  have m_law_sum := PySem.W.mg_of X G a_law_sum
  have b_law_sum := F_law_sum.binds (ps := ["pairs"]) fun _ _ _ _ _ _ us hl => match us, hl with | [_], _ => rfl
  have F_law_by := fun_mk (st := d_law_by) l_law_by c_law_by k_law_by
  have m_law_by := PySem.W.mg_of X G a_law_by
  have b_law_by := F_law_by.binds (ps := ["one", "other"]) fun _ _ _ _ _ _ us hl => match us, hl with | [_, _], _ => rfl
  have F_law_word := fun_mk (st := d_law_word) l_law_word c_law_word k_law_word
  have m_law_word := PySem.W.mg_of X G a_law_word
  have b_law_word := F_law_word.binds (ps := ["well", "most", "far"]) fun _ _ _ _ _ _ us hl => match us, hl with | [_, _, _], _ => rfl
  have F_law_stretches := fun_mk (st := d_law_stretches) l_law_stretches c_law_stretches k_law_stretches
  have m_law_stretches := PySem.W.mg_of X G a_law_stretches
  have b_law_stretches := F_law_stretches.binds (ps := ["well", "most", "word", "long", "far"]) fun _ _ _ _ _ _ us hl => match us, hl with | [_, _, _, _, _], _ => rfl
  have F_law_course := fun_mk (st := d_law_course) l_law_course c_law_course k_law_course
  have m_law_course := PySem.W.mg_of X G a_law_course
  have b_law_course := F_law_course.binds (ps := ["told"]) fun _ _ _ _ _ _ us hl => match us, hl with | [_], _ => rfl
  have F_law_on := fun_mk (st := d_law_on) l_law_on c_law_on k_law_on
  have m_law_on := PySem.W.mg_of X G a_law_on
  have b_law_on := F_law_on.binds (ps := ["told", "day"]) fun _ _ _ _ _ _ us hl => match us, hl with | [_, _], _ => rfl
  have F_law_great := fun_mk (st := d_law_great) l_law_great c_law_great k_law_great
  have m_law_great := PySem.W.mg_of X G a_law_great
  have b_law_great := F_law_great.binds (ps := ["well"]) fun _ _ _ _ _ _ us hl => match us, hl with | [_], _ => rfl
  have F_law_sum_to := fun_mk (st := d_law_sum_to) l_law_sum_to c_law_sum_to k_law_sum_to
  have m_law_sum_to := PySem.W.mg_of X G a_law_sum_to
  have b_law_sum_to := F_law_sum_to.binds (ps := ["told", "many"]) fun _ _ _ _ _ _ us hl => match us, hl with | [_, _], _ => rfl
  have F_law_refused := fun_mk (st := d_law_refused) l_law_refused c_law_refused k_law_refused
  have m_law_refused := PySem.W.mg_of X G a_law_refused
  have b_law_refused := F_law_refused.binds (ps := ["ask"]) fun _ _ _ _ _ _ us hl => match us, hl with | [_], _ => rfl
  have F_law_spots := fun_mk (st := d_law_spots) l_law_spots c_law_spots k_law_spots
  have m_law_spots := PySem.W.mg_of X G a_law_spots
  have b_law_spots := F_law_spots.binds (ps := ["well", "told"]) fun _ _ _ _ _ _ us hl => match us, hl with | [_, _], _ => rfl
  have F_law := fun_mk (st := d_law) l_law c_law k_law
  have m_law := PySem.W.mg_of X G a_law
  refine ⟨PySem.W.fnOf "law" "law" (defArgs d_law) (defBody d_law) (defScope d_law) .none kV_law dc_law pm_law an_law (.ref cc) ct_law, cc, Pt, tP, nP, PySem.W.codeHd_of_K X hC, fun s v => .of_eq rfl, fun base _ _ TB => ?_⟩
  have T : Txt K mg cShare cNoShare := ⟨⟨pgcShare, hdcShare, pocShare, sacShare⟩, ncShare_top, ncShare_bottom, mcShare, i_gcd, z_isinstance, z_int, z_bool, mcNoShare, xcNoShare, kcNoShare, bcNoShare, tcNoShare, exm_own bcNoShare icNoShare tcNoShare scNoShare⟩
  have TI : TxtI K cShare := ⟨gccShare, gs, gt, gmcShare, mecShare, mcShare_tuple, mcShare_int, mcShare_NoneType⟩
  have TK : TxtK K cShare := ⟨ucShare_int, ucShare_bool⟩
  have Bt : TxtB mg := ⟨z_int, z_len, z_abs⟩
  have Yt : TxtY mg cShare := ⟨z_isinstance, z_tuple, z_list, z_all, z_any, z_len, mcShare⟩
  have TC : CrsC K cCourse := ⟨⟨pgcCourse, hdcCourse, pocCourse, sacCourse⟩, ncCourse_spans⟩
  have M : Mk K cShare f_Share_init := ⟨mkcShare, a_Share_init, i_Share_init, kccShare⟩
  have MC : Mk K cCourse f_Course_init := ⟨mkcCourse, a_Course_init, i_Course_init, kccCourse⟩
  have GW := ok_whole (P := P) (w := w) (mg := mg) (base := base) F_is_whole T
  have GI := ok_init (P := P) (w := w) (mg := mg) (base := base) F_Share_init T GW m_is_whole k_is_whole b_is_whole
  have GE := ok_eq (P := P) (w := w) (mg := mg) (base := base) F_Share_eq T TI
  have GWX := ok_wholeX (P := P) (w := w) (mg := mg) (base := base) F_is_whole z_isinstance z_int z_bool
  have GBw := ok_between (P := P) (w := w) (mg := mg) (base := base) F_is_between GWX m_is_whole k_is_whole b_is_whole
  have GDay := ok_day (P := P) (w := w) (mg := mg) (base := base) F_is_day GBw m_is_between k_is_between b_is_between g_LAST_DAY
  have GLe := ok_least (P := P) (w := w) (mg := mg) (base := base) F_least_word Bt z_range GE b_Share_eq a_Share_eq i_Share_eq
  have GSp := ok_spans (P := P) (w := w) (mg := mg) (base := base) F_spans_of GLe m_least_word k_least_word b_least_word
  have GSh := ok_share_on (P := P) (w := w) (mg := mg) (base := base) (C := cShare) F_share_on Bt
  have GNu := ok_num_on (P := P) (w := w) (mg := mg) (base := base) (C := cShare) F_number_on Bt
  have GOn := ok_on (P := P) (w := w) (mg := mg) (base := base) F_on TC ErNoDay GDay m_is_day k_is_day b_is_day GNu m_number_on k_number_on b_number_on GSh m_share_on k_share_on b_share_on
  have GWd := ok_wordG (P := P) (w := w) (mg := mg) (base := base) F_is_word Yt T TI g_MOST_SHARES
  have GSt := ok_strG (P := P) (w := w) (mg := mg) (base := base) F_is_stretch Yt GWd m_is_word k_is_word b_is_word GWX m_is_whole k_is_whole b_is_whole
  have GAr := ok_areG (P := P) (w := w) (mg := mg) (base := base) F_are_stretches Yt g_MOST_STRETCHES GSt m_is_stretch k_is_stretch b_is_stretch
  have GCi := ok_cinit (P := P) (w := w) (mg := mg) (base := base) F_Course_init TC ErNoCourse GAr m_are_stretches k_are_stretches b_are_stretches GSp m_spans_of k_spans_of b_spans_of
  have GTo := ok_total (P := P) (w := w) (mg := mg) (base := base) F_total T z_len z_sum i_lcm M GI b_Share_init3
  have GSu := ok_sum_to (P := P) (w := w) (mg := mg) (base := base) F_sum_to T TC ErNoDay Bt z_min z_divmod z_enumerate GDay m_is_day k_is_day b_is_day GTo m_total k_total b_total M GI b_Share_init3
  have GDr := ok_draw (P := P) (w := w) (mg := mg) (base := base) F_law_draw
  have GWe := ok_well (P := P) (w := w) (mg := mg) (base := base) F_law_well Bt
  have GO1 := ok_one (P := P) (w := w) (mg := mg) (base := base) F_law_one Bt GDr m_law_draw k_law_draw b_law_draw
  have GLo := ok_low (P := P) (w := w) (mg := mg) (base := base) F_law_low Bt
  have GBy := ok_by (P := P) (w := w) (mg := mg) (base := base) F_law_by GLo m_law_low k_law_low b_law_low
  have GPa := ok_pair (P := P) (w := w) (mg := mg) (base := base) F_law_pair T TI GLo m_law_low k_law_low b_law_low
  have GLs := ok_lsum (P := P) (w := w) (mg := mg) (base := base) F_law_sum GLo m_law_low k_law_low b_law_low
  have GLon := ok_lon (P := P) (w := w) (mg := mg) (base := base) F_law_on Bt
  have GLst := ok_lsum_to (P := P) (w := w) (mg := mg) (base := base) F_law_sum_to Bt z_min GLs m_law_sum k_law_sum b_law_sum GBy m_law_by k_law_by b_law_by
  have GLw := ok_lword (P := P) (w := w) (mg := mg) (base := base) F_law_word z_range GDr m_law_draw k_law_draw b_law_draw GO1 m_law_one k_law_one b_law_one GLo m_law_low k_law_low b_law_low
  have GSr := ok_lstr (P := P) (w := w) (mg := mg) (base := base) F_law_stretches z_range GDr m_law_draw k_law_draw b_law_draw GLw m_law_word k_law_word b_law_word
  have GLc := ok_lcrs (P := P) (w := w) (mg := mg) (base := base) F_law_course T z_tuple M GI b_Share_init3 mcCourse MC GCi b_Course_init
  have GGr := ok_lgrt (P := P) (w := w) (mg := mg) (base := base) F_law_great z_range GDr m_law_draw k_law_draw b_law_draw GLw m_law_word k_law_word b_law_word GLo m_law_low k_law_low b_law_low
  have GSs := ok_spots (P := P) (w := w) (mg := mg) (base := base) F_law_spots z_max GDr m_law_draw k_law_draw b_law_draw
  exact ok_law l_law c_law T TI TK Bt ErNoDay (exm_own bcNoDay icNoDay tcNoDay scNoDay) mcRillError TB l_law_refused c_law_refused k_law_refused m_law_refused M GI b_Share_init2 rd_Share_init2 ⟨GWe, m_law_well, k_law_well, b_law_well⟩ ⟨GSr, m_law_stretches, k_law_stretches, b_law_stretches⟩ ⟨GO1, m_law_one, k_law_one, b_law_one⟩ ⟨GDr, m_law_draw, k_law_draw, b_law_draw⟩ ⟨GGr, m_law_great, k_law_great, b_law_great⟩ ⟨GLc, m_law_course, k_law_course, b_law_course⟩ ⟨GSs, m_law_spots, k_law_spots, b_law_spots⟩ ⟨GPa, m_law_pair, k_law_pair, b_law_pair⟩ ⟨GOn, m_on, k_on, b_on⟩ ⟨GLon, m_law_on, k_law_on, b_law_on⟩ ⟨GSu, m_sum_to, k_sum_to, b_sum_to⟩ ⟨GLst, m_law_sum_to, k_law_sum_to, b_law_sum_to⟩
theorem walk {l : PySem.W.OpenLaw} {q : Program} {loose : List Str} {XP : (Str → Option Value) → Heap → Prop} {YP : World → Heap → Prop} {d : DefRec} {K : Params → PySem.W.Frag} (hn : l.most = some 63) (hdf : d.params.defaults = [])
    (hY : ∀ (w : World) (h : Heap), YP w h → (K w.params).In h)
    (F : ∀ (w : World) (mg : Str → Option Value) (fa : Addr) (h : Heap), YP w h → (K w.params).In h → h.Ns mainGlobals mg → mg d.name = some (.ref fa) →
      ∃ (fd : FuncData) (cc Pt : Addr), h.get? Pt = some { cls := .none, data := .fields #[] } ∧ (K w.params).lookup Pt = none ∧ PySem.W.CodeHd h cc Pt ∧ (∀ (s : Shared) (v : Value), BindsTo s fd ⟨[v], []⟩ [("script", v)]) ∧ ∀ base : Heap, (K w.params).In base → base.Ns mainGlobals mg → TabB base mg cc Pt → FnOk l.prog w (K w.params) mg base CX0 8 fa fd ["script"] (spLaw (K w.params) Pt)) :
    PySem.W.WalkO q loose XP YP l.row.toRowW d [] (fun f vs => PySem.call f vs) := by
  refine walk_ofTs (n := 63) (k := 8) (x := "script") (CX := fun _ => CX0) hn (by decide) hdf ⟨rfl, by decide, by decide⟩ hY (fun w mg fa h Y KX G hm => ?_) (fun _ _ _ _ _ z => z)
  obtain ⟨fd, cc, Pt, t1, t2, t3, hb, hF⟩ := F w mg fa h Y KX G hm
  have one : ∀ {Pr : Addr × Addr → Prop}, Pr (cc, Pt) → ∀ p ∈ [(cc, Pt)], Pr p := fun a p hp => by
    rw [List.mem_singleton.mp hp]
    exact a
  refine ⟨fd, [(cc, Pt)], spLaw (K w.params) Pt, one t1, one t2, one t3, hb, fun H a ns hl _ hT hS => ?_, fun base KB GB TB => hF base KB GB (TB _ (List.mem_singleton.mpr rfl))⟩
  exact law_told hl (hT _ (List.mem_singleton.mpr rfl)) hS
end K10

open PySem PySem.W PyProof.Rows in
set_option maxRecDepth 100000 in
set_option maxHeartbeats 0 in
theorem PySem.Challenge.cw_rillweb_k10_courses_told_holds : PySem.Challenge.rw_rillweb_k10_courses_told.Holds := by
  w_on; o_law; k_head; (case hw => w_witness2)
  k_fill
  refine K10.walk (l := PySem.Challenge.rw_rillweb_k10_courses_told) rfl rfl (fun w h Y => PySem.W.km_in_of Y) ?F
  case F =>
    intro w mg fa h Y KX G hmg
    refine' K10.all_mk KX G hmg ?z_ValueError ?z_abs ?z_all ?z_any ?z_bool ?z_divmod ?z_enumerate ?z_int ?z_isinstance ?z_len ?z_list ?z_max ?z_min ?z_range ?z_sum ?z_tuple ?i_gcd ?i_lcm ?g_LAST_DAY ?g_MOST_STRETCHES ?g_MOST_SHARES ?acRillError ?xcRillError ?kcRillError ?bcRillError ?tcRillError ?icRillError ?scRillError ?acNoShare ?xcNoShare ?kcNoShare ?bcNoShare ?tcNoShare ?icNoShare ?scNoShare ?acNoCourse ?xcNoCourse ?kcNoCourse ?bcNoCourse ?tcNoCourse ?icNoCourse ?scNoCourse ?acNoDay ?xcNoDay ?kcNoDay ?bcNoDay ?tcNoDay ?icNoDay ?scNoDay ?acShare ?pgcShare ?hdcShare ?pocShare ?sacShare ?mkcShare ?kccShare ?ncShare_bottom ?ncShare_top ?gccShare ?gmcShare ?mecShare ?mcShare_tuple ?ucShare_tuple ?mcShare_int ?ucShare_int ?mcShare_NoneType ?mcShare_list ?ucShare_list ?mcShare_str ?mcShare_bool ?ucShare_bool ?mcShare_dict ?a_Share_init ?i_Share_init ?l_Share_init ?c_Share_init ?k_Share_init ?lTD_Share_init ?a_Share_eq ?i_Share_eq ?l_Share_eq ?c_Share_eq ?k_Share_eq ?acCourse ?pgcCourse ?hdcCourse ?pocCourse ?sacCourse ?mkcCourse ?kccCourse ?ncCourse_spans ?gccCourse ?gmcCourse ?mecCourse ?mcCourse_tuple ?ucCourse_tuple ?mcCourse_int ?ucCourse_int ?mcCourse_NoneType ?mcCourse_list ?ucCourse_list ?mcCourse_str ?mcCourse_bool ?ucCourse_bool ?mcCourse_dict ?a_Course_init ?i_Course_init ?l_Course_init ?c_Course_init ?k_Course_init ?a_Course_eq ?i_Course_eq ?l_Course_eq ?c_Course_eq ?k_Course_eq ?a_is_whole ?l_is_whole ?c_is_whole ?k_is_whole ?a_is_between ?l_is_between ?c_is_between ?k_is_between ?a_is_day ?l_is_day ?c_is_day ?k_is_day ?a_total ?l_total ?c_total ?k_total ?a_least_word ?l_least_word ?c_least_word ?k_least_word ?a_spans_of ?l_spans_of ?c_spans_of ?k_spans_of ?a_number_on ?l_number_on ?c_number_on ?k_number_on ?a_share_on ?l_share_on ?c_share_on ?k_share_on ?a_sooner ?l_sooner ?c_sooner ?k_sooner ?a_beside ?l_beside ?c_beside ?k_beside ?a_are_stretches ?l_are_stretches ?c_are_stretches ?k_are_stretches ?a_is_stretch ?l_is_stretch ?c_is_stretch ?k_is_stretch ?a_is_word ?l_is_word ?c_is_word ?k_is_word ?a_on ?l_on ?c_on ?k_on ?a_sum_to ?l_sum_to ?c_sum_to ?k_sum_to ?a_first_unlike ?l_first_unlike ?c_first_unlike ?k_first_unlike ?a_law_well ?l_law_well ?c_law_well ?k_law_well ?a_law_draw ?l_law_draw ?c_law_draw ?k_law_draw ?a_law_one ?l_law_one ?c_law_one ?k_law_one ?a_law_low ?l_law_low ?c_law_low ?k_law_low ?a_law_pair ?l_law_pair ?c_law_pair ?k_law_pair ?a_law_sum ?l_law_sum ?c_law_sum ?k_law_sum ?a_law_by ?l_law_by ?c_law_by ?k_law_by ?a_law_word ?l_law_word ?c_law_word ?k_law_word ?a_law_stretches ?l_law_stretches ?c_law_stretches ?k_law_stretches ?a_law_course ?l_law_course ?c_law_course ?k_law_course ?a_law_on ?l_law_on ?c_law_on ?k_law_on ?a_law_great ?l_law_great ?c_law_great ?k_law_great ?a_law_sum_to ?l_law_sum_to ?c_law_sum_to ?k_law_sum_to ?a_law_refused ?l_law_refused ?c_law_refused ?k_law_refused ?a_law_spots ?l_law_spots ?c_law_spots ?k_law_spots ?a_law ?l_law ?c_law ?k_law ?lC ?vC ?hC ?nP ?tP ?gs ?gt
    (case z_ValueError => k_is)
    (case z_abs => k_is)
    (case z_all => k_is)
    (case z_any => k_is)
    (case z_bool => k_is)
    (case z_divmod => k_is)
    (case z_enumerate => k_is)
    (case z_int => k_is)
    (case z_isinstance => k_is)
    (case z_len => k_is)
    (case z_list => k_is)
    (case z_max => k_is)
    (case z_min => k_is)
    (case z_range => k_is)
    (case z_sum => k_is)
    (case z_tuple => k_is)
    (case i_gcd => k_is)
    (case i_lcm => k_is)
    (case g_LAST_DAY => k_is)
    (case g_MOST_STRETCHES => k_is)
    (case g_MOST_SHARES => k_is)
    (case acRillError => k_is)
    (case xcRillError => k_exc)
    (case kcRillError => k_is)
    (case bcRillError => k_is)
    (case tcRillError => k_is)
    (case icRillError => k_is)
    (case scRillError => first | rfl | k_is)
    (case acNoShare => k_is)
    (case xcNoShare => k_exc)
    (case kcNoShare => k_is)
    (case bcNoShare => k_is)
    (case tcNoShare => k_is)
    (case icNoShare => k_is)
    (case scNoShare => first | rfl | k_is)
    (case acNoCourse => k_is)
    (case xcNoCourse => k_exc)
    (case kcNoCourse => k_is)
    (case bcNoCourse => k_is)
    (case tcNoCourse => k_is)
    (case icNoCourse => k_is)
    (case scNoCourse => first | rfl | k_is)
    (case acNoDay => k_is)
    (case xcNoDay => k_exc)
    (case kcNoDay => k_is)
    (case bcNoDay => k_is)
    (case tcNoDay => k_is)
    (case icNoDay => k_is)
    (case scNoDay => first | rfl | k_is)
    (case acShare => k_is)
    (case pgcShare => k_is)
    (case hdcShare => k_is)
    (case pocShare => k_is)
    (case sacShare => k_is)
    (case mkcShare => k_is)
    (case kccShare => k_is)
    (case ncShare_bottom => k_is)
    (case ncShare_top => k_is)
    (case gccShare => k_is)
    (case gmcShare => k_is)
    (case mecShare => first | rfl | k_is)
    (case mcShare_tuple => first | rfl | k_is)
    (case ucShare_tuple => first | rfl | k_is)
    (case mcShare_int => first | rfl | k_is)
    (case ucShare_int => first | rfl | k_is)
    (case mcShare_NoneType => first | rfl | k_is)
    (case mcShare_list => first | rfl | k_is)
    (case ucShare_list => first | rfl | k_is)
    (case mcShare_str => first | rfl | k_is)
    (case mcShare_bool => first | rfl | k_is)
    (case ucShare_bool => first | rfl | k_is)
    (case mcShare_dict => first | rfl | k_is)
    (case a_Share_init => k_is)
    (case i_Share_init => k_is)
    (case l_Share_init => k_is)
    (case c_Share_init => k_is)
    (case k_Share_init => k_is)
    (case lTD_Share_init => k_is)
    (case a_Share_eq => k_is)
    (case i_Share_eq => k_is)
    (case l_Share_eq => k_is)
    (case c_Share_eq => k_is)
    (case k_Share_eq => k_is)
    (case acCourse => k_is)
    (case pgcCourse => k_is)
    (case hdcCourse => k_is)
    (case pocCourse => k_is)
    (case sacCourse => k_is)
    (case mkcCourse => k_is)
    (case kccCourse => k_is)
    (case ncCourse_spans => k_is)
    (case gccCourse => k_is)
    (case gmcCourse => k_is)
    (case mecCourse => first | rfl | k_is)
    (case mcCourse_tuple => first | rfl | k_is)
    (case ucCourse_tuple => first | rfl | k_is)
    (case mcCourse_int => first | rfl | k_is)
    (case ucCourse_int => first | rfl | k_is)
    (case mcCourse_NoneType => first | rfl | k_is)
    (case mcCourse_list => first | rfl | k_is)
    (case ucCourse_list => first | rfl | k_is)
    (case mcCourse_str => first | rfl | k_is)
    (case mcCourse_bool => first | rfl | k_is)
    (case ucCourse_bool => first | rfl | k_is)
    (case mcCourse_dict => first | rfl | k_is)
    (case a_Course_init => k_is)
    (case i_Course_init => k_is)
    (case l_Course_init => k_is)
    (case c_Course_init => k_is)
    (case k_Course_init => k_is)
    (case a_Course_eq => k_is)
    (case i_Course_eq => k_is)
    (case l_Course_eq => k_is)
    (case c_Course_eq => k_is)
    (case k_Course_eq => k_is)
    (case a_is_whole => k_is)
    (case l_is_whole => k_is)
    (case c_is_whole => k_is)
    (case k_is_whole => k_is)
    (case a_is_between => k_is)
    (case l_is_between => k_is)
    (case c_is_between => k_is)
    (case k_is_between => k_is)
    (case a_is_day => k_is)
    (case l_is_day => k_is)
    (case c_is_day => k_is)
    (case k_is_day => k_is)
    (case a_total => k_is)
    (case l_total => k_is)
    (case c_total => k_is)
    (case k_total => k_is)
    (case a_least_word => k_is)
    (case l_least_word => k_is)
    (case c_least_word => k_is)
    (case k_least_word => k_is)
    (case a_spans_of => k_is)
    (case l_spans_of => k_is)
    (case c_spans_of => k_is)
    (case k_spans_of => k_is)
    (case a_number_on => k_is)
    (case l_number_on => k_is)
    (case c_number_on => k_is)
    (case k_number_on => k_is)
    (case a_share_on => k_is)
    (case l_share_on => k_is)
    (case c_share_on => k_is)
    (case k_share_on => k_is)
    (case a_sooner => k_is)
    (case l_sooner => k_is)
    (case c_sooner => k_is)
    (case k_sooner => k_is)
    (case a_beside => k_is)
    (case l_beside => k_is)
    (case c_beside => k_is)
    (case k_beside => k_is)
    (case a_are_stretches => k_is)
    (case l_are_stretches => k_is)
    (case c_are_stretches => k_is)
    (case k_are_stretches => k_is)
    (case a_is_stretch => k_is)
    (case l_is_stretch => k_is)
    (case c_is_stretch => k_is)
    (case k_is_stretch => k_is)
    (case a_is_word => k_is)
    (case l_is_word => k_is)
    (case c_is_word => k_is)
    (case k_is_word => k_is)
    (case a_on => k_is)
    (case l_on => k_is)
    (case c_on => k_is)
    (case k_on => k_is)
    (case a_sum_to => k_is)
    (case l_sum_to => k_is)
    (case c_sum_to => k_is)
    (case k_sum_to => k_is)
    (case a_first_unlike => k_is)
    (case l_first_unlike => k_is)
    (case c_first_unlike => k_is)
    (case k_first_unlike => k_is)
    (case a_law_well => k_is)
    (case l_law_well => k_is)
    (case c_law_well => k_is)
    (case k_law_well => k_is)
    (case a_law_draw => k_is)
    (case l_law_draw => k_is)
    (case c_law_draw => k_is)
    (case k_law_draw => k_is)
    (case a_law_one => k_is)
    (case l_law_one => k_is)
    (case c_law_one => k_is)
    (case k_law_one => k_is)
    (case a_law_low => k_is)
    (case l_law_low => k_is)
    (case c_law_low => k_is)
    (case k_law_low => k_is)
    (case a_law_pair => k_is)
    (case l_law_pair => k_is)
    (case c_law_pair => k_is)
    (case k_law_pair => k_is)
    (case a_law_sum => k_is)
    (case l_law_sum => k_is)
    (case c_law_sum => k_is)
    (case k_law_sum => k_is)
    (case a_law_by => k_is)
    (case l_law_by => k_is)
    (case c_law_by => k_is)
    (case k_law_by => k_is)
    (case a_law_word => k_is)
    (case l_law_word => k_is)
    (case c_law_word => k_is)
    (case k_law_word => k_is)
    (case a_law_stretches => k_is)
    (case l_law_stretches => k_is)
    (case c_law_stretches => k_is)
    (case k_law_stretches => k_is)
    (case a_law_course => k_is)
    (case l_law_course => k_is)
    (case c_law_course => k_is)
    (case k_law_course => k_is)
    (case a_law_on => k_is)
    (case l_law_on => k_is)
    (case c_law_on => k_is)
    (case k_law_on => k_is)
    (case a_law_great => k_is)
    (case l_law_great => k_is)
    (case c_law_great => k_is)
    (case k_law_great => k_is)
    (case a_law_sum_to => k_is)
    (case l_law_sum_to => k_is)
    (case c_law_sum_to => k_is)
    (case k_law_sum_to => k_is)
    (case a_law_refused => k_is)
    (case l_law_refused => k_is)
    (case c_law_refused => k_is)
    (case k_law_refused => k_is)
    (case a_law_spots => k_is)
    (case l_law_spots => k_is)
    (case c_law_spots => k_is)
    (case k_law_spots => k_is)
    (case a_law => k_is)
    (case l_law => k_is)
    (case c_law => k_is)
    (case k_law => k_is)
    (case lC => k_is)
    (case vC => rfl)
    (case hC => kernel_rfl)
    (case nP => first | rfl | decide +kernel | kernel_rfl)
    (case tP => exact PySem.W.km_tabs_of Y _ (by first | decide | k_mem | simp))
    (case gs => first | rfl | k_is)
    (case gt => first | rfl | k_is)
