import PyProof.Rows.All
import Wide.All
import OpenK.AllK
import Wide.FinOn
import HandS.ForMost
import HandS.Walk
import HandS.ForExc
import HandS.ExcInit
import HandS.ExcIs
import HandS.ExcValue
import HandS.Wide
import HandS.Gcd
import HandS.IsInst
import HandS.Defaults
import HandS.Codes
import HandS.OwnEq
import HandS.Lambda
import KE.KExcIs
import KE.GoesMore
import HandS.Style
import HandS.TryMany
import HandS.EndTab
import HandS.SetFor
import HandS.SortInts
import KE.KSortedM
import HandS.SetFor
import HandS.SortInts
import KE.KSortedM
import HandS.Strs
import HandS.Flow
import HandS.Zip
import PySem.Challenge.RW_rillweb_k12_courses_compared
set_option Elab.async false
set_option linter.all false
set_option maxRecDepth 100000
set_option maxHeartbeats 2000000
set_option exponentiation.threshold 20000
namespace K12
open PySem PySem.Spec PyProof.Rows L2
def top (i : Nat) : Stmt := PySem.Challenge.pw_rillweb_k12_courses_compared.main.body.getD i (.Pass ⟨0, 0, 0, 0⟩)
abbrev d_is_whole : Stmt := top 6
abbrev d_Share_init : Stmt := inClass (top 8) 0
abbrev d_Share_eq : Stmt := inClass (top 8) 1
abbrev d_least_word : Stmt := top 12
abbrev d_spans_of : Stmt := top 13
abbrev d_share_on : Stmt := top 14
abbrev d_sooner : Stmt := top 15
abbrev d_beside : Stmt := top 16
abbrev d_Course_init : Stmt := inClass (top 18) 0
abbrev d_Course_eq : Stmt := inClass (top 18) 1
abbrev d_are_stretches : Stmt := top 19
abbrev d_is_stretch : Stmt := top 20
abbrev d_is_word : Stmt := top 21
abbrev d_first_unlike : Stmt := top 22
abbrev d_law_cell_at : Stmt := top 24
abbrev d_law_well : Stmt := top 25
abbrev d_law_draw : Stmt := top 26
abbrev d_law_one : Stmt := top 27
abbrev d_law_low : Stmt := top 28
abbrev d_law_pair : Stmt := top 29
abbrev d_law_sum : Stmt := top 30
abbrev d_law_by : Stmt := top 31
abbrev d_law_word : Stmt := top 32
abbrev d_law_stretches : Stmt := top 33
abbrev d_law_course : Stmt := top 34
abbrev d_law_on : Stmt := top 35
abbrev d_law_turned : Stmt := top 36
abbrev d_law_cut : Stmt := top 37
abbrev d_law_otherwise : Stmt := top 38
abbrev d_law_changed : Stmt := top 39
abbrev d_law_first : Stmt := top 40
abbrev d_law_right : Stmt := top 41
abbrev d_law : Stmt := top 42
end K12
namespace K12
/-- the common part of two whole numbers, with the sign of the second -/
def sg (a b : Int) : Int := if b < 0 then -((Nat.gcd a.natAbs b.natAbs : Nat) : Int) else ((Nat.gcd a.natAbs b.natAbs : Nat) : Int)
/-- the top and the bottom in lowest terms -/
def lowT (a b : Int) : Int := a.fdiv (sg a b)
def lowB (a b : Int) : Int := b.fdiv (sg a b)

theorem gcd_pos {a b : Int} (hb : b ≠ 0) : 0 < Nat.gcd a.natAbs b.natAbs := Nat.gcd_pos_of_pos_right _ (by omega)
theorem sg_ne {a b : Int} (hb : b ≠ 0) : sg a b ≠ 0 := by
  have := gcd_pos (a := a) hb
  unfold sg
  split <;> omega
theorem sg_dvd_left (a b : Int) : sg a b ∣ a := by
  have h : ((Nat.gcd a.natAbs b.natAbs : Nat) : Int) ∣ a := Int.ofNat_dvd_left.mpr (Nat.gcd_dvd_left _ _)
  unfold sg
  split
  · exact Int.neg_dvd.mpr h
  · exact h
theorem sg_dvd_right (a b : Int) : sg a b ∣ b := by
  have h : ((Nat.gcd a.natAbs b.natAbs : Nat) : Int) ∣ b := Int.ofNat_dvd_left.mpr (Nat.gcd_dvd_right _ _)
  unfold sg
  split
  · exact Int.neg_dvd.mpr h
  · exact h
theorem lowT_mul (a b : Int) : lowT a b * sg a b = a := Int.fdiv_mul_cancel (sg_dvd_left a b)
theorem lowB_mul (a b : Int) : lowB a b * sg a b = b := Int.fdiv_mul_cancel (sg_dvd_right a b)
theorem lowB_pos {a b : Int} (hb : b ≠ 0) : 0 < lowB a b := by
  have h := lowB_mul a b
  have hg := gcd_pos (a := a) hb
  have hs : (0 < b ∧ 0 < sg a b) ∨ (b < 0 ∧ sg a b < 0) := by
    unfold sg
    split <;> omega
  rcases hs with ⟨h1, h2⟩ | ⟨h1, h2⟩
  · rcases Int.lt_trichotomy (lowB a b) 0 with h3 | h3 | h3
    · have := Int.mul_neg_of_neg_of_pos h3 h2
      omega
    · rw [h3] at h; omega
    · exact h3
  · rcases Int.lt_trichotomy (lowB a b) 0 with h3 | h3 | h3
    · have := Int.mul_pos_of_neg_of_neg h3 h2
      omega
    · rw [h3] at h; omega
    · exact h3
theorem sg_abs (a b : Int) : (sg a b).natAbs = Nat.gcd a.natAbs b.natAbs := by
  unfold sg
  split <;> omega
theorem low_coprime {a b : Int} (hb : b ≠ 0) : Nat.gcd (lowT a b).natAbs (lowB a b).natAbs = 1 := by
  have h1 : (lowT a b).natAbs * (sg a b).natAbs = a.natAbs := by rw [← Int.natAbs_mul, lowT_mul]
  have h2 : (lowB a b).natAbs * (sg a b).natAbs = b.natAbs := by rw [← Int.natAbs_mul, lowB_mul]
  have hg := gcd_pos (a := a) hb
  have h3 : Nat.gcd ((lowT a b).natAbs * (sg a b).natAbs) ((lowB a b).natAbs * (sg a b).natAbs) = (sg a b).natAbs := by
    rw [h1, h2, sg_abs]
  rw [Nat.gcd_mul_right] at h3
  rw [sg_abs] at h3
  exact Nat.eq_of_mul_eq_mul_right hg (by rw [h3, Nat.one_mul])
theorem same_of {t b t' b' : Int} (hb : 0 < b) (hb' : 0 < b') (h : t * b' = t' * b) (c : Nat.gcd t.natAbs b.natAbs = 1) (c' : Nat.gcd t'.natAbs b'.natAbs = 1) : t = t' ∧ b = b' := by
  have e : t.natAbs * b'.natAbs = t'.natAbs * b.natAbs := by rw [← Int.natAbs_mul, ← Int.natAbs_mul, h]
  have d1 : b.natAbs ∣ b'.natAbs := by
    have : b.natAbs ∣ t.natAbs * b'.natAbs := ⟨t'.natAbs, by rw [e, Nat.mul_comm]⟩
    exact Nat.Coprime.dvd_of_dvd_mul_left (by rw [Nat.Coprime, Nat.gcd_comm]; exact c) this
  have d2 : b'.natAbs ∣ b.natAbs := by
    have : b'.natAbs ∣ t'.natAbs * b.natAbs := ⟨t.natAbs, by rw [← e, Nat.mul_comm]⟩
    exact Nat.Coprime.dvd_of_dvd_mul_left (by rw [Nat.Coprime, Nat.gcd_comm]; exact c') this
  have eb : b = b' := by
    have := Nat.dvd_antisymm d1 d2
    omega
  refine ⟨?_, eb⟩
  rw [← eb] at h
  exact Int.eq_of_mul_eq_mul_right (by omega) h
/-- fractions of one number have one form -/
theorem low_eq {p q p' q' : Int} (hq : q ≠ 0) (hq' : q' ≠ 0) (h : p * q' = p' * q) : lowT p q = lowT p' q' ∧ lowB p q = lowB p' q' := by
  refine same_of (lowB_pos hq) (lowB_pos hq') ?_ (low_coprime hq) (low_coprime hq')
  have h1 := lowT_mul p q
  have h2 := lowB_mul p q
  have h3 := lowT_mul p' q'
  have h4 := lowB_mul p' q'
  have g1 := sg_ne (a := p) hq
  have g2 := sg_ne (a := p') hq'
  have e : (lowT p q * lowB p' q') * (sg p q * sg p' q') = (lowT p' q' * lowB p q) * (sg p q * sg p' q') := by
    have e1 : (lowT p q * lowB p' q') * (sg p q * sg p' q') = (lowT p q * sg p q) * (lowB p' q' * sg p' q') := by grind
    have e2 : (lowT p' q' * lowB p q) * (sg p q * sg p' q') = (lowT p' q' * sg p' q') * (lowB p q * sg p q) := by grind
    rw [e1, e2, h1, h2, h3, h4, h]
  exact Int.eq_of_mul_eq_mul_right (Int.mul_ne_zero g1 g2) e
theorem low_iff {p q p' q' : Int} (hq : q ≠ 0) (hq' : q' ≠ 0) : (lowT p q = lowT p' q' ∧ lowB p q = lowB p' q') ↔ p * q' = p' * q := by
  refine ⟨fun ⟨h1, h2⟩ => ?_, low_eq hq hq'⟩
  have e1 := lowT_mul p q
  have e2 := lowB_mul p q
  have e3 := lowT_mul p' q'
  have e4 := lowB_mul p' q'
  rw [h1] at e1
  rw [h2] at e2
  rw [← e1, ← e2]
  rw [show p' * (lowB p' q' * sg p q) = (p' * lowB p' q') * sg p q by grind]
  have e5 : lowT p' q' * q' = p' * lowB p' q' := by
    calc lowT p' q' * q' = lowT p' q' * (lowB p' q' * sg p' q') := by rw [e4]
      _ = (lowT p' q' * sg p' q') * lowB p' q' := by grind
      _ = p' * lowB p' q' := by rw [e3]
  rw [← e5]
  grind
/-- already in lowest terms -/
theorem low_self {t b : Int} (hb : 0 < b) (c : Nat.gcd t.natAbs b.natAbs = 1) : lowT t b = t ∧ lowB t b = b :=
  same_of (lowB_pos (by omega)) hb (by
    have h1 := lowT_mul t b
    have h2 := lowB_mul t b
    have g := sg_ne (a := t) (b := b) (by omega)
    have e : (lowT t b * b) * sg t b = (t * lowB t b) * sg t b := by
      calc (lowT t b * b) * sg t b = (lowT t b * sg t b) * b := by grind
        _ = t * b := by rw [h1]
        _ = t * (lowB t b * sg t b) := by rw [h2]
        _ = (t * lowB t b) * sg t b := by grind
    exact Int.eq_of_mul_eq_mul_right g e) (low_coprime (by omega)) c
/-- what is cross-multiplied by lowest terms -/
theorem low_cross {p q : Int} : lowT p q * q = p * lowB p q := by
  have h1 := lowT_mul p q
  have h2 := lowB_mul p q
  calc lowT p q * q = lowT p q * (lowB p q * sg p q) := by rw [h2]
    _ = (lowT p q * sg p q) * lowB p q := by grind
    _ = p * lowB p q := by rw [h1]
/-- order -/
theorem lt_mul_pos {x y k : Int} (hk : 0 < k) : x * k < y * k ↔ x < y := ⟨fun h => Int.lt_of_mul_lt_mul_right h (Int.le_of_lt hk), fun h => Int.mul_lt_mul_of_pos_right h hk⟩
theorem less_low {p q p' q' : Int} (hq : 0 < q) (hq' : 0 < q') : lowT p q * lowB p' q' < lowT p' q' * lowB p q ↔ p * q' < p' * q := by
  have b1 := lowB_pos (a := p) (b := q) (by omega)
  have b2 := lowB_pos (a := p') (b := q') (by omega)
  have c1 := low_cross (p := p) (q := q)
  have c2 := low_cross (p := p') (q := q')
  have hk : 0 < q * q' := Int.mul_pos hq hq'
  have hl : 0 < lowB p q * lowB p' q' := Int.mul_pos b1 b2
  rw [← lt_mul_pos hk, ← lt_mul_pos (x := p * q') hl]
  have e1 : lowT p q * lowB p' q' * (q * q') = p * q' * (lowB p q * lowB p' q') := by
    calc lowT p q * lowB p' q' * (q * q') = (lowT p q * q) * (lowB p' q' * q') := by grind
      _ = (p * lowB p q) * (lowB p' q' * q') := by rw [c1]
      _ = p * q' * (lowB p q * lowB p' q') := by grind
  have e2 : lowT p' q' * lowB p q * (q * q') = p' * q * (lowB p q * lowB p' q') := by
    calc lowT p' q' * lowB p q * (q * q') = (lowT p' q' * q') * (lowB p q * q) := by grind
      _ = (p' * lowB p' q') * (lowB p q * q) := by rw [c2]
      _ = p' * q * (lowB p q * lowB p' q') := by grind
  rw [e1, e2]
theorem lowT_neg {p q : Int} (hq : q ≠ 0) : lowT p q < 0 ↔ p * q < 0 := by
  have b := lowB_pos (a := p) hq
  have h1 := lowT_mul p q
  have h2 := lowB_mul p q
  have g := sg_ne (a := p) hq
  have hs : 0 < sg p q * sg p q := by
    rcases Int.lt_or_gt_of_ne g with h | h
    · exact Int.mul_pos_of_neg_of_neg h h
    · exact Int.mul_pos h h
  have e : p * q = lowT p q * (lowB p q * (sg p q * sg p q)) := by
    calc p * q = (lowT p q * sg p q) * (lowB p q * sg p q) := by rw [h1, h2]
      _ = _ := by grind
  have hk := Int.mul_pos b hs
  have := lt_mul_pos (x := lowT p q) (y := 0) hk
  rw [Int.zero_mul] at this
  rw [e]
  exact this.symm
theorem lowT_pos {p q : Int} (hq : q ≠ 0) : 0 < lowT p q ↔ 0 < p * q := by
  have b := lowB_pos (a := p) hq
  have h1 := lowT_mul p q
  have h2 := lowB_mul p q
  have g := sg_ne (a := p) hq
  have hs : 0 < sg p q * sg p q := by
    rcases Int.lt_or_gt_of_ne g with h | h
    · exact Int.mul_pos_of_neg_of_neg h h
    · exact Int.mul_pos h h
  have e : p * q = lowT p q * (lowB p q * (sg p q * sg p q)) := by
    calc p * q = (lowT p q * sg p q) * (lowB p q * sg p q) := by rw [h1, h2]
      _ = _ := by grind
  have hk := Int.mul_pos b hs
  have := lt_mul_pos (x := 0) (y := lowT p q) hk
  rw [Int.zero_mul] at this
  rw [e]
  exact this.symm

/-! what the law puts beside what the program tells -/
section
variable {a b c d : Int}
theorem val_plus (hb : b ≠ 0) (hd : d ≠ 0) : lowT (lowT a b * lowB c d + lowT c d * lowB a b) (lowB a b * lowB c d) = lowT (a * d + c * b) (b * d) ∧
    lowB (lowT a b * lowB c d + lowT c d * lowB a b) (lowB a b * lowB c d) = lowB (a * d + c * b) (b * d) := by
  have b1 := lowB_pos (a := a) hb
  have b2 := lowB_pos (a := c) hd
  have c1 := low_cross (p := a) (q := b)
  have c2 := low_cross (p := c) (q := d)
  refine low_eq (Int.mul_ne_zero (by omega) (by omega)) (Int.mul_ne_zero hb hd) ?_
  generalize lowT a b = x at *
  generalize lowB a b = y at *
  generalize lowT c d = z at *
  generalize lowB c d = w at *
  grind
theorem val_minus (hb : b ≠ 0) (hd : d ≠ 0) : lowT (lowT a b * lowB c d - lowT c d * lowB a b) (lowB a b * lowB c d) = lowT (a * d - c * b) (b * d) ∧
    lowB (lowT a b * lowB c d - lowT c d * lowB a b) (lowB a b * lowB c d) = lowB (a * d - c * b) (b * d) := by
  have b1 := lowB_pos (a := a) hb
  have b2 := lowB_pos (a := c) hd
  have c1 := low_cross (p := a) (q := b)
  have c2 := low_cross (p := c) (q := d)
  refine low_eq (Int.mul_ne_zero (by omega) (by omega)) (Int.mul_ne_zero hb hd) ?_
  generalize lowT a b = x at *
  generalize lowB a b = y at *
  generalize lowT c d = z at *
  generalize lowB c d = w at *
  grind
theorem val_times (hb : b ≠ 0) (hd : d ≠ 0) : lowT (lowT a b * lowT c d) (lowB a b * lowB c d) = lowT (a * c) (b * d) ∧
    lowB (lowT a b * lowT c d) (lowB a b * lowB c d) = lowB (a * c) (b * d) := by
  have b1 := lowB_pos (a := a) hb
  have b2 := lowB_pos (a := c) hd
  have c1 := low_cross (p := a) (q := b)
  have c2 := low_cross (p := c) (q := d)
  refine low_eq (Int.mul_ne_zero (by omega) (by omega)) (Int.mul_ne_zero hb hd) ?_
  generalize lowT a b = x at *
  generalize lowB a b = y at *
  generalize lowT c d = z at *
  generalize lowB c d = w at *
  grind
theorem lowT_zero (hd : d ≠ 0) : lowT c d = 0 ↔ c = 0 := by
  have h := lowT_mul c d
  have g := sg_ne (a := c) hd
  constructor
  · intro e
    rw [e, Int.zero_mul] at h
    exact h.symm
  · intro e
    rw [e] at h ⊢
    rw [e] at g
    rcases Int.mul_eq_zero.mp h with z | z
    · exact z
    · exact absurd z g
theorem val_over (hb : b ≠ 0) (hd : d ≠ 0) (hc : c ≠ 0) : lowT (lowT a b * lowB c d) (lowB a b * lowT c d) = lowT (a * d) (b * c) ∧
    lowB (lowT a b * lowB c d) (lowB a b * lowT c d) = lowB (a * d) (b * c) := by
  have b1 := lowB_pos (a := a) hb
  have t2 : lowT c d ≠ 0 := fun e => hc ((lowT_zero hd).mp e)
  have c1 := low_cross (p := a) (q := b)
  have c2 := low_cross (p := c) (q := d)
  refine low_eq (Int.mul_ne_zero (by omega) t2) (Int.mul_ne_zero hb hc) ?_
  generalize lowT a b = x at *
  generalize lowB a b = y at *
  generalize lowT c d = z at *
  generalize lowB c d = w at *
  grind
theorem num_less (hb : b ≠ 0) (hd : d ≠ 0) : ((a * d - c * b) * (b * d) < 0 ↔ lowT a b * lowB c d < lowT c d * lowB a b) ∧ (0 < (a * d - c * b) * (b * d) ↔ lowT c d * lowB a b < lowT a b * lowB c d) := by
  have h := val_minus (a := a) (c := c) hb hd
  have b1 := lowB_pos (a := a) hb
  have b2 := lowB_pos (a := c) hd
  have hk : 0 < lowB a b * lowB c d := Int.mul_pos b1 b2
  have k1 := lowT_neg (p := a * d - c * b) (q := b * d) (Int.mul_ne_zero hb hd)
  have k2 := lowT_pos (p := a * d - c * b) (q := b * d) (Int.mul_ne_zero hb hd)
  have k3 := lowT_neg (p := lowT a b * lowB c d - lowT c d * lowB a b) (q := lowB a b * lowB c d) (by omega)
  have k4 := lowT_pos (p := lowT a b * lowB c d - lowT c d * lowB a b) (q := lowB a b * lowB c d) (by omega)
  have m1 := lt_mul_pos (x := lowT a b * lowB c d - lowT c d * lowB a b) (y := 0) hk
  have m2 := lt_mul_pos (x := 0) (y := lowT a b * lowB c d - lowT c d * lowB a b) hk
  rw [Int.zero_mul] at m1 m2
  rw [← k1, ← k2, ← h.1, k3, k4, m1, m2]
  omega
theorem val_less (hb : b ≠ 0) (hd : d ≠ 0) : (lowT (a * d - c * b) (b * d) < 0 ↔ lowT a b * lowB c d < lowT c d * lowB a b) ∧ (0 < lowT (a * d - c * b) (b * d) ↔ lowT c d * lowB a b < lowT a b * lowB c d) := by
  have k1 := lowT_neg (p := a * d - c * b) (q := b * d) (Int.mul_ne_zero hb hd)
  have k2 := lowT_pos (p := a * d - c * b) (q := b * d) (Int.mul_ne_zero hb hd)
  have := num_less (a := a) (c := c) hb hd
  rw [k1, k2]
  exact this
end
section
variable {t1 b1 t2 b2 t3 b3 : Int}
theorem ord_plus (h1 : 0 < b1) (h2 : 0 < b2) (h3 : 0 < b3) :
    lowT (t1 * b3 + t3 * b1) (b1 * b3) * lowB (t2 * b3 + t3 * b2) (b2 * b3) < lowT (t2 * b3 + t3 * b2) (b2 * b3) * lowB (t1 * b3 + t3 * b1) (b1 * b3) ↔ t1 * b2 < t2 * b1 := by
  rw [less_low (Int.mul_pos h1 h3) (Int.mul_pos h2 h3)]
  have hk : 0 < b3 * b3 := Int.mul_pos h3 h3
  rw [← lt_mul_pos (x := t1 * b2) hk]
  have e : (t1 * b3 + t3 * b1) * (b2 * b3) - t1 * b2 * (b3 * b3) = (t2 * b3 + t3 * b2) * (b1 * b3) - t2 * b1 * (b3 * b3) := by grind
  omega
theorem ord_times (h1 : 0 < b1) (h2 : 0 < b2) (h3 : 0 < b3) (ht : 0 < t3) :
    lowT (t1 * t3) (b1 * b3) * lowB (t2 * t3) (b2 * b3) < lowT (t2 * t3) (b2 * b3) * lowB (t1 * t3) (b1 * b3) ↔ t1 * b2 < t2 * b1 := by
  rw [less_low (Int.mul_pos h1 h3) (Int.mul_pos h2 h3)]
  have hk : 0 < t3 * b3 := Int.mul_pos ht h3
  rw [← lt_mul_pos (x := t1 * b2) hk]
  have e1 : t1 * t3 * (b2 * b3) = t1 * b2 * (t3 * b3) := by grind
  have e2 : t2 * t3 * (b1 * b3) = t2 * b1 * (t3 * b3) := by grind
  rw [e1, e2]
theorem ord_turned (h1 : 0 < b1) (h2 : 0 < b2) (h3 : 0 < b3) (ht : t3 < 0) :
    lowT (t2 * t3) (b2 * b3) * lowB (t1 * t3) (b1 * b3) < lowT (t1 * t3) (b1 * b3) * lowB (t2 * t3) (b2 * b3) ↔ t1 * b2 < t2 * b1 := by
  rw [less_low (Int.mul_pos h2 h3) (Int.mul_pos h1 h3)]
  have hk : 0 < (-t3) * b3 := Int.mul_pos (by omega) h3
  rw [← lt_mul_pos (x := t1 * b2) hk]
  have e1 : t2 * t3 * (b1 * b3) = -(t2 * b1 * (-t3 * b3)) := by grind
  have e2 : t1 * t3 * (b2 * b3) = -(t1 * b2 * (-t3 * b3)) := by grind
  rw [e1, e2]
  omega
theorem ord_none (h1 : 0 < b1) (h2 : 0 < b2) (h3 : 0 < b3) (ht : t3 = 0) : lowT (t1 * t3) (b1 * b3) = lowT (t2 * t3) (b2 * b3) ∧ lowB (t1 * t3) (b1 * b3) = lowB (t2 * t3) (b2 * b3) := by
  subst ht
  refine low_eq ?_ ?_ (by simp)
  · have := Int.mul_pos h1 h3
    omega
  · have := Int.mul_pos h2 h3
    omega
end
theorem lowT_one (a : Int) : lowT a 1 = a := by
  have h := lowT_mul a 1
  have e : sg a 1 = 1 := by unfold sg; simp
  rw [e] at h
  omega
theorem lowB_one (a : Int) : lowB a 1 = 1 := by
  have h := lowB_mul a 1
  have e : sg a 1 = 1 := by unfold sg; simp
  rw [e] at h
  omega
/-! sizes -/
theorem lowT_le {a b : Int} (hb : b ≠ 0) : (lowT a b).natAbs ≤ a.natAbs := by
  have h : (lowT a b).natAbs * (sg a b).natAbs = a.natAbs := by rw [← Int.natAbs_mul, lowT_mul]
  have g : 0 < (sg a b).natAbs := by have := sg_ne (a := a) hb; omega
  exact Nat.le_trans (Nat.le_mul_of_pos_right _ g) (Nat.le_of_eq h)
theorem lowB_le {a b : Int} (hb : b ≠ 0) : (lowB a b).natAbs ≤ b.natAbs := by
  have h : (lowB a b).natAbs * (sg a b).natAbs = b.natAbs := by rw [← Int.natAbs_mul, lowB_mul]
  have g : 0 < (sg a b).natAbs := by have := sg_ne (a := a) hb; omega
  exact Nat.le_trans (Nat.le_mul_of_pos_right _ g) (Nat.le_of_eq h)
theorem sg_le {a b : Int} (hb : b ≠ 0) : (sg a b).natAbs ≤ b.natAbs := by
  rw [sg_abs]
  exact Nat.le_of_dvd (by omega) (Nat.gcd_dvd_right _ _)
end K12
namespace K12
open PySem PySem.Spec PyProof.Rows L2
abbrev sWhole : Stmt := d_is_whole
abbrev sInit : Stmt := d_Share_init
abbrev sEq : Stmt := d_Share_eq
/-! ### a share on the heap -/
theorem tb_ : ¬ (("top" : Str) = "bottom") := by decide +kernel
theorem bt_ : ¬ (("bottom" : Str) = "top") := by decide +kernel
def shf (t b : Int) : List (Str × V) := putF "bottom" (.int b) (putF "top" (.int t) [])
theorem shf_top (t b : Int) : (shf t b).lookup ("top" : Str) = some (.int t) := by
  unfold shf
  rw [lookup_putF, if_neg tb_, lookup_putF, if_pos rfl]
theorem shf_bottom (t b : Int) : (shf t b).lookup ("bottom" : Str) = some (.int b) := by
  unfold shf
  rw [lookup_putF, if_pos rfl]
/-- a share t over b stands at p -/
def ShAt (C : Addr) (H : Hp) (p : Addr) (t b : Int) : Prop := ∃ dx, H p = some (.ins C dx (shf t b))
theorem ShAt.mono {C : Addr} {H H' : Hp} {p : Addr} {t b : Int} (h : ShAt C H p t b) (s : Same H H') : ShAt C H' p t b := by
  obtain ⟨dx, e⟩ := h
  exact ⟨dx, s _ _ e⟩
/-- what the top says of the program's own names -/
structure Txt (K : PySem.W.Frag) (mg : Str → Option Value) (C CN : Addr) : Prop where
  cl : Cls K C
  nT : NoAttr K C "top"
  nB : NoAttr K C "bottom"
  mgC : mg "Share" = some (.ref C)
  gcd : mg "gcd" = some (.builtin "math.gcd")
  isi : mg "isinstance" = none
  int : mg "int" = none
  bool : mg "bool" = none
  gN : mg "NoShare" = some (.ref CN)
  xN : PySem.W.excIn K CN [.type "ValueError", .type "Exception", .type "BaseException", .type "object"] "ValueError.__new__" = true
  kN : PySem.W.keepIn K (.ref CN) = true
  bN : PySem.W.subIn K (.ref CN) (.type "BaseException") = some true
  tN : PySem.W.typeIn K (.ref CN) = some (.type "type")
  eN : PySem.W.exmOne K (.ref CN) (.ref CN) = some true
/-! ### // by a divisor of either sign -/
def CDivX (_ j : Int) : Prop := j ≠ 0 ∧ j.natAbs.log2 < 9000
section
variable {X : Cx}
theorem op_fdivX : OpR X (binaryOp .FloorDiv) (rI CDivX fun i j => .int (i.fdiv j)) := opI fun i j _ _ _ _ _ hc q => floordiv_int hc.1 q (.inl (PyProof.noPylong_of_log2 hc.2))
end
theorem big_div {i j : Int} {b : Nat} (h : j ≠ 0) (hb : j.natAbs < 2 ^ b) (h0 : 0 < b) (h9 : b ≤ 9000) : CDivX i j := ⟨h, Nat.lt_of_lt_of_le (PySem.Flt.log2_lt_of h0 hb) h9⟩
theorem add_lt {i j : Int} {a : Nat} (hi : i.natAbs < 2 ^ a) (hj : j.natAbs < 2 ^ a) : (i + j).natAbs < 2 ^ (a + 1) := by
  have e : 2 ^ (a + 1) = 2 ^ a * 2 := Nat.pow_succ ..
  omega
theorem sub_lt {i j : Int} {a : Nat} (hi : i.natAbs < 2 ^ a) (hj : j.natAbs < 2 ^ a) : (i - j).natAbs < 2 ^ (a + 1) := by
  have e : 2 ^ (a + 1) = 2 ^ a * 2 := Nat.pow_succ ..
  omega
theorem pow_le {i : Int} {a b : Nat} (h : i.natAbs < 2 ^ a) (hab : a ≤ b) : i.natAbs < 2 ^ b := Nat.lt_of_lt_of_le h (Nat.pow_le_pow_right (by omega) hab)
/-! ### promises -/
def spWhole : Sp := fun vs H Q _ => ∃ i : Int, vs = [.int i] ∧ Q (.bl true) H
def spInit (C CN : Addr) : Sp := fun vs H Q E => ∃ (p dx : Addr) (t b : Int), vs = [.ref p, .int t, .int b] ∧ H p = some (.ins C dx []) ∧ t.natAbs < 2 ^ 4000 ∧ b.natAbs < 2 ^ 4000 ∧
  (b = 0 → E (.ref CN) none H) ∧ (b ≠ 0 → ∀ H' : Hp, H' p = some (.ins C dx (shf (lowT t b) (lowB t b))) → (∀ a, a ≠ p → H' a = H a) → Q .non H')
section
variable {P : Program} {w : World} {K : PySem.W.Frag} {mg : Str → Option Value} {base : Heap}
theorem scWhole : FnScope ["thing"] ["thing"] (defScope sWhole) := ⟨rfl, rfl, rfl, by decide +kernel, rfl, by decide +kernel, by decide +kernel⟩
theorem ok_whole {f C CN : Addr} {fd : FuncData} (F : Fun K "is_whole" "is_whole" sWhole f fd) (T : Txt K mg C CN) : FnOk P w K mg base CX0 1 f fd ["thing"] spWhole := by
  refine F.ok scWhole (fun vs H Q E h => ?_) (fun cdv A outer s H vs Q E hr h => ?_)
  · obtain ⟨i, rfl, _⟩ := h
    rfl
  · obtain ⟨i, rfl, k⟩ := h
    refine ⟨_, pss_one (ps_ret (pe_and (pe_callB call_isi (by rfl) T.isi (by decide +kernel) (pa_cons (pv 0) (pa_cons (pe_bltn (v := .ty "int") (by rfl) T.int (by decide +kernel) rfl) pa_nil)))
      (pe_one (pe_not (pe_callB call_isi (by rfl) T.isi (by decide +kernel) (pa_cons (pv 0) (pa_cons (pe_bltn (v := .ty "bool") (by rfl) T.bool (by decide +kernel) rfl) pa_nil))))))), ?_⟩
    refine ⟨_, rfl, _, _, _, _, true, rfl, ClsV.ty _, TyX.base (TyOf.int _), kit_ty (by decide +kernel), true, rfl, iteT ?_⟩
    exact ⟨_, rfl, _, _, _, _, false, rfl, ClsV.ty _, TyX.base (TyOf.int _), kit_ty (by decide +kernel), false, rfl, k⟩

theorem scInit : FnScope ["self", "top", "bottom", "common"] ["self", "top", "bottom"] (defScope sInit) := ⟨rfl, rfl, rfl, by decide +kernel, rfl, by decide +kernel, by decide +kernel⟩
theorem ok_init {f fW C CN : Addr} {fd fdW : FuncData} (F : FunD K "__init__" "Share.__init__" (defArgs sInit) (defBody sInit) (defScope sInit) [.int 1] [] f fd) (T : Txt K mg C CN)
    (GW : FnOk P w K mg base CX0 1 fW fdW ["thing"] spWhole) (mW : mg "is_whole" = some (.ref fW)) (kW : PySem.W.keepIn K (.ref fW) = true) (bW : Binds K fdW ["thing"] []) :
    FnOk P w K mg base (L2.CX P w) 2 f fd ["self", "top", "bottom"] (spInit C CN) := by
  refine FunD.ok (N := ["self", "top", "bottom", "common"]) F scInit (fun vs H Q E h => ?_) (fun cdv A outer s H vs Q E hr h => ?_)
  · obtain ⟨p, dx, t, b, rfl, _⟩ := h
    rfl
  · obtain ⟨p, dx, t, b, rfl, hp, st, sb, ke, kq⟩ := h
    refine ⟨_, pss_cons (ps_if (PW.pt (pw_or (pt_not (pt_val (pe_call GW hr rfl mW kW bW .nil pass0 (pa_cons (pv 1) pa_nil)))) (pw_or (pt_not (pt_val (pe_call GW hr rfl mW kW bW .nil pass0 (pa_cons (pv 2) pa_nil)))) (pw_or1 (pt_cmpR op_eq (pv 2) pe_int (nomark _))))))
        (pss_one (ps_raise rfl (takes_of rfl rfl rfl rfl) (pmk_own PySem.F.excBase_ValueError T.xN T.gN T.kN (raises_own T.bN T.tN) (by exact rfl)))) pss_nil)
      (pss_cons (ps_set (i := 3) scInit.nd rfl (Or.inl rfl) (pe_callBfun cr_gcd rfl T.gcd (pa_cons (pv 1) (pa_cons (pv 2) pa_nil))))
      (pss_cons (ps_if (pt_cmpR op_lt (pv 2) pe_int (nomark _)) (pss_one (ps_set (i := 3) scInit.nd rfl (Or.inl rfl) (pe_un un_neg (pv 3)))) pss_nil)
      (pss_cons (ps_fld (pv 0) (pe_op op_fdivX (pv 1) (pv 3)) rfl)
      (pss_one (ps_fld (pv 0) (pe_op op_fdivX (pv 2) (pv 3)) rfl))))), ?_⟩
    refine ⟨_, rfl, t, rfl, true, rfl, iteF ?_⟩
    refine ⟨_, rfl, b, rfl, true, rfl, iteF ?_⟩
    refine ⟨_, rfl, rfl, _, rfl, ?_⟩
    refine ite2 (fun h0 => ?_) (fun h0 => ?_)
    · exact ke (by simpa using h0)
    · have hb : b ≠ 0 := fun e => h0 (by rw [e]; exact decide_eq_true rfl)
      have gs : (sg t b).natAbs < 2 ^ 4000 := Nat.lt_of_le_of_lt (sg_le hb) sb
      refine ⟨_, rfl, _, rfl, t, b, rfl, ?_⟩
      refine ⟨_, rfl, _, _, rfl, rfl, _, rfl, ?_⟩
      refine ite2 (fun hn => ?_) (fun hn => ?_)
      · have hn : b < 0 := of_decide_eq_true hn
        have e : -((Nat.gcd t.natAbs b.natAbs : Nat) : Int) = sg t b := by unfold sg; rw [if_pos hn]
        have g0 : -((Nat.gcd t.natAbs b.natAbs : Nat) : Int) ≠ 0 := by rw [e]; exact sg_ne hb
        have gd : ∀ i : Int, CDivX i (-((Nat.gcd t.natAbs b.natAbs : Nat) : Int)) := fun i => big_div (b := 4000) g0 (by rw [e]; exact gs) (by decide) (by decide)
        refine ⟨_, rfl, _, rfl, ?_⟩
        refine ⟨_, rfl, _, rfl, _, _, rfl, rfl, gd _, _, rfl, p, C, dx, _, rfl, hp, T.cl, T.nT, (by show 0 < 1000; decide), ?_⟩
        refine ⟨_, rfl, _, rfl, _, _, rfl, rfl, gd _, _, rfl, p, C, dx, _, rfl, upd_same, T.cl, T.nB, (by show 1 < 1000; decide), ?_⟩
        refine kq hb _ (Eq.trans upd_same ?_) (fun a ha => by rw [upd_ne ha, upd_ne ha])
        rw [e]
        rfl
      · have hn : ¬ b < 0 := fun q => hn (decide_eq_true q)
        have e : ((Nat.gcd t.natAbs b.natAbs : Nat) : Int) = sg t b := by unfold sg; rw [if_neg hn]
        have g0 : ((Nat.gcd t.natAbs b.natAbs : Nat) : Int) ≠ 0 := by rw [e]; exact sg_ne hb
        have gd : ∀ i : Int, CDivX i ((Nat.gcd t.natAbs b.natAbs : Nat) : Int) := fun i => big_div (b := 4000) g0 (by rw [e]; exact gs) (by decide) (by decide)
        refine ⟨_, rfl, _, rfl, _, _, rfl, rfl, gd _, _, rfl, p, C, dx, _, rfl, hp, T.cl, T.nT, (by show 0 < 1000; decide), ?_⟩
        refine ⟨_, rfl, _, rfl, _, _, rfl, rfl, gd _, _, rfl, p, C, dx, _, rfl, upd_same, T.cl, T.nB, (by show 1 < 1000; decide), ?_⟩
        refine kq hb _ (Eq.trans upd_same ?_) (fun a ha => by rw [upd_ne ha, upd_ne ha])
        rw [e]
        rfl

/-- what is made stands beside what stood -/
theorem made_same {H H' : Hp} {x dx C : Addr} {o : HO} (nx : H x = none) (nd : H dx = none) (k : ∀ a, a ≠ x → H' a = (upd (upd H dx (.own x)) x o) a) : Same H H' := fun a u e => by
  have a1 : a ≠ x := fun z => by rw [z, nx] at e; cases e
  have a2 : a ≠ dx := fun z => by rw [z, nd] at e; cases e
  rw [k a a1, upd_ne a1, upd_ne a2]
  exact e
end
end K12

namespace K12
open PySem PySem.Spec PyProof.Rows L2
/-! ### two lists side by side -/
structure All2 {α β : Type} (R : α → β → Prop) (as : List α) (bs : List β) : Prop where
  len : as.length = bs.length
  all : ∀ (i : Nat) (a : α) (b : β), as[i]? = some a → bs[i]? = some b → R a b
theorem All2.nil {α β : Type} {R : α → β → Prop} : All2 R [] [] := ⟨rfl, fun i a b h _ => by simp at h⟩
theorem All2.mono {α β : Type} {R S : α → β → Prop} {as : List α} {bs : List β} (h : All2 R as bs) (f : ∀ a b, a ∈ as → b ∈ bs → R a b → S a b) : All2 S as bs :=
  ⟨h.len, fun i a b ha hb => f a b (List.mem_of_getElem? ha) (List.mem_of_getElem? hb) (h.all i a b ha hb)⟩
theorem All2.snoc {α β : Type} {R : α → β → Prop} {as : List α} {bs : List β} {a : α} {b : β} (h : All2 R as bs) (r : R a b) : All2 R (as ++ [a]) (bs ++ [b]) := by
  refine ⟨by rw [List.length_append, List.length_append, h.len]; rfl, fun i x y hx hy => ?_⟩
  by_cases c : i < as.length
  · rw [List.getElem?_append_left c] at hx
    rw [List.getElem?_append_left (by rw [← h.len]; exact c)] at hy
    exact h.all i x y hx hy
  · rw [List.getElem?_append_right (by omega)] at hx
    rw [List.getElem?_append_right (by rw [← h.len]; omega)] at hy
    have c0 : i - as.length = 0 := by
      have := (List.getElem?_eq_some_iff.mp hx).1
      simp at this
      omega
    rw [← h.len, c0] at hy
    rw [c0] at hx
    have e1 : a = x := by simpa using hx
    have e2 : b = y := by simpa using hy
    subst e1 e2
    exact r
theorem All2.one {α β : Type} {R : α → β → Prop} {a : α} {b : β} (r : R a b) : All2 R [a] [b] := All2.nil.snoc r
theorem All2.two {α β : Type} {R : α → β → Prop} {a a' : α} {b b' : β} (r : R a b) (r' : R a' b') : All2 R [a, a'] [b, b'] := (All2.one r).snoc r'
theorem All2.take {α β : Type} {R : α → β → Prop} {as : List α} {bs : List β} (h : All2 R as bs) (n : Nat) : All2 R (as.take n) (bs.take n) :=
  ⟨by rw [List.length_take, List.length_take, h.len], fun i a b ha hb => by
    rw [List.getElem?_take] at ha hb
    split at ha
    · rename_i c
      rw [if_pos c] at hb
      exact h.all i a b ha hb
    · cases ha⟩
theorem All2.rev {α β : Type} {R : α → β → Prop} {as : List α} {bs : List β} (h : All2 R as bs) : All2 R as.reverse bs.reverse :=
  ⟨by rw [List.length_reverse, List.length_reverse, h.len], fun i a b ha hb => by
    have hi : i < as.length := by
      have := (List.getElem?_eq_some_iff.mp ha).1
      simpa using this
    rw [List.getElem?_reverse hi] at ha
    rw [List.getElem?_reverse (by rw [← h.len]; exact hi), ← h.len] at hb
    exact h.all _ a b ha hb⟩
theorem same1 {H : Hp} {p : Addr} {o : HO} (h : H p = none) : Same H (upd H p o) := fun b u e => by rw [upd_ne (ne_of_none e h)]; exact e
theorem Same.tup {K : PySem.W.Frag} {H H' : Hp} {a : Addr} {xs : List V} (e : Same H H') (h : SqT K H a xs) : SqT K H' a xs := SqT.ext h e
theorem at_k {xs : List V} {k : Int} {v : V} (h0 : 0 ≤ k) (h : xs[k.toNat]? = some v) : atI xs k = some v := by
  have e := atI_nat h
  rw [Int.toNat_of_nonneg h0] at e
  exact e
/-- a def at hand: its promise, its name, how it is called -/
structure At (P : Program) (w : World) (K : PySem.W.Frag) (mg : Str → Option Value) (base : Heap) (CX : CXT) (k : Nat) (x : Str) (ps : List Str) (sp : Sp) (f : Addr) (fd : FuncData) : Prop where
  G : FnOk P w K mg base CX k f fd ps sp
  m : mg x = some (.ref f)
  k : PySem.W.keepIn K (.ref f) = true
  b : Binds K fd ps []
end K12

namespace K12
open PySem PySem.Spec PyProof.Rows L2
/-! ### the law's draws: any digit -/
/-- the builtins that the law asks by name -/
structure TxtB (mg : Str → Option Value) : Prop where
  int : mg "int" = none
  len : mg "len" = none
  abs : mg "abs" = none
/-- all but p stays -/
def But (p : Addr) (H H' : Hp) : Prop := ∀ b o, b ≠ p → H b = some o → H' b = some o
/-- a well that may be drawn from z times so far -/
def WellAt (H : Hp) (p : Addr) (z : Int) : Prop := ∃ x y : Int, H p = some (.lst [.int x, .int y, .int z]) ∧ 0 ≤ y ∧ y < 2 ^ 31
def spWell : Sp := fun vs H Q _ => ∃ c : Int, vs = [.int c] ∧ ∀ (p : Addr) (x y : Int), H p = none → 0 ≤ y → y < 2 ^ 31 → Q (.ref p) (upd H p (.lst [.int x, .int y, .int 0]))
def spDraw : Sp := fun vs H Q _ => ∃ (p : Addr) (m z : Int), vs = [.ref p, .int m] ∧ WellAt H p z ∧ 0 < m ∧ m < 2 ^ 62 ∧ 0 ≤ z ∧ z < 2 ^ 30 ∧
  ∀ (H' : Hp) (d z' : Int), But p H H' → WellAt H' p z' → 0 ≤ z' → z' ≤ z + 1 → 0 ≤ d → d < m → Q (.int d) H'
def spOne (K : PySem.W.Frag) : Sp := fun vs H Q _ => ∃ (p l : Addr) (xs : List V) (z : Int), vs = [.ref p, .ref l] ∧ WellAt H p z ∧ 0 ≤ z ∧ z < 2 ^ 30 ∧ H l = some (.lst xs) ∧ l ≠ p ∧ 0 < xs.length ∧ xs.length < 1000 ∧
  ∀ (H' : Hp) (z' : Int) (x : V), But p H H' → WellAt H' p z' → 0 ≤ z' → z' ≤ z + 1 → x ∈ xs → Q x H'
theorem prime_of {z : Int} : ∃ v : Int, atI [V.int 2147483647, V.int 2147483629, V.int 2147483587, V.int 2147483579, V.int 2147483563, V.int 2147483549, V.int 2147483543] (z % 7) = some (V.int v) ∧ 0 < v ∧ v < 2 ^ 31 := by
  have h : z % 7 = 0 ∨ z % 7 = 1 ∨ z % 7 = 2 ∨ z % 7 = 3 ∨ z % 7 = 4 ∨ z % 7 = 5 ∨ z % 7 = 6 := by omega
  rcases h with h | h | h | h | h | h | h <;> rw [h]
  · exact ⟨_, at_k (by decide) rfl, by decide, by decide⟩
  · exact ⟨_, at_k (by decide) rfl, by decide, by decide⟩
  · exact ⟨_, at_k (by decide) rfl, by decide, by decide⟩
  · exact ⟨_, at_k (by decide) rfl, by decide, by decide⟩
  · exact ⟨_, at_k (by decide) rfl, by decide, by decide⟩
  · exact ⟨_, at_k (by decide) rfl, by decide, by decide⟩
  · exact ⟨_, at_k (by decide) rfl, by decide, by decide⟩
section
variable {P : Program} {w : World} {K : PySem.W.Frag} {mg : Str → Option Value} {base : Heap}
theorem scWell : FnScope ["cell"] ["cell"] (defScope d_law_well) := ⟨rfl, rfl, rfl, by decide +kernel, rfl, by decide +kernel, by decide +kernel⟩
theorem ok_well {f : Addr} {fd : FuncData} (F : Fun K "_law_well" "_law_well" d_law_well f fd) (B : TxtB mg) : FnOk P w K mg base CX0 1 f fd ["cell"] spWell := by
  refine F.ok scWell (fun vs H Q E h => ?_) (fun cdv A outer s H vs Q E hr h => ?_)
  · obtain ⟨c, rfl, _⟩ := h
    rfl
  · obtain ⟨c, rfl, kq⟩ := h
    refine ⟨_, pss_one (ps_ret (pe_lst (pa_cons (pe_op op_mul (pv 0) (pe_callTy call_int1 (by rfl) B.int (by decide +kernel) (pa_cons (pe_cmpR op_ge (pv 0) (pe_op op_pow pe_int pe_int) (nomark _)) pa_nil)))
      (pa_cons (pe_op op_mod (pv 0) pe_int) (pa_cons pe_int pa_nil))))), ?_⟩
    refine ⟨_, rfl, _, rfl, _, _, rfl, rfl, ⟨by decide, by decide, by decide⟩, _, _, rfl, rfl, .inr ⟨_, rfl, ?_⟩⟩
    refine ⟨_, _, rfl, rfl, .inr (by split <;> decide), _, rfl, _, _, rfl, rfl, (by show (0 : Int) < 2147483647; decide), (by show 3 ≤ sizeLine; decide), fun p hp => ?_⟩
    exact kq p _ _ hp (Int.emod_nonneg _ (by decide)) (Int.lt_of_lt_of_le (Int.emod_lt_of_pos _ (by decide)) (by decide))
theorem scDraw : FnScope ["well", "many", "digit", "prime", "number"] ["well", "many"] (defScope d_law_draw) := ⟨rfl, rfl, rfl, by decide +kernel, rfl, by decide +kernel, by decide +kernel⟩
theorem ok_draw {f : Addr} {fd : FuncData} (F : Fun K "_law_draw" "_law_draw" d_law_draw f fd) : FnOk P w K mg base CX0 1 f fd ["well", "many"] spDraw := by
  refine F.ok scDraw (fun vs H Q E h => ?_) (fun cdv A outer s H vs Q E hr h => ?_)
  · obtain ⟨p, m, z, rfl, _⟩ := h
    rfl
  · obtain ⟨p, m, z, rfl, ⟨x, y, hp, y0, y1⟩, m0, m1, z0, z1, kq⟩ := h
    refine ⟨_, pss_cons (ps_if (pt_cmpR op_gt (pe_ix ix_list (pv 0) pe_int (fun _ _ => rfl)) pe_int (nomark _))
        (pss_cons (ps_set (i := 2) scDraw.nd rfl (Or.inl rfl) (pe_op op_mod (pe_ix ix_list (pv 0) pe_int (fun _ _ => rfl)) (pv 1)))
        (pss_cons (ps_asg (pe_op op_fdivW (pe_ix ix_list (pv 0) pe_int (fun _ _ => rfl)) (pv 1)) (pg_sub (pv 0) pe_int set_list))
        (pss_one (ps_ret (pv 2))))) pss_nil)
      (pss_cons (ps_asg (pe_op op_add (pe_ix ix_list (pv 0) pe_int (fun _ _ => rfl)) pe_int) (pg_sub (pv 0) pe_int set_list))
      (pss_cons (ps_set (i := 3) scDraw.nd rfl (Or.inl rfl) (pe_ix ix_list (pe_lst (pa_cons pe_int (pa_cons pe_int (pa_cons pe_int (pa_cons pe_int (pa_cons pe_int (pa_cons pe_int (pa_cons pe_int pa_nil)))))))) (pe_op op_mod (pe_ix ix_list (pv 0) pe_int (fun _ _ => rfl)) pe_int) (fun _ _ => rfl)))
      (pss_cons (ps_set (i := 4) scDraw.nd rfl (Or.inl rfl) (pe_op op_mod (pe_op op_pow (pe_op op_add (pe_op op_add (pe_ix ix_list (pv 0) pe_int (fun _ _ => rfl)) (pe_op op_mul pe_int (pe_ix ix_list (pv 0) pe_int (fun _ _ => rfl)))) pe_int) pe_int) (pv 3)))
      (pss_cons (ps_set (i := 4) scDraw.nd rfl (Or.inl rfl) (pe_op op_mod (pe_op op_mul (pe_op op_add (pv 4) (pe_ix ix_list (pv 0) pe_int (fun _ _ => rfl))) (pe_op op_add (pe_op op_fdiv (pv 4) pe_int) pe_int)) (pv 3)))
      (pss_one (ps_ret (pe_op op_mod (pe_op op_fdiv (pv 4) pe_int) (pv 1)))))))), ?_⟩
    refine ⟨_, rfl, p, _, _, _, rfl, rfl, SqL.of hp, at_k (by decide) rfl, _, _, rfl, rfl, _, rfl, ?_⟩
    refine ite2 (fun h => ?_) (fun h => ?_)
    · refine ⟨_, rfl, p, _, _, _, rfl, rfl, SqL.of hp, at_k (by decide) rfl, _, rfl, _, _, rfl, rfl, m0, ?_⟩
      refine ⟨_, rfl, p, _, _, _, rfl, rfl, SqL.of hp, at_k (by decide) rfl, _, rfl, _, _, rfl, rfl, wide_div (b := 62) m0 (by omega) (by decide) (by decide), ?_⟩
      refine ⟨_, rfl, p, _, _, 0, rfl, rfl, hp, rfl, ?_⟩
      exact ⟨_, rfl, kq _ _ _ (fun b o hb e => by rw [upd_ne hb]; exact e) ⟨_, _, upd_same, y0, y1⟩ z0 (by omega) (Int.emod_nonneg _ (by omega)) (Int.emod_lt_of_pos _ m0)⟩
    · refine ⟨_, rfl, p, _, _, _, rfl, rfl, SqL.of hp, at_k (by decide) rfl, _, _, rfl, rfl, ?_⟩
      refine ⟨_, rfl, p, _, _, 2, rfl, rfl, hp, rfl, ?_⟩
      obtain ⟨v, hv, v0, v1⟩ := prime_of (z := z + 1)
      refine ⟨(by show 7 ≤ sizeLine; decide), fun q hq => ?_⟩
      have hqp : p ≠ q := fun e => by rw [← e, upd_same] at hq; cases hq
      have hw : upd (upd H p (.lst [.int x, .int y, .int (z + 1)])) q (.lst [V.int 2147483647, V.int 2147483629, V.int 2147483587, V.int 2147483579, V.int 2147483563, V.int 2147483549, V.int 2147483543]) p = some (.lst [.int x, .int y, .int (z + 1)]) := by rw [upd_ne hqp, upd_same]
      refine ⟨_, rfl, p, _, _, _, rfl, rfl, SqL.of hw, at_k (by decide) rfl, _, _, rfl, rfl, (by show (0 : Int) < 7; decide), ?_⟩
      refine ⟨q, _, _, _, rfl, rfl, SqL.of upd_same, hv, ?_⟩
      refine ⟨_, rfl, p, _, _, _, rfl, rfl, SqL.of hw, at_k (by decide) rfl, _, rfl, p, _, _, _, rfl, rfl, SqL.of hw, at_k (by decide) rfl, _, _, rfl, rfl, .inl ⟨by decide, by decide⟩, _, _, rfl, rfl, _, _, rfl, rfl, _, _, rfl, rfl,
        ⟨by decide, by decide, by omega⟩, _, rfl, _, _, rfl, rfl, v0, ?_⟩
      have n0 := Int.emod_nonneg ((y + 7919 * (z + 1) + 1) ^ (5 : Int).toNat) (show v ≠ 0 by omega)
      have n1 := Int.emod_lt_of_pos ((y + 7919 * (z + 1) + 1) ^ (5 : Int).toNat) v0
      refine ⟨_, rfl, _, rfl, p, _, _, _, rfl, rfl, SqL.of hw, at_k (by decide) rfl, _, _, rfl, rfl, _, rfl, _, _, rfl, rfl, ⟨by decide, by decide⟩, _, _, rfl, rfl, _, _, rfl, rfl, .inl ⟨by omega, by omega⟩, _, rfl, _, _, rfl, rfl, v0, ?_⟩
      refine ⟨_, rfl, _, _, rfl, rfl, ⟨by decide, by decide⟩, _, rfl, _, _, rfl, rfl, m0, ?_⟩
      refine kq _ _ _ (fun b o hb e => ?_) ⟨_, _, hw, y0, y1⟩ (by omega) (by omega) (Int.emod_nonneg _ (by omega)) (Int.emod_lt_of_pos _ m0)
      have e1 : upd H p (.lst [.int x, .int y, .int (z + 1)]) b = some o := by rw [upd_ne hb]; exact e
      rw [upd_ne (ne_of_none e1 hq)]
      exact e1
theorem scOne : FnScope ["well", "some"] ["well", "some"] (defScope d_law_one) := ⟨rfl, rfl, rfl, by decide +kernel, rfl, by decide +kernel, by decide +kernel⟩
theorem ok_one {f fD : Addr} {fd fdD : FuncData} (F : Fun K "_law_one" "_law_one" d_law_one f fd) (B : TxtB mg) (GD : FnOk P w K mg base CX0 1 fD fdD ["well", "many"] spDraw) (mD : mg "_law_draw" = some (.ref fD)) (kD : PySem.W.keepIn K (.ref fD) = true) (bD : Binds K fdD ["well", "many"] []) :
    FnOk P w K mg base CX0 2 f fd ["well", "some"] (spOne K) := by
  refine F.ok scOne (fun vs H Q E h => ?_) (fun cdv A outer s H vs Q E hr h => ?_)
  · obtain ⟨p, l, xs, z, rfl, _⟩ := h
    rfl
  · obtain ⟨p, l, xs, z, rfl, hp, z0, z1, hl, ne, l0, l1, kq⟩ := h
    refine ⟨_, pss_one (ps_ret (pe_ix ix_list (pv 1) (pe_call GD hr rfl mD kD bD .nil pass0 (pa_cons (pv 0) (pa_cons (pe_callB call_len_seq (by rfl) B.len PySem.boot_len (pa_cons (pv 1) pa_nil)) pa_nil))) (fun _ _ => rfl))), ?_⟩
    refine ⟨_, rfl, _, rfl, _, rfl, l, xs, rfl, .inl (SqL.of hl), ?_⟩
    refine ⟨p, _, z, rfl, hp, (by omega), (by omega), z0, z1, fun H' d z' bt hp' z0' z1' d0 d1 => ?_⟩
    have hd : d.toNat < xs.length := by omega
    refine ⟨l, xs, _, xs[d.toNat], rfl, rfl, SqL.of (bt l _ ne hl), at_k d0 (by simp [hd]), ?_⟩
    exact kq H' z' _ bt hp' z0' z1' (List.getElem_mem hd)
end
end K12

namespace K12
open PySem PySem.Spec PyProof.Rows L2
/-! ### in lowest terms, by the law -/
def spLow : Sp := fun vs H Q _ => ∃ a b : Int, vs = [.int a, .int b] ∧ b ≠ 0 ∧ a.natAbs < 2 ^ 4000 ∧ b.natAbs < 2 ^ 4000 ∧
  ∀ p : Addr, H p = none → Q (.ref p) (upd H p (.tup [.int (lowT a b), .int (lowB a b)]))
def leftOf : L2.St → Nat
  | [_, _, _, some (.int l)] => l.toNat
  | _ => 0
theorem absV (i : Int) : (if i < 0 then -i else i) = ((i.natAbs : Nat) : Int) := by split <;> omega
section
variable {P : Program} {w : World} {K : PySem.W.Frag} {mg : Str → Option Value} {base : Heap}
theorem scLow : FnScope ["top", "bottom", "one", "other"] ["top", "bottom"] (defScope d_law_low) := ⟨rfl, rfl, rfl, by decide +kernel, rfl, by decide +kernel, by decide +kernel⟩
theorem ok_low {f : Addr} {fd : FuncData} (F : Fun K "_law_low" "_law_low" d_law_low f fd) (B : TxtB mg) : FnOk P w K mg base CX0 1 f fd ["top", "bottom"] spLow := by
  refine F.ok scLow (fun vs H Q E h => ?_) (fun cdv A outer s H vs Q E hr h => ?_)
  · obtain ⟨a, b, rfl, _⟩ := h
    rfl
  · obtain ⟨a, b, rfl, hb, sa, sb, kq⟩ := h
    refine ⟨_, pss_cons (ps_par (i := 2) (j := 3) rfl scLow.nd rfl rfl (by decide) rfl rfl (pa_cons (pe_callB call_abs (by rfl) B.abs (by decide +kernel) (pa_cons (pv 0) pa_nil)) (pa_cons (pe_callB call_abs (by rfl) B.abs (by decide +kernel) (pa_cons (pv 1) pa_nil)) pa_nil)) (by rfl))
      (pss_cons (ps_while PassesOwn.never (pt_cmpR op_gt (pv 3) pe_int (nomark _)) (pss_one (ps_par (i := 2) (j := 3) rfl scLow.nd rfl rfl (by decide) rfl rfl (pa_cons (pv 3) (pa_cons (pe_op op_mod (pv 2) (pv 3)) pa_nil)) (by rfl))))
      (pss_cons (ps_if (pt_cmpR op_lt (pv 1) pe_int (nomark _)) (pss_one (ps_set (i := 2) scLow.nd rfl (Or.inl rfl) (pe_op op_sub pe_int (pv 2)))) pss_nil)
      (pss_one (ps_ret (pe_tup (pa_cons (pe_op op_fdivX (pv 0) (pv 2)) (pa_cons (pe_op op_fdivX (pv 1) (pv 2)) pa_nil))))))), ?_⟩
    refine ⟨_, rfl, a, rfl, _, rfl, b, rfl, _, _, rfl, ?_⟩
    rw [absV, absV]
    refine while_by (fun σ H' => H' = H ∧ ∃ g l : Nat, σ = [some (.int a), some (.int b), some (.int (g : Int)), some (.int (l : Int))] ∧ Nat.gcd g l = Nat.gcd a.natAbs b.natAbs) (fun σ _ => leftOf σ) ⟨rfl, _, _, rfl, rfl⟩ ?_ ?_
    · rintro σ H' ⟨rfl, g, l, rfl, hg⟩
      refine ⟨_, rfl, _, _, rfl, rfl, _, rfl, ?_⟩
      by_cases hl : l = 0
      · subst hl
        rw [show decide ((0 : Int) < ((0 : Nat) : Int)) = false from by simp]
        refine iteF ?_
        have ge : g = Nat.gcd a.natAbs b.natAbs := by rw [← hg, Nat.gcd_zero_right]
        refine ⟨_, rfl, _, _, rfl, rfl, _, rfl, ?_⟩
        have gs : (sg a b).natAbs < 2 ^ 4000 := Nat.lt_of_le_of_lt (sg_le hb) sb
        refine ite2 (fun hn => ?_) (fun hn => ?_)
        · have hn : b < 0 := of_decide_eq_true hn
          have e : 0 - (g : Int) = sg a b := by unfold sg; rw [if_pos hn, ge]; omega
          have g0 : 0 - (g : Int) ≠ 0 := by rw [e]; exact sg_ne hb
          have gd : ∀ i : Int, CDivX i (0 - (g : Int)) := fun i => big_div (b := 4000) g0 (by rw [e]; exact gs) (by decide) (by decide)
          refine ⟨_, rfl, _, _, rfl, rfl, ?_⟩
          refine ⟨_, rfl, _, rfl, _, _, rfl, rfl, gd _, _, rfl, _, rfl, _, _, rfl, rfl, gd _, (by show 2 ≤ sizeLine; decide), fun p hp => ?_⟩
          have z := kq p hp
          unfold lowT lowB at z
          rw [← e] at z
          exact z
        · have hn : ¬ b < 0 := fun q => hn (decide_eq_true q)
          have e : (g : Int) = sg a b := by unfold sg; rw [if_neg hn, ge]
          have g0 : (g : Int) ≠ 0 := by rw [e]; exact sg_ne hb
          have gd : ∀ i : Int, CDivX i (g : Int) := fun i => big_div (b := 4000) g0 (by rw [e]; exact gs) (by decide) (by decide)
          refine ⟨_, rfl, _, rfl, _, _, rfl, rfl, gd _, _, rfl, _, rfl, _, _, rfl, rfl, gd _, (by show 2 ≤ sizeLine; decide), fun p hp => ?_⟩
          have z := kq p hp
          unfold lowT lowB at z
          rw [← e] at z
          exact z
      · rw [show decide ((0 : Int) < (l : Int)) = true from decide_eq_true (by omega)]
        refine iteT ?_
        refine ⟨_, rfl, _, rfl, _, rfl, _, _, rfl, rfl, (by show (0 : Int) < (l : Int); omega), _, _, rfl, ⟨rfl, l, g % l, ?_, ?_⟩, ?_⟩
        · show [some (V.int a), some (V.int b), some (V.int (l : Int)), some (V.int ((g : Int) % (l : Int)))] = _
          rw [Int.natCast_emod]
        · rw [← hg, Nat.gcd_comm g l, Nat.gcd_rec l g, Nat.gcd_comm]
        · show ((g : Int) % (l : Int)).toNat < ((l : Int)).toNat
          have h1 : (g : Int) % (l : Int) = ((g % l : Nat) : Int) := (Int.natCast_emod g l).symm
          rw [h1, Int.toNat_natCast, Int.toNat_natCast]
          exact Nat.mod_lt _ (by omega)
    · intro σ H' Q1 Q2 m h
      obtain ⟨v, e, i, j, e1, e2, k, ek, q⟩ := h
      exact ⟨v, e, i, j, e1, e2, k, ek, m _ _ q⟩
end
end K12

namespace K12
open PySem PySem.Spec PyProof.Rows PySem.Calls
/-! ### == of two tuples whose items have an own == : both answers -/
section
variable {prog : Program} {w : World} {A : Around} {R : Result → Shared → Prop}
theorem tuple_eqB (l b : Addr) (items items2 : Array Value) (n n2 : Nat) (dd dd2 : Option Addr) (sl sl2 : Array (Option Value)) (I : Nat → Shared → Prop)
    (turn : ∀ i (h1 : i < items.size) (h2 : i < items2.size) s, I i s → wpAny (model prog w) A.in1 (eqBool items[i] items2[i]) (fun r s' => (r = true ∧ I (i + 1) s') ∨ (r = false ∧ R (.ok (.ret (.bool false))) s')) (fun e s' => R (.error e) s') s)
    (fin : ∀ s, I (min items.size items2.size) s → R (.ok (.ret (.bool (items.size == items2.size)))) s) {s : Shared} (hl1 : s.heap.get? l = some { cls := .type "tuple", dict := dd, data := .seq items n, slots := sl }) (hb1 : s.heap.get? b = some { cls := .type "tuple", dict := dd2, data := .seq items2 n2, slots := sl2 }) (h : I 0 s) :
    wpAny (model prog w) A.in1 (Builtin.«tuple.__eq__» ⟨[.ref l, .ref b], []⟩) (GQ.FinOf prog w A R) (fun e s' => R (.error e) s') s := by
  have f2 := AutoSeq1.sub_tuple_tuple
  have hZ : (items.toList.zip items2.toList).length = min items.size items2.size := by simp
  have h0 := h
  obtain ⟨hp, g, d, tk, os⟩ := s
  wp_walk using wpAny_loadPart' hl1, wpAny_loadPart' hb1, wpAny_forIn_list _ (fun rest b s' => b.1 = none ∧ ∃ i, rest = (items.toList.zip items2.toList).drop i ∧ i ≤ min items.size items2.size ∧ I i s') _
  case turn =>
    rintro ⟨y, x⟩ rest b s' ⟨hb', i, hz, hi, hI⟩
    have hlt : i < (items.toList.zip items2.toList).length := by
      rcases Nat.lt_or_ge i (items.toList.zip items2.toList).length with h' | h'
      · exact h'
      · rw [List.drop_of_length_le h'] at hz; cases hz
    have h1 : i < items.size := by omega
    have h2 : i < items2.size := by omega
    rw [List.drop_eq_getElem_cons hlt] at hz
    injection hz with hyx hrest
    have hy : y = items[i] := by have := congrArg Prod.fst hyx; simpa using this
    have hx : x = items2[i] := by have := congrArg Prod.snd hyx; simpa using this
    subst hy hx
    refine wpAny_bind (wpAny_mono (turn i h1 h2 s' hI) (fun r s2 q2 => ?_) fun _ _ x => x)
    rcases q2 with ⟨hr, q2⟩ | ⟨hr, q2⟩
    · subst hr
      wp_walk
      exact ⟨rfl, i + 1, hrest, by omega, q2⟩
    · subst hr
      wp_walk
      exact q2
  case fin =>
    rintro ⟨b1, b2⟩ s' ⟨hb', i, hz, hi, hI⟩
    simp only at hb'
    subst hb'
    have hge : min items.size items2.size ≤ i := by
      rcases Nat.lt_or_ge i (items.toList.zip items2.toList).length with h' | h'
      · rw [List.drop_eq_getElem_cons h'] at hz; cases hz
      · exact hZ ▸ h'
    have hi' : i = min items.size items2.size := by omega
    have hR := fin s' (hi' ▸ hI)
    wp_walk
    simpa [Builtin.Tuple.tupleCompareSizes] using hR
  case h =>
    exact ⟨rfl, 0, rfl, Nat.zero_le _, h0⟩
end
section
variable {prog : Program} {w : World} {A : Around} {E : Value → Shared → Prop} {s : Shared}
theorem rc_tupB {l b : Addr} {items items2 : Array Value} {Q : Value → Shared → Prop} (hu : A.units < cLine) (I : Nat → Shared → Prop)
    (hl : s.heap.IsTuple l items) (hb : s.heap.IsTuple b items2)
    (turn : ∀ i (h1 : i < items.size) (h2 : i < items2.size) s, I i s → wpAny (model prog w) A.in1 (eqBool items[i] items2[i]) (fun r s' => (r = true ∧ I (i + 1) s') ∨ (r = false ∧ Q (.bool false) s')) E s)
    (fin : ∀ s, I (min items.size items2.size) s → Q (.bool (items.size == items2.size)) s) (h : I 0 s) : wpAny (model prog w) A (richCompare .Eq (.ref l) (.ref b)) Q E s := by
  obtain ⟨⟨cls, dd, data, sl⟩, ho, hc, n, hd⟩ := id hl
  obtain ⟨⟨cls2, dd2, data2, sl2⟩, ho2, hc2, n2, hd2⟩ := id hb
  simp only at hc hd hc2 hd2
  subst hc hd hc2 hd2
  refine wpAny_richCompare_same_room (op := .Eq) ⟨_, ho, rfl⟩ ⟨_, ho2, rfl⟩ F.slot_tuple_eq (GQ.call_here F.slot_tuple_eq ⟨_, ho, rfl⟩ F.entry_tuple_eq (F.args_tuple_eq_2 _ _) ?_) hu
  refine tuple_eqB (R := wants (fun v s' => v ≠ .notImplemented ∧ Q v s') E) l b items items2 n n2 dd dd2 sl sl2 I (fun i h1 h2 s' q => wpAny_mono (turn i h1 h2 s' q) (fun r s2 z => ?_) fun _ _ z => z) (fun s' q => ⟨(fun x => nomatch x), fin s' q⟩) ho ho2 h
  rcases z with z | ⟨hr, z⟩
  · exact .inl z
  · exact .inr ⟨hr, (fun x => nomatch x), z⟩
end
end K12

namespace K12
open PySem PySem.Spec PyProof.Rows L2
/-! ### == of a share and anything, by its own __eq__ -/
/-- what isinstance asks of the class, and what the law puts beside a share -/
structure TxtI (K : PySem.W.Frag) (C : Addr) : Prop where
  ha : PySem.W.findIn K (.ref C) "__class__" = some (some (.builtin "object.__class__"))
  hn : PySem.W.specialIn K (.builtin "object.__class__") "__get__" = some (some (.builtin "getset_descriptor.__get__"))
  htk : PySem.W.takesIn K (.builtin "object.__class__") = some true
  hm : PySem.W.mroIn K C (.type "object") = some true
  me : PySem.W.kitOne K (.ref C) (.ref C) = some true
  mt : PySem.W.kitOne K (.type "tuple") (.ref C) = some false
  mi : PySem.W.kitOne K (.type "int") (.ref C) = some false
  mn : PySem.W.kitOne K (.type "NoneType") (.ref C) = some false
/-- either another share, or something that is none -/
def EqTo (K : PySem.W.Frag) (C : Addr) (H : Hp) (v : V) (t1 b1 : Int) (r : Bool) : Prop :=
  (∃ (y : Addr) (t2 b2 : Int), v = .ref y ∧ ShAt C H y t2 b2 ∧ r = (decide (t1 = t2) && decide (b1 = b2))) ∨ (∃ ty, TyX K H v ty ∧ PySem.W.kitOne K ty (.ref C) = some false ∧ r = false)
def spEqS (K : PySem.W.Frag) (C : Addr) : Sp := fun vs H Q _ => ∃ (x : Addr) (v : V) (t1 b1 : Int) (r : Bool), vs = [.ref x, v] ∧ ShAt C H x t1 b1 ∧ EqTo K C H v t1 b1 r ∧ Q (.bl r) H
section
variable {P : Program} {w : World} {K : PySem.W.Frag} {mg : Str → Option Value} {base : Heap}
theorem decI (a b : Int) : decide (V.int a = V.int b) = decide (a = b) := by
  by_cases h : a = b
  · rw [h]; simp
  · simp [h]
theorem scEq : FnScope ["self", "other"] ["self", "other"] (defScope sEq) := ⟨rfl, rfl, rfl, by decide +kernel, rfl, by decide +kernel, by decide +kernel⟩
theorem ok_eq {f C CN : Addr} {fd : FuncData} (F : Fun K "__eq__" "Share.__eq__" sEq f fd) (T : Txt K mg C CN) (TI : TxtI K C) : FnOk P w K mg base CX0 1 f fd ["self", "other"] (spEqS K C) := by
  refine F.ok scEq (fun vs H Q E h => ?_) (fun cdv A outer s H vs Q E hr h => ?_)
  · obtain ⟨x, v, t1, b1, r, rfl, _⟩ := h
    rfl
  · obtain ⟨x, v, t1, b1, r, rfl, ⟨dx, hx⟩, hv, k⟩ := h
    refine ⟨_, pss_one (ps_ret (pe_and (pe_callB call_isi (by rfl) T.isi (by decide +kernel) (pa_cons (pv 1) (pa_cons (pe_glob (v := .ref C) rfl T.mgC rfl) pa_nil)))
      (pe_and (pe_cmpR op_eq (pe_fld (pv 0) rfl) (pe_fld (pv 1) rfl) (nomark _)) (pe_one (pe_cmpR op_eq (pe_fld (pv 0) rfl) (pe_fld (pv 1) rfl) (nomark _)))))), ?_⟩
    rcases hv with ⟨y, t2, b2, rfl, ⟨dy, hy⟩, rfl⟩ | ⟨ty, hty, hk, rfl⟩
    · refine ⟨_, rfl, _, _, _, _, true, rfl, ClsV.own C, TyX.base (TyOf.ins hy T.cl TI.ha TI.hn TI.htk TI.hm), TI.me, true, rfl, iteT ?_⟩
      refine ⟨_, rfl, x, C, dx, _, _, rfl, hx, T.cl, T.nT, shf_top .., _, rfl, y, C, dy, _, _, rfl, hy, T.cl, T.nT, shf_top .., rfl, _, rfl, ?_⟩
      rw [decI]
      by_cases e : t1 = t2
      · rw [decide_eq_true e] at k ⊢
        refine iteT ?_
        refine ⟨_, rfl, x, C, dx, _, _, rfl, hx, T.cl, T.nB, shf_bottom .., _, rfl, y, C, dy, _, _, rfl, hy, T.cl, T.nB, shf_bottom .., rfl, ?_⟩
        rw [decI]
        exact k
      · rw [decide_eq_false e] at k ⊢
        exact iteF k
    · refine ⟨_, rfl, _, _, _, _, false, rfl, ClsV.own C, hty, hk, false, rfl, iteF k⟩
end
end K12
namespace K12
open PySem PySem.Spec PyProof.Rows L2
/-! ### comparisons with a share in them -/
/-- what stands beside a share: another one, or a value of a built-in type that the share's class is no subclass of, and that is none of it -/
structure Odd (K : PySem.W.Frag) (C : Addr) (T : String) : Prop where
  k : PySem.W.kitOne K (.type T) (.ref C) = some false
  l : PySem.W.subIn K (.type T) (.ref C) = some false
  r : PySem.W.subIn K (.ref C) (.type T) = some false
/-- the own == of the class at C stands at f, and keeps its promise -/
structure OwnEq (X : Cx) (n : Nat) (C f : Addr) : Prop where
  fn : ∃ fd ps, FnOk X.prog X.w X.K X.mg X.base CX0 n f fd ps (spEqS X.K C) ∧ Binds X.K fd ps []
  at_ : PySem.W.findIn X.K (.ref C) "__eq__" = some (some (.ref f))
  isf : PySem.W.isFn X.K (.ref f) = true
section
variable {X : Cx} {n : Nat} {C f : Addr} {A : Around} {pins : List (Addr × Obj)} {s : Shared} {σ : L2.St} {H : Hp} {x : Addr} {v : V} {u : Value} {t1 b1 : Int} {r : Bool} {T : String}
/-- the def itself, called -/
theorem run_own (O : OwnEq X n C f) (sb : Sub X n A) (I : Inv X pins σ H s) (rv : RelV v u) (hx : ShAt C H x t1 b1) (hv : EqTo X.K C H v t1 b1 r) :
    wpAny (model X.prog X.w) A (call (.ref f) [.ref x, u]) (fun q s' => q = .bool r ∧ Inv X pins σ H s') X.xe s := by
  obtain ⟨fd, ps, F, hb⟩ := O.fn
  have hsp : spEqS X.K C [.ref x, v] H (fun z H' => z = .bl r ∧ H' = H) E0 := ⟨x, v, t1, b1, r, rfl, hx, hv, rfl, rfl⟩
  have e0 : Env0 X.prog X.w X.K X.mg X.base A X.stack s H := by
    have e := I.env0
    exact ⟨by rw [sb.fr]; exact e.frames, e.mod, e.bs, e.bsz, e.funs, e.frf, e.hok, e.bare⟩
  have hl := F.len _ _ _ _ hsp
  have r2 : Vals [V.ref x, v] [Value.ref x, u] := .cons rfl (.cons rv .nil)
  have bb := hb s [.ref x, u] I.kIn (by simpa using hl)
  rw [List.append_nil] at bb
  refine wpAny_call (codeAny_mono (F.run A X.stack s H ⟨[.ref x, u], []⟩ [.ref x, u] [.ref x, v] _ E0 sb.room e0 bb r2 hsp) fun q s' hq => ?_)
  cases q with
  | error e => exact hq.elim
  | ok fl =>
    cases fl with
    | ret z =>
      obtain ⟨y, H', I', ry, ey, eH⟩ := I.after hq
      subst ey
      subst eH
      cases ry
      exact ⟨rfl, I'⟩
    | next => exact False.elim hq
    | brk => exact False.elim hq
    | cont => exact False.elim hq
theorem ins_at (I : Inv X pins σ H s) (hx : ShAt C H x t1 b1) : ∃ ox od, PySem.W.InstAt s.heap x ox C od := by
  obtain ⟨dx, e⟩ := hx
  obtain ⟨m, J, _⟩ := ins_get I.hok e
  obtain ⟨od, J, _⟩ := J.look
  exact ⟨_, _, J⟩
/-- a share on the left -/
theorem rc_left (O : OwnEq X n C f) (sb : Sub X n A) (I : Inv X pins σ H s) (rv : RelV v u) (hx : ShAt C H x t1 b1) (hv : EqTo X.K C H v t1 b1 r)
    {tb : Value} (ht : PySem.W.Looks (model X.prog X.w) s.heap (typeOf u) tb) (hf : PySem.W.notFirst X.K C tb = true) :
    wpAny (model X.prog X.w) A (richCompare .Eq (.ref x) u) (fun q s' => q = .bool r ∧ Inv X pins σ H s') X.xe s := by
  obtain ⟨ox, od, J⟩ := ins_at I hx
  obtain ⟨m, hF⟩ := I.fr
  refine PySem.W.cmp_K (op := .Eq) (tb := tb) sb.room.units0 hF I.ok.mod.kin J ht hf O.at_ O.isf ?_
  refine wpAny_mono (run_own O sb I rv hx hv) (fun q s' z => ?_) fun _ _ z => z
  obtain ⟨rfl, I'⟩ := z
  exact ⟨rfl, I'⟩
/-- two shares -/
theorem rc_two (O : OwnEq X n C f) (sb : Sub X n A) (I : Inv X pins σ H s) {y : Addr} {t2 b2 : Int} (hx : ShAt C H x t1 b1) (hy : ShAt C H y t2 b2) :
    wpAny (model X.prog X.w) A (richCompare .Eq (.ref x) (.ref y)) (fun q s' => q = .bool (decide (t1 = t2) && decide (b1 = b2)) ∧ Inv X pins σ H s') X.xe s := by
  obtain ⟨oy, od, J⟩ := ins_at I hy
  exact rc_left O sb I (v := .ref y) rfl hx (.inl ⟨y, t2, b2, rfl, hy, rfl⟩) J.type (by simp [PySem.W.notFirst])
/-- a value of a built-in type on the left, a share on the right -/
theorem rc_right (O : OwnEq X n C f) (sb : Sub X n A) (I : Inv X pins σ H s) (rv : RelV v u) (hx : ShAt C H x t1 b1) (ty : TyX X.K H v (.type T)) (D : Odd X.K C T)
    (dec : wpAny (model X.prog X.w) A (tryCompare u "__eq__" (.ref x)) (fun q s' => q = none ∧ s' = s) X.xe s) :
    wpAny (model X.prog X.w) A (richCompare .Eq u (.ref x)) (fun q s' => q = .bool false ∧ Inv X pins σ H s') X.xe s := by
  obtain ⟨ox, od, J⟩ := ins_at I hx
  obtain ⟨Ph, Z, ph, _⟩ := kit_of I rv ty
  have LT := Z.ty (model X.prog X.w) s.heap I.kIn ph
  have nu : oneThing? .Eq u (.ref x) = none := by cases u <;> rfl
  unfold richCompare
  simp only [nu]
  refine wpAny_holding (wpAny_bind (wpAny_cRoomFor sb.room.units0 ?_))
  refine wpAny_bind (LT.here (wpAny_bind (J.type.here ?_)))
  rw [if_pos (show (Value.type T != Value.ref C) = true from rfl)]
  refine wpAny_bind ((PySem.W.looks_subIn I.kIn D.r).here ?_)
  simp only [Bool.false_eq_true, if_false]
  refine wpAny_bind (wpAny_mono dec (fun q s' z => ?_) fun _ _ z => z)
  obtain ⟨rfl, rfl⟩ := z
  simp only [Bool.not_false, if_true]
  refine wpAny_bind (m := tryCompare (.ref x) _ u) ?_
  unfold tryCompare
  refine wpAny_bind (PySem.W.ifBound_K I.kIn J O.at_ O.isf (wpAny_mono (run_own O sb I rv hx (.inr ⟨_, ty, D.k, rfl⟩)) (fun q s' z => ?_) fun _ _ z => z))
  obtain ⟨rfl, I'⟩ := z
  exact wpAny_pure (wpAny_pure ⟨rfl, I'⟩)
end
end K12

namespace K12
open PySem PySem.Spec PyProof.Rows PySem.Calls L2
/-! ### words: tuples of shares, and their == -/
/-- at each of ps stands the share of ws at the same place -/
def ShAll (C : Addr) (H : Hp) (ps : List Addr) (ws : List (Int × Int)) : Prop := ps.length = ws.length ∧ ∀ (i : Nat) (p : Addr) (x : Int × Int), ps[i]? = some p → ws[i]? = some x → ShAt C H p x.1 x.2
theorem ShAll.mono {C : Addr} {H H' : Hp} {ps : List Addr} {ws : List (Int × Int)} (h : ShAll C H ps ws) (s : Same H H') : ShAll C H' ps ws := ⟨h.1, fun i p x a b => (h.2 i p x a b).mono s⟩
theorem ShAll.drop {C : Addr} {H : Hp} {ps : List Addr} {ws : List (Int × Int)} (h : ShAll C H ps ws) (n : Nat) : ShAll C H (ps.drop n) (ws.drop n) :=
  ⟨by rw [List.length_drop, List.length_drop, h.1], fun i p x a b => h.2 (n + i) p x (by rw [← List.getElem?_drop]; exact a) (by rw [← List.getElem?_drop]; exact b)⟩
theorem ShAll.take {C : Addr} {H : Hp} {ps : List Addr} {ws : List (Int × Int)} (h : ShAll C H ps ws) (n : Nat) : ShAll C H (ps.take n) (ws.take n) :=
  ⟨by rw [List.length_take, List.length_take, h.1], fun i p x a b => by
    rw [List.getElem?_take] at a b
    split at a
    · rename_i q
      rw [if_pos q] at b
      exact h.2 i p x a b
    · cases a⟩
section
variable {X : Cx} {n : Nat} {C f : Addr} {A : Around} {pins : List (Addr × Obj)} {s : Shared} {σ : L2.St} {H : Hp}
theorem eqB_two (O : OwnEq X n C f) (sb : Sub X n A) (I : Inv X pins σ H s) {p q : Addr} {x y : Int × Int} (hx : ShAt C H p x.1 x.2) (hy : ShAt C H q y.1 y.2) :
    wpAny (model X.prog X.w) A (eqBool (.ref p) (.ref q)) (fun r s' => r = decide (x = y) ∧ Inv X pins σ H s') X.xe s := by
  by_cases h : p = q
  · subst h
    have e : x = y := by
      obtain ⟨dx, e1⟩ := hx
      obtain ⟨dy, e2⟩ := hy
      have e3 := e1.symm.trans e2
      injection e3 with e3
      injection e3 with _ _ e4
      have a1 := congrArg (fun l => l.lookup ("top" : Str)) e4
      have a2 := congrArg (fun l => l.lookup ("bottom" : Str)) e4
      simp only [shf_top, shf_bottom, Option.some.injEq, V.int.injEq] at a1 a2
      exact Prod.ext a1 a2
    rw [decide_eq_true e]
    exact SeqAt.EqAt.same (A := A) (s := s) (.ref p) X.prog X.w X.xe _ ⟨rfl, I⟩
  · refine GQ.eqBool_refG h (wpAny_mono (rc_two O sb I hx hy) (fun r s' z => ?_) fun _ _ z => z)
    obtain ⟨rfl, I'⟩ := z
    refine ⟨_, rfl, ?_, I'⟩
    rw [← Bool.decide_and]
    refine decide_eq_decide.mpr ⟨fun z => Prod.ext z.1 z.2, fun z => by rw [z]; exact ⟨rfl, rfl⟩⟩
theorem rc_words (O : OwnEq X n C f) (sb : Sub X (n + 1) A) (I : Inv X pins σ H s) {a b : Addr} {ps qs : List Addr} {ws vs : List (Int × Int)} (ha : SqT X.K H a (ps.map V.ref)) (hb : SqT X.K H b (qs.map V.ref)) (hw : ShAll C H ps ws) (hv : ShAll C H qs vs) :
    wpAny (model X.prog X.w) A (richCompare .Eq (.ref a) (.ref b)) (fun q s' => q = .bool (decide (ws = vs)) ∧ Inv X pins σ H s') X.xe s := by
  obtain ⟨its, r, e, z⟩ := I.tuple ha
  obtain ⟨its2, r2, e2, z2⟩ := I.tuple hb
  have l1 : its.length = ws.length := by rw [← r.length, List.length_map, hw.1]
  have l2 : its2.length = vs.length := by rw [← r2.length, List.length_map, hv.1]
  refine rc_tupB sb.room.units0 (fun i s' => Inv X pins σ H s' ∧ ∀ j, j < i → ws[j]? = vs[j]?) e e2 (fun i h1 h2 s' q => ?_) (fun s' q => ?_) ⟨I, fun j hj => absurd hj (Nat.not_lt_zero j)⟩
  · obtain ⟨I', hq⟩ := q
    have h1' : i < its.length := by simpa using h1
    have h2' : i < its2.length := by simpa using h2
    have k1 : i < ps.length := by rw [hw.1]; omega
    have k2 : i < qs.length := by rw [hv.1]; omega
    obtain ⟨u, hu, ru⟩ := r.get (i := i) (x := V.ref ps[i]) (by rw [List.getElem?_map, List.getElem?_eq_getElem k1]; rfl)
    obtain ⟨v, hv', rv⟩ := r2.get (i := i) (x := V.ref qs[i]) (by rw [List.getElem?_map, List.getElem?_eq_getElem k2]; rfl)
    obtain rfl : u = Value.ref ps[i] := ru
    obtain rfl : v = Value.ref qs[i] := rv
    have g1 : its.toArray[i] = Value.ref ps[i] := by
      have : its[i]? = some its.toArray[i] := by rw [List.getElem?_eq_getElem h1'] <;> simp
      rw [this] at hu
      exact Option.some.inj hu
    have g2 : its2.toArray[i] = Value.ref qs[i] := by
      have : its2[i]? = some its2.toArray[i] := by rw [List.getElem?_eq_getElem h2'] <;> simp
      rw [this] at hv'
      exact Option.some.inj hv'
    rw [g1, g2]
    have w1 : i < ws.length := by omega
    have w2 : i < vs.length := by omega
    refine wpAny_mono (eqB_two O sb.in1 I' (hw.2 i _ ws[i] (List.getElem?_eq_getElem k1) (List.getElem?_eq_getElem w1)) (hv.2 i _ vs[i] (List.getElem?_eq_getElem k2) (List.getElem?_eq_getElem w2))) (fun t s2 y => ?_) fun _ _ y => y
    obtain ⟨rfl, I2⟩ := y
    by_cases c : ws[i] = vs[i]
    · refine .inl ⟨decide_eq_true c, I2, fun j hj => ?_⟩
      rcases Nat.lt_succ_iff_lt_or_eq.mp hj with hj | rfl
      · exact hq j hj
      · rw [List.getElem?_eq_getElem w1, List.getElem?_eq_getElem w2, c]
    · refine .inr ⟨decide_eq_false c, ?_, I2⟩
      rw [decide_eq_false (fun q => c (by subst q; rfl))]
  · obtain ⟨I', hq⟩ := q
    refine ⟨?_, I'⟩
    rw [List.size_toArray, List.size_toArray, l1, l2] at hq
    show Value.bool (its.toArray.size == its2.toArray.size) = _
    rw [List.size_toArray, List.size_toArray, l1, l2]
    by_cases c : ws.length = vs.length
    · have e3 : ws = vs := List.ext_getElem? fun i => by
        by_cases hi : i < min ws.length vs.length
        · exact hq i hi
        · rw [List.getElem?_eq_none (by omega), List.getElem?_eq_none (by omega)]
      rw [decide_eq_true e3]
      simp [c]
    · rw [decide_eq_false (fun q => c (by rw [q]))]
      simp [c]
/-- a word == a word -/
def rEqW (K : PySem.W.Frag) (C : Addr) : R2 := fun x y H Q => ∃ (a b : Addr) (ps qs : List Addr) (ws vs : List (Int × Int)), x = .ref a ∧ y = .ref b ∧ SqT K H a (ps.map V.ref) ∧ SqT K H b (qs.map V.ref) ∧ ShAll C H ps ws ∧ ShAll C H qs vs ∧ Q (.bl (decide (ws = vs))) H
theorem op_eqW (O : OwnEq X n C f) (hr : Room (n + 1) X.A) : OpR X (compareOp .Eq) (rEqW X.K C) := by
  intro pins s σ H x y v u Q I rx ry h
  obtain ⟨a, b, ps, qs, ws, vs, rfl, rfl, ha, hb, hw, hv, q⟩ := h
  cases rx
  cases ry
  show wpAny (model X.prog X.w) X.A (richCompare .Eq (.ref a) (.ref b)) (EP X pins σ Q) X.xe s
  refine wpAny_mono (rc_words O ⟨hr, rfl⟩ I ha hb hw hv) (fun r s' z => ?_) fun _ _ z => z
  obtain ⟨rfl, I'⟩ := z
  exact ⟨.bl _, H, I', rfl, q⟩
end
end K12

namespace K12
open PySem PySem.Spec PyProof.Rows PySem.Calls L2
/-! ### t[lo:hi], the whole of it too: then t itself -/
section
variable {prog : Program} {w : World} {A : Around} {E : Value → Shared → Prop} {s : Shared}
theorem getItem_tuple_whole {t sl : Addr} {items : Array Value} {vl vu : Value} {lo hi : Option Int} {Q : Value → Shared → Prop} (ht : IsTup s.heap t items) (hs : s.heap.IsSliceOf sl vl vu .none) (pl : IsPart vl lo) (pu : IsPart vu hi)
    (hw : HT.sIx items.size 0 lo = 0 ∧ HT.sIx items.size items.size hi = items.size) (h : Q (.ref t) s) : wpAny (model prog w) A (getItem (.ref t) (.ref sl)) Q E s := by
  obtain ⟨os, hos, hcs, hds⟩ := id hs
  have hTs : s.TypeIs (.ref sl) "slice" := ⟨os, hos, hcs⟩
  unfold getItem
  try with_reducible refine wpAny_holding ?_
  first | refine wpAny_bind (wpAny_pure ?_) | skip
  refine wpAny_bind (wpAny_sequenceKey ht.typeIs (by decide) ?_)
  refine wpAny_bind (wpAny_callSpecial?_slot (name := Str.ofString "__getitem__") ht.typeIs PyProof.Rows.slot_tuple_getitem
    (wpAny_call_entry PyProof.Rows.slot_tuple_getitem ht.typeIs entry_tuple_getitem ?_ (args_tuple_getitem _ _)))
  show wpAny _ _ (Builtin.Tuple.tupleItemsOf (.ref t) >>= _) _ _ s
  refine wpAny_bind (PyProof.Rows.tupleItemsOf_ ht ?_)
  refine wpAny_bind (wpAny_typeOf hTs ?_)
  rw [if_pos (by decide)]
  refine wpAny_bind (HT.sliceApplied_gen hs pl pu ?_)
  have hyes : ((((HT.sIx items.size 0 lo : Nat) : Int) == 0 && (1 : Int) == 1 && (HT.sIx items.size items.size hi - HT.sIx items.size 0 lo) == items.size) = true) := by
    rw [hw.1, hw.2]
    simp
  show wpAny _ _ (if (((HT.sIx items.size 0 lo : Nat) : Int) == 0 && (1 : Int) == 1 && (HT.sIx items.size items.size hi - HT.sIx items.size 0 lo) == items.size) = true then _ else _) _ _ s
  rw [if_pos hyes]
  obtain ⟨o, ho, hc, n, hd⟩ := id ht
  have hT : s.TypeIs (.ref t) "tuple" := ⟨o, ho, hc⟩
  unfold Builtin.Tuple.tupleIsExact
  refine wpAny_bind (wpAny_bind (wpAny_typeOf hT (wpAny_pure ?_)))
  rw [if_pos (by decide)]
  wp_walk
  exact ⟨_, rfl, wpAny_pure h⟩
end
/-- t[lo:hi]: t itself, or a new one -/
def rSlA (K : PySem.W.Frag) : V → Option Int → Option Int → Hp → VK → Prop := fun x lo hi H Q => ∃ a xs, x = .ref a ∧ SqT K H a xs ∧
  (HT.sIx xs.length 0 lo = 0 ∧ HT.sIx xs.length xs.length hi = xs.length → Q (.ref a) H) ∧ (¬ (HT.sIx xs.length 0 lo = 0 ∧ HT.sIx xs.length xs.length hi = xs.length) → ∀ p, H p = none → Q (.ref p) (upd H p (.tup (cutV xs lo hi))))
theorem sl_tupA {X : Cx} : SlR X (rSlA X.K) := by
  intro pins s σ H x v vl vu lo hi sl Q I rx hs pl pu h
  obtain ⟨a, xs, rfl, hx, hw, q⟩ := h
  by_cases c : HT.sIx xs.length 0 lo = 0 ∧ HT.sIx xs.length xs.length hi = xs.length
  · cases rx
    obtain ⟨its, r, ht, hz⟩ := I.tuple hx
    have hlen : its.toArray.size = xs.length := by rw [List.size_toArray]; exact r.length.symm
    refine ⟨"tuple", _, PyProof.Rows.slot_tuple_getitem.lookup, ht.typeIs, ?_⟩
    exact getItem_tuple_whole ht hs pl pu (by rw [hlen]; exact c) ⟨.ref a, H, I, rfl, hw c⟩
  · exact sl_tup pins s σ H (.ref a) v vl vu lo hi sl Q I rx hs pl pu ⟨a, xs, rfl, hx, c, q c⟩
/-- a slice's part that may be None -/
def tPartN (t : TE) : TO := fun σ H Q => t σ H fun x H1 => (x = .non ∧ Q none H1) ∨ ∃ i, x = .int i ∧ Q (some i) H1
theorem po_any {X : Cx} {e : Expr} {te : TE} (h : PE X e te) : PO X (some e) (tPartN te) := by
  refine ⟨fun pins s σ H Q I hw => ?_⟩
  rw [evalPart_some]
  refine thn (h.run pins s σ H _ I hw) fun u s1 ⟨x, H1, I1, r1, q1⟩ => ?_
  rcases q1 with ⟨rfl, q⟩ | ⟨i, rfl, q⟩
  · cases r1
    exact ⟨none, H1, I1, .none, q⟩
  · obtain ⟨t, rfl⟩ := r1
    exact ⟨some i, H1, I1, .int i t, q⟩
end K12

namespace K12
open PySem PySem.Spec PyProof.Rows L2
/-! ### a word by its least part -/
theorem cut_from {xs : List V} {n : Nat} (h : n ≤ xs.length) : cutV xs (some (n : Int)) none = xs.drop n := by
  unfold cutV
  rw [HT.sIx_nat, HT.sIx_none, Nat.min_eq_left h, List.take_of_length_le (by rw [List.length_drop]; exact Nat.le_refl _)]
theorem cut_to {xs : List V} {n : Nat} : cutV xs none (some (n : Int)) = xs.take n := by
  unfold cutV
  rw [HT.sIx_nat, HT.sIx_none, List.drop_zero, Nat.sub_zero]
  by_cases h : n ≤ xs.length
  · rw [Nat.min_eq_left h]
  · rw [Nat.min_eq_right (by omega), List.take_of_length_le (Nat.le_refl _), List.take_of_length_le (by omega)]
theorem sIx_back {l d n : Nat} (h : 0 < n) : HT.sIx l d (some (-(n : Int))) = l - n := by
  show (if -(n : Int) < 0 then (-(n : Int) + (l : Int)).toNat else min (-(n : Int)).toNat l) = l - n
  rw [if_pos (by omega)]
  omega
theorem cut_back {xs : List V} {n : Nat} (h : 0 < n) : cutV xs none (some (-(n : Int))) = xs.take (xs.length - n) := by
  unfold cutV
  rw [sIx_back h, HT.sIx_none, List.drop_zero, Nat.sub_zero]
/-- ws is its first m, again and again -/
def Per (ws : List (Int × Int)) (m : Nat) : Prop := m ∣ ws.length ∧ ws.drop m = ws.take (ws.length - m)
def Least (ws : List (Int × Int)) (m : Nat) : Prop := 1 ≤ m ∧ Per ws m ∧ ∀ k, 1 ≤ k → k < m → ¬ Per ws k
def spLeast (K : PySem.W.Frag) (C : Addr) : Sp := fun vs H Q _ => ∃ (a : Addr) (ps : List Addr) (ws : List (Int × Int)), vs = [.ref a] ∧ SqT K H a (ps.map V.ref) ∧ ShAll C H ps ws ∧ 1 ≤ ws.length ∧ ws.length ≤ 1000 ∧
  ∀ (H' : Hp) (q : Addr) (m : Nat), Same H H' → Least ws m → SqT K H' q ((ps.take m).map V.ref) → Q (.ref q) H'
section
variable {P : Program} {w : World} {K : PySem.W.Frag} {mg : Str → Option Value} {base : Heap}
theorem scLeast : FnScope ["word", "size"] ["word"] (defScope d_least_word) := ⟨rfl, rfl, rfl, by decide +kernel, rfl, by decide +kernel, by decide +kernel⟩
theorem ok_least {f fE C : Addr} {fd fdE : FuncData} (F : Fun K "least_word" "least_word" d_least_word f fd) (B : TxtB mg) (hr_ : mg "range" = none)
    (GE : FnOk P w K mg base CX0 1 fE fdE ["self", "other"] (spEqS K C)) (bE : Binds K fdE ["self", "other"] []) (aE : PySem.W.findIn K (.ref C) "__eq__" = some (some (.ref fE))) (iE : PySem.W.isFn K (.ref fE) = true) :
    FnOk P w K mg base CX0 3 f fd ["word"] (spLeast K C) := by
  refine F.ok scLeast (fun vs H Q E h => ?_) (fun cdv A outer s H vs Q E hr h => ?_)
  · obtain ⟨a, ps, ws, rfl, _⟩ := h
    rfl
  · obtain ⟨a, ps, ws, rfl, ha, hw, l1, l2, kq⟩ := h
    have own : OwnEq (cxOf CX0 P w K mg base ["word", "size"] "least_word" (defScope d_least_word) f cdv A outer s H E).nox 1 C fE := ⟨⟨_, _, GE, bE⟩, aE, iE⟩
    refine ⟨_, pss_cons (ps_for PassesOwn.never rfl (pi_range2 (by rfl) hr_ (pa_cons pe_int (pa_cons (pe_op op_add (pe_op op_fdiv (pe_callB call_len_seq (by rfl) B.len PySem.boot_len (pa_cons (pv 0) pa_nil)) pe_int) pe_int) pa_nil))) (pg_name (i := 1) scLeast.nd rfl (.inl rfl))
        (pss_one (ps_if (PW.pt (pw_and (pt_cmpR op_eq (pe_op op_mod (pe_callB call_len_seq (by rfl) B.len PySem.boot_len (pa_cons (pv 0) pa_nil)) (pv 1)) pe_int (nomark _))
            (pw_and1 (pt_cmpR (op_eqW own hr) (pe_slice sl_tup (pv 0) (po_some (pv 1)) po_none) (pe_slice sl_tup (pv 0) po_none (po_some (pe_un un_neg (pv 1)))) (nomark _)))))
          (pss_one (ps_ret (pe_slice sl_tup (pv 0) po_none (po_some (pv 1))))) pss_nil)))
      (pss_one (ps_ret (pv 0))), ?_⟩
    have lp : (ps.map V.ref).length = ws.length := by rw [List.length_map, hw.1]
    refine ⟨_, rfl, a, _, rfl, .inr ha, _, _, rfl, rfl, ⟨by decide, by decide⟩, _, _, rfl, rfl, 1, _, rfl, ?_, ?_⟩
    · rw [lp]
      exact ⟨by decide, by decide, by omega, by omega⟩
    rw [lp]
    rw [show ((ws.length : Int) / 2 + 1 - 1).toNat = ws.length / 2 from by omega]
    refine for_range (lo := 1) (n := ws.length / 2) (fun i σ G => (∃ v, σ = [some (.ref a), v]) ∧ Same H G ∧ ∀ k, 1 ≤ k → k < 1 + i → ¬ Per ws k) ⟨⟨none, rfl⟩, Same.refl H, fun k h1 h2 => by omega⟩ ?_ ?_
    · rintro i σ G hi ⟨⟨v, rfl⟩, sm, np⟩
      have haG := Same.tup sm ha
      have hwG := hw.mono sm
      refine ⟨_, rfl, a, _, rfl, .inr haG, _, rfl, _, _, rfl, rfl, (by show (0 : Int) < 1 + (i : Int); omega), rfl, _, rfl, ?_⟩
      rw [lp]
      have ed : decide (V.int ((ws.length : Int) % (1 + (i : Int))) = V.int 0) = decide ((1 + i) ∣ ws.length) := by
        refine decide_eq_decide.mpr ?_
        rw [V.int.injEq]
        rw [show (1 + (i : Int)) = ((1 + i : Nat) : Int) from by omega, ← Int.natCast_emod]
        constructor
        · intro q
          exact Nat.dvd_of_mod_eq_zero (by omega)
        · intro q
          rw [Nat.mod_eq_zero_of_dvd q]
          rfl
      rw [ed]
      refine ite2 (fun hd => ?_) (fun hd => ?_)
      · have hd : (1 + i) ∣ ws.length := of_decide_eq_true hd
        have en : (1 + (i : Int)) = ((1 + i : Nat) : Int) := by omega
        have f1 : cutV (ps.map V.ref) (some (1 + (i : Int))) none = (ps.drop (1 + i)).map V.ref := by rw [en, cut_from (by rw [lp]; omega), List.map_drop]
        have f2 : cutV (ps.map V.ref) none (some (-(1 + (i : Int)))) = (ps.take (ws.length - (1 + i))).map V.ref := by rw [en, cut_back (by omega), lp, List.map_take]
        have f3 : cutV (ps.map V.ref) none (some (1 + (i : Int))) = (ps.take (1 + i)).map V.ref := by rw [en, cut_to, List.map_take]
        refine ⟨_, rfl, _, rfl, _, rfl, a, _, rfl, haG, (fun z => by
          have z := z.1
          rw [lp, en, HT.sIx_nat] at z
          omega), fun p hp => ?_⟩
        have s1 : Same G (upd G p (.tup (cutV (ps.map V.ref) (some (1 + (i : Int))) none))) := same1 hp
        have t1 : SqT K (upd G p (.tup (cutV (ps.map V.ref) (some (1 + (i : Int))) none))) p ((ps.drop (1 + i)).map V.ref) := by
          rw [← f1]
          exact SqT.of upd_same
        generalize upd G p (.tup (cutV (ps.map V.ref) (some (1 + (i : Int))) none)) = G1 at *
        refine ⟨_, rfl, _, rfl, _, rfl, _, rfl, a, _, rfl, Same.tup s1 haG, (fun z => by
          have z := z.2
          rw [lp, en, sIx_back (by omega)] at z
          omega), fun p' hp' => ?_⟩
        have s2 : Same G1 (upd G1 p' (.tup (cutV (ps.map V.ref) none (some (-(1 + (i : Int))))))) := same1 hp'
        have t2 : SqT K (upd G1 p' (.tup (cutV (ps.map V.ref) none (some (-(1 + (i : Int))))))) p' ((ps.take (ws.length - (1 + i))).map V.ref) := by
          rw [← f2]
          exact SqT.of upd_same
        generalize upd G1 p' (.tup (cutV (ps.map V.ref) none (some (-(1 + (i : Int)))))) = G2 at *
        have s12 := s1.trans s2
        refine ⟨p, p', _, _, _, _, rfl, rfl, Same.tup s2 t1, t2, (hwG.mono s12).drop (1 + i), (hwG.mono s12).take (ws.length - (1 + i)), _, rfl, ?_⟩
        refine ite2 (fun hp2 => ?_) (fun hp2 => ?_)
        · have pr : Per ws (1 + i) := ⟨hd, of_decide_eq_true hp2⟩
          refine ⟨_, rfl, _, rfl, _, rfl, a, _, rfl, Same.tup s12 haG, (fun z => by
            have z := z.2
            rw [lp, en, HT.sIx_nat] at z
            omega), fun q hq => ?_⟩
          refine kq _ q (1 + i) (sm.trans (s12.trans (same1 hq))) ⟨by omega, pr, np⟩ ?_
          rw [← f3]
          exact SqT.of upd_same
        · refine ⟨⟨_, rfl⟩, sm.trans s12, fun k h1 h2 => ?_⟩
          rcases Nat.lt_or_ge k (1 + i) with h3 | h3
          · exact np k h1 h3
          · have e : k = 1 + i := by omega
            rw [e]
            exact fun pr => hp2 (decide_eq_true pr.2)
      · refine iteF ⟨⟨_, rfl⟩, sm, fun k h1 h2 => ?_⟩
        rcases Nat.lt_or_ge k (1 + i) with h3 | h3
        · exact np k h1 h3
        · have e : k = 1 + i := by omega
          rw [e]
          exact fun pr => hd (decide_eq_true pr.1)
    · rintro σ G ⟨⟨v, rfl⟩, sm, np⟩
      refine ⟨_, rfl, kq G a ws.length sm ⟨l1, ⟨Nat.dvd_refl _, by rw [List.drop_length, Nat.sub_self, List.take_zero]⟩, fun k h1 h2 pr => ?_⟩ ?_⟩
      · refine np k h1 ?_ pr
        obtain ⟨c, hc⟩ := pr.1
        have c2 : 2 ≤ c := by
          rcases c with _ | _ | c
          · omega
          · omega
          · omega
        have := Nat.mul_le_mul_left k c2
        omega
      · rw [List.take_of_length_le (by rw [hw.1]; exact Nat.le_refl _)]
        exact Same.tup sm ha
end
end K12

namespace K12
open PySem PySem.Spec PyProof.Rows L2
/-! ### stretches and spans -/
abbrev W2 := List (Int × Int)
theorem least_one {ws : W2} {m m' : Nat} (h : Least ws m) (h' : Least ws m') : m = m' := by
  rcases Nat.lt_trichotomy m m' with q | q | q
  · exact absurd h.2.1 (h'.2.2 m h.1 q)
  · exact q
  · exact absurd h'.2.1 (h.2.2 m' h'.1 q)
open Classical in
/-- a word's least part -/
noncomputable def leastW (ws : W2) : W2 := if h : ∃ m, Least ws m then ws.take h.choose else ws
theorem leastW_of {ws : W2} {m : Nat} (h : Least ws m) : leastW ws = ws.take m := by
  unfold leastW
  have e : ∃ m, Least ws m := ⟨m, h⟩
  rw [dif_pos e, least_one e.choose_spec h]
def dv : Option Int → V
  | none => .non
  | some n => .int n
/-- the first d, all where d is None -/
def cutO {α : Type} (d : Option Int) (ws : List α) : List α := match d with
  | none => ws
  | some n => ws.take n.toNat
/-- the day on which the i-th stretch begins -/
def bAt (told : List (Option Int × W2)) (i : Nat) : Int := ((told.take i).map fun x => x.1.getD 0).sum
theorem bAt_next {told : List (Option Int × W2)} {i : Nat} {x : Option Int × W2} (h : told[i]? = some x) : bAt told (i + 1) = bAt told i + x.1.getD 0 := by
  unfold bAt
  obtain ⟨hi, e⟩ := List.getElem?_eq_some_iff.mp h
  rw [List.take_succ_eq_append_getElem hi, List.map_append, List.sum_append, e]
  simp
/-- what may be handed in -/
structure Told (told : List (Option Int × W2)) : Prop where
  pos : 1 ≤ told.length
  few : told.length ≤ 60
  word : ∀ (i : Nat) (x : Option Int × W2), told[i]? = some x → 1 ≤ x.2.length ∧ x.2.length ≤ 60
  open_ : ∀ (i : Nat) (x : Option Int × W2), told[i]? = some x → (x.1 = none ↔ i + 1 = told.length)
  days : ∀ (i : Nat) (x : Option Int × W2) (n : Int), told[i]? = some x → x.1 = some n → 1 ≤ n
/-- a word at wa -/
def WordAt (K : PySem.W.Frag) (C : Addr) (H : Hp) (wa : Addr) (ws : W2) : Prop := ∃ ps, SqT K H wa (ps.map V.ref) ∧ ShAll C H ps ws
theorem WordAt.mono {K : PySem.W.Frag} {C : Addr} {H H' : Hp} {wa : Addr} {ws : W2} (h : WordAt K C H wa ws) (s : Same H H') : WordAt K C H' wa ws := by
  obtain ⟨ps, a, b⟩ := h
  exact ⟨ps, Same.tup s a, b.mono s⟩
def StrAt (K : PySem.W.Frag) (C : Addr) (H : Hp) (t : Addr) (x : Option Int × W2) : Prop := ∃ wa, SqT K H t [dv x.1, .ref wa] ∧ WordAt K C H wa x.2
theorem StrAt.mono {K : PySem.W.Frag} {C : Addr} {H H' : Hp} {t : Addr} {x : Option Int × W2} (h : StrAt K C H t x) (s : Same H H') : StrAt K C H' t x := by
  obtain ⟨wa, a, b⟩ := h
  exact ⟨wa, Same.tup s a, b.mono s⟩
def SpanAt (K : PySem.W.Frag) (C : Addr) (H : Hp) (t : Addr) (b : Int) (e : Option Int) (ws : W2) : Prop := ∃ wa, SqT K H t [.int b, dv e, .ref wa] ∧ WordAt K C H wa ws
theorem SpanAt.mono {K : PySem.W.Frag} {C : Addr} {H H' : Hp} {t : Addr} {b : Int} {e : Option Int} {ws : W2} (h : SpanAt K C H t b e ws) (s : Same H H') : SpanAt K C H' t b e ws := by
  obtain ⟨wa, a, b⟩ := h
  exact ⟨wa, Same.tup s a, b.mono s⟩
/-- the i-th span of what was told stands at s -/
def SpanOf (K : PySem.W.Frag) (C : Addr) (H : Hp) (told : List (Option Int × W2)) (i : Nat) (s : Addr) : Prop := ∃ x, told[i]? = some x ∧ SpanAt K C H s (bAt told i) (x.1.map fun n => bAt told i + n) (leastW (cutO x.1 x.2))
def spSpans (K : PySem.W.Frag) (C : Addr) : Sp := fun vs H Q _ => ∃ (a : Addr) (ts : List Addr) (told : List (Option Int × W2)), vs = [.ref a] ∧ SqL K H a (ts.map V.ref) ∧ ts.length = told.length ∧
  (∀ (i : Nat) (t : Addr) (x : Option Int × W2), ts[i]? = some t → told[i]? = some x → StrAt K C H t x) ∧ Told told ∧
  ∀ (H' : Hp) (l : Addr) (ss : List Addr), Same H H' → H l = none → H' l = some (.lst (ss.map V.ref)) → ss.length = told.length → (∀ (i : Nat) (s : Addr), ss[i]? = some s → SpanOf K C H' told i s) → Q (.ref l) H'
theorem cut_any {xs : List V} {d : Option Int} (h : ∀ n, d = some n → 0 ≤ n) : cutV xs none d = cutO d xs := by
  cases d with
  | none =>
    unfold cutV
    rw [HT.sIx_none, HT.sIx_none, List.drop_zero, Nat.sub_zero, List.take_of_length_le (Nat.le_refl _)]
    rfl
  | some n =>
    obtain ⟨k, rfl⟩ : ∃ k : Nat, n = (k : Int) := ⟨n.toNat, (Int.toNat_of_nonneg (h n rfl)).symm⟩
    rw [cut_to]
    show xs.take k = xs.take ((k : Int)).toNat
    rw [Int.toNat_natCast]
theorem cutO_map {α β : Type} (f : α → β) (d : Option Int) (xs : List α) : cutO d (xs.map f) = (cutO d xs).map f := by
  cases d with
  | none => rfl
  | some n => exact (List.map_take).symm
theorem ShAll.cutO {C : Addr} {H : Hp} {ps : List Addr} {ws : W2} (h : ShAll C H ps ws) (d : Option Int) : ShAll C H (K12.cutO d ps) (K12.cutO d ws) := by
  cases d with
  | none => exact h
  | some n => exact h.take _
theorem cutO_all {α : Type} {d : Option Int} {xs : List α} (hd : ∀ n, d = some n → 0 ≤ n) (h : HT.sIx xs.length 0 none = 0 ∧ HT.sIx xs.length xs.length d = xs.length) : cutO d xs = xs := by
  cases d with
  | none => rfl
  | some n =>
    obtain ⟨k, rfl⟩ : ∃ k : Nat, n = (k : Int) := ⟨n.toNat, (Int.toNat_of_nonneg (hd n rfl)).symm⟩
    have h2 := h.2
    rw [HT.sIx_nat] at h2
    show xs.take ((k : Int)).toNat = xs
    rw [Int.toNat_natCast]
    exact List.take_of_length_le (by omega)
/-- word[:days] -/
theorem sl_word {K : PySem.W.Frag} {C : Addr} {H : Hp} {wa : Addr} {ps : List Addr} {ws : W2} {d : Option Int} {Q : VK} (hd : ∀ n, d = some n → 0 ≤ n) (q2 : SqT K H wa (ps.map V.ref)) (q3 : ShAll C H ps ws)
    (k : ∀ (H' : Hp) (wa' : Addr) (ps' : List Addr), Same H H' → SqT K H' wa' (ps'.map V.ref) → ShAll C H' ps' (cutO d ws) → Q (.ref wa') H') : rSlA K (.ref wa) none d H Q := by
  refine ⟨wa, _, rfl, q2, fun z => ?_, fun _ p hp => ?_⟩
  · have e : cutO d ps = ps := cutO_all hd (by rw [List.length_map] at z; exact z)
    have q := q3.cutO d
    rw [e] at q
    exact k H wa ps (Same.refl H) q2 q
  · refine k _ p (cutO d ps) (same1 hp) ?_ ((q3.cutO d).mono (same1 hp))
    rw [cut_any hd, cutO_map]
    exact SqT.of upd_same
theorem part_dv {d : Option Int} {H : Hp} {Q : Option Int → Hp → Prop} (h : Q d H) : (dv d = .non ∧ Q none H) ∨ ∃ i, dv d = .int i ∧ Q (some i) H := by
  cases d with
  | none => exact .inl ⟨rfl, h⟩
  | some n => exact .inr ⟨n, rfl, h⟩
theorem cutO_pos {d : Option Int} {ws : W2} (hd : ∀ n, d = some n → 1 ≤ n) (h : 1 ≤ ws.length) : 1 ≤ (cutO d ws).length := by
  cases d with
  | none => exact h
  | some n =>
    have := hd n rfl
    show 1 ≤ (ws.take n.toNat).length
    rw [List.length_take]
    omega
theorem cutO_le {d : Option Int} {ws : W2} : (cutO d ws).length ≤ ws.length := by
  cases d with
  | none => exact Nat.le_refl _
  | some n =>
    show (ws.take n.toNat).length ≤ _
    rw [List.length_take]
    omega
/-- lists may change, nothing else -/
def Keep (H H' : Hp) : Prop := ∀ b o, H b = some o → (∀ xs, o ≠ .lst xs) → H' b = some o
theorem Keep.tup {K : PySem.W.Frag} {H H' : Hp} {a : Addr} {xs : List V} (k : Keep H H') (h : SqT K H a xs) : SqT K H' a xs :=
  h.elim (fun h => .inl (h.elim (fun h => .inl (k _ _ h (fun _ z => nomatch z))) fun ⟨o, h⟩ => .inr ⟨o, k _ _ h (fun _ z => nomatch z)⟩)) fun h => .inr h
theorem Keep.all {C : Addr} {H H' : Hp} {ps : List Addr} {ws : W2} (k : Keep H H') (h : ShAll C H ps ws) : ShAll C H' ps ws := ⟨h.1, fun i p x a b => by
  obtain ⟨dx, e⟩ := h.2 i p x a b
  exact ⟨dx, k _ _ e (fun _ z => nomatch z)⟩⟩
theorem Keep.span {K : PySem.W.Frag} {C : Addr} {H H' : Hp} {told : List (Option Int × W2)} {i : Nat} {s : Addr} (k : Keep H H') (h : SpanOf K C H told i s) : SpanOf K C H' told i s := by
  obtain ⟨x, e, wa, a, ps, b, c⟩ := h
  exact ⟨x, e, wa, k.tup a, ps, k.tup b, k.all c⟩
theorem SpanOf.mono {K : PySem.W.Frag} {C : Addr} {H H' : Hp} {told : List (Option Int × W2)} {i : Nat} {s : Addr} (h : SpanOf K C H told i s) (k : Same H H') : SpanOf K C H' told i s := Keep.span (fun b o e _ => k b o e) h
theorem keep_lst {H : Hp} {l : Addr} {xs ys : List V} (h : H l = some (.lst xs)) : Keep H (upd H l (.lst ys)) := fun b o e n => by
  rw [upd_ne (fun z => by rw [z, h] at e; exact n _ (Option.some.inj e).symm)]
  exact e
theorem if_stop {d : Option Int} {A B : Prop} (hn : d = none → A) (hs : ∀ n, d = some n → B) : if decide (dv d = V.non) = true then A else B := by
  cases d with
  | none =>
    rw [if_pos (decide_eq_true (show dv none = V.non from rfl))]
    exact hn rfl
  | some n =>
    rw [if_neg (by simp [dv])]
    exact hs n rfl
section
variable {P : Program} {w : World} {K : PySem.W.Frag} {mg : Str → Option Value} {base : Heap}
theorem scSpans : FnScope ["stretches", "spans", "begin", "days", "word", "stop"] ["stretches"] (defScope d_spans_of) := ⟨rfl, rfl, rfl, by decide +kernel, rfl, by decide +kernel, by decide +kernel⟩
theorem ok_spans {f fL C : Addr} {fd fdL : FuncData} (F : Fun K "spans_of" "spans_of" d_spans_of f fd) (GL : FnOk P w K mg base CX0 3 fL fdL ["word"] (spLeast K C)) (mL : mg "least_word" = some (.ref fL)) (kL : PySem.W.keepIn K (.ref fL) = true) (bL : Binds K fdL ["word"] []) :
    FnOk P w K mg base CX0 4 f fd ["stretches"] (spSpans K C) := by
  refine F.ok scSpans (fun vs H Q E h => ?_) (fun cdv A outer s H vs Q E hr h => ?_)
  · obtain ⟨a, ts, told, rfl, _⟩ := h
    rfl
  · obtain ⟨a, ts, told, rfl, ha, lt, hst, ok, kq⟩ := h
    refine ⟨_, pss_cons (ps_set (i := 1) scSpans.nd rfl (Or.inl rfl) (pe_lst pa_nil))
      (pss_cons (ps_set (i := 2) scSpans.nd rfl (Or.inl rfl) pe_int)
      (pss_cons (ps_for PassesOwn.never rfl (pi_list (pv 0)) (pg_tup (by rfl) (pgs_cons (pg_name (i := 3) scSpans.nd rfl (.inl rfl)) (pgs_cons (pg_name (i := 4) scSpans.nd rfl (.inl rfl)) pgs_nil)))
        (pss_cons (ps_set (i := 5) scSpans.nd rfl (Or.inl rfl) (pe_ifExp (pt_cmp (pc_isN (pv 3))) pe_non (pe_op op_add (pv 2) (pv 3))))
        (pss_cons (ps_expr (pe_bm PySem.F.plainAttrs_list PySem.F.slot_list_append PySem.F.type_list_append mt_append (pv 1) (pa_cons (pe_tup (pa_cons (pv 2) (pa_cons (pv 5) (pa_cons (pe_call GL hr rfl mL kL bL .nil pass0 (pa_cons (pe_slice sl_tupA (pv 4) po_none (po_any (pv 3))) pa_nil)) pa_nil)))) pa_nil)))
        (pss_one (ps_set (i := 2) scSpans.nd rfl (Or.inl rfl) (pv 5))))))
      (pss_one (ps_ret (pv 1))))), ?_⟩
    refine ⟨(by show 0 ≤ sizeLine; decide), fun l hl => ?_⟩
    have sm0 : Same H (upd H l (.lst [])) := same1 hl
    refine ⟨_, rfl, a, rfl, ⟨_, sm0.seq ha⟩, for_list (K := K) (a := a) (xs := ts.map V.ref) (fun i σ G => ∃ (ss : List Addr) (vb v3 v4 v5 : Option V), σ = [some (.ref a), some (.ref l), vb, v3, v4, v5] ∧ ss.length = i ∧ G l = some (.lst (ss.map V.ref)) ∧ Same H G ∧
      (∀ (k : Nat) (s : Addr), ss[k]? = some s → SpanOf K C G told k s) ∧ (i < told.length → vb = some (.int (bAt told i)))) ⟨[], _, _, _, _, rfl, rfl, upd_same, sm0, (fun k s (h : ([] : List Addr)[k]? = some s) => by simp at h), fun _ => rfl⟩ ?_ ?_ ?_⟩
    · rintro i σ G _ ⟨ss, _, _, _, _, _, _, _, sm, _⟩
      exact sm.seq ha
    · rintro i x σ G hx ⟨ss, vb, v3, v4, v5, rfl, sl, gl, sm, hsp, hb⟩
      rw [List.getElem?_map] at hx
      obtain ⟨t, ht, rfl⟩ := Option.map_eq_some_iff.mp hx
      have il : i < told.length := by
        have := (List.getElem?_eq_some_iff.mp ht).1
        omega
      have hb := hb il
      subst hb
      obtain ⟨⟨d, ws⟩, hxi⟩ : ∃ x, told[i]? = some x := ⟨_, List.getElem?_eq_getElem il⟩
      obtain ⟨wa, q1, ps, q2, q3⟩ := (hst i t _ ht hxi).mono sm
      have dn : ∀ n, d = some n → 1 ≤ n := fun n e => ok.days i _ n hxi e
      have dn0 : ∀ n, d = some n → 0 ≤ n := fun n e => by have := dn n e; omega
      have ob := ok.open_ i _ hxi
      refine ⟨t, _, rfl, q1, rfl, _, _, rfl, _, _, rfl, rfl, ?_⟩
      refine ⟨_, rfl, _, rfl, if_stop (fun e => ?_) (fun n e => ?_)⟩
      · subst e
        refine ⟨_, rfl, .inl ⟨rfl, _, SqL.of gl⟩, _, rfl, _, rfl, _, rfl, _, rfl, .inl ⟨rfl, sl_word (K := K) (C := C) (d := none) dn0 q2 q3 fun G1 wa' ps' s1 h1 h2 => ?_⟩⟩
        refine ⟨wa', ps', _, rfl, h1, h2, cutO_pos dn (ok.word i _ hxi).1, Nat.le_trans cutO_le (Nat.le_trans (ok.word i _ hxi).2 (by decide)), fun G2 q m s2 hm hq => ?_⟩
        refine ⟨(by show 3 ≤ sizeLine; decide), fun p hp => ?_⟩
        have s3 : Same G (upd G2 p (.tup [.int (bAt told i), .non, .ref q])) := s1.trans (s2.trans (same1 hp))
        have hp3 : SqT K (upd G2 p (.tup [.int (bAt told i), .non, .ref q])) p [.int (bAt told i), .non, .ref q] := SqT.of upd_same
        have hq3 := Same.tup (same1 (o := .tup [.int (bAt told i), .non, .ref q]) hp) hq
        have h3 := (h2.mono s2).mono (same1 (o := .tup [.int (bAt told i), .non, .ref q]) hp)
        generalize upd G2 p (.tup [.int (bAt told i), .non, .ref q]) = G3 at *
        have gl3 := s3 _ _ gl
        refine ⟨l, _, _, rfl, rfl, gl3, (by rw [List.length_map, sl]; exact Nat.lt_of_lt_of_le il (Nat.le_trans ok.few (by show 60 ≤ sizeLine; decide))), ?_⟩
        refine ⟨_, rfl, ss ++ [p], _, _, _, _, rfl, by rw [List.length_append, sl]; rfl, by rw [List.map_append]; exact upd_same, fun b o e => ?_, fun k s hk => ?_, fun hlt => ?_⟩
        · rw [upd_ne (ne_of_none e hl)]
          exact s3 _ _ (sm _ _ e)
        · refine (keep_lst gl3).span ?_
          by_cases hkl : k < ss.length
          · rw [List.getElem?_append_left hkl] at hk
            exact (hsp k s hk).mono s3
          · rw [List.getElem?_append_right (by omega)] at hk
            have k0 : k - ss.length = 0 := by
              have := (List.getElem?_eq_some_iff.mp hk).1
              simp at this
              omega
            rw [k0] at hk
            have ep : p = s := by simpa using hk
            have ki : k = i := by omega
            subst ep ki
            refine ⟨_, hxi, q, hp3, ps'.take m, hq3, ?_⟩
            rw [leastW_of hm]
            exact h3.take m
        · exact absurd (ob.mp rfl) (by omega)
      · subst e
        refine ⟨_, rfl, _, rfl, _, _, rfl, rfl, ?_⟩
        refine ⟨_, rfl, .inl ⟨rfl, _, SqL.of gl⟩, _, rfl, _, rfl, _, rfl, _, rfl, .inr ⟨n, rfl, sl_word (K := K) (C := C) (d := some n) dn0 q2 q3 fun G1 wa' ps' s1 h1 h2 => ?_⟩⟩
        refine ⟨wa', ps', _, rfl, h1, h2, cutO_pos dn (ok.word i _ hxi).1, Nat.le_trans cutO_le (Nat.le_trans (ok.word i _ hxi).2 (by decide)), fun G2 q m s2 hm hq => ?_⟩
        refine ⟨(by show 3 ≤ sizeLine; decide), fun p hp => ?_⟩
        have s3 : Same G (upd G2 p (.tup [.int (bAt told i), .int (bAt told i + n), .ref q])) := s1.trans (s2.trans (same1 hp))
        have hp3 : SqT K (upd G2 p (.tup [.int (bAt told i), .int (bAt told i + n), .ref q])) p [.int (bAt told i), .int (bAt told i + n), .ref q] := SqT.of upd_same
        have hq3 := Same.tup (same1 (o := .tup [.int (bAt told i), .int (bAt told i + n), .ref q]) hp) hq
        have h3 := (h2.mono s2).mono (same1 (o := .tup [.int (bAt told i), .int (bAt told i + n), .ref q]) hp)
        generalize upd G2 p (.tup [.int (bAt told i), .int (bAt told i + n), .ref q]) = G3 at *
        have gl3 := s3 _ _ gl
        refine ⟨l, _, _, rfl, rfl, gl3, (by rw [List.length_map, sl]; exact Nat.lt_of_lt_of_le il (Nat.le_trans ok.few (by show 60 ≤ sizeLine; decide))), ?_⟩
        refine ⟨_, rfl, ss ++ [p], _, _, _, _, rfl, by rw [List.length_append, sl]; rfl, by rw [List.map_append]; exact upd_same, fun b o e => ?_, fun k s hk => ?_, fun hlt => ?_⟩
        · rw [upd_ne (ne_of_none e hl)]
          exact s3 _ _ (sm _ _ e)
        · refine (keep_lst gl3).span ?_
          by_cases hkl : k < ss.length
          · rw [List.getElem?_append_left hkl] at hk
            exact (hsp k s hk).mono s3
          · rw [List.getElem?_append_right (by omega)] at hk
            have k0 : k - ss.length = 0 := by
              have := (List.getElem?_eq_some_iff.mp hk).1
              simp at this
              omega
            rw [k0] at hk
            have ep : p = s := by simpa using hk
            have ki : k = i := by omega
            subst ep ki
            refine ⟨_, hxi, q, hp3, ps'.take m, hq3, ?_⟩
            rw [leastW_of hm]
            exact h3.take m
        · rw [bAt_next hxi]
          rfl
    · rintro σ G ⟨ss, vb, v3, v4, v5, rfl, sl, gl, sm, hsp, hb⟩
      refine ⟨_, rfl, kq G l ss sm hl gl (by rw [sl, List.length_map, lt]) hsp⟩
end
end K12

namespace K12
open PySem PySem.Spec PyProof.Rows L2
/-! ### the share on a day -/
def spShareOn (K : PySem.W.Frag) (C : Addr) : Sp := fun vs H Q _ => ∃ (s : Addr) (day b : Int) (e : Option Int) (ws : W2), vs = [.ref s, .int day] ∧ SpanAt K C H s b e ws ∧ 1 ≤ ws.length ∧
  ∀ (p : Addr) (x : Int × Int), ws[((day - b) % (ws.length : Int)).toNat]? = some x → ShAt C H p x.1 x.2 → Q (.ref p) H
section
variable {P : Program} {w : World} {K : PySem.W.Frag} {mg : Str → Option Value} {base : Heap}
theorem scShareOn : FnScope ["span", "day", "begin", "_", "word"] ["span", "day"] (defScope d_share_on) := ⟨rfl, rfl, rfl, by decide +kernel, rfl, by decide +kernel, by decide +kernel⟩
theorem ok_share_on {f C : Addr} {fd : FuncData} (F : Fun K "share_on" "share_on" d_share_on f fd) (B : TxtB mg) : FnOk P w K mg base CX0 1 f fd ["span", "day"] (spShareOn K C) := by
  refine F.ok scShareOn (fun vs H Q E h => ?_) (fun cdv A outer s H vs Q E hr h => ?_)
  · obtain ⟨s, day, b, e, ws, rfl, _⟩ := h
    rfl
  · obtain ⟨t, day, b, e, ws, rfl, ⟨wa, q1, ps, q2, q3⟩, l1, kq⟩ := h
    refine ⟨_, pss_cons (ps_asg (pv 0) (pg_tup (by rfl) (pgs_cons (pg_name (i := 2) scShareOn.nd rfl (.inl rfl)) (pgs_cons (pg_name (i := 3) scShareOn.nd rfl (.inl rfl)) (pgs_cons (pg_name (i := 4) scShareOn.nd rfl (.inl rfl)) pgs_nil)))))
      (pss_one (ps_ret (pe_ix ix_tup (pv 4) (pe_op op_mod (pe_op op_sub (pv 1) (pv 2)) (pe_callB call_len_seq (by rfl) B.len PySem.boot_len (pa_cons (pv 4) pa_nil))) (fun _ _ => rfl)))), ?_⟩
    have lp : (ps.map V.ref).length = ws.length := by rw [List.length_map, q3.1]
    refine ⟨_, rfl, t, _, rfl, q1, rfl, _, _, rfl, _, _, rfl, _, _, rfl, rfl, ?_⟩
    refine ⟨_, rfl, _, rfl, _, rfl, _, _, rfl, rfl, _, rfl, wa, _, rfl, .inr q2, _, _, rfl, rfl, (by rw [lp]; omega), ?_⟩
    rw [lp]
    have n0 := Int.emod_nonneg (day - b) (show (ws.length : Int) ≠ 0 by omega)
    have n1 := Int.emod_lt_of_pos (day - b) (show (0 : Int) < (ws.length : Int) by omega)
    have hk : ((day - b) % (ws.length : Int)).toNat < ws.length := by omega
    have hk' : ((day - b) % (ws.length : Int)).toNat < ps.length := by rw [q3.1]; exact hk
    refine ⟨wa, _, _, .ref (ps[((day - b) % (ws.length : Int)).toNat]), rfl, rfl, q2, at_k n0 (by rw [List.getElem?_map, List.getElem?_eq_getElem hk']; rfl), ?_⟩
    exact kq _ _ (List.getElem?_eq_getElem hk) (q3.2 _ _ _ (List.getElem?_eq_getElem hk') (List.getElem?_eq_getElem hk))
end
end K12

namespace K12
open PySem PySem.Spec PyProof.Rows L2
/-! ### the number of the span of a day -/
theorem bAt_zero (told : List (Option Int × W2)) : bAt told 0 = 0 := rfl
theorem bAt_mono {told : List (Option Int × W2)} (ok : Told told) : ∀ (n i : Nat), i + n < told.length → bAt told i ≤ bAt told (i + n)
  | 0, i, _ => Int.le_refl _
  | n + 1, i, h => by
    have ih := bAt_mono ok n i (by omega)
    have hx : told[i + n]? = some told[i + n] := List.getElem?_eq_getElem (by omega)
    have e := bAt_next hx
    have ob := ok.open_ _ _ hx
    cases q : told[i + n].1 with
    | none => exact absurd (ob.mp q) (by omega)
    | some d =>
      have := ok.days _ _ d hx q
      rw [q] at e
      rw [show i + (n + 1) = i + n + 1 from rfl, e]
      show bAt told i ≤ bAt told (i + n) + d
      omega
end K12

namespace K12
open PySem PySem.Spec PyProof.Rows L2
/-! ### a word by its least part is the word -/
theorem per_at {ws : W2} {m : Nat} (hp : Per ws m) (h1 : 1 ≤ m) : ∀ i, i < ws.length → ws[i]? = (ws.take m)[i % m]? := by
  intro i
  induction i using Nat.strongRecOn with
  | _ i ih =>
    intro hi
    by_cases c : i < m
    · rw [Nat.mod_eq_of_lt c, List.getElem?_take_of_lt c]
    · have e : ws[i]? = (ws.drop m)[i - m]? := by
        rw [List.getElem?_drop]
        congr 1
        omega
      rw [e, hp.2, List.getElem?_take_of_lt (by omega), ih (i - m) (by omega) (by omega)]
      congr 1
      exact (Nat.mod_eq_sub_mod (by omega)).symm
theorem per_all (ws : W2) : Per ws ws.length := ⟨Nat.dvd_refl _, by rw [List.drop_length, Nat.sub_self, List.take_zero]⟩
theorem least_from {ws : W2} : ∀ k, 1 ≤ k → Per ws k → ∃ m, Least ws m := by
  intro k
  induction k using Nat.strongRecOn with
  | _ k ih =>
    intro h1 hp
    by_cases c : ∃ j, 1 ≤ j ∧ j < k ∧ Per ws j
    · obtain ⟨j, a, b, d⟩ := c
      exact ih j b a d
    · exact ⟨k, h1, hp, fun j a b d => c ⟨j, a, b, d⟩⟩
theorem least_ex {ws : W2} (h : 1 ≤ ws.length) : ∃ m, Least ws m := least_from ws.length h (per_all ws)
theorem leastW_len {ws : W2} (h : 1 ≤ ws.length) : 1 ≤ (leastW ws).length ∧ (leastW ws).length ∣ ws.length := by
  obtain ⟨m, hm⟩ := least_ex h
  have hd := hm.2.1.1
  have hle := Nat.le_of_dvd h hd
  rw [leastW_of hm, List.length_take, Nat.min_eq_left hle]
  exact ⟨hm.1, hd⟩
theorem leastW_at {ws : W2} (h : 1 ≤ ws.length) (x : Nat) : (leastW ws)[x % (leastW ws).length]? = ws[x % ws.length]? := by
  obtain ⟨m, hm⟩ := least_ex h
  have hd := hm.2.1.1
  have hle := Nat.le_of_dvd h hd
  rw [leastW_of hm, List.length_take, Nat.min_eq_left hle, per_at hm.2.1 hm.1 _ (Nat.mod_lt _ (by omega)), Nat.mod_mod_of_dvd _ hd]
/-- the share of a day, as it is told -/
def onV : List (Option Int × W2) → Int → Option (Int × Int)
  | [], _ => none
  | (d, ws) :: r, day => match d with
    | none => ws[(day % (ws.length : Int)).toNat]?
    | some n => if day < n then ws[(day % (ws.length : Int)).toNat]? else onV r (day - n)
theorem bAt_cons (x : Option Int × W2) (r : List (Option Int × W2)) (k : Nat) : bAt (x :: r) (k + 1) = x.1.getD 0 + bAt r k := by
  unfold bAt
  simp
/-- within the k-th stretch -/
theorem onV_at : ∀ (told : List (Option Int × W2)) (k : Nat) (d : Option Int) (ws : W2) (day : Int), told[k]? = some (d, ws) → (∀ j x, j < k → told[j]? = some x → ∃ n, x.1 = some n ∧ 1 ≤ n) → bAt told k ≤ day → (∀ n, d = some n → day < bAt told k + n) →
    onV told day = ws[((day - bAt told k) % (ws.length : Int)).toNat]?
  | [], k, d, ws, day, h, _, _, _ => by simp at h
  | x :: r, 0, d, ws, day, h, _, hb, hn => by
    have e : x = (d, ws) := by simpa using h
    subst e
    show onV ((d, ws) :: r) day = _
    rw [bAt_zero, Int.sub_zero]
    cases d with
    | none => rfl
    | some n =>
      have := hn n rfl
      rw [bAt_zero] at this
      show (if day < n then _ else _) = _
      rw [if_pos (by omega)]
  | x :: r, k + 1, d, ws, day, h, hp, hb, hn => by
    obtain ⟨n, e, n1⟩ := hp 0 x (Nat.succ_pos k) rfl
    obtain ⟨dx, wx⟩ := x
    have e : dx = some n := e
    subst e
    have hb0 : 0 ≤ bAt r k := by
      have : ∀ (l : List (Option Int × W2)) (k : Nat), (∀ j x, j < k → l[j]? = some x → ∃ n, x.1 = some n ∧ 1 ≤ n) → 0 ≤ bAt l k := by
        intro l
        induction l with
        | nil =>
          intro k _
          unfold bAt
          simp
        | cons y l ih =>
          intro k hq
          cases k with
          | zero => rw [bAt_zero]; exact Int.le_refl _
          | succ k =>
            rw [bAt_cons]
            obtain ⟨n', e', n1'⟩ := hq 0 y (Nat.succ_pos k) rfl
            have := ih k (fun j x hj hx => hq (j + 1) x (by omega) (by simpa using hx))
            rw [e']
            show 0 ≤ n' + bAt l k
            omega
      exact this r k (fun j x hj hx => hp (j + 1) x (by omega) (by simpa using hx))
    rw [bAt_cons] at hb hn ⊢
    have hb' : n + bAt r k ≤ day := hb
    show (if day < n then _ else onV r (day - n)) = _
    rw [if_neg (by omega), onV_at r k d ws (day - n) (by simpa using h) (fun j x hj hx => hp (j + 1) x (by omega) (by simpa using hx)) (by omega) (fun m hm => by
      have : day < n + bAt r k + m := hn m hm
      omega)]
    show _ = ws[((day - (n + bAt r k)) % (ws.length : Int)).toNat]?
    rw [show day - n - bAt r k = day - (n + bAt r k) from by omega]
/-- the least part of what is told within the stretch gives the same share -/
theorem cut_at {d : Option Int} {ws : W2} {x : Int} (h1 : 1 ≤ ws.length) (hd : ∀ n, d = some n → 1 ≤ n) (x0 : 0 ≤ x) (hx : ∀ n, d = some n → x < n) :
    (leastW (cutO d ws))[(x % ((leastW (cutO d ws)).length : Int)).toNat]? = ws[(x % (ws.length : Int)).toNat]? := by
  obtain ⟨y, rfl⟩ : ∃ y : Nat, x = (y : Int) := ⟨x.toNat, (Int.toNat_of_nonneg x0).symm⟩
  rw [← Int.natCast_emod, ← Int.natCast_emod, Int.toNat_natCast, Int.toNat_natCast, leastW_at (cutO_pos hd h1)]
  cases d with
  | none => rfl
  | some n =>
    have h2 := hd n rfl
    have h3 := hx n rfl
    show (ws.take n.toNat)[y % (ws.take n.toNat).length]? = _
    rw [List.length_take]
    by_cases c : n.toNat ≤ ws.length
    · rw [Nat.min_eq_left c, Nat.mod_eq_of_lt (show y < n.toNat by omega), Nat.mod_eq_of_lt (show y < ws.length by omega), List.getElem?_take_of_lt (by omega)]
    · rw [Nat.min_eq_right (by omega), List.take_of_length_le (by omega)]
end K12

namespace K12
open PySem PySem.Spec PyProof.Rows L2
/-! ### is_whole of anything, is_day, on -/
/-- what a value is, for is_whole: its type, and whether that is int, bool -/
def Kind (K : PySem.W.Frag) (H : Hp) (v : V) (bi bb : Bool) : Prop := ∃ t, TyX K H v t ∧ PySem.W.kitOne K t (.type "int") = some bi ∧ PySem.W.kitOne K t (.type "bool") = some bb
def spWholeX (K : PySem.W.Frag) : Sp := fun vs H Q _ => ∃ (v : V) (bi bb : Bool), vs = [v] ∧ Kind K H v bi bb ∧ Q (.bl (bi && !bb)) H
theorem kind_int {K : PySem.W.Frag} {H : Hp} (i : Int) : Kind K H (.int i) true false := ⟨_, TyX.base (TyOf.int i), kit_ty (by decide +kernel), kit_ty (by decide +kernel)⟩
section
variable {P : Program} {w : World} {K : PySem.W.Frag} {mg : Str → Option Value} {base : Heap}
theorem ok_wholeX {f : Addr} {fd : FuncData} (F : Fun K "is_whole" "is_whole" d_is_whole f fd) (h1 : mg "isinstance" = none) (h2 : mg "int" = none) (h3 : mg "bool" = none) : FnOk P w K mg base CX0 1 f fd ["thing"] (spWholeX K) := by
  refine F.ok scWhole (fun vs H Q E h => ?_) (fun cdv A outer s H vs Q E hr h => ?_)
  · obtain ⟨v, _, _, rfl, _⟩ := h
    rfl
  · obtain ⟨v, bi, bb, rfl, ⟨t, ht, k1, k2⟩, kq⟩ := h
    refine ⟨_, pss_one (ps_ret (pe_and (pe_callB call_isi (by rfl) h1 (by decide +kernel) (pa_cons (pv 0) (pa_cons (pe_bltn (v := .ty "int") (by rfl) h2 (by decide +kernel) rfl) pa_nil)))
      (pe_one (pe_not (pe_callB call_isi (by rfl) h1 (by decide +kernel) (pa_cons (pv 0) (pa_cons (pe_bltn (v := .ty "bool") (by rfl) h3 (by decide +kernel) rfl) pa_nil))))))), ?_⟩
    refine ⟨_, rfl, _, _, t, _, bi, rfl, ClsV.ty _, ht, k1, bi, rfl, ?_⟩
    cases bi with
    | false => exact iteF kq
    | true => exact iteT ⟨_, rfl, _, _, t, _, bb, rfl, ClsV.ty _, ht, k2, bb, rfl, kq⟩
end
end K12

namespace K12
open PySem PySem.Spec PyProof.Rows L2
/-! ### a course, and on -/
/-- an error's class, raised with a text -/
structure ErrC (K : PySem.W.Frag) (mg : Str → Option Value) (x : Str) (CN : Addr) : Prop where
  gN : mg x = some (.ref CN)
  xN : PySem.W.excIn K CN [.type "ValueError", .type "Exception", .type "BaseException", .type "object"] "ValueError.__new__" = true
  kN : PySem.W.keepIn K (.ref CN) = true
  bN : PySem.W.subIn K (.ref CN) (.type "BaseException") = some true
  tN : PySem.W.typeIn K (.ref CN) = some (.type "type")
structure CrsC (K : PySem.W.Frag) (CC : Addr) : Prop where
  cl : L2.Cls K CC
  no : NoAttr K CC "spans"
def crs (l : Addr) : List (Str × V) := putF "spans" (.ref l) []
theorem crs_spans (l : Addr) : (crs l).lookup ("spans" : Str) = some (.ref l) := by
  unfold crs
  rw [lookup_putF, if_pos rfl]
def CourseAt (K : PySem.W.Frag) (C CC : Addr) (H : Hp) (c : Addr) (told : List (Option Int × W2)) : Prop := ∃ (dx l : Addr) (ss : List Addr), H c = some (.ins CC dx (crs l)) ∧ SqL K H l (ss.map V.ref) ∧ ss.length = told.length ∧
  (∀ (i : Nat) (s : Addr), ss[i]? = some s → SpanOf K C H told i s) ∧ Told told
theorem CourseAt.mono {K : PySem.W.Frag} {C CC : Addr} {H H' : Hp} {c : Addr} {told : List (Option Int × W2)} (h : CourseAt K C CC H c told) (s : Same H H') : CourseAt K C CC H' c told := by
  obtain ⟨dx, l, ss, a, b, e, g, t⟩ := h
  exact ⟨dx, l, ss, s _ _ a, s.seq b, e, fun i x hx => (g i x hx).mono s, t⟩
/-- before the last stretch all have an end -/
theorem Told.ends {told : List (Option Int × W2)} (h : Told told) {j k : Nat} {x : Option Int × W2} (hj : j < k) (hk : k < told.length) (hx : told[j]? = some x) : ∃ n, x.1 = some n ∧ 1 ≤ n := by
  cases e : x.1 with
  | none => exact absurd ((h.open_ j x hx).mp e) (by omega)
  | some n => exact ⟨n, rfl, h.days j x n hx e⟩
end K12

namespace K12
open PySem PySem.Spec PyProof.Rows L2
theorem ty_tup {K : PySem.W.Frag} {H : Hp} {a : Addr} {xs : List V} (h : SqT K H a xs) : TyX K H (.ref a) (.type "tuple") := by
  rcases h with (h | ⟨o, h⟩) | ⟨o, its, n, hk, hc, _⟩
  · exact .base (.tup h)
  · exact .fTuple h
  · exact .kTuple hk hc
theorem ty_lst {K : PySem.W.Frag} {H : Hp} {a : Addr} {xs : List V} (h : SqL K H a xs) : TyX K H (.ref a) (.type "list") := by
  rcases h with (h | ⟨o, h⟩) | ⟨o, its, n, hk, hc, _⟩
  · exact .base (.lst h)
  · exact .base (.frz h)
  · exact .kList hk hc
end K12

namespace K12
open PySem PySem.Spec PyProof.Rows L2
/-! ### what may make a course: the good ones -/
structure TxtY (mg : Str → Option Value) (C : Addr) : Prop where
  isi : mg "isinstance" = none
  tuple : mg "tuple" = none
  list : mg "list" = none
  all : mg "all" = none
  any : mg "any" = none
  len : mg "len" = none
  sh : mg "Share" = some (.ref C)
def spWordG (K : PySem.W.Frag) (C : Addr) : Sp := fun vs H Q _ => ∃ (wa : Addr) (ws : W2), vs = [.ref wa] ∧ WordAt K C H wa ws ∧ 1 ≤ ws.length ∧ ws.length ≤ 60 ∧ ∀ H', Same H H' → Q (.bl true) H'
section
variable {P : Program} {w : World} {K : PySem.W.Frag} {mg : Str → Option Value} {base : Heap}
abbrev isWordN : List Str := ["thing", "share"]
theorem scWord : FnScope isWordN ["thing"] (defScope d_is_word) := ⟨rfl, rfl, rfl, by decide +kernel, rfl, by decide +kernel, by decide +kernel⟩
theorem ok_wordG {f C CN : Addr} {fd : FuncData} {tk : Tok} (F : Fun K "is_word" "is_word" d_is_word f fd) (Y : TxtY mg C) (T : Txt K mg C CN) (TI : TxtI K C) (hM : mg "MOST_SHARES" = some (.int 60 tk)) : FnOk P w K mg base CX0 1 f fd ["thing"] (spWordG K C) := by
  refine F.ok scWord (fun vs H Q E h => ?_) (fun cdv A outer s H vs Q E hr h => ?_)
  · obtain ⟨wa, _, rfl, _⟩ := h
    rfl
  · obtain ⟨wa, ws, rfl, ⟨ps, q2, q3⟩, l1, l2, kq⟩ := h
    refine ⟨_, pss_cons (ps_if (PW.pt (pw_or (pt_not (pt_val (pe_callB call_isi (by rfl) Y.isi (by decide +kernel) (pa_cons (pv 0) (pa_cons (pe_bltn (v := .ty "tuple") (by rfl) Y.tuple (by decide +kernel) rfl) pa_nil)))))
          (pw_or1 (pt_not (pt_chain op_le op_le pe_int (pe_callB call_len_seq (by rfl) Y.len PySem.boot_len (pa_cons (pv 0) pa_nil)) (pe_glob (v := .int 60) rfl hM ⟨tk, rfl⟩)))))) (pss_one (ps_ret pe_bl)) pss_nil)
      (pss_one (ps_ret (pe_callB (cr_all rfl) (by rfl) Y.all (by decide +kernel) (pa_cons
        (pe_lc (own := [("share", 1)]) (g := gName 1) (by rfl) scWord.nd (pi_tup (pv 0)) (blkOk_by (own := [("share", 1)]) (N := isWordN) (sc := defScope d_is_word) (by decide +kernel)) (fun _ _ _ _ _ => pg_name (i := 1) scWord.nd rfl (.inl rfl)) (fun _ _ _ _ _ => pts_nil)
          (fun _ _ _ _ _ => pe_callB (show CallR _ (.builtin "isinstance") (rIsi K) from call_isi) (by rfl) Y.isi (by decide +kernel) (pa_cons (pv 1) (pa_cons (pe_glob (v := .ref C) rfl Y.sh rfl) pa_nil)))) pa_nil)))), ?_⟩
    have lp : (ps.map V.ref).length = ws.length := by rw [List.length_map, q3.1]
    refine ⟨_, rfl, _, _, _, _, true, rfl, ClsV.ty _, ty_tup q2, kit_ty (by decide +kernel), true, rfl, iteF ?_⟩
    refine ⟨_, rfl, wa, _, rfl, .inr q2, _, _, rfl, rfl, _, rfl, ?_⟩
    rw [lp, decide_eq_true (show (1 : Int) ≤ (ws.length : Int) by omega)]
    refine iteT ⟨_, _, rfl, rfl, _, rfl, ?_⟩
    rw [decide_eq_true (show (ws.length : Int) ≤ 60 by omega)]
    refine iteF ?_
    refine ⟨_, rfl, wa, rfl, ⟨_, q2⟩, fun D hD => ?_⟩
    refine lc_tup (K := K) (a := wa) (xs := ps.map V.ref) (fun i M => M D = some (.lst ((List.replicate i true).map V.bl)) ∧ Same H M) ⟨upd_same, same1 hD⟩ ?_ ?_ ?_
    · rintro i M _ ⟨_, sm⟩
      exact Same.tup sm q2
    · rintro i x M hx ⟨eD, sm⟩
      rw [List.getElem?_map] at hx
      obtain ⟨p, hp, rfl⟩ := Option.map_eq_some_iff.mp hx
      have il : i < ws.length := by
        have := (List.getElem?_eq_some_iff.mp hp).1
        rw [q3.1] at this
        exact this
      obtain ⟨dx, ep⟩ := (q3.mono sm).2 i p _ hp (List.getElem?_eq_getElem il)
      refine ⟨rfl, ?_⟩
      refine ⟨_, rfl, _, _, _, _, true, rfl, ClsV.own C, TyX.base (TyOf.ins ep T.cl TI.ha TI.hn TI.htk TI.hm), TI.me, _, eD, (by rw [List.length_map, List.length_replicate]; exact Nat.lt_of_lt_of_le il (Nat.le_trans l2 (show 60 ≤ sizeLine by decide))), ?_, fun b o e => ?_⟩
      · rw [List.replicate_succ', List.map_append]
        exact upd_same
      · rw [upd_ne (ne_of_none e hD)]
        exact sm _ _ e
    · rintro M ⟨eD, sm⟩
      refine ⟨D, _, rfl, SqL.of eD, ?_⟩
      rw [show (List.replicate (ps.map V.ref).length true).all id = true from by simp]
      exact kq M sm
end
end K12

namespace K12
open PySem PySem.Spec PyProof.Rows L2
def spStrG (K : PySem.W.Frag) (C : Addr) : Sp := fun vs H Q _ => ∃ (t : Addr) (x : Option Int × W2), vs = [.ref t] ∧ StrAt K C H t x ∧ 1 ≤ x.2.length ∧ x.2.length ≤ 60 ∧ (∀ n, x.1 = some n → 1 ≤ n) ∧ ∀ H', Same H H' → Q (.bl true) H'
def spStrsG (K : PySem.W.Frag) (C : Addr) : Sp := fun vs H Q _ => ∃ (a : Addr) (ts : List Addr) (told : List (Option Int × W2)), vs = [.ref a] ∧ SqL K H a (ts.map V.ref) ∧ ts.length = told.length ∧
  (∀ (i : Nat) (t : Addr) (x : Option Int × W2), ts[i]? = some t → told[i]? = some x → StrAt K C H t x) ∧ Told told ∧ ∀ H', Same H H' → Q (.bl true) H'
theorem ends_last {told : List (Option Int × W2)} (h : Told told) : atI ((told.map fun x => x.1.isNone).map V.bl) (-1) = some (V.bl true) := by
  have hl : told ≠ [] := fun z => by have := h.pos; rw [z] at this; simp at this
  have e : told = told.dropLast ++ [told.getLast hl] := (List.dropLast_concat_getLast hl).symm
  have g : told[told.length - 1]? = some (told.getLast hl) := by rw [← List.getLast?_eq_getElem?, List.getLast?_eq_getLast hl]
  have n : (told.getLast hl).1 = none := (h.open_ (told.length - 1) _ g).mpr (by have := h.pos; omega)
  rw [e, List.map_append, List.map_append]
  have := atI_last ((told.dropLast.map fun x => x.1.isNone).map V.bl) (V.bl true)
  rw [show [told.getLast hl].map (fun x => x.1.isNone) = [true] from by simp [n]]
  exact this
theorem ends_before {told : List (Option Int × W2)} (h : Told told) : ((told.map fun x => x.1.isNone).take (told.length - 1)).any id = false := by
  rw [List.any_eq_false]
  intro b hb
  obtain ⟨i, hi⟩ := List.mem_iff_getElem?.mp hb
  rw [List.getElem?_take] at hi
  split at hi
  · rename_i il
    rw [List.getElem?_map] at hi
    obtain ⟨x, hx, rfl⟩ := Option.map_eq_some_iff.mp hi
    obtain ⟨n, e, _⟩ := h.ends (j := i) (k := told.length - 1) il (by have := h.pos; omega) hx
    simp [e]
  · cases hi
section
variable {P : Program} {w : World} {K : PySem.W.Frag} {mg : Str → Option Value} {base : Heap}
theorem scStr : FnScope ["thing", "days", "word"] ["thing"] (defScope d_is_stretch) := ⟨rfl, rfl, rfl, by decide +kernel, rfl, by decide +kernel, by decide +kernel⟩
theorem ok_strG {f fW fH C : Addr} {fd fdW fdH : FuncData} (F : Fun K "is_stretch" "is_stretch" d_is_stretch f fd) (Y : TxtY mg C)
    (GW : FnOk P w K mg base CX0 1 fW fdW ["thing"] (spWordG K C)) (mW : mg "is_word" = some (.ref fW)) (kW : PySem.W.keepIn K (.ref fW) = true) (bW : Binds K fdW ["thing"] [])
    (GH : FnOk P w K mg base CX0 1 fH fdH ["thing"] (spWholeX K)) (mH : mg "is_whole" = some (.ref fH)) (kH : PySem.W.keepIn K (.ref fH) = true) (bH : Binds K fdH ["thing"] []) :
    FnOk P w K mg base CX0 2 f fd ["thing"] (spStrG K C) := by
  refine F.ok scStr (fun vs H Q E h => ?_) (fun cdv A outer s H vs Q E hr h => ?_)
  · obtain ⟨t, _, rfl, _⟩ := h
    rfl
  · obtain ⟨t, ⟨d, ws⟩, rfl, ⟨wa, q1, hw⟩, l1, l2, hd, kq⟩ := h
    refine ⟨_, pss_cons (ps_if (PW.pt (pw_or (pt_not (pt_val (pe_callB call_isi (by rfl) Y.isi (by decide +kernel) (pa_cons (pv 0) (pa_cons (pe_bltn (v := .ty "tuple") (by rfl) Y.tuple (by decide +kernel) rfl) pa_nil)))))
          (pw_or1 (pt_cmpR op_ne (pe_callB call_len_seq (by rfl) Y.len PySem.boot_len (pa_cons (pv 0) pa_nil)) pe_int (nomark _))))) (pss_one (ps_ret pe_bl)) pss_nil)
      (pss_cons (ps_asg (pv 0) (pg_tup (by rfl) (pgs_cons (pg_name (i := 1) scStr.nd rfl (.inl rfl)) (pgs_cons (pg_name (i := 2) scStr.nd rfl (.inl rfl)) pgs_nil))))
      (pss_one (ps_ret (pe_and (pe_call GW hr rfl mW kW bW .nil pass0 (pa_cons (pv 2) pa_nil)) (pe_one (pe_or (pe_cmp (pc_isN (pv 1))) (pe_one (pe_and (pe_call GH hr rfl mH kH bH .nil pass0 (pa_cons (pv 1) pa_nil)) (pe_one (pe_cmpR op_ge (pv 1) pe_int (nomark _)))))))))))
      , ?_⟩
    refine ⟨_, rfl, _, _, _, _, true, rfl, ClsV.ty _, ty_tup q1, kit_ty (by decide +kernel), true, rfl, iteF ?_⟩
    refine ⟨_, rfl, t, _, rfl, .inr q1, rfl, _, rfl, iteF ?_⟩
    refine ⟨_, rfl, t, _, rfl, q1, rfl, _, _, rfl, _, _, rfl, rfl, ?_⟩
    refine ⟨_, rfl, wa, ws, rfl, hw, l1, l2, fun H1 s1 => ⟨true, rfl, iteT ?_⟩⟩
    refine ⟨_, rfl, _, rfl, if_stop (fun e => ?_) (fun n e => ?_)⟩
    · exact kq H1 s1
    · have n1 := hd n e
      have e : d = some n := e
      subst e
      refine ⟨_, rfl, .int n, true, false, rfl, kind_int n, true, rfl, iteT ⟨_, rfl, _, _, rfl, rfl, ?_⟩⟩
      have q := kq H1 s1
      rw [show V.bl true = V.bl (decide ((1 : Int) ≤ n)) from by rw [decide_eq_true n1]] at q
      exact q
abbrev areN : List Str := ["things", "thing", "ends", "days", "_"]
theorem scAre : FnScope areN ["things"] (defScope d_are_stretches) := ⟨rfl, rfl, rfl, by decide +kernel, rfl, by decide +kernel, by decide +kernel⟩
theorem ok_areG {f fS C : Addr} {fd fdS : FuncData} {tk : Tok} (F : Fun K "are_stretches" "are_stretches" d_are_stretches f fd) (Y : TxtY mg C) (hM : mg "MOST_STRETCHES" = some (.int 60 tk))
    (GS : FnOk P w K mg base CX0 2 fS fdS ["thing"] (spStrG K C)) (mS : mg "is_stretch" = some (.ref fS)) (kS : PySem.W.keepIn K (.ref fS) = true) (bS : Binds K fdS ["thing"] []) :
    FnOk P w K mg base CX0 3 f fd ["things"] (spStrsG K C) := by
  refine F.ok scAre (fun vs H Q E h => ?_) (fun cdv A outer s H vs Q E hr h => ?_)
  · obtain ⟨a, _, _, rfl, _⟩ := h
    rfl
  · obtain ⟨a, ts, told, rfl, ha, lt, hst, ok, kq⟩ := h
    refine ⟨_, pss_cons (ps_if (PW.pt (pw_or (pt_not (pt_val (pe_callB call_isi (by rfl) Y.isi (by decide +kernel) (pa_cons (pv 0) (pa_cons (pe_bltn (v := .ty "list") (by rfl) Y.list (by decide +kernel) rfl) pa_nil)))))
          (pw_or1 (pt_not (pt_chain op_le op_le pe_int (pe_callB call_len_seq (by rfl) Y.len PySem.boot_len (pa_cons (pv 0) pa_nil)) (pe_glob (v := .int 60) rfl hM ⟨tk, rfl⟩)))))) (pss_one (ps_ret pe_bl)) pss_nil)
      (pss_cons (ps_if (pt_not (pt_val (pe_callB (cr_all rfl) (by rfl) Y.all (by decide +kernel) (pa_cons
        (pe_lc (own := [("thing", 1)]) (g := gName 1) (by rfl) scAre.nd (pi_list (pv 0)) (blkOk_by (own := [("thing", 1)]) (N := areN) (sc := defScope d_are_stretches) (by decide +kernel)) (fun _ _ _ _ _ => pg_name (i := 1) scAre.nd rfl (.inl rfl)) (fun _ _ _ _ _ => pts_nil)
          (fun _ _ _ _ _ => pe_call GS hr rfl mS kS bS .nil pass0 (pa_cons (pv 1) pa_nil))) pa_nil)))) (pss_one (ps_ret pe_bl)) pss_nil)
      (pss_cons (ps_setLc (i := 2) (own := [("days", 3), ("_", 4)]) (g := gTup K 2 (gCons (gName 3) (gCons (gName 4) gNil))) (by rfl) scAre.nd rfl rfl (sw_true rfl rfl rfl rfl) (pi_list (pv 0)) (blkOk_by (own := [("days", 3), ("_", 4)]) (N := areN) (sc := defScope d_are_stretches) (by decide +kernel))
        (fun _ _ _ _ _ => pg_tup (by rfl) (pgs_cons (pg_name (i := 3) scAre.nd rfl (.inl rfl)) (pgs_cons (pg_name (i := 4) scAre.nd rfl (.inl rfl)) pgs_nil))) (fun _ _ _ _ _ => pts_nil) (fun _ _ _ _ _ => pe_cmp (pc_isN (pv 3))))
      (pss_one (ps_ret (pe_and (pe_ix ix_list (pv 2) (pe_un un_neg pe_int) (fun _ _ => rfl)) (pe_one (pe_not (pe_callB (cr_any rfl) (by rfl) Y.any (by decide +kernel) (pa_cons (pe_slice sl_list (pv 2) po_none (po_some (pe_un un_neg pe_int))) pa_nil))))))))), ?_⟩
    have lp : (ts.map V.ref).length = told.length := by rw [List.length_map, lt]
    have p1 := ok.pos
    have p2 := ok.few
    refine ⟨_, rfl, _, _, _, _, true, rfl, ClsV.ty _, ty_lst ha, kit_ty (by decide +kernel), true, rfl, iteF ?_⟩
    refine ⟨_, rfl, a, _, rfl, .inl ha, _, _, rfl, rfl, _, rfl, ?_⟩
    rw [lp, decide_eq_true (show (1 : Int) ≤ (told.length : Int) by omega)]
    refine iteT ⟨_, _, rfl, rfl, _, rfl, ?_⟩
    rw [decide_eq_true (show (told.length : Int) ≤ 60 by omega)]
    refine iteF ?_
    refine ⟨_, rfl, a, rfl, ⟨_, ha⟩, fun D hD => ?_⟩
    refine lc_list (K := K) (a := a) (xs := ts.map V.ref) (fun i M => M D = some (.lst ((List.replicate i true).map V.bl)) ∧ Same H M) ⟨upd_same, same1 hD⟩ ?_ ?_ ?_
    · rintro i M _ ⟨_, sm⟩
      exact sm.seq ha
    · rintro i x M hx ⟨eD, sm⟩
      rw [List.getElem?_map] at hx
      obtain ⟨t, ht, rfl⟩ := Option.map_eq_some_iff.mp hx
      have il : i < told.length := by
        have := (List.getElem?_eq_some_iff.mp ht).1
        omega
      obtain ⟨x, hxi⟩ : ∃ x, told[i]? = some x := ⟨_, List.getElem?_eq_getElem il⟩
      refine ⟨rfl, ?_⟩
      refine ⟨_, rfl, t, x, rfl, (hst i t x ht hxi).mono sm, (ok.word i x hxi).1, (ok.word i x hxi).2, fun n e => ok.days i x n hxi e, fun M1 s1 => ?_⟩
      refine ⟨_, s1 _ _ eD, (by rw [List.length_map, List.length_replicate]; exact Nat.lt_of_lt_of_le il (Nat.le_trans p2 (show 60 ≤ sizeLine by decide))), ?_, fun b o e => ?_⟩
      · rw [List.replicate_succ', List.map_append]
        exact upd_same
      · rw [upd_ne (ne_of_none e hD)]
        exact s1 _ _ (sm _ _ e)
    · rintro M ⟨eD, sm⟩
      refine ⟨D, _, rfl, SqL.of eD, ?_⟩
      rw [show (List.replicate (ts.map V.ref).length true).all id = true from by simp]
      refine ⟨true, rfl, iteF ?_⟩
      refine ⟨_, rfl, a, rfl, ⟨_, sm.seq ha⟩, fun B hB => ?_⟩
      refine lc_list (K := K) (a := a) (xs := ts.map V.ref) (fun i M' => M' B = some (.lst (((told.take i).map fun x => x.1.isNone).map V.bl)) ∧ Same M M') ⟨upd_same, same1 hB⟩ ?_ ?_ ?_
      · rintro i M' _ ⟨_, sm'⟩
        exact (sm.trans sm').seq ha
      · rintro i x M' hx ⟨eB, sm'⟩
        rw [List.getElem?_map] at hx
        obtain ⟨t, ht, rfl⟩ := Option.map_eq_some_iff.mp hx
        have il : i < told.length := by
          have := (List.getElem?_eq_some_iff.mp ht).1
          omega
        obtain ⟨x, hxi⟩ : ∃ x, told[i]? = some x := ⟨_, List.getElem?_eq_getElem il⟩
        obtain ⟨wa, q1, _⟩ := (hst i t x ht hxi).mono (sm.trans sm')
        refine ⟨t, _, rfl, q1, rfl, _, _, rfl, _, _, rfl, rfl, rfl, ?_⟩
        refine ⟨_, rfl, _, eB, (by rw [List.length_map, List.length_map, List.length_take]; exact Nat.lt_of_le_of_lt (Nat.min_le_left _ _) (Nat.lt_of_lt_of_le il (Nat.le_trans p2 (show 60 ≤ sizeLine by decide)))), ?_, fun b o e => ?_⟩
        · have ed : decide (dv x.1 = V.non) = x.1.isNone := by
            cases x.1 with
            | none => exact decide_eq_true rfl
            | some n => exact decide_eq_false (fun z => nomatch z)
          rw [List.take_succ_eq_append_getElem il, List.map_append, List.map_append, upd_same]
          have e3 : told[i] = x := Option.some.inj ((List.getElem?_eq_getElem il).symm.trans hxi)
          rw [e3]
          show some (HO.lst _) = some (HO.lst (_ ++ [V.bl x.1.isNone]))
          rw [← ed]
        · rw [upd_ne (ne_of_none e hB)]
          exact sm' _ _ e
      · rintro M' ⟨eB, sm'⟩
        rw [lp, List.take_length] at eB
        refine ⟨_, rfl, _, rfl, B, _, _, _, rfl, rfl, SqL.of eB, ends_last ok, true, rfl, iteT ?_⟩
        refine ⟨_, rfl, _, rfl, _, rfl, B, _, rfl, SqL.of eB, fun p hp => ?_⟩
        refine ⟨p, _, rfl, SqL.of (xs := ((told.map fun x => x.1.isNone).take (told.length - 1)).map V.bl) ?_, false, congrArg V.bl (ends_before ok), ?_⟩
        · rw [show cutV ((told.map fun x => x.1.isNone).map V.bl) none (some (-1)) = ((told.map fun x => x.1.isNone).take (told.length - 1)).map V.bl from by
            have := cut_back (xs := (told.map fun x => x.1.isNone).map V.bl) (n := 1) (by decide)
            rw [List.length_map, List.length_map, ← List.map_take] at this
            exact this]
          exact upd_same
        · exact kq _ (sm.trans (sm'.trans (same1 hp)))
end
end K12

namespace K12
open PySem PySem.Spec PyProof.Rows L2
/-! ### a course made -/
def StrsAt (K : PySem.W.Frag) (C : Addr) (H : Hp) (a : Addr) (told : List (Option Int × W2)) : Prop := ∃ ts : List Addr, SqL K H a (ts.map V.ref) ∧ ts.length = told.length ∧ (∀ (i : Nat) (t : Addr) (x : Option Int × W2), ts[i]? = some t → told[i]? = some x → StrAt K C H t x)
def spCInit (K : PySem.W.Frag) (C CC : Addr) : Sp := fun vs H Q _ => ∃ (p dx a : Addr) (told : List (Option Int × W2)), vs = [.ref p, .ref a] ∧ H p = some (.ins CC dx []) ∧ StrsAt K C H a told ∧ Told told ∧
  ∀ H', CourseAt K C CC H' p told → (∀ b o, b ≠ p → H b = some o → H' b = some o) → Q .non H'
/-- what is no object still being made stays -/
def Keep2 (H H' : Hp) : Prop := ∀ b o, H b = some o → (∀ C d, o ≠ .ins C d []) → H' b = some o
theorem Keep2.tup {K : PySem.W.Frag} {H H' : Hp} {a : Addr} {xs : List V} (k : Keep2 H H') (h : SqT K H a xs) : SqT K H' a xs :=
  h.elim (fun h => .inl (h.elim (fun h => .inl (k _ _ h (fun _ _ z => nomatch z))) fun ⟨o, h⟩ => .inr ⟨o, k _ _ h (fun _ _ z => nomatch z)⟩)) fun h => .inr h
theorem Keep2.all {C : Addr} {H H' : Hp} {ps : List Addr} {ws : W2} (k : Keep2 H H') (h : ShAll C H ps ws) : ShAll C H' ps ws := ⟨h.1, fun i p x a b => by
  obtain ⟨dx, e⟩ := h.2 i p x a b
  refine ⟨dx, k _ _ e (fun C' d z => ?_)⟩
  injection z with _ _ z
  have q := shf_top x.1 x.2
  rw [z] at q
  cases q⟩
theorem Keep2.span {K : PySem.W.Frag} {C : Addr} {H H' : Hp} {told : List (Option Int × W2)} {i : Nat} {s : Addr} (k : Keep2 H H') (h : SpanOf K C H told i s) : SpanOf K C H' told i s := by
  obtain ⟨x, e, wa, a, ps, b, c⟩ := h
  exact ⟨x, e, wa, k.tup a, ps, k.tup b, k.all c⟩
theorem keep2_ins {H : Hp} {p CC dx : Addr} {o : HO} (h : H p = some (.ins CC dx [])) : Keep2 H (upd H p o) := fun b u e n => by
  rw [upd_ne (fun z => by rw [z, h] at e; exact n _ _ (Option.some.inj e).symm)]
  exact e
section
variable {P : Program} {w : World} {K : PySem.W.Frag} {mg : Str → Option Value} {base : Heap}
theorem scCInit : FnScope ["self", "stretches"] ["self", "stretches"] (defScope d_Course_init) := ⟨rfl, rfl, rfl, by decide +kernel, rfl, by decide +kernel, by decide +kernel⟩
theorem ok_cinit {f fA fS C CC CN : Addr} {fd fdA fdS : FuncData} (F : Fun K "__init__" "Course.__init__" d_Course_init f fd) (TC : CrsC K CC) (TN : ErrC K mg "NoCourse" CN)
    (GA : FnOk P w K mg base CX0 3 fA fdA ["things"] (spStrsG K C)) (mA : mg "are_stretches" = some (.ref fA)) (kA : PySem.W.keepIn K (.ref fA) = true) (bA : Binds K fdA ["things"] [])
    (GS : FnOk P w K mg base CX0 4 fS fdS ["stretches"] (spSpans K C)) (mS : mg "spans_of" = some (.ref fS)) (kS : PySem.W.keepIn K (.ref fS) = true) (bS : Binds K fdS ["stretches"] []) :
    FnOk P w K mg base (L2.CX P w) 5 f fd ["self", "stretches"] (spCInit K C CC) := by
  refine F.okX scCInit (fun vs H Q E h => ?_) (fun cdv A outer s H vs Q E hr h => ?_)
  · obtain ⟨p, dx, a, _, rfl, _⟩ := h
    rfl
  · obtain ⟨p, dx, a, told, rfl, hp, ⟨ts, ha, lt, hst⟩, ok, kq⟩ := h
    have r3 : Room 3 _ := hr.mono (by decide)
    refine ⟨_, pss_cons (ps_if (pt_not (pt_val (pe_call GA r3 rfl mA kA bA .nil pass0 (pa_cons (pv 1) pa_nil))))
        (pss_one (ps_raise rfl (takes_of rfl rfl rfl rfl) (pmk_own PySem.F.excBase_ValueError TN.xN TN.gN TN.kN (raises_own TN.bN TN.tN) (by exact rfl)))) pss_nil)
      (pss_one (ps_fld (pv 0) (pe_call GS hr rfl mS kS bS .nil pass0 (pa_cons (pv 1) pa_nil)) rfl)), ?_⟩
    refine ⟨_, rfl, a, ts, told, rfl, ha, lt, hst, ok, fun H1 s1 => ⟨true, rfl, iteF ?_⟩⟩
    refine ⟨_, rfl, a, ts, told, rfl, s1.seq ha, lt, fun i t x h1 h2 => (hst i t x h1 h2).mono s1, ok, fun H2 l ss s2 hl0 hl ls hsp => ?_⟩
    have hp2 := s2 _ _ (s1 _ _ hp)
    refine ⟨_, rfl, p, CC, dx, _, rfl, hp2, TC.cl, TC.no, (by show 0 < 1000; decide), ?_⟩
    have pl : l ≠ p := fun z => by rw [z, hp2] at hl; cases hl
    refine kq _ ⟨dx, l, ss, upd_same, SqL.of (by rw [upd_ne pl]; exact hl), ls, fun i s' hs => ?_, ok⟩ (fun b o hb e => by rw [upd_ne hb]; exact s2 _ _ (s1 _ _ e))
    exact (keep2_ins hp2).span (hsp i s' hs)
end
end K12

namespace K12
open PySem PySem.Spec PyProof.Rows L2
/-! ### times, total -/
/-- a new share, from two -/
def lcmOf (ws : W2) : Nat := ws.foldl (fun m x => Nat.lcm m x.2.natAbs) 1
def sumOf (ws : W2) (D : Int) : Int := (ws.map fun x => x.1 * (D / x.2)).sum
/-- what total gives: the one itself, or the sum in lowest terms -/
def TotOf (ws : W2) (t b : Int) : Prop := (∃ x, ws = [x] ∧ t = x.1 ∧ b = x.2) ∨ (t = lowT (sumOf ws (lcmOf ws)) (lcmOf ws) ∧ b = lowB (sumOf ws (lcmOf ws)) (lcmOf ws))
structure Small (ws : W2) (M : Nat) : Prop where
  pos : 0 < M
  lt : M < 2 ^ 60
  bot : ∀ (i : Nat) (x : Int × Int), ws[i]? = some x → 0 < x.2 ∧ x.2.natAbs ∣ M
  top : ∀ (i : Nat) (x : Int × Int), ws[i]? = some x → x.1.natAbs < 2 ^ 1000
  few : ws.length ≤ 4000
theorem lcmOf_next {ws : W2} {i : Nat} {x : Int × Int} (h : ws[i]? = some x) : lcmOf (ws.take (i + 1)) = Nat.lcm (lcmOf (ws.take i)) x.2.natAbs := by
  obtain ⟨hi, e⟩ := List.getElem?_eq_some_iff.mp h
  unfold lcmOf
  rw [List.take_succ_eq_append_getElem hi, List.foldl_append, e]
  rfl
theorem lcmOf_dvd {ws : W2} {M : Nat} (h : Small ws M) : ∀ i, i ≤ ws.length → lcmOf (ws.take i) ∣ M
  | 0, _ => by
    rw [List.take_zero]
    exact Nat.one_dvd _
  | i + 1, hi => by
    have hx : ws[i]? = some ws[i] := List.getElem?_eq_getElem (by omega)
    rw [lcmOf_next hx]
    exact Nat.lcm_dvd (lcmOf_dvd h i (by omega)) (h.bot i _ hx).2
theorem lcmOf_lt {ws : W2} {M : Nat} (h : Small ws M) {i : Nat} (hi : i ≤ ws.length) : 0 < lcmOf (ws.take i) ∧ lcmOf (ws.take i) < 2 ^ 60 := by
  have d := lcmOf_dvd h i hi
  exact ⟨Nat.pos_of_dvd_of_pos d h.pos, Nat.lt_of_le_of_lt (Nat.le_of_dvd h.pos d) h.lt⟩
theorem sum_lt : ∀ (l : List Int) (B : Nat), (∀ x ∈ l, x.natAbs ≤ B) → l.sum.natAbs ≤ l.length * B
  | [], B, _ => by simp
  | a :: l, B, h => by
    have h1 := h a (by simp)
    have h2 := sum_lt l B (fun x hx => h x (by simp [hx]))
    rw [List.sum_cons, List.length_cons, Nat.succ_mul]
    have := Int.natAbs_add_le a l.sum
    omega
theorem sumOf_lt {ws : W2} {M : Nat} (h : Small ws M) {D : Nat} (hD : D < 2 ^ 60) : (sumOf ws D).natAbs < 2 ^ 4000 := by
  have a := sum_lt (ws.map fun x => x.1 * ((D : Int) / x.2)) (2 ^ 1060) (fun y hy => by
    obtain ⟨x, hx, rfl⟩ := List.mem_map.mp hy
    obtain ⟨i, hi⟩ := List.mem_iff_getElem?.mp hx
    have t := h.top i x hi
    have b := (h.bot i x hi).1
    have e : ((D : Int) / x.2).natAbs ≤ D := by
      have q0 : 0 ≤ (D : Int) / x.2 := Int.ediv_nonneg (by omega) (by omega)
      have q1 : (D : Int) / x.2 ≤ (D : Int) := Int.ediv_le_self _ (by omega)
      omega
    rw [Int.natAbs_mul, show (2 : Nat) ^ 1060 = 2 ^ 1000 * 2 ^ 60 from by rw [← Nat.pow_add]]
    exact Nat.mul_le_mul (Nat.le_of_lt t) (Nat.le_trans e (Nat.le_of_lt hD)))
  rw [List.length_map] at a
  have c : ws.length * 2 ^ 1060 ≤ 2 ^ 12 * 2 ^ 1060 := Nat.mul_le_mul_right _ (Nat.le_trans h.few (by decide))
  rw [← Nat.pow_add] at c
  exact Nat.lt_of_le_of_lt (Nat.le_trans a c) (Nat.pow_lt_pow_right (by decide) (by decide))
end K12

namespace K12
open PySem PySem.Spec PyProof.Rows L2
/-! ### sums by a common multiple of all bottoms -/
/-- t over b is S over M, in lowest terms -/
def IsFr (M : Nat) (S t b : Int) : Prop := 0 < b ∧ Nat.gcd t.natAbs b.natAbs = 1 ∧ t * (M : Int) = S * b
theorem fr_low {p q S : Int} {M : Nat} (hq : q ≠ 0) (h : p * (M : Int) = S * q) : IsFr M S (lowT p q) (lowB p q) := by
  refine ⟨lowB_pos hq, low_coprime hq, ?_⟩
  have h1 := lowT_mul p q
  have h2 := lowB_mul p q
  have g := sg_ne (a := p) hq
  have e : lowT p q * (M : Int) * sg p q = S * lowB p q * sg p q := by
    calc lowT p q * (M : Int) * sg p q = (lowT p q * sg p q) * M := by rw [Int.mul_assoc, Int.mul_comm (M : Int), ← Int.mul_assoc]
      _ = p * M := by rw [h1]
      _ = S * q := h
      _ = S * (lowB p q * sg p q) := by rw [h2]
      _ = S * lowB p q * sg p q := by rw [Int.mul_assoc]
  exact Int.eq_of_mul_eq_mul_right g e
theorem fr_one {M : Nat} {S t b t' b' : Int} (hM : 0 < M) (h : IsFr M S t b) (h' : IsFr M S t' b') : t = t' ∧ b = b' := by
  refine same_of h.1 h'.1 ?_ h.2.1 h'.2.1
  have hM' : (M : Int) ≠ 0 := by omega
  refine Int.eq_of_mul_eq_mul_right hM' ?_
  calc t * b' * (M : Int) = (t * M) * b' := by rw [Int.mul_assoc, Int.mul_comm b', ← Int.mul_assoc]
    _ = (S * b) * b' := by rw [h.2.2]
    _ = (S * b') * b := by rw [Int.mul_assoc, Int.mul_comm b b', ← Int.mul_assoc]
    _ = (t' * M) * b := by rw [h'.2.2]
    _ = t' * b * M := by rw [Int.mul_assoc, Int.mul_comm (M : Int), ← Int.mul_assoc]
theorem fr_dvd {M : Nat} {S t b : Int} (h : IsFr M S t b) : b.natAbs ∣ M := by
  have e : t.natAbs * M = S.natAbs * b.natAbs := by
    have := congrArg Int.natAbs h.2.2
    rw [Int.natAbs_mul, Int.natAbs_mul, Int.natAbs_natCast] at this
    exact this
  have d : b.natAbs ∣ t.natAbs * M := ⟨S.natAbs, by rw [e, Nat.mul_comm]⟩
  exact Nat.Coprime.dvd_of_dvd_mul_left (by rw [Nat.Coprime, Nat.gcd_comm]; exact h.2.1) d
theorem dvd_int {M : Nat} {b : Int} (h : b.natAbs ∣ M) : b ∣ (M : Int) := Int.natAbs_dvd_natAbs.mp (by rw [Int.natAbs_natCast]; exact h)
theorem fr_term {M : Nat} {S t b : Int} (h : IsFr M S t b) : t * ((M : Int) / b) = S := by
  obtain ⟨k, hk⟩ := dvd_int (fr_dvd h)
  have b0 : b ≠ 0 := by have := h.1; omega
  have e := h.2.2
  rw [hk] at e ⊢
  rw [Int.mul_ediv_cancel_left _ b0]
  refine Int.eq_of_mul_eq_mul_right b0 ?_
  rw [← e, Int.mul_comm b k, Int.mul_assoc]
theorem fr_abs {M : Nat} {S t b : Int} (hM : 0 < M) (h : IsFr M S t b) : t.natAbs ≤ S.natAbs := by
  have q := fr_term h
  obtain ⟨k, hk⟩ := dvd_int (fr_dvd h)
  have b0 : b ≠ 0 := by have := h.1; omega
  rw [hk, Int.mul_ediv_cancel_left _ b0] at q
  rw [← q, Int.natAbs_mul]
  have k0 : k.natAbs ≠ 0 := fun z => by
    have : k = 0 := by omega
    rw [this, Int.mul_zero] at hk
    omega
  exact Nat.le_mul_of_pos_right _ (by omega)
theorem sumOf_cons (x : Int × Int) (ws : W2) (D : Int) : sumOf (x :: ws) D = x.1 * (D / x.2) + sumOf ws D := by
  unfold sumOf
  rw [List.map_cons, List.sum_cons]
theorem sumOf_append (a b : W2) (D : Int) : sumOf (a ++ b) D = sumOf a D + sumOf b D := by
  unfold sumOf
  rw [List.map_append, List.sum_append]
theorem sumOf_mul {L k : Int} : ∀ (ws : W2), (∀ x ∈ ws, 0 < x.2 ∧ x.2 ∣ L) → sumOf ws (L * k) = sumOf ws L * k
  | [], _ => by simp [sumOf]
  | x :: ws, h => by
    obtain ⟨h1, h2⟩ := h x (by simp)
    rw [sumOf_cons, sumOf_cons, sumOf_mul ws (fun y hy => h y (by simp [hy])), Int.add_mul]
    obtain ⟨c, hc⟩ := h2
    have x0 : x.2 ≠ 0 := by omega
    rw [hc, Int.mul_assoc, Int.mul_ediv_cancel_left _ x0, Int.mul_ediv_cancel_left _ x0, Int.mul_assoc]
theorem lcmOf_all {ws : W2} : ∀ i, i ≤ ws.length → ∀ j x, j < i → ws[j]? = some x → x.2.natAbs ∣ lcmOf (ws.take i)
  | 0, _, j, x, hj, _ => absurd hj (Nat.not_lt_zero j)
  | i + 1, hi, j, x, hj, hx => by
    have hy : ws[i]? = some ws[i] := List.getElem?_eq_getElem (by omega)
    rw [lcmOf_next hy]
    rcases Nat.lt_succ_iff_lt_or_eq.mp hj with h | h
    · exact Nat.dvd_trans (lcmOf_all i (by omega) j x h hx) (Nat.dvd_lcm_left _ _)
    · subst h
      rw [hy] at hx
      cases hx
      exact Nat.dvd_lcm_right _ _
theorem tot_fr {ws : W2} {t b : Int} {M : Nat} (sm : Small ws M) (co : ∀ (i : Nat) (x : Int × Int), ws[i]? = some x → Nat.gcd x.1.natAbs x.2.natAbs = 1) (h : TotOf ws t b) : IsFr M (sumOf ws M) t b := by
  rcases h with ⟨x, rfl, rfl, rfl⟩ | ⟨rfl, rfl⟩
  · obtain ⟨h1, h2⟩ := sm.bot 0 x rfl
    refine ⟨h1, co 0 x rfl, ?_⟩
    rw [sumOf_cons, show sumOf [] (M : Int) = 0 from rfl, Int.add_zero, Int.mul_assoc, Int.ediv_mul_cancel (dvd_int h2)]
  · have l1 := lcmOf_lt sm (i := ws.length) (Nat.le_refl _)
    have d := lcmOf_dvd sm ws.length (Nat.le_refl _)
    rw [List.take_length] at l1 d
    obtain ⟨k, hk⟩ := d
    refine fr_low (by omega) ?_
    have e : (M : Int) = ((lcmOf ws : Nat) : Int) * (k : Int) := by rw [hk]; exact Int.natCast_mul _ _
    rw [e, sumOf_mul ws (fun x hx => by
      obtain ⟨i, hi⟩ := List.mem_iff_getElem?.mp hx
      have q := lcmOf_all ws.length (Nat.le_refl _) i x (List.getElem?_eq_some_iff.mp hi).1 hi
      rw [List.take_length] at q
      exact ⟨(sm.bot i x hi).1, dvd_int q⟩), Int.mul_assoc, Int.mul_comm ((lcmOf ws : Nat) : Int) (k : Int)]
theorem fr_times {M : Nat} {S t b r : Int} (h : IsFr M S t b) : IsFr M (r * S) (lowT (r * t) (1 * b)) (lowB (r * t) (1 * b)) := by
  refine fr_low (by have := h.1; omega) ?_
  rw [Int.mul_assoc, h.2.2, Int.one_mul, Int.mul_assoc]
/-! ### what comes together in so many days -/
/-- the first x of a word that is told again and again -/
def dayS (M : Nat) (ws : W2) : Nat → Int
  | 0 => 0
  | x + 1 => dayS M ws x + match ws[x % ws.length]? with | some y => y.1 * ((M : Int) / y.2) | none => 0
theorem dayS_is {M : Nat} {ws : W2} (h : 1 ≤ ws.length) : ∀ x, dayS M ws x = ((x / ws.length : Nat) : Int) * sumOf ws M + sumOf (ws.take (x % ws.length)) M
  | 0 => by
    rw [Nat.zero_div, Nat.zero_mod, List.take_zero]
    simp [dayS, sumOf]
  | x + 1 => by
    have hm : x % ws.length < ws.length := Nat.mod_lt _ (by omega)
    have hx : ws[x % ws.length]? = some ws[x % ws.length] := List.getElem?_eq_getElem hm
    show dayS M ws x + (match ws[x % ws.length]? with | some y => y.1 * ((M : Int) / y.2) | none => 0) = _
    rw [hx, dayS_is h x]
    have st : sumOf (ws.take (x % ws.length)) M + ws[x % ws.length].1 * ((M : Int) / ws[x % ws.length].2) = sumOf (ws.take (x % ws.length + 1)) M := by
      rw [List.take_succ_eq_append_getElem hm, sumOf_append, sumOf_cons, show sumOf [] (M : Int) = 0 from rfl, Int.add_zero]
    show _ + _ + ws[x % ws.length].1 * ((M : Int) / ws[x % ws.length].2) = _
    rw [Int.add_assoc, st]
    by_cases c : x % ws.length + 1 = ws.length
    · have a := Nat.div_add_mod x ws.length
      have e : x + 1 = ws.length * (x / ws.length + 1) := by rw [Nat.mul_add, Nat.mul_one]; omega
      have e1 : (x + 1) % ws.length = 0 := by rw [e, Nat.mul_mod_right]
      have e2 : (x + 1) / ws.length = x / ws.length + 1 := by
        have q : (ws.length * (x / ws.length + 1)) / ws.length = x / ws.length + 1 := Nat.mul_div_cancel_left _ (by omega)
        rw [← e] at q
        exact q
      rw [e1, e2, c, List.take_length, List.take_zero, show sumOf [] (M : Int) = 0 from rfl, Int.add_zero, Int.natCast_add, Int.add_mul]
      simp
    · have hl : x % ws.length + 1 < ws.length := by omega
      have a := Nat.div_add_mod x ws.length
      have e1 : (x + 1) % ws.length = x % ws.length + 1 := by
        have e : x + 1 = (x % ws.length + 1) + ws.length * (x / ws.length) := by omega
        rw [e, Nat.add_mul_mod_self_left, Nat.mod_eq_of_lt hl]
      have e2 : (x + 1) / ws.length = x / ws.length := by
        have e : x + 1 = (x % ws.length + 1) + ws.length * (x / ws.length) := by omega
        rw [e, Nat.add_mul_div_left _ _ (by omega), Nat.div_eq_of_lt hl, Nat.zero_add]
      rw [e1, e2]
theorem dayS_like {M : Nat} {ws vs : W2} : ∀ x, (∀ i, i < x → ws[i % ws.length]? = vs[i % vs.length]?) → dayS M ws x = dayS M vs x
  | 0, _ => rfl
  | x + 1, h => by
    show dayS M ws x + _ = dayS M vs x + _
    rw [dayS_like x (fun i hi => h i (by omega)), h x (Nat.lt_succ_self x)]
end K12

namespace K12
open PySem PySem.Spec PyProof.Rows L2
/-- pairs told in a list -/
def PrsAt (K : PySem.W.Frag) (H : Hp) (a : Addr) (ws : W2) : Prop := ∃ qs : List Addr, SqL K H a (qs.map V.ref) ∧ qs.length = ws.length ∧ ∀ (j : Nat) (q : Addr) (y : Int × Int), qs[j]? = some q → ws[j]? = some y → SqT K H q [.int y.1, .int y.2]
theorem PrsAt.mono {K : PySem.W.Frag} {H H' : Hp} {a : Addr} {ws : W2} (h : PrsAt K H a ws) (s : Same H H') : PrsAt K H' a ws := by
  obtain ⟨qs, x, y, z⟩ := h
  exact ⟨qs, s.seq x, y, fun j q w a b => Same.tup s (z j q w a b)⟩
theorem fr_zero {m : Nat} : IsFr m 0 0 1 := ⟨by decide, rfl, by rw [Int.zero_mul, Int.zero_mul]⟩
theorem fr_plus {m : Nat} {S t b : Int} {y : Int × Int} (h : IsFr m S t b) (y0 : 0 < y.2) (yd : y.2.natAbs ∣ m) :
    IsFr m (S + y.1 * ((m : Int) / y.2)) (lowT (t * y.2 + y.1 * b) (b * y.2)) (lowB (t * y.2 + y.1 * b) (b * y.2)) := by
  have b0 := h.1
  refine fr_low (Int.mul_ne_zero (by omega) (by omega)) ?_
  obtain ⟨k, hk⟩ := dvd_int yd
  have e := h.2.2
  have hq : (m : Int) / y.2 = k := by rw [hk, Int.mul_ediv_cancel_left _ (by omega)]
  rw [hq, Int.add_mul, Int.add_mul]
  have e1 : t * y.2 * (m : Int) = S * (b * y.2) := by rw [Int.mul_assoc, Int.mul_comm y.2, ← Int.mul_assoc, e, Int.mul_assoc]
  have e2 : y.1 * b * (m : Int) = y.1 * k * (b * y.2) := by
    rw [hk, Int.mul_assoc, Int.mul_assoc]
    congr 1
    rw [Int.mul_comm y.2 k, ← Int.mul_assoc, ← Int.mul_assoc, Int.mul_comm b k]
  rw [e1, e2]
theorem take_small {ws : W2} {m : Nat} (h : Small ws m) (i : Nat) : Small (ws.take i) m := by
  refine ⟨h.pos, h.lt, fun j x hx => ?_, fun j x hx => ?_, by rw [List.length_take]; exact Nat.le_trans (Nat.min_le_right _ _) h.few⟩
  · rw [List.getElem?_take] at hx
    split at hx
    · exact h.bot j x hx
    · cases hx
  · rw [List.getElem?_take] at hx
    split at hx
    · exact h.top j x hx
    · cases hx
theorem sumOf_m {ws : W2} {m : Nat} (h : Small ws m) : (sumOf ws m).natAbs < 2 ^ 1100 := by
  have a := sum_lt (ws.map fun x => x.1 * ((m : Int) / x.2)) (2 ^ 1060) (fun y hy => by
    obtain ⟨x, hx, rfl⟩ := List.mem_map.mp hy
    obtain ⟨i, hi⟩ := List.mem_iff_getElem?.mp hx
    have t := h.top i x hi
    have b := (h.bot i x hi).1
    have e : ((m : Int) / x.2).natAbs ≤ m := by
      have q0 : 0 ≤ (m : Int) / x.2 := Int.ediv_nonneg (by omega) (by omega)
      have q1 : (m : Int) / x.2 ≤ (m : Int) := Int.ediv_le_self _ (by omega)
      omega
    rw [Int.natAbs_mul, show (2 : Nat) ^ 1060 = 2 ^ 1000 * 2 ^ 60 from by rw [← Nat.pow_add]]
    exact Nat.mul_le_mul (Nat.le_of_lt t) (Nat.le_trans e (Nat.le_of_lt h.lt)))
  rw [List.length_map] at a
  have c : ws.length * 2 ^ 1060 ≤ 2 ^ 12 * 2 ^ 1060 := Nat.mul_le_mul_right _ (Nat.le_trans h.few (by decide))
  rw [← Nat.pow_add] at c
  exact Nat.lt_of_le_of_lt (Nat.le_trans a c) (Nat.pow_lt_pow_right (by decide) (by decide))
def spSum (K : PySem.W.Frag) : Sp := fun vs H Q _ => ∃ (a : Addr) (ws : W2) (m : Nat), vs = [.ref a] ∧ PrsAt K H a ws ∧ Small ws m ∧
  ∀ (H' : Hp) (q : Addr) (t b : Int), Same H H' → IsFr m (sumOf ws m) t b → H' q = some (.tup [.int t, .int b]) → Q (.ref q) H'
section
variable {P : Program} {w : World} {K : PySem.W.Frag} {mg : Str → Option Value} {base : Heap}
theorem scLSum : FnScope ["pairs", "top", "bottom", "one", "other"] ["pairs"] (defScope d_law_sum) := ⟨rfl, rfl, rfl, by decide +kernel, rfl, by decide +kernel, by decide +kernel⟩
theorem ok_lsum {f fL : Addr} {fd fdL : FuncData} (F : Fun K "_law_sum" "_law_sum" d_law_sum f fd) (GL : FnOk P w K mg base CX0 1 fL fdL ["top", "bottom"] spLow) (mL : mg "_law_low" = some (.ref fL)) (kL : PySem.W.keepIn K (.ref fL) = true) (bL : Binds K fdL ["top", "bottom"] []) :
    FnOk P w K mg base CX0 2 f fd ["pairs"] (spSum K) := by
  refine F.ok scLSum (fun vs H Q E h => ?_) (fun cdv A outer s H vs Q E hr h => ?_)
  · obtain ⟨a, _, _, rfl, _⟩ := h
    rfl
  · obtain ⟨a, ws, m, rfl, ⟨qs, ha, lq, hq⟩, sm, kq⟩ := h
    refine ⟨_, pss_cons (ps_asg (pe_tup (pa_cons pe_int (pa_cons pe_int pa_nil))) (pg_tup (by rfl) (pgs_cons (pg_name (i := 1) scLSum.nd rfl (.inl rfl)) (pgs_cons (pg_name (i := 2) scLSum.nd rfl (.inl rfl)) pgs_nil))))
      (pss_cons (ps_for PassesOwn.never rfl (pi_list (pv 0)) (pg_tup (by rfl) (pgs_cons (pg_name (i := 3) scLSum.nd rfl (.inl rfl)) (pgs_cons (pg_name (i := 4) scLSum.nd rfl (.inl rfl)) pgs_nil)))
        (pss_one (ps_asg (pe_call GL hr rfl mL kL bL .nil pass0 (pa_cons (pe_op op_add (pe_op op_mulW (pv 1) (pv 4)) (pe_op op_mulW (pv 3) (pv 2))) (pa_cons (pe_op op_mulW (pv 2) (pv 4)) pa_nil))) (pg_tup (by rfl) (pgs_cons (pg_name (i := 1) scLSum.nd rfl (.inl rfl)) (pgs_cons (pg_name (i := 2) scLSum.nd rfl (.inl rfl)) pgs_nil))))))
      (pss_one (ps_ret (pe_tup (pa_cons (pv 1) (pa_cons (pv 2) pa_nil)))))), ?_⟩
    refine ⟨(by show 2 ≤ sizeLine; decide), fun z hz => ?_⟩
    have s0 : Same H (upd H z (.tup [.int 0, .int 1])) := same1 hz
    refine ⟨z, _, rfl, SqT.of upd_same, rfl, _, _, rfl, _, _, rfl, rfl, ?_⟩
    refine ⟨_, rfl, a, rfl, ⟨_, s0.seq ha⟩, ?_⟩
    refine for_list (K := K) (a := a) (xs := qs.map V.ref) (fun i σ G => ∃ (t b : Int) (v3 v4 : Option V), σ = [some (.ref a), some (.int t), some (.int b), v3, v4] ∧ Same H G ∧ IsFr m (sumOf (ws.take i) m) t b) ⟨0, 1, _, _, rfl, s0, fr_zero⟩ ?_ ?_ ?_
    · rintro i σ G _ ⟨_, _, _, _, _, s1, _⟩
      exact s1.seq ha
    · rintro i x σ G hx ⟨t, b, v3, v4, rfl, s1, f⟩
      rw [List.getElem?_map] at hx
      obtain ⟨q, hqi, rfl⟩ := Option.map_eq_some_iff.mp hx
      have il : i < ws.length := by
        have := (List.getElem?_eq_some_iff.mp hqi).1
        omega
      have hy : ws[i]? = some ws[i] := List.getElem?_eq_getElem il
      have st := take_small sm i
      have tb := Nat.lt_of_le_of_lt (fr_abs sm.pos f) (sumOf_m st)
      have bb : b.natAbs < 2 ^ 60 := Nat.lt_of_le_of_lt (Nat.le_of_dvd sm.pos (fr_dvd f)) sm.lt
      have yb := sm.bot i _ hy
      have yt := sm.top i _ hy
      have yb2 : ws[i].2.natAbs < 2 ^ 60 := Nat.lt_of_le_of_lt (Nat.le_of_dvd sm.pos yb.2) sm.lt
      refine ⟨q, _, rfl, Same.tup s1 (hq i q _ hqi hy), rfl, _, _, rfl, _, _, rfl, rfl, ?_⟩
      refine ⟨_, rfl, _, rfl, _, _, rfl, rfl, wide_mul (a := 1100) (b := 60) tb yb2 (by decide) (by decide) (by decide), _, rfl, _, rfl, _, _, rfl, rfl, wide_mul (a := 1000) (b := 60) yt bb (by decide) (by decide) (by decide), _, _, rfl, rfl, ?_⟩
      refine ⟨_, rfl, _, rfl, _, _, rfl, rfl, wide_mul (a := 60) (b := 60) bb yb2 (by decide) (by decide) (by decide), ?_⟩
      have n1 := pow_le (wide_lt tb yb2) (show 1100 + 60 ≤ 2000 by decide)
      have n2 := pow_le (wide_lt yt bb) (show 1000 + 60 ≤ 2000 by decide)
      refine ⟨_, _, rfl, Int.mul_ne_zero (by have := f.1; omega) (by have := yb.1; omega), pow_le (add_lt n1 n2) (by decide), pow_le (wide_lt bb yb2) (by decide), fun r hr' => ?_⟩
      refine ⟨r, _, rfl, SqT.of upd_same, rfl, _, _, rfl, _, _, rfl, rfl, ?_⟩
      refine ⟨_, _, _, _, rfl, s1.trans (same1 hr'), ?_⟩
      rw [List.take_succ_eq_append_getElem il, sumOf_append, sumOf_cons, show sumOf [] (m : Int) = 0 from rfl, Int.add_zero]
      exact fr_plus f yb.1 yb.2
    · rintro σ G ⟨t, b, v3, v4, rfl, s1, f⟩
      rw [List.length_map, lq, List.take_length] at f
      refine ⟨_, rfl, _, rfl, (by show 2 ≤ sizeLine; decide), fun r hr' => ?_⟩
      exact kq _ r t b (s1.trans (same1 hr')) f upd_same
end
end K12

namespace K12
open PySem PySem.Spec PyProof.Rows L2
/-- what the law tells: stretches of pairs -/
def LTold (K : PySem.W.Frag) (H : Hp) (a : Addr) (told : List (Option Int × W2)) : Prop := ∃ ts : List Addr, SqL K H a (ts.map V.ref) ∧ ts.length = told.length ∧
  ∀ (i : Nat) (t : Addr) (x : Option Int × W2), ts[i]? = some t → told[i]? = some x → ∃ wl, SqT K H t [dv x.1, .ref wl] ∧ PrsAt K H wl x.2
theorem LTold.mono {K : PySem.W.Frag} {H H' : Hp} {a : Addr} {told : List (Option Int × W2)} (h : LTold K H a told) (s : Same H H') : LTold K H' a told := by
  obtain ⟨ts, x, y, z⟩ := h
  refine ⟨ts, s.seq x, y, fun i t w a b => ?_⟩
  obtain ⟨wl, p, q⟩ := z i t w a b
  exact ⟨wl, Same.tup s p, q.mono s⟩
def spLOn (K : PySem.W.Frag) : Sp := fun vs H Q _ => ∃ (a : Addr) (day : Int) (told : List (Option Int × W2)), vs = [.ref a, .int day] ∧ LTold K H a told ∧ Told told ∧ 0 ≤ day ∧
  ∀ (q : Addr) (y : Int × Int), onV told day = some y → SqT K H q [.int y.1, .int y.2] → Q (.ref q) H
section
variable {P : Program} {w : World} {K : PySem.W.Frag} {mg : Str → Option Value} {base : Heap}
theorem scLOn : FnScope ["told", "day", "days", "word"] ["told", "day"] (defScope d_law_on) := ⟨rfl, rfl, rfl, by decide +kernel, rfl, by decide +kernel, by decide +kernel⟩
theorem ok_lon {f : Addr} {fd : FuncData} (F : Fun K "_law_on" "_law_on" d_law_on f fd) (B : TxtB mg) : FnOk P w K mg base CX0 1 f fd ["told", "day"] (spLOn K) := by
  refine F.ok scLOn (fun vs H Q E h => ?_) (fun cdv A outer s H vs Q E hr h => ?_)
  · obtain ⟨a, _, _, rfl, _⟩ := h
    rfl
  · obtain ⟨a, day, told, rfl, ⟨ts, ha, lt, hst⟩, ok, d0, kq⟩ := h
    refine ⟨_, pss_cons (ps_for PassesOwn.never rfl (pi_list (pv 0)) (pg_tup (by rfl) (pgs_cons (pg_name (i := 2) scLOn.nd rfl (.inl rfl)) (pgs_cons (pg_name (i := 3) scLOn.nd rfl (.inl rfl)) pgs_nil)))
        (pss_cons (ps_if (PW.pt (pw_or (pt_cmp (pc_isN (pv 2))) (pw_or1 (pt_cmpR op_lt (pv 1) (pv 2) (nomark _)))))
          (pss_one (ps_ret (pe_ix ix_list (pv 3) (pe_op op_mod (pv 1) (pe_callB call_len_seq (by rfl) B.len PySem.boot_len (pa_cons (pv 3) pa_nil))) (fun _ _ => rfl)))) pss_nil)
        (pss_one (ps_set (i := 1) scLOn.nd rfl (Or.inl rfl) (pe_op op_sub (pv 1) (pv 2))))))
      (pss_one (ps_ret (pe_tup (pa_cons pe_int (pa_cons pe_int pa_nil))))), ?_⟩
    refine ⟨_, rfl, a, rfl, ⟨_, ha⟩, for_list (K := K) (a := a) (xs := ts.map V.ref) (fun i σ G => ∃ (dy : Int) (v2 v3 : Option V), σ = [some (.ref a), some (.int dy), v2, v3] ∧ G = H ∧ i < told.length ∧ 0 ≤ dy ∧ onV (told.drop i) dy = onV told day) ⟨day, _, _, rfl, rfl, ok.pos, d0, rfl⟩ ?_ ?_ ?_⟩
    · rintro i σ G _ ⟨_, _, _, _, e, _⟩
      rw [e]
      exact ha
    · rintro i x σ G hx ⟨dy, v2, v3, rfl, eG, il, y0, eq⟩
      have eG := eG.symm
      subst eG
      rw [List.getElem?_map] at hx
      obtain ⟨t, ht, rfl⟩ := Option.map_eq_some_iff.mp hx
      obtain ⟨⟨d, ws⟩, hxi⟩ : ∃ x, told[i]? = some x := ⟨_, List.getElem?_eq_getElem il⟩
      obtain ⟨wl, q1, qs, h1, h2, h3⟩ := hst i t _ ht hxi
      have l1 := (ok.word i _ hxi).1
      have l1 : 1 ≤ ws.length := l1
      have h2 : qs.length = ws.length := h2
      have ob := ok.open_ i _ hxi
      have dn := fun n e => ok.days i _ n hxi e
      have dr : told.drop i = (d, ws) :: told.drop (i + 1) := by
        rw [List.drop_eq_getElem_cons il, Option.some.inj ((List.getElem?_eq_getElem il).symm.trans hxi)]
      rw [dr] at eq
      have lp : (qs.map V.ref).length = ws.length := by rw [List.length_map, h2]
      have n0 := Int.emod_nonneg dy (show (ws.length : Int) ≠ 0 by omega)
      have n1 := Int.emod_lt_of_pos dy (show (0 : Int) < (ws.length : Int) by omega)
      have hk : (dy % (ws.length : Int)).toNat < ws.length := by omega
      have hk' : (dy % (ws.length : Int)).toNat < qs.length := by omega
      have ret : onV told day = ws[(dy % (ws.length : Int)).toNat]? → Q (.ref (qs[(dy % (ws.length : Int)).toNat])) H := fun e =>
        kq _ _ (e.trans (List.getElem?_eq_getElem hk)) (h3 _ _ _ (List.getElem?_eq_getElem hk') (List.getElem?_eq_getElem hk))
      refine ⟨t, _, rfl, q1, rfl, _, _, rfl, _, _, rfl, rfl, ?_⟩
      refine ⟨_, rfl, _, rfl, if_stop (d := d) (fun e => ?_) (fun n e => ?_)⟩
      · subst e
        refine iteT ⟨_, rfl, _, rfl, _, rfl, wl, _, rfl, .inl h1, _, _, rfl, rfl, (by rw [lp]; omega), ?_⟩
        rw [lp]
        exact ⟨wl, _, _, .ref (qs[(dy % (ws.length : Int)).toNat]), rfl, rfl, h1, at_k n0 (by rw [List.getElem?_map, List.getElem?_eq_getElem hk']; rfl), ret eq.symm⟩
      · subst e
        refine ⟨_, rfl, _, rfl, _, _, rfl, rfl, _, rfl, ?_⟩
        have e2 : onV ((some n, ws) :: told.drop (i + 1)) dy = if dy < n then ws[(dy % (ws.length : Int)).toNat]? else onV (told.drop (i + 1)) (dy - n) := rfl
        rw [e2] at eq
        refine ite2 (fun h => ?_) (fun h => ?_)
        · rw [if_pos (of_decide_eq_true h)] at eq
          refine ⟨_, rfl, _, rfl, _, rfl, wl, _, rfl, .inl h1, _, _, rfl, rfl, (by rw [lp]; omega), ?_⟩
          rw [lp]
          exact ⟨wl, _, _, .ref (qs[(dy % (ws.length : Int)).toNat]), rfl, rfl, h1, at_k n0 (by rw [List.getElem?_map, List.getElem?_eq_getElem hk']; rfl), ret eq.symm⟩
        · have h : ¬ dy < n := fun z => h (decide_eq_true z)
          rw [if_neg h] at eq
          have i1 : i + 1 < told.length := by
            have : i + 1 ≠ told.length := fun z => nomatch (ob.mpr z)
            omega
          exact ⟨_, rfl, _, rfl, _, _, rfl, rfl, dy - n, _, _, rfl, rfl, i1, by omega, eq⟩
    · rintro σ G ⟨_, _, _, _, _, il, _⟩
      rw [List.length_map, lt] at il
      exact absurd il (Nat.lt_irrefl _)
end
end K12

namespace K12
open PySem PySem.Spec PyProof.Rows L2
theorem But.trans {p : Addr} {H H1 H2 : Hp} (a : But p H H1) (b : But p H1 H2) : But p H H2 := fun c o h e => b c o h (a c o h e)
theorem same_but {p : Addr} {H H' : Hp} (s : Same H H') : But p H H' := fun b o _ e => s b o e
theorem WellAt.same {H H' : Hp} {p : Addr} {z : Int} (h : WellAt H p z) (s : Same H H') : WellAt H' p z := by
  obtain ⟨x, y, e, a, b⟩ := h
  exact ⟨x, y, s _ _ e, a, b⟩
/-- pairs as the law draws them -/
def POkN (k : Nat) (y : Int × Int) : Prop := 0 < y.2 ∧ y.2.natAbs ∣ 6 ∧ y.1.natAbs < 2 ^ k ∧ Nat.gcd y.1.natAbs y.2.natAbs = 1
abbrev POk := POkN 20
theorem POkN.up {j k : Nat} {y : Int × Int} (h : POkN j y) (e : j ≤ k) : POkN k y := ⟨h.1, h.2.1, Nat.lt_of_lt_of_le h.2.2.1 (Nat.pow_le_pow_right (by decide) e), h.2.2.2⟩
theorem low_ok {k : Nat} {t b : Int} (b1 : 1 ≤ b) (b3 : b ≤ 3) (ht : t.natAbs < 2 ^ k) : POkN k (lowT t b, lowB t b) := by
  have b0 : b ≠ 0 := by omega
  have hb := lowB_mul t b
  have hd : lowB t b ∣ b := ⟨sg t b, hb.symm⟩
  have h6 : b ∣ 6 := by
    have : b = 1 ∨ b = 2 ∨ b = 3 := by omega
    rcases this with h | h | h <;> subst h <;> decide
  refine ⟨lowB_pos b0, ?_, Nat.lt_of_le_of_lt (lowT_le b0) ht, low_coprime b0⟩
  exact Int.natAbs_dvd_natAbs.mpr (Int.dvd_trans hd h6)
/-- pairs in a list of our own -/
def PrsL (H : Hp) (l : Addr) (ws : W2) : Prop := ∃ qs : List Addr, H l = some (.lst (qs.map V.ref)) ∧ qs.length = ws.length ∧ ∀ (j : Nat) (q : Addr) (y : Int × Int), qs[j]? = some q → ws[j]? = some y → H q = some (.tup [.int y.1, .int y.2])
theorem PrsL.at_ {K : PySem.W.Frag} {H : Hp} {l : Addr} {ws : W2} (h : PrsL H l ws) : PrsAt K H l ws := by
  obtain ⟨qs, a, b, c⟩ := h
  exact ⟨qs, SqL.of a, b, fun j q y h1 h2 => SqT.of (c j q y h1 h2)⟩
def spLWord : Sp := fun vs H Q _ => ∃ (p : Addr) (z most far : Int), vs = [.ref p, .int most, .int far] ∧ WellAt H p z ∧ 0 ≤ z ∧ z < 2 ^ 29 ∧ 0 < most ∧ most ≤ 60 ∧ 0 ≤ far ∧ far ≤ 1 ∧
  ∀ (H' : Hp) (l : Addr) (ws : W2) (z' : Int), But p H H' → H l = none → l ≠ p → WellAt H' p z' → 0 ≤ z' → z' ≤ z + 200 → PrsL H' l ws → 1 ≤ ws.length → (ws.length : Int) ≤ most → (∀ y ∈ ws, POkN 10 y) → Q (.ref l) H'
section
variable {P : Program} {w : World} {K : PySem.W.Frag} {mg : Str → Option Value} {base : Heap}
abbrev lwordN : List Str := ["well", "most", "far", "bottom", "top", "k"]
theorem scLWord : FnScope lwordN ["well", "most", "far"] (defScope d_law_word) := ⟨rfl, rfl, rfl, by decide +kernel, rfl, by decide +kernel, by decide +kernel⟩
theorem ok_lword {f fD fO fL : Addr} {fd fdD fdO fdL : FuncData} (F : Fun K "_law_word" "_law_word" d_law_word f fd) (hrange : mg "range" = none)
    (GD : FnOk P w K mg base CX0 1 fD fdD ["well", "many"] spDraw) (mD : mg "_law_draw" = some (.ref fD)) (kD : PySem.W.keepIn K (.ref fD) = true) (bD : Binds K fdD ["well", "many"] [])
    (GO : FnOk P w K mg base CX0 2 fO fdO ["well", "some"] (spOne K)) (mO : mg "_law_one" = some (.ref fO)) (kO : PySem.W.keepIn K (.ref fO) = true) (bO : Binds K fdO ["well", "some"] [])
    (GL : FnOk P w K mg base CX0 1 fL fdL ["top", "bottom"] spLow) (mL : mg "_law_low" = some (.ref fL)) (kL : PySem.W.keepIn K (.ref fL) = true) (bL : Binds K fdL ["top", "bottom"] []) :
    FnOk P w K mg base CX0 3 f fd ["well", "most", "far"] spLWord := by
  refine F.ok scLWord (fun vs H Q E h => ?_) (fun cdv A outer s H vs Q E hr h => ?_)
  · obtain ⟨p, z, most, far, rfl, _⟩ := h
    rfl
  · obtain ⟨p, z, most, far, rfl, hp, z0, z1, m0, m1, f0, f1, kq⟩ := h
    have r1 : Room 1 _ := hr.mono (by decide)
    refine ⟨_, pss_cons (ps_set (i := 3) scLWord.nd rfl (by first | exact Or.inl rfl | exact Or.inr rfl) (pe_op op_add pe_int (pe_call GD r1 rfl mD kD bD .nil pass0 (pa_cons (pv 0) (pa_cons (pe_call GO hr rfl mO kO bO .nil pass0 (pa_cons (pv 0) (pa_cons (pe_lst (pa_cons pe_int (pa_cons pe_int (pa_cons pe_int pa_nil)))) pa_nil))) pa_nil)))))
      (pss_cons (ps_set (i := 4) scLWord.nd rfl (by first | exact Or.inl rfl | exact Or.inr rfl) (pe_call GO hr rfl mO kO bO .nil pass0 (pa_cons (pv 0) (pa_cons (pe_lst (pa_cons pe_int (pa_cons pe_int (pa_cons pe_int pa_nil)))) pa_nil))))
      (pss_one (ps_ret (pe_lc (own := [("k", 5)]) (g := gName 5) (by rfl) scLWord.nd (pi_range1 (by rfl) hrange (pa_cons (pe_op op_add pe_int (pe_call GD r1 rfl mD kD bD .nil pass0 (pa_cons (pv 0) (pa_cons (pv 1) pa_nil)))) pa_nil)) (blkOk_by (own := [("k", 5)]) (N := lwordN) (sc := defScope d_law_word) (by decide +kernel)) (fun _ _ _ _ _ => pg_name (i := 5) scLWord.nd rfl (.inl rfl)) (fun _ _ _ _ _ => pts_nil)
        (fun _ _ _ _ _ => pe_call GL r1 rfl mL kL bL .nil pass0 (pa_cons (pe_op op_sub (pe_call GD r1 rfl mD kD bD .nil pass0 (pa_cons (pv 0) (pa_cons (pv 4) pa_nil))) (pe_op op_mul (pv 2) (pe_call GD r1 rfl mD kD bD .nil pass0 (pa_cons (pv 0) (pa_cons pe_int pa_nil))))) (pa_cons (pv 3) pa_nil))))))), ?_⟩
    have np : ∀ {G : Hp} {q : Addr} {zz : Int}, WellAt G p zz → G q = none → q ≠ p := fun {G q zz} h hq e => by
      obtain ⟨_, _, e1, _⟩ := h
      rw [e, e1] at hq
      cases hq
    refine ⟨_, rfl, _, rfl, (by show 3 ≤ sizeLine; decide), fun q hq => ?_⟩
    have b1 : But p H (upd H q (.lst [.int 1, .int 1, .int 3])) := same_but (same1 hq)
    refine ⟨p, q, _, z, rfl, hp.same (same1 hq), z0, by omega, upd_same, np hp hq, (by show 0 < 3; decide), (by show 3 < 1000; decide), fun H1 za x bt1 w1 a0 a1 hx => ?_⟩
    obtain ⟨m, rfl, hm⟩ : ∃ m : Int, x = .int m ∧ (m = 1 ∨ m = 3) := by
      have hx : x ∈ [V.int 1, .int 1, .int 3] := hx
      simp only [List.mem_cons, List.not_mem_nil, or_false] at hx
      rcases hx with h | h | h
      · exact ⟨1, h, .inl rfl⟩
      · exact ⟨1, h, .inl rfl⟩
      · exact ⟨3, h, .inr rfl⟩
    refine ⟨p, m, za, rfl, w1, by omega, by omega, a0, by omega, fun H2 d zb bt2 w2 c0 c1 d0 d1 => ?_⟩
    refine ⟨_, _, rfl, rfl, ?_⟩
    have bb : 1 ≤ 1 + d ∧ 1 + d ≤ 3 := by omega
    refine ⟨_, rfl, (by show 3 ≤ sizeLine; decide), fun q2 hq2 => ?_⟩
    have b3 : But p H2 (upd H2 q2 (.lst [.int 2, .int 3, .int 7])) := same_but (same1 hq2)
    refine ⟨p, q2, _, zb, rfl, w2.same (same1 hq2), c0, by omega, upd_same, np w2 hq2, (by show 0 < 3; decide), (by show 3 < 1000; decide), fun H3 zc x2 bt3 w3 e0 e1 hx2 => ?_⟩
    obtain ⟨tp, rfl, htp⟩ : ∃ m : Int, x2 = .int m ∧ 0 < m ∧ m ≤ 7 := by
      have hx2 : x2 ∈ [V.int 2, .int 3, .int 7] := hx2
      simp only [List.mem_cons, List.not_mem_nil, or_false] at hx2
      rcases hx2 with h | h | h
      · exact ⟨2, h, by decide, by decide⟩
      · exact ⟨3, h, by decide, by decide⟩
      · exact ⟨7, h, by decide, by decide⟩
    refine ⟨_, rfl, _, rfl, p, most, zc, rfl, w3, m0, by omega, e0, by omega, fun H4 dm zd bt4 w4 g0 g1 h0 h1 => ?_⟩
    refine ⟨_, _, rfl, rfl, _, rfl, by omega, by omega, fun D hD => ?_⟩
    have Dp := np w4 hD
    have B4 : But p H H4 := (b1.trans bt1).trans (bt2.trans (b3.trans (bt3.trans bt4)))
    refine lc_range (lo := 0) (n := (1 + dm).toNat) (fun i M => ∃ (qs : List Addr) (ws : W2) (zz : Int), M D = some (.lst (qs.map V.ref)) ∧ qs.length = i ∧ ws.length = i ∧ (∀ (j : Nat) (q : Addr) (y : Int × Int), qs[j]? = some q → ws[j]? = some y → M q = some (.tup [.int y.1, .int y.2])) ∧
      (∀ y ∈ ws, POkN 10 y) ∧ WellAt M p zz ∧ 0 ≤ zz ∧ zz ≤ zd + 2 * (i : Int) ∧ But p H4 M) ?_ ?_ ?_
    · exact ⟨[], [], zd, upd_same, rfl, rfl, (fun j q y h _ => by simp at h), (fun y h => nomatch h), w4.same (same1 hD), g0, by omega, same_but (same1 hD)⟩
    · rintro i M hi ⟨qs, ws, zz, eD, lq, lw, hqs, hws, wz, k0, k1, bM⟩
      refine ⟨rfl, ?_⟩
      refine ⟨_, rfl, _, rfl, p, tp, zz, rfl, wz, by omega, by omega, k0, by omega, fun M1 da z2 bA wA n0 n1 da0 da1 => ?_⟩
      refine ⟨_, rfl, _, rfl, p, 3, z2, rfl, wA, by decide, by decide, n0, by omega, fun M2 db z3 bB wB o0 o1 db0 db1 => ?_⟩
      refine ⟨_, _, rfl, rfl, .inl ⟨by omega, by omega⟩, _, _, rfl, rfl, _, rfl, ?_⟩
      have fd : 0 ≤ far * db ∧ far * db ≤ 3 := by
        have : far = 0 ∨ far = 1 := by omega
        rcases this with h | h <;> subst h <;> omega
      have tb : (da - far * db).natAbs < 2 ^ 10 := by omega
      refine ⟨_, 1 + d, rfl, by omega, pow_le tb (by decide), Nat.lt_of_lt_of_le (show (1 + d).natAbs < 2 ^ 20 by omega) (Nat.pow_le_pow_right (by decide) (by decide)), fun q hq => ?_⟩
      have bM2 : But p M M2 := bA.trans bB
      have eD2 : M2 D = some (.lst (qs.map V.ref)) := bM2 _ _ Dp eD
      have Dq : D ≠ q := fun e => by rw [← e, eD2] at hq; cases hq
      have pq := np wB hq
      refine ⟨_, by rw [upd_ne Dq]; exact eD2, (by rw [List.length_map, lq]; exact Nat.lt_of_lt_of_le hi (Nat.le_trans (show (1 + dm).toNat ≤ 60 by omega) (show 60 ≤ sizeLine by decide))), ?_⟩
      refine ⟨qs ++ [q], ws ++ [(lowT (da - far * db) (1 + d), lowB (da - far * db) (1 + d))], z3, by rw [List.map_append]; exact upd_same, by rw [List.length_append, lq]; rfl, by rw [List.length_append, lw]; rfl, fun j q' y h1' h2' => ?_, fun y hy => ?_, ?_, o0, by omega, fun b o hb e => ?_⟩
      · by_cases c : j < qs.length
        · rw [List.getElem?_append_left c] at h1'
          rw [List.getElem?_append_left (by omega)] at h2'
          have e := hqs j q' y h1' h2'
          have qp : q' ≠ p := fun e' => by
            obtain ⟨_, _, e1, _⟩ := wz
            rw [e', e1] at e
            cases e
          have e2 := bM2 _ _ qp e
          rw [upd_ne (fun e' => by rw [e', eD] at e; cases e), upd_ne (ne_of_none e2 hq)]
          exact e2
        · rw [List.getElem?_append_right (by omega)] at h1' h2'
          have c0 : j - qs.length = 0 := by
            have := (List.getElem?_eq_some_iff.mp h1').1
            simp at this
            omega
          rw [c0] at h1'
          rw [show j - ws.length = 0 from by omega] at h2'
          have e1 : q = q' := by simpa using h1'
          have e2 : (lowT (da - far * db) (1 + d), lowB (da - far * db) (1 + d)) = y := by simpa using h2'
          subst e1 e2
          rw [upd_ne (Ne.symm Dq), upd_same]
      · rcases List.mem_append.mp hy with h | h
        · exact hws y h
        · have e : y = (lowT (da - far * db) (1 + d), lowB (da - far * db) (1 + d)) := by simpa using h
          rw [e]
          exact low_ok bb.1 bb.2 tb
      · obtain ⟨x', y', e, u, v⟩ := wB
        exact ⟨x', y', by rw [upd_ne (Ne.symm Dp), upd_ne (Ne.symm pq)]; exact e, u, v⟩
      · have e3 := bM2 _ _ hb (bM _ _ hb e)
        rw [upd_ne (ne_of_none e hD), upd_ne (ne_of_none e3 hq)]
        exact e3
    · rintro M ⟨qs, ws, zz, eD, lq, lw, hqs, hws, wz, k0, k1, bM⟩
      refine kq M D ws zz (B4.trans bM) ?_ Dp wz k0 (by omega) ⟨qs, eD, by omega, hqs⟩ (by omega) (by omega) hws
      cases e : H D with
      | none => rfl
      | some o =>
        have := B4 D o Dp e
        rw [hD] at this
        cases this
end
end K12

namespace K12
open PySem PySem.Spec PyProof.Rows L2
/-! ### what is drawn, beside a well and other lists that may change -/
/-- some list of our own stands at p -/
def LstAt (H : Hp) (p : Addr) : Prop := ∃ xs, H p = some (.lst xs)
theorem WellAt.lst {H : Hp} {p : Addr} {z : Int} (h : WellAt H p z) : LstAt H p := by
  obtain ⟨x, y, e, _⟩ := h
  exact ⟨_, e⟩
/-- all but what N tells stays; what N tells are lists -/
structure ButN (N : Addr → Prop) (H H' : Hp) : Prop where
  lst : ∀ q, N q → LstAt H q
  keep : ∀ b o, ¬ N b → H b = some o → H' b = some o
theorem ButN.ne {N : Addr → Prop} {H H' : Hp} (h : ButN N H H') {q : Addr} {o : HO} (e : H q = some o) (n : ∀ xs, o ≠ .lst xs) : ¬ N q := fun z => by
  obtain ⟨xs, e2⟩ := h.lst q z
  rw [e] at e2
  exact n xs (Option.some.inj e2)
theorem ButN.tup {N : Addr → Prop} {H H' : Hp} (h : ButN N H H') {q : Addr} {xs : List V} (e : H q = some (.tup xs)) : H' q = some (.tup xs) := h.keep q _ (h.ne e (fun _ z => nomatch z)) e
theorem ButN.same {N : Addr → Prop} {H H' : Hp} (l : ∀ q, N q → LstAt H q) (s : Same H H') : ButN N H H' := ⟨l, fun b o _ e => s b o e⟩
theorem ButN.but {N : Addr → Prop} {p : Addr} {H H' : Hp} (l : ∀ q, N q → LstAt H q) (n : N p) (b : But p H H') : ButN N H H' := ⟨l, fun q o h e => b q o (fun z => h (by rw [z]; exact n)) e⟩
theorem ButN.put {N : Addr → Prop} {p : Addr} {H : Hp} {o : HO} (l : ∀ q, N q → LstAt H q) (n : N p) : ButN N H (upd H p o) := ⟨l, fun q u h e => by rw [upd_ne (fun z => h (by rw [z]; exact n))]; exact e⟩
theorem ButN.trans {N : Addr → Prop} {H H1 H2 : Hp} (a : ButN N H H1) (b : ButN N H1 H2) : ButN N H H2 := ⟨a.lst, fun q o n e => b.keep q o n (a.keep q o n e)⟩
/-- a pair at q -/
def PrAt (H : Hp) (q : Addr) (y : Int × Int) : Prop := H q = some (.tup [.int y.1, .int y.2])
/-- pairs in a list of our own, which N doesn't tell -/
def PrsN (N : Addr → Prop) (H : Hp) (l : Addr) (ws : W2) : Prop := ¬ N l ∧ ∃ qs : List Addr, H l = some (.lst (qs.map V.ref)) ∧ All2 (PrAt H) qs ws
theorem PrsN.but {N : Addr → Prop} {H H' : Hp} {l : Addr} {ws : W2} (h : PrsN N H l ws) (b : ButN N H H') : PrsN N H' l ws := by
  obtain ⟨n, qs, e, a⟩ := h
  exact ⟨n, qs, b.keep _ _ n e, a.mono fun q y _ _ r => b.tup r⟩
theorem PrsN.at_ {K : PySem.W.Frag} {N : Addr → Prop} {H : Hp} {l : Addr} {ws : W2} (h : PrsN N H l ws) : PrsAt K H l ws := by
  obtain ⟨n, qs, e, a⟩ := h
  exact ⟨qs, SqL.of e, a.len, fun j q y h1 h2 => SqT.of (a.all j q y h1 h2)⟩
theorem PrsL.prsN {N : Addr → Prop} {H : Hp} {l : Addr} {ws : W2} (h : PrsL H l ws) (n : ¬ N l) : PrsN N H l ws := by
  obtain ⟨qs, e, a, b⟩ := h
  exact ⟨n, qs, e, ⟨a, fun i q y h1 h2 => b i q y h1 h2⟩⟩
theorem PrsN.less {N N' : Addr → Prop} {H : Hp} {l : Addr} {ws : W2} (h : PrsN N H l ws) (f : ∀ q, N' q → N q) : PrsN N' H l ws := ⟨fun z => h.1 (f _ z), h.2⟩
/-- a stretch at t -/
def StN (N : Addr → Prop) (H : Hp) (t : Addr) (x : Option Int × W2) : Prop := ∃ wl, H t = some (.tup [dv x.1, .ref wl]) ∧ PrsN N H wl x.2
theorem StN.but {N : Addr → Prop} {H H' : Hp} {t : Addr} {x : Option Int × W2} (h : StN N H t x) (b : ButN N H H') : StN N H' t x := by
  obtain ⟨wl, e, a⟩ := h
  exact ⟨wl, b.tup e, a.but b⟩
theorem StN.less {N N' : Addr → Prop} {H : Hp} {t : Addr} {x : Option Int × W2} (h : StN N H t x) (f : ∀ q, N' q → N q) : StN N' H t x := by
  obtain ⟨wl, e, a⟩ := h
  exact ⟨wl, e, a.less f⟩
/-- stretches in a list at l -/
def TolL (N : Addr → Prop) (H : Hp) (l : Addr) (told : List (Option Int × W2)) : Prop := ∃ ts : List Addr, H l = some (.lst (ts.map V.ref)) ∧ All2 (StN N H) ts told
def TolN (N : Addr → Prop) (H : Hp) (l : Addr) (told : List (Option Int × W2)) : Prop := ¬ N l ∧ TolL N H l told
theorem TolN.but {N : Addr → Prop} {H H' : Hp} {l : Addr} {told : List (Option Int × W2)} (h : TolN N H l told) (b : ButN N H H') : TolN N H' l told := by
  obtain ⟨n, ts, e, a⟩ := h
  exact ⟨n, ts, b.keep _ _ n e, a.mono fun t x _ _ r => r.but b⟩
theorem TolL.at_ {K : PySem.W.Frag} {N : Addr → Prop} {H : Hp} {l : Addr} {told : List (Option Int × W2)} (h : TolL N H l told) : LTold K H l told := by
  obtain ⟨ts, e, a⟩ := h
  refine ⟨ts, SqL.of e, a.len, fun i t x h1 h2 => ?_⟩
  obtain ⟨wl, e2, r⟩ := a.all i t x h1 h2
  exact ⟨wl, SqT.of e2, r.at_⟩
/-- stretches as the law has them: at most n of them, words of at most k shares, tops below 2 ^ e -/
structure DT (n k e : Nat) (told : List (Option Int × W2)) : Prop where
  ok : Told told
  few : told.length ≤ n
  len : ∀ x ∈ told, x.2.length ≤ k
  prs : ∀ x ∈ told, ∀ y ∈ x.2, POkN e y
  far : ∀ x ∈ told, ∀ n, x.1 = some n → n ≤ 2 ^ 41
structure DHead (k : Nat) (told : List (Option Int × W2)) : Prop where
  word : ∀ x ∈ told, 1 ≤ x.2.length ∧ x.2.length ≤ k
  prs : ∀ x ∈ told, ∀ y ∈ x.2, POkN 10 y
  far : ∀ x ∈ told, ∃ n, x.1 = some n ∧ 1 ≤ n ∧ n ≤ 2 ^ 41
theorem DHead.nil {k : Nat} : DHead k [] := ⟨(fun _ h => nomatch h), (fun _ h => nomatch h), (fun _ h => nomatch h)⟩
theorem DHead.snoc {k : Nat} {told : List (Option Int × W2)} {n : Int} {ws : W2} (h : DHead k told) (n1 : 1 ≤ n) (n2 : n ≤ 2 ^ 41) (l1 : 1 ≤ ws.length) (l2 : ws.length ≤ k) (hp : ∀ y ∈ ws, POkN 10 y) : DHead k (told ++ [(some n, ws)]) := by
  have cs : ∀ {Pr : Option Int × W2 → Prop}, (∀ x ∈ told, Pr x) → Pr (some n, ws) → ∀ x ∈ told ++ [(some n, ws)], Pr x := fun a b x hx => by
    rcases List.mem_append.mp hx with z | z
    · exact a x z
    · rw [List.mem_singleton.mp z]
      exact b
  exact ⟨cs h.word ⟨l1, l2⟩, cs h.prs hp, cs h.far ⟨n, rfl, n1, n2⟩⟩
/-- heads with an end, and one without -/
theorem told_of {k : Nat} {told : List (Option Int × W2)} {ws : W2} (hw : ∀ x ∈ told, 1 ≤ x.2.length ∧ x.2.length ≤ k) (hf : ∀ x ∈ told, ∃ n, x.1 = some n ∧ 1 ≤ n) (few : told.length ≤ 59) (k60 : k ≤ 60) (l1 : 1 ≤ ws.length) (l2 : ws.length ≤ k) : Told (told ++ [(none, ws)]) := by
  have cs : ∀ {Pr : Option Int × W2 → Prop}, (∀ x ∈ told, Pr x) → Pr (none, ws) → ∀ x ∈ told ++ [(none, ws)], Pr x := fun a b x hx => by
    rcases List.mem_append.mp hx with z | z
    · exact a x z
    · rw [List.mem_singleton.mp z]
      exact b
  have le : (told ++ [((none : Option Int), ws)]).length = told.length + 1 := by rw [List.length_append]; rfl
  refine ⟨by rw [le]; omega, by rw [le]; omega, fun i x hx => ?_, fun i x hx => ?_, fun i x n hx e => ?_⟩
  · have := cs (Pr := fun x => 1 ≤ x.2.length ∧ x.2.length ≤ k) hw ⟨l1, l2⟩ x (List.mem_of_getElem? hx)
    omega
  · rw [le]
    by_cases c : i < told.length
    · rw [List.getElem?_append_left c] at hx
      obtain ⟨n, e, _⟩ := hf x (List.mem_of_getElem? hx)
      rw [e]
      exact ⟨(fun z => nomatch z), fun z => absurd z (by omega)⟩
    · have il := (List.getElem?_eq_some_iff.mp hx).1
      rw [le] at il
      have ei : i = told.length := by omega
      subst ei
      rw [List.getElem?_append_right (Nat.le_refl _), Nat.sub_self] at hx
      have : (none, ws) = x := by simpa using hx
      subst this
      exact ⟨fun _ => rfl, fun _ => rfl⟩
  · rcases List.mem_append.mp (List.mem_of_getElem? hx) with z | z
    · obtain ⟨m, e1, m1⟩ := hf x z
      rw [e] at e1
      cases e1
      exact m1
    · rw [List.mem_singleton.mp z] at e
      cases e
theorem DHead.told {n k : Nat} {told : List (Option Int × W2)} {ws : W2} (h : DHead k told) (few : told.length + 1 ≤ n) (n60 : n ≤ 60) (k60 : k ≤ 60) (l1 : 1 ≤ ws.length) (l2 : ws.length ≤ k) (hp : ∀ y ∈ ws, POkN 10 y) : DT n k 10 (told ++ [(none, ws)]) := by
  have cs : ∀ {Pr : Option Int × W2 → Prop}, (∀ x ∈ told, Pr x) → Pr (none, ws) → ∀ x ∈ told ++ [(none, ws)], Pr x := fun a b x hx => by
    rcases List.mem_append.mp hx with z | z
    · exact a x z
    · rw [List.mem_singleton.mp z]
      exact b
  refine ⟨told_of h.word (fun x hx => ?_) (by omega) k60 l1 l2, by rw [List.length_append]; exact few, cs (fun x hx => (h.word x hx).2) l2, cs h.prs hp, cs (fun x hx n e => ?_) (fun n e => nomatch e)⟩
  · obtain ⟨n, a, b, _⟩ := h.far x hx
    exact ⟨n, a, b⟩
  · obtain ⟨m, e1, _, m2⟩ := h.far x hx
    rw [e] at e1
    cases e1
    exact m2
def spLStr : Sp := fun vs H Q _ => ∃ (p : Addr) (z most word long far : Int), vs = [.ref p, .int most, .int word, .int long, .int far] ∧ WellAt H p z ∧ 0 ≤ z ∧ z < 2 ^ 28 ∧ 0 < most ∧ most ≤ 60 ∧ 0 < word ∧ word ≤ 60 ∧ 0 < long ∧ long ≤ 1000000000000 ∧ 0 ≤ far ∧ far ≤ 1 ∧
  ∀ (H' : Hp) (l : Addr) (told : List (Option Int × W2)) (z' : Int), But p H H' → H l = none → WellAt H' p z' → 0 ≤ z' → z' ≤ z + 20000 → TolN (· = p) H' l told → DT most.toNat word.toNat 10 told → Q (.ref l) H'
section
variable {P : Program} {w : World} {K : PySem.W.Frag} {mg : Str → Option Value} {base : Heap}
abbrev lstrN : List Str := ["well", "most", "word", "long", "far", "found", "k"]
theorem scLStr : FnScope lstrN ["well", "most", "word", "long", "far"] (defScope d_law_stretches) := ⟨rfl, rfl, rfl, by decide +kernel, rfl, by decide +kernel, by decide +kernel⟩
theorem ok_lstr {f fD fW : Addr} {fd fdD fdW : FuncData} (F : Fun K "_law_stretches" "_law_stretches" d_law_stretches f fd) (hrange : mg "range" = none)
    (GD : FnOk P w K mg base CX0 1 fD fdD ["well", "many"] spDraw) (mD : mg "_law_draw" = some (.ref fD)) (kD : PySem.W.keepIn K (.ref fD) = true) (bD : Binds K fdD ["well", "many"] [])
    (GW : FnOk P w K mg base CX0 3 fW fdW ["well", "most", "far"] spLWord) (mW : mg "_law_word" = some (.ref fW)) (kW : PySem.W.keepIn K (.ref fW) = true) (bW : Binds K fdW ["well", "most", "far"] []) :
    FnOk P w K mg base CX0 4 f fd ["well", "most", "word", "long", "far"] spLStr := by
  refine F.ok scLStr (fun vs H Q E h => ?_) (fun cdv A outer s H vs Q E hr h => ?_)
  · obtain ⟨p, z, _, _, _, _, rfl, _⟩ := h
    rfl
  · obtain ⟨p, z, most, word, long, far, rfl, hp, z0, z1, m0, m1, w0, w1, l0, l1, f0, f1, kq⟩ := h
    have r1 : Room 1 _ := hr.mono (by decide)
    refine ⟨_, pss_cons (ps_set (i := 5) scLStr.nd rfl (Or.inl rfl) (pe_lst pa_nil))
      (pss_cons (ps_for PassesOwn.never rfl (pi_range1 (by rfl) hrange (pa_cons (pe_call GD r1 rfl mD kD bD .nil pass0 (pa_cons (pv 0) (pa_cons (pv 1) pa_nil))) pa_nil)) (pg_name (i := 6) scLStr.nd rfl (.inl rfl))
        (pss_one (ps_expr (pe_bm PySem.F.plainAttrs_list PySem.F.slot_list_append PySem.F.type_list_append mt_append (pv 5) (pa_cons (pe_tup (pa_cons (pe_op op_add pe_int (pe_call GD r1 rfl mD kD bD .nil pass0 (pa_cons (pv 0) (pa_cons (pv 3) pa_nil)))) (pa_cons (pe_call GW hr rfl mW kW bW .nil pass0 (pa_cons (pv 0) (pa_cons (pv 2) (pa_cons (pv 4) pa_nil)))) pa_nil))) pa_nil)))))
      (pss_one (ps_ret (pe_op op_cat (pv 5) (pe_lst (pa_cons (pe_tup (pa_cons pe_non (pa_cons (pe_call GW hr rfl mW kW bW .nil pass0 (pa_cons (pv 0) (pa_cons (pv 2) (pa_cons (pv 4) pa_nil)))) pa_nil))) pa_nil)))))), ?_⟩
    refine ⟨(by show 0 ≤ sizeLine; decide), fun F hF => ?_⟩
    have nF : F ≠ p := fun e => by
      obtain ⟨_, _, e1, _⟩ := hp
      rw [← e, hF] at e1
      cases e1
    have b0 : But p H (upd H F (.lst [])) := same_but (same1 hF)
    have hF1 : (upd H F (.lst []) : Hp) F = some (.lst []) := upd_same
    have w1' := hp.same (same1 (o := .lst []) hF)
    generalize upd H F (.lst []) = H0 at *
    refine ⟨_, rfl, _, rfl, p, most, z, rfl, w1', m0, by omega, z0, by omega, fun H1 d za bt wa a0 a1 d0 d1 => ?_⟩
    refine ⟨_, rfl, by omega, by omega, ?_⟩
    have hF2 := bt F _ nF hF1
    refine for_range (lo := 0) (n := d.toNat) (fun i σ G => ∃ (told : List (Option Int × W2)) (zz : Int) (v6 : Option V), σ = [some (.ref p), some (.int most), some (.int word), some (.int long), some (.int far), some (.ref F), v6] ∧
      TolL (fun q => q = p ∨ q = F) G F told ∧ told.length = i ∧ DHead word.toNat told ∧ WellAt G p zz ∧ 0 ≤ zz ∧ zz ≤ za + 201 * (i : Int) ∧ But p H G) ⟨[], za, none, rfl, ⟨[], hF2, .nil⟩, rfl, .nil, wa, a0, by omega, b0.trans bt⟩ ?_ ?_
    · rintro i σ G hi ⟨told, zz, v6, rfl, ⟨ts, eF, hts⟩, lt, dh, wz, y0, y1, bG⟩
      refine ⟨_, rfl, .inl ⟨rfl, _, SqL.of eF⟩, _, rfl, _, rfl, p, long, zz, rfl, wz, l0, by omega, y0, by omega, fun G1 dd z2 bA wA n0 n1 d0' d1' => ?_⟩
      refine ⟨_, _, rfl, rfl, ?_⟩
      refine ⟨_, rfl, _, rfl, _, rfl, p, z2, word, far, rfl, wA, n0, by omega, w0, w1, f0, f1, fun G2 wl ws z3 bB hwl nwl wB o0 o1 pw lw1 lw2 hpw => ?_⟩
      have lst0 : ∀ q, (q = p ∨ q = F) → LstAt G q := fun q h => by
        rcases h with h | h
        · rw [h]; exact wz.lst
        · rw [h]; exact ⟨_, eF⟩
      have eF1 := bA F _ nF eF
      have lst1 : ∀ q, (q = p ∨ q = F) → LstAt G1 q := fun q h => by
        rcases h with h | h
        · rw [h]; exact wA.lst
        · rw [h]; exact ⟨_, eF1⟩
      have eF2 := bB F _ nF eF1
      have lst2 : ∀ q, (q = p ∨ q = F) → LstAt G2 q := fun q h => by
        rcases h with h | h
        · rw [h]; exact wB.lst
        · rw [h]; exact ⟨_, eF2⟩
      have k02 : ButN (fun q => q = p ∨ q = F) G G2 := (ButN.but lst0 (.inl rfl) bA).trans (ButN.but lst1 (.inl rfl) bB)
      have nwF : wl ≠ F := fun e => by rw [e, eF1] at hwl; cases hwl
      have pn : PrsN (fun q => q = p ∨ q = F) G2 wl ws := pw.prsN (fun h => h.elim nwl nwF)
      refine ⟨(by show 2 ≤ sizeLine; decide), fun t ht => ?_⟩
      have s3 : Same G2 (upd G2 t (.tup [.int (1 + dd), .ref wl])) := same1 ht
      have et : (upd G2 t (.tup [.int (1 + dd), .ref wl]) : Hp) t = some (.tup [.int (1 + dd), .ref wl]) := upd_same
      generalize upd G2 t (.tup [.int (1 + dd), .ref wl]) = G3 at *
      have eF3 := s3 _ _ eF2
      have lst3 : ∀ q, (q = p ∨ q = F) → LstAt G3 q := fun q h => by
        obtain ⟨xs, e⟩ := lst2 q h
        exact ⟨xs, s3 _ _ e⟩
      have k23 : ButN (fun q => q = p ∨ q = F) G2 G3 := ButN.same lst2 s3
      refine ⟨F, _, _, rfl, rfl, eF3, (by rw [List.length_map, hts.len, lt]; exact Nat.lt_of_lt_of_le hi (Nat.le_trans (show d.toNat ≤ 60 by omega) (show 60 ≤ sizeLine by decide))), ?_⟩
      have k34 : ButN (fun q => q = p ∨ q = F) G3 (upd G3 F (.lst (ts.map V.ref ++ [.ref t]))) := ButN.put lst3 (.inr rfl)
      refine ⟨told ++ [(some (1 + dd), ws)], z3, _, rfl, ⟨ts ++ [t], by rw [List.map_append]; exact upd_same, ((hts.mono fun t x _ _ r => r.but (k02.trans (k23.trans k34))).snoc ⟨wl, k34.tup et, pn.but (k23.trans k34)⟩)⟩, by rw [List.length_append, lt]; rfl, dh.snoc (by omega) (by omega) lw1 (by omega) hpw, ?_, o0, by omega, fun b o hb e => ?_⟩
      · obtain ⟨x', y', e, u, v⟩ := wB
        exact ⟨x', y', by rw [upd_ne (Ne.symm nF)]; exact s3 _ _ e, u, v⟩
      · rw [upd_ne (ne_of_none e hF)]
        exact s3 _ _ (bB b o hb (bA b o hb (bG b o hb e)))
    · rintro σ G ⟨told, zz, v6, rfl, ⟨ts, eF, hts⟩, lt, dh, wz, y0, y1, bG⟩
      refine ⟨_, rfl, _, rfl, _, rfl, _, rfl, p, zz, word, far, rfl, wz, y0, by omega, w0, w1, f0, f1, fun G2 wl ws z3 bB hwl nwl wB o0 o1 pw lw1 lw2 hpw => ?_⟩
      have lst1 : ∀ q, (q = p ∨ q = F) → LstAt G q := fun q h => by
        rcases h with h | h
        · rw [h]; exact wz.lst
        · rw [h]; exact ⟨_, eF⟩
      have eF2 := bB F _ nF eF
      have k12 : ButN (fun q => q = p ∨ q = F) G G2 := ButN.but lst1 (.inl rfl) bB
      have nwF : wl ≠ F := fun e => by rw [e, eF] at hwl; cases hwl
      have lst2 : ∀ q, (q = p ∨ q = F) → LstAt G2 q := fun q h => by
        rcases h with h | h
        · rw [h]; exact wB.lst
        · rw [h]; exact ⟨_, eF2⟩
      have pn : PrsN (fun q => q = p ∨ q = F) G2 wl ws := pw.prsN (fun h => h.elim nwl nwF)
      refine ⟨(by show 2 ≤ sizeLine; decide), fun t ht => ⟨(by show 1 ≤ sizeLine; decide), fun D hD => ?_⟩⟩
      have s3 : Same G2 (upd G2 t (.tup [.non, .ref wl])) := same1 ht
      have et : (upd G2 t (.tup [.non, .ref wl]) : Hp) t = some (.tup [.non, .ref wl]) := upd_same
      generalize upd G2 t (.tup [.non, .ref wl]) = G3 at *
      have s4 : Same G3 (upd G3 D (.lst [.ref t])) := same1 hD
      have eD : (upd G3 D (.lst [.ref t]) : Hp) D = some (.lst [.ref t]) := upd_same
      generalize upd G3 D (.lst [.ref t]) = G4 at *
      have eF4 := s4 _ _ (s3 _ _ eF2)
      refine ⟨F, D, _, _, rfl, rfl, eF4, eD, (by rw [List.length_map, hts.len, lt]; exact Nat.le_trans (show d.toNat + 1 ≤ 61 by omega) (show 61 ≤ sizeLine by decide)), fun R hR => ?_⟩
      have s5 : Same G4 (upd G4 R (.lst (ts.map V.ref ++ [.ref t]))) := same1 hR
      have eR : (upd G4 R (.lst (ts.map V.ref ++ [.ref t])) : Hp) R = some (.lst (ts.map V.ref ++ [.ref t])) := upd_same
      generalize upd G4 R (.lst (ts.map V.ref ++ [.ref t])) = G5 at *
      have s25 := s3.trans (s4.trans s5)
      have k25 : ButN (fun q => q = p ∨ q = F) G2 G5 := ButN.same lst2 s25
      have all : All2 (StN (fun q => q = p ∨ q = F) G5) (ts ++ [t]) (told ++ [(none, ws)]) := (hts.mono fun t x _ _ r => r.but (k12.trans k25)).snoc ⟨wl, s5 _ _ (s4 _ _ et), pn.but k25⟩
      refine kq G5 R (told ++ [(none, ws)]) z3 (bG.trans (bB.trans (same_but s25))) ?_ (wB.same s25) o0 (by omega) ⟨fun e => (by
        obtain ⟨_, _, e1, _⟩ := wB
        have e2 := s4 _ _ (s3 _ _ e1)
        rw [← e, hR] at e2
        cases e2), ts ++ [t], by rw [List.map_append]; exact eR, all.mono fun t x _ _ r => r.less (fun q h => .inl h)⟩ (dh.told (by omega) (by omega) (by omega) lw1 (by omega) hpw)
      have nR : R ≠ p := fun e => by
        obtain ⟨_, _, e1, _⟩ := wB
        have e2 := s4 _ _ (s3 _ _ e1)
        rw [← e, hR] at e2
        cases e2
      cases e : H R with
      | none => rfl
      | some o =>
        have := s4 _ _ (s3 _ _ (bB _ _ nR (bG _ _ nR e)))
        rw [hR] at this
        cases this
end
end K12

namespace K12
open PySem PySem.Spec PyProof.Rows L2
/-! ### set(l) of a list of ints -/
abbrev emS (w : World) : Obj := { cls := .type "set", dict := none, data := .set #[] 0 (.fresh 0 0 (!w.params.followText "set-order")) }
section
variable {P : Program} {w : World} {A : Around} {E : Value → Shared → Prop} {s : Shared}
set_option maxRecDepth 100000 in
set_option maxHeartbeats 3200000 in
theorem call_set_lstI {l : Addr} {items : Array Value} (ns : List Int) {Q : Value → Shared → Prop} (hh : A.handled = none) (hl : s.heap.IsList l items) (hit : IntsAre items.toList ns) (hb : ns.length + 1 < scanBound)
    (h : ∀ (h' : Heap) (tk c : Nat), SetR w h' s.heap.objs.size (fun j => decide (j ∈ ns)) c → c ≤ ns.length → (∀ b o, s.heap.get? b = some o → h'.get? b = some o) → Q (.ref s.heap.objs.size) { s with heap := h', toks := tk }) :
    wpAny (model P w) A (call (.type "set") [.ref l]) Q E s := by
  have hisz : items.size = ns.length := by
    have q := IntsAre.length hit
    rw [Array.length_toList] at q
    exact q
  obtain ⟨c, tl, hmro⟩ := F.called_set.mro
  have hmade := F.called_set.made
  have hsub := F.called_set.sub
  refine wpAny_call (codeAny_of_tree ?_)
  show wpAny _ _ (callAny (.type "set") _) _ _ _
  refine wpAny_pure ⟨Code.quiet_builtin _ (by decide +kernel), codeAny_builtin F.entry_type_call ?_⟩
  rw [Around.under_plain (weight_type_call_type "set" [.ref l] []) rfl]
  have h1 := F.called_set.notType
  have h2 := F.called_set.canCreate
  have hct := F.typeCall_set_1 (.ref l)
  repeat (any_goals (first | assumption | wp_step))

  refine codeAny_mono (code_set_led1 (.ref l) (E := E) (Q₁ := fun obj s₁ => obj = .ref s.heap.objs.size ∧ s₁ = { s with heap := s.heap.push (emS w) }) ⟨rfl, rfl⟩) fun r s₁ hr => ?_
  cases r with
  | error e => exact hr
  | ok fl =>
    cases fl with
    | ret obj =>
      obtain ⟨rfl, rfl⟩ := hr
      have hS : (s.heap.push (emS w)).get? s.heap.objs.size = some (emS w) := Heap.get?_push_size _ rfl
      have hT : Shared.TypeIs { s with heap := s.heap.push (emS w) } (.ref s.heap.objs.size) "set" := ⟨_, hS, rfl⟩
      have hli := F.called_set.init.lookup
      have hbi := F.called_set.init.bind (.ref s.heap.objs.size)
      repeat (any_goals (first | assumption | wp_step))

      refine codeAny_mono (codeAny_call_builtin (R := wants (fun r s₂ => r = .none ∧ ∃ h' tk c, s₂ = { s with heap := h', toks := tk } ∧ SetR w h' s.heap.objs.size (fun j => decide (j ∈ ns)) c ∧ c ≤ ns.length ∧
          (∀ b o, s.heap.get? b = some o → h'.get? b = some o)) E) F.called_set.init.plain F.entry_set_init (check_set_init_1 hT ?_)) fun r₂ s₂ hr₂ => ?_
      · obtain ⟨ol, hol, hcl, nl, hdl⟩ := hl
        obtain ⟨ocls, odict, odata, oslots⟩ := ol
        simp only at hcl hdl
        subst hcl; subst hdl
        have hol' : (s.heap.push (emS w)).get? l = some { cls := .type "list", dict := odict, data := .seq items nl, slots := oslots } := Heap.get?_push_of_some _ hol
        have hsls := F.sub_list_set
        have hslf := F.sub_list_frozenset
        have hne : (Value.type "list" == Value.type "dict") = false := by decide
        have hl1 : (s.heap.push (emS w)).IsList l items := ⟨_, hol', rfl, nl, rfl⟩
        unfold Builtin.«set.__init__» noKeywords Builtin.Frozenset.updateFrom
        generalize hPI : pyIter = PI
        wp_walk
        subst hPI

        refine wpAny_pyIter_list hl1 ?_
        refine wpAny_bind (wpAny_runValue ?_)
        have hlS : l < s.heap.objs.size := Heap.lt_size hol
        have hh3 : A.in1.in1.in1.handled = none := by simp [hh]
        have hz1 : (s.heap.push (emS w)).objs.size = s.heap.objs.size + 1 := Heap.size_push ..
        have hneI : l ≠ (s.heap.push (emS w)).objs.size := by
          rw [Heap.size_push]; exact Nat.ne_of_lt (Nat.lt_succ_of_lt hlS)
        have hSf : s.heap.objs.size ∉ [(s.heap.push (emS w)).objs.size, l] := by
          rw [Heap.size_push]; simp only [List.mem_cons, List.mem_singleton, List.not_mem_nil, or_false, not_or]
          exact ⟨Nat.ne_of_lt (Nat.lt_succ_self _), Nat.ne_of_gt hlS⟩
        have hval : ∀ (i : Nat) (v : Value), items[i]? = some v → ∃ k t, ns[i]? = some k ∧ v = .int k t := fun i v hv => by
          have hi : i < ns.length := by rw [← hisz]; exact (Array.getElem?_eq_some_iff.mp hv).1
          obtain ⟨t, e⟩ := PyProof.Rows.IntsAre.int_at hit i v (by rw [Array.getElem?_toList]; exact hv)
          refine ⟨ns[i], t, List.getElem?_eq_getElem hi, ?_⟩
          rw [e, List.getD_eq_getElem?_getD, List.getElem?_eq_getElem hi] <;> rfl
        refine set_update_ints ((Walks.list hh3 _ l hneI items).toS) s.heap.objs.size
          hSf ns hisz hb hval (items.size - 0) 0 _ (by omega) (Nat.zero_le _)
          ⟨⟨_, Heap.get?_push_size _ rfl, rfl, rfl⟩, (hl1.push _)⟩ ?hS0 ?hR
        case hS0 =>
          have hget : ((s.heap.push (emS w)).push { cls := .type "list_iterator", data := .fields #[.ref l, .int 0 0] }).get? s.heap.objs.size
              = some (emS w) := Heap.get?_push_of_some _ hS
          exact ⟨0, Nat.le_refl 0, setR_new_at hget⟩
        case hR =>
          intro s' c' hm hc' hS'
          obtain ⟨h', g2, d', tk', os'⟩ := s'
          have eg : g2 = s.gens := hm.gens
          have ed : d' = s.drawn := hm.drawn
          have eo : os' = s.os := hm.os
          subst eg; subst ed; subst eo
          show wpAny _ _ _ _ _ _
          refine wpAny_pure ?_
          show wpAny _ _ (ret Value.none) _ _ _
          rw [hisz] at hc'
          refine wpAny_pure ⟨rfl, h', tk', c', rfl, hS', hc', fun b o e => ?_⟩
          have hb0 : b < s.heap.objs.size := Heap.lt_size e
          have hb1 : b ≠ s.heap.objs.size := Nat.ne_of_lt hb0
          have hb2 : b ≠ (s.heap.push (emS w)).objs.size := by
            rw [Heap.size_push]; exact Nat.ne_of_lt (Nat.lt_succ_of_lt hb0)
          exact hm.heap b o (by simp only [List.mem_cons, List.mem_singleton, List.not_mem_nil, or_false, not_or]; exact ⟨hb1, hb2⟩) (Heap.get?_push_of_some _ (Heap.get?_push_of_some _ e))

      · cases r₂ with
        | error e => exact hr₂
        | ok fl₂ =>
          cases fl₂ with
          | ret r =>
            obtain ⟨rfl, h', tk, c', rfl, hS', hc', hk'⟩ := hr₂
            repeat (any_goals (first | assumption | wp_step))
            exact h _ _ _ hS' hc' hk'
          | _ => exact hr₂.elim
    | _ => exact hr.elim

end
/-- the set of what a list of ints holds -/
def rSetL (K : PySem.W.Frag) (w : World) : List V → Hp → VK → Prop := fun vs H Q => ∃ (l : Addr) (ns : List Int), vs = [V.ref l] ∧ SqL K H l (ns.map V.int) ∧ ns.length < 1000 ∧
  ∀ (p : Addr) (c : Nat), H p = none → c ≤ ns.length → Q (.ref p) (upd H p (SetO w p (fun j => decide (j ∈ ns)) c))
theorem cr_setL {X : Cx} (hc : X.calm = true) : CallR X (.type "set") (rSetL X.K X.w) := by
  intro pins s σ H vs us Q I r h
  obtain ⟨l, ns, rfl, hl, few, q⟩ := h
  obtain ⟨its, rv, pl, hz⟩ := I.list hl
  rw [Vals.ref1 r]
  refine call_set_lstI ns (I.ok.hd hc) pl.isList (by simpa using ints_of_vals rv) (by unfold scanBound; omega) fun h' tk c R hcn k => ?_
  have hn := I.hok.fresh (Nat.le_refl s.heap.objs.size)
  exact ⟨.ref _, upd H s.heap.objs.size (SetO X.w s.heap.objs.size (fun j => decide (j ∈ ns)) c), I.laid (t' := tk) k (Nat.le_refl _) (setO_new R), rfl, q _ c hn hcn⟩
end K12

namespace K12
open PySem PySem.Spec PyProof.Rows L2
/-! ### two lists of spans side by side -/
def minO : Option Int → Option Int → Option Int
  | none, b => b
  | a, none => a
  | some x, some y => some (if y < x then y else x)
def spSooner : Sp := fun vs H Q _ => ∃ a b : Option Int, vs = [dv a, dv b] ∧ Q (dv (minO a b)) H
def stopOf (told : List (Option Int × W2)) (i : Nat) : Option Int := match told[i]? with
  | some x => x.1.map fun n => bAt told i + n
  | none => none
/-- a row: its begin, its stop, the numbers of the two spans -/
structure RowV where
  b : Int
  e : Option Int
  h : Nat
  t : Nat
structure AtDay (told : List (Option Int × W2)) (i : Nat) (b : Int) : Prop where
  lt : i < told.length
  from_ : bAt told i ≤ b
  till : ∀ s, stopOf told i = some s → b < s
structure RowOk (A B : List (Option Int × W2)) (r : RowV) : Prop where
  pos : 0 ≤ r.b
  one : AtDay A r.h r.b
  two : AtDay B r.t r.b
  stop : r.e = minO (stopOf A r.h) (stopOf B r.t)
structure RowsOk (A B : List (Option Int × W2)) (rs : List RowV) : Prop where
  row : ∀ r ∈ rs, RowOk A B r
  head : ∀ r, rs[0]? = some r → r.b = 0
  next : ∀ (i : Nat) (r r' : RowV), rs[i]? = some r → rs[i + 1]? = some r' → r.e = some r'.b
def RowAt (K : PySem.W.Frag) (H : Hp) (ss us : List Addr) (q : Addr) (r : RowV) : Prop := ∃ s u, ss[r.h]? = some s ∧ us[r.t]? = some u ∧ SqT K H q [.int r.b, dv r.e, .ref s, .ref u]
theorem RowAt.mono {K : PySem.W.Frag} {H H' : Hp} {ss us : List Addr} {q : Addr} {r : RowV} (h : RowAt K H ss us q r) (s : Same H H') : RowAt K H' ss us q r := by
  obtain ⟨a, b, c, d, e⟩ := h
  exact ⟨a, b, c, d, Same.tup s e⟩
theorem Keep.row {K : PySem.W.Frag} {H H' : Hp} {ss us : List Addr} {q : Addr} {r : RowV} (h : RowAt K H ss us q r) (s : Keep H H') : RowAt K H' ss us q r := by
  obtain ⟨a, b, c, d, e⟩ := h
  exact ⟨a, b, c, d, s.tup e⟩
/-- spans of what is told, in a list -/
structure Spans (K : PySem.W.Frag) (C : Addr) (H : Hp) (l : Addr) (ss : List Addr) (told : List (Option Int × W2)) : Prop where
  l : SqL K H l (ss.map V.ref)
  len : ss.length = told.length
  at_ : ∀ (i : Nat) (s : Addr), ss[i]? = some s → SpanOf K C H told i s
  ok : Told told
theorem Spans.mono {K : PySem.W.Frag} {C : Addr} {H H' : Hp} {l : Addr} {ss : List Addr} {told : List (Option Int × W2)} (h : Spans K C H l ss told) (s : Same H H') : Spans K C H' l ss told :=
  ⟨s.seq h.l, h.len, fun i x hx => (h.at_ i x hx).mono s, h.ok⟩
/-- the span of a number, with its parts -/
theorem Spans.get {K : PySem.W.Frag} {C : Addr} {H : Hp} {l : Addr} {ss : List Addr} {told : List (Option Int × W2)} (h : Spans K C H l ss told) {i : Nat} (hi : i < told.length) :
    ∃ s wa, ss[i]? = some s ∧ (ss.map V.ref)[i]? = some (.ref s) ∧ SqT K H s [.int (bAt told i), dv (stopOf told i), .ref wa] := by
  have hs : i < ss.length := by rw [h.len]; exact hi
  have e : ss[i]? = some ss[i] := List.getElem?_eq_getElem hs
  obtain ⟨x, hx, wa, q, _⟩ := h.at_ i _ e
  refine ⟨ss[i], wa, e, by rw [List.getElem?_map, e]; rfl, ?_⟩
  unfold stopOf
  rw [hx]
  exact q
theorem AtDay.next {told : List (Option Int × W2)} (ok : Told told) {i : Nat} {b s : Int} (h : AtDay told i b) (e : stopOf told i = some s) : AtDay told (i + 1) s := by
  have lt0 := h.lt
  have hx : told[i]? = some told[i] := List.getElem?_eq_getElem lt0
  have e1 := e
  unfold stopOf at e1
  rw [hx] at e1
  obtain ⟨n, en, rfl⟩ := Option.map_eq_some_iff.mp e1
  have lt : i + 1 < told.length := by
    have := (ok.open_ i _ hx)
    have h2 : i + 1 ≠ told.length := fun z => by
      have := this.mpr z
      rw [en] at this
      cases this
    have := h.lt
    omega
  have nx := bAt_next hx
  rw [en] at nx
  refine ⟨lt, by rw [nx]; exact Int.le_refl _, fun s2 e2 => ?_⟩
  have hy : told[i + 1]? = some told[i + 1] := List.getElem?_eq_getElem lt
  unfold stopOf at e2
  rw [hy] at e2
  obtain ⟨m, em, rfl⟩ := Option.map_eq_some_iff.mp e2
  have := ok.days _ _ m hy em
  rw [nx]
  show bAt told i + n < bAt told i + n + m
  omega
theorem dv_eq (a b : Option Int) : decide (dv a = dv b) = decide (a = b) := by
  refine decide_eq_decide.mpr ⟨fun h => ?_, fun h => by rw [h]⟩
  cases a with
  | none => cases b with
    | none => rfl
    | some y => cases h
  | some x => cases b with
    | none => cases h
    | some y =>
      have h : V.int x = V.int y := h
      cases h
      rfl
theorem dv_scal (a b : Option Int) : scal (dv a) (dv b) = true := by cases a <;> cases b <;> rfl
theorem AtDay.stay {told : List (Option Int × W2)} {i : Nat} {b x : Int} (h : AtDay told i b) (l : b ≤ x) (n : ∀ s, stopOf told i = some s → x < s) : AtDay told i x := ⟨h.lt, Int.le_trans h.from_ l, n⟩
def spBeside (K : PySem.W.Frag) (C : Addr) : Sp := fun vs H Q _ => ∃ (a b : Addr) (ss us : List Addr) (A B : List (Option Int × W2)), vs = [.ref a, .ref b] ∧ Spans K C H a ss A ∧ Spans K C H b us B ∧
  ∀ (H' : Hp) (R : Addr) (qs : List Addr) (rs : List RowV), Same H H' → SqL K H' R (qs.map V.ref) → All2 (RowAt K H' ss us) qs rs → RowsOk A B rs → 1 ≤ rs.length → (∀ r, rs[rs.length - 1]? = some r → r.e = none) → Q (.ref R) H'
def restOf (n : Nat) : L2.St → Nat
  | [_, _, _, some (.int h), some (.int t), _, _, _, _] => (n : Int).toNat - (h + t).toNat
  | _ => 0
section
variable {P : Program} {w : World} {K : PySem.W.Frag} {mg : Str → Option Value} {base : Heap}
theorem scSooner : FnScope ["one", "other"] ["one", "other"] (defScope d_sooner) := ⟨rfl, rfl, rfl, by decide +kernel, rfl, by decide +kernel, by decide +kernel⟩
theorem ok_sooner {f : Addr} {fd : FuncData} (F : Fun K "sooner" "sooner" d_sooner f fd) (hmin : mg "min" = none) : FnOk P w K mg base CX0 1 f fd ["one", "other"] spSooner := by
  refine F.ok scSooner (fun vs H Q E h => ?_) (fun cdv A outer s H vs Q E hr h => ?_)
  · obtain ⟨_, _, rfl, _⟩ := h
    rfl
  · obtain ⟨a, b, rfl, q⟩ := h
    refine ⟨_, pss_cons (ps_if (PW.pt (pw_or (pt_cmp (pc_isN (pv 0))) (pw_or1 (pt_cmp (pc_isN (pv 1)))))) (pss_one (ps_ret (pe_ifExp (pt_cmp (pc_isN (pv 0))) (pv 1) (pv 0)))) pss_nil)
      (pss_one (ps_ret (pe_callB (call_min2 rfl) (by rfl) hmin (by decide +kernel) (pa_cons (pv 0) (pa_cons (pv 1) pa_nil))))), ?_⟩
    refine ⟨_, rfl, _, rfl, if_stop (d := a) (fun e => ?_) (fun x e => ?_)⟩
    · subst e
      refine iteT ⟨_, rfl, _, rfl, if_stop (d := none) (fun _ => ⟨_, rfl, q⟩) (fun _ z => nomatch z)⟩
    · subst e
      refine ⟨_, rfl, _, rfl, if_stop (d := b) (fun e => ?_) (fun y e => ?_)⟩
      · subst e
        exact ⟨_, rfl, _, rfl, if_stop (d := some x) (fun z => nomatch z) (fun _ _ => ⟨_, rfl, q⟩)⟩
      · subst e
        exact ⟨_, rfl, _, rfl, x, y, rfl, q⟩
abbrev besN : List Str := ["one", "other", "rows", "here", "there", "begin", "mine", "theirs", "stop"]
theorem scBeside : FnScope besN ["one", "other"] (defScope d_beside) := ⟨rfl, rfl, rfl, by decide +kernel, rfl, by decide +kernel, by decide +kernel⟩
theorem ok_beside {f f1 C : Addr} {fd fd1 : FuncData} (F : Fun K "beside" "beside" d_beside f fd) (A1 : At P w K mg base CX0 1 "sooner" ["one", "other"] spSooner f1 fd1) : FnOk P w K mg base CX0 2 f fd ["one", "other"] (spBeside K C) := by
  refine F.ok scBeside (fun vs H Q E h => ?_) (fun cdv A outer s H vs Q E hr h => ?_)
  · obtain ⟨_, _, _, _, _, _, rfl, _⟩ := h
    rfl
  · obtain ⟨a, b, ss, us, A', B', rfl, hA, hB, q⟩ := h
    refine ⟨_, pss_cons (ps_set (i := 2) scBeside.nd rfl (Or.inl rfl) (pe_lst pa_nil))
      (pss_cons (ps_asg3 pe_int (pg_name (i := 3) scBeside.nd rfl (.inl rfl)) (pg_name (i := 4) scBeside.nd rfl (.inl rfl)) (pg_name (i := 5) scBeside.nd rfl (.inl rfl)))
      (pss_cons (ps_while PassesOwn.never (pt_cmp (pc_notN (pv 5)))
        (pss_cons (ps_par (i := 6) (j := 7) rfl scBeside.nd rfl rfl (by decide) rfl rfl (pa_cons (pe_ix ix_list (pv 0) (pv 3) (fun _ _ => rfl)) (pa_cons (pe_ix ix_list (pv 1) (pv 4) (fun _ _ => rfl)) pa_nil)) (by rfl))
        (pss_cons (ps_set (i := 8) scBeside.nd rfl (Or.inl rfl) (pe_call A1.G hr rfl A1.m A1.k A1.b .nil pass0 (pa_cons (pe_ix ix_tup (pv 6) pe_int (fun _ _ => rfl)) (pa_cons (pe_ix ix_tup (pv 7) pe_int (fun _ _ => rfl)) pa_nil))))
        (pss_cons (ps_expr (pe_bm PySem.F.plainAttrs_list PySem.F.slot_list_append PySem.F.type_list_append mt_append (pv 2) (pa_cons (pe_tup (pa_cons (pv 5) (pa_cons (pv 8) (pa_cons (pv 6) (pa_cons (pv 7) pa_nil))))) pa_nil)))
        (pss_cons (ps_set (i := 3) scBeside.nd rfl (Or.inl rfl) (pe_ifExp (pt_cmpR op_eq (pe_ix ix_tup (pv 6) pe_int (fun _ _ => rfl)) (pv 8) (nomark _)) (pe_op op_add (pv 3) pe_int) (pv 3)))
        (pss_cons (ps_set (i := 4) scBeside.nd rfl (Or.inl rfl) (pe_ifExp (pt_cmpR op_eq (pe_ix ix_tup (pv 7) pe_int (fun _ _ => rfl)) (pv 8) (nomark _)) (pe_op op_add (pv 4) pe_int) (pv 4)))
        (pss_one (ps_set (i := 5) scBeside.nd rfl (Or.inl rfl) (pv 8)))))))))
      (pss_one (ps_ret (pv 2))))), ?_⟩
    refine ⟨(by show 0 ≤ sizeLine; decide), fun R hR => ?_⟩
    have s0 : Same H (upd H R (.lst [])) := same1 hR
    have fA := hA.ok.few
    have fB := hB.ok.few
    refine while_by (fun σ G => ∃ (h t : Nat) (bo : Option Int) (v6 v7 v8 : Option V) (qs : List Addr) (rs : List RowV), σ = [some (.ref a), some (.ref b), some (.ref R), some (.int (h : Int)), some (.int (t : Int)), some (dv bo), v6, v7, v8] ∧ Same H G ∧
        G R = some (.lst (qs.map V.ref)) ∧ All2 (RowAt K G ss us) qs rs ∧ RowsOk A' B' rs ∧ rs.length ≤ h + t ∧ h ≤ A'.length ∧ t ≤ B'.length ∧
        (∀ x, bo = some x → 0 ≤ x ∧ AtDay A' h x ∧ AtDay B' t x ∧ (rs = [] → x = 0) ∧ (∀ r, rs[rs.length - 1]? = some r → r.e = some x)) ∧ (bo = none → 1 ≤ rs.length ∧ ∀ r, rs[rs.length - 1]? = some r → r.e = none))
      (fun σ _ => restOf (A'.length + B'.length) σ) ?_ ?_ ?_
    · have z : ∀ {T : List (Option Int × W2)}, Told T → AtDay T 0 0 := fun {T} ok => ⟨ok.pos, by rw [bAt_zero]; exact Int.le_refl _, fun s e => by
        have p0 := ok.pos
        have hx : T[0]? = some (T[0]'p0) := List.getElem?_eq_getElem p0
        unfold stopOf at e
        rw [hx] at e
        obtain ⟨n, en, rfl⟩ := Option.map_eq_some_iff.mp e
        have := ok.days _ _ n hx en
        rw [bAt_zero]
        omega⟩
      refine ⟨0, 0, some 0, none, none, none, [], [], rfl, s0, upd_same, .nil, ⟨(fun _ h => nomatch h), fun r h => by simp at h, fun i r r' h => by simp at h⟩, Nat.le_refl _, Nat.zero_le _, Nat.zero_le _, fun x e => ?_, fun e => nomatch e⟩
      cases e
      exact ⟨Int.le_refl _, z hA.ok, z hB.ok, fun _ => rfl, fun r h => by simp at h⟩
    · rintro σ G ⟨h, t, bo, v6, v7, v8, qs, rs, rfl, sG, eR, al, ok, lr, hh, ht, hs, hn⟩
      refine ⟨_, rfl, _, rfl, ?_⟩
      cases bo with
      | none =>
        refine iteF ?_
        obtain ⟨l1, la⟩ := hn rfl
        exact ⟨_, rfl, q G R qs rs sG (SqL.of eR) al ok l1 la⟩
      | some x =>
        refine iteT ?_
        obtain ⟨x0, da, db, h0, hl⟩ := hs x rfl
        obtain ⟨s1, w1, e1, m1, q1⟩ := (hA.mono sG).get da.lt
        obtain ⟨s2, w2, e2, m2, q2⟩ := (hB.mono sG).get db.lt
        refine ⟨_, rfl, _, rfl, a, _, _, _, rfl, rfl, (hA.mono sG).l, at_k (by omega) (by rw [Int.toNat_natCast]; exact m1), ?_⟩
        refine ⟨_, rfl, _, rfl, b, _, _, _, rfl, rfl, (hB.mono sG).l, at_k (by omega) (by rw [Int.toNat_natCast]; exact m2), _, _, rfl, ?_⟩
        refine ⟨_, rfl, s1, _, _, _, rfl, rfl, q1, at_k (by decide) rfl, _, rfl, s2, _, _, _, rfl, rfl, q2, at_k (by decide) rfl, ?_⟩
        refine ⟨stopOf A' h, stopOf B' t, rfl, ?_⟩
        generalize ee : minO (stopOf A' h) (stopOf B' t) = e
        refine ⟨_, rfl, .inl ⟨rfl, _, SqL.of eR⟩, _, rfl, _, rfl, _, rfl, _, rfl, (by show 4 ≤ sizeLine; decide), fun T hT => ?_⟩
        have s3 : Same G (upd G T (.tup [dv (some x), dv e, .ref s1, .ref s2])) := same1 hT
        have eT : (upd G T (.tup [dv (some x), dv e, .ref s1, .ref s2]) : Hp) T = some (.tup [dv (some x), dv e, .ref s1, .ref s2]) := upd_same
        have eR3 := s3 _ _ eR
        have q13 := Same.tup s3 q1
        have q23 := Same.tup s3 q2
        generalize upd G T (.tup [dv (some x), dv e, .ref s1, .ref s2]) = G3 at *
        have lt : qs.length = rs.length := al.len
        refine ⟨R, _, _, rfl, rfl, eR3, (by rw [List.length_map, lt]; exact Nat.lt_of_le_of_lt (Nat.le_trans lr (show h + t ≤ 120 by omega)) (show 120 < sizeLine by decide)), ?_⟩
        have kp := keep_lst (ys := qs.map V.ref ++ [.ref T]) eR3
        have eR4 : (upd G3 R (.lst (qs.map V.ref ++ [.ref T])) : Hp) R = some (.lst (qs.map V.ref ++ [.ref T])) := upd_same
        have sG4 : Same H (upd G3 R (.lst (qs.map V.ref ++ [.ref T]))) := fun c o eo => by
          rw [upd_ne (ne_of_none eo hR)]
          exact s3 _ _ (sG _ _ eo)
        have q14 := kp.tup q13
        have q24 := kp.tup q23
        have al4 : All2 (RowAt K (upd G3 R (.lst (qs.map V.ref ++ [.ref T]))) ss us) (qs ++ [T]) (rs ++ [⟨x, e, h, t⟩]) :=
          (al.mono fun c r _ _ z => kp.row (z.mono s3)).snoc ⟨s1, s2, e1, e2, kp.tup (SqT.of eT)⟩
        generalize upd G3 R (.lst (qs.map V.ref ++ [.ref T])) = G4 at *
        have ok4 : RowsOk A' B' (rs ++ [⟨x, e, h, t⟩]) := by
          refine ⟨fun r hr => ?_, fun r hr => ?_, fun i r r' h1 h2 => ?_⟩
          · rcases List.mem_append.mp hr with z | z
            · exact ok.row r z
            · rw [List.mem_singleton.mp z]
              exact ⟨x0, da, db, ee.symm⟩
          · cases rs with
            | nil =>
              have : (⟨x, e, h, t⟩ : RowV) = r := by simpa using hr
              rw [← this]
              exact h0 rfl
            | cons r0 rr => exact ok.head r (by simpa using hr)
          · have l2 := (List.getElem?_eq_some_iff.mp h2).1
            rw [List.length_append] at l2
            have l2 : i + 1 < rs.length + 1 := l2
            rw [List.getElem?_append_left (by omega)] at h1
            by_cases c : i + 1 < rs.length
            · rw [List.getElem?_append_left c] at h2
              exact ok.next i r r' h1 h2
            · have ei : i + 1 = rs.length := by omega
              rw [ei, List.getElem?_append_right (Nat.le_refl _), Nat.sub_self] at h2
              have : (⟨x, e, h, t⟩ : RowV) = r' := by simpa using h2
              rw [← this]
              exact hl r (by rw [show rs.length - 1 = i from by omega]; exact h1)
        have la4 : ∀ r, (rs ++ [(⟨x, e, h, t⟩ : RowV)])[(rs ++ [(⟨x, e, h, t⟩ : RowV)]).length - 1]? = some r → r.e = e := fun r hr => by
          rw [List.length_append, show rs.length + [(⟨x, e, h, t⟩ : RowV)].length - 1 = rs.length from by simp, List.getElem?_append_right (Nat.le_refl _), Nat.sub_self] at hr
          have : (⟨x, e, h, t⟩ : RowV) = r := by simpa using hr
          rw [← this]
        have ln4 : (rs ++ [(⟨x, e, h, t⟩ : RowV)]).length = rs.length + 1 := by rw [List.length_append]; rfl
        -- what comes behind the row
        have fin : ∀ (h' t' : Nat), h' = (if decide (stopOf A' h = e) = true then h + 1 else h) → t' = (if decide (stopOf B' t = e) = true then t + 1 else t) →
            h' ≤ A'.length ∧ t' ≤ B'.length ∧ h + t < h' + t' ∧ (∀ y, e = some y → 0 ≤ y ∧ AtDay A' h' y ∧ AtDay B' t' y) := by
          intro h' t' eh et
          have la := da.lt
          have lb := db.lt
          have ta := da.till
          have tb := db.till
          have na := fun s => AtDay.next hA.ok da (s := s)
          have nb := fun s => AtDay.next hB.ok db (s := s)
          cases oa : stopOf A' h with
          | none => cases ob : stopOf B' t with
            | none =>
              rw [oa, ob] at ee
              have ee : none = e := ee
              subst ee
              rw [oa, if_pos (decide_eq_true rfl)] at eh
              rw [ob, if_pos (decide_eq_true rfl)] at et
              exact ⟨by omega, by omega, by omega, fun y z => nomatch z⟩
            | some y =>
              rw [oa, ob] at ee
              have ee : some y = e := ee
              subst ee
              rw [oa, if_neg (by simp)] at eh
              rw [ob, if_pos (decide_eq_true rfl)] at et
              have := tb y ob
              refine ⟨by omega, by omega, by omega, fun z hz => ?_⟩
              cases hz
              rw [eh, et]
              exact ⟨by omega, da.stay (by omega) (fun s hs => by rw [oa] at hs; cases hs), nb y ob⟩
          | some y1 => cases ob : stopOf B' t with
            | none =>
              rw [oa, ob] at ee
              have ee : some y1 = e := ee
              subst ee
              rw [oa, if_pos (decide_eq_true rfl)] at eh
              rw [ob, if_neg (by simp)] at et
              have := ta y1 oa
              refine ⟨by omega, by omega, by omega, fun z hz => ?_⟩
              cases hz
              rw [eh, et]
              exact ⟨by omega, na y1 oa, db.stay (by omega) (fun s hs => by rw [ob] at hs; cases hs)⟩
            | some y2 =>
              rw [oa, ob] at ee
              have ee : some (if y2 < y1 then y2 else y1) = e := ee
              have t1 := ta y1 oa
              have t2 := tb y2 ob
              subst ee
              rw [oa] at eh
              rw [ob] at et
              by_cases c : y2 < y1
              · rw [if_pos c] at eh et ⊢
                rw [if_neg (by simp; omega)] at eh
                rw [if_pos (decide_eq_true rfl)] at et
                refine ⟨by omega, by omega, by omega, fun z hz => ?_⟩
                cases hz
                rw [eh, et]
                exact ⟨by omega, da.stay (by omega) (fun s hs => by rw [oa] at hs; cases hs; exact c), nb y2 ob⟩
              · rw [if_neg c] at eh et ⊢
                rw [if_pos (decide_eq_true rfl)] at eh
                by_cases c2 : y2 = y1
                · subst c2
                  rw [if_pos (decide_eq_true rfl)] at et
                  refine ⟨by omega, by omega, by omega, fun z hz => ?_⟩
                  cases hz
                  rw [eh, et]
                  exact ⟨by omega, na _ oa, nb _ ob⟩
                · rw [if_neg (by simp; exact c2)] at et
                  refine ⟨by omega, by omega, by omega, fun z hz => ?_⟩
                  cases hz
                  rw [eh, et]
                  exact ⟨by omega, na _ oa, db.stay (by omega) (fun s hs => by rw [ob] at hs; cases hs; omega)⟩
        have done : ∀ (h' t' : Nat), h' = (if decide (stopOf A' h = e) = true then h + 1 else h) → t' = (if decide (stopOf B' t = e) = true then t + 1 else t) →
            (fun (σ : L2.St) (G : Hp) => (∃ (h t : Nat) (bo : Option Int) (v6 v7 v8 : Option V) (qs : List Addr) (rs : List RowV), σ = [some (.ref a), some (.ref b), some (.ref R), some (.int (h : Int)), some (.int (t : Int)), some (dv bo), v6, v7, v8] ∧ Same H G ∧
        G R = some (.lst (qs.map V.ref)) ∧ All2 (RowAt K G ss us) qs rs ∧ RowsOk A' B' rs ∧ rs.length ≤ h + t ∧ h ≤ A'.length ∧ t ≤ B'.length ∧
        (∀ x, bo = some x → 0 ≤ x ∧ AtDay A' h x ∧ AtDay B' t x ∧ (rs = [] → x = 0) ∧ (∀ r, rs[rs.length - 1]? = some r → r.e = some x)) ∧ (bo = none → 1 ≤ rs.length ∧ ∀ r, rs[rs.length - 1]? = some r → r.e = none)) ∧
              restOf (A'.length + B'.length) σ < restOf (A'.length + B'.length) [some (.ref a), some (.ref b), some (.ref R), some (.int (h : Int)), some (.int (t : Int)), some (dv (some x)), v6, v7, v8])
            [some (.ref a), some (.ref b), some (.ref R), some (.int (h' : Int)), some (.int (t' : Int)), some (dv e), some (.ref s1), some (.ref s2), some (dv e)] G4 := by
          intro h' t' eh et
          obtain ⟨f1, f2, f3, f4⟩ := fin h' t' eh et
          refine ⟨⟨h', t', e, _, _, _, qs ++ [T], _, rfl, sG4, by rw [List.map_append]; exact eR4, al4, ok4, by rw [ln4]; omega, f1, f2, fun y ey => ?_, fun ey => ⟨by rw [ln4]; omega, fun r hr => (la4 r hr).trans ey⟩⟩, ?_⟩
          · obtain ⟨g1, g2, g3⟩ := f4 y ey
            exact ⟨g1, g2, g3, fun z => by simp at z, fun r hr => (la4 r hr).trans ey⟩
          · have la := da.lt
            have lb := db.lt
            show ((A'.length + B'.length : Nat) : Int).toNat - ((h' : Int) + (t' : Int)).toNat < ((A'.length + B'.length : Nat) : Int).toNat - ((h : Int) + (t : Int)).toNat
            omega
        refine ⟨_, rfl, s1, _, 1, dv (stopOf A' h), rfl, rfl, q14, at_k (by decide) rfl, _, rfl, dv_scal _ _, _, rfl, ?_⟩
        rw [dv_eq]
        by_cases ca : stopOf A' h = e
        · rw [decide_eq_true ca]
          refine iteT ⟨_, rfl, _, _, rfl, rfl, ?_⟩
          refine ⟨_, rfl, s2, _, 1, dv (stopOf B' t), rfl, rfl, q24, at_k (by decide) rfl, _, rfl, dv_scal _ _, _, rfl, ?_⟩
          rw [dv_eq]
          by_cases cb : stopOf B' t = e
          · rw [decide_eq_true cb]
            refine iteT ⟨_, rfl, _, _, rfl, rfl, _, rfl, ?_⟩
            exact done (h + 1) (t + 1) (by rw [decide_eq_true ca]; rfl) (by rw [decide_eq_true cb]; rfl)
          · rw [decide_eq_false cb]
            refine iteF ⟨_, rfl, _, rfl, ?_⟩
            exact done (h + 1) t (by rw [decide_eq_true ca]; rfl) (by rw [decide_eq_false cb]; rfl)
        · rw [decide_eq_false ca]
          refine iteF ⟨_, rfl, ?_⟩
          refine ⟨_, rfl, s2, _, 1, dv (stopOf B' t), rfl, rfl, q24, at_k (by decide) rfl, _, rfl, dv_scal _ _, _, rfl, ?_⟩
          rw [dv_eq]
          by_cases cb : stopOf B' t = e
          · rw [decide_eq_true cb]
            refine iteT ⟨_, rfl, _, _, rfl, rfl, _, rfl, ?_⟩
            exact done h (t + 1) (by rw [decide_eq_false ca]; rfl) (by rw [decide_eq_true cb]; rfl)
          · rw [decide_eq_false cb]
            refine iteF ⟨_, rfl, _, rfl, ?_⟩
            exact done h t (by rw [decide_eq_false ca]; rfl) (by rw [decide_eq_false cb]; rfl)
    · intro σ H' Q1 Q2 m h
      obtain ⟨v, e, c, ec, k⟩ := h
      exact ⟨v, e, c, ec, m _ _ k⟩
end
end K12

namespace K12
open PySem PySem.Spec PyProof.Rows L2
/-! ### != of two shares: object.__ne__ over the own == -/
section
variable {X : Cx} {n : Nat} {C f : Addr} {A : Around} {pins : List (Addr × Obj)} {s : Shared} {σ : L2.St} {H : Hp} {x y : Addr} {t1 b1 t2 b2 : Int}
theorem ne_body (O : OwnEq X n C f) (sb : Sub X (n + 1) A) (I : Inv X pins σ H s) (hx : ShAt C H x t1 b1) (hy : ShAt C H y t2 b2) {Q : Fin → Shared → Prop}
    (hq : ∀ s', Inv X pins σ H s' → Q (.done (.ret (.bool (!(decide (t1 = t2) && decide (b1 = b2)))))) s') :
    wpAny (model X.prog X.w) A (Builtin.«object.__ne__» ⟨[.ref x, .ref y], []⟩) Q X.xe s := by
  obtain ⟨ox, od, J⟩ := ins_at I hx
  have sb0 : Sub X n A := sb.mono (Nat.le_succ n)
  unfold Builtin.«object.__ne__»
  refine wpAny_bind (wpAny_of_eq (a := ((Value.ref x : Value), [Value.ref y])) (by first | rfl | (simp only [slotArgs]; rfl)) ?_)
  dsimp only
  refine wpAny_bind (wpAny_cRoomFor sb.room.units0 ?_)
  refine wpAny_bind (PySem.W.ifBound_K I.kIn J O.at_ O.isf (wpAny_mono (run_own O sb0 I (v := .ref y) rfl hx (.inl ⟨y, t2, b2, rfl, hy, rfl⟩)) (fun q s' z => ?_) fun _ _ z => z))
  obtain ⟨rfl, I'⟩ := z
  dsimp only
  exact wpAny_bind (wpAny_truthy_bool (wpAny_pure (hq _ I')))
theorem ne_two (O : OwnEq X n C f) (sb : Sub X (n + 2) A) (I : Inv X pins σ H s) (hne : PySem.W.findIn X.K (.ref C) "__ne__" = some (some (.builtin "object.__ne__"))) (hob : PySem.W.subIn X.K (.ref C) (.type "object") = some true)
    (hx : ShAt C H x t1 b1) (hy : ShAt C H y t2 b2) :
    wpAny (model X.prog X.w) A (richCompare .NotEq (.ref x) (.ref y)) (fun q s' => q = .bool (!(decide (t1 = t2) && decide (b1 = b2))) ∧ Inv X pins σ H s') X.xe s := by
  obtain ⟨ox, od, J⟩ := ins_at I hx
  obtain ⟨oy, od', J'⟩ := ins_at I hy
  have isob : PySem.W.Looks (model X.prog X.w) s.heap (isInstance (.ref x) (.type "object")) true := J.type.andThen (PySem.W.looks_subIn I.kIn hob)
  have called : wpAny (model X.prog X.w) A (call (.builtin "object.__ne__") [.ref x, .ref y]) (fun q s' => q = .bool (!(decide (t1 = t2) && decide (b1 = b2))) ∧ Inv X pins σ H s') X.xe s := by
    refine wpAny_call (codeAny_call_builtin F.cmp_object.ne.plain F.cmpEntry_ne (PySem.W.check_slot F.cmpKind_ne F.cmpSplit_ne isob (F.cmpArgs_ne _ _) ?_))
    exact ne_body O (sb.in1) I hx hy fun s' I' => ⟨rfl, I'⟩
  unfold richCompare
  simp only [oneThing_ref]
  refine wpAny_holding (wpAny_bind (wpAny_cRoomFor sb.room.units0 ?_))
  refine wpAny_bind (J.type.here (wpAny_bind (J'.type.here ?_)))
  rw [if_neg (show ¬ (Value.ref C != Value.ref C) = true by simp)]
  refine wpAny_bind (wpAny_pure ?_)
  simp only [Bool.false_eq_true, if_false]
  refine wpAny_bind (m := tryCompare (.ref x) _ (.ref y)) ?_
  unfold tryCompare
  have fin : wpAny (model X.prog X.w) A (call (.builtin "object.__ne__") ([.ref x] ++ [.ref y]) >>= fun v => pure (some v)) (fun o s' => ∃ q, o = some q ∧ q = .bool (!(decide (t1 = t2) && decide (b1 = b2))) ∧ Inv X pins σ H s') X.xe s :=
    wpAny_bind (wpAny_mono called (fun q s' z => wpAny_pure ⟨q, rfl, z⟩) fun _ _ z => z)
  have asked : wpAny (model X.prog X.w) A (callSpecialIfBound? (.ref x) "__ne__" [.ref y]) (fun o s' => ∃ q, o = some q ∧ q = .bool (!(decide (t1 = t2) && decide (b1 = b2))) ∧ Inv X pins σ H s') X.xe s := by
    simp only [callSpecialIfBound?, bindSpecialIfBound?]
    refine wpAny_holding (wpAny_bind (wpAny_bind (wpAny_bind (J.type.here ((PySem.W.looks_findIn I.kIn hne).here ?_)))))
    simp only [F.cmp_object.ne.bind]
    refine wpAny_bind (wpAny_askSetting (wpAny_ite ?_))
    split
    · exact wpAny_bind (wpAny_pure (wpAny_pure fin))
    · exact wpAny_tryCatch (wpAny_bind (wpAny_pure (wpAny_pure fin)))
  refine wpAny_bind (wpAny_mono asked (fun o s' z => ?_) fun _ _ z => z)
  obtain ⟨q, rfl, rfl, I'⟩ := z
  exact wpAny_pure (wpAny_pure ⟨rfl, I'⟩)
end
/-! ### the operators, as rules -/
section
variable {X : Cx} {n : Nat} {C f : Addr}
def rEqS (C : Addr) : R2 := fun x y H Q => ∃ (a b : Addr) (t1 b1 t2 b2 : Int), x = .ref a ∧ y = .ref b ∧ ShAt C H a t1 b1 ∧ ShAt C H b t2 b2 ∧ Q (.bl (decide (t1 = t2) && decide (b1 = b2))) H
def rNeS (C : Addr) : R2 := fun x y H Q => ∃ (a b : Addr) (t1 b1 t2 b2 : Int), x = .ref a ∧ y = .ref b ∧ ShAt C H a t1 b1 ∧ ShAt C H b t2 b2 ∧ Q (.bl (!(decide (t1 = t2) && decide (b1 = b2)))) H
theorem op_eqS (O : OwnEq X n C f) (hr : Room n X.A) : OpR X (compareOp .Eq) (rEqS C) := by
  intro pins s σ H x y v u Q I rx ry h
  obtain ⟨a, b, t1, b1, t2, b2, rfl, rfl, ha, hb, q⟩ := h
  cases rx
  cases ry
  show wpAny (model X.prog X.w) X.A (richCompare .Eq (.ref a) (.ref b)) (EP X pins σ Q) X.xe s
  refine wpAny_mono (rc_two O ⟨hr, rfl⟩ I ha hb) (fun r s' z => ?_) fun _ _ z => z
  obtain ⟨rfl, I'⟩ := z
  exact ⟨.bl _, H, I', rfl, q⟩
theorem op_neS (O : OwnEq X n C f) (hr : Room (n + 2) X.A) (hne : PySem.W.findIn X.K (.ref C) "__ne__" = some (some (.builtin "object.__ne__"))) (hob : PySem.W.subIn X.K (.ref C) (.type "object") = some true) : OpR X (compareOp .NotEq) (rNeS C) := by
  intro pins s σ H x y v u Q I rx ry h
  obtain ⟨a, b, t1, b1, t2, b2, rfl, rfl, ha, hb, q⟩ := h
  cases rx
  cases ry
  show wpAny (model X.prog X.w) X.A (richCompare .NotEq (.ref a) (.ref b)) (EP X pins σ Q) X.xe s
  refine wpAny_mono (ne_two O ⟨hr, rfl⟩ I hne hob ha hb) (fun r s' z => ?_) fun _ _ z => z
  obtain ⟨rfl, I'⟩ := z
  exact ⟨.bl _, H, I', rfl, q⟩
end
end K12

namespace K12
open PySem PySem.Spec PyProof.Rows L2
/-! ### the first unlike day -/
theorem iteN {c : Bool} {A B : Prop} (hc : c = true) (h : B) : if (!c) = true then A else B := by
  rw [hc]
  exact iteF h
def FirstV (A B : List (Option Int × W2)) : Option Int → Prop
  | none => ∀ x, 0 ≤ x → onV A x = onV B x
  | some d => 0 ≤ d ∧ onV A d ≠ onV B d ∧ ∀ x, 0 ≤ x → x < d → onV A x = onV B x
theorem FirstV.one {A B : List (Option Int × W2)} {r r' : Option Int} (h : FirstV A B r) (h' : FirstV A B r') : r = r' := by
  cases r with
  | none => cases r' with
    | none => rfl
    | some d => exact absurd (h d h'.1) h'.2.1
  | some d => cases r' with
    | none => exact absurd (h' d h.1) h.2.1
    | some e =>
      have a := h.2.2 e h'.1
      have b := h'.2.2 d h.1
      have c : ¬ e < d := fun z => h'.2.1 (a z)
      have c' : ¬ d < e := fun z => h.2.1 (b z)
      rw [show d = e from by omega]
theorem FirstV.symm {A B : List (Option Int × W2)} {r : Option Int} (h : FirstV A B r) : FirstV B A r := by
  cases r with
  | none => exact fun x hx => (h x hx).symm
  | some d => exact ⟨h.1, fun z => h.2.1 z.symm, fun x a b => (h.2.2 x a b).symm⟩
/-- two words said over and over: alike on so many days, alike for good -/
theorem fw {ws vs : W2} {bA bB b : Int} {e : Option Int} (l1 : 1 ≤ ws.length) (l2 : 1 ≤ vs.length)
    (h : ∀ x, b ≤ x → x < b + ws.length + vs.length → (∀ s, e = some s → x < s) → ws[((x - bA) % (ws.length : Int)).toNat]? = vs[((x - bB) % (vs.length : Int)).toNat]?) :
    ∀ (n : Nat) (x : Int), x - b = (n : Int) → (∀ s, e = some s → x < s) → ws[((x - bA) % (ws.length : Int)).toNat]? = vs[((x - bB) % (vs.length : Int)).toNat]? := by
  intro n
  induction n using Nat.strongRecOn with
  | _ n ih =>
    intro x hx he
    by_cases c : x < b + ws.length + vs.length
    · exact h x (by omega) c he
    · have pA : ∀ y : Int, (y - ws.length - bA) % (ws.length : Int) = (y - bA) % (ws.length : Int) := fun y => by
        rw [show y - (ws.length : Int) - bA = (y - bA) - (ws.length : Int) from by omega, Int.sub_emod_right]
      have pB : ∀ y : Int, (y - vs.length - bB) % (vs.length : Int) = (y - bB) % (vs.length : Int) := fun y => by
        rw [show y - (vs.length : Int) - bB = (y - bB) - (vs.length : Int) from by omega, Int.sub_emod_right]
      have i1 := ih (n - ws.length) (by omega) (x - ws.length) (by omega) (fun s q => by have := he s q; omega)
      have i2 := ih (n - vs.length) (by omega) (x - vs.length) (by omega) (fun s q => by have := he s q; omega)
      have i3 := ih (n - ws.length - vs.length) (by omega) (x - ws.length - vs.length) (by omega) (fun s q => by have := he s q; omega)
      rw [pA] at i1
      rw [pB] at i2
      rw [pB (x - ws.length)] at i3
      rw [i1, ← i3, ← i2, show x - (ws.length : Int) - (vs.length : Int) = (x - vs.length) - ws.length from by omega, pA (x - vs.length)]
/-- within a span what is told is what its word says -/
theorem in_span {told : List (Option Int × W2)} (ok : Told told) {h : Nat} {b : Int} (at_ : AtDay told h b) {x : Option Int × W2} (hx : told[h]? = some x) :
    (1 ≤ (leastW (cutO x.1 x.2)).length ∧ (leastW (cutO x.1 x.2)).length ≤ 60) ∧ ∀ y, b ≤ y → (∀ s, stopOf told h = some s → y < s) → onV told y = (leastW (cutO x.1 x.2))[((y - bAt told h) % ((leastW (cutO x.1 x.2)).length : Int)).toNat]? := by
  have lw := ok.word h x hx
  have hd : ∀ n, x.1 = some n → 1 ≤ n := fun n e => ok.days h x n hx e
  have cl := leastW_len (cutO_pos hd lw.1)
  have cle := cutO_le (d := x.1) (ws := x.2)
  have c3 := Nat.le_of_dvd (cutO_pos hd lw.1) cl.2
  refine ⟨⟨cl.1, by omega⟩, fun y hy hs => ?_⟩
  have hin : ∀ n, x.1 = some n → y < bAt told h + n := fun n e => hs _ (by unfold stopOf; rw [hx]; show x.1.map _ = _; rw [e]; rfl)
  have kl := at_.lt
  have fr := at_.from_
  obtain ⟨d, ws⟩ := x
  rw [onV_at told h d ws y hx (fun j z hj hz => ok.ends hj kl hz) (by omega) hin]
  exact (cut_at lw.1 hd (by omega) (fun n e => by have := hin n e; omega)).symm
/-- no stop is too far -/
def Near (told : List (Option Int × W2)) : Prop := ∀ i s, stopOf told i = some s → s ≤ 2 ^ 50
theorem row_near {A B : List (Option Int × W2)} {rs : List RowV} (ok : RowsOk A B rs) (nA : Near A) (nB : Near B) {i : Nat} {r : RowV} (hr : rs[i]? = some r) : r.b ≤ 2 ^ 50 := by
  cases i with
  | zero => rw [ok.head r hr]; decide
  | succ i =>
    have il := (List.getElem?_eq_some_iff.mp hr).1
    have h0 : rs[i]? = some rs[i] := List.getElem?_eq_getElem (by omega)
    have e := ok.next i _ r h0 hr
    have st := (ok.row _ (List.getElem_mem (by omega : i < rs.length))).stop
    rw [e] at st
    cases oa : stopOf A rs[i].h with
    | none => cases ob : stopOf B rs[i].t with
      | none => rw [oa, ob] at st; cases st
      | some y => rw [oa, ob] at st; cases st; exact nB _ _ ob
    | some x => cases ob : stopOf B rs[i].t with
      | none => rw [oa, ob] at st; cases st; exact nA _ _ oa
      | some y =>
        rw [oa, ob] at st
        have a := nA _ _ oa
        have b := nB _ _ ob
        have st : some r.b = some (if y < x then y else x) := st
        injection st with st
        rw [st]
        split <;> assumption
theorem minO_lt {a b : Option Int} {x s : Int} (h : ∀ y, minO a b = some y → x < y) : (a = some s → x < s) ∧ (b = some s → x < s) := by
  cases a with
  | none => exact ⟨(fun z => nomatch z), fun z => h s (by rw [z]; rfl)⟩
  | some u => cases b with
    | none => exact ⟨fun z => h s (by rw [z]; rfl), fun z => nomatch z⟩
    | some v =>
      have q := h _ rfl
      constructor
      · intro z
        cases z
        split at q <;> omega
      · intro z
        cases z
        split at q <;> omega
def spFirst (K : PySem.W.Frag) (C CC : Addr) : Sp := fun vs H Q _ => ∃ (c d : Addr) (A B : List (Option Int × W2)), vs = [.ref c, .ref d] ∧ CourseAt K C CC H c A ∧ CourseAt K C CC H d B ∧ Near A ∧ Near B ∧
  ∀ (H' : Hp) (r : Option Int), Same H H' → FirstV A B r → Q (dv r) H'
section
variable {P : Program} {w : World} {K : PySem.W.Frag} {mg : Str → Option Value} {base : Heap}
abbrev fuN : List Str := ["one", "other", "begin", "stop", "mine", "theirs", "past", "day"]
theorem scFirst : FnScope fuN ["one", "other"] (defScope d_first_unlike) := ⟨rfl, rfl, rfl, by decide +kernel, rfl, by decide +kernel, by decide +kernel⟩
theorem ok_first {f f1 f2 fE C CC : Addr} {fd fd1 fd2 fdE : FuncData} (F : Fun K "first_unlike" "first_unlike" d_first_unlike f fd) (TC : CrsC K CC) (B : TxtB mg) (hmin : mg "min" = none) (hrange : mg "range" = none)
    (A1 : At P w K mg base CX0 2 "beside" ["one", "other"] (spBeside K C) f1 fd1) (A2 : At P w K mg base CX0 1 "share_on" ["span", "day"] (spShareOn K C) f2 fd2)
    (GE : FnOk P w K mg base CX0 1 fE fdE ["self", "other"] (spEqS K C)) (bE : Binds K fdE ["self", "other"] []) (aE : PySem.W.findIn K (.ref C) "__eq__" = some (some (.ref fE))) (iE : PySem.W.isFn K (.ref fE) = true)
    (hne : PySem.W.findIn K (.ref C) "__ne__" = some (some (.builtin "object.__ne__"))) (hob : PySem.W.subIn K (.ref C) (.type "object") = some true) :
    FnOk P w K mg base CX0 4 f fd ["one", "other"] (spFirst K C CC) := by
  refine F.ok scFirst (fun vs H Q E h => ?_) (fun cdv A outer s H vs Q E hr h => ?_)
  · obtain ⟨_, _, _, _, rfl, _⟩ := h
    rfl
  · obtain ⟨c, d, A', B', rfl, ⟨dx, la, ss, hc, hla, lss, hss, okA⟩, ⟨dy, lb, us, hd, hlb, lus, hus, okB⟩, nA, nB, q⟩ := h
    have own : OwnEq (cxOf CX0 P w K mg base fuN "first_unlike" (defScope d_first_unlike) f cdv A outer s H E).nox 1 C fE := ⟨⟨_, _, GE, bE⟩, aE, iE⟩
    have r1 : Room 1 _ := hr.mono (by decide)
    have r2 : Room 2 _ := hr.mono (by decide)
    refine ⟨_, pss_cons (ps_for PassesOwn.never rfl (pi_list (pe_call A1.G r2 rfl A1.m A1.k A1.b .nil pass0 (pa_cons (pe_fld (pv 0) rfl) (pa_cons (pe_fld (pv 1) rfl) pa_nil))))
        (pg_tup (by rfl) (pgs_cons (pg_name (i := 2) scFirst.nd rfl (.inl rfl)) (pgs_cons (pg_name (i := 3) scFirst.nd rfl (.inl rfl)) (pgs_cons (pg_name (i := 4) scFirst.nd rfl (.inl rfl)) (pgs_cons (pg_name (i := 5) scFirst.nd rfl (.inl rfl)) pgs_nil)))))
        (pss_cons (ps_set (i := 6) scFirst.nd rfl (Or.inl rfl) (pe_op op_add (pe_op op_add (pv 2) (pe_callB call_len_seq (by rfl) B.len PySem.boot_len (pa_cons (pe_ix ix_tup (pv 4) pe_int (fun _ _ => rfl)) pa_nil))) (pe_callB call_len_seq (by rfl) B.len PySem.boot_len (pa_cons (pe_ix ix_tup (pv 5) pe_int (fun _ _ => rfl)) pa_nil))))
        (C8.pss_cut (ps_if (pt_cmp (pc_notN (pv 3))) (pss_one (ps_set (i := 6) scFirst.nd rfl (Or.inl rfl) (pe_callB (call_min2 rfl) (by rfl) hmin (by decide +kernel) (pa_cons (pv 6) (pa_cons (pv 3) pa_nil))))) pss_nil)
        (pss_one (ps_for PassesOwn.never rfl (pi_range2 (by rfl) hrange (pa_cons (pv 2) (pa_cons (pv 6) pa_nil))) (pg_name (i := 7) scFirst.nd rfl (.inl rfl))
          (pss_one (ps_if (pt_cmpR (op_neS own hr hne hob) (pe_call A2.G r1 rfl A2.m A2.k A2.b .nil pass0 (pa_cons (pv 4) (pa_cons (pv 7) pa_nil))) (pe_call A2.G r1 rfl A2.m A2.k A2.b .nil pass0 (pa_cons (pv 5) (pa_cons (pv 7) pa_nil))) (nomark _)) (pss_one (ps_ret (pv 7))) pss_nil)))))))
      (pss_one (ps_ret pe_non)), ?_⟩
    refine ⟨_, rfl, c, CC, dx, _, _, rfl, hc, TC.cl, TC.no, crs_spans la, _, rfl, d, CC, dy, _, _, rfl, hd, TC.cl, TC.no, crs_spans lb, ?_⟩
    refine ⟨la, lb, ss, us, A', B', rfl, ⟨hla, lss, hss, okA⟩, ⟨hlb, lus, hus, okB⟩, fun G R qs rs sG hR al ok l1 la' => ?_⟩
    have lq : qs.length = rs.length := al.len
    refine ⟨R, rfl, ⟨_, hR⟩, for_list (K := K) (a := R) (xs := qs.map V.ref) (fun i σ M => M = G ∧ (∃ v2 v3 v4 v5 v6 v7 : Option V, σ = [some (.ref c), some (.ref d), v2, v3, v4, v5, v6, v7]) ∧ (∀ r, rs[i]? = some r → ∀ x, 0 ≤ x → x < r.b → onV A' x = onV B' x) ∧ (i = rs.length → ∀ x, 0 ≤ x → onV A' x = onV B' x))
      ⟨rfl, ⟨_, _, _, _, _, _, rfl⟩, fun r hr x x0 x1 => ?_, fun e => by omega⟩ ?_ ?_ ?_⟩
    · rw [ok.head r hr] at x1
      omega
    · rintro i σ M _ ⟨rfl, _⟩
      exact hR
    · rintro i x σ M hx ⟨rfl, ⟨v2, v3, v4, v5, v6, v7, rfl⟩, hb, _⟩
      rw [List.getElem?_map] at hx
      obtain ⟨t, ht, rfl⟩ := Option.map_eq_some_iff.mp hx
      have il : i < rs.length := by
        have := (List.getElem?_eq_some_iff.mp ht).1
        omega
      have hri : rs[i]? = some rs[i] := List.getElem?_eq_getElem il
      have rok := ok.row _ (List.getElem_mem il)
      have nr := row_near ok nA nB hri
      have hnext := ok.next i
      have hlast := la'
      have hb := hb _ hri
      obtain ⟨sa, sb, e1, e2, qt⟩ := al.all i t _ ht hri
      generalize rs[i] = r at *
      obtain ⟨rb, re, rh, rt⟩ := r
      obtain ⟨p0, ra, rb2, rst⟩ := rok
      have p0 : 0 ≤ rb := p0
      have ra : AtDay A' rh rb := ra
      have rb2 : AtDay B' rt rb := rb2
      have rst : re = minO (stopOf A' rh) (stopOf B' rt) := rst
      have hb : ∀ x, 0 ≤ x → x < rb → onV A' x = onV B' x := hb
      have nr : rb ≤ 2 ^ 50 := nr
      obtain ⟨xa, hxa, wa, qa, pa, qa2, qa3⟩ := (hss rh sa e1).mono sG
      obtain ⟨xb, hxb, wb, qb, pb, qb2, qb3⟩ := (hus rt sb e2).mono sG
      obtain ⟨la1, onA⟩ := in_span okA ra hxa
      obtain ⟨lb1, onB⟩ := in_span okB rb2 hxb
      generalize eA : leastW (cutO xa.1 xa.2) = WA at *
      generalize eB : leastW (cutO xb.1 xb.2) = WB at *
      have lpa : (pa.map V.ref).length = WA.length := by rw [List.length_map, qa3.1]
      have lpb : (pb.map V.ref).length = WB.length := by rw [List.length_map, qb3.1]
      refine ⟨t, _, rfl, qt, rfl, _, _, rfl, _, _, rfl, _, _, rfl, _, _, rfl, rfl, ?_⟩
      refine ⟨_, rfl, _, rfl, sa, _, 2, .ref wa, rfl, rfl, qa, at_k (by decide) rfl, wa, _, rfl, .inr qa2, _, _, rfl, rfl, ?_⟩
      refine ⟨_, rfl, sb, _, 2, .ref wb, rfl, rfl, qb, at_k (by decide) rfl, wb, _, rfl, .inr qb2, _, _, rfl, rfl, ?_⟩
      rw [lpa, lpb]
      -- how far is looked
      obtain ⟨past, hp1, hp2, hp3⟩ : ∃ past : Int, past = (match re with | none => rb + WA.length + WB.length | some s => if s < rb + WA.length + WB.length then s else rb + WA.length + WB.length) ∧ past ≤ rb + WA.length + WB.length ∧ (∀ s, re = some s → past ≤ s) := by
        refine ⟨_, rfl, ?_, ?_⟩
        · cases re with
          | none => exact Int.le_refl _
          | some s =>
            show (if s < rb + WA.length + WB.length then s else rb + WA.length + WB.length) ≤ _
            split <;> omega
        · rintro s rfl
          show (if s < rb + WA.length + WB.length then s else rb + WA.length + WB.length) ≤ _
          split <;> omega
      refine ⟨fun σ' G' => σ' = [some (.ref c), some (.ref d), some (.int rb), some (dv re), some (.ref sa), some (.ref sb), some (.int past), v7] ∧ G' = M, ?_, ?_⟩
      · cases re with
        | none => exact ⟨_, rfl, _, rfl, iteN (decide_eq_true rfl) ⟨by rw [hp1]; rfl, rfl⟩⟩
        | some s =>
          refine ⟨_, rfl, _, rfl, ?_⟩
          show if (!decide (V.int s = V.non)) = true then _ else _
          rw [decide_eq_false (show ¬ (V.int s = V.non) from fun z => nomatch z)]
          exact iteT ⟨_, rfl, _, rfl, _, _, rfl, by rw [hp1]; rfl, rfl⟩
      · rintro σ' G' ⟨rfl, rfl⟩
        have w62 : (2 : Int) ^ 50 + 120 < 2 ^ 62 := by decide
        refine ⟨_, rfl, _, rfl, rb, past, rfl, ⟨by omega, by omega, ?_, by omega⟩, ?_⟩
        · by_cases cp : 0 ≤ past
          · omega
          · cases re with
            | none => rw [hp1] at cp; have : ¬ 0 ≤ rb + WA.length + WB.length := cp; omega
            | some s =>
              exfalso
              have hs : rb < s := by
                have z := ra.till
                have z2 := rb2.till
                cases oa : stopOf A' rh with
                | none => cases ob : stopOf B' rt with
                  | none => rw [oa, ob] at rst; cases rst
                  | some y => rw [oa, ob] at rst; cases rst; exact z2 _ ob
                | some u => cases ob : stopOf B' rt with
                  | none => rw [oa, ob] at rst; cases rst; exact z _ oa
                  | some y =>
                    rw [oa, ob] at rst
                    have rst : some s = some (if y < u then y else u) := rst
                    injection rst with rst
                    have a1 := z _ oa
                    have a2 := z2 _ ob
                    rw [rst]
                    split <;> assumption
              have hp1 : past = (if s < rb + WA.length + WB.length then s else rb + WA.length + WB.length) := hp1
              rw [hp1] at cp
              split at cp <;> omega
        refine for_range (lo := rb) (n := (past - rb).toNat) (fun j σ N => N = G' ∧ (∃ v : Option V, σ = [some (.ref c), some (.ref d), some (.int rb), some (dv re), some (.ref sa), some (.ref sb), some (.int past), v]) ∧ ∀ x, 0 ≤ x → x < rb + (j : Int) → onV A' x = onV B' x)
          ⟨rfl, ⟨_, rfl⟩, fun x a b => hb x a (by omega)⟩ ?_ ?_
        · rintro j σ N hj ⟨rfl, ⟨v, rfl⟩, hx⟩
          have inr : ∀ s, re = some s → rb + (j : Int) < s := fun s e => by
            have := hp3 s e
            omega
          have ia : ∀ s, stopOf A' rh = some s → rb + (j : Int) < s := fun s e => (minO_lt (fun y z => inr y (rst.trans z))).1 e
          have ib : ∀ s, stopOf B' rt = some s → rb + (j : Int) < s := fun s e => (minO_lt (fun y z => inr y (rst.trans z))).2 e
          have va := onA (rb + (j : Int)) (by omega) ia
          have vb := onB (rb + (j : Int)) (by omega) ib
          refine ⟨_, rfl, _, rfl, sa, rb + (j : Int), bAt A' rh, _, WA, rfl, ⟨wa, qa, pa, qa2, qa3⟩, la1.1, fun p1 y1 h1 k1 => ?_⟩
          refine ⟨_, rfl, _, rfl, sb, rb + (j : Int), bAt B' rt, _, WB, rfl, ⟨wb, qb, pb, qb2, qb3⟩, lb1.1, fun p2 y2 h2 k2 => ?_⟩
          rw [h1] at va
          rw [h2] at vb
          refine ⟨p1, p2, _, _, _, _, rfl, rfl, k1, k2, _, rfl, ?_⟩
          by_cases e : y1 = y2
          · subst e
            rw [decide_eq_true rfl, decide_eq_true rfl]
            refine iteF ⟨rfl, ⟨_, rfl⟩, fun x x0 x1 => ?_⟩
            by_cases cx : x < rb + (j : Int)
            · exact hx x x0 cx
            · rw [show x = rb + (j : Int) from by omega, va, vb]
          · have de : (!(decide (y1.1 = y2.1) && decide (y1.2 = y2.2))) = true := by
              rw [← Bool.decide_and, decide_eq_false (fun z => e (Prod.ext z.1 z.2))]
              rfl
            rw [de]
            refine iteT ⟨_, rfl, q N (some (rb + (j : Int))) sG ⟨by omega, ?_, hx⟩⟩
            rw [va, vb]
            exact fun z => e (Option.some.inj z)
        · rintro σ N ⟨rfl, ⟨v, rfl⟩, hx⟩
          -- alike on the whole row
          have row : ∀ x, 0 ≤ x → (∀ s, re = some s → x < s) → onV A' x = onV B' x := fun x x0 xs => by
            by_cases cx : x < rb
            · exact hb x x0 cx
            · have ia : ∀ s, stopOf A' rh = some s → x < s := fun s e => (minO_lt (fun y z => xs y (rst.trans z))).1 e
              have ib : ∀ s, stopOf B' rt = some s → x < s := fun s e => (minO_lt (fun y z => xs y (rst.trans z))).2 e
              rw [onA x (by omega) ia, onB x (by omega) ib]
              refine fw (b := rb) (e := re) la1.1 lb1.1 (fun y y0 y1 ys => ?_) (x - rb).toNat x (by omega) xs
              have ja : ∀ s, stopOf A' rh = some s → y < s := fun s e => (minO_lt (fun z hz => ys z (rst.trans hz))).1 e
              have jb : ∀ s, stopOf B' rt = some s → y < s := fun s e => (minO_lt (fun z hz => ys z (rst.trans hz))).2 e
              rw [← onA y y0 ja, ← onB y y0 jb]
              refine hx y (by omega) ?_
              cases re with
              | none =>
                have hp1 : past = rb + WA.length + WB.length := hp1
                omega
              | some s =>
                have hp1 : past = (if s < rb + WA.length + WB.length then s else rb + WA.length + WB.length) := hp1
                have := ys s rfl
                split at hp1 <;> omega
          refine ⟨rfl, ⟨_, _, _, _, _, _, rfl⟩, fun r' h' x x0 x1 => ?_, fun e x x0 => ?_⟩
          · have := hnext _ r' hri h'
            have this : re = some r'.b := this
            exact row x x0 (fun s z => by rw [this] at z; cases z; exact x1)
          · have z := hlast ⟨rb, re, rh, rt⟩ (by rw [show rs.length - 1 = i from by omega]; exact hri)
            have z : re = none := z
            exact row x x0 (fun s y => by rw [z] at y; cases y)
    · rintro σ M ⟨rfl, _, _, h⟩
      rw [List.length_map, lq] at h
      exact q M none sG (h rfl)
end
end K12

namespace K12
open PySem PySem.Spec PyProof.Rows L2
/-! ### == and != of a course and anything -/
/-- what isinstance asks of the class -/
structure TxtC (K : PySem.W.Frag) (CC : Addr) : Prop where
  ha : PySem.W.findIn K (.ref CC) "__class__" = some (some (.builtin "object.__class__"))
  hn : PySem.W.specialIn K (.builtin "object.__class__") "__get__" = some (some (.builtin "getset_descriptor.__get__"))
  htk : PySem.W.takesIn K (.builtin "object.__class__") = some true
  hm : PySem.W.mroIn K CC (.type "object") = some true
  me : PySem.W.kitOne K (.ref CC) (.ref CC) = some true
def DCrs (K : PySem.W.Frag) (C CC : Addr) (H : Hp) (x : Addr) (v : V) (b : Bool) : Prop :=
  (∃ (y : Addr) (A B : List (Option Int × W2)) (r : Option Int), v = .ref y ∧ CourseAt K C CC H x A ∧ CourseAt K C CC H y B ∧ Near A ∧ Near B ∧ FirstV A B r ∧ b = decide (r = none)) ∨
  (∃ (ty : Value) (A : List (Option Int × W2)), CourseAt K C CC H x A ∧ TyX K H v ty ∧ PySem.W.kitOne K ty (.ref CC) = some false ∧ b = false)
theorem DCrs.crs {K : PySem.W.Frag} {C CC : Addr} {H : Hp} {x : Addr} {v : V} {b : Bool} (h : DCrs K C CC H x v b) : ∃ dx fs, H x = some (.ins CC dx fs) := by
  rcases h with ⟨_, _, _, _, _, ⟨dx, l, _, e, _⟩, _⟩ | ⟨_, _, ⟨dx, l, _, e, _⟩, _⟩
  · exact ⟨dx, _, e⟩
  · exact ⟨dx, _, e⟩
def spEqC (K : PySem.W.Frag) (C CC : Addr) : Sp := fun vs H Q _ => ∃ (x : Addr) (v : V) (b : Bool), vs = [.ref x, v] ∧ DCrs K C CC H x v b ∧ ∀ H', Same H H' → Q (.bl b) H'
section
variable {P : Program} {w : World} {K : PySem.W.Frag} {mg : Str → Option Value} {base : Heap}
theorem scCEq : FnScope ["self", "other"] ["self", "other"] (defScope d_Course_eq) := ⟨rfl, rfl, rfl, by decide +kernel, rfl, by decide +kernel, by decide +kernel⟩
theorem ok_ceq {f f1 C CC : Addr} {fd fd1 : FuncData} (F : Fun K "__eq__" "Course.__eq__" d_Course_eq f fd) (TC : CrsC K CC) (TI : TxtC K CC) (hisi : mg "isinstance" = none) (hcc : mg "Course" = some (.ref CC))
    (A1 : At P w K mg base CX0 4 "first_unlike" ["one", "other"] (spFirst K C CC) f1 fd1) : FnOk P w K mg base CX0 5 f fd ["self", "other"] (spEqC K C CC) := by
  refine F.ok scCEq (fun vs H Q E h => ?_) (fun cdv A outer s H vs Q E hr h => ?_)
  · obtain ⟨x, v, b, rfl, _⟩ := h
    rfl
  · obtain ⟨x, v, b, rfl, d, q⟩ := h
    refine ⟨_, pss_one (ps_ret (pe_and (pe_callB call_isi (by rfl) hisi (by decide +kernel) (pa_cons (pv 1) (pa_cons (pe_glob (v := .ref CC) rfl hcc rfl) pa_nil)))
      (pe_one (pe_cmp (pc_isN (pe_call A1.G hr rfl A1.m A1.k A1.b .nil pass0 (pa_cons (pv 0) (pa_cons (pv 1) pa_nil)))))))), ?_⟩
    rcases d with ⟨y, A1', B1, r, rfl, cx, cy, na, nb, fv, rfl⟩ | ⟨ty, A1', cx, hty, hk, rfl⟩
    · obtain ⟨dy, ly, sy, ey, rest⟩ := id cy
      refine ⟨_, rfl, _, _, _, _, true, rfl, ClsV.own CC, TyX.base (TyOf.ins ey TC.cl TI.ha TI.hn TI.htk TI.hm), TI.me, true, rfl, iteT ?_⟩
      refine ⟨_, rfl, _, rfl, x, y, A1', B1, rfl, cx, cy, na, nb, fun H' r' s' fv' => ?_⟩
      have e := FirstV.one fv fv'
      subst e
      have de : decide (dv r = V.non) = decide (r = none) := dv_eq r none
      show Q (.bl (decide (dv r = V.non))) H'
      rw [de]
      exact q H' s'
    · exact ⟨_, rfl, _, _, _, _, false, rfl, ClsV.own CC, hty, hk, false, rfl, iteF (q H (Same.refl H))⟩
end
structure OwnC (X : Cx) (n : Nat) (C CC f : Addr) : Prop where
  fn : ∃ fd ps, FnOk X.prog X.w X.K X.mg X.base CX0 n f fd ps (spEqC X.K C CC) ∧ Binds X.K fd ps []
  at_ : PySem.W.findIn X.K (.ref CC) "__eq__" = some (some (.ref f))
  isf : PySem.W.isFn X.K (.ref f) = true
/-- the heap has grown -/
def Grown (X : Cx) (pins : List (Addr × Obj)) (σ : L2.St) (H : Hp) (s' : Shared) : Prop := ∃ H', Same H H' ∧ Inv X pins σ H' s'
section
variable {X : Cx} {n : Nat} {C CC f : Addr} {A : Around} {pins : List (Addr × Obj)} {s : Shared} {σ : L2.St} {H : Hp} {x : Addr} {v : V} {u : Value} {b : Bool}
theorem run_ownC (O : OwnC X n C CC f) (sb : Sub X n A) (I : Inv X pins σ H s) (rv : RelV v u) (hv : DCrs X.K C CC H x v b) :
    wpAny (model X.prog X.w) A (call (.ref f) [.ref x, u]) (fun q s' => q = .bool b ∧ Grown X pins σ H s') X.xe s := by
  obtain ⟨fd, ps, F, hb⟩ := O.fn
  have hsp : spEqC X.K C CC [.ref x, v] H (fun z H' => z = .bl b ∧ Same H H') E0 := ⟨x, v, b, rfl, hv, fun H' s' => ⟨rfl, s'⟩⟩
  have e0 : Env0 X.prog X.w X.K X.mg X.base A X.stack s H := by
    have e := I.env0
    exact ⟨by rw [sb.fr]; exact e.frames, e.mod, e.bs, e.bsz, e.funs, e.frf, e.hok, e.bare⟩
  have hl := F.len _ _ _ _ hsp
  have r2 : Vals [V.ref x, v] [Value.ref x, u] := .cons rfl (.cons rv .nil)
  have bb := hb s [.ref x, u] I.kIn (by simpa using hl)
  rw [List.append_nil] at bb
  refine wpAny_call (codeAny_mono (F.run A X.stack s H ⟨[.ref x, u], []⟩ [.ref x, u] [.ref x, v] _ E0 sb.room e0 bb r2 hsp) fun q s' hq => ?_)
  cases q with
  | error e => exact hq.elim
  | ok fl =>
    cases fl with
    | ret z =>
      obtain ⟨y, H', I', ry, ey, eH⟩ := I.after hq
      subst ey
      cases ry
      exact ⟨rfl, H', eH, I'⟩
    | next => exact False.elim hq
    | brk => exact False.elim hq
    | cont => exact False.elim hq
theorem ins_atC (I : Inv X pins σ H s) (hx : ∃ dx fs, H x = some (.ins CC dx fs)) : ∃ ox od, PySem.W.InstAt s.heap x ox CC od := by
  obtain ⟨dx, fs, e⟩ := hx
  obtain ⟨m, J, _⟩ := ins_get I.hok e
  obtain ⟨od, J, _⟩ := J.look
  exact ⟨_, _, J⟩
/-- a course on the left -/
theorem rc_leftC (O : OwnC X n C CC f) (sb : Sub X n A) (I : Inv X pins σ H s) (rv : RelV v u) (hv : DCrs X.K C CC H x v b) {ty : Value} (hty : TyX X.K H v ty) (hf : PySem.W.notFirst X.K CC ty = true) :
    wpAny (model X.prog X.w) A (richCompare .Eq (.ref x) u) (fun q s' => q = .bool b ∧ Grown X pins σ H s') X.xe s := by
  obtain ⟨ox, od, J⟩ := ins_atC I hv.crs
  obtain ⟨m, hF⟩ := I.fr
  obtain ⟨Ph, Z, ph, _⟩ := kit_of I rv hty
  have LT := Z.ty (model X.prog X.w) s.heap I.kIn ph
  refine PySem.W.cmp_K (op := .Eq) (tb := ty) sb.room.units0 hF I.ok.mod.kin J LT hf O.at_ O.isf ?_
  refine wpAny_mono (run_ownC O sb I rv hv) (fun q s' z => ?_) fun _ _ z => z
  obtain ⟨rfl, I'⟩ := z
  exact ⟨rfl, I'⟩
/-- a value of a built-in type on the left -/
theorem rc_rightC (O : OwnC X n C CC f) (sb : Sub X n A) (I : Inv X pins σ H s) (rv : RelV v u) {T : String} (ty : TyX X.K H v (.type T)) (hv : DCrs X.K C CC H x v b) (hsub : PySem.W.subIn X.K (.ref CC) (.type T) = some false)
    (dec : wpAny (model X.prog X.w) A (tryCompare u "__eq__" (.ref x)) (fun q s' => q = none ∧ s' = s) X.xe s) :
    wpAny (model X.prog X.w) A (richCompare .Eq u (.ref x)) (fun q s' => q = .bool b ∧ Grown X pins σ H s') X.xe s := by
  obtain ⟨ox, od, J⟩ := ins_atC I hv.crs
  obtain ⟨Ph, Z, ph, _⟩ := kit_of I rv ty
  have LT := Z.ty (model X.prog X.w) s.heap I.kIn ph
  have nu : oneThing? .Eq u (.ref x) = none := by cases u <;> rfl
  unfold richCompare
  simp only [nu]
  refine wpAny_holding (wpAny_bind (wpAny_cRoomFor sb.room.units0 ?_))
  refine wpAny_bind (LT.here (wpAny_bind (J.type.here ?_)))
  rw [if_pos (show (Value.type T != Value.ref CC) = true from rfl)]
  refine wpAny_bind ((PySem.W.looks_subIn I.kIn hsub).here ?_)
  simp only [Bool.false_eq_true, if_false]
  refine wpAny_bind (wpAny_mono dec (fun q s' z => ?_) fun _ _ z => z)
  obtain ⟨rfl, rfl⟩ := z
  simp only [Bool.not_false, if_true]
  refine wpAny_bind (m := tryCompare (.ref x) _ u) ?_
  unfold tryCompare
  refine wpAny_bind (PySem.W.ifBound_K I.kIn J O.at_ O.isf (wpAny_mono (run_ownC O sb I rv hv) (fun q s' z => ?_) fun _ _ z => z))
  obtain ⟨rfl, I'⟩ := z
  exact wpAny_pure (wpAny_pure ⟨rfl, I'⟩)
theorem ne_bodyC (O : OwnC X n C CC f) (sb : Sub X (n + 1) A) (I : Inv X pins σ H s) (rv : RelV v u) (hv : DCrs X.K C CC H x v b) {Q : Fin → Shared → Prop}
    (hq : ∀ s', Grown X pins σ H s' → Q (.done (.ret (.bool (!b)))) s') :
    wpAny (model X.prog X.w) A (Builtin.«object.__ne__» ⟨[.ref x, u], []⟩) Q X.xe s := by
  obtain ⟨ox, od, J⟩ := ins_atC I hv.crs
  have sb0 : Sub X n A := sb.mono (Nat.le_succ n)
  unfold Builtin.«object.__ne__»
  refine wpAny_bind (wpAny_of_eq (a := ((Value.ref x : Value), [u])) (by first | rfl | (simp only [slotArgs]; rfl)) ?_)
  dsimp only
  refine wpAny_bind (wpAny_cRoomFor sb.room.units0 ?_)
  refine wpAny_bind (PySem.W.ifBound_K I.kIn J O.at_ O.isf (wpAny_mono (run_ownC O sb0 I rv hv) (fun q s' z => ?_) fun _ _ z => z))
  obtain ⟨rfl, I'⟩ := z
  dsimp only
  exact wpAny_bind (wpAny_truthy_bool (wpAny_pure (hq _ I')))
theorem ne_twoC (O : OwnC X n C CC f) (sb : Sub X (n + 2) A) (I : Inv X pins σ H s) (hne : PySem.W.findIn X.K (.ref CC) "__ne__" = some (some (.builtin "object.__ne__"))) (hob : PySem.W.subIn X.K (.ref CC) (.type "object") = some true)
    (rv : RelV v u) (hv : DCrs X.K C CC H x v b) {ty : Value} (hty : TyX X.K H v ty) (hf : PySem.W.notFirst X.K CC ty = true) :
    wpAny (model X.prog X.w) A (richCompare .NotEq (.ref x) u) (fun q s' => q = .bool (!b) ∧ Grown X pins σ H s') X.xe s := by
  obtain ⟨ox, od, J⟩ := ins_atC I hv.crs
  obtain ⟨Ph, Z, ph, _⟩ := kit_of I rv hty
  have LT := Z.ty (model X.prog X.w) s.heap I.kIn ph
  have isob : PySem.W.Looks (model X.prog X.w) s.heap (isInstance (.ref x) (.type "object")) true := J.type.andThen (PySem.W.looks_subIn I.kIn hob)
  have called : wpAny (model X.prog X.w) A (call (.builtin "object.__ne__") [.ref x, u]) (fun q s' => q = .bool (!b) ∧ Grown X pins σ H s') X.xe s := by
    refine wpAny_call (codeAny_call_builtin F.cmp_object.ne.plain F.cmpEntry_ne (PySem.W.check_slot F.cmpKind_ne F.cmpSplit_ne isob (F.cmpArgs_ne _ _) ?_))
    exact ne_bodyC O (sb.in1) I rv hv fun s' I' => ⟨rfl, I'⟩
  have fin : wpAny (model X.prog X.w) A (call (.builtin "object.__ne__") ([.ref x] ++ [u]) >>= fun v => pure (some v)) (fun o s' => ∃ q, o = some q ∧ q = .bool (!b) ∧ Grown X pins σ H s') X.xe s :=
    wpAny_bind (wpAny_mono called (fun q s' z => wpAny_pure ⟨q, rfl, z⟩) fun _ _ z => z)
  have asked : wpAny (model X.prog X.w) A (callSpecialIfBound? (.ref x) "__ne__" [u]) (fun o s' => ∃ q, o = some q ∧ q = .bool (!b) ∧ Grown X pins σ H s') X.xe s := by
    simp only [callSpecialIfBound?, bindSpecialIfBound?]
    refine wpAny_holding (wpAny_bind (wpAny_bind (wpAny_bind (J.type.here ((PySem.W.looks_findIn I.kIn hne).here ?_)))))
    simp only [F.cmp_object.ne.bind]
    refine wpAny_bind (wpAny_askSetting (wpAny_ite ?_))
    split
    · exact wpAny_bind (wpAny_pure (wpAny_pure fin))
    · exact wpAny_tryCatch (wpAny_bind (wpAny_pure (wpAny_pure fin)))
  unfold richCompare
  simp only [oneThing_ref]
  refine wpAny_holding (wpAny_bind (wpAny_cRoomFor sb.room.units0 ?_))
  refine wpAny_bind (J.type.here (wpAny_bind (LT.here ?_)))
  split
  · rename_i q
    have e : PySem.W.subIn X.K ty (.ref CC) = some false := by
      rcases Bool.or_eq_true_iff.mp hf with e | e
      · rw [beq_iff_eq.mp e] at q; simp at q
      · exact beq_iff_eq.mp e
    refine wpAny_bind ((PySem.W.looks_subIn I.kIn e).here ?_)
    simp only [Bool.false_eq_true, if_false]
    refine wpAny_bind (m := tryCompare (.ref x) _ u) ?_
    unfold tryCompare
    refine wpAny_bind (wpAny_mono asked (fun o s' z => ?_) fun _ _ z => z)
    obtain ⟨q, rfl, rfl, I'⟩ := z
    exact wpAny_pure (wpAny_pure ⟨rfl, I'⟩)
  · refine wpAny_bind (wpAny_pure ?_)
    simp only [Bool.false_eq_true, if_false]
    refine wpAny_bind (m := tryCompare (.ref x) _ u) ?_
    unfold tryCompare
    refine wpAny_bind (wpAny_mono asked (fun o s' z => ?_) fun _ _ z => z)
    obtain ⟨q, rfl, rfl, I'⟩ := z
    exact wpAny_pure (wpAny_pure ⟨rfl, I'⟩)
end
/-! ### the built-in types' own == declines a course -/
section
open AutoSeq1 (wpAny_loadPart')
variable {prog : Program} {w : World} {A : Around} {E : Value → Shared → Prop} {s : Shared} {x C dx : Addr}
theorem dec_int {i : Int} {tk : Tok} (hx : s.heap.get? x = some (PySem.W.instObj C dx)) : wpAny (model prog w) A (tryCompare (.int i tk) "__eq__" (.ref x)) (fun q s' => q = none ∧ s' = s) E s := by
  refine wpAny_tryCompare_declines (typeIs_int s i tk) F.slot_int_eq (GQ.call_here F.slot_int_eq (typeIs_int s i tk) F.entry_int_eq (F.args_int_eq_2 _ _) ?_)
  obtain ⟨hp, g, d, tk', os⟩ := s
  wp_walk using wpAny_loadPart' hx
  exact ⟨rfl, rfl, rfl⟩
theorem dec_bool {y : Bool} (hx : s.heap.get? x = some (PySem.W.instObj C dx)) : wpAny (model prog w) A (tryCompare (.bool y) "__eq__" (.ref x)) (fun q s' => q = none ∧ s' = s) E s := by
  refine wpAny_tryCompare_declines rfl F.slot_bool_eq (GQ.call_here F.slot_bool_eq rfl F.entry_int_eq (F.args_int_eq_2 _ _) ?_)
  obtain ⟨hp, g, d, tk', os⟩ := s
  wp_walk using wpAny_loadPart' hx
  exact ⟨rfl, rfl, rfl⟩
theorem dec_str {y : Str} {tk : Tok} (hx : s.heap.get? x = some (PySem.W.instObj C dx)) : wpAny (model prog w) A (tryCompare (.str y tk) "__eq__" (.ref x)) (fun q s' => q = none ∧ s' = s) E s := by
  refine wpAny_tryCompare_declines (typeIs_str s y tk) F.slot_str_eq (GQ.call_here F.slot_str_eq (typeIs_str s y tk) F.entry_str_eq (F.args_str_eq_2 _ _) ?_)
  obtain ⟨hp, g, d, tk', os⟩ := s
  wp_walk using wpAny_loadPart' hx
  exact ⟨rfl, rfl, rfl⟩
theorem dec_none : wpAny (model prog w) A (tryCompare .none "__eq__" (.ref x)) (fun q s' => q = none ∧ s' = s) E s := by
  refine wpAny_tryCompare_declines rfl F.slot_NoneType_eq (GQ.call_here F.slot_NoneType_eq rfl F.entry_NoneType_eq (F.args_NoneType_eq_2 _ _) ?_)
  obtain ⟨hp, g, d, tk', os⟩ := s
  wp_walk
  exact ⟨rfl, rfl, rfl⟩
theorem dec_lst {a : Addr} {oa : Obj} (ha : s.heap.get? a = some oa) (hc : oa.cls = .type "list") (hin : PySem.W.Looks (model prog w) s.heap (isInstance (.ref x) (.type "list")) false) : wpAny (model prog w) A (tryCompare (.ref a) "__eq__" (.ref x)) (fun q s' => q = none ∧ s' = s) E s := by
  refine wpAny_tryCompare_declines ⟨oa, ha, hc⟩ F.slot_list_eq (GQ.call_here F.slot_list_eq ⟨oa, ha, hc⟩ F.entry_list_eq (F.args_list_eq_2 _ _) ?_)
  unfold Builtin.«list.__eq__»
  refine wpAny_bind (wpAny_of_eq (a := ((Value.ref a : Value), [Value.ref x])) (by first | rfl | (simp only [slotArgs]; rfl)) ?_)
  dsimp only
  refine wpAny_bind (hin.here ?_)
  exact wpAny_pure ⟨rfl, rfl, rfl⟩
theorem dec_dic {a : Addr} {oa : Obj} (ha : s.heap.get? a = some oa) (hc : oa.cls = .type "dict") (hin : PySem.W.Looks (model prog w) s.heap (isInstance (.ref x) (.type "dict")) false) : wpAny (model prog w) A (tryCompare (.ref a) "__eq__" (.ref x)) (fun q s' => q = none ∧ s' = s) E s := by
  refine wpAny_tryCompare_declines ⟨oa, ha, hc⟩ F.slot_dict_eq (GQ.call_here F.slot_dict_eq ⟨oa, ha, hc⟩ F.entry_dict_eq (F.args_dict_eq_2 _ _) ?_)
  unfold Builtin.«dict.__eq__»
  refine wpAny_bind (wpAny_of_eq (a := ((Value.ref a : Value), Value.ref x)) (by first | rfl | (simp only [Builtin.Dict.dictSlotArgs, slotArgs]; rfl)) ?_)
  dsimp only
  refine wpAny_bind (hin.here ?_)
  simp only [Bool.not_false, if_true]
  wp_walk
  exact ⟨rfl, trivial, rfl⟩
end
end K12

namespace K12
open PySem PySem.Spec PyProof.Rows L2
/-! ### told otherwise: what cutting, turning, saying over does to what is told -/
abbrev Sx := Option Int × W2
def turnW (ws : W2) (h : Int) : W2 := ws.drop (h % (ws.length : Int)).toNat ++ ws.take (h % (ws.length : Int)).toNat
def cutsAt (d : Option Int) (h : Int) : Bool := decide (0 < h) && (match d with | none => true | some n => decide (h < n))
def cut1 (x : Sx) (h : Int) : List Sx := if cutsAt x.1 h = true then [(some h, x.2), (x.1.map fun n => n - h, turnW x.2 h)] else [x]
def cutL : List Sx → Int → List Sx
  | [], _ => []
  | x :: r, h => cut1 x h ++ cutL r (h - x.1.getD 0)
def TLx : List Sx → Prop
  | [] => False
  | (none, w) :: r => r = [] ∧ 1 ≤ w.length
  | (some n, w) :: r => 1 ≤ n ∧ 1 ≤ w.length ∧ TLx r
theorem turn_len (ws : W2) (h : Int) : (turnW ws h).length = ws.length := by
  unfold turnW
  rw [List.length_append, List.length_drop, List.length_take]
  omega
theorem turn_mem {ws : W2} {h : Int} {z : Int × Int} (m : z ∈ turnW ws h) : z ∈ ws := by
  unfold turnW at m
  rcases List.mem_append.mp m with q | q
  · exact List.mem_of_mem_drop q
  · exact List.mem_of_mem_take q
theorem turn_at {ws : W2} (l : 1 ≤ ws.length) (h d : Int) : (turnW ws h)[((d - h) % (ws.length : Int)).toNat]? = ws[(d % (ws.length : Int)).toNat]? := by
  have L0 : (0 : Int) < (ws.length : Int) := by omega
  have a0 := Int.emod_nonneg h (show (ws.length : Int) ≠ 0 by omega)
  have a1 := Int.emod_lt_of_pos h L0
  have b0 := Int.emod_nonneg (d - h) (show (ws.length : Int) ≠ 0 by omega)
  have b1 := Int.emod_lt_of_pos (d - h) L0
  have e : d % (ws.length : Int) = (h % (ws.length : Int) + (d - h) % (ws.length : Int)) % (ws.length : Int) := by
    rw [← Int.add_emod, show h + (d - h) = d from by omega]
  rw [e]
  unfold turnW
  generalize h % (ws.length : Int) = a at *
  generalize (d - h) % (ws.length : Int) = b at *
  by_cases c : b.toNat < (ws.drop a.toNat).length
  · rw [List.getElem?_append_left c, List.getElem?_drop]
    rw [List.length_drop] at c
    rw [Int.emod_eq_of_lt (by omega) (by omega), show (a + b).toNat = a.toNat + b.toNat from by omega]
  · rw [List.getElem?_append_right (by omega), List.length_drop]
    rw [List.length_drop] at c
    have e2 : (a + b) % (ws.length : Int) = a + b - ws.length := by
      rw [← Int.sub_emod_right, Int.emod_eq_of_lt (by omega) (by omega)]
    rw [e2, List.getElem?_take_of_lt (by omega)]
    congr 1
    omega
theorem cuts_none {h : Int} : cutsAt none h = decide (0 < h) := by
  unfold cutsAt
  simp
theorem cuts_some {n h : Int} : cutsAt (some n) h = (decide (0 < h) && decide (h < n)) := rfl
theorem cutL_neg : ∀ {xs : List Sx} {h : Int}, TLx xs → h ≤ 0 → cutL xs h = xs
  | (none, w) :: r, h, t, l => by
    have t : r = [] ∧ 1 ≤ w.length := t
    rw [t.1]
    show cut1 (none, w) h ++ [] = _
    unfold cut1
    rw [cuts_none, if_neg (by simp; omega)]
    rfl
  | (some n, w) :: r, h, t, l => by
    have t : 1 ≤ n ∧ 1 ≤ w.length ∧ TLx r := t
    show cut1 (some n, w) h ++ cutL r (h - n) = _
    rw [cutL_neg t.2.2 (by omega)]
    unfold cut1
    rw [cuts_some, if_neg (by simp; omega)]
    rfl
theorem TLx.cut : ∀ {xs : List Sx} {h : Int}, TLx xs → TLx (cutL xs h) ∧ (cutL xs h).length ≤ xs.length + 1
  | (none, w) :: r, h, t => by
    have t : r = [] ∧ 1 ≤ w.length := t
    rw [t.1]
    show TLx (cut1 (none, w) h ++ []) ∧ (cut1 (none, w) h ++ []).length ≤ _
    unfold cut1
    rw [cuts_none]
    by_cases c : 0 < h
    · rw [if_pos (by simpa using c)]
      exact ⟨⟨by omega, t.2, rfl, by rw [turn_len]; exact t.2⟩, Nat.le_refl _⟩
    · rw [if_neg (by simpa using c)]
      exact ⟨⟨rfl, t.2⟩, by simp⟩
  | (some n, w) :: r, h, t => by
    have t : 1 ≤ n ∧ 1 ≤ w.length ∧ TLx r := t
    show TLx (cut1 (some n, w) h ++ cutL r (h - n)) ∧ (cut1 (some n, w) h ++ cutL r (h - n)).length ≤ _
    unfold cut1
    rw [cuts_some]
    by_cases c : 0 < h ∧ h < n
    · rw [if_pos (by simpa using c), cutL_neg t.2.2 (by omega)]
      exact ⟨⟨by omega, t.2.1, by show 1 ≤ n - h; omega, by rw [turn_len]; exact t.2.1, t.2.2⟩, by simp⟩
    · rw [if_neg (by simpa using c)]
      have ih := TLx.cut (h := h - n) t.2.2
      refine ⟨⟨t.1, t.2.1, ih.1⟩, ?_⟩
      have := ih.2
      simp only [List.length_append, List.length_cons, List.length_nil]
      omega
theorem onV_cut : ∀ {xs : List Sx} {h d : Int}, TLx xs → 0 ≤ d → onV (cutL xs h) d = onV xs d
  | (none, w) :: r, h, d, t, d0 => by
    have t : r = [] ∧ 1 ≤ w.length := t
    show onV (cut1 (none, w) h ++ cutL r (h - 0)) d = w[(d % (w.length : Int)).toNat]?
    unfold cut1
    rw [cuts_none]
    by_cases c : 0 < h
    · rw [if_pos (by simpa using c)]
      show (if d < h then w[(d % (w.length : Int)).toNat]? else (turnW w h)[((d - h) % ((turnW w h).length : Int)).toNat]?) = _
      rw [turn_len]
      split
      · rfl
      · exact turn_at t.2 h d
    · rw [if_neg (by simpa using c)]
      rfl
  | (some n, w) :: r, h, d, t, d0 => by
    have t : 1 ≤ n ∧ 1 ≤ w.length ∧ TLx r := t
    show onV (cut1 (some n, w) h ++ cutL r (h - n)) d = if d < n then w[(d % (w.length : Int)).toNat]? else onV r (d - n)
    unfold cut1
    rw [cuts_some]
    by_cases c : 0 < h ∧ h < n
    · rw [if_pos (by simpa using c), cutL_neg t.2.2 (by omega)]
      show (if d < h then w[(d % (w.length : Int)).toNat]? else if d - h < n - h then (turnW w h)[((d - h) % ((turnW w h).length : Int)).toNat]? else onV r (d - h - (n - h))) = _
      rw [turn_len, show d - h - (n - h) = d - n from by omega]
      by_cases c1 : d < h
      · rw [if_pos c1, if_pos (by omega)]
      · rw [if_neg c1]
        by_cases c2 : d < n
        · rw [if_pos (by omega), if_pos c2]
          exact turn_at t.2.1 h d
        · rw [if_neg (by omega), if_neg c2]
    · rw [if_neg (by simpa using c)]
      show (if d < n then w[(d % (w.length : Int)).toNat]? else onV (cutL r (h - n)) (d - n)) = _
      by_cases c2 : d < n
      · rw [if_pos c2, if_pos c2]
      · rw [if_neg c2, if_neg c2]
        exact onV_cut t.2.2 (by omega)
theorem cutL_mem : ∀ {xs : List Sx} {h B : Int} {x : Sx}, TLx xs → h ≤ B → x ∈ cutL xs h → ∃ y ∈ xs, (x.2 = y.2 ∨ ∃ g, x.2 = turnW y.2 g) ∧ ((∀ n, y.1 = some n → n ≤ B) → ∀ n, x.1 = some n → n ≤ B)
  | (d, w) :: r, h, B, x, t, hB, m => by
    have t2 : ∀ n, d = some n → 1 ≤ n := fun n e => by
      subst e
      exact (show 1 ≤ n ∧ _ from t).1
    have m : x ∈ cut1 (d, w) h ++ cutL r (h - d.getD 0) := m
    rcases List.mem_append.mp m with q | q
    · unfold cut1 at q
      refine ⟨(d, w), List.mem_cons_self, ?_⟩
      by_cases c : cutsAt d h = true
      · have c0 : 0 < h := by
          unfold cutsAt at c
          simp at c
          exact c.1
        rw [if_pos c] at q
        simp only [List.mem_cons, List.not_mem_nil, or_false] at q
        rcases q with q | q
        · rw [q]
          exact ⟨.inl rfl, fun _ n e => by cases e; exact hB⟩
        · rw [q]
          refine ⟨.inr ⟨h, rfl⟩, fun k n e => ?_⟩
          obtain ⟨m', em, rfl⟩ := Option.map_eq_some_iff.mp e
          have := k m' em
          omega
      · rw [if_neg c] at q
        rw [List.mem_singleton.mp q]
        exact ⟨.inl rfl, fun k => k⟩
    · cases d with
      | none =>
        have t : r = [] ∧ 1 ≤ w.length := t
        rw [t.1] at q
        cases q
      | some n =>
        have t : 1 ≤ n ∧ 1 ≤ w.length ∧ TLx r := t
        obtain ⟨y, hy, z⟩ := cutL_mem (B := B) t.2.2 (show h - n ≤ B by omega) q
        exact ⟨y, List.mem_cons_of_mem _ hy, z⟩
theorem TLx.all : ∀ {xs : List Sx}, TLx xs → ∀ (i : Nat) (x : Sx), xs[i]? = some x → 1 ≤ x.2.length ∧ (x.1 = none ↔ i + 1 = xs.length) ∧ ∀ n, x.1 = some n → 1 ≤ n
  | (none, w) :: r, t, i, x, hx => by
    have t : r = [] ∧ 1 ≤ w.length := t
    rw [t.1] at hx ⊢
    cases i with
    | zero =>
      have : (none, w) = x := by simpa using hx
      rw [← this]
      exact ⟨t.2, ⟨fun _ => rfl, fun _ => rfl⟩, fun n e => nomatch e⟩
    | succ i => simp at hx
  | (some n, w) :: r, t, i, x, hx => by
    have t : 1 ≤ n ∧ 1 ≤ w.length ∧ TLx r := t
    cases i with
    | zero =>
      have : (some n, w) = x := by simpa using hx
      rw [← this]
      refine ⟨t.2.1, ⟨(fun e => nomatch e), fun e => ?_⟩, fun m e => by cases e; exact t.1⟩
      have e : 0 + 1 = r.length + 1 := e
      cases r with
      | nil => exact t.2.2.elim
      | cons y r => simp at e
    | succ i =>
      have hx : r[i]? = some x := by simpa using hx
      obtain ⟨a, b, c⟩ := TLx.all t.2.2 i x hx
      refine ⟨a, ⟨fun e => ?_, fun e => ?_⟩, c⟩
      · have := b.mp e
        show i + 1 + 1 = r.length + 1
        omega
      · have e : i + 1 + 1 = r.length + 1 := e
        exact b.mpr (by omega)
theorem TLx.told {xs : List Sx} (t : TLx xs) (l : xs.length ≤ 60) (w : ∀ x ∈ xs, x.2.length ≤ 60) : Told xs := by
  refine ⟨?_, l, fun i x hx => ⟨(t.all i x hx).1, w x (List.mem_of_getElem? hx)⟩, fun i x hx => (t.all i x hx).2.1, fun i x n hx => (t.all i x hx).2.2 n⟩
  cases xs with
  | nil => exact t.elim
  | cons x r => simp
theorem TLx.of : ∀ {xs : List Sx}, 1 ≤ xs.length → (∀ (i : Nat) (x : Sx), xs[i]? = some x → 1 ≤ x.2.length ∧ (x.1 = none ↔ i + 1 = xs.length) ∧ ∀ n, x.1 = some n → 1 ≤ n) → TLx xs
  | [], h, _ => by simp at h
  | (none, w) :: r, _, f => by
    have h0 := f 0 _ rfl
    have := h0.2.1.mp rfl
    have e : 0 + 1 = r.length + 1 := this
    exact ⟨List.length_eq_zero_iff.mp (by omega), h0.1⟩
  | (some n, w) :: r, _, f => by
    have h0 := f 0 _ rfl
    have l : 1 ≤ r.length := by
      have := h0.2.1
      have e : ¬ (0 + 1 = r.length + 1) := fun e => nomatch this.mpr e
      omega
    refine ⟨h0.2.2 n rfl, h0.1, TLx.of l fun i x hx => ?_⟩
    obtain ⟨a, b, c⟩ := f (i + 1) x (by simpa using hx)
    refine ⟨a, ⟨fun e => ?_, fun e => b.mpr ?_⟩, c⟩
    · have := b.mp e
      have e : i + 1 + 1 = r.length + 1 := this
      omega
    · show i + 1 + 1 = r.length + 1
      omega
theorem told_tl {xs : List Sx} (h : Told xs) : TLx xs := TLx.of h.pos fun i x hx => ⟨(h.word i x hx).1, h.open_ i x hx, fun n e => h.days i x n hx e⟩
theorem DT.cut {n k e : Nat} {xs : List Sx} {h : Int} (d : DT n k e xs) (n60 : n + 1 ≤ 60) (k60 : k ≤ 60) (h1 : h ≤ 2 ^ 41) : DT (n + 1) k e (cutL xs h) := by
  have t := told_tl d.ok
  have c := t.cut (h := h)
  have few := d.few
  have ln : ∀ x ∈ cutL xs h, x.2.length ≤ k := fun x hx => by
    obtain ⟨y, hy, z, _⟩ := cutL_mem t h1 hx
    have := d.len y hy
    rcases z with z | ⟨g, z⟩
    · rw [z]; exact this
    · rw [z, turn_len]; exact this
  refine ⟨c.1.told (by omega) (fun x hx => Nat.le_trans (ln x hx) k60), by omega, ln, fun x hx y hy => ?_, fun x hx m em => ?_⟩
  · obtain ⟨y', hy', z, _⟩ := cutL_mem t h1 hx
    rcases z with z | ⟨g, z⟩
    · rw [z] at hy; exact d.prs y' hy' y hy
    · rw [z] at hy; exact d.prs y' hy' y (turn_mem hy)
  · obtain ⟨y', hy', _, z⟩ := cutL_mem t h1 hx
    exact z (d.far y' hy') m em
theorem cutL_snoc : ∀ (xs : List Sx) (x : Sx) (h : Int), cutL (xs ++ [x]) h = cutL xs h ++ cut1 x (h - (xs.map fun y => y.1.getD 0).sum)
  | [], x, h => by
    show cut1 x h ++ [] = [] ++ cut1 x (h - 0)
    rw [Int.sub_zero, List.append_nil, List.nil_append]
  | y :: r, x, h => by
    show cut1 y h ++ cutL (r ++ [x]) (h - y.1.getD 0) = (cut1 y h ++ cutL r (h - y.1.getD 0)) ++ cut1 x (h - (y.1.getD 0 + (r.map fun y => y.1.getD 0).sum))
    rw [cutL_snoc r x, List.append_assoc, show h - y.1.getD 0 - (r.map fun y => y.1.getD 0).sum = h - (y.1.getD 0 + (r.map fun y => y.1.getD 0).sum) from by omega]
theorem cutL_next {told : List Sx} {i : Nat} {x : Sx} (hx : told[i]? = some x) (h : Int) : cutL (told.take (i + 1)) h = cutL (told.take i) h ++ cut1 x (h - bAt told i) := by
  obtain ⟨hi, e⟩ := List.getElem?_eq_some_iff.mp hx
  rw [List.take_succ_eq_append_getElem hi, e, cutL_snoc]
  rfl
/-! a day on which a stretch begins -/
def Beg : List Sx → Int → Prop
  | [], _ => False
  | x :: r, h => h = 0 ∨ ∃ n, x.1 = some n ∧ n ≤ h ∧ Beg r (h - n)
theorem beg_cut : ∀ {xs : List Sx} {h : Int}, TLx xs → 0 ≤ h → Beg (cutL xs h) h
  | (none, w) :: r, h, t, h0 => by
    show Beg (cut1 (none, w) h ++ cutL r (h - 0)) h
    unfold cut1
    rw [cuts_none]
    by_cases c : 0 < h
    · rw [if_pos (by simpa using c)]
      exact .inr ⟨h, rfl, Int.le_refl _, .inl (by omega)⟩
    · rw [if_neg (by simpa using c)]
      exact .inl (by omega)
  | (some n, w) :: r, h, t, h0 => by
    have t : 1 ≤ n ∧ 1 ≤ w.length ∧ TLx r := t
    show Beg (cut1 (some n, w) h ++ cutL r (h - n)) h
    unfold cut1
    rw [cuts_some]
    by_cases c : 0 < h ∧ h < n
    · rw [if_pos (by simpa using c)]
      exact .inr ⟨h, rfl, Int.le_refl _, .inl (by omega)⟩
    · rw [if_neg (by simpa using c)]
      by_cases c0 : h = 0
      · exact .inl c0
      · exact .inr ⟨n, rfl, by omega, beg_cut t.2.2 (by omega)⟩
theorem Beg.cut : ∀ {xs : List Sx} {h g : Int}, Beg xs h → Beg (cutL xs g) h
  | x :: r, h, g, b => by
    show Beg (cut1 x g ++ cutL r (g - x.1.getD 0)) h
    unfold cut1
    rcases b with b | ⟨n, e, l, b⟩
    · split <;> exact .inl b
    · by_cases c : cutsAt x.1 g = true
      · rw [if_pos c]
        rw [e] at c ⊢
        rw [cuts_some] at c
        simp at c
        refine .inr ⟨g, rfl, by omega, .inr ⟨n - g, rfl, by omega, ?_⟩⟩
        rw [show h - g - (n - g) = h - n from by omega]
        exact b.cut
      · rw [if_neg c]
        exact .inr ⟨n, e, l, b.cut⟩
theorem Beg.at_ : ∀ {xs : List Sx} {h : Int}, Beg xs h → ∃ k, k < xs.length ∧ bAt xs k = h
  | x :: r, h, b => by
    rcases b with b | ⟨n, e, l, b⟩
    · exact ⟨0, by simp, by rw [bAt_zero, b]⟩
    · obtain ⟨k, kl, kb⟩ := b.at_
      refine ⟨k + 1, by simpa using kl, ?_⟩
      rw [bAt_cons, e, kb]
      show n + (h - n) = h
      omega
/-! said over so many times -/
def repW (ws : W2) (m : Nat) : W2 := (List.replicate m ws).flatten
theorem rep_len (ws : W2) (m : Nat) : (repW ws m).length = m * ws.length := by
  unfold repW
  simp
theorem rep_mem {ws : W2} {m : Nat} {z : Int × Int} (h : z ∈ repW ws m) : z ∈ ws := by
  unfold repW at h
  simp at h
  obtain ⟨a, ⟨_, rfl⟩, hz⟩ := h
  exact hz
theorem rep_get {ws : W2} (l : 1 ≤ ws.length) : ∀ (m j : Nat), j < m * ws.length → (repW ws m)[j]? = ws[j % ws.length]?
  | 0, j, h => by simp at h
  | m + 1, j, h => by
    show (ws ++ repW ws m)[j]? = _
    by_cases c : j < ws.length
    · rw [List.getElem?_append_left c, Nat.mod_eq_of_lt c]
    · rw [List.getElem?_append_right (by omega), rep_get l m (j - ws.length) (by rw [Nat.succ_mul] at h; omega)]
      congr 1
      exact (Nat.mod_eq_sub_mod (by omega)).symm
theorem rep_at {ws : W2} (l : 1 ≤ ws.length) {m : Nat} (m1 : 1 ≤ m) {d : Int} (d0 : 0 ≤ d) : (repW ws m)[(d % ((repW ws m).length : Int)).toNat]? = ws[(d % (ws.length : Int)).toNat]? := by
  obtain ⟨y, rfl⟩ : ∃ y : Nat, d = (y : Int) := ⟨d.toNat, (Int.toNat_of_nonneg d0).symm⟩
  rw [← Int.natCast_emod, ← Int.natCast_emod, Int.toNat_natCast, Int.toNat_natCast, rep_len]
  have p : 0 < m * ws.length := Nat.mul_pos m1 l
  rw [rep_get l m _ (Nat.mod_lt _ p), Nat.mod_mod_of_dvd _ (Nat.dvd_mul_left _ _)]
theorem onV_set : ∀ {xs : List Sx} {a m : Nat} {x : Sx} {d : Int}, xs[a]? = some x → 1 ≤ x.2.length → 1 ≤ m → TLx xs → 0 ≤ d → onV (xs.set a (x.1, repW x.2 m)) d = onV xs d
  | (dx, w) :: r, 0, m, x, d, h, l, m1, t, d0 => by
    have e : (dx, w) = x := by simpa using h
    subst e
    have l : 1 ≤ w.length := l
    cases dx with
    | none => exact rep_at l m1 d0
    | some n =>
      show (if d < n then (repW w m)[(d % ((repW w m).length : Int)).toNat]? else onV r (d - n)) = if d < n then w[(d % (w.length : Int)).toNat]? else onV r (d - n)
      rw [rep_at l m1 d0]
  | (none, w) :: r, a + 1, m, x, d, h, l, m1, t, d0 => by
    have t : r = [] ∧ 1 ≤ w.length := t
    rw [t.1] at h
    simp at h
  | (some n, w) :: r, a + 1, m, x, d, h, l, m1, t, d0 => by
    have t : 1 ≤ n ∧ 1 ≤ w.length ∧ TLx r := t
    show (if d < n then w[(d % (w.length : Int)).toNat]? else onV (r.set a (x.1, repW x.2 m)) (d - n)) = if d < n then w[(d % (w.length : Int)).toNat]? else onV r (d - n)
    by_cases c : d < n
    · rw [if_pos c, if_pos c]
    · rw [if_neg c, if_neg c]
      exact onV_set (by simpa using h) l m1 t.2.2 (by omega)
theorem TLx.set : ∀ {xs : List Sx} {a : Nat} {x : Sx} {w' : W2}, xs[a]? = some x → 1 ≤ w'.length → TLx xs → TLx (xs.set a (x.1, w'))
  | (dx, w) :: r, 0, x, w', h, l, t => by
    have e : (dx, w) = x := by simpa using h
    subst e
    cases dx with
    | none => exact ⟨(show r = [] ∧ _ from t).1, l⟩
    | some n => exact ⟨(show 1 ≤ n ∧ _ from t).1, l, (show 1 ≤ n ∧ 1 ≤ w.length ∧ TLx r from t).2.2⟩
  | (none, w) :: r, a + 1, x, w', h, l, t => by
    have t : r = [] ∧ 1 ≤ w.length := t
    rw [t.1] at h
    simp at h
  | (some n, w) :: r, a + 1, x, w', h, l, t => by
    have t : 1 ≤ n ∧ 1 ≤ w.length ∧ TLx r := t
    exact ⟨t.1, t.2.1, TLx.set (by simpa using h) l t.2.2⟩
theorem DT.rep {n k e a m : Nat} {xs : List Sx} {x : Sx} (d : DT n k e xs) (n60 : n ≤ 60) (hx : xs[a]? = some x) (m1 : 1 ≤ m) (m3 : m ≤ 3) (k60 : 3 * k ≤ 60) : DT n (3 * k) e (xs.set a (x.1, repW x.2 m)) ∧ ∀ y, 0 ≤ y → onV (xs.set a (x.1, repW x.2 m)) y = onV xs y := by
  have t := told_tl d.ok
  have lx := (d.ok.word a x hx).1
  have mx := List.mem_of_getElem? hx
  have lk := d.len x mx
  have cs : ∀ {Pr : Sx → Prop}, (∀ y ∈ xs, Pr y) → Pr (x.1, repW x.2 m) → ∀ y ∈ xs.set a (x.1, repW x.2 m), Pr y := fun p q y hy => by
    rcases List.mem_or_eq_of_mem_set hy with z | z
    · exact p y z
    · rw [z]; exact q
  have rl : (repW x.2 m).length ≤ 3 * k := by
    rw [rep_len]
    exact Nat.mul_le_mul m3 lk
  have ln : ∀ y ∈ xs.set a (x.1, repW x.2 m), y.2.length ≤ 3 * k := cs (fun y hy => by have := d.len y hy; omega) rl
  have r1 : 1 ≤ (repW x.2 m).length := by
    rw [rep_len]
    exact Nat.mul_pos m1 lx
  refine ⟨⟨(TLx.set hx r1 t).told (by rw [List.length_set]; have := d.few; omega) (fun y hy => Nat.le_trans (ln y hy) k60), by rw [List.length_set]; exact d.few, ln, cs d.prs (fun z hz => d.prs x mx z (rep_mem hz)), cs d.far (d.far x mx)⟩, fun y y0 => onV_set hx lx m1 t y0⟩
end K12

namespace K12
open PySem PySem.Spec PyProof.Rows L2
/-! ### the law's own cuts -/
def spTurned : Sp := fun vs H Q _ => ∃ (l : Addr) (by_ : Int) (ws : W2) (N : Addr → Prop), vs = [.ref l, .int by_] ∧ (∀ q, N q → LstAt H q) ∧ PrsN N H l ws ∧ 1 ≤ ws.length ∧ ws.length ≤ 60 ∧
  ∀ (H' : Hp) (r : Addr), Same H H' → H r = none → PrsN N H' r (turnW ws by_) → Q (.ref r) H'
def spCut : Sp := fun vs H Q _ => ∃ (l : Addr) (day : Int) (told : List Sx) (N : Addr → Prop), vs = [.ref l, .int day] ∧ (∀ q, N q → LstAt H q) ∧ TolN N H l told ∧ Told told ∧
  ∀ (H' : Hp) (r : Addr), Same H H' → H r = none → TolN N H' r (cutL told day) → Q (.ref r) H'
theorem prs_new {N : Addr → Prop} {G : Hp} {r : Addr} {qs : List Addr} {ws : W2} (lN : ∀ q, N q → LstAt G q) (hr : G r = none) (a : All2 (PrAt G) qs ws) : PrsN N (upd G r (.lst (qs.map V.ref))) r ws :=
  ⟨fun z => (by
    obtain ⟨xs, e⟩ := lN r z
    rw [hr] at e
    cases e), qs, upd_same, a.mono fun q y _ _ h => (by
      show upd G r (.lst (qs.map V.ref)) q = _
      rw [upd_ne (ne_of_none h hr)]
      exact h)⟩
theorem PrsN.same {N : Addr → Prop} {H H' : Hp} {l : Addr} {ws : W2} (h : PrsN N H l ws) (s : Same H H') : PrsN N H' l ws := by
  obtain ⟨n, qs, e, a⟩ := h
  exact ⟨n, qs, s _ _ e, a.mono fun q y _ _ z => s _ _ z⟩
theorem StN.same {N : Addr → Prop} {H H' : Hp} {t : Addr} {x : Sx} (h : StN N H t x) (s : Same H H') : StN N H' t x := by
  obtain ⟨wl, e, p⟩ := h
  exact ⟨wl, s _ _ e, p.same s⟩
theorem TolN.same {N : Addr → Prop} {H H' : Hp} {l : Addr} {told : List Sx} (h : TolN N H l told) (s : Same H H') : TolN N H' l told := by
  obtain ⟨n, ts, e, a⟩ := h
  exact ⟨n, ts, s _ _ e, a.mono fun t x _ _ z => z.same s⟩
theorem lst_same {N : Addr → Prop} {H H' : Hp} (h : ∀ q, N q → LstAt H q) (s : Same H H') : ∀ q, N q → LstAt H' q := fun q n => by
  obtain ⟨xs, e⟩ := h q n
  exact ⟨xs, s _ _ e⟩
/-- one more list that may change -/
def Or1 (N : Addr → Prop) (F : Addr) : Addr → Prop := fun q => N q ∨ q = F
theorem PrsN.or1 {N : Addr → Prop} {H : Hp} {l F : Addr} {ws : W2} (h : PrsN N H l ws) (hF : H F = none) : PrsN (Or1 N F) H l ws := by
  obtain ⟨n, qs, e, a⟩ := h
  exact ⟨fun z => z.elim n (fun z => by rw [z, hF] at e; cases e), qs, e, a⟩
/-- a new stretch, appended -/
theorem push {M : Addr → Prop} {H G : Hp} {F T wl : Addr} {ts : List Addr} {tl : List Sx} {dd : Option Int} {ws : W2} (hF : H F = none) (s : Same H G) (eF : G F = some (.lst (ts.map V.ref))) (hts : All2 (StN M G) ts tl)
    (lM : ∀ q, M q → LstAt G q) (mF : M F) (hT : G T = none) (pw : PrsN M G wl ws) {G' : Hp} (e : G' = upd (upd G T (.tup [dv dd, .ref wl])) F (.lst (ts.map V.ref ++ [.ref T]))) :
    Same H G' ∧ G' F = some (.lst ((ts ++ [T]).map V.ref)) ∧ All2 (StN M G') (ts ++ [T]) (tl ++ [(dd, ws)]) ∧ (∀ q, M q → LstAt G' q) ∧ ButN M G G' := by
  have s1 : Same G (upd G T (.tup [dv dd, .ref wl])) := same1 hT
  have eT : (upd G T (.tup [dv dd, .ref wl]) : Hp) T = some (.tup [dv dd, .ref wl]) := upd_same
  have lM1 := lst_same lM s1
  generalize upd G T (.tup [dv dd, .ref wl]) = G1 at *
  subst e
  have k : ButN M G1 (upd G1 F (.lst (ts.map V.ref ++ [.ref T]))) := ButN.put lM1 mF
  have k0 : ButN M G G1 := ButN.same lM s1
  refine ⟨fun b o eb => ?_, by rw [List.map_append]; exact upd_same, (hts.mono fun t x _ _ z => (z.same s1).but k).snoc ⟨wl, k.tup eT, (pw.same s1).but k⟩, fun q mq => ?_, k0.trans k⟩
  · rw [upd_ne (ne_of_none eb hF)]
    exact s1 _ _ (s _ _ eb)
  · by_cases c : q = F
    · rw [c]; exact ⟨_, upd_same⟩
    · obtain ⟨xs, ex⟩ := lM1 q mq
      exact ⟨xs, by rw [upd_ne c]; exact ex⟩
theorem All2.drop {α β : Type} {R : α → β → Prop} {as : List α} {bs : List β} (h : All2 R as bs) (n : Nat) : All2 R (as.drop n) (bs.drop n) :=
  ⟨by rw [List.length_drop, List.length_drop, h.len], fun i a b ha hb => h.all (n + i) a b (by rw [← List.getElem?_drop]; exact ha) (by rw [← List.getElem?_drop]; exact hb)⟩
theorem All2.app {α β : Type} {R : α → β → Prop} {as cs : List α} {bs ds : List β} (h : All2 R as bs) (k : All2 R cs ds) : All2 R (as ++ cs) (bs ++ ds) := by
  refine ⟨by rw [List.length_append, List.length_append, h.len, k.len], fun i x y hx hy => ?_⟩
  by_cases c : i < as.length
  · rw [List.getElem?_append_left c] at hx
    rw [List.getElem?_append_left (by rw [← h.len]; exact c)] at hy
    exact h.all i x y hx hy
  · rw [List.getElem?_append_right (by omega)] at hx
    rw [List.getElem?_append_right (by rw [← h.len]; omega), ← h.len] at hy
    exact k.all _ x y hx hy
section
variable {P : Program} {w : World} {K : PySem.W.Frag} {mg : Str → Option Value} {base : Heap}
theorem scTurned : FnScope ["word", "by"] ["word", "by"] (defScope d_law_turned) := ⟨rfl, rfl, rfl, by decide +kernel, rfl, by decide +kernel, by decide +kernel⟩
theorem ok_turned {f : Addr} {fd : FuncData} (F : Fun K "_law_turned" "_law_turned" d_law_turned f fd) (B : TxtB mg) : FnOk P w K mg base CX0 1 f fd ["word", "by"] spTurned := by
  refine F.ok scTurned (fun vs H Q E h => ?_) (fun cdv A outer s H vs Q E hr h => ?_)
  · obtain ⟨_, _, _, _, rfl, _⟩ := h
    rfl
  · obtain ⟨l, by_, ws, N, rfl, lN, ⟨nl, qs, el, al⟩, l1, l60, q⟩ := h
    refine ⟨_, pss_cons (ps_set (i := 1) scTurned.nd rfl (Or.inl rfl) (pe_op op_mod (pv 1) (pe_callB call_len_seq (by rfl) B.len PySem.boot_len (pa_cons (pv 0) pa_nil))))
      (pss_one (ps_ret (pe_op op_cat (pe_slice sl_list (pv 0) (po_some (pv 1)) po_none) (pe_slice sl_list (pv 0) po_none (po_some (pv 1)))))), ?_⟩
    have lq : qs.length = ws.length := al.len
    have n0 := Int.emod_nonneg by_ (show (ws.length : Int) ≠ 0 by omega)
    have n1 := Int.emod_lt_of_pos by_ (show (0 : Int) < (ws.length : Int) by omega)
    obtain ⟨k, hk⟩ : ∃ k : Nat, by_ % (ws.length : Int) = (k : Int) := ⟨(by_ % (ws.length : Int)).toNat, (Int.toNat_of_nonneg n0).symm⟩
    have kl : k ≤ qs.length := by omega
    have tw : turnW ws by_ = ws.drop k ++ ws.take k := by
      unfold turnW
      rw [hk, Int.toNat_natCast]
    rw [tw] at q
    refine ⟨_, rfl, _, rfl, l, _, rfl, .inl (SqL.of el), _, _, rfl, rfl, (by rw [List.length_map, lq]; omega), ?_⟩
    rw [List.length_map, lq]
    show gName 1 (V.int (by_ % (ws.length : Int))) _ _ _
    rw [hk]
    refine ⟨_, rfl, _, rfl, _, rfl, l, _, rfl, SqL.of el, fun p1 h1 => ?_⟩
    rw [cut_from (by rw [List.length_map]; exact kl), ← List.map_drop]
    have s1 : Same H (upd H p1 (.lst ((qs.drop k).map V.ref))) := same1 h1
    have e1 : (upd H p1 (.lst ((qs.drop k).map V.ref)) : Hp) p1 = some (.lst ((qs.drop k).map V.ref)) := upd_same
    generalize upd H p1 (.lst ((qs.drop k).map V.ref)) = H1 at *
    refine ⟨_, rfl, _, rfl, _, rfl, l, _, rfl, SqL.of (s1 _ _ el), fun p2 h2 => ?_⟩
    rw [cut_to, ← List.map_take]
    have s2 : Same H1 (upd H1 p2 (.lst ((qs.take k).map V.ref))) := same1 h2
    have e2 : (upd H1 p2 (.lst ((qs.take k).map V.ref)) : Hp) p2 = some (.lst ((qs.take k).map V.ref)) := upd_same
    generalize upd H1 p2 (.lst ((qs.take k).map V.ref)) = H2 at *
    refine ⟨p1, p2, _, _, rfl, rfl, s2 _ _ e1, e2, ?_, fun r hr' => ?_⟩
    · rw [List.length_map, List.length_map, List.length_drop, List.length_take]
      exact Nat.le_trans (show qs.length - k + min k qs.length ≤ 60 by omega) (show 60 ≤ sizeLine by decide)
    · rw [← List.map_append]
      have s12 := s1.trans s2
      have hrH : H r = none := by
        cases e : H r with
        | none => rfl
        | some o =>
          have := s12 _ _ e
          rw [hr'] at this
          cases this
      refine q _ r (s12.trans (same1 hr')) hrH (prs_new (lst_same lN s12) hr' ?_)
      have al2 : All2 (PrAt H2) qs ws := al.mono fun c y _ _ z => s12 _ _ z
      exact (al2.drop k).app (al2.take k)
abbrev cutN : List Str := ["told", "day", "found", "at", "days", "word", "here", "rest"]
theorem scCut : FnScope cutN ["told", "day"] (defScope d_law_cut) := ⟨rfl, rfl, rfl, by decide +kernel, rfl, by decide +kernel, by decide +kernel⟩
theorem ok_cut {f f1 : Addr} {fd fd1 : FuncData} (F : Fun K "_law_cut" "_law_cut" d_law_cut f fd) (A1 : At P w K mg base CX0 1 "_law_turned" ["word", "by"] spTurned f1 fd1) : FnOk P w K mg base CX0 2 f fd ["told", "day"] spCut := by
  refine F.ok scCut (fun vs H Q E h => ?_) (fun cdv A outer s H vs Q E hr h => ?_)
  · obtain ⟨_, _, _, _, rfl, _⟩ := h
    rfl
  · obtain ⟨l, day, told, N, rfl, lN, ⟨nl, us, el, al⟩, ok, q⟩ := h
    refine ⟨_, pss_cons (ps_set (i := 2) scCut.nd rfl (Or.inl rfl) (pe_lst pa_nil))
      (pss_cons (ps_set (i := 3) scCut.nd rfl (Or.inl rfl) pe_int)
      (pss_cons (ps_for PassesOwn.never rfl (pi_list (pv 0)) (pg_tup (by rfl) (pgs_cons (pg_name (i := 4) scCut.nd rfl (.inl rfl)) (pgs_cons (pg_name (i := 5) scCut.nd rfl (.inl rfl)) pgs_nil)))
        (pss_cons (ps_set (i := 6) scCut.nd rfl (Or.inl rfl) (pe_op op_sub (pv 1) (pv 3)))
        (C8.pss_cut (ps_if (PW.pt (pw_and (pt_cmpR op_gt (pv 6) pe_int (nomark _)) (pw_and1 (PW.pt (pw_or (pt_cmp (pc_isN (pv 4))) (pw_or1 (pt_cmpR op_lt (pv 6) (pv 4) (nomark _))))))))
          (pss_cons (ps_expr (pe_bm PySem.F.plainAttrs_list PySem.F.slot_list_append PySem.F.type_list_append mt_append (pv 2) (pa_cons (pe_tup (pa_cons (pv 6) (pa_cons (pv 5) pa_nil))) pa_nil)))
          (pss_cons (ps_set (i := 7) scCut.nd rfl (Or.inl rfl) pe_non)
          (C8.pss_cut (ps_if (pt_cmp (pc_notN (pv 4))) (pss_one (ps_set (i := 7) scCut.nd rfl (Or.inl rfl) (pe_op op_sub (pv 4) (pv 6)))) pss_nil)
          (pss_one (ps_expr (pe_bm PySem.F.plainAttrs_list PySem.F.slot_list_append PySem.F.type_list_append mt_append (pv 2) (pa_cons (pe_tup (pa_cons (pv 7) (pa_cons (pe_call A1.G hr rfl A1.m A1.k A1.b .nil pass0 (pa_cons (pv 5) (pa_cons (pv 6) pa_nil))) pa_nil))) pa_nil)))))))
          (pss_one (ps_expr (pe_bm PySem.F.plainAttrs_list PySem.F.slot_list_append PySem.F.type_list_append mt_append (pv 2) (pa_cons (pe_tup (pa_cons (pv 4) (pa_cons (pv 5) pa_nil))) pa_nil)))))
        (pss_one (ps_if (pt_cmp (pc_notN (pv 4))) (pss_one (ps_set (i := 3) scCut.nd rfl (Or.inl rfl) (pe_op op_add (pv 3) (pv 4)))) pss_nil)))))
      (pss_one (ps_ret (pv 2))))), ?_⟩
    refine ⟨(by show 0 ≤ sizeLine; decide), fun F hF => ?_⟩
    have s0 : Same H (upd H F (.lst [])) := same1 hF
    have few := ok.few
    have lu : us.length = told.length := al.len
    have tl := told_tl ok
    refine ⟨_, rfl, l, rfl, ⟨_, SqL.of (s0 _ _ el)⟩, ?_⟩
    refine for_list (K := K) (a := l) (xs := us.map V.ref) (fun i σ G => (∃ v4 v5 v6 v7 : Option V, σ = [some (.ref l), some (.int day), some (.ref F), some (.int (bAt told i)), v4, v5, v6, v7]) ∧ Same H G ∧ (∀ q, Or1 N F q → LstAt G q) ∧
      ∃ (ts : List Addr) (tl : List Sx), G F = some (.lst (ts.map V.ref)) ∧ All2 (StN (Or1 N F) G) ts tl ∧ tl = cutL (told.take i) day ∧ tl.length ≤ 2 * i) ⟨⟨_, _, _, _, rfl⟩, s0, fun q z => ?_, [], [], upd_same, .nil, rfl, Nat.le_refl _⟩ ?_ ?_ ?_
    · rcases z with z | z
      · exact lst_same lN s0 q z
      · rw [z]; exact ⟨_, upd_same⟩
    · rintro i σ G _ ⟨_, sG, _⟩
      exact SqL.of (sG _ _ el)
    · rintro i x σ G hx ⟨⟨v4, v5, v6, v7, rfl⟩, sG, lM, ts, tl, eF, hts, etl, ltl⟩
      rw [List.getElem?_map] at hx
      obtain ⟨t, ht, rfl⟩ := Option.map_eq_some_iff.mp hx
      have il : i < told.length := by
        have := (List.getElem?_eq_some_iff.mp ht).1
        omega
      have hxi : told[i]? = some told[i] := List.getElem?_eq_getElem il
      have nx := cutL_next hxi day
      have bn := bAt_next hxi
      have lw := ok.word i _ hxi
      obtain ⟨wl, et, pw0⟩ := al.all i t _ ht hxi
      have pw : PrsN (Or1 N F) G wl told[i].2 := (pw0.or1 hF).same sG
      have lts : ts.length = tl.length := hts.len
      generalize told[i] = x at *
      obtain ⟨d, ws⟩ := x
      have et2 := sG _ _ et
      have mF : Or1 N F F := .inr rfl
      have sz : tl.length + 1 < sizeLine := Nat.lt_of_le_of_lt (show tl.length + 1 ≤ 121 by omega) (show 121 < sizeLine by decide)
      refine ⟨t, _, rfl, SqT.of et2, rfl, _, _, rfl, _, _, rfl, rfl, ?_⟩
      refine ⟨_, rfl, _, rfl, _, _, rfl, rfl, ?_⟩
      refine ⟨fun σ' G' => (∃ v7 : Option V, σ' = [some (.ref l), some (.int day), some (.ref F), some (.int (bAt told i)), some (dv d), some (.ref wl), some (.int (day - bAt told i)), v7]) ∧ Same H G' ∧ (∀ q, Or1 N F q → LstAt G' q) ∧
        ∃ (ts : List Addr) (tl : List Sx), G' F = some (.lst (ts.map V.ref)) ∧ All2 (StN (Or1 N F) G') ts tl ∧ tl = cutL (told.take (i + 1)) day ∧ tl.length ≤ 2 * (i + 1), ?_, ?_⟩
      · -- the cut itself
        refine ⟨_, rfl, _, _, rfl, rfl, _, rfl, ?_⟩
        by_cases c0 : 0 < day - bAt told i
        · rw [decide_eq_true c0]
          refine iteT ?_
          have cutcase : (∀ n, d = some n → day - bAt told i < n) → cut1 (d, ws) (day - bAt told i) = [(some (day - bAt told i), ws), (d.map fun n => n - (day - bAt told i), turnW ws (day - bAt told i))] := fun hn => by
            unfold cut1
            have : cutsAt d (day - bAt told i) = true := by
              cases d with
              | none => rw [cuts_none]; exact decide_eq_true c0
              | some n => rw [cuts_some, decide_eq_true c0, decide_eq_true (hn n rfl)]; rfl
            exact if_pos this
          have nocase : (∃ n, d = some n ∧ ¬ day - bAt told i < n) → cut1 (d, ws) (day - bAt told i) = [(d, ws)] := fun ⟨n, en, hn⟩ => by
            subst en
            unfold cut1
            rw [cuts_some, decide_eq_false hn, Bool.and_false]
            rfl
          cases d with
          | none =>
            refine ⟨_, rfl, _, rfl, ?_⟩
            rw [show decide (dv none = V.non) = true from decide_eq_true rfl]
            refine iteT ?_
            refine ⟨_, rfl, .inl ⟨rfl, _, SqL.of eF⟩, _, rfl, _, rfl, (by show 2 ≤ sizeLine; decide), fun T hT => ?_⟩
            obtain ⟨p1, p2, p3, p4, p5⟩ := push (dd := some (day - bAt told i)) (G' := upd (upd G T (.tup [.int (day - bAt told i), .ref wl])) F (.lst (ts.map V.ref ++ [.ref T]))) hF sG eF hts lM mF hT pw rfl
            refine ⟨F, _, _, rfl, rfl, same1 hT _ _ eF, (by rw [List.length_map, lts]; omega), ?_⟩
            have pw1 := pw.but p5
            generalize upd (upd G T (.tup [.int (day - bAt told i), .ref wl])) F (.lst (ts.map V.ref ++ [.ref T])) = G1 at *
            refine ⟨fun σ2 G2 => σ2 = [some (.ref l), some (.int day), some (.ref F), some (.int (bAt told i)), some (dv (none)), some (.ref wl), some (.int (day - bAt told i)), some (dv ((none : Option Int).map fun n => n - (day - bAt told i)))] ∧ G2 = G1, ?_, ?_⟩
            · exact ⟨_, rfl, _, rfl, iteN (decide_eq_true rfl) ⟨rfl, rfl⟩⟩
            · rintro σ2 G2 ⟨rfl, rfl⟩
              refine ⟨_, rfl, .inl ⟨rfl, _, SqL.of p2⟩, _, rfl, _, rfl, _, rfl, wl, day - bAt told i, ws, Or1 N F, rfl, p4, pw1, lw.1, lw.2, fun G3 r s3 hr3 pr3 => ?_⟩
              refine ⟨(by show 2 ≤ sizeLine; decide), fun T2 hT2 => ?_⟩
              obtain ⟨q1, q2, q3, q4, q5⟩ := push (dd := (none : Option Int).map fun n => n - (day - bAt told i)) hF (p1.trans s3) (s3 _ _ p2) (p3.mono fun t x _ _ z => z.same s3) (lst_same p4 s3) mF hT2 pr3 rfl
              refine ⟨F, _, _, rfl, rfl, same1 hT2 _ _ (s3 _ _ p2), (by rw [List.length_map, List.length_append, lts]; exact sz), ⟨_, rfl⟩, q1, q4, ts ++ [T] ++ [T2], _, q2, q3, ?_, (by rw [List.length_append, List.length_append]; show tl.length + 1 + 1 ≤ 2 * (i + 1); omega)⟩
              rw [nx, ← etl, cutcase (fun n e => nomatch e), List.append_assoc]
              rfl
          | some n =>
            refine ⟨_, rfl, _, rfl, ?_⟩
            rw [show decide (dv (some n) = V.non) = false from decide_eq_false (fun z => nomatch z)]
            refine iteF ?_
            refine ⟨_, rfl, _, rfl, _, _, rfl, rfl, _, rfl, ?_⟩
            by_cases c1 : day - bAt told i < n
            · rw [decide_eq_true c1]
              refine iteT ?_
              refine ⟨_, rfl, .inl ⟨rfl, _, SqL.of eF⟩, _, rfl, _, rfl, (by show 2 ≤ sizeLine; decide), fun T hT => ?_⟩
              obtain ⟨p1, p2, p3, p4, p5⟩ := push (dd := some (day - bAt told i)) (G' := upd (upd G T (.tup [.int (day - bAt told i), .ref wl])) F (.lst (ts.map V.ref ++ [.ref T]))) hF sG eF hts lM mF hT pw rfl
              refine ⟨F, _, _, rfl, rfl, same1 hT _ _ eF, (by rw [List.length_map, lts]; omega), ?_⟩
              have pw1 := pw.but p5
              generalize upd (upd G T (.tup [.int (day - bAt told i), .ref wl])) F (.lst (ts.map V.ref ++ [.ref T])) = G1 at *
              refine ⟨fun σ2 G2 => σ2 = [some (.ref l), some (.int day), some (.ref F), some (.int (bAt told i)), some (dv (some n)), some (.ref wl), some (.int (day - bAt told i)), some (dv ((some n : Option Int).map fun n => n - (day - bAt told i)))] ∧ G2 = G1, ?_, ?_⟩
              · refine ⟨_, rfl, _, rfl, ?_⟩
                show if (!decide (V.int n = V.non)) = true then _ else _
                rw [decide_eq_false (show ¬ (V.int n = V.non) from fun z => nomatch z)]
                exact iteT ⟨_, rfl, _, rfl, _, _, rfl, rfl, rfl, rfl⟩
              · rintro σ2 G2 ⟨rfl, rfl⟩
                refine ⟨_, rfl, .inl ⟨rfl, _, SqL.of p2⟩, _, rfl, _, rfl, _, rfl, wl, day - bAt told i, ws, Or1 N F, rfl, p4, pw1, lw.1, lw.2, fun G3 r s3 hr3 pr3 => ?_⟩
                refine ⟨(by show 2 ≤ sizeLine; decide), fun T2 hT2 => ?_⟩
                obtain ⟨q1, q2, q3, q4, q5⟩ := push (dd := (some n : Option Int).map fun n => n - (day - bAt told i)) hF (p1.trans s3) (s3 _ _ p2) (p3.mono fun t x _ _ z => z.same s3) (lst_same p4 s3) mF hT2 pr3 rfl
                refine ⟨F, _, _, rfl, rfl, same1 hT2 _ _ (s3 _ _ p2), (by rw [List.length_map, List.length_append, lts]; exact sz), ⟨_, rfl⟩, q1, q4, ts ++ [T] ++ [T2], _, q2, q3, ?_, (by rw [List.length_append, List.length_append]; show tl.length + 1 + 1 ≤ 2 * (i + 1); omega)⟩
                rw [nx, ← etl, cutcase (fun m e => by cases e; exact c1), List.append_assoc]
                rfl
            · rw [decide_eq_false c1]
              refine iteF ?_
              have no := nocase ⟨n, rfl, c1⟩
              refine ⟨_, rfl, .inl ⟨rfl, _, SqL.of eF⟩, _, rfl, _, rfl, (by show 2 ≤ sizeLine; decide), fun T hT => ?_⟩
              obtain ⟨p1, p2, p3, p4, p5⟩ := push (dd := some n) hF sG eF hts lM mF hT pw rfl
              refine ⟨F, _, _, rfl, rfl, same1 hT _ _ eF, (by rw [List.length_map, lts]; omega), ⟨_, rfl⟩, p1, p4, ts ++ [T], _, p2, p3, ?_, by rw [List.length_append]; show tl.length + 1 ≤ _; omega⟩
              rw [nx, ← etl, no]
        · rw [decide_eq_false c0]
          refine iteF ?_
          have no : cut1 (d, ws) (day - bAt told i) = [(d, ws)] := by
            unfold cut1
            have : cutsAt d (day - bAt told i) = false := by
              unfold cutsAt
              rw [decide_eq_false c0]
              rfl
            rw [this]
            rfl
          refine ⟨_, rfl, .inl ⟨rfl, _, SqL.of eF⟩, _, rfl, _, rfl, (by show 2 ≤ sizeLine; decide), fun T hT => ?_⟩
          obtain ⟨p1, p2, p3, p4, p5⟩ := push hF sG eF hts lM mF hT pw rfl
          refine ⟨F, _, _, rfl, rfl, same1 hT _ _ eF, (by rw [List.length_map, lts]; omega), ⟨_, rfl⟩, p1, p4, ts ++ [T], _, p2, p3, ?_, by rw [List.length_append]; show tl.length + 1 ≤ _; omega⟩
          rw [nx, ← etl, no]
      · rintro σ' G' ⟨⟨v7', rfl⟩, sG', lM', ts', tl', eF', hts', etl', ltl'⟩
        refine ⟨_, rfl, _, rfl, ?_⟩
        cases d with
        | none =>
          have bn' : bAt told (i + 1) = bAt told i := by
            rw [bn]
            exact Int.add_zero _
          exact iteN (decide_eq_true rfl) ⟨⟨some (dv none), some (.ref wl), some (.int (day - bAt told i)), v7', by rw [bn']⟩, sG', lM', ts', tl', eF', hts', etl', ltl'⟩
        | some n =>
          show if (!decide (V.int n = V.non)) = true then _ else _
          rw [decide_eq_false (show ¬ (V.int n = V.non) from fun z => nomatch z)]
          exact iteT ⟨_, rfl, _, rfl, _, _, rfl, rfl, ⟨some (dv (some n)), some (.ref wl), some (.int (day - bAt told i)), v7', by rw [bn]; rfl⟩, sG', lM', ts', tl', eF', hts', etl', ltl'⟩
    · rintro σ G ⟨⟨v4, v5, v6, v7, rfl⟩, sG, lM, ts, tl', eF, hts, etl, ltl⟩
      rw [List.length_map, lu, List.take_length] at etl
      subst etl
      refine ⟨_, rfl, q G F sG hF ⟨fun z => ?_, ts, eF, hts.mono fun t x _ _ r => r.less (fun q h => .inl h)⟩⟩
      obtain ⟨xs, e⟩ := lN F z
      rw [hF] at e
      cases e
end
end K12

namespace K12
open PySem PySem.Spec PyProof.Rows L2
theorem All2.set {α β : Type} {R : α → β → Prop} {as : List α} {bs : List β} (h : All2 R as bs) (n : Nat) {a : α} {b : β} (r : R a b) : All2 R (as.set n a) (bs.set n b) := by
  refine ⟨by rw [List.length_set, List.length_set, h.len], fun i x y hx hy => ?_⟩
  rw [List.getElem?_set] at hx hy
  by_cases c : n = i
  · rw [if_pos c] at hx hy
    split at hx
    · split at hy
      · cases hx
        cases hy
        exact r
      · cases hy
    · cases hx
  · rw [if_neg c] at hx hy
    exact h.all i x y hx hy
theorem All2.rep {α β : Type} {R : α → β → Prop} {as : List α} {bs : List β} (h : All2 R as bs) : ∀ m, All2 R (List.replicate m as).flatten (List.replicate m bs).flatten
  | 0 => .nil
  | m + 1 => by
    rw [List.replicate_succ, List.replicate_succ, List.flatten_cons, List.flatten_cons]
    exact h.app (All2.rep h m)
/-- a word's list is not the list of the stretches -/
theorem wl_ne {N : Addr → Prop} {G : Hp} {F t : Addr} {ts : List Addr} {tl : List Sx} {x : Sx} (eF : G F = some (.lst (ts.map V.ref))) (hts : All2 (StN N G) ts tl) (l1 : 1 ≤ x.2.length) (h : StN N G t x) : StN (Or1 N F) G t x := by
  obtain ⟨wl, e, n, qs, ew, al⟩ := h
  refine ⟨wl, e, fun z => z.elim n (fun z => ?_), qs, ew, al⟩
  rw [z, eF] at ew
  have ew : some (HO.lst (ts.map V.ref)) = some (HO.lst (qs.map V.ref)) := ew
  injection ew with ew
  injection ew with ew
  have lq : qs.length = x.2.length := al.len
  have q0 : qs[0]? = some qs[0] := List.getElem?_eq_getElem (by omega)
  have lt : ts.length = qs.length := by
    have := congrArg List.length ew
    simpa using this
  have t0 : ts[0]? = some ts[0] := List.getElem?_eq_getElem (by omega)
  have e0 : (ts.map V.ref)[0]? = (qs.map V.ref)[0]? := by rw [ew]
  rw [List.getElem?_map, List.getElem?_map, t0, q0] at e0
  have e0 : some (V.ref ts[0]) = some (V.ref qs[0]) := e0
  injection e0 with e0
  injection e0 with e0
  have ltl : ts.length = tl.length := hts.len
  obtain ⟨_, e1, _⟩ := hts.all 0 _ _ t0 (List.getElem?_eq_getElem (by omega : 0 < tl.length))
  have e2 : PrAt G qs[0] x.2[0] := al.all 0 _ _ q0 (List.getElem?_eq_getElem (by omega : 0 < x.2.length))
  unfold PrAt at e2
  rw [← e0, e1] at e2
  injection e2 with e2
  injection e2 with e2
  injection e2 with _ e2
  injection e2 with e2
  cases e2
def spOther : Sp := fun vs H Q _ => ∃ (p l : Addr) (z : Int) (told : List Sx), vs = [.ref p, .ref l] ∧ WellAt H p z ∧ 0 ≤ z ∧ z < 2 ^ 28 ∧ TolN (· = p) H l told ∧ DT 4 4 10 told ∧
  ∀ (H' : Hp) (r : Addr) (told' : List Sx) (z' : Int), But p H H' → H r = none → WellAt H' p z' → 0 ≤ z' → z' ≤ z + 100 → TolN (· = p) H' r told' → DT 8 12 10 told' → (∀ d, 0 ≤ d → onV told' d = onV told d) → Q (.ref r) H'
theorem none_but {p r : Addr} {H H' : Hp} (b : But p H H') (n : r ≠ p) (h : H' r = none) : H r = none := by
  cases e : H r with
  | none => rfl
  | some o =>
    have := b _ _ n e
    rw [h] at this
    cases this
theorem none_same {r : Addr} {H H' : Hp} (b : Same H H') (h : H' r = none) : H r = none := by
  cases e : H r with
  | none => rfl
  | some o =>
    have := b _ _ e
    rw [h] at this
    cases this
theorem well_ne {G : Hp} {p q : Addr} {z : Int} (h : WellAt G p z) (hq : G q = none) : q ≠ p := fun e => by
  obtain ⟨_, _, e1, _⟩ := h
  rw [e, e1] at hq
  cases hq
theorem TolN.butp {p l : Addr} {H H' : Hp} {told : List Sx} {z : Int} (h : TolN (· = p) H l told) (w : WellAt H p z) (b : But p H H') : TolN (· = p) H' l told :=
  h.but (ButN.but (fun q e => by rw [e]; exact w.lst) rfl b)
section
variable {P : Program} {w : World} {K : PySem.W.Frag} {mg : Str → Option Value} {base : Heap}
abbrev othN : List Str := ["well", "told", "found", "k", "at"]
theorem scOther : FnScope othN ["well", "told"] (defScope d_law_otherwise) := ⟨rfl, rfl, rfl, by decide +kernel, rfl, by decide +kernel, by decide +kernel⟩
theorem ok_other {f f1 f2 f3 : Addr} {fd fd1 fd2 fd3 : FuncData} (F : Fun K "_law_otherwise" "_law_otherwise" d_law_otherwise f fd) (B : TxtB mg) (hrange : mg "range" = none)
    (A1 : At P w K mg base CX0 1 "_law_draw" ["well", "many"] spDraw f1 fd1) (A2 : At P w K mg base CX0 2 "_law_one" ["well", "some"] (spOne K) f2 fd2) (A3 : At P w K mg base CX0 2 "_law_cut" ["told", "day"] spCut f3 fd3) :
    FnOk P w K mg base CX0 3 f fd ["well", "told"] spOther := by
  refine F.ok scOther (fun vs H Q E h => ?_) (fun cdv A outer s H vs Q E hr h => ?_)
  · obtain ⟨_, _, _, _, rfl, _⟩ := h
    rfl
  · obtain ⟨p, l, z, told, rfl, hp, z0, z1, ht, dt, q⟩ := h
    have r1 : Room 1 _ := hr.mono (by decide)
    refine ⟨_, pss_cons (ps_set (i := 2) scOther.nd rfl (Or.inl rfl) (pv 1))
      (pss_cons (ps_for PassesOwn.never rfl (pi_range1 (by rfl) hrange (pa_cons (pe_op op_add pe_int (pe_call A1.G r1 rfl A1.m A1.k A1.b .nil pass0 (pa_cons (pv 0) (pa_cons pe_int pa_nil)))) pa_nil)) (pg_name (i := 3) scOther.nd rfl (.inl rfl))
        (pss_one (ps_set (i := 2) scOther.nd rfl (Or.inl rfl) (pe_call A3.G hr rfl A3.m A3.k A3.b .nil pass0 (pa_cons (pv 2) (pa_cons (pe_call A1.G r1 rfl A1.m A1.k A1.b .nil pass0 (pa_cons (pv 0) (pa_cons
          (pe_call A2.G hr rfl A2.m A2.k A2.b .nil pass0 (pa_cons (pv 0) (pa_cons (pe_lst (pa_cons pe_int (pa_cons pe_int (pa_cons (pe_op op_pow pe_int pe_int) pa_nil)))) pa_nil))) pa_nil))) pa_nil))))))
      (pss_cons (ps_set (i := 4) scOther.nd rfl (Or.inl rfl) (pe_call A1.G r1 rfl A1.m A1.k A1.b .nil pass0 (pa_cons (pv 0) (pa_cons (pe_callB call_len_seq (by rfl) B.len PySem.boot_len (pa_cons (pv 2) pa_nil)) pa_nil))))
      (pss_cons (ps_asg (pe_tup (pa_cons (pe_ix ix_tup (pe_ix ix_list (pv 2) (pv 4) (fun _ _ => rfl)) pe_int (fun _ _ => rfl)) (pa_cons (pe_op op_rep (pe_ix ix_tup (pe_ix ix_list (pv 2) (pv 4) (fun _ _ => rfl)) pe_int (fun _ _ => rfl)) (pe_op op_add pe_int (pe_call A1.G r1 rfl A1.m A1.k A1.b .nil pass0 (pa_cons (pv 0) (pa_cons pe_int pa_nil))))) pa_nil)))
        (pg_sub (pv 2) (pv 4) set_list))
      (pss_one (ps_ret (pv 2)))))), ?_⟩
    refine ⟨_, rfl, ?_⟩
    refine ⟨_, rfl, p, 4, z, rfl, hp, by decide, by decide, z0, by omega, fun H1 d za b1 w1 a0 a1 d0 d1 => ?_⟩
    refine ⟨_, _, rfl, rfl, _, rfl, by omega, by omega, ?_⟩
    refine for_range (lo := 0) (n := (1 + d).toNat) (fun i σ G => ∃ (F : Addr) (tl : List Sx) (zz : Int) (v3 : Option V), σ = [some (.ref p), some (.ref l), some (.ref F), v3, none] ∧ But p H G ∧ WellAt G p zz ∧ 0 ≤ zz ∧ zz ≤ za + 2 * (i : Int) ∧ TolN (· = p) G F tl ∧ DT (4 + i) 4 10 tl ∧
      (∀ d, 0 ≤ d → onV tl d = onV told d) ∧ (i = 0 ∨ H F = none)) ⟨l, told, za, none, rfl, b1, w1, a0, by omega, ht.butp hp b1, dt, fun _ _ => rfl, .inl rfl⟩ ?_ ?_
    · rintro i σ G hi ⟨F, tl, zz, v3, rfl, bG, wz, y0, y1, hF, dF, on, fr⟩
      refine ⟨_, rfl, _, rfl, _, rfl, _, _, rfl, rfl, ⟨by decide, by decide, by decide⟩, (by show 3 ≤ sizeLine; decide), fun u hu => ?_⟩
      have nu := well_ne wz hu
      have s1 : Same G (upd G u (.lst [.int 9, .int 90, .int (10 ^ (12 : Int).toNat)])) := same1 hu
      have eu : (upd G u (.lst [.int 9, .int 90, .int (10 ^ (12 : Int).toNat)]) : Hp) u = some (.lst [.int 9, .int 90, .int (10 ^ (12 : Int).toNat)]) := upd_same
      generalize upd G u (.lst [.int 9, .int 90, .int (10 ^ (12 : Int).toNat)]) = G1 at *
      refine ⟨p, u, _, zz, rfl, wz.same s1, y0, by omega, eu, nu, (by show 0 < 3; decide), (by show 3 < 1000; decide), fun G2 z2 x b2 w2 n0 n1 hx => ?_⟩
      obtain ⟨m, rfl, m0, m1⟩ : ∃ m : Int, x = .int m ∧ 0 < m ∧ m ≤ 1000000000000 := by
        have hx : x ∈ [V.int 9, .int 90, .int (10 ^ (12 : Int).toNat)] := hx
        simp only [List.mem_cons, List.not_mem_nil, or_false] at hx
        rcases hx with h | h | h
        · exact ⟨9, h, by decide, by decide⟩
        · exact ⟨90, h, by decide, by decide⟩
        · exact ⟨_, h, by decide, by decide⟩
      refine ⟨p, m, z2, rfl, w2, m0, by omega, n0, by omega, fun G3 dd z3 b3 w3 o0 o1 dd0 dd1 => ?_⟩
      have bG3 : But p G G3 := (same_but s1).trans (b2.trans b3)
      refine ⟨F, dd, tl, (· = p), rfl, fun q e => by rw [e]; exact w3.lst, hF.butp wz bG3, dF.ok, fun G4 r s4 hr4 tr => ?_⟩
      have bG4 : But p H G4 := bG.trans (bG3.trans (same_but s4))
      have dn : DT (4 + i + 1) 4 10 (cutL tl dd) := dF.cut (by omega) (by decide) (Int.le_trans (Int.le_of_lt (Int.lt_of_lt_of_le dd1 m1)) (by decide))
      exact ⟨r, _, z3, _, rfl, bG4, w3.same s4, o0, by omega, tr, dn, fun d d0 => (onV_cut (told_tl dF.ok) d0).trans (on d d0), .inr (none_but (bG.trans bG3) (well_ne w3 hr4) hr4)⟩
    · rintro σ G ⟨F, tl, zz, v3, rfl, bG, wz, y0, y1, hF, dF, on, fr⟩
      have fr : H F = none := by
        rcases fr with e | e
        · omega
        · exact e
      have d8 : DT 8 4 10 tl := ⟨dF.ok, by have := dF.few; omega, dF.len, dF.prs, dF.far⟩
      have pos := dF.ok.pos
      have few := d8.few
      obtain ⟨nF, ts, eF, hts⟩ := id hF
      have lts : ts.length = tl.length := hts.len
      refine ⟨_, rfl, _, rfl, F, _, rfl, .inl (SqL.of eF), ?_⟩
      refine ⟨p, _, zz, rfl, wz, (by rw [List.length_map, lts]; omega), (by rw [List.length_map, lts]; omega), y0, by omega, fun G2 at_ z2 b2 w2 n0 n1 a0' a1' => ?_⟩
      rw [List.length_map, lts] at a1'
      obtain ⟨a, rfl⟩ : ∃ a : Nat, at_ = (a : Int) := ⟨at_.toNat, (Int.toNat_of_nonneg a0').symm⟩
      have al : a < tl.length := by omega
      have hF2 := hF.butp wz b2
      obtain ⟨_, ts2, eF2, hts2⟩ := hF2
      have et : ts2 = ts := by
        have h1 := b2 F _ nF eF
        rw [eF2] at h1
        injection h1 with h1
        injection h1 with h1
        exact (List.map_inj_right (fun x y e => by injection e)).mp h1
      subst et
      have ha : tl[a]? = some tl[a] := List.getElem?_eq_getElem al
      have hta : ts2[a]? = some ts2[a] := List.getElem?_eq_getElem (by omega)
      have hmt : (ts2.map V.ref)[((a : Int)).toNat]? = some (.ref ts2[a]) := by
        rw [Int.toNat_natCast, List.getElem?_map, hta]
        rfl
      have hsa := hts2.all a _ _ hta ha
      have lwa := (dF.ok.word a _ ha).1
      have lka := d8.len _ (List.mem_of_getElem? ha)
      obtain ⟨wl, ew, nwl, qs, eq, aq⟩ := id hsa
      have lqs : qs.length = tl[a].2.length := aq.len
      refine ⟨_, rfl, _, rfl, F, _, _, _, rfl, rfl, SqL.of eF2, at_k (by omega) hmt, ts2[a], _, 0, dv tl[a].1, rfl, rfl, SqT.of ew, at_k (by decide) rfl, ?_⟩
      refine ⟨_, rfl, _, rfl, F, _, _, _, rfl, rfl, SqL.of eF2, at_k (by omega) hmt, ts2[a], _, 1, .ref wl, rfl, rfl, SqT.of ew, at_k (by decide) rfl, ?_⟩
      refine ⟨_, rfl, p, 3, z2, rfl, w2, by decide, by decide, n0, by omega, fun G3 dd z3 b3 w3 o0 o1 dd0 dd1 => ?_⟩
      refine ⟨_, _, rfl, rfl, ?_⟩
      have hF3 := TolN.butp (p := p) (l := F) (told := tl) ⟨nF, ts2, eF2, hts2⟩ w2 b3
      have eq3 := b3 wl _ nwl eq
      have ew3 := b3 ts2[a] _ (fun e => by
        obtain ⟨_, _, e1, _⟩ := w2
        rw [e, e1] at ew
        cases ew) ew
      refine ⟨wl, 1 + dd, _, rfl, rfl, eq3, by omega, by omega, ?_, fun R hR => ?_⟩
      · rw [List.length_map, lqs]
        exact Nat.le_trans (Nat.mul_le_mul lka (show (1 + dd).toNat ≤ 3 by omega)) (show 4 * 3 ≤ sizeLine by decide)
      · have rw1 : (List.replicate (1 + dd).toNat (qs.map V.ref)).flatten = ((List.replicate (1 + dd).toNat qs).flatten).map V.ref := by
          rw [List.map_flatten, List.map_replicate]
        rw [rw1]
        have lN3 : ∀ q, q = p → LstAt G3 q := fun q e => by rw [e]; exact w3.lst
        have s4 : Same G3 (upd G3 R (.lst (((List.replicate (1 + dd).toNat qs).flatten).map V.ref))) := same1 hR
        have aq3 : All2 (PrAt G3) qs tl[a].2 := aq.mono fun q y _ _ h => b3 _ _ (fun e => by
          obtain ⟨_, _, e1, _⟩ := w2
          have h : G2 q = _ := h
          rw [e, e1] at h
          cases h) h
        have pR : PrsN (· = p) (upd G3 R (.lst (((List.replicate (1 + dd).toNat qs).flatten).map V.ref))) R (repW tl[a].2 (1 + dd).toNat) := prs_new lN3 hR (aq3.rep _)
        have nRF : R ≠ F := fun e => by
          obtain ⟨_, ts3, eF3, _⟩ := hF3
          rw [e, eF3] at hR
          cases hR
        generalize upd G3 R (.lst (((List.replicate (1 + dd).toNat qs).flatten).map V.ref)) = G4 at *
        refine ⟨(by show 2 ≤ sizeLine; decide), fun T hT => ?_⟩
        have s5 : Same G4 (upd G4 T (.tup [dv tl[a].1, .ref R])) := same1 hT
        have eT : (upd G4 T (.tup [dv tl[a].1, .ref R]) : Hp) T = some (.tup [dv tl[a].1, .ref R]) := upd_same
        generalize upd G4 T (.tup [dv tl[a].1, .ref R]) = G5 at *
        have s35 := s4.trans s5
        have hF5 := hF3.same s35
        obtain ⟨_, ts5, eF5, hts5⟩ := hF5
        have et5 : ts5 = ts2 := by
          have h1 := s35 _ _ (b3 F _ nF eF2)
          rw [eF5] at h1
          injection h1 with h1
          injection h1 with h1
          exact (List.map_inj_right (fun x y e => by injection e)).mp h1
        subst et5
        refine ⟨_, rfl, _, rfl, F, _, _, a, rfl, rfl, eF5, (by
          have la : a < (ts5.map V.ref).length := by rw [List.length_map]; omega
          unfold ixN
          rw [if_pos (by omega), if_pos (by omega), Int.toNat_natCast]), ?_⟩
        have w5 := w3.same s35
        have lM : ∀ q, Or1 (· = p) F q → LstAt G5 q := fun q e => by
          rcases e with e | e
          · rw [e]; exact w5.lst
          · rw [e]; exact ⟨_, eF5⟩
        have pR5 : PrsN (Or1 (· = p) F) G5 R (repW tl[a].2 (1 + dd).toNat) := by
          obtain ⟨n, rest⟩ := pR.same s5
          exact ⟨fun z => z.elim n nRF, rest⟩
        have all5 : All2 (StN (Or1 (· = p) F) G5) ts5 tl := ⟨hts5.len, fun i t x h1 h2 => wl_ne eF5 hts5 (dF.ok.word i x h2).1 (hts5.all i t x h1 h2)⟩
        have kp : ButN (Or1 (· = p) F) G5 (upd G5 F (.lst ((ts5.map V.ref).set a (.ref T)))) := ButN.put lM (.inr rfl)
        have fin : All2 (StN (Or1 (· = p) F) (upd G5 F (.lst ((ts5.map V.ref).set a (.ref T))))) (ts5.set a T) (tl.set a (tl[a].1, repW tl[a].2 (1 + dd).toNat)) :=
          (all5.set a (show StN (Or1 (· = p) F) G5 T (tl[a].1, repW tl[a].2 (1 + dd).toNat) from ⟨R, eT, pR5⟩)).mono fun t x _ _ z => z.but kp
        obtain ⟨dr, onr⟩ := d8.rep (by decide) ha (m := (1 + dd).toNat) (by omega) (by omega) (by decide)
        have b5 : But p H G5 := bG.trans (b2.trans (b3.trans (same_but s35)))
        refine ⟨_, rfl, q _ F (tl.set a (tl[a].1, repW tl[a].2 (1 + dd).toNat)) z3 (fun b o hb e => ?_) fr ?_ o0 (by omega) ⟨nF, ts5.set a T, ?_, fin.mono fun t x _ _ z => z.less (fun q h => .inl h)⟩ dr (fun d d0 => (onr d d0).trans (on d d0))⟩
        · rw [upd_ne (ne_of_none e fr)]
          exact b5 b o hb e
        · obtain ⟨x', y', e, u, v⟩ := w5
          exact ⟨x', y', by rw [upd_ne (fun e => nF e.symm)]; exact e, u, v⟩
        · rw [List.map_set]
          exact upd_same
end
end K12

namespace K12
open PySem PySem.Spec PyProof.Rows L2
/-! ### one day otherwise -/
theorem at_ex {A : List Sx} (ok : Told A) {day : Int} (d0 : 0 ≤ day) : ∃ h, AtDay A h day := by
  have key : ∀ i, (∃ h, AtDay A h day) ∨ (i < A.length ∧ bAt A i ≤ day) ∨ A.length ≤ i := by
    intro i
    induction i with
    | zero => exact .inr (.inl ⟨ok.pos, by rw [bAt_zero]; exact d0⟩)
    | succ i ih =>
      rcases ih with ih | ⟨il, ib⟩ | ih
      · exact .inl ih
      · by_cases c : ∀ s, stopOf A i = some s → day < s
        · exact .inl ⟨i, il, ib, c⟩
        · have c : ∃ s, stopOf A i = some s ∧ ¬ day < s := Classical.byContradiction fun n => c fun s e => Classical.byContradiction fun m => n ⟨s, e, m⟩
          obtain ⟨s, e, ns⟩ := c
          have at_ : AtDay A i (bAt A i) := ⟨il, Int.le_refl _, fun s' e' => by
            have hx : A[i]? = some A[i] := List.getElem?_eq_getElem il
            unfold stopOf at e'
            rw [hx] at e'
            obtain ⟨n, en, rfl⟩ := Option.map_eq_some_iff.mp e'
            have := ok.days _ _ n hx en
            omega⟩
          have nx := AtDay.next ok at_ e
          exact .inr (.inl ⟨nx.lt, Int.le_trans nx.from_ (by omega)⟩)
      · exact .inr (.inr (by omega))
  rcases key A.length with h | ⟨h, _⟩ | h
  · exact h
  · exact absurd h (Nat.lt_irrefl _)
  · -- the last one has no end
    rcases key (A.length - 1) with h2 | ⟨h2, hb⟩ | h2
    · exact h2
    · have hx : A[A.length - 1]? = some A[A.length - 1] := List.getElem?_eq_getElem h2
      have pos := ok.pos
      have := (ok.open_ _ _ hx).mpr (by omega)
      refine ⟨A.length - 1, h2, hb, fun s e => ?_⟩
      unfold stopOf at e
      rw [hx] at e
      have e : (A[A.length - 1].1.map fun n => bAt A (A.length - 1) + n) = some s := e
      rw [this] at e
      cases e
    · have pos := ok.pos
      omega
theorem on_day {A : List Sx} (ok : Told A) {h : Nat} {day : Int} (at_ : AtDay A h day) {x : Sx} (hx : A[h]? = some x) : onV A day = x.2[((day - bAt A h) % (x.2.length : Int)).toNat]? := by
  have hin : ∀ n, x.1 = some n → day < bAt A h + n := fun n e => at_.till _ (by unfold stopOf; rw [hx]; show x.1.map _ = _; rw [e]; rfl)
  obtain ⟨d, ws⟩ := x
  exact onV_at A h d ws day hx (fun j z hj hz => ok.ends hj at_.lt hz) at_.from_ hin
/-- rows: the same, but for the first share of what begins on the day -/
def ChgTo (day : Int) (found rows : List Sx) (i : Nat) : Prop := rows.length = i ∧ ∀ (j : Nat) (x : Sx), j < i → found[j]? = some x → ∃ w', rows[j]? = some (x.1, w') ∧ (bAt found j ≠ day → w' = x.2) ∧
  (bAt found j = day → ∃ y y' t, x.2 = y :: t ∧ w' = y' :: t ∧ y ≠ y' ∧ POkN 20 y')
theorem bAt_fst {A B : List Sx} (h : A.map Prod.fst = B.map Prod.fst) (i : Nat) : bAt A i = bAt B i := by
  have e : ∀ L : List Sx, bAt L i = (((L.map Prod.fst).take i).map fun x => x.getD 0).sum := fun L => by
    unfold bAt
    rw [← List.map_take, List.map_map]
    rfl
  rw [e A, e B, h]
theorem ChgTo.snoc {day : Int} {found rows : List Sx} {i : Nat} {x : Sx} {w' : W2} (h : ChgTo day found rows i) (hx : found[i]? = some x) (a : bAt found i ≠ day → w' = x.2) (b : bAt found i = day → ∃ y y' t, x.2 = y :: t ∧ w' = y' :: t ∧ y ≠ y' ∧ POkN 20 y') :
    ChgTo day found (rows ++ [(x.1, w')]) (i + 1) := by
  obtain ⟨l, k⟩ := h
  refine ⟨by rw [List.length_append, l]; rfl, fun j z hj hz => ?_⟩
  by_cases c : j < i
  · rw [List.getElem?_append_left (by omega)]
    exact k j z c hz
  · have : j = i := by omega
    subst this
    rw [hx] at hz
    cases hz
    rw [List.getElem?_append_right (by omega), show j - rows.length = 0 from by omega]
    exact ⟨w', rfl, a, b⟩
theorem ChgTo.all {day : Int} {n k : Nat} {found rows : List Sx} (h : ChgTo day found rows found.length) (d : DT n k 10 found) (hk : ∃ i, i < found.length ∧ bAt found i = day) (d0 : 0 ≤ day) : DT n k 20 rows ∧ FirstV found rows (some day) := by
  obtain ⟨l, g⟩ := h
  have get : ∀ (j : Nat) (z : Sx), rows[j]? = some z → ∃ x, found[j]? = some x ∧ z.1 = x.1 ∧ z.2.length = x.2.length ∧ (bAt found j ≠ day → z.2 = x.2) ∧ (bAt found j = day → ∃ y y' t, x.2 = y :: t ∧ z.2 = y' :: t ∧ y ≠ y' ∧ POkN 20 y') := fun j z hz => by
    have jl : j < found.length := by
      have := (List.getElem?_eq_some_iff.mp hz).1
      omega
    have hx : found[j]? = some found[j] := List.getElem?_eq_getElem jl
    obtain ⟨w', e, a, b⟩ := g j _ jl hx
    rw [hz] at e
    cases e
    refine ⟨_, hx, rfl, ?_, a, b⟩
    by_cases c : bAt found j = day
    · obtain ⟨y, y', t, e1, e2, _⟩ := b c
      show w'.length = _
      rw [e1, e2]
      rfl
    · show w'.length = _
      rw [a c]
  have fst : rows.map Prod.fst = found.map Prod.fst := by
    refine List.ext_getElem? fun j => ?_
    rw [List.getElem?_map, List.getElem?_map]
    by_cases c : j < found.length
    · have hz : rows[j]? = some (rows[j]'(by omega)) := List.getElem?_eq_getElem (by omega)
      obtain ⟨x, hx, e, _⟩ := get j _ hz
      rw [hz, hx]
      all_goals exact congrArg some e
    · rw [List.getElem?_eq_none (by omega), List.getElem?_eq_none (by omega)]
      all_goals rfl
  have bb := bAt_fst fst
  have st : ∀ j, stopOf rows j = stopOf found j := fun j => by
    unfold stopOf
    by_cases c : j < found.length
    · have hz : rows[j]? = some (rows[j]'(by omega)) := List.getElem?_eq_getElem (by omega)
      obtain ⟨x, hx, e, _⟩ := get j _ hz
      rw [hz, hx]
      show (rows[j]'(by omega)).1.map _ = x.1.map _
      rw [e, bb]
    · rw [List.getElem?_eq_none (by omega), List.getElem?_eq_none (by omega)]
  have ok' : Told rows := by
    refine ⟨by have := d.ok.pos; omega, by have := d.ok.few; omega, fun i z hz => ?_, fun i z hz => ?_, fun i z m hz e => ?_⟩
    · obtain ⟨x, hx, _, e, _⟩ := get i z hz
      rw [e]
      exact d.ok.word i x hx
    · obtain ⟨x, hx, e, _⟩ := get i z hz
      rw [e, l]
      exact d.ok.open_ i x hx
    · obtain ⟨x, hx, e1, _⟩ := get i z hz
      rw [e1] at e
      exact d.ok.days i x m hx e
  have atd : ∀ {h : Nat} {x : Int}, AtDay found h x → AtDay rows h x := fun {h x} a => ⟨by rw [l]; exact a.lt, by rw [bb]; exact a.from_, fun s e => a.till s (by rw [← st]; exact e)⟩
  refine ⟨⟨ok', by have := d.few; omega, fun z hz => ?_, fun z hz y hy => ?_, fun z hz m e => ?_⟩, d0, ?_, fun x x0 x1 => ?_⟩
  · obtain ⟨i, hi⟩ := List.mem_iff_getElem?.mp hz
    obtain ⟨x, hx, _, e, _⟩ := get i z hi
    rw [e]
    exact d.len x (List.mem_of_getElem? hx)
  · obtain ⟨i, hi⟩ := List.mem_iff_getElem?.mp hz
    obtain ⟨x, hx, _, _, a, b⟩ := get i z hi
    have px := d.prs x (List.mem_of_getElem? hx)
    by_cases c : bAt found i = day
    · obtain ⟨y0, y1, t, e1, e2, _, pk⟩ := b c
      rw [e2] at hy
      rcases List.mem_cons.mp hy with q | q
      · rw [q]; exact pk
      · exact (px y (by rw [e1]; exact List.mem_cons_of_mem _ q)).up (by decide)
    · rw [a c] at hy
      exact (px y hy).up (by decide)
  · obtain ⟨i, hi⟩ := List.mem_iff_getElem?.mp hz
    obtain ⟨x, hx, e1, _⟩ := get i z hi
    rw [e1] at e
    exact d.far x (List.mem_of_getElem? hx) m e
  · obtain ⟨i, il, ib⟩ := hk
    have hx : found[i]? = some found[i] := List.getElem?_eq_getElem il
    have a : AtDay found i day := ⟨il, by omega, fun s e => by
      unfold stopOf at e
      rw [hx] at e
      obtain ⟨m, em, rfl⟩ := Option.map_eq_some_iff.mp e
      have := d.ok.days _ _ m hx em
      omega⟩
    have hz : rows[i]? = some (rows[i]'(by omega)) := List.getElem?_eq_getElem (by omega)
    rw [on_day d.ok a hx, on_day ok' (atd a) hz, bb, show day - bAt found i = 0 from by omega, Int.zero_emod, Int.zero_emod]
    obtain ⟨x, hx', _, _, _, b⟩ := get i _ hz
    obtain ⟨y, y', t, e1, e2, ne, _⟩ := b ib
    rw [hx] at hx'
    injection hx' with hx'
    rw [hx', e1, e2]
    exact fun z => ne (Option.some.inj z)
  · obtain ⟨i, a⟩ := at_ex d.ok x0
    have hx : found[i]? = some (found[i]'a.lt) := List.getElem?_eq_getElem a.lt
    have il := a.lt
    have fr := a.from_
    have hz : rows[i]? = some (rows[i]'(by omega)) := List.getElem?_eq_getElem (by omega)
    rw [on_day d.ok a hx, on_day ok' (atd a) hz, bb]
    obtain ⟨x', hx', _, _, b, _⟩ := get i _ hz
    rw [hx] at hx'
    injection hx' with hx'
    rw [b (by omega), hx']
/-- a new stretch, appended: the well may have changed meanwhile -/
theorem push2 {M : Addr → Prop} {G : Hp} {F T wl : Addr} {ts : List Addr} {tl : List Sx} {dd : Option Int} {ws : W2} (eF : G F = some (.lst (ts.map V.ref))) (hts : All2 (StN M G) ts tl)
    (lM : ∀ q, M q → LstAt G q) (mF : M F) (hT : G T = none) (pw : PrsN M G wl ws) {G' : Hp} (e : G' = upd (upd G T (.tup [dv dd, .ref wl])) F (.lst (ts.map V.ref ++ [.ref T]))) :
    (∀ b o, b ≠ F → G b = some o → G' b = some o) ∧ G' F = some (.lst ((ts ++ [T]).map V.ref)) ∧ All2 (StN M G') (ts ++ [T]) (tl ++ [(dd, ws)]) ∧ (∀ q, M q → LstAt G' q) ∧ ButN M G G' := by
  have nTF : T ≠ F := fun z => by rw [z, eF] at hT; cases hT
  have s1 : Same G (upd G T (.tup [dv dd, .ref wl])) := same1 hT
  have eT : (upd G T (.tup [dv dd, .ref wl]) : Hp) T = some (.tup [dv dd, .ref wl]) := upd_same
  have lM1 := lst_same lM s1
  generalize upd G T (.tup [dv dd, .ref wl]) = G1 at *
  subst e
  have k : ButN M G1 (upd G1 F (.lst (ts.map V.ref ++ [.ref T]))) := ButN.put lM1 mF
  have k0 : ButN M G G1 := ButN.same lM s1
  refine ⟨fun b o hb eb => by rw [upd_ne hb]; exact s1 _ _ eb, by rw [List.map_append]; exact upd_same, (hts.mono fun t x _ _ z => (z.same s1).but k).snoc ⟨wl, k.tup eT, (pw.same s1).but k⟩, fun q mq => ?_, k0.trans k⟩
  by_cases c : q = F
  · rw [c]; exact ⟨_, upd_same⟩
  · obtain ⟨xs, ex⟩ := lM1 q mq
    exact ⟨xs, by rw [upd_ne c]; exact ex⟩
def spChanged : Sp := fun vs H Q _ => ∃ (p l : Addr) (z day : Int) (told : List Sx) (n k : Nat), vs = [.ref p, .ref l, .int day] ∧ WellAt H p z ∧ 0 ≤ z ∧ z < 2 ^ 28 ∧ TolN (· = p) H l told ∧ DT n k 10 told ∧ n ≤ 40 ∧ k ≤ 60 ∧ 0 ≤ day ∧ day ≤ 1000000000000 ∧
  ∀ (H' : Hp) (r : Addr) (told' : List Sx) (z' : Int), But p H H' → H r = none → WellAt H' p z' → 0 ≤ z' → z' ≤ z + 100 → TolN (· = p) H' r told' → DT (n + 2) k 20 told' → FirstV told told' (some day) → Q (.ref r) H'
/-- the changed share -/
theorem chg_share {y : Int × Int} {d t b : Int} (py : POkN 10 y) (d0 : 0 ≤ d) (d3 : d < 3) (h : IsFr 6 (sumOf [y, (1 + d, 2)] 6) t b) : POkN 20 (t, b) ∧ y ≠ (t, b) := by
  obtain ⟨y0, y6, y10, yc⟩ := py
  have e : sumOf [y, (1 + d, 2)] 6 = y.1 * (6 / y.2) + (1 + d) * 3 := by
    unfold sumOf
    simp
  rw [e] at h
  refine ⟨⟨h.1, fr_dvd h, ?_, h.2.1⟩, fun z => ?_⟩
  · have a := fr_abs (by decide) h
    have q0 : 0 ≤ 6 / y.2 := Int.ediv_nonneg (by decide) (by omega)
    have q1 : 6 / y.2 ≤ 6 := Int.ediv_le_self _ (by decide)
    have m : (y.1 * (6 / y.2)).natAbs ≤ 2 ^ 10 * 6 := by
      rw [Int.natAbs_mul]
      exact Nat.mul_le_mul (Nat.le_of_lt y10) (by omega)
    show t.natAbs < 2 ^ 20
    omega
  · have f := fr_term h
    have e1 : t = y.1 := by rw [z]
    have e2 : b = y.2 := by rw [z]
    rw [e1, e2] at f
    have f : y.1 * (6 / y.2) = y.1 * (6 / y.2) + (1 + d) * 3 := f
    omega
section
variable {P : Program} {w : World} {K : PySem.W.Frag} {mg : Str → Option Value} {base : Heap}
abbrev chgN : List Str := ["well", "told", "day", "found", "at", "rows", "days", "word"]
theorem scChanged : FnScope chgN ["well", "told", "day"] (defScope d_law_changed) := ⟨rfl, rfl, rfl, by decide +kernel, rfl, by decide +kernel, by decide +kernel⟩
theorem ok_changed {f f1 f2 f3 : Addr} {fd fd1 fd2 fd3 : FuncData} (F : Fun K "_law_changed" "_law_changed" d_law_changed f fd)
    (A1 : At P w K mg base CX0 1 "_law_draw" ["well", "many"] spDraw f1 fd1) (A2 : At P w K mg base CX0 2 "_law_sum" ["pairs"] (spSum K) f2 fd2) (A3 : At P w K mg base CX0 2 "_law_cut" ["told", "day"] spCut f3 fd3) :
    FnOk P w K mg base CX0 3 f fd ["well", "told", "day"] spChanged := by
  refine F.ok scChanged (fun vs H Q E h => ?_) (fun cdv A outer s H vs Q E hr h => ?_)
  · obtain ⟨_, _, _, _, _, _, _, rfl, _⟩ := h
    rfl
  · obtain ⟨p, l, z, day, told, n, k, rfl, hp, z0, z1, ht, dt, n40, k60, d0, d1, q⟩ := h
    have r1 : Room 1 _ := hr.mono (by decide)
    refine ⟨_, pss_cons (ps_set (i := 3) scChanged.nd rfl (Or.inl rfl) (pe_call A3.G hr rfl A3.m A3.k A3.b .nil pass0 (pa_cons (pe_call A3.G hr rfl A3.m A3.k A3.b .nil pass0 (pa_cons (pv 1) (pa_cons (pv 2) pa_nil))) (pa_cons (pe_op op_add (pv 2) pe_int) pa_nil))))
      (pss_cons (ps_set (i := 4) scChanged.nd rfl (Or.inl rfl) pe_int)
      (pss_cons (ps_set (i := 5) scChanged.nd rfl (Or.inl rfl) (pe_lst pa_nil))
      (pss_cons (ps_for PassesOwn.never rfl (pi_list (pv 3)) (pg_tup (by rfl) (pgs_cons (pg_name (i := 6) scChanged.nd rfl (.inl rfl)) (pgs_cons (pg_name (i := 7) scChanged.nd rfl (.inl rfl)) pgs_nil)))
        (C8.pss_cut (ps_if (pt_cmpR op_eq (pv 4) (pv 2) (nomark _))
          (pss_one (ps_set (i := 7) scChanged.nd rfl (Or.inl rfl) (pe_op op_cat (pe_lst (pa_cons (pe_call A2.G hr rfl A2.m A2.k A2.b .nil pass0 (pa_cons (pe_lst (pa_cons (pe_ix ix_list (pv 7) pe_int (fun _ _ => rfl)) (pa_cons (pe_tup (pa_cons (pe_op op_add pe_int (pe_call A1.G r1 rfl A1.m A1.k A1.b .nil pass0 (pa_cons (pv 0) (pa_cons pe_int pa_nil)))) (pa_cons pe_int pa_nil))) pa_nil))) pa_nil)) pa_nil))
            (pe_slice sl_list (pv 7) (po_some pe_int) po_none)))) pss_nil)
        (pss_cons (ps_expr (pe_bm PySem.F.plainAttrs_list PySem.F.slot_list_append PySem.F.type_list_append mt_append (pv 5) (pa_cons (pe_tup (pa_cons (pv 6) (pa_cons (pv 7) pa_nil))) pa_nil)))
        (pss_one (ps_if (pt_cmp (pc_notN (pv 6))) (pss_one (ps_set (i := 4) scChanged.nd rfl (Or.inl rfl) (pe_op op_add (pv 4) (pv 6)))) pss_nil)))))
      (pss_one (ps_ret (pv 5)))))), ?_⟩
    have lN0 : ∀ q, q = p → LstAt H q := fun q e => by rw [e]; exact hp.lst
    refine ⟨_, rfl, _, rfl, l, day, told, (· = p), rfl, lN0, ht, dt.ok, fun H1 f1 s1 hf1 t1 => ?_⟩
    have dt1 := dt.cut (h := day) (by omega) k60 (Int.le_trans d1 (by decide))
    refine ⟨_, rfl, _, _, rfl, rfl, ?_⟩
    refine ⟨f1, day + 1, cutL told day, (· = p), rfl, lst_same lN0 s1, t1, dt1.ok, fun H2 f2 s2 hf2 t2 => ?_⟩
    have dt2 := dt1.cut (h := day + 1) (by omega) k60 (Int.le_trans (show day + 1 ≤ 1000000000001 by omega) (by decide))
    have hbeg := ((beg_cut (told_tl dt.ok) d0).cut (g := day + 1)).at_
    have onf : ∀ x, 0 ≤ x → onV (cutL (cutL told day) (day + 1)) x = onV told x := fun x x0 => (onV_cut (told_tl dt1.ok) x0).trans (onV_cut (told_tl dt.ok) x0)
    generalize cutL (cutL told day) (day + 1) = found at *
    have s12 := s1.trans s2
    have fewf := dt2.few
    refine ⟨(by show 0 ≤ sizeLine; decide), fun R hR => ?_⟩
    have w2 := hp.same s12
    have nR := well_ne w2 hR
    have hRH := none_same s12 hR
    obtain ⟨nf2, us, ef2, al2⟩ := t2
    have nf2R : f2 ≠ R := fun e => by rw [e, hR] at ef2; cases ef2
    have lu : us.length = found.length := al2.len
    have s3 : Same H2 (upd H2 R (.lst [])) := same1 hR
    have eR0 : (upd H2 R (.lst []) : Hp) R = some (.lst []) := upd_same
    have ef3 := s3 _ _ ef2
    have w3 := w2.same s3
    have al3 : All2 (StN (Or1 (· = p) R) (upd H2 R (.lst []))) us found := al2.mono fun t x _ _ h => by
      obtain ⟨wl, e, pw⟩ := h
      exact ⟨wl, s3 _ _ e, (pw.or1 hR).same s3⟩
    have b3 : But p H (upd H2 R (.lst [])) := same_but (s12.trans s3)
    generalize upd H2 R (.lst []) = G1 at *
    have mR : Or1 (· = p) R R := .inr rfl
    have mp : Or1 (· = p) R p := .inl rfl
    have lM1 : ∀ q, Or1 (· = p) R q → LstAt G1 q := fun q e => by
      rcases e with e | e
      · rw [e]; exact w3.lst
      · rw [e]; exact ⟨_, eR0⟩
    have nf2M : ¬ Or1 (· = p) R f2 := fun e => e.elim nf2 nf2R
    refine ⟨_, rfl, f2, rfl, ⟨_, SqL.of ef3⟩, ?_⟩
    refine for_list (K := K) (a := f2) (xs := us.map V.ref) (fun i σ G => (∃ v6 v7 : Option V, σ = [some (.ref p), some (.ref l), some (.int day), some (.ref f2), some (.int (bAt found i)), some (.ref R), v6, v7]) ∧ But p H G ∧ ButN (Or1 (· = p) R) G1 G ∧ (∀ q, Or1 (· = p) R q → LstAt G q) ∧
      (∃ zz : Int, WellAt G p zz ∧ 0 ≤ zz ∧ zz ≤ z + (i : Int)) ∧ ∃ (ts : List Addr) (tl : List Sx), G R = some (.lst (ts.map V.ref)) ∧ All2 (StN (Or1 (· = p) R) G) ts tl ∧ ChgTo day found tl i)
      ⟨⟨_, _, rfl⟩, b3, ButN.same lM1 (Same.refl _), lM1, ⟨z, w3, z0, by omega⟩, [], [], eR0, .nil, rfl, fun j x h _ => absurd h (Nat.not_lt_zero _)⟩ ?_ ?_ ?_
    · rintro i σ G _ ⟨_, _, kp, _⟩
      exact SqL.of (kp.keep _ _ nf2M ef3)
    · rintro i x σ G hx ⟨⟨v6, v7, rfl⟩, bG, kp, lM, ⟨zz, wz, y0, y1⟩, ts, tl, eR, hts, chg⟩
      rw [List.getElem?_map] at hx
      obtain ⟨t, ht, rfl⟩ := Option.map_eq_some_iff.mp hx
      have il : i < found.length := by
        have := (List.getElem?_eq_some_iff.mp ht).1
        omega
      have hxi : found[i]? = some found[i] := List.getElem?_eq_getElem il
      have bn := bAt_next hxi
      have lw := (dt2.ok.word i _ hxi).1
      have pk := dt2.prs _ (List.mem_of_getElem? hxi)
      have snoc := fun w' => ChgTo.snoc (w' := w') chg hxi
      obtain ⟨wl, et, pw⟩ := (al3.all i t _ ht hxi).but kp
      have lts : ts.length = i := hts.len.trans chg.1
      generalize found[i] = x at *
      obtain ⟨d, ws⟩ := x
      have lw : 1 ≤ ws.length := lw
      have lkw : ws.length ≤ 60 := (dt2.ok.word i _ hxi).2
      have pk : ∀ y ∈ ws, POkN 10 y := pk
      refine ⟨t, _, rfl, SqT.of et, rfl, _, _, rfl, _, _, rfl, rfl, ?_⟩
      refine ⟨fun σ' G' => (∃ (wl' : Addr) (ws' : W2), σ' = [some (.ref p), some (.ref l), some (.int day), some (.ref f2), some (.int (bAt found i)), some (.ref R), some (dv d), some (.ref wl')] ∧ PrsN (Or1 (· = p) R) G' wl' ws' ∧
          (bAt found i ≠ day → ws' = ws) ∧ (bAt found i = day → ∃ y y' t, ws = y :: t ∧ ws' = y' :: t ∧ y ≠ y' ∧ POkN 20 y')) ∧ But p G G' ∧ (∃ zz' : Int, WellAt G' p zz' ∧ 0 ≤ zz' ∧ zz' ≤ zz + 1), ?_, ?_⟩
      · refine ⟨_, rfl, _, rfl, rfl, _, rfl, ?_⟩
        rw [decI]
        refine ite2 (fun h => ?_) (fun h => ?_)
        · have h : bAt found i = day := of_decide_eq_true h
          obtain ⟨npw, qs, ew, aw⟩ := id pw
          have lq : qs.length = ws.length := aw.len
          cases ws with
          | nil => exact absurd lw (by decide)
          | cons y tw =>
            cases qs with
            | nil => exact absurd lq (by simp)
            | cons q0 qt =>
              have py := pk y List.mem_cons_self
              have eq0 : G q0 = some (.tup [.int y.1, .int y.2]) := aw.all 0 q0 y rfl rfl
              have aqt : All2 (PrAt G) qt tw := ⟨by simpa using lq, fun j a b h1 h2 => aw.all (j + 1) a b (by simpa using h1) (by simpa using h2)⟩
              refine ⟨_, rfl, wl, _, 0, .ref q0, rfl, rfl, SqL.of ew, at_k (by decide) rfl, ?_⟩
              refine ⟨_, rfl, p, 3, zz, rfl, wz, by decide, by decide, y0, by omega, fun G2 dd z2 b2 w2' n0 n1 dd0 dd1 => ?_⟩
              refine ⟨_, _, rfl, rfl, (by show 2 ≤ sizeLine; decide), fun T0 hT0 => ⟨(by show 2 ≤ sizeLine; decide), fun L0 hL0 => ?_⟩⟩
              have nq0 : q0 ≠ p := fun e => by
                obtain ⟨_, _, e1, _⟩ := wz
                rw [e, e1] at eq0
                cases eq0
              have eq02 := b2 _ _ nq0 eq0
              have s4 : Same G2 (upd G2 T0 (.tup [.int (1 + dd), .int 2])) := same1 hT0
              have eT0 : (upd G2 T0 (.tup [.int (1 + dd), .int 2]) : Hp) T0 = some (.tup [.int (1 + dd), .int 2]) := upd_same
              generalize upd G2 T0 (.tup [.int (1 + dd), .int 2]) = G3 at *
              have s5 : Same G3 (upd G3 L0 (.lst [.ref q0, .ref T0])) := same1 hL0
              have eL0 : (upd G3 L0 (.lst [.ref q0, .ref T0]) : Hp) L0 = some (.lst [.ref q0, .ref T0]) := upd_same
              generalize upd G3 L0 (.lst [.ref q0, .ref T0]) = G4 at *
              have sm : Small [y, (1 + dd, 2)] 6 := by
                refine ⟨by decide, by decide, fun j x hx => ?_, fun j x hx => ?_, (show 2 ≤ 4000 by decide)⟩
                · have hx := List.mem_of_getElem? hx
                  simp only [List.mem_cons, List.not_mem_nil, or_false] at hx
                  rcases hx with h | h
                  · rw [h]; exact ⟨py.1, py.2.1⟩
                  · rw [h]; exact ⟨(show (0 : Int) < 2 by decide), (show (2 : Int).natAbs ∣ 6 by decide)⟩
                · have hx := List.mem_of_getElem? hx
                  simp only [List.mem_cons, List.not_mem_nil, or_false] at hx
                  rcases hx with h | h
                  · rw [h]; exact pow_le py.2.2.1 (by decide)
                  · rw [h]
                    exact pow_le (show (1 + dd).natAbs < 2 ^ 10 by omega) (by decide)
              refine ⟨L0, [y, (1 + dd, 2)], 6, rfl, ⟨[q0, T0], SqL.of eL0, rfl, fun j q x h1 h2 => ?_⟩, sm, fun G5 r t' b' s6 fr er => ?_⟩
              · cases j with
                | zero =>
                  have h1 : q0 = q := by simpa using h1
                  have h2 : y = x := by simpa using h2
                  rw [← h1, ← h2]
                  exact SqT.of (s5 _ _ (s4 _ _ eq02))
                | succ j => cases j with
                  | zero =>
                    have h1 : T0 = q := by simpa using h1
                    have h2 : ((1 + dd, 2) : Int × Int) = x := by simpa using h2
                    rw [← h1, ← h2]
                    exact SqT.of (s5 _ _ eT0)
                  | succ j => simp at h1
              obtain ⟨pn, nen⟩ := chg_share py dd0 dd1 fr
              refine ⟨(by show 1 ≤ sizeLine; decide), fun L1 hL1 => ?_⟩
              have s26 := (s4.trans s5).trans s6
              have s7 : Same G5 (upd G5 L1 (.lst [.ref r])) := same1 hL1
              have eL1 : (upd G5 L1 (.lst [.ref r]) : Hp) L1 = some (.lst [.ref r]) := upd_same
              have ew5 := b2 _ _ (fun e => npw (.inl e)) ew
              generalize upd G5 L1 (.lst [.ref r]) = G6 at *
              have s27 := s26.trans s7
              refine ⟨_, rfl, _, rfl, wl, _, rfl, SqL.of (s27 _ _ ew5), fun L2 hL2 => ?_⟩
              rw [show cutV ((q0 :: qt).map V.ref) (some 1) none = qt.map V.ref from cut_from (n := 1) (by simp)]
              have s8 : Same G6 (upd G6 L2 (.lst (qt.map V.ref))) := same1 hL2
              have eL2 : (upd G6 L2 (.lst (qt.map V.ref)) : Hp) L2 = some (.lst (qt.map V.ref)) := upd_same
              generalize upd G6 L2 (.lst (qt.map V.ref)) = G7 at *
              have lqt : qt.length ≤ 60 := by
                have h1 : qt.length + 1 = tw.length + 1 := lq
                have h2 : tw.length + 1 ≤ 60 := lkw
                omega
              refine ⟨L1, L2, _, _, rfl, rfl, s8 _ _ eL1, eL2, ?_, fun L3 hL3 => ?_⟩
              · rw [List.length_map]
                exact Nat.le_trans (show 1 + qt.length ≤ 61 by omega) (show 61 ≤ sizeLine by decide)
              · have s28 := s27.trans s8
                have bG7 : But p G G7 := b2.trans (same_but s28)
                have w7 := w2'.same s28
                have lM7 : ∀ q, Or1 (· = p) R q → LstAt G7 q := fun q e => by
                  by_cases c : q = p
                  · rw [c]; exact w7.lst
                  · obtain ⟨xs, ex⟩ := lM q e
                    exact ⟨xs, bG7 _ _ c ex⟩
                have anew : All2 (PrAt G7) (r :: qt) ((t', b') :: tw) := by
                  refine (All2.one (R := PrAt G7) (s7.trans s8 _ _ er)).app (aqt.mono fun a y _ _ h => bG7 _ _ (fun e => ?_) h)
                  obtain ⟨_, _, e1, _⟩ := wz
                  have h : G a = _ := h
                  rw [e, e1] at h
                  cases h
                have s9 : Same G7 (upd G7 L3 (.lst ((r :: qt).map V.ref))) := same1 hL3
                refine ⟨⟨L3, (t', b') :: tw, rfl, prs_new lM7 hL3 anew, fun z => absurd h z, fun _ => ⟨y, (t', b'), tw, rfl, rfl, nen, pn⟩⟩, bG7.trans (same_but s9), z2, w7.same s9, n0, by omega⟩
        · have h : bAt found i ≠ day := fun e => h (decide_eq_true e)
          exact ⟨⟨wl, ws, rfl, pw, fun _ => rfl, fun e => absurd e h⟩, same_but (Same.refl _), zz, wz, y0, by omega⟩
      · rintro σ' G' ⟨⟨wl', ws', rfl, pw', c1, c2⟩, bG', zz', wz', y0', y1'⟩
        have eR' := bG' _ _ (Ne.symm nR.symm) eR
        have kG : ButN (Or1 (· = p) R) G G' := ButN.but lM mp bG'
        have lM' : ∀ q, Or1 (· = p) R q → LstAt G' q := fun q e => by
          by_cases c : q = p
          · rw [c]; exact wz'.lst
          · obtain ⟨xs, ex⟩ := lM q e
            exact ⟨xs, bG' _ _ c ex⟩
        have hts' : All2 (StN (Or1 (· = p) R) G') ts tl := hts.mono fun t x _ _ h => h.but kG
        refine ⟨_, rfl, .inl ⟨rfl, _, SqL.of eR'⟩, _, rfl, _, rfl, (by show 2 ≤ sizeLine; decide), fun T hT => ?_⟩
        obtain ⟨p1, p2, p3, p4, p5⟩ := push2 (dd := d) (G' := upd (upd G' T (.tup [dv d, .ref wl'])) R (.lst (ts.map V.ref ++ [.ref T]))) eR' hts' lM' mR hT pw' rfl
        refine ⟨R, _, _, rfl, rfl, same1 hT _ _ eR', (by rw [List.length_map, lts]; exact Nat.lt_of_lt_of_le (show i < 60 by omega) (by decide)), ?_⟩
        generalize upd (upd G' T (.tup [dv d, .ref wl'])) R (.lst (ts.map V.ref ++ [.ref T])) = G2 at *
        have b2 : But p H G2 := fun b o hb e => p1 _ _ (ne_of_none e hRH) (bG' _ _ hb (bG _ _ hb e))
        have wz2 : WellAt G2 p zz' := by
          obtain ⟨x', y', e, u, v⟩ := wz'
          exact ⟨x', y', p1 _ _ (Ne.symm nR) e, u, v⟩
        have fin : But p H G2 ∧ ButN (Or1 (· = p) R) G1 G2 ∧ (∀ q, Or1 (· = p) R q → LstAt G2 q) ∧
            (∃ zz : Int, WellAt G2 p zz ∧ 0 ≤ zz ∧ zz ≤ z + ((i + 1 : Nat) : Int)) ∧ ∃ (ts : List Addr) (tl : List Sx), G2 R = some (.lst (ts.map V.ref)) ∧ All2 (StN (Or1 (· = p) R) G2) ts tl ∧ ChgTo day found tl (i + 1) :=
          ⟨b2, kp.trans (kG.trans p5), p4, ⟨zz', wz2, y0', by omega⟩, ts ++ [T], _, p2, p3, snoc ws' c1 c2⟩
        refine ⟨_, rfl, _, rfl, ?_⟩
        cases d with
        | none =>
          have bn' : bAt found (i + 1) = bAt found i := by
            rw [bn]
            exact Int.add_zero _
          exact iteN (decide_eq_true rfl) ⟨⟨some (dv none), some (.ref wl'), by rw [bn']⟩, fin⟩
        | some m =>
          show if (!decide (V.int m = V.non)) = true then _ else _
          rw [decide_eq_false (show ¬ (V.int m = V.non) from fun z => nomatch z)]
          exact iteT ⟨_, rfl, _, rfl, _, _, rfl, rfl, ⟨some (dv (some m)), some (.ref wl'), by rw [bn]; rfl⟩, fin⟩
    · rintro σ G ⟨⟨v6, v7, rfl⟩, bG, kp, lM, ⟨zz, wz, y0, y1⟩, ts, tl, eR, hts, chg⟩
      rw [List.length_map, lu] at chg y1
      obtain ⟨dr, fv⟩ := chg.all dt2 hbeg d0
      have fv2 : FirstV told tl (some day) := ⟨d0, fun e => fv.2.1 ((onf day d0).trans e), fun x x0 x1 => (onf x x0).symm.trans (fv.2.2 x x0 x1)⟩
      exact ⟨_, rfl, q G R tl zz bG hRH wz y0 (by omega) ⟨nR, ts, eR, hts.mono fun t x _ _ h => h.less (fun q e => .inl e)⟩ dr fv2⟩
end
end K12

namespace K12
open PySem PySem.Spec PyProof.Rows L2
/-! ### the law's own first unlike day -/
theorem DT.reach {n k e : Nat} {A : List Sx} (d : DT n k e A) : ∀ i, i ≤ A.length → 0 ≤ bAt A i ∧ bAt A i ≤ (i : Int) * 2 ^ 41
  | 0, _ => by rw [bAt_zero]; exact ⟨Int.le_refl _, by decide⟩
  | i + 1, h => by
    have ih := d.reach i (by omega)
    have hx : A[i]? = some A[i] := List.getElem?_eq_getElem (by omega)
    have nx := bAt_next hx
    have fr := d.far _ (List.mem_of_getElem? hx)
    have ds := fun n => d.ok.days i _ n hx
    have e : ((i + 1 : Nat) : Int) * 2 ^ 41 = (i : Int) * 2 ^ 41 + 2 ^ 41 := by
      rw [show ((i + 1 : Nat) : Int) = (i : Int) + 1 from by omega, Int.add_mul, Int.one_mul]
    rw [nx, e]
    cases q : A[i].1 with
    | none =>
      show 0 ≤ bAt A i + 0 ∧ bAt A i + 0 ≤ _
      omega
    | some m =>
      have a := fr m q
      have b := ds m q
      show 0 ≤ bAt A i + m ∧ bAt A i + m ≤ _
      omega
theorem stop_next {A : List Sx} (ok : Told A) {h : Nat} {s : Int} (hl : h < A.length) (e : stopOf A h = some s) : h + 1 < A.length ∧ s = bAt A (h + 1) := by
  have hx : A[h]? = some A[h] := List.getElem?_eq_getElem hl
  have nx := bAt_next hx
  unfold stopOf at e
  rw [hx] at e
  obtain ⟨m, em, rfl⟩ := Option.map_eq_some_iff.mp e
  rw [em] at nx
  refine ⟨?_, nx.symm⟩
  have := ok.open_ h _ hx
  have h2 : h + 1 ≠ A.length := fun z => by
    have := this.mpr z
    rw [em] at this
    cases this
  omega
theorem DT.near {n k e : Nat} {A : List Sx} (d : DT n k e A) : Near A := fun i s es => by
  have il : i < A.length := by
    unfold stopOf at es
    cases q : A[i]? with
    | none => rw [q] at es; cases es
    | some x => exact (List.getElem?_eq_some_iff.mp q).1
  obtain ⟨l, rfl⟩ := stop_next d.ok il es
  have r := d.reach (i + 1) (by omega)
  have few := d.ok.few
  have : ((i + 1 : Nat) : Int) * 2 ^ 41 ≤ 60 * 2 ^ 41 := Int.mul_le_mul_of_nonneg_right (by omega) (by decide)
  exact Int.le_trans r.2 (Int.le_trans this (by decide))
def bsA (A : List Sx) (m : Nat) : List Int := (List.range m).map fun i => bAt A (i + 1)
theorem bsA_next (A : List Sx) (m : Nat) : bsA A (m + 1) = bsA A m ++ [bAt A (m + 1)] := by
  unfold bsA
  rw [List.range_succ, List.map_append]
  rfl
theorem bsA_len (A : List Sx) (m : Nat) : (bsA A m).length = m := by
  unfold bsA
  simp
theorem bsA_mem {A : List Sx} {h : Nat} (l : h + 1 < A.length) : bAt A (h + 1) ∈ bsA A (A.length - 1) := List.mem_map.mpr ⟨h, List.mem_range.mpr (by omega), rfl⟩
theorem bsA_ok {n k e : Nat} {A : List Sx} (d : DT n k e A) {x : Int} (m : x ∈ bsA A (A.length - 1)) : 0 ≤ x ∧ x ≤ 2 ^ 50 := by
  obtain ⟨i, hi, rfl⟩ := List.mem_map.mp m
  have hi := List.mem_range.mp hi
  have r := d.reach (i + 1) (by omega)
  have few := d.ok.few
  have : ((i + 1 : Nat) : Int) * 2 ^ 41 ≤ 60 * 2 ^ 41 := Int.mul_le_mul_of_nonneg_right (by omega) (by decide)
  exact ⟨r.1, Int.le_trans r.2 (Int.le_trans this (by decide))⟩
theorem seg_all {A B : List Sx} (okA : Told A) (okB : Told B) {ka kb : Nat} (lA : ∀ x ∈ A, x.2.length ≤ ka) (lB : ∀ x ∈ B, x.2.length ≤ kb) (l40 : ka + kb ≤ 40) {b : Int} {fo : Option Int} (b0 : 0 ≤ b)
    (hA : ∀ h s, AtDay A h b → stopOf A h = some s → ∃ f, fo = some f ∧ f ≤ s) (hB : ∀ h s, AtDay B h b → stopOf B h = some s → ∃ f, fo = some f ∧ f ≤ s)
    (eq : ∀ x, b ≤ x → x < b + 40 → (∀ f, fo = some f → x < f) → onV A x = onV B x) : ∀ x, b ≤ x → (∀ f, fo = some f → x < f) → onV A x = onV B x := by
  obtain ⟨h, a⟩ := at_ex okA b0
  obtain ⟨g, c⟩ := at_ex okB b0
  have hx : A[h]? = some (A[h]'a.lt) := List.getElem?_eq_getElem a.lt
  have hy : B[g]? = some (B[g]'c.lt) := List.getElem?_eq_getElem c.lt
  have la := lA _ (List.mem_of_getElem? hx)
  have lb := lB _ (List.mem_of_getElem? hy)
  have wa := (okA.word _ _ hx).1
  have wb := (okB.word _ _ hy).1
  have onA : ∀ x, b ≤ x → (∀ f, fo = some f → x < f) → onV A x = (A[h]'a.lt).2[((x - bAt A h) % ((A[h]'a.lt).2.length : Int)).toNat]? := fun x bx xf =>
    on_day okA (a.stay bx (fun s es => by obtain ⟨f, ef, fs⟩ := hA h s a es; have := xf f ef; omega)) hx
  have onB : ∀ x, b ≤ x → (∀ f, fo = some f → x < f) → onV B x = (B[g]'c.lt).2[((x - bAt B g) % ((B[g]'c.lt).2.length : Int)).toNat]? := fun x bx xf =>
    on_day okB (c.stay bx (fun s es => by obtain ⟨f, ef, fs⟩ := hB g s c es; have := xf f ef; omega)) hy
  intro x bx xf
  rw [onA x bx xf, onB x bx xf]
  refine fw (b := b) (e := fo) wa wb (fun y y0 y1 yf => ?_) (x - b).toNat x (by omega) xf
  rw [← onA y y0 yf, ← onB y y0 yf]
  exact eq y y0 (by omega) yf
theorem sorted_next {ns : List Int} (pw : ns.Pairwise (· < ·)) {i : Nat} {b s : Int} (hb : ns[i]? = some b) (hs : s ∈ ns) (l : b < s) : ∃ f, ns[i + 1]? = some f ∧ f ≤ s := by
  obtain ⟨il, eb⟩ := List.getElem?_eq_some_iff.mp hb
  obtain ⟨j, jl, es⟩ := List.getElem_of_mem hs
  have pg := List.pairwise_iff_getElem.mp pw
  have ij : i < j := by
    rcases Nat.lt_trichotomy i j with h | h | h
    · exact h
    · subst h
      omega
    · have := pg j i jl il h
      omega
  refine ⟨ns[i + 1]'(by omega), List.getElem?_eq_getElem (by omega), ?_⟩
  by_cases c : i + 1 = j
  · subst c
    omega
  · have := pg (i + 1) j (by omega) jl (by omega)
    omega
theorem zip_fin (ns : List Int) {i : Nat} (h : i < ns.length) : ((ns.drop 1).map V.int ++ [V.non])[i]? = some (dv ns[i + 1]?) := by
  by_cases c : i + 1 < ns.length
  · rw [List.getElem?_append_left (by rw [List.length_map, List.length_drop]; omega), List.getElem?_map, List.getElem?_drop, show 1 + i = i + 1 from by omega, List.getElem?_eq_getElem c]
    rfl
  · rw [List.getElem?_append_right (by rw [List.length_map, List.length_drop]; omega), List.length_map, List.length_drop, show i - (ns.length - 1) = 0 from by omega, List.getElem?_eq_none (show ns.length ≤ i + 1 by omega)]
    rfl
theorem eqv_pair (a b c d : Int) : PyData.eqv (.tuple [.int a, .int b]) (.tuple [.int c, .int d]) = (decide (a = c) && decide (b = d)) := by
  simp [PyData.eqv, PyData.eqvAll]
  rfl
def spLFirst (K : PySem.W.Frag) : Sp := fun vs H Q _ => ∃ (a b : Addr) (A B : List Sx) (na nb ka kb ea eb : Nat), vs = [.ref a, .ref b] ∧ LTold K H a A ∧ LTold K H b B ∧ DT na ka ea A ∧ DT nb kb eb B ∧ ka + kb ≤ 40 ∧ na + nb ≤ 40 ∧
  ∀ (H' : Hp) (r : Option Int), Same H H' → FirstV A B r → Q (dv r) H'
section
variable {P : Program} {w : World} {K : PySem.W.Frag} {mg : Str → Option Value} {base : Heap}
abbrev lfN : List Str := ["one", "other", "begins", "told", "at", "days", "word", "begin", "finish", "last", "day"]
theorem scLFirst : FnScope lfN ["one", "other"] (defScope d_law_first) := ⟨rfl, rfl, rfl, by decide +kernel, rfl, by decide +kernel, by decide +kernel⟩
theorem ok_lfirst {f f1 : Addr} {fd fd1 : FuncData} (F : Fun K "_law_first" "_law_first" d_law_first f fd) (hmin : mg "min" = none) (hrange : mg "range" = none) (hset : mg "set" = none) (hsorted : mg "sorted" = none) (hzip : mg "zip" = none)
    (A1 : At P w K mg base CX0 1 "_law_on" ["told", "day"] (spLOn K) f1 fd1) : FnOk P w K mg base CX0 2 f fd ["one", "other"] (spLFirst K) := by
  refine F.ok scLFirst (fun vs H Q E h => ?_) (fun cdv A outer s H vs Q E hr h => ?_)
  · obtain ⟨_, _, _, _, _, _, _, _, _, _, rfl, _⟩ := h
    rfl
  · obtain ⟨a, b, TA, TB, na, nb, ka, kb, ea, eb, rfl, hA, hB, dA, dB, k40, n40, q⟩ := h
    refine ⟨_, pss_cons (ps_set (i := 2) scLFirst.nd rfl (Or.inl rfl) (pe_lst (pa_cons pe_int pa_nil)))
      (pss_cons (ps_for PassesOwn.never rfl (pi_list (pe_lst (pa_cons (pv 0) (pa_cons (pv 1) pa_nil)))) (pg_name (i := 3) scLFirst.nd rfl (.inl rfl))
        (pss_cons (ps_set (i := 4) scLFirst.nd rfl (Or.inl rfl) pe_int)
        (pss_one (ps_for PassesOwn.never rfl (pi_list (pe_slice sl_list (pv 3) po_none (po_some (pe_un un_neg pe_int)))) (pg_tup (by rfl) (pgs_cons (pg_name (i := 5) scLFirst.nd rfl (.inl rfl)) (pgs_cons (pg_name (i := 6) scLFirst.nd rfl (.inl rfl)) pgs_nil)))
          (pss_cons (ps_set (i := 4) scLFirst.nd rfl (Or.inl rfl) (pe_op op_add (pv 4) (pv 5)))
          (pss_one (ps_expr (pe_bm PySem.F.plainAttrs_list PySem.F.slot_list_append PySem.F.type_list_append mt_append (pv 2) (pa_cons (pv 4) pa_nil)))))))))
      (pss_cons (ps_set (i := 2) scLFirst.nd rfl (Or.inl rfl) (pe_callB (cr_sortedSet rfl) (by rfl) hsorted (by decide +kernel) (pa_cons (pe_callTy (cr_setL rfl) (by rfl) hset (by decide +kernel) (pa_cons (pv 2) pa_nil)) pa_nil)))
      (pss_cons (ps_for PassesOwn.never rfl (pi_zip (by rfl) hzip (pa_cons (pv 2) (pa_cons (pe_op op_cat (pe_slice sl_list (pv 2) (po_some pe_int) po_none) (pe_lst (pa_cons pe_non pa_nil))) pa_nil)))
          (pg_tup (by rfl) (pgs_cons (pg_name (i := 7) scLFirst.nd rfl (.inl rfl)) (pgs_cons (pg_name (i := 8) scLFirst.nd rfl (.inl rfl)) pgs_nil)))
        (pss_cons (ps_set (i := 9) scLFirst.nd rfl (Or.inl rfl) (pe_op op_add (pv 7) pe_int))
        (C8.pss_cut (ps_if (pt_cmp (pc_notN (pv 8))) (pss_one (ps_set (i := 9) scLFirst.nd rfl (Or.inl rfl) (pe_callB (call_min2 rfl) (by rfl) hmin (by decide +kernel) (pa_cons (pv 9) (pa_cons (pv 8) pa_nil))))) pss_nil)
        (pss_one (ps_for PassesOwn.never rfl (pi_range2 (by rfl) hrange (pa_cons (pv 7) (pa_cons (pv 9) pa_nil))) (pg_name (i := 10) scLFirst.nd rfl (.inl rfl))
          (pss_one (ps_if (pt_cmpR (op_neD hr.units) (pe_call A1.G hr rfl A1.m A1.k A1.b .nil pass0 (pa_cons (pv 0) (pa_cons (pv 10) pa_nil))) (pe_call A1.G hr rfl A1.m A1.k A1.b .nil pass0 (pa_cons (pv 1) (pa_cons (pv 10) pa_nil))) (nomark _)) (pss_one (ps_ret (pv 10))) pss_nil)))))))
      (pss_one (ps_ret pe_non))))), ?_⟩
    have fA := dA.few
    have fB := dB.few
    have pA := dA.ok.pos
    have pB := dB.ok.pos
    refine ⟨(by show 1 ≤ sizeLine; decide), fun L hL => ?_⟩
    have s0 : Same H (upd H L (.lst [.int 0])) := same1 hL
    have eL0 : (upd H L (.lst [.int 0]) : Hp) L = some (.lst ([0].map V.int)) := upd_same
    generalize upd H L (.lst [.int 0]) = H1 at *
    refine ⟨_, rfl, _, rfl, (by show 2 ≤ sizeLine; decide), fun L2 hL2 => ?_⟩
    have s1 : Same H1 (upd H1 L2 (.lst [.ref a, .ref b])) := same1 hL2
    have eL2 : (upd H1 L2 (.lst [.ref a, .ref b]) : Hp) L2 = some (.lst [.ref a, .ref b]) := upd_same
    have eL1 := s1 _ _ eL0
    have nL : L2 ≠ L := fun e => by rw [e, eL0] at hL2; cases hL2
    generalize upd H1 L2 (.lst [.ref a, .ref b]) = H2 at *
    have s02 := s0.trans s1
    refine ⟨L2, rfl, ⟨_, SqL.of eL2⟩, ?_⟩
    refine for_list (K := K) (a := L2) (xs := [.ref a, .ref b]) (fun i σ G => (∃ v3 v4 v5 v6 : Option V, σ = [some (.ref a), some (.ref b), some (.ref L), v3, v4, v5, v6, none, none, none, none]) ∧ Same H G ∧ G L2 = some (.lst [.ref a, .ref b]) ∧
        ∃ bs : List Int, G L = some (.lst (bs.map V.int)) ∧ bs = 0 :: ((if i = 0 then [] else bsA TA (TA.length - 1)) ++ (if i < 2 then [] else bsA TB (TB.length - 1))))
      ⟨⟨_, _, _, _, rfl⟩, s02, eL2, [0], eL1, rfl⟩ ?_ ?_ ?_
    · rintro i σ G _ ⟨_, _, e, _⟩
      exact SqL.of e
    · rintro i x σ G hx ⟨⟨v3, v4, v5, v6, rfl⟩, sG, eG2, bs, eG, ebs⟩
      obtain ⟨c, T, rfl, hT, nT, kT, eT, dT, l40, nxt⟩ : ∃ (c : Addr) (T : List Sx), x = .ref c ∧ LTold K H c T ∧ ∃ (n k e : Nat), DT n k e T ∧ bs.length + T.length ≤ 60 ∧
          bs ++ bsA T (T.length - 1) = 0 :: ((if i + 1 = 0 then [] else bsA TA (TA.length - 1)) ++ (if i + 1 < 2 then [] else bsA TB (TB.length - 1))) := by
        match i, hx with
        | 0, hx =>
          have : V.ref a = x := by simpa using hx
          refine ⟨a, TA, this.symm, hA, na, ka, ea, dA, ?_, ?_⟩
          · rw [ebs]
            show 1 + TA.length ≤ 60
            omega
          · rw [ebs]
            show (0 :: []) ++ bsA TA (TA.length - 1) = 0 :: (bsA TA (TA.length - 1) ++ [])
            rw [List.append_nil]
            rfl
        | 1, hx =>
          have : V.ref b = x := by simpa using hx
          refine ⟨b, TB, this.symm, hB, nb, kb, eb, dB, ?_, ?_⟩
          · rw [ebs]
            show (0 :: (bsA TA (TA.length - 1) ++ [])).length + TB.length ≤ 60
            rw [List.append_nil, List.length_cons, bsA_len]
            omega
          · rw [ebs]
            show (0 :: (bsA TA (TA.length - 1) ++ [])) ++ bsA TB (TB.length - 1) = 0 :: (bsA TA (TA.length - 1) ++ bsA TB (TB.length - 1))
            rw [List.append_nil]
            rfl
        | i + 2, hx => simp at hx
      obtain ⟨ts, ht0, lt, hst⟩ := hT
      have ht := sG.seq ht0
      have posT := dT.ok.pos
      refine ⟨_, rfl, _, rfl, _, rfl, c, _, rfl, ht, fun S hS => ?_⟩
      rw [show cutV (ts.map V.ref) none (some (-1)) = (ts.map V.ref).take ((ts.map V.ref).length - 1) from cut_back (n := 1) (by decide), List.length_map, ← List.map_take]
      have s3 : Same G (upd G S (.lst ((ts.take (ts.length - 1)).map V.ref))) := same1 hS
      have eS : (upd G S (.lst ((ts.take (ts.length - 1)).map V.ref)) : Hp) S = some (.lst ((ts.take (ts.length - 1)).map V.ref)) := upd_same
      have nSL : S ≠ L := fun e => by rw [e, eG] at hS; cases hS
      have nS2 : S ≠ L2 := fun e => by rw [e, eG2] at hS; cases hS
      have eG3 := s3 _ _ eG
      have eG23 := s3 _ _ eG2
      generalize upd G S (.lst ((ts.take (ts.length - 1)).map V.ref)) = G3 at *
      refine ⟨S, rfl, ⟨_, SqL.of eS⟩, ?_⟩
      refine for_list (K := K) (a := S) (xs := (ts.take (ts.length - 1)).map V.ref) (fun j σ M => (∃ v5 v6 : Option V, σ = [some (.ref a), some (.ref b), some (.ref L), some (.ref c), some (.int (bAt T j)), v5, v6, none, none, none, none]) ∧ Same H M ∧ M L2 = some (.lst [.ref a, .ref b]) ∧
          M S = some (.lst ((ts.take (ts.length - 1)).map V.ref)) ∧ M L = some (.lst ((bs ++ bsA T j).map V.int))) ⟨⟨_, _, rfl⟩, sG.trans s3, eG23, eS, by rw [show bsA T 0 = [] from rfl, List.append_nil]; exact eG3⟩ ?_ ?_ ?_
      · rintro j σ M _ ⟨_, _, _, e, _⟩
        exact SqL.of e
      · rintro j x σ M hx ⟨⟨v5, v6, rfl⟩, sM, e2, eS', eL'⟩
        rw [List.getElem?_map] at hx
        obtain ⟨t, htj, rfl⟩ := Option.map_eq_some_iff.mp hx
        have jl : j < ts.length - 1 := by
          have := (List.getElem?_eq_some_iff.mp htj).1
          rw [List.length_take] at this
          omega
        rw [List.getElem?_take_of_lt jl] at htj
        have hxj : T[j]? = some T[j] := List.getElem?_eq_getElem (by omega)
        obtain ⟨wl, q1, _⟩ := hst j t _ htj hxj
        have q1 : SqT K M t [dv T[j].1, .ref wl] := Same.tup sM q1
        obtain ⟨m, em, _⟩ := dT.ok.ends (k := T.length - 1) (show j < T.length - 1 by omega) (by omega) hxj
        have bn := bAt_next hxj
        rw [em] at q1 bn
        have bn : bAt T (j + 1) = bAt T j + m := bn
        refine ⟨t, _, rfl, q1, rfl, _, _, rfl, _, _, rfl, rfl, ?_⟩
        refine ⟨_, rfl, _, rfl, _, _, rfl, rfl, ?_⟩
        refine ⟨_, rfl, .inl ⟨rfl, _, SqL.of eL'⟩, _, rfl, L, _, _, rfl, rfl, eL', ?_, ⟨some (dv (some m)), some (.ref wl), by rw [bn]; rfl⟩, fun o oo eo => ?_, ?_, ?_, ?_⟩
        · rw [List.length_map, List.length_append, bsA_len]
          exact Nat.lt_of_lt_of_le (show bs.length + j < 60 by omega) (by decide)
        · rw [upd_ne (ne_of_none eo hL)]
          exact sM _ _ eo
        · rw [upd_ne nL]
          exact e2
        · rw [upd_ne nSL]
          exact eS'
        · have e : (bs ++ bsA T (j + 1)).map V.int = (bs ++ bsA T j).map V.int ++ [V.int (bAt T j + m)] := by
            rw [bsA_next, ← List.append_assoc, List.map_append (l₁ := bs ++ bsA T j), bn]
            rfl
          rw [e]
          exact upd_same
      · rintro σ M ⟨⟨v5, v6, rfl⟩, sM, e2, eS', eL'⟩
        rw [List.length_map, List.length_take, show min (ts.length - 1) ts.length = T.length - 1 from by omega] at eL'
        exact ⟨⟨_, _, _, _, rfl⟩, sM, e2, _, eL', nxt⟩
    · rintro σ G ⟨⟨v3, v4, v5, v6, rfl⟩, sG, _, bs, eG, ebs⟩
      have ebs : bs = 0 :: (bsA TA (TA.length - 1) ++ bsA TB (TB.length - 1)) := ebs
      have lbs : bs.length ≤ 40 := by
        rw [ebs, List.length_cons, List.length_append, bsA_len, bsA_len]
        omega
      have mA : ∀ {h : Nat}, h + 1 < TA.length → bAt TA (h + 1) ∈ bs := fun l => by
        rw [ebs]
        exact List.mem_cons_of_mem _ (List.mem_append_left _ (bsA_mem l))
      have mB : ∀ {h : Nat}, h + 1 < TB.length → bAt TB (h + 1) ∈ bs := fun l => by
        rw [ebs]
        exact List.mem_cons_of_mem _ (List.mem_append_right _ (bsA_mem l))
      have m0 : (0 : Int) ∈ bs := by rw [ebs]; exact List.mem_cons_self
      have mok : ∀ x ∈ bs, 0 ≤ x ∧ x ≤ 2 ^ 50 := fun x hx => by
        rw [ebs] at hx
        rcases List.mem_cons.mp hx with h | h
        · rw [h]; decide
        · rcases List.mem_append.mp h with h | h
          · exact bsA_ok dA h
          · exact bsA_ok dB h
      refine ⟨_, rfl, L, bs, rfl, SqL.of eG, by omega, fun p c hp hc => ?_⟩
      have s3 : Same G (upd G p (SetO (cxOf CX0 P w K mg base lfN "_law_first" (defScope d_law_first) f cdv A outer s H E).nox.w p (fun j => decide (j ∈ bs)) c)) := same1 hp
      have ep : (upd G p (SetO (cxOf CX0 P w K mg base lfN "_law_first" (defScope d_law_first) f cdv A outer s H E).nox.w p (fun j => decide (j ∈ bs)) c) : Hp) p = some (SetO (cxOf CX0 P w K mg base lfN "_law_first" (defScope d_law_first) f cdv A outer s H E).nox.w p (fun j => decide (j ∈ bs)) c) := upd_same
      generalize upd G p (SetO (cxOf CX0 P w K mg base lfN "_law_first" (defScope d_law_first) f cdv A outer s H E).nox.w p (fun j => decide (j ∈ bs)) c) = G1 at *
      refine ⟨p, _, c, rfl, ep, by omega, fun ns p2 pw mem ln hp2 => ?_⟩
      have mem : ∀ k : Int, k ∈ ns ↔ k ∈ bs := fun k => (mem k).trans (by simp)
      have s4 : Same G1 (upd G1 p2 (.lst (ns.map V.int))) := same1 hp2
      have e4 : (upd G1 p2 (.lst (ns.map V.int)) : Hp) p2 = some (.lst (ns.map V.int)) := upd_same
      generalize upd G1 p2 (.lst (ns.map V.int)) = G2 at *
      refine ⟨_, rfl, _, rfl, _, rfl, p2, _, rfl, SqL.of e4, fun S hS => ?_⟩
      have nspos : 1 ≤ ns.length := by
        have := (mem 0).mpr m0
        cases ns with
        | nil => cases this
        | cons x r => simp
      rw [show cutV (ns.map V.int) (some 1) none = (ns.map V.int).drop 1 from cut_from (n := 1) (by rw [List.length_map]; exact nspos), ← List.map_drop]
      have s5 : Same G2 (upd G2 S (.lst ((ns.drop 1).map V.int))) := same1 hS
      have e5 : (upd G2 S (.lst ((ns.drop 1).map V.int)) : Hp) S = some (.lst ((ns.drop 1).map V.int)) := upd_same
      generalize upd G2 S (.lst ((ns.drop 1).map V.int)) = G3 at *
      refine ⟨(by show 1 ≤ sizeLine; decide), fun S2 hS2 => ?_⟩
      have s6 : Same G3 (upd G3 S2 (.lst [.non])) := same1 hS2
      have e6 : (upd G3 S2 (.lst [.non]) : Hp) S2 = some (.lst [.non]) := upd_same
      generalize upd G3 S2 (.lst [.non]) = G4 at *
      refine ⟨S, S2, _, _, rfl, rfl, s6 _ _ e5, e6, ?_, fun S3 hS3 => ?_⟩
      · rw [List.length_map, List.length_drop]
        exact Nat.le_trans (show ns.length - 1 + 1 ≤ 64 by omega) (by decide)
      have s7 : Same G4 (upd G4 S3 (.lst ((ns.drop 1).map V.int ++ [.non]))) := same1 hS3
      have e7 : (upd G4 S3 (.lst ((ns.drop 1).map V.int ++ [.non])) : Hp) S3 = some (.lst ((ns.drop 1).map V.int ++ [.non])) := upd_same
      generalize upd G4 S3 (.lst ((ns.drop 1).map V.int ++ [.non])) = G5 at *
      have e45 := s7 _ _ (s6 _ _ (s5 _ _ e4))
      have s05 := sG.trans (s3.trans (s4.trans (s5.trans (s6.trans s7))))
      refine ⟨p2, S3, _, _, rfl, SqL.of e45, SqL.of e7, ?_⟩
      refine RZ.for_zipL (K := K) (a := p2) (b := S3) (xs := ns.map V.int) (ys := (ns.drop 1).map V.int ++ [.non]) (by rw [List.length_append, List.length_map, List.length_map, List.length_drop]; show ns.length = ns.length - 1 + 1; omega)
        (fun i σ M => (∃ v3 v4 v5 v6 v7 v8 v9 va : Option V, σ = [some (.ref a), some (.ref b), some (.ref p2), v3, v4, v5, v6, v7, v8, v9, va]) ∧ Same G5 M ∧ (∀ bb, ns[i]? = some bb → ∀ x, 0 ≤ x → x < bb → onV TA x = onV TB x) ∧ (i = ns.length → ∀ x, 0 ≤ x → onV TA x = onV TB x))
        ⟨⟨_, _, _, _, _, _, _, _, rfl⟩, Same.refl _, fun bb hb x x0 x1 => ?_, fun e => by omega⟩ ?_ ?_ ?_
      · -- the least begin is 0
        exfalso
        obtain ⟨j, jl, ej⟩ := List.getElem_of_mem ((mem 0).mpr m0)
        obtain ⟨il, eb⟩ := List.getElem?_eq_some_iff.mp hb
        by_cases c : j = 0
        · subst c
          omega
        · have := List.pairwise_iff_getElem.mp pw 0 j il jl (by omega)
          omega
      · rintro i σ M ⟨_, sM, _⟩
        exact ⟨SqL.of (sM _ _ e45), SqL.of (sM _ _ e7)⟩
      · rintro i x y T σ M hx hy ⟨⟨v3, v4, v5, v6, v7, v8, v9, va, rfl⟩, sM, hb, _⟩ hT
        rw [List.getElem?_map] at hx
        obtain ⟨bb, hbb, rfl⟩ := Option.map_eq_some_iff.mp hx
        have il := (List.getElem?_eq_some_iff.mp hbb).1
        rw [zip_fin ns il] at hy
        injection hy with hy
        subst hy
        have hb := hb bb hbb
        have bmem := (mem bb).mp (List.mem_of_getElem? hbb)
        have bok := mok bb bmem
        have s8 : Same M (upd M T (.tup [.int bb, dv ns[i + 1]?])) := same1 hT
        have e8 : (upd M T (.tup [.int bb, dv ns[i + 1]?]) : Hp) T = some (.tup [.int bb, dv ns[i + 1]?]) := upd_same
        generalize upd M T (.tup [.int bb, dv ns[i + 1]?]) = M1 at *
        have sM1 := sM.trans s8
        have lA := hA.mono (s05.trans sM1)
        have lB := hB.mono (s05.trans sM1)
        have segA : ∀ h s, AtDay TA h bb → stopOf TA h = some s → ∃ f, ns[i + 1]? = some f ∧ f ≤ s := fun h s a' es => by
          obtain ⟨l, e⟩ := stop_next dA.ok a'.lt es
          refine sorted_next pw hbb ((mem s).mpr ?_) (a'.till s es)
          rw [e]
          exact mA l
        have segB : ∀ h s, AtDay TB h bb → stopOf TB h = some s → ∃ f, ns[i + 1]? = some f ∧ f ≤ s := fun h s a' es => by
          obtain ⟨l, e⟩ := stop_next dB.ok a'.lt es
          refine sorted_next pw hbb ((mem s).mpr ?_) (a'.till s es)
          rw [e]
          exact mB l
        have flt : ∀ f, ns[i + 1]? = some f → bb < f := fun f hf => by
          obtain ⟨l1, e1⟩ := List.getElem?_eq_some_iff.mp hbb
          obtain ⟨l2, e2⟩ := List.getElem?_eq_some_iff.mp hf
          have := List.pairwise_iff_getElem.mp pw i (i + 1) l1 l2 (by omega)
          omega
        have nxt : ∀ bb', ns[i + 1]? = some bb' → (∀ x, bb ≤ x → (∀ f, ns[i + 1]? = some f → x < f) → onV TA x = onV TB x) → ∀ x, 0 ≤ x → x < bb' → onV TA x = onV TB x := fun bb' hb' al x x0 x1 => by
          by_cases c : x < bb
          · exact hb x x0 c
          · exact al x (by omega) (fun f hf => by rw [hb'] at hf; cases hf; exact x1)
        have ilen : i + 1 = ns.length → ns[i + 1]? = none := fun e => List.getElem?_eq_none (by omega)
        generalize hfo : ns[i + 1]? = fo at *
        refine ⟨T, _, rfl, SqT.of e8, rfl, _, _, rfl, _, _, rfl, rfl, ?_⟩
        refine ⟨_, rfl, _, _, rfl, rfl, ?_⟩
        obtain ⟨last, hl1, hl2, hl3⟩ : ∃ last : Int, last = (match fo with | none => bb + 40 | some s => if s < bb + 40 then s else bb + 40) ∧ bb ≤ last ∧ last ≤ bb + 40 := by
          refine ⟨_, rfl, ?_⟩
          cases fo with
          | none => exact ⟨by show bb ≤ bb + 40; omega, Int.le_refl _⟩
          | some s =>
            have := flt s rfl
            show bb ≤ (if s < bb + 40 then s else bb + 40) ∧ (if s < bb + 40 then s else bb + 40) ≤ bb + 40
            split <;> omega
        refine ⟨fun σ' G' => σ' = [some (.ref a), some (.ref b), some (.ref p2), v3, v4, v5, v6, some (.int bb), some (dv fo), some (.int last), va] ∧ G' = M1, ?_, ?_⟩
        · cases fo with
          | none => exact ⟨_, rfl, _, rfl, iteN (decide_eq_true rfl) ⟨by rw [hl1]; rfl, rfl⟩⟩
          | some s =>
            refine ⟨_, rfl, _, rfl, ?_⟩
            show if (!decide (V.int s = V.non)) = true then _ else _
            rw [decide_eq_false (show ¬ (V.int s = V.non) from fun z => nomatch z)]
            exact iteT ⟨_, rfl, _, rfl, _, _, rfl, by rw [hl1]; rfl, rfl⟩
        · rintro σ' G' ⟨rfl, rfl⟩
          have w62 : (2 : Int) ^ 50 + 120 < 2 ^ 62 := by decide
          refine ⟨_, rfl, _, rfl, bb, last, rfl, ⟨by omega, by omega, by omega, by omega⟩, ?_⟩
          refine for_range (lo := bb) (n := (last - bb).toNat) (fun j σ N => (∃ v : Option V, σ = [some (.ref a), some (.ref b), some (.ref p2), v3, v4, v5, v6, some (.int bb), some (dv fo), some (.int last), v]) ∧ Same G5 N ∧ LTold K N a TA ∧ LTold K N b TB ∧ ∀ x, 0 ≤ x → x < bb + (j : Int) → onV TA x = onV TB x)
            ⟨⟨_, rfl⟩, sM1, lA, lB, fun x x0 x1 => hb x x0 (by omega)⟩ ?_ ?_
          · rintro j σ N hj ⟨⟨v, rfl⟩, sN, lA', lB', hx⟩
            refine ⟨_, rfl, _, rfl, a, bb + (j : Int), TA, rfl, lA', dA.ok, by omega, fun q1 y1 h1 k1 => ?_⟩
            refine ⟨_, rfl, _, rfl, b, bb + (j : Int), TB, rfl, lB', dB.ok, by omega, fun q2 y2 h2 k2 => ?_⟩
            refine ⟨_, _, Dp.tup k1 (.cons (.int _) (.cons (.int _) .nil)), Dp.tup k2 (.cons (.int _) (.cons (.int _) .nil)), rfl, rfl, _, rfl, ?_⟩
            rw [eqv_pair]
            by_cases e : y1 = y2
            · subst e
              rw [decide_eq_true rfl, decide_eq_true rfl]
              refine iteF ⟨⟨_, rfl⟩, sN, lA', lB', fun x x0 x1 => ?_⟩
              by_cases cx : x < bb + (j : Int)
              · exact hx x x0 cx
              · rw [show x = bb + (j : Int) from by omega, h1, h2]
            · have de : (!(decide (y1.1 = y2.1) && decide (y1.2 = y2.2))) = true := by
                rw [← Bool.decide_and, decide_eq_false (fun z => e (Prod.ext z.1 z.2))]
                rfl
              rw [de]
              refine iteT ⟨_, rfl, q N (some (bb + (j : Int))) (s05.trans sN) ⟨by omega, ?_, hx⟩⟩
              rw [h1, h2]
              exact fun z => e (Option.some.inj z)
          · rintro σ N ⟨⟨v, rfl⟩, sN, lA', lB', hx⟩
            have seg := seg_all dA.ok dB.ok dA.len dB.len k40 bok.1 segA segB (fun x x0 x1 xf => hx x (by omega) (by
              cases fo with
              | none =>
                have hl1 : last = bb + 40 := hl1
                omega
              | some s =>
                have hl1 : last = (if s < bb + 40 then s else bb + 40) := hl1
                have := xf s rfl
                split at hl1 <;> omega))
            refine ⟨⟨_, _, _, _, _, _, _, _, rfl⟩, sN, fun bb' hb' => ?_, fun e x x0 => ?_⟩
            · exact nxt bb' hb' seg
            · have := ilen e
              by_cases c : x < bb
              · exact hb x x0 c
              · exact seg x (by omega) (fun f hf => by rw [this] at hf; cases hf)
      · rintro σ M ⟨_, sM, _, h⟩
        rw [List.length_map] at h
        exact q M none (s05.trans sM) (h rfl)
end
end K12

namespace K12
open PySem PySem.Spec PyProof.Rows L2
theorem Keep.str {K : PySem.W.Frag} {C : Addr} {H H' : Hp} {t : Addr} {x : Option Int × W2} (k : Keep H H') (h : StrAt K C H t x) : StrAt K C H' t x := by
  obtain ⟨wa, a, ps, b, c⟩ := h
  exact ⟨wa, k.tup a, ps, k.tup b, k.all c⟩
theorem ShAll.all2 {C : Addr} {H : Hp} {ps : List Addr} {ws : W2} : ShAll C H ps ws ↔ All2 (fun p (x : Int × Int) => ShAt C H p x.1 x.2) ps ws := ⟨fun h => ⟨h.1, h.2⟩, fun h => ⟨h.len, h.all⟩⟩
def rTupO (K : PySem.W.Frag) : List V → Hp → VK → Prop := fun xs H Q => ∃ p ys, xs = [.ref p] ∧ ((SqL K H p ys ∧ ∀ l, H l = none → Q (.ref l) (upd H l (.tup ys))) ∨ (SqT K H p ys ∧ Q (.ref p) H))
theorem cr_tup {X : Cx} {K : PySem.W.Frag} (e : X.K = K) : CallR X (.type "tuple") (rTupO K) := by
  subst e
  exact call_tuple_of
def spLCourse (K : PySem.W.Frag) (C CC : Addr) : Sp := fun vs H Q _ => ∃ (l : Addr) (told : List (Option Int × W2)), vs = [.ref l] ∧ LTold K H l told ∧ Told told ∧ (∀ x ∈ told, ∀ y ∈ x.2, POk y) ∧
  ∀ (H' : Hp) (c : Addr), Same H H' → CourseAt K C CC H' c told → Q (.ref c) H'
section
variable {P : Program} {w : World} {K : PySem.W.Frag} {mg : Str → Option Value} {base : Heap}
abbrev lcrsN : List Str := ["told", "days", "word", "one", "other"]
theorem scLCrs : FnScope lcrsN ["told"] (defScope d_law_course) := ⟨rfl, rfl, rfl, by decide +kernel, rfl, by decide +kernel, by decide +kernel⟩
theorem ok_lcrs {f fI fJ C CN CC : Addr} {fd fdI fdJ : FuncData} (F : Fun K "_law_course" "_law_course" d_law_course f fd) (T : Txt K mg C CN) (htup : mg "tuple" = none)
    (M : Mk K C fI) (GI : FnOk P w K mg base (L2.CX P w) 2 fI fdI ["self", "top", "bottom"] (spInit C CN)) (bI : Binds K fdI ["self", "top", "bottom"] [])
    (mC : mg "Course" = some (.ref CC)) (MC : Mk K CC fJ) (GJ : FnOk P w K mg base (L2.CX P w) 5 fJ fdJ ["self", "stretches"] (spCInit K C CC)) (bJ : Binds K fdJ ["self", "stretches"] []) :
    FnOk P w K mg base CX0 7 f fd ["told"] (spLCourse K C CC) := by
  refine F.ok scLCrs (fun vs H Q E h => ?_) (fun cdv A outer s H vs Q E hr h => ?_)
  · obtain ⟨l, _, rfl, _⟩ := h
    rfl
  · obtain ⟨l, told, rfl, ⟨ts, hl, lt, hst⟩, ok, pok, kq⟩ := h
    have r3 : Room 3 _ := hr.mono (by decide)
    refine ⟨_, pss_one (ps_ret (pe_make MC GJ hr rfl mC bJ .nil passL (pa_cons
      (pe_lc (own := [("days", 1), ("word", 2)]) (g := gTup K 2 (gCons (gName 1) (gCons (gName 2) gNil))) (by rfl) scLCrs.nd (pi_list (pv 0)) (blkOk_by (own := [("days", 1), ("word", 2)]) (N := lcrsN) (sc := defScope d_law_course) (by decide +kernel))
        (fun _ _ _ _ _ => pg_tup (by rfl) (pgs_cons (pg_name (i := 1) scLCrs.nd rfl (.inl rfl)) (pgs_cons (pg_name (i := 2) scLCrs.nd rfl (.inl rfl)) pgs_nil))) (fun _ _ _ _ _ => pts_nil)
        (fun _ _ _ _ _ => pe_tup (pa_cons (pv 1) (pa_cons (pe_callTy (cr_tup (K := K) rfl) (by rfl) htup (by decide +kernel) (pa_cons
          (pe_lc (own := [("one", 3), ("other", 4)]) (g := gTup K 2 (gCons (gName 3) (gCons (gName 4) gNil))) (by rfl) scLCrs.nd (show PI _ _ _ (iList K (tVar 2)) from pi_list (pv 2)) (blkOk_by (own := [("one", 3), ("other", 4)]) (N := lcrsN) (by rfl))
            (fun _ _ _ _ _ => pg_tup (by rfl) (pgs_cons (pg_name (i := 3) scLCrs.nd rfl (.inl rfl)) (pgs_cons (pg_name (i := 4) scLCrs.nd rfl (.inl rfl)) pgs_nil))) (fun _ _ _ _ _ => pts_nil)
            (fun _ _ _ _ _ => pe_make M GI r3 rfl T.mgC bI .nil passL (pa_cons (pv 3) (pa_cons (pv 4) pa_nil)))) pa_nil)) pa_nil)))) pa_nil))), ?_⟩
    refine ⟨_, rfl, l, rfl, ⟨_, hl⟩, fun D hD => ?_⟩
    refine lc_list (K := K) (a := l) (xs := ts.map V.ref) (fun i N => ∃ us : List Addr, N D = some (.lst (us.map V.ref)) ∧ All2 (StrAt K C N) us (told.take i) ∧ Same H N) ⟨[], upd_same, .nil, same1 hD⟩ ?_ ?_ ?_
    · rintro i N _ ⟨_, _, _, sN⟩
      exact sN.seq hl
    · rintro i x N hx ⟨us, nD, nA, sN⟩
      rw [List.getElem?_map] at hx
      obtain ⟨t, ht, rfl⟩ := Option.map_eq_some_iff.mp hx
      have il : i < told.length := by
        have := (List.getElem?_eq_some_iff.mp ht).1
        omega
      have hxi : told[i]? = some told[i] := List.getElem?_eq_getElem il
      have k60 := ok.few
      have w60 := (ok.word i _ hxi).2
      have pk := pok _ (List.mem_of_getElem? hxi)
      obtain ⟨wl, q1, qs, h1, h2, h3⟩ := hst i t _ ht hxi
      generalize e0 : told[i] = y at *
      obtain ⟨d, ws⟩ := y
      have q1 := Same.tup sN q1
      refine ⟨t, _, rfl, q1, rfl, _, _, rfl, _, _, rfl, rfl, rfl, ?_⟩
      have hwl := sN.seq h1
      refine ⟨_, rfl, _, rfl, wl, rfl, ⟨_, hwl⟩, fun B hB => ?_⟩
      refine lc_list (K := K) (a := wl) (xs := qs.map V.ref) (fun j M => ∃ ps : List Addr, M B = some (.lst (ps.map V.ref)) ∧ All2 (fun p (x : Int × Int) => ShAt C M p x.1 x.2) ps (ws.take j) ∧ Same N M) ⟨[], upd_same, .nil, same1 hB⟩ ?_ ?_ ?_
      · rintro j M _ ⟨_, _, _, sM⟩
        exact sM.seq hwl
      · rintro j x M hx ⟨ps, mB, mA, sM⟩
        rw [List.getElem?_map] at hx
        obtain ⟨q, hq, rfl⟩ := Option.map_eq_some_iff.mp hx
        have jl : j < ws.length := by
          have := (List.getElem?_eq_some_iff.mp hq).1
          have h2 : qs.length = ws.length := h2
          omega
        have hy : ws[j]? = some ws[j] := List.getElem?_eq_getElem jl
        obtain ⟨y0, ym, yt, yc⟩ := pk _ (List.mem_of_getElem? hy)
        have q2 := Same.tup (sN.trans sM) (h3 j q _ hq hy)
        have lw : (ws.take j).length ≤ 60 := by
          rw [List.length_take]
          exact Nat.le_trans (Nat.min_le_right _ _) w60
        have tk := List.take_succ_eq_append_getElem jl
        generalize ws[j] = y at *
        obtain ⟨yn, yd⟩ := y
        refine ⟨q, _, rfl, q2, rfl, _, _, rfl, _, _, rfl, rfl, rfl, ?_⟩
        refine ⟨_, rfl, _, rfl, fun p1 d1 np nd nex => ⟨p1, d1, yn, yd, rfl, upd_same, pow_le yt (by decide), ?_, fun z => absurd z (by have := y0; omega), fun _ L e ka => ⟨rfl, ?_⟩⟩⟩
        · exact Nat.lt_of_le_of_lt (Nat.le_of_dvd (by decide) ym) (Nat.lt_of_lt_of_le (show 6 < 2 ^ 3 by decide) (Nat.pow_le_pow_right (by decide) (by decide)))
        have s1 : Same M L := made_same (C := C) np nd ka
        have eB := s1 _ _ mB
        have kB := keep_lst (ys := ps.map V.ref ++ [.ref p1]) eB
        have lo := low_self y0 yc
        rw [lo.1, lo.2] at e
        refine ⟨_, eB, (by rw [List.length_map, mA.len]; exact Nat.lt_of_le_of_lt lw (show 60 < sizeLine by decide)), ps ++ [p1], by rw [List.map_append]; exact upd_same, ?_, fun b o eb => ?_⟩
        · rw [tk]
          refine (mA.mono fun p x _ _ r => ?_).snoc ?_
          · obtain ⟨dq, r⟩ := r
            exact ⟨dq, kB _ _ (s1 _ _ r) (fun _ z => nomatch z)⟩
          · exact ⟨d1, kB _ _ e (fun _ z => nomatch z)⟩
        · rw [upd_ne (ne_of_none eb hB)]
          exact s1 _ _ (sM _ _ eb)
      · rintro M ⟨ps, mB, mA, sM⟩
        rw [List.length_map, h2, List.take_length] at mA
        refine ⟨B, _, rfl, .inl ⟨SqL.of mB, fun u hu => ?_⟩⟩
        have s1 : Same M (upd M u (.tup (ps.map V.ref))) := same1 hu
        have eu : (upd M u (.tup (ps.map V.ref)) : Hp) u = some (.tup (ps.map V.ref)) := upd_same
        generalize upd M u (.tup (ps.map V.ref)) = M1 at *
        refine ⟨(by show 2 ≤ sizeLine; decide), fun v hv => ?_⟩
        have s2 : Same M1 (upd M1 v (.tup [dv d, .ref u])) := same1 hv
        have ev : (upd M1 v (.tup [dv d, .ref u]) : Hp) v = some (.tup [dv d, .ref u]) := upd_same
        generalize upd M1 v (.tup [dv d, .ref u]) = M2 at *
        have s02 := sM.trans (s1.trans s2)
        have eD := s02 _ _ nD
        have kD := keep_lst (ys := us.map V.ref ++ [.ref v]) eD
        refine ⟨_, eD, ?_, us ++ [v], by rw [List.map_append]; exact upd_same, ?_, fun b o eb => ?_⟩
        · rw [List.length_map, nA.len, List.length_take]
          exact Nat.lt_of_le_of_lt (Nat.le_trans (Nat.min_le_right _ _) k60) (show 60 < sizeLine by decide)
        · rw [List.take_succ_eq_append_getElem il, e0]
          refine (nA.mono fun p x _ _ r => kD.str (r.mono s02)).snoc (kD.str ⟨u, SqT.of ev, ps, SqT.of (s2 _ _ eu), ShAll.all2.mpr (mA.mono fun p x _ _ r => ?_)⟩)
          obtain ⟨dq, r⟩ := r
          exact ⟨dq, s2 _ _ (s1 _ _ r)⟩
        · rw [upd_ne (ne_of_none eb hD)]
          exact s02 _ _ (sN _ _ eb)
    · rintro N ⟨us, nD, nA, sN⟩
      rw [List.length_map, lt, List.take_length] at nA
      intro x dx nx ndx nex
      have sx : Same N (upd (upd N dx (.own x)) x (.ins CC dx [])) := made_same (C := CC) nx ndx (fun a _ => rfl)
      refine ⟨x, dx, D, told, rfl, upd_same, ⟨us, sx.seq (SqL.of nD), nA.len, fun i t y h1 h2 => (nA.all i t y h1 h2).mono sx⟩, ok, fun H' hc kp => ⟨rfl, kq H' x (fun b o e => ?_) hc⟩⟩
      have e2 := sx _ _ (sN _ _ e)
      exact kp b o (ne_of_none (sN _ _ e) nx) e2
end
end K12

namespace K12
open PySem PySem.Spec PyProof.Rows L2
/-! ### what is no course, beside one -/
structure OddT (K : PySem.W.Frag) (CC : Addr) (T : String) : Prop where
  k : PySem.W.kitOne K (.type T) (.ref CC) = some false
  l : PySem.W.subIn K (.type T) (.ref CC) = some false
  r : PySem.W.subIn K (.ref CC) (.type T) = some false
structure OddC (K : PySem.W.Frag) (C CC : Addr) : Prop where
  non : OddT K CC "NoneType"
  int : OddT K CC "int"
  bl : OddT K CC "bool"
  str : OddT K CC "str"
  lst : OddT K CC "list"
  dic : OddT K CC "dict"
  kS : PySem.W.kitOne K (.ref C) (.ref CC) = some false
  lS : PySem.W.subIn K (.ref C) (.ref CC) = some false
  kC : PySem.W.kitOne K (.ref CC) (.ref C) = some false
  lC : PySem.W.subIn K (.ref CC) (.ref C) = some false
/-- a value of a built-in type -/
def OddB (H : Hp) (x : V) (T : String) : Prop := (x = .non ∧ T = "NoneType") ∨ (∃ i, x = .int i ∧ T = "int") ∨ (∃ b, x = .bl b ∧ T = "bool") ∨ (∃ z, x = .str z ∧ T = "str") ∨ (∃ a xs, x = .ref a ∧ H a = some (.lst xs) ∧ T = "list") ∨ (∃ a kvs, x = .ref a ∧ H a = some (.dK kvs) ∧ T = "dict")
/-- what the law puts beside a course -/
def OddV (C : Addr) (H : Hp) (x : V) : Prop := (∃ T, OddB H x T) ∨ ∃ p t b, x = .ref p ∧ ShAt C H p t b
theorem OddB.ty {K : PySem.W.Frag} {H : Hp} {x : V} {T : String} (h : OddB H x T) : TyX K H x (.type T) := by
  rcases h with ⟨rfl, rfl⟩ | ⟨i, rfl, rfl⟩ | ⟨b, rfl, rfl⟩ | ⟨z, rfl, rfl⟩ | ⟨a, xs, rfl, e, rfl⟩ | ⟨a, kvs, rfl, e, rfl⟩
  · exact .base .non
  · exact .base (.int i)
  · exact .base (.bl b)
  · exact .base (.str z)
  · exact .base (.lst e)
  · exact .base (.dK e)
theorem OddB.same {H H' : Hp} {x : V} {T : String} (h : OddB H x T) (s : Same H H') : OddB H' x T := by
  rcases h with h | h | h | h | ⟨a, xs, rfl, e, rfl⟩ | ⟨a, kvs, rfl, e, rfl⟩
  · exact .inl h
  · exact .inr (.inl h)
  · exact .inr (.inr (.inl h))
  · exact .inr (.inr (.inr (.inl h)))
  · exact .inr (.inr (.inr (.inr (.inl ⟨a, xs, rfl, s _ _ e, rfl⟩))))
  · exact .inr (.inr (.inr (.inr (.inr ⟨a, kvs, rfl, s _ _ e, rfl⟩))))
theorem OddV.same {C : Addr} {H H' : Hp} {x : V} (h : OddV C H x) (s : Same H H') : OddV C H' x := by
  rcases h with ⟨T, h⟩ | ⟨p, t, b, rfl, h⟩
  · exact .inl ⟨T, h.same s⟩
  · exact .inr ⟨p, t, b, rfl, h.mono s⟩
theorem OddC.of {K : PySem.W.Frag} {C CC : Addr} (O : OddC K C CC) {H : Hp} {x : V} {T : String} (h : OddB H x T) : OddT K CC T := by
  rcases h with ⟨_, rfl⟩ | ⟨_, _, rfl⟩ | ⟨_, _, rfl⟩ | ⟨_, _, rfl⟩ | ⟨_, _, _, _, rfl⟩ | ⟨_, _, _, _, rfl⟩
  · exact O.non
  · exact O.int
  · exact O.bl
  · exact O.str
  · exact O.lst
  · exact O.dic
def rEqC (K : PySem.W.Frag) (C CC : Addr) : R2 := fun x y H Q => (∃ a b ty, x = .ref a ∧ DCrs K C CC H a y b ∧ TyX K H y ty ∧ PySem.W.notFirst K CC ty = true ∧ ∀ H', Same H H' → Q (.bl b) H') ∨
  (∃ a A, y = .ref a ∧ CourseAt K C CC H a A ∧ OddV C H x ∧ ∀ H', Same H H' → Q (.bl false) H')
def rNeC (K : PySem.W.Frag) (C CC : Addr) : R2 := fun x y H Q => ∃ a b ty, x = .ref a ∧ DCrs K C CC H a y b ∧ TyX K H y ty ∧ PySem.W.notFirst K CC ty = true ∧ ∀ H', Same H H' → Q (.bl (!b)) H'
section
variable {X : Cx} {n : Nat} {C CC f fS : Addr}
theorem op_eqC {m : Nat} (O : OwnC X n C CC f) (OS : OwnEq X m C fS) (D : OddC X.K C CC) (cl : L2.Cls X.K CC) (TI : TxtC X.K CC) (hr : Room n X.A) (hrS : Room m X.A) : OpR X (compareOp .Eq) (rEqC X.K C CC) := by
  intro pins s σ H x y v u Q I rx ry h
  rcases h with ⟨a, b, ty, rfl, hd, hty, hf, q⟩ | ⟨a, A, rfl, hc, ho, q⟩
  · cases rx
    show wpAny (model X.prog X.w) X.A (richCompare .Eq (.ref a) u) (EP X pins σ Q) X.xe s
    refine wpAny_mono (rc_leftC O ⟨hr, rfl⟩ I ry hd hty hf) (fun r s' z => ?_) fun _ _ z => z
    obtain ⟨rfl, H', sH, I'⟩ := z
    exact ⟨.bl b, H', I', rfl, q H' sH⟩
  · cases ry
    show wpAny (model X.prog X.w) X.A (richCompare .Eq v (.ref a)) (EP X pins σ Q) X.xe s
    rcases ho with ⟨T, ho⟩ | ⟨p, t, b, rfl, hp⟩
    · have hd : DCrs X.K C CC H a x false := .inr ⟨_, A, hc, ho.ty, (D.of ho).k, rfl⟩
      obtain ⟨ox, od, J⟩ := ins_atC I hd.crs
      have hin : PySem.W.Looks (model X.prog X.w) s.heap (isInstance (.ref a) (.type T)) false := J.type.andThen (PySem.W.looks_subIn I.kIn (D.of ho).r)
      obtain ⟨dx, l, ss, ea, _⟩ := id hc
      obtain ⟨mA, J2, gx⟩ := ins_get I.hok ea
      have dec : wpAny (model X.prog X.w) X.A (tryCompare v "__eq__" (.ref a)) (fun q s' => q = none ∧ s' = s) X.xe s := by
        rcases ho with ⟨rfl, _⟩ | ⟨i, rfl, _⟩ | ⟨y, rfl, _⟩ | ⟨z, rfl, _⟩ | ⟨c, xs, rfl, e, rfl⟩ | ⟨c, kvs, rfl, e, rfl⟩
        · cases rx
          exact dec_none
        · obtain ⟨tk, rfl⟩ := rx
          exact dec_int J2.obj
        · cases rx
          exact dec_bool J2.obj
        · obtain ⟨tk, rfl⟩ := rx
          exact dec_str J2.obj
        · cases rx
          obtain ⟨_, _, n', _, h1⟩ := (show ObjOk X.prog X.w H s.heap c (.lst xs) from I.hok c _ e)
          exact dec_lst h1 rfl hin
        · cases rx
          obtain ⟨_, _, vs, _, o, es, ep, h1, h2, _⟩ := (show ObjOk X.prog X.w H s.heap c (.dK kvs) from I.hok c _ e)
          exact dec_dic h1 h2.1 hin
      refine wpAny_mono (rc_rightC O ⟨hr, rfl⟩ I rx ho.ty hd (D.of ho).r dec) (fun r s' z => ?_) fun _ _ z => z
      obtain ⟨rfl, H', sH, I'⟩ := z
      exact ⟨.bl false, H', I', rfl, q H' sH⟩
    · cases rx
      obtain ⟨dx, l, ss, ea, _⟩ := id hc
      have hty : TyX X.K H (.ref a) (.ref CC) := .base (.ins ea cl TI.ha TI.hn TI.htk TI.hm)
      obtain ⟨ox, od, J⟩ := ins_atC I ⟨dx, _, ea⟩
      refine wpAny_mono (rc_left OS ⟨hrS, rfl⟩ I (v := .ref a) rfl hp (.inr ⟨_, hty, D.kC, rfl⟩) J.type (by unfold PySem.W.notFirst; rw [D.lC]; simp)) (fun r s' z => ?_) fun _ _ z => z
      obtain ⟨rfl, I'⟩ := z
      exact ⟨.bl false, H, I', rfl, q H (Same.refl H)⟩
theorem op_neC (O : OwnC X n C CC f) (hr : Room (n + 2) X.A) (hne : PySem.W.findIn X.K (.ref CC) "__ne__" = some (some (.builtin "object.__ne__"))) (hob : PySem.W.subIn X.K (.ref CC) (.type "object") = some true) : OpR X (compareOp .NotEq) (rNeC X.K C CC) := by
  intro pins s σ H x y v u Q I rx ry h
  obtain ⟨a, b, ty, rfl, hd, hty, hf, q⟩ := h
  cases rx
  show wpAny (model X.prog X.w) X.A (richCompare .NotEq (.ref a) u) (EP X pins σ Q) X.xe s
  refine wpAny_mono (ne_twoC O ⟨hr, rfl⟩ I hne hob ry hd hty hf) (fun r s' z => ?_) fun _ _ z => z
  obtain ⟨rfl, H', sH, I'⟩ := z
  exact ⟨.bl _, H', I', rfl, q H' sH⟩
end
end K12

namespace K12
open PySem PySem.Spec PyProof.Rows L2
/-! ### two courses told equal, and first unlike -/
theorem But.crs {K : PySem.W.Frag} {C CC p : Addr} {z : Int} {H H' : Hp} {c : Addr} {told : List (Option Int × W2)} (w : WellAt H p z) (k : But p H H') (h : CourseAt K C CC H c told) : CourseAt K C CC H' c told := by
  obtain ⟨wx, wy, ez, _⟩ := w
  have nt : ∀ {b o}, H b = some o → (∀ xs, o ≠ .lst xs) → H' b = some o := fun {b o} e n => k b o (fun z => by rw [z, ez] at e; exact n _ (Option.some.inj e).symm) e
  have tup : ∀ {a : Addr} {xs : List V}, SqT K H a xs → SqT K H' a xs := fun {a xs} h => h.elim (fun h => .inl (h.elim (fun h => .inl (nt h (fun _ z => nomatch z))) fun ⟨o, h⟩ => .inr ⟨o, nt h (fun _ z => nomatch z)⟩)) fun h => .inr h
  obtain ⟨dx, l, ss, a, b, e, g, t⟩ := h
  refine ⟨dx, l, ss, nt a (fun _ z => nomatch z), b.elim (fun h => .inl (h.elim (fun h => .inl (k _ _ (fun z => ?_) h)) fun ⟨o, h⟩ => .inr ⟨o, nt h (fun _ z => nomatch z)⟩)) fun h => .inr h, e, fun i x hx => ?_, t⟩
  · rw [z, ez] at h
    cases ss with
    | nil => cases h
    | cons s0 r => cases h
  obtain ⟨y, e, wa, a, ps, b, c1, c2⟩ := g i x hx
  refine ⟨y, e, wa, tup a, ps, tup b, c1, fun i p x h1 h2 => ?_⟩
  obtain ⟨dq, e⟩ := c2 i p x h1 h2
  exact ⟨dq, nt e (fun _ z => nomatch z)⟩
/-! ### sums stay small -/

def spRight (K : PySem.W.Frag) : Sp := fun vs H Q _ => ∃ (a b : Addr) (A B : List Sx) (na nb ka kb ea eb : Nat), vs = [.ref a, .ref b] ∧ LTold K H a A ∧ LTold K H b B ∧ DT na ka ea A ∧ DT nb kb eb B ∧ ea ≤ 20 ∧ eb ≤ 20 ∧ ka + kb ≤ 40 ∧ na + nb ≤ 40 ∧
  ∀ H', Same H H' → Q (.bl true) H'
theorem first_crs {K : PySem.W.Frag} {C CC : Addr} {H : Hp} {c d : Addr} {A B : List Sx} {r : Option Int} (cA : CourseAt K C CC H c A) (cB : CourseAt K C CC H d B) (nA : Near A) (nB : Near B) (f : FirstV A B r) : DCrs K C CC H c (.ref d) (decide (r = none)) :=
  .inl ⟨d, A, B, r, rfl, cA, cB, nA, nB, f, rfl⟩
theorem crs_ty {K : PySem.W.Frag} {C CC : Addr} {H : Hp} {c : Addr} {A : List Sx} (TC : CrsC K CC) (TI : TxtC K CC) (h : CourseAt K C CC H c A) : TyX K H (.ref c) (.ref CC) := by
  obtain ⟨dx, l, ss, e, _⟩ := h
  exact .base (.ins e TC.cl TI.ha TI.hn TI.htk TI.hm)
section
variable {P : Program} {w : World} {K : PySem.W.Frag} {mg : Str → Option Value} {base : Heap}
abbrev rightN : List Str := ["one", "other", "due", "first", "second"]
theorem scRight : FnScope rightN ["one", "other"] (defScope d_law_right) := ⟨rfl, rfl, rfl, by decide +kernel, rfl, by decide +kernel, by decide +kernel⟩
theorem ok_right {f f1 f2 f3 fE fS C CC : Addr} {fd fd1 fd2 fd3 fdE fdS : FuncData} (F : Fun K "_law_right" "_law_right" d_law_right f fd) (TC : CrsC K CC) (TI : TxtC K CC) (D : OddC K C CC)
    (A1 : At P w K mg base CX0 2 "_law_first" ["one", "other"] (spLFirst K) f1 fd1) (A2 : At P w K mg base CX0 7 "_law_course" ["told"] (spLCourse K C CC) f2 fd2) (A3 : At P w K mg base CX0 4 "first_unlike" ["one", "other"] (spFirst K C CC) f3 fd3)
    (GE : FnOk P w K mg base CX0 5 fE fdE ["self", "other"] (spEqC K C CC)) (bE : Binds K fdE ["self", "other"] []) (aE : PySem.W.findIn K (.ref CC) "__eq__" = some (some (.ref fE))) (iE : PySem.W.isFn K (.ref fE) = true)
    (GS : FnOk P w K mg base CX0 1 fS fdS ["self", "other"] (spEqS K C)) (bS : Binds K fdS ["self", "other"] []) (aS : PySem.W.findIn K (.ref C) "__eq__" = some (some (.ref fS))) (iS : PySem.W.isFn K (.ref fS) = true)
    (hne : PySem.W.findIn K (.ref CC) "__ne__" = some (some (.builtin "object.__ne__"))) (hob : PySem.W.subIn K (.ref CC) (.type "object") = some true) :
    FnOk P w K mg base CX0 8 f fd ["one", "other"] (spRight K) := by
  refine F.ok scRight (fun vs H Q E h => ?_) (fun cdv A outer s H vs Q E hr h => ?_)
  · obtain ⟨_, _, _, _, _, _, _, _, _, _, rfl, _⟩ := h
    rfl
  · obtain ⟨a, b, TA, TB, na, nb, ka, kb, ea, eb, rfl, hA, hB, dA, dB, ea20, eb20, k40, n40, q⟩ := h
    have r1 : Room 1 _ := hr.mono (by decide)
    have r2 : Room 2 _ := hr.mono (by decide)
    have r4 : Room 4 _ := hr.mono (by decide)
    have r5 : Room 5 _ := hr.mono (by decide)
    have own : OwnC (cxOf CX0 P w K mg base rightN "_law_right" (defScope d_law_right) f cdv A outer s H E).nox 5 C CC fE := ⟨⟨_, _, GE, bE⟩, aE, iE⟩
    have ownS : OwnEq (cxOf CX0 P w K mg base rightN "_law_right" (defScope d_law_right) f cdv A outer s H E).nox 1 C fS := ⟨⟨_, _, GS, bS⟩, aS, iS⟩
    refine ⟨_, pss_cons (ps_set (i := 2) scRight.nd rfl (Or.inl rfl) (pe_call A1.G r2 rfl A1.m A1.k A1.b .nil pass0 (pa_cons (pv 0) (pa_cons (pv 1) pa_nil))))
      (pss_cons (ps_par (i := 3) (j := 4) rfl scRight.nd rfl rfl (by decide) rfl rfl (pa_cons (pe_call A2.G hr rfl A2.m A2.k A2.b .nil pass0 (pa_cons (pv 0) pa_nil)) (pa_cons (pe_call A2.G hr rfl A2.m A2.k A2.b .nil pass0 (pa_cons (pv 1) pa_nil)) pa_nil)) (by rfl))
      (pss_cons (ps_if (PW.pt (pw_or (pt_cmpR op_ne (pe_call A3.G r4 rfl A3.m A3.k A3.b .nil pass0 (pa_cons (pv 3) (pa_cons (pv 4) pa_nil))) (pv 2) (nomark _))
          (pw_or1 (pt_cmpR op_ne (pe_call A3.G r4 rfl A3.m A3.k A3.b .nil pass0 (pa_cons (pv 4) (pa_cons (pv 3) pa_nil))) (pv 2) (nomark _))))) (pss_one (ps_ret pe_bl)) pss_nil)
      (pss_one (ps_ret (pe_and (pe_cmpR op_eq (pe_cmpR (op_eqC own ownS D TC.cl TI r5 r1) (pv 3) (pv 4) (nomark _)) (pe_cmp (pc_isN (pv 2))) (nomark _))
        (pe_one (pe_cmpR op_eq (pe_cmpR (op_neC own hr hne hob) (pv 4) (pv 3) (nomark _)) (pe_cmp (pc_notN (pv 2))) (nomark _)))))))), ?_⟩
    have nA := dA.near
    have nB := dB.near
    have nf : PySem.W.notFirst K CC (.ref CC) = true := by simp [PySem.W.notFirst]
    refine ⟨_, rfl, _, rfl, a, b, TA, TB, na, nb, ka, kb, ea, eb, rfl, hA, hB, dA, dB, k40, n40, fun H1 r s1 fv => ?_⟩
    refine ⟨_, rfl, a, TA, rfl, hA.mono s1, dA.ok, fun x hx y hy => (dA.prs x hx y hy).up ea20, fun H2 c s2 cc => ?_⟩
    refine ⟨_, rfl, b, TB, rfl, hB.mono (s1.trans s2), dB.ok, fun x hx y hy => (dB.prs x hx y hy).up eb20, fun H3 d s3 cd => ?_⟩
    have cc3 := cc.mono s3
    have s03 := s1.trans (s2.trans s3)
    refine ⟨_, _, rfl, ?_⟩
    refine ⟨_, rfl, _, rfl, c, d, TA, TB, rfl, cc3, cd, nA, nB, fun H4 r' s4 fv' => ?_⟩
    have e := FirstV.one fv fv'
    subst e
    refine ⟨_, rfl, dv_scal _ _, _, rfl, ?_⟩
    rw [dv_eq, decide_eq_true (rfl : r = r)]
    refine iteF ?_
    refine ⟨_, rfl, _, rfl, d, c, TB, TA, rfl, cd.mono s4, cc3.mono s4, nB, nA, fun H5 r2 s5 fv2 => ?_⟩
    have e := FirstV.one fv.symm fv2
    subst e
    refine ⟨_, rfl, dv_scal _ _, _, rfl, ?_⟩
    rw [dv_eq, decide_eq_true (rfl : r = r)]
    refine iteF ?_
    have s45 := s4.trans s5
    have cc5 := cc3.mono s45
    have cd5 := cd.mono s45
    have dn : decide (dv r = V.non) = decide (r = none) := dv_eq r none
    refine ⟨_, rfl, _, rfl, .inl ⟨c, _, _, rfl, first_crs cc5 cd5 nA nB fv, crs_ty TC TI cd5, nf, fun H6 s6 => ?_⟩⟩
    refine ⟨_, rfl, rfl, ?_⟩
    rw [dn, decide_eq_true (rfl : V.bl (decide (r = none)) = V.bl (decide (r = none)))]
    refine ⟨true, rfl, iteT ?_⟩
    refine ⟨_, rfl, _, rfl, d, _, _, rfl, first_crs (cd5.mono s6) (cc5.mono s6) nB nA fv.symm, crs_ty TC TI (cc5.mono s6), nf, fun H7 s7 => ?_⟩
    refine ⟨_, rfl, rfl, ?_⟩
    rw [dn, decide_eq_true (rfl : V.bl (!decide (r = none)) = V.bl (!decide (r = none)))]
    exact q H7 (s03.trans (s45.trans (s6.trans s7)))
end
end K12

namespace K12
open PySem PySem.Spec PyProof.Rows L2
/-! ### the law of courses compared -/
theorem OddV.facts {K : PySem.W.Frag} {mg : Str → Option Value} {C CN CC : Addr} {H : Hp} {x : V} (O : OddC K C CC) (T : Txt K mg C CN) (TI : TxtI K C) (h : OddV C H x) : ∃ ty, TyX K H x ty ∧ PySem.W.kitOne K ty (.ref CC) = some false ∧ PySem.W.notFirst K CC ty = true := by
  rcases h with ⟨t, h⟩ | ⟨p, t, b, rfl, dx, e⟩
  · exact ⟨_, h.ty, (O.of h).k, by unfold PySem.W.notFirst; rw [(O.of h).l]; simp⟩
  · exact ⟨.ref C, .base (.ins e T.cl TI.ha TI.hn TI.htk TI.hm), O.kS, by unfold PySem.W.notFirst; rw [O.lS]; simp⟩
def spLaw (K : PySem.W.Frag) : Sp := fun vs H Q _ => ∃ (a : Addr) (ns : List Int), vs = [.ref a] ∧ SqL K H a (ns.map V.int) ∧ ns.length ≤ 63 ∧ ∀ H', Q (.bl true) H'
section
variable {P : Program} {w : World} {K : PySem.W.Frag} {mg : Str → Option Value} {base : Heap}
abbrev lawN : List Str := ["script", "cell", "well", "told", "same", "day", "changed", "course", "odd"]
theorem scLaw : FnScope lawN ["script"] (defScope d_law) := ⟨rfl, rfl, rfl, by decide +kernel, rfl, by decide +kernel, by decide +kernel⟩
theorem ok_law {f f1 f2 f3 f4 f5 f6 f7 f8 f9 f10 fE fS fI C CN CC : Addr} {fd fd1 fd2 fd3 fd4 fd5 fd6 fd7 fd8 fd9 fd10 fdE fdS fdI : FuncData} {u0 : Value} (F : Fun K "law" "law" d_law f fd)
    (T : Txt K mg C CN) (TI : TxtI K C) (TC : CrsC K CC) (TIC : TxtC K CC) (D : OddC K C CC) (M : Mk K C fI) (GI : FnOk P w K mg base (L2.CX P w) 2 fI fdI ["self", "top", "bottom"] (spInit C CN)) (bI1 : Binds K fdI ["self", "top", "bottom"] [u0]) (vd : Vals [.int 1] [u0])
    (A1 : At P w K mg base CX0 1 "_law_well" ["cell"] spWell f1 fd1) (A2 : At P w K mg base CX0 4 "_law_stretches" ["well", "most", "word", "long", "far"] spLStr f2 fd2) (A3 : At P w K mg base CX0 2 "_law_one" ["well", "some"] (spOne K) f3 fd3)
    (A4 : At P w K mg base CX0 1 "_law_draw" ["well", "many"] spDraw f4 fd4) (A5 : At P w K mg base CX0 3 "_law_otherwise" ["well", "told"] spOther f5 fd5) (A6 : At P w K mg base CX0 2 "_law_first" ["one", "other"] (spLFirst K) f6 fd6)
    (A7 : At P w K mg base CX0 8 "_law_right" ["one", "other"] (spRight K) f7 fd7) (A8 : At P w K mg base CX0 3 "_law_changed" ["well", "told", "day"] spChanged f8 fd8) (A9 : At P w K mg base CX0 4 "first_unlike" ["one", "other"] (spFirst K C CC) f9 fd9)
    (A10 : At P w K mg base CX0 7 "_law_course" ["told"] (spLCourse K C CC) f10 fd10)
    (GE : FnOk P w K mg base CX0 5 fE fdE ["self", "other"] (spEqC K C CC)) (bE : Binds K fdE ["self", "other"] []) (aE : PySem.W.findIn K (.ref CC) "__eq__" = some (some (.ref fE))) (iE : PySem.W.isFn K (.ref fE) = true)
    (GS : FnOk P w K mg base CX0 1 fS fdS ["self", "other"] (spEqS K C)) (bS : Binds K fdS ["self", "other"] []) (aS : PySem.W.findIn K (.ref C) "__eq__" = some (some (.ref fS))) (iS : PySem.W.isFn K (.ref fS) = true)
    (hne : PySem.W.findIn K (.ref CC) "__ne__" = some (some (.builtin "object.__ne__"))) (hob : PySem.W.subIn K (.ref CC) (.type "object") = some true) :
    FnOk P w K mg base CX0 9 f fd ["script"] (spLaw K) := by
  refine F.ok scLaw (fun vs H Q E h => ?_) (fun cdv A outer s H vs Q E hr h => ?_)
  · obtain ⟨a, _, rfl, _⟩ := h
    rfl
  · obtain ⟨a, ns, rfl, ha, nl, kq⟩ := h
    have r1 : Room 1 _ := hr.mono (by decide)
    have r2 : Room 2 _ := hr.mono (by decide)
    have r3 : Room 3 _ := hr.mono (by decide)
    have r4 : Room 4 _ := hr.mono (by decide)
    have r5 : Room 5 _ := hr.mono (by decide)
    have r7 : Room 7 _ := hr.mono (by decide)
    have own : OwnC (cxOf CX0 P w K mg base lawN "law" (defScope d_law) f cdv A outer s H E).nox 5 C CC fE := ⟨⟨_, _, GE, bE⟩, aE, iE⟩
    have ownS : OwnEq (cxOf CX0 P w K mg base lawN "law" (defScope d_law) f cdv A outer s H E).nox 1 C fS := ⟨⟨_, _, GS, bS⟩, aS, iS⟩
    refine ⟨_, pss_cons (ps_for PassesOwn.never rfl (pi_list (pe_op op_cat (pe_slice sl_list (pv 0) po_none (po_some pe_int)) (pe_lst (pa_cons pe_int (pa_cons pe_int pa_nil))))) (pg_name (i := 1) scLaw.nd rfl (.inl rfl))
        (pss_cons (ps_set (i := 2) scLaw.nd rfl (Or.inl rfl) (pe_call A1.G r1 rfl A1.m A1.k A1.b .nil pass0 (pa_cons (pv 1) pa_nil)))
        (pss_cons (ps_set (i := 3) scLaw.nd rfl (Or.inl rfl) (pe_call A2.G r4 rfl A2.m A2.k A2.b .nil pass0 (pa_cons (pv 2) (pa_cons pe_int (pa_cons pe_int (pa_cons (pe_call A3.G r2 rfl A3.m A3.k A3.b .nil pass0 (pa_cons (pv 2) (pa_cons (pe_lst (pa_cons pe_int (pa_cons pe_int (pa_cons (pe_op op_pow pe_int pe_int) pa_nil)))) pa_nil))) (pa_cons pe_int pa_nil)))))))
        (pss_cons (ps_set (i := 4) scLaw.nd rfl (Or.inl rfl) (pe_call A5.G r3 rfl A5.m A5.k A5.b .nil pass0 (pa_cons (pv 2) (pa_cons (pv 3) pa_nil))))
        (pss_cons (ps_if (PW.pt (pw_or (pt_cmp (pc_notN (pe_call A6.G r2 rfl A6.m A6.k A6.b .nil pass0 (pa_cons (pv 3) (pa_cons (pv 4) pa_nil))))) (pw_or1 (pt_not (pt_val (pe_call A7.G hr rfl A7.m A7.k A7.b .nil pass0 (pa_cons (pv 3) (pa_cons (pv 4) pa_nil)))))))) (pss_one (ps_ret pe_bl)) pss_nil)
        (pss_cons (ps_set (i := 5) scLaw.nd rfl (Or.inl rfl) (pe_call A4.G r1 rfl A4.m A4.k A4.b .nil pass0 (pa_cons (pv 2) (pa_cons (pe_call A3.G r2 rfl A3.m A3.k A3.b .nil pass0 (pa_cons (pv 2) (pa_cons (pe_lst (pa_cons pe_int (pa_cons pe_int (pa_cons (pe_op op_pow pe_int pe_int) pa_nil)))) pa_nil))) pa_nil))))
        (pss_cons (ps_if (pt_not (pt_val (pe_call A7.G hr rfl A7.m A7.k A7.b .nil pass0 (pa_cons (pe_call A8.G r3 rfl A8.m A8.k A8.b .nil pass0 (pa_cons (pv 2) (pa_cons (pv 4) (pa_cons (pv 5) pa_nil)))) (pa_cons (pv 3) pa_nil))))) (pss_one (ps_ret pe_bl)) pss_nil)
        (pss_cons (ps_if (pt_not (pt_val (pe_call A7.G hr rfl A7.m A7.k A7.b .nil pass0 (pa_cons (pv 3) (pa_cons (pe_call A2.G r4 rfl A2.m A2.k A2.b .nil pass0 (pa_cons (pv 2) (pa_cons pe_int (pa_cons pe_int (pa_cons pe_int (pa_cons pe_int pa_nil)))))) pa_nil))))) (pss_one (ps_ret pe_bl)) pss_nil)
        (pss_cons (ps_set (i := 6) scLaw.nd rfl (Or.inl rfl) (pe_call A8.G r3 rfl A8.m A8.k A8.b .nil pass0 (pa_cons (pv 2) (pa_cons (pv 3) (pa_cons (pv 5) pa_nil)))))
        (pss_cons (ps_if (pt_cmpR op_ne (pe_call A9.G r4 rfl A9.m A9.k A9.b .nil pass0 (pa_cons (pe_call A10.G r7 rfl A10.m A10.k A10.b .nil pass0 (pa_cons (pv 3) pa_nil)) (pa_cons (pe_call A10.G r7 rfl A10.m A10.k A10.b .nil pass0 (pa_cons (pv 6) pa_nil)) pa_nil))) (pv 5) (nomark _)) (pss_one (ps_ret pe_bl)) pss_nil)
        (pss_cons (ps_set (i := 7) scLaw.nd rfl (Or.inl rfl) (pe_call A10.G r7 rfl A10.m A10.k A10.b .nil pass0 (pa_cons (pv 3) pa_nil)))
        (pss_cons (ps_set (i := 8) scLaw.nd rfl (Or.inl rfl) (pe_call A3.G r2 rfl A3.m A3.k A3.b .nil pass0 (pa_cons (pv 2) (pa_cons (pe_lst (pa_cons pe_non (pa_cons pe_int (pa_cons (pv 3) (pa_cons pe_str (pa_cons (pe_lst (pa_cons (pv 7) pa_nil)) (pa_cons (pe_make M GI r3 rfl T.mgC bI1 vd passL (pa_cons pe_int pa_nil)) (pa_cons (pe_cmpR op_eq pe_int pe_int (nomark _)) (pa_cons pe_dnewK pa_nil))))))))) pa_nil))))
        (pss_one (ps_if (PW.pt (pw_or (pt_cmpR (op_eqC own ownS D TC.cl TIC r5 r1) (pv 7) (pv 8) (nomark _)) (pw_or (pt_cmpR (op_eqC own ownS D TC.cl TIC r5 r1) (pv 8) (pv 7) (nomark _)) (pw_or1 (pt_not (pt_cmpR (op_neC own r7 hne hob) (pv 7) (pv 8) (nomark _))))))) (pss_one (ps_ret pe_bl)) pss_nil))))))))))))))
      (pss_one (ps_ret pe_bl)), ?_⟩
    refine ⟨_, rfl, _, rfl, a, _, rfl, ha, fun B1 hB1 => ⟨(by show 2 ≤ sizeLine; decide), fun B2 hB2 => ?_⟩⟩
    have cut8 : cutV (ns.map V.int) none (some 8) = (ns.take 8).map V.int := by
      have := cut_to (xs := ns.map V.int) (n := 8)
      rw [← List.map_take] at this
      exact this
    have e1 : (upd (upd H B1 (.lst (cutV (ns.map V.int) none (some 8)))) B2 (.lst [.int 0, .int 1]) : Hp) B1 = some (.lst (cutV (ns.map V.int) none (some 8))) := by
      rw [upd_ne (ne_of_none upd_same hB2)]
      exact upd_same
    refine ⟨B1, B2, _, _, rfl, rfl, e1, upd_same, ?_, fun B hB => ?_⟩
    · rw [cut8, List.length_map, List.length_take]
      exact Nat.le_trans (show min 8 ns.length + 2 ≤ 10 by omega) (show 10 ≤ sizeLine by decide)
    have xe : cutV (ns.map V.int) none (some 8) ++ [.int 0, .int 1] = ((ns.take 8) ++ [0, 1]).map V.int := by rw [cut8, List.map_append]; rfl
    refine ⟨B, rfl, ⟨_, SqL.of upd_same⟩, ?_⟩
    rw [xe]
    generalize (ns.take 8) ++ [0, 1] = cs at *
    refine for_list (K := K) (a := B) (xs := cs.map V.int) (fun i σ G => (∃ v1 v2 v3 v4 v5 v6 v7 v8 : Option V, σ = [some (.ref a), v1, v2, v3, v4, v5, v6, v7, v8]) ∧ G B = some (.lst (cs.map V.int))) ⟨⟨_, _, _, _, _, _, _, _, rfl⟩, upd_same⟩ ?_ ?_ ?_
    · rintro i σ G _ ⟨_, gB⟩
      exact SqL.of gB
    · rintro i x σ G hx' ⟨⟨v1, v2, v3, v4, v5, v6, v7, v8, rfl⟩, gB⟩
      rw [List.getElem?_map] at hx'
      obtain ⟨c, _, rfl⟩ := Option.map_eq_some_iff.mp hx'
      refine ⟨_, rfl, c, rfl, fun p wx wy hp y0 y1 => ?_⟩
      have wA : WellAt (upd G p (.lst [.int wx, .int wy, .int 0])) p 0 := ⟨wx, wy, upd_same, y0, y1⟩
      have sA : Same G (upd G p (.lst [.int wx, .int wy, .int 0])) := same1 hp
      have Bp : B ≠ p := fun e => by rw [← e, gB] at hp; cases hp
      generalize upd G p (.lst [.int wx, .int wy, .int 0]) = G1 at *
      have gB1 := sA _ _ gB
      refine ⟨_, rfl, _, rfl, _, _, rfl, rfl, ⟨by decide, by decide, by decide⟩, (by show 3 ≤ sizeLine; decide), fun L hL => ?_⟩
      have sL : Same G1 (upd G1 L (.lst [.int 9, .int 40, .int (10 ^ (12 : Int).toNat)])) := same1 hL
      refine ⟨p, L, _, 0, rfl, wA.same sL, by decide, by decide, upd_same, well_ne wA hL, (by show 0 < 3; decide), (by show 3 < 1000; decide), fun G3 z1 x bt w3 z10 z11 hx3 => ?_⟩
      obtain ⟨long, rfl, lo0, lo1⟩ : ∃ m : Int, x = .int m ∧ 0 < m ∧ m ≤ 1000000000000 := by
        have hx3 : x ∈ [V.int 9, .int 40, .int (10 ^ (12 : Int).toNat)] := hx3
        simp only [List.mem_cons, List.not_mem_nil, or_false] at hx3
        rcases hx3 with h | h | h
        · exact ⟨9, h, by decide, by decide⟩
        · exact ⟨40, h, by decide, by decide⟩
        · exact ⟨_, h, by decide, by decide⟩
      refine ⟨p, z1, 4, 4, long, 1, rfl, w3, z10, by omega, by decide, by decide, by decide, by decide, lo0, lo1, by decide, by decide, fun G4 l told z2 bt4 hl4 w4 z20 z21 tol dt => ?_⟩
      have dt : DT 4 4 10 told := dt
      have b14 : But p G1 G4 := (same_but sL).trans (bt.trans bt4)
      refine ⟨_, rfl, _, rfl, p, l, z2, told, rfl, w4, z20, by omega, tol, dt, fun G5 sm same z3 b5 hs5 w5 z30 z31 tols dts ons => ?_⟩
      have b15 := b14.trans b5
      have tol5 := tol.butp w4 b5
      refine ⟨_, rfl, _, rfl, l, sm, told, same, 4, 8, 4, 12, 10, 10, rfl, tol5.2.at_, tols.2.at_, dt, dts, by decide, by decide, fun G6 r s6 fv => ?_⟩
      have fn : FirstV told same none := fun x x0 => (ons x x0).symm
      have e := FirstV.one fn fv
      subst e
      refine ⟨_, rfl, iteF ?_⟩
      refine ⟨_, rfl, _, rfl, l, sm, told, same, 4, 8, 4, 12, 10, 10, rfl, (tol5.2.at_).mono s6, (tols.2.at_).mono s6, dt, dts, by decide, by decide, by decide, by decide, fun G7 s7 => ⟨true, rfl, iteF ?_⟩⟩
      have s57 := s6.trans s7
      have w7 := w5.same s57
      have b17 : But p G1 G7 := b15.trans (same_but s57)
      have tol7 := tol5.same s57
      have tols7 := tols.same s57
      refine ⟨_, rfl, _, rfl, _, _, rfl, rfl, ⟨by decide, by decide, by decide⟩, (by show 3 ≤ sizeLine; decide), fun L8 hL8 => ?_⟩
      have s8 : Same G7 (upd G7 L8 (.lst [.int 12, .int 99, .int (10 ^ (12 : Int).toNat)])) := same1 hL8
      refine ⟨p, L8, _, z3, rfl, w7.same s8, z30, by omega, upd_same, well_ne w7 hL8, (by show 0 < 3; decide), (by show 3 < 1000; decide), fun G9 z9 x b9 w9 z90 z91 hx9 => ?_⟩
      obtain ⟨most, rfl, mo0, mo1⟩ : ∃ m : Int, x = .int m ∧ 0 < m ∧ m ≤ 1000000000000 := by
        have hx9 : x ∈ [V.int 12, .int 99, .int (10 ^ (12 : Int).toNat)] := hx9
        simp only [List.mem_cons, List.not_mem_nil, or_false] at hx9
        rcases hx9 with h | h | h
        · exact ⟨12, h, by decide, by decide⟩
        · exact ⟨99, h, by decide, by decide⟩
        · exact ⟨_, h, by decide, by decide⟩
      refine ⟨p, most, z9, rfl, w9, mo0, by omega, z90, by omega, fun G10 day z10' b10 w10 z100 z101 day0 day1 => ?_⟩
      have b710 : But p G7 G10 := (same_but s8).trans (b9.trans b10)
      have tol10 := tol7.butp w7 b710
      have tols10 := tols7.butp w7 b710
      refine ⟨_, rfl, _, rfl, _, rfl, p, sm, z10', day, same, 8, 12, rfl, w10, z100, by omega, tols10, dts, by decide, by decide, day0, by omega, fun G11 ch chg z11' b11 hc11 w11 z110 z111 tolc dtc _ => ?_⟩
      have tol11 := tol10.butp w10 b11
      refine ⟨_, rfl, ch, l, chg, told, 10, 4, 12, 4, 20, 10, rfl, tolc.2.at_, tol11.2.at_, dtc, dt, by decide, by decide, by decide, by decide, fun G12 s12 => ⟨true, rfl, iteF ?_⟩⟩
      have w12 := w11.same s12
      have tol12 := tol11.same s12
      refine ⟨_, rfl, _, rfl, p, z11', 3, 3, 9, 1, rfl, w12, z110, by omega, by decide, by decide, by decide, by decide, by decide, by decide, by decide, by decide, fun G13 l3 told3 z13 b13 hl13 w13 z130 z131 tol3 dt3 => ?_⟩
      have dt3 : DT 3 3 10 told3 := dt3
      have tol13 := tol12.butp w12 b13
      refine ⟨l, l3, told, told3, 4, 3, 4, 3, 10, 10, rfl, tol13.2.at_, tol3.2.at_, dt, dt3, by decide, by decide, by decide, by decide, fun G14 s14 => ⟨true, rfl, iteF ?_⟩⟩
      have w14 := w13.same s14
      have tol14 := tol13.same s14
      refine ⟨_, rfl, _, rfl, _, rfl, p, l, z13, day, told, 4, 4, rfl, w14, z130, by omega, tol14, dt, by decide, by decide, day0, by omega, fun G15 ch2 chg2 z15 b15' hc15 w15 z150 z151 tolc2 dtc2 fv2 => ?_⟩
      have tol15 := tol14.butp w14 b15'
      refine ⟨_, rfl, l, told, rfl, tol15.2.at_, dt.ok, fun x hx y hy => (dt.prs x hx y hy).up (by decide), fun G16 c1 s16 cc1 => ?_⟩
      refine ⟨_, rfl, ch2, chg2, rfl, (tolc2.2.at_).mono s16, dtc2.ok, fun x hx y hy => dtc2.prs x hx y hy, fun G17 c2 s17 cc2 => ?_⟩
      refine ⟨c1, c2, told, chg2, rfl, cc1.mono s17, cc2, dt.near, dtc2.near, fun G18 r2 s18 fv3 => ?_⟩
      have e := FirstV.one fv2 fv3
      subst e
      refine ⟨_, rfl, dv_scal (some day) (some day), _, rfl, ?_⟩
      rw [show decide (dv (some day) = V.int day) = true from decide_eq_true rfl]
      refine iteF ?_
      have s1518 := s16.trans (s17.trans s18)
      have w18 := w15.same s1518
      have tol18 := tol15.same s1518
      refine ⟨_, rfl, l, told, rfl, tol18.2.at_, dt.ok, fun x hx y hy => (dt.prs x hx y hy).up (by decide), fun G19 cr s19 crs => ?_⟩
      have w19 := w18.same s19
      have tol19 := tol18.same s19
      have b119 : But p G1 G19 := b17.trans (b710.trans (b11.trans ((same_but s12).trans (b13.trans ((same_but s14).trans (b15'.trans (same_but (s1518.trans s19))))))))
      refine ⟨_, rfl, _, rfl, _, rfl, (by show 1 ≤ sizeLine; decide), fun L5 hL5 => fun x1 dx1 nx1 nd1 nex => ⟨x1, dx1, 1, 1, rfl, upd_same, by decide, by decide, fun e => absurd e (by decide), fun _ M1 g1 k1 => ⟨rfl, ?_⟩⟩⟩
      have s20 : Same G19 (upd G19 L5 (.lst [.ref cr])) := same1 hL5
      have e5 : (upd G19 L5 (.lst [.ref cr]) : Hp) L5 = some (.lst [.ref cr]) := upd_same
      have sM1 : Same (upd G19 L5 (.lst [.ref cr])) M1 := made_same (C := C) nx1 nd1 k1
      have n5 := well_ne w19 hL5
      generalize upd G19 L5 (.lst [.ref cr]) = G20 at *
      have lo1' := low_self (t := 1) (b := 1) (by decide) (by decide)
      rw [lo1'.1, lo1'.2] at g1
      have e5M := sM1 _ _ e5
      refine ⟨rfl, fun Dd hDd => ⟨(by show 8 ≤ sizeLine; decide), fun L3 hL3 => ?_⟩⟩
      have sD : Same M1 (upd M1 Dd (.dK [])) := same1 hDd
      have eD : (upd M1 Dd (.dK []) : Hp) Dd = some (.dK []) := upd_same
      generalize upd M1 Dd (.dK []) = M2 at *
      have sM2 := s20.trans (sM1.trans sD)
      have w22 := w19.same sM2
      have eL3 := upd_same (H := M2) (a := L3) (o := .lst [.non, .int 0, .ref l, .str "course", .ref L5, .ref x1, .bl (decide (V.int 1 = V.int 1)), .ref Dd])
      have sM3 : Same M2 (upd M2 L3 (.lst [.non, .int 0, .ref l, .str "course", .ref L5, .ref x1, .bl (decide (V.int 1 = V.int 1)), .ref Dd])) := same1 hL3
      refine ⟨p, L3, _, z15, rfl, w22.same sM3, z150, by omega, eL3, well_ne w22 hL3, (by show 0 < 8; decide), (by show 8 < 1000; decide), fun G23 z23 odd b23 w23 z230 z231 hodd => ?_⟩
      have w22' := w22.same sM3
      generalize upd M2 L3 (.lst [.non, .int 0, .ref l, .str "course", .ref L5, .ref x1, .bl (decide (V.int 1 = V.int 1)), .ref Dd]) = M3 at *
      have sM03 := sM2.trans sM3
      have np : ∀ {q : Addr} {o : HO}, M3 q = some o → (∀ xs, o ≠ .lst xs) → q ≠ p := fun {q o} e n h => by
        obtain ⟨_, _, e1, _⟩ := w22'
        rw [h, e1] at e
        exact n _ (Option.some.inj e).symm
      have crs23 := But.crs w22' b23 (crs.mono sM03)
      have ex23 : ShAt C G23 x1 1 1 := ⟨dx1, b23 _ _ (np (sM3 _ _ (sD _ _ g1)) (fun _ z => nomatch z)) (sM3 _ _ (sD _ _ g1))⟩
      have eD23 : G23 Dd = some (.dK []) := b23 _ _ (np (sM3 _ _ eD) (fun _ z => nomatch z)) (sM3 _ _ eD)
      have e523 : G23 L5 = some (.lst [.ref cr]) := b23 _ _ n5 (sM3 _ _ (sD _ _ e5M))
      have hl23 : ∃ xs, G23 l = some (.lst xs) := by
        obtain ⟨nl', ts, el, _⟩ := tol19
        exact ⟨_, b23 _ _ nl' (sM03 _ _ el)⟩
      have gB23 : G23 B = some (.lst (cs.map V.int)) := b23 _ _ Bp (sM03 _ _ (b119 _ _ Bp gB1))
      have od : OddV C G23 odd := by
        simp only [List.mem_cons, List.not_mem_nil, or_false] at hodd
        rcases hodd with h | h | h | h | h | h | h | h <;> subst h
        · exact .inl ⟨_, .inl ⟨rfl, rfl⟩⟩
        · exact .inl ⟨_, .inr (.inl ⟨0, rfl, rfl⟩)⟩
        · obtain ⟨xs, e⟩ := hl23
          exact .inl ⟨_, .inr (.inr (.inr (.inr (.inl ⟨l, xs, rfl, e, rfl⟩))))⟩
        · exact .inl ⟨_, .inr (.inr (.inr (.inl ⟨_, rfl, rfl⟩)))⟩
        · exact .inl ⟨_, .inr (.inr (.inr (.inr (.inl ⟨L5, _, rfl, e523, rfl⟩))))⟩
        · exact .inr ⟨x1, 1, 1, rfl, ex23⟩
        · exact .inl ⟨_, .inr (.inr (.inl ⟨_, rfl, rfl⟩))⟩
        · exact .inl ⟨_, .inr (.inr (.inr (.inr (.inr ⟨Dd, _, rfl, eD23, rfl⟩))))⟩
      obtain ⟨ty, hty, hk, hnf⟩ := od.facts D T TI
      refine ⟨_, rfl, _, rfl, .inl ⟨cr, false, ty, rfl, .inr ⟨ty, told, crs23, hty, hk, rfl⟩, hty, hnf, fun G24 s24 => ⟨_, rfl, iteF ?_⟩⟩⟩
      have crs24 := crs23.mono s24
      have od24 := od.same s24
      refine ⟨_, rfl, _, rfl, .inr ⟨cr, told, rfl, crs24, od24, fun G25 s25 => ⟨_, rfl, iteF ?_⟩⟩⟩
      have crs25 := crs24.mono s25
      have od25 := od24.same s25
      obtain ⟨ty2, hty2, hk2, hnf2⟩ := od25.facts D T TI
      refine ⟨_, rfl, _, rfl, cr, false, ty2, rfl, .inr ⟨ty2, told, crs25, hty2, hk2, rfl⟩, hty2, hnf2, fun G26 s26 => ⟨_, rfl, iteF ⟨⟨_, _, _, _, _, _, _, _, rfl⟩, s26 _ _ (s25 _ _ (s24 _ _ gB23))⟩⟩⟩
    · rintro σ G ⟨⟨v1, v2, v3, v4, v5, v6, v7, v8, rfl⟩, _⟩
      exact kq G
end
theorem law_told {K : PySem.W.Frag} {a : Addr} {H : Hp} {ns : List Int} (hl : ns.length ≤ 63) (hS : SqL K H a (ns.map V.int)) : spLaw K [.ref a] H (fun v _ => v = .bl true) fun _ _ _ => False :=
  ⟨a, ns, rfl, hS, hl, fun _ => rfl⟩
end K12

namespace K12
open PySem PySem.Spec PyProof.Rows L2
theorem exm_own {K : PySem.W.Frag} {S : Addr} (h1 : PySem.W.subIn K (.ref S) (.type "BaseException") = some true) (h2 : PySem.W.isClsIn K S = true) (h3 : PySem.W.typeIn K (.ref S) = some (.type "type")) (h4 : PySem.W.subIn K (.ref S) (.ref S) = some true) :
    PySem.W.exmOne K (.ref S) (.ref S) = some true := by
  have a : (PySem.W.subIn K (.ref S) (.type "BaseException") == some true) = true := by rw [h1] <;> rfl
  have b : ((PySem.W.clsIn K S).isSome && PySem.W.typeIn K (.ref S) == some (.type "type")) = true := by
    rw [show (PySem.W.clsIn K S).isSome = true from h2, h3] <;> rfl
  show (if (PySem.W.subIn K (.ref S) (.type "BaseException") == some true) = true then (if ((PySem.W.clsIn K S).isSome && PySem.W.typeIn K (.ref S) == some (.type "type")) = true then PySem.W.subIn K (.ref S) (.ref S) else none) else none) = some true
  rw [if_pos a, if_pos b]
  exact h4
end K12

namespace K12
open PySem PySem.Spec PyProof.Rows L2
theorem all_mk {P : Program} {w : World} {K : PySem.W.Frag} {h : Heap} {mg : Str → Option Value} {fa : Addr} (X : K.In h) (G : h.Ns mainGlobals mg) (hfa : mg "law" = some (.ref fa))
    {tk_MOST_STRETCHES : Tok}
    {tk_MOST_SHARES : Tok}
    {cRillError : Addr}
    {cNoShare : Addr}
    {cNoCourse : Addr}
    {cShare : Addr}
    {f_Share_init : Addr} {od_Share_init an_Share_init : Option Addr} {sl_Share_init : Array (Option Value)} {oc_Share_init kV_Share_init dc_Share_init pm_Share_init ct_Share_init : Value}
    {cd_Share_init : Value}
    {TD_Share_init : Addr} {ocTD_Share_init : Value} {odTD_Share_init : Option Addr} {nTD_Share_init : Nat} {slTD_Share_init : Array (Option Value)} {tkTD_Share_init : Tok}
    {f_Share_eq : Addr} {od_Share_eq an_Share_eq : Option Addr} {sl_Share_eq : Array (Option Value)} {oc_Share_eq kV_Share_eq dc_Share_eq pm_Share_eq ct_Share_eq : Value}
    {cd_Share_eq : Value}
    {cCourse : Addr}
    {f_Course_init : Addr} {od_Course_init an_Course_init : Option Addr} {sl_Course_init : Array (Option Value)} {oc_Course_init kV_Course_init dc_Course_init pm_Course_init ct_Course_init : Value}
    {cd_Course_init : Value}
    {f_Course_eq : Addr} {od_Course_eq an_Course_eq : Option Addr} {sl_Course_eq : Array (Option Value)} {oc_Course_eq kV_Course_eq dc_Course_eq pm_Course_eq ct_Course_eq : Value}
    {cd_Course_eq : Value}
    {f_is_whole : Addr} {od_is_whole an_is_whole : Option Addr} {sl_is_whole : Array (Option Value)} {oc_is_whole kV_is_whole dc_is_whole pm_is_whole ct_is_whole : Value}
    {cd_is_whole : Value}
    {f_least_word : Addr} {od_least_word an_least_word : Option Addr} {sl_least_word : Array (Option Value)} {oc_least_word kV_least_word dc_least_word pm_least_word ct_least_word : Value}
    {cd_least_word : Value}
    {f_spans_of : Addr} {od_spans_of an_spans_of : Option Addr} {sl_spans_of : Array (Option Value)} {oc_spans_of kV_spans_of dc_spans_of pm_spans_of ct_spans_of : Value}
    {cd_spans_of : Value}
    {f_share_on : Addr} {od_share_on an_share_on : Option Addr} {sl_share_on : Array (Option Value)} {oc_share_on kV_share_on dc_share_on pm_share_on ct_share_on : Value}
    {cd_share_on : Value}
    {f_sooner : Addr} {od_sooner an_sooner : Option Addr} {sl_sooner : Array (Option Value)} {oc_sooner kV_sooner dc_sooner pm_sooner ct_sooner : Value}
    {cd_sooner : Value}
    {f_beside : Addr} {od_beside an_beside : Option Addr} {sl_beside : Array (Option Value)} {oc_beside kV_beside dc_beside pm_beside ct_beside : Value}
    {cd_beside : Value}
    {f_are_stretches : Addr} {od_are_stretches an_are_stretches : Option Addr} {sl_are_stretches : Array (Option Value)} {oc_are_stretches kV_are_stretches dc_are_stretches pm_are_stretches ct_are_stretches : Value}
    {cd_are_stretches : Value}
    {f_is_stretch : Addr} {od_is_stretch an_is_stretch : Option Addr} {sl_is_stretch : Array (Option Value)} {oc_is_stretch kV_is_stretch dc_is_stretch pm_is_stretch ct_is_stretch : Value}
    {cd_is_stretch : Value}
    {f_is_word : Addr} {od_is_word an_is_word : Option Addr} {sl_is_word : Array (Option Value)} {oc_is_word kV_is_word dc_is_word pm_is_word ct_is_word : Value}
    {cd_is_word : Value}
    {f_first_unlike : Addr} {od_first_unlike an_first_unlike : Option Addr} {sl_first_unlike : Array (Option Value)} {oc_first_unlike kV_first_unlike dc_first_unlike pm_first_unlike ct_first_unlike : Value}
    {cd_first_unlike : Value}
    {f_law_well : Addr} {od_law_well an_law_well : Option Addr} {sl_law_well : Array (Option Value)} {oc_law_well kV_law_well dc_law_well pm_law_well ct_law_well : Value}
    {cd_law_well : Value}
    {f_law_draw : Addr} {od_law_draw an_law_draw : Option Addr} {sl_law_draw : Array (Option Value)} {oc_law_draw kV_law_draw dc_law_draw pm_law_draw ct_law_draw : Value}
    {cd_law_draw : Value}
    {f_law_one : Addr} {od_law_one an_law_one : Option Addr} {sl_law_one : Array (Option Value)} {oc_law_one kV_law_one dc_law_one pm_law_one ct_law_one : Value}
    {cd_law_one : Value}
    {f_law_low : Addr} {od_law_low an_law_low : Option Addr} {sl_law_low : Array (Option Value)} {oc_law_low kV_law_low dc_law_low pm_law_low ct_law_low : Value}
    {cd_law_low : Value}
    {f_law_sum : Addr} {od_law_sum an_law_sum : Option Addr} {sl_law_sum : Array (Option Value)} {oc_law_sum kV_law_sum dc_law_sum pm_law_sum ct_law_sum : Value}
    {cd_law_sum : Value}
    {f_law_word : Addr} {od_law_word an_law_word : Option Addr} {sl_law_word : Array (Option Value)} {oc_law_word kV_law_word dc_law_word pm_law_word ct_law_word : Value}
    {cd_law_word : Value}
    {f_law_stretches : Addr} {od_law_stretches an_law_stretches : Option Addr} {sl_law_stretches : Array (Option Value)} {oc_law_stretches kV_law_stretches dc_law_stretches pm_law_stretches ct_law_stretches : Value}
    {cd_law_stretches : Value}
    {f_law_course : Addr} {od_law_course an_law_course : Option Addr} {sl_law_course : Array (Option Value)} {oc_law_course kV_law_course dc_law_course pm_law_course ct_law_course : Value}
    {cd_law_course : Value}
    {f_law_on : Addr} {od_law_on an_law_on : Option Addr} {sl_law_on : Array (Option Value)} {oc_law_on kV_law_on dc_law_on pm_law_on ct_law_on : Value}
    {cd_law_on : Value}
    {f_law_turned : Addr} {od_law_turned an_law_turned : Option Addr} {sl_law_turned : Array (Option Value)} {oc_law_turned kV_law_turned dc_law_turned pm_law_turned ct_law_turned : Value}
    {cd_law_turned : Value}
    {f_law_cut : Addr} {od_law_cut an_law_cut : Option Addr} {sl_law_cut : Array (Option Value)} {oc_law_cut kV_law_cut dc_law_cut pm_law_cut ct_law_cut : Value}
    {cd_law_cut : Value}
    {f_law_otherwise : Addr} {od_law_otherwise an_law_otherwise : Option Addr} {sl_law_otherwise : Array (Option Value)} {oc_law_otherwise kV_law_otherwise dc_law_otherwise pm_law_otherwise ct_law_otherwise : Value}
    {cd_law_otherwise : Value}
    {f_law_changed : Addr} {od_law_changed an_law_changed : Option Addr} {sl_law_changed : Array (Option Value)} {oc_law_changed kV_law_changed dc_law_changed pm_law_changed ct_law_changed : Value}
    {cd_law_changed : Value}
    {f_law_first : Addr} {od_law_first an_law_first : Option Addr} {sl_law_first : Array (Option Value)} {oc_law_first kV_law_first dc_law_first pm_law_first ct_law_first : Value}
    {cd_law_first : Value}
    {f_law_right : Addr} {od_law_right an_law_right : Option Addr} {sl_law_right : Array (Option Value)} {oc_law_right kV_law_right dc_law_right pm_law_right ct_law_right : Value}
    {cd_law_right : Value}
    {f_law : Addr} {od_law an_law : Option Addr} {sl_law : Array (Option Value)} {oc_law kV_law dc_law pm_law ct_law : Value}
    {cd_law : Value}
    (z_ValueError : PySem.W.nsIn K mainGlobals "ValueError" = some none)
    (z_abs : PySem.W.nsIn K mainGlobals "abs" = some none)
    (z_all : PySem.W.nsIn K mainGlobals "all" = some none)
    (z_any : PySem.W.nsIn K mainGlobals "any" = some none)
    (z_bool : PySem.W.nsIn K mainGlobals "bool" = some none)
    (z_int : PySem.W.nsIn K mainGlobals "int" = some none)
    (z_isinstance : PySem.W.nsIn K mainGlobals "isinstance" = some none)
    (z_len : PySem.W.nsIn K mainGlobals "len" = some none)
    (z_list : PySem.W.nsIn K mainGlobals "list" = some none)
    (z_min : PySem.W.nsIn K mainGlobals "min" = some none)
    (z_range : PySem.W.nsIn K mainGlobals "range" = some none)
    (z_set : PySem.W.nsIn K mainGlobals "set" = some none)
    (z_sorted : PySem.W.nsIn K mainGlobals "sorted" = some none)
    (z_tuple : PySem.W.nsIn K mainGlobals "tuple" = some none)
    (z_zip : PySem.W.nsIn K mainGlobals "zip" = some none)
    (i_gcd : PySem.W.nsIn K mainGlobals "gcd" = some (some (.builtin "math.gcd")))
    (g_MOST_STRETCHES : PySem.W.nsIn K mainGlobals "MOST_STRETCHES" = some (some (.int 60 tk_MOST_STRETCHES)))
    (g_MOST_SHARES : PySem.W.nsIn K mainGlobals "MOST_SHARES" = some (some (.int 60 tk_MOST_SHARES)))
    (acRillError : PySem.W.nsIn K mainGlobals "RillError" = some (some (.ref cRillError)))
    (xcRillError : PySem.W.excIn K cRillError [.type "ValueError", .type "Exception", .type "BaseException", .type "object"] "ValueError.__new__" = true)
    (kcRillError : PySem.W.keepIn K (.ref cRillError) = true)
    (bcRillError : PySem.W.subIn K (.ref cRillError) (.type "BaseException") = some true)
    (tcRillError : PySem.W.typeIn K (.ref cRillError) = some (.type "type"))
    (icRillError : PySem.W.isClsIn K cRillError = true)
    (scRillError : PySem.W.subIn K (.ref cRillError) (.ref cRillError) = some true)
    (acNoShare : PySem.W.nsIn K mainGlobals "NoShare" = some (some (.ref cNoShare)))
    (xcNoShare : PySem.W.excIn K cNoShare [.type "ValueError", .type "Exception", .type "BaseException", .type "object"] "ValueError.__new__" = true)
    (kcNoShare : PySem.W.keepIn K (.ref cNoShare) = true)
    (bcNoShare : PySem.W.subIn K (.ref cNoShare) (.type "BaseException") = some true)
    (tcNoShare : PySem.W.typeIn K (.ref cNoShare) = some (.type "type"))
    (icNoShare : PySem.W.isClsIn K cNoShare = true)
    (scNoShare : PySem.W.subIn K (.ref cNoShare) (.ref cNoShare) = some true)
    (acNoCourse : PySem.W.nsIn K mainGlobals "NoCourse" = some (some (.ref cNoCourse)))
    (xcNoCourse : PySem.W.excIn K cNoCourse [.type "ValueError", .type "Exception", .type "BaseException", .type "object"] "ValueError.__new__" = true)
    (kcNoCourse : PySem.W.keepIn K (.ref cNoCourse) = true)
    (bcNoCourse : PySem.W.subIn K (.ref cNoCourse) (.type "BaseException") = some true)
    (tcNoCourse : PySem.W.typeIn K (.ref cNoCourse) = some (.type "type"))
    (icNoCourse : PySem.W.isClsIn K cNoCourse = true)
    (scNoCourse : PySem.W.subIn K (.ref cNoCourse) (.ref cNoCourse) = some true)
    (acShare : PySem.W.nsIn K mainGlobals "Share" = some (some (.ref cShare)))
    (pgcShare : PySem.W.plainGet K cShare Str.empty = true)
    (hdcShare : PySem.W.hasDictIn K cShare = true)
    (pocShare : PySem.W.plainOver K cShare = true)
    (sacShare : PySem.W.findIn K (.ref cShare) "__setattr__" = some (some (.builtin "object.__setattr__")))
    (mkcShare : PySem.W.makesIn K cShare = true)
    (kccShare : PySem.W.keepIn K (.ref cShare) = true)
    (ncShare_bottom : PySem.W.findIn K (.ref cShare) "bottom" = some none)
    (ncShare_top : PySem.W.findIn K (.ref cShare) "top" = some none)
    (gccShare : PySem.W.findIn K (.ref cShare) "__class__" = some (some (.builtin "object.__class__")))
    (gmcShare : PySem.W.mroIn K cShare (.type "object") = some true)
    (mecShare : PySem.W.kitOne K (.ref cShare) (.ref cShare) = some true)
    (mcShare_tuple : PySem.W.kitOne K (.type "tuple") (.ref cShare) = some false)
    (ucShare_tuple : PySem.W.kitOne K (.ref cShare) (.type "tuple") = some false)
    (mcShare_int : PySem.W.kitOne K (.type "int") (.ref cShare) = some false)
    (ucShare_int : PySem.W.kitOne K (.ref cShare) (.type "int") = some false)
    (mcShare_NoneType : PySem.W.kitOne K (.type "NoneType") (.ref cShare) = some false)
    (mcShare_list : PySem.W.kitOne K (.type "list") (.ref cShare) = some false)
    (ucShare_list : PySem.W.kitOne K (.ref cShare) (.type "list") = some false)
    (mcShare_str : PySem.W.kitOne K (.type "str") (.ref cShare) = some false)
    (mcShare_bool : PySem.W.kitOne K (.type "bool") (.ref cShare) = some false)
    (ucShare_bool : PySem.W.kitOne K (.ref cShare) (.type "bool") = some false)
    (mcShare_dict : PySem.W.kitOne K (.type "dict") (.ref cShare) = some false)
    (ecShare : PySem.W.findIn K (.ref cShare) "__ne__" = some (some (.builtin "object.__ne__")))
    (ocShare : PySem.W.subIn K (.ref cShare) (.type "object") = some true)
    (wcShare_tuple : PySem.W.subIn K (.ref cShare) (.type "tuple") = some false)
    (ycShare_tuple : PySem.W.subIn K (.type "tuple") (.ref cShare) = some false)
    (wcShare_int : PySem.W.subIn K (.ref cShare) (.type "int") = some false)
    (ycShare_int : PySem.W.subIn K (.type "int") (.ref cShare) = some false)
    (wcShare_NoneType : PySem.W.subIn K (.ref cShare) (.type "NoneType") = some false)
    (ycShare_NoneType : PySem.W.subIn K (.type "NoneType") (.ref cShare) = some false)
    (wcShare_list : PySem.W.subIn K (.ref cShare) (.type "list") = some false)
    (ycShare_list : PySem.W.subIn K (.type "list") (.ref cShare) = some false)
    (wcShare_str : PySem.W.subIn K (.ref cShare) (.type "str") = some false)
    (ycShare_str : PySem.W.subIn K (.type "str") (.ref cShare) = some false)
    (wcShare_bool : PySem.W.subIn K (.ref cShare) (.type "bool") = some false)
    (ycShare_bool : PySem.W.subIn K (.type "bool") (.ref cShare) = some false)
    (wcShare_dict : PySem.W.subIn K (.ref cShare) (.type "dict") = some false)
    (ycShare_dict : PySem.W.subIn K (.type "dict") (.ref cShare) = some false)
    (a_Share_init : PySem.W.findIn K (.ref cShare) "__init__" = some (some (.ref f_Share_init)))
    (i_Share_init : PySem.W.isFn K (.ref f_Share_init) = true)
    (l_Share_init : K.lookup f_Share_init = some ⟨oc_Share_init, od_Share_init, .func (PySem.W.fnOf "__init__" "Share.__init__" (defArgs d_Share_init) (defBody d_Share_init) (defScope d_Share_init) (.ref TD_Share_init) kV_Share_init dc_Share_init pm_Share_init an_Share_init cd_Share_init ct_Share_init), sl_Share_init⟩)
    (c_Share_init : PySem.W.codeIn K cd_Share_init "Share.__init__" = true)
    (k_Share_init : PySem.W.keepIn K (.ref f_Share_init) = true)
    (lTD_Share_init : K.lookup TD_Share_init = some ⟨ocTD_Share_init, odTD_Share_init, .seq [Value.int 1 tkTD_Share_init].toArray nTD_Share_init, slTD_Share_init⟩)
    (a_Share_eq : PySem.W.findIn K (.ref cShare) "__eq__" = some (some (.ref f_Share_eq)))
    (i_Share_eq : PySem.W.isFn K (.ref f_Share_eq) = true)
    (l_Share_eq : K.lookup f_Share_eq = some ⟨oc_Share_eq, od_Share_eq, .func (PySem.W.fnOf "__eq__" "Share.__eq__" (defArgs d_Share_eq) (defBody d_Share_eq) (defScope d_Share_eq) .none kV_Share_eq dc_Share_eq pm_Share_eq an_Share_eq cd_Share_eq ct_Share_eq), sl_Share_eq⟩)
    (c_Share_eq : PySem.W.codeIn K cd_Share_eq "Share.__eq__" = true)
    (k_Share_eq : PySem.W.keepIn K (.ref f_Share_eq) = true)
    (acCourse : PySem.W.nsIn K mainGlobals "Course" = some (some (.ref cCourse)))
    (pgcCourse : PySem.W.plainGet K cCourse Str.empty = true)
    (hdcCourse : PySem.W.hasDictIn K cCourse = true)
    (pocCourse : PySem.W.plainOver K cCourse = true)
    (sacCourse : PySem.W.findIn K (.ref cCourse) "__setattr__" = some (some (.builtin "object.__setattr__")))
    (mkcCourse : PySem.W.makesIn K cCourse = true)
    (kccCourse : PySem.W.keepIn K (.ref cCourse) = true)
    (ncCourse_spans : PySem.W.findIn K (.ref cCourse) "spans" = some none)
    (gccCourse : PySem.W.findIn K (.ref cCourse) "__class__" = some (some (.builtin "object.__class__")))
    (gmcCourse : PySem.W.mroIn K cCourse (.type "object") = some true)
    (mecCourse : PySem.W.kitOne K (.ref cCourse) (.ref cCourse) = some true)
    (mcCourse_tuple : PySem.W.kitOne K (.type "tuple") (.ref cCourse) = some false)
    (ucCourse_tuple : PySem.W.kitOne K (.ref cCourse) (.type "tuple") = some false)
    (mcCourse_int : PySem.W.kitOne K (.type "int") (.ref cCourse) = some false)
    (ucCourse_int : PySem.W.kitOne K (.ref cCourse) (.type "int") = some false)
    (mcCourse_NoneType : PySem.W.kitOne K (.type "NoneType") (.ref cCourse) = some false)
    (mcCourse_list : PySem.W.kitOne K (.type "list") (.ref cCourse) = some false)
    (ucCourse_list : PySem.W.kitOne K (.ref cCourse) (.type "list") = some false)
    (mcCourse_str : PySem.W.kitOne K (.type "str") (.ref cCourse) = some false)
    (mcCourse_bool : PySem.W.kitOne K (.type "bool") (.ref cCourse) = some false)
    (ucCourse_bool : PySem.W.kitOne K (.ref cCourse) (.type "bool") = some false)
    (mcCourse_dict : PySem.W.kitOne K (.type "dict") (.ref cCourse) = some false)
    (ecCourse : PySem.W.findIn K (.ref cCourse) "__ne__" = some (some (.builtin "object.__ne__")))
    (ocCourse : PySem.W.subIn K (.ref cCourse) (.type "object") = some true)
    (wcCourse_tuple : PySem.W.subIn K (.ref cCourse) (.type "tuple") = some false)
    (ycCourse_tuple : PySem.W.subIn K (.type "tuple") (.ref cCourse) = some false)
    (wcCourse_int : PySem.W.subIn K (.ref cCourse) (.type "int") = some false)
    (ycCourse_int : PySem.W.subIn K (.type "int") (.ref cCourse) = some false)
    (wcCourse_NoneType : PySem.W.subIn K (.ref cCourse) (.type "NoneType") = some false)
    (ycCourse_NoneType : PySem.W.subIn K (.type "NoneType") (.ref cCourse) = some false)
    (wcCourse_list : PySem.W.subIn K (.ref cCourse) (.type "list") = some false)
    (ycCourse_list : PySem.W.subIn K (.type "list") (.ref cCourse) = some false)
    (wcCourse_str : PySem.W.subIn K (.ref cCourse) (.type "str") = some false)
    (ycCourse_str : PySem.W.subIn K (.type "str") (.ref cCourse) = some false)
    (wcCourse_bool : PySem.W.subIn K (.ref cCourse) (.type "bool") = some false)
    (ycCourse_bool : PySem.W.subIn K (.type "bool") (.ref cCourse) = some false)
    (wcCourse_dict : PySem.W.subIn K (.ref cCourse) (.type "dict") = some false)
    (ycCourse_dict : PySem.W.subIn K (.type "dict") (.ref cCourse) = some false)
    (a_Course_init : PySem.W.findIn K (.ref cCourse) "__init__" = some (some (.ref f_Course_init)))
    (i_Course_init : PySem.W.isFn K (.ref f_Course_init) = true)
    (l_Course_init : K.lookup f_Course_init = some ⟨oc_Course_init, od_Course_init, .func (PySem.W.fnOf "__init__" "Course.__init__" (defArgs d_Course_init) (defBody d_Course_init) (defScope d_Course_init) .none kV_Course_init dc_Course_init pm_Course_init an_Course_init cd_Course_init ct_Course_init), sl_Course_init⟩)
    (c_Course_init : PySem.W.codeIn K cd_Course_init "Course.__init__" = true)
    (k_Course_init : PySem.W.keepIn K (.ref f_Course_init) = true)
    (a_Course_eq : PySem.W.findIn K (.ref cCourse) "__eq__" = some (some (.ref f_Course_eq)))
    (i_Course_eq : PySem.W.isFn K (.ref f_Course_eq) = true)
    (l_Course_eq : K.lookup f_Course_eq = some ⟨oc_Course_eq, od_Course_eq, .func (PySem.W.fnOf "__eq__" "Course.__eq__" (defArgs d_Course_eq) (defBody d_Course_eq) (defScope d_Course_eq) .none kV_Course_eq dc_Course_eq pm_Course_eq an_Course_eq cd_Course_eq ct_Course_eq), sl_Course_eq⟩)
    (c_Course_eq : PySem.W.codeIn K cd_Course_eq "Course.__eq__" = true)
    (k_Course_eq : PySem.W.keepIn K (.ref f_Course_eq) = true)
    (jShare_Course : PySem.W.kitOne K (.ref cShare) (.ref cCourse) = some false)
    (vShare_Course : PySem.W.subIn K (.ref cShare) (.ref cCourse) = some false)
    (jCourse_Share : PySem.W.kitOne K (.ref cCourse) (.ref cShare) = some false)
    (vCourse_Share : PySem.W.subIn K (.ref cCourse) (.ref cShare) = some false)
    (a_is_whole : PySem.W.nsIn K mainGlobals "is_whole" = some (some (.ref f_is_whole)))
    (l_is_whole : K.lookup f_is_whole = some ⟨oc_is_whole, od_is_whole, .func (PySem.W.fnOf "is_whole" "is_whole" (defArgs d_is_whole) (defBody d_is_whole) (defScope d_is_whole) .none kV_is_whole dc_is_whole pm_is_whole an_is_whole cd_is_whole ct_is_whole), sl_is_whole⟩)
    (c_is_whole : PySem.W.codeIn K cd_is_whole "is_whole" = true)
    (k_is_whole : PySem.W.keepIn K (.ref f_is_whole) = true)
    (a_least_word : PySem.W.nsIn K mainGlobals "least_word" = some (some (.ref f_least_word)))
    (l_least_word : K.lookup f_least_word = some ⟨oc_least_word, od_least_word, .func (PySem.W.fnOf "least_word" "least_word" (defArgs d_least_word) (defBody d_least_word) (defScope d_least_word) .none kV_least_word dc_least_word pm_least_word an_least_word cd_least_word ct_least_word), sl_least_word⟩)
    (c_least_word : PySem.W.codeIn K cd_least_word "least_word" = true)
    (k_least_word : PySem.W.keepIn K (.ref f_least_word) = true)
    (a_spans_of : PySem.W.nsIn K mainGlobals "spans_of" = some (some (.ref f_spans_of)))
    (l_spans_of : K.lookup f_spans_of = some ⟨oc_spans_of, od_spans_of, .func (PySem.W.fnOf "spans_of" "spans_of" (defArgs d_spans_of) (defBody d_spans_of) (defScope d_spans_of) .none kV_spans_of dc_spans_of pm_spans_of an_spans_of cd_spans_of ct_spans_of), sl_spans_of⟩)
    (c_spans_of : PySem.W.codeIn K cd_spans_of "spans_of" = true)
    (k_spans_of : PySem.W.keepIn K (.ref f_spans_of) = true)
    (a_share_on : PySem.W.nsIn K mainGlobals "share_on" = some (some (.ref f_share_on)))
    (l_share_on : K.lookup f_share_on = some ⟨oc_share_on, od_share_on, .func (PySem.W.fnOf "share_on" "share_on" (defArgs d_share_on) (defBody d_share_on) (defScope d_share_on) .none kV_share_on dc_share_on pm_share_on an_share_on cd_share_on ct_share_on), sl_share_on⟩)
    (c_share_on : PySem.W.codeIn K cd_share_on "share_on" = true)
    (k_share_on : PySem.W.keepIn K (.ref f_share_on) = true)
    (a_sooner : PySem.W.nsIn K mainGlobals "sooner" = some (some (.ref f_sooner)))
    (l_sooner : K.lookup f_sooner = some ⟨oc_sooner, od_sooner, .func (PySem.W.fnOf "sooner" "sooner" (defArgs d_sooner) (defBody d_sooner) (defScope d_sooner) .none kV_sooner dc_sooner pm_sooner an_sooner cd_sooner ct_sooner), sl_sooner⟩)
    (c_sooner : PySem.W.codeIn K cd_sooner "sooner" = true)
    (k_sooner : PySem.W.keepIn K (.ref f_sooner) = true)
    (a_beside : PySem.W.nsIn K mainGlobals "beside" = some (some (.ref f_beside)))
    (l_beside : K.lookup f_beside = some ⟨oc_beside, od_beside, .func (PySem.W.fnOf "beside" "beside" (defArgs d_beside) (defBody d_beside) (defScope d_beside) .none kV_beside dc_beside pm_beside an_beside cd_beside ct_beside), sl_beside⟩)
    (c_beside : PySem.W.codeIn K cd_beside "beside" = true)
    (k_beside : PySem.W.keepIn K (.ref f_beside) = true)
    (a_are_stretches : PySem.W.nsIn K mainGlobals "are_stretches" = some (some (.ref f_are_stretches)))
    (l_are_stretches : K.lookup f_are_stretches = some ⟨oc_are_stretches, od_are_stretches, .func (PySem.W.fnOf "are_stretches" "are_stretches" (defArgs d_are_stretches) (defBody d_are_stretches) (defScope d_are_stretches) .none kV_are_stretches dc_are_stretches pm_are_stretches an_are_stretches cd_are_stretches ct_are_stretches), sl_are_stretches⟩)
    (c_are_stretches : PySem.W.codeIn K cd_are_stretches "are_stretches" = true)
    (k_are_stretches : PySem.W.keepIn K (.ref f_are_stretches) = true)
    (a_is_stretch : PySem.W.nsIn K mainGlobals "is_stretch" = some (some (.ref f_is_stretch)))
    (l_is_stretch : K.lookup f_is_stretch = some ⟨oc_is_stretch, od_is_stretch, .func (PySem.W.fnOf "is_stretch" "is_stretch" (defArgs d_is_stretch) (defBody d_is_stretch) (defScope d_is_stretch) .none kV_is_stretch dc_is_stretch pm_is_stretch an_is_stretch cd_is_stretch ct_is_stretch), sl_is_stretch⟩)
    (c_is_stretch : PySem.W.codeIn K cd_is_stretch "is_stretch" = true)
    (k_is_stretch : PySem.W.keepIn K (.ref f_is_stretch) = true)
    (a_is_word : PySem.W.nsIn K mainGlobals "is_word" = some (some (.ref f_is_word)))
    (l_is_word : K.lookup f_is_word = some ⟨oc_is_word, od_is_word, .func (PySem.W.fnOf "is_word" "is_word" (defArgs d_is_word) (defBody d_is_word) (defScope d_is_word) .none kV_is_word dc_is_word pm_is_word an_is_word cd_is_word ct_is_word), sl_is_word⟩)
    (c_is_word : PySem.W.codeIn K cd_is_word "is_word" = true)
    (k_is_word : PySem.W.keepIn K (.ref f_is_word) = true)
    (a_first_unlike : PySem.W.nsIn K mainGlobals "first_unlike" = some (some (.ref f_first_unlike)))
    (l_first_unlike : K.lookup f_first_unlike = some ⟨oc_first_unlike, od_first_unlike, .func (PySem.W.fnOf "first_unlike" "first_unlike" (defArgs d_first_unlike) (defBody d_first_unlike) (defScope d_first_unlike) .none kV_first_unlike dc_first_unlike pm_first_unlike an_first_unlike cd_first_unlike ct_first_unlike), sl_first_unlike⟩)
    (c_first_unlike : PySem.W.codeIn K cd_first_unlike "first_unlike" = true)
    (k_first_unlike : PySem.W.keepIn K (.ref f_first_unlike) = true)
    (a_law_well : PySem.W.nsIn K mainGlobals "_law_well" = some (some (.ref f_law_well)))
    (l_law_well : K.lookup f_law_well = some ⟨oc_law_well, od_law_well, .func (PySem.W.fnOf "_law_well" "_law_well" (defArgs d_law_well) (defBody d_law_well) (defScope d_law_well) .none kV_law_well dc_law_well pm_law_well an_law_well cd_law_well ct_law_well), sl_law_well⟩)
    (c_law_well : PySem.W.codeIn K cd_law_well "_law_well" = true)
    (k_law_well : PySem.W.keepIn K (.ref f_law_well) = true)
    (a_law_draw : PySem.W.nsIn K mainGlobals "_law_draw" = some (some (.ref f_law_draw)))
    (l_law_draw : K.lookup f_law_draw = some ⟨oc_law_draw, od_law_draw, .func (PySem.W.fnOf "_law_draw" "_law_draw" (defArgs d_law_draw) (defBody d_law_draw) (defScope d_law_draw) .none kV_law_draw dc_law_draw pm_law_draw an_law_draw cd_law_draw ct_law_draw), sl_law_draw⟩)
    (c_law_draw : PySem.W.codeIn K cd_law_draw "_law_draw" = true)
    (k_law_draw : PySem.W.keepIn K (.ref f_law_draw) = true)
    (a_law_one : PySem.W.nsIn K mainGlobals "_law_one" = some (some (.ref f_law_one)))
    (l_law_one : K.lookup f_law_one = some ⟨oc_law_one, od_law_one, .func (PySem.W.fnOf "_law_one" "_law_one" (defArgs d_law_one) (defBody d_law_one) (defScope d_law_one) .none kV_law_one dc_law_one pm_law_one an_law_one cd_law_one ct_law_one), sl_law_one⟩)
    (c_law_one : PySem.W.codeIn K cd_law_one "_law_one" = true)
    (k_law_one : PySem.W.keepIn K (.ref f_law_one) = true)
    (a_law_low : PySem.W.nsIn K mainGlobals "_law_low" = some (some (.ref f_law_low)))
    (l_law_low : K.lookup f_law_low = some ⟨oc_law_low, od_law_low, .func (PySem.W.fnOf "_law_low" "_law_low" (defArgs d_law_low) (defBody d_law_low) (defScope d_law_low) .none kV_law_low dc_law_low pm_law_low an_law_low cd_law_low ct_law_low), sl_law_low⟩)
    (c_law_low : PySem.W.codeIn K cd_law_low "_law_low" = true)
    (k_law_low : PySem.W.keepIn K (.ref f_law_low) = true)
    (a_law_sum : PySem.W.nsIn K mainGlobals "_law_sum" = some (some (.ref f_law_sum)))
    (l_law_sum : K.lookup f_law_sum = some ⟨oc_law_sum, od_law_sum, .func (PySem.W.fnOf "_law_sum" "_law_sum" (defArgs d_law_sum) (defBody d_law_sum) (defScope d_law_sum) .none kV_law_sum dc_law_sum pm_law_sum an_law_sum cd_law_sum ct_law_sum), sl_law_sum⟩)
    (c_law_sum : PySem.W.codeIn K cd_law_sum "_law_sum" = true)
    (k_law_sum : PySem.W.keepIn K (.ref f_law_sum) = true)
    (a_law_word : PySem.W.nsIn K mainGlobals "_law_word" = some (some (.ref f_law_word)))
    (l_law_word : K.lookup f_law_word = some ⟨oc_law_word, od_law_word, .func (PySem.W.fnOf "_law_word" "_law_word" (defArgs d_law_word) (defBody d_law_word) (defScope d_law_word) .none kV_law_word dc_law_word pm_law_word an_law_word cd_law_word ct_law_word), sl_law_word⟩)
    (c_law_word : PySem.W.codeIn K cd_law_word "_law_word" = true)
    (k_law_word : PySem.W.keepIn K (.ref f_law_word) = true)
    (a_law_stretches : PySem.W.nsIn K mainGlobals "_law_stretches" = some (some (.ref f_law_stretches)))
    (l_law_stretches : K.lookup f_law_stretches = some ⟨oc_law_stretches, od_law_stretches, .func (PySem.W.fnOf "_law_stretches" "_law_stretches" (defArgs d_law_stretches) (defBody d_law_stretches) (defScope d_law_stretches) .none kV_law_stretches dc_law_stretches pm_law_stretches an_law_stretches cd_law_stretches ct_law_stretches), sl_law_stretches⟩)
    (c_law_stretches : PySem.W.codeIn K cd_law_stretches "_law_stretches" = true)
    (k_law_stretches : PySem.W.keepIn K (.ref f_law_stretches) = true)
    (a_law_course : PySem.W.nsIn K mainGlobals "_law_course" = some (some (.ref f_law_course)))
    (l_law_course : K.lookup f_law_course = some ⟨oc_law_course, od_law_course, .func (PySem.W.fnOf "_law_course" "_law_course" (defArgs d_law_course) (defBody d_law_course) (defScope d_law_course) .none kV_law_course dc_law_course pm_law_course an_law_course cd_law_course ct_law_course), sl_law_course⟩)
    (c_law_course : PySem.W.codeIn K cd_law_course "_law_course" = true)
    (k_law_course : PySem.W.keepIn K (.ref f_law_course) = true)
    (a_law_on : PySem.W.nsIn K mainGlobals "_law_on" = some (some (.ref f_law_on)))
    (l_law_on : K.lookup f_law_on = some ⟨oc_law_on, od_law_on, .func (PySem.W.fnOf "_law_on" "_law_on" (defArgs d_law_on) (defBody d_law_on) (defScope d_law_on) .none kV_law_on dc_law_on pm_law_on an_law_on cd_law_on ct_law_on), sl_law_on⟩)
    (c_law_on : PySem.W.codeIn K cd_law_on "_law_on" = true)
    (k_law_on : PySem.W.keepIn K (.ref f_law_on) = true)
    (a_law_turned : PySem.W.nsIn K mainGlobals "_law_turned" = some (some (.ref f_law_turned)))
    (l_law_turned : K.lookup f_law_turned = some ⟨oc_law_turned, od_law_turned, .func (PySem.W.fnOf "_law_turned" "_law_turned" (defArgs d_law_turned) (defBody d_law_turned) (defScope d_law_turned) .none kV_law_turned dc_law_turned pm_law_turned an_law_turned cd_law_turned ct_law_turned), sl_law_turned⟩)
    (c_law_turned : PySem.W.codeIn K cd_law_turned "_law_turned" = true)
    (k_law_turned : PySem.W.keepIn K (.ref f_law_turned) = true)
    (a_law_cut : PySem.W.nsIn K mainGlobals "_law_cut" = some (some (.ref f_law_cut)))
    (l_law_cut : K.lookup f_law_cut = some ⟨oc_law_cut, od_law_cut, .func (PySem.W.fnOf "_law_cut" "_law_cut" (defArgs d_law_cut) (defBody d_law_cut) (defScope d_law_cut) .none kV_law_cut dc_law_cut pm_law_cut an_law_cut cd_law_cut ct_law_cut), sl_law_cut⟩)
    (c_law_cut : PySem.W.codeIn K cd_law_cut "_law_cut" = true)
    (k_law_cut : PySem.W.keepIn K (.ref f_law_cut) = true)
    (a_law_otherwise : PySem.W.nsIn K mainGlobals "_law_otherwise" = some (some (.ref f_law_otherwise)))
    (l_law_otherwise : K.lookup f_law_otherwise = some ⟨oc_law_otherwise, od_law_otherwise, .func (PySem.W.fnOf "_law_otherwise" "_law_otherwise" (defArgs d_law_otherwise) (defBody d_law_otherwise) (defScope d_law_otherwise) .none kV_law_otherwise dc_law_otherwise pm_law_otherwise an_law_otherwise cd_law_otherwise ct_law_otherwise), sl_law_otherwise⟩)
    (c_law_otherwise : PySem.W.codeIn K cd_law_otherwise "_law_otherwise" = true)
    (k_law_otherwise : PySem.W.keepIn K (.ref f_law_otherwise) = true)
    (a_law_changed : PySem.W.nsIn K mainGlobals "_law_changed" = some (some (.ref f_law_changed)))
    (l_law_changed : K.lookup f_law_changed = some ⟨oc_law_changed, od_law_changed, .func (PySem.W.fnOf "_law_changed" "_law_changed" (defArgs d_law_changed) (defBody d_law_changed) (defScope d_law_changed) .none kV_law_changed dc_law_changed pm_law_changed an_law_changed cd_law_changed ct_law_changed), sl_law_changed⟩)
    (c_law_changed : PySem.W.codeIn K cd_law_changed "_law_changed" = true)
    (k_law_changed : PySem.W.keepIn K (.ref f_law_changed) = true)
    (a_law_first : PySem.W.nsIn K mainGlobals "_law_first" = some (some (.ref f_law_first)))
    (l_law_first : K.lookup f_law_first = some ⟨oc_law_first, od_law_first, .func (PySem.W.fnOf "_law_first" "_law_first" (defArgs d_law_first) (defBody d_law_first) (defScope d_law_first) .none kV_law_first dc_law_first pm_law_first an_law_first cd_law_first ct_law_first), sl_law_first⟩)
    (c_law_first : PySem.W.codeIn K cd_law_first "_law_first" = true)
    (k_law_first : PySem.W.keepIn K (.ref f_law_first) = true)
    (a_law_right : PySem.W.nsIn K mainGlobals "_law_right" = some (some (.ref f_law_right)))
    (l_law_right : K.lookup f_law_right = some ⟨oc_law_right, od_law_right, .func (PySem.W.fnOf "_law_right" "_law_right" (defArgs d_law_right) (defBody d_law_right) (defScope d_law_right) .none kV_law_right dc_law_right pm_law_right an_law_right cd_law_right ct_law_right), sl_law_right⟩)
    (c_law_right : PySem.W.codeIn K cd_law_right "_law_right" = true)
    (k_law_right : PySem.W.keepIn K (.ref f_law_right) = true)
    (a_law : PySem.W.nsIn K mainGlobals "law" = some (some (.ref f_law)))
    (l_law : K.lookup f_law = some ⟨oc_law, od_law, .func (PySem.W.fnOf "law" "law" (defArgs d_law) (defBody d_law) (defScope d_law) .none kV_law dc_law pm_law an_law cd_law ct_law), sl_law⟩)
    (c_law : PySem.W.codeIn K cd_law "law" = true)
    (k_law : PySem.W.keepIn K (.ref f_law) = true)
    (gs : PySem.W.specialIn K (.builtin "object.__class__") "__get__" = some (some (.builtin "getset_descriptor.__get__")))
    (gt : PySem.W.takesIn K (.builtin "object.__class__") = some true)
    : ∃ fd : FuncData, (∀ (s : Shared) (v : Value), BindsTo s fd ⟨[v], []⟩ [("script", v)]) ∧ ∀ base : Heap, K.In base → base.Ns mainGlobals mg → FnOk P w K mg base CX0 9 fa fd ["script"] (spLaw K) := by
  have e := hfa.symm.trans (PySem.W.mg_of X G a_law)
  cases e
  have z_ValueError := PySem.W.mg_none_of X G z_ValueError
  have z_abs := PySem.W.mg_none_of X G z_abs
  have z_all := PySem.W.mg_none_of X G z_all
  have z_any := PySem.W.mg_none_of X G z_any
  have z_bool := PySem.W.mg_none_of X G z_bool
  have z_int := PySem.W.mg_none_of X G z_int
  have z_isinstance := PySem.W.mg_none_of X G z_isinstance
  have z_len := PySem.W.mg_none_of X G z_len
  have z_list := PySem.W.mg_none_of X G z_list
  have z_min := PySem.W.mg_none_of X G z_min
  have z_range := PySem.W.mg_none_of X G z_range
  have z_set := PySem.W.mg_none_of X G z_set
  have z_sorted := PySem.W.mg_none_of X G z_sorted
  have z_tuple := PySem.W.mg_none_of X G z_tuple
  have z_zip := PySem.W.mg_none_of X G z_zip
  have i_gcd := PySem.W.mg_of X G i_gcd
  have g_MOST_STRETCHES := PySem.W.mg_of X G g_MOST_STRETCHES
  have g_MOST_SHARES := PySem.W.mg_of X G g_MOST_SHARES
  have mcRillError := PySem.W.mg_of X G acRillError
  have mcNoShare := PySem.W.mg_of X G acNoShare
  have mcNoCourse := PySem.W.mg_of X G acNoCourse
  have mcShare := PySem.W.mg_of X G acShare
  have mcCourse := PySem.W.mg_of X G acCourse
  have ErRillError : ErrC K mg "RillError" cRillError := ⟨PySem.W.mg_of X G acRillError, xcRillError, kcRillError, bcRillError, tcRillError⟩
  have ErNoShare : ErrC K mg "NoShare" cNoShare := ⟨PySem.W.mg_of X G acNoShare, xcNoShare, kcNoShare, bcNoShare, tcNoShare⟩
  have ErNoCourse : ErrC K mg "NoCourse" cNoCourse := ⟨PySem.W.mg_of X G acNoCourse, xcNoCourse, kcNoCourse, bcNoCourse, tcNoCourse⟩
  have F_Share_init : FunD K "__init__" "Share.__init__" (defArgs d_Share_init) (defBody d_Share_init) (defScope d_Share_init) [.int 1] [] f_Share_init _ := ⟨⟨_, _, _, _, _, _, _, _, _, _, rfl, l_Share_init, c_Share_init, .inr ⟨(fun z => nomatch z), TD_Share_init, _, [Value.int 1 tkTD_Share_init], nTD_Share_init, rfl, lTD_Share_init, rfl, .cons ⟨tkTD_Share_init, rfl⟩ .nil⟩, .inl rfl⟩, k_Share_init⟩
  obtain ⟨ds_Share_init3, rd_Share_init3, b_Share_init3⟩ := FunD.binds1 (ps := ["self", "top", "bottom"]) F_Share_init 3 1 (fun z => nomatch z) rfl (fun T kV doc pm an cdv ct us its hu hi => match us, its, hu, hi with | [_, _, _], [_], _, _ => ⟨_, rfl, rfl⟩)
  obtain ⟨ds_Share_init2, rd_Share_init2, b_Share_init2⟩ := FunD.binds1 (ps := ["self", "top", "bottom"]) F_Share_init 2 0 (fun z => nomatch z) rfl (fun T kV doc pm an cdv ct us its hu hi => match us, its, hu, hi with | [_, _], [_], _, _ => ⟨_, rfl, rfl⟩)
  cases rd_Share_init3
  obtain ⟨u0_Share_init, rfl⟩ : ∃ u0, ds_Share_init2 = [u0] := by
    cases rd_Share_init2 with
    | cons r1 rn =>
      cases rn
      exact ⟨_, rfl⟩
  have F_Share_eq := fun_mk (st := d_Share_eq) l_Share_eq c_Share_eq k_Share_eq
  have b_Share_eq := F_Share_eq.binds (ps := ["self", "other"]) fun _ _ _ _ _ _ us hl => match us, hl with | [_, _], _ => rfl
  have F_Course_init := fun_mk (st := d_Course_init) l_Course_init c_Course_init k_Course_init
  have b_Course_init := F_Course_init.binds (ps := ["self", "stretches"]) fun _ _ _ _ _ _ us hl => match us, hl with | [_, _], _ => rfl
  have F_Course_eq := fun_mk (st := d_Course_eq) l_Course_eq c_Course_eq k_Course_eq
  have b_Course_eq := F_Course_eq.binds (ps := ["self", "other"]) fun _ _ _ _ _ _ us hl => match us, hl with | [_, _], _ => rfl
  have F_is_whole := fun_mk (st := d_is_whole) l_is_whole c_is_whole k_is_whole
  have m_is_whole := PySem.W.mg_of X G a_is_whole
  have b_is_whole := F_is_whole.binds (ps := ["thing"]) fun _ _ _ _ _ _ us hl => match us, hl with | [_], _ => rfl
  have F_least_word := fun_mk (st := d_least_word) l_least_word c_least_word k_least_word
  have m_least_word := PySem.W.mg_of X G a_least_word
  have b_least_word := F_least_word.binds (ps := ["word"]) fun _ _ _ _ _ _ us hl => match us, hl with | [_], _ => rfl
  have F_spans_of := fun_mk (st := d_spans_of) l_spans_of c_spans_of k_spans_of
  have m_spans_of := PySem.W.mg_of X G a_spans_of
  have b_spans_of := F_spans_of.binds (ps := ["stretches"]) fun _ _ _ _ _ _ us hl => match us, hl with | [_], _ => rfl
  have F_share_on := fun_mk (st := d_share_on) l_share_on c_share_on k_share_on
  have m_share_on := PySem.W.mg_of X G a_share_on
  have b_share_on := F_share_on.binds (ps := ["span", "day"]) fun _ _ _ _ _ _ us hl => match us, hl with | [_, _], _ => rfl
  have F_sooner := fun_mk (st := d_sooner) l_sooner c_sooner k_sooner
  have m_sooner := PySem.W.mg_of X G a_sooner
  have b_sooner := F_sooner.binds (ps := ["one", "other"]) fun _ _ _ _ _ _ us hl => match us, hl with | [_, _], _ => rfl
  have F_beside := fun_mk (st := d_beside) l_beside c_beside k_beside
  have m_beside := PySem.W.mg_of X G a_beside
  have b_beside := F_beside.binds (ps := ["one", "other"]) fun _ _ _ _ _ _ us hl => match us, hl with | [_, _], _ => rfl
  have F_are_stretches := fun_mk (st := d_are_stretches) l_are_stretches c_are_stretches k_are_stretches
  have m_are_stretches := PySem.W.mg_of X G a_are_stretches
  have b_are_stretches := F_are_stretches.binds (ps := ["things"]) fun _ _ _ _ _ _ us hl => match us, hl with | [_], _ => rfl
  have F_is_stretch := fun_mk (st := d_is_stretch) l_is_stretch c_is_stretch k_is_stretch
  have m_is_stretch := PySem.W.mg_of X G a_is_stretch
  have b_is_stretch := F_is_stretch.binds (ps := ["thing"]) fun _ _ _ _ _ _ us hl => match us, hl with | [_], _ => rfl
  have F_is_word := fun_mk (st := d_is_word) l_is_word c_is_word k_is_word
  have m_is_word := PySem.W.mg_of X G a_is_word
  have b_is_word := F_is_word.binds (ps := ["thing"]) fun _ _ _ _ _ _ us hl => match us, hl with | [_], _ => rfl
  have F_first_unlike := fun_mk (st := d_first_unlike) l_first_unlike c_first_unlike k_first_unlike
  have m_first_unlike := PySem.W.mg_of X G a_first_unlike
  have b_first_unlike := F_first_unlike.binds (ps := ["one", "other"]) fun _ _ _ _ _ _ us hl => match us, hl with | [_, _], _ => rfl
  have F_law_well := fun_mk (st := d_law_well) l_law_well c_law_well k_law_well
  have m_law_well := PySem.W.mg_of X G a_law_well
  have b_law_well := F_law_well.binds (ps := ["cell"]) fun _ _ _ _ _ _ us hl => match us, hl with | [_], _ => rfl
  have F_law_draw := fun_mk (st := d_law_draw) l_law_draw c_law_draw k_law_draw
  have m_law_draw := PySem.W.mg_of X G a_law_draw
  have b_law_draw := F_law_draw.binds (ps := ["well", "many"]) fun _ _ _ _ _ _ us hl => match us, hl with | [_, _], _ => rfl
  have F_law_one := fun_mk (st := d_law_one) l_law_one c_law_one k_law_one
  have m_law_one := PySem.W.mg_of X G a_law_one
  have b_law_one := F_law_one.binds (ps := ["well", "some"]) fun _ _ _ _ _ _ us hl => match us, hl with | [_, _], _ => rfl
  have F_law_low := fun_mk (st := d_law_low) l_law_low c_law_low k_law_low
  have m_law_low := PySem.W.mg_of X G a_law_low
  have b_law_low := F_law_low.binds (ps := ["top", "bottom"]) fun _ _ _ _ _ _ us hl => match us, hl with | [_, _], _ => rfl
  have F_law_sum := fun_mk (st := d_law_sum) l_law_sum c_law_sum k_law_sum
  have m_law_sum := PySem.W.mg_of X G a_law_sum
  have b_law_sum := F_law_sum.binds (ps := ["pairs"]) fun _ _ _ _ _ _ us hl => match us, hl with | [_], _ => rfl
  have F_law_word := fun_mk (st := d_law_word) l_law_word c_law_word k_law_word
  have m_law_word := PySem.W.mg_of X G a_law_word
  have b_law_word := F_law_word.binds (ps := ["well", "most", "far"]) fun _ _ _ _ _ _ us hl => match us, hl with | [_, _, _], _ => rfl
  have F_law_stretches := fun_mk (st := d_law_stretches) l_law_stretches c_law_stretches k_law_stretches
  have m_law_stretches := PySem.W.mg_of X G a_law_stretches
  have b_law_stretches := F_law_stretches.binds (ps := ["well", "most", "word", "long", "far"]) fun _ _ _ _ _ _ us hl => match us, hl with | [_, _, _, _, _], _ => rfl
  have F_law_course := fun_mk (st := d_law_course) l_law_course c_law_course k_law_course
  have m_law_course := PySem.W.mg_of X G a_law_course
  have b_law_course := F_law_course.binds (ps := ["told"]) fun _ _ _ _ _ _ us hl => match us, hl with | [_], _ => rfl
  have F_law_on := fun_mk (st := d_law_on) l_law_on c_law_on k_law_on
  have m_law_on := PySem.W.mg_of X G a_law_on
  have b_law_on := F_law_on.binds (ps := ["told", "day"]) fun _ _ _ _ _ _ us hl => match us, hl with | [_, _], _ => rfl
  have F_law_turned := fun_mk (st := d_law_turned) l_law_turned c_law_turned k_law_turned
  have m_law_turned := PySem.W.mg_of X G a_law_turned
  have b_law_turned := F_law_turned.binds (ps := ["word", "by"]) fun _ _ _ _ _ _ us hl => match us, hl with | [_, _], _ => rfl
  have F_law_cut := fun_mk (st := d_law_cut) l_law_cut c_law_cut k_law_cut
  have m_law_cut := PySem.W.mg_of X G a_law_cut
  have b_law_cut := F_law_cut.binds (ps := ["told", "day"]) fun _ _ _ _ _ _ us hl => match us, hl with | [_, _], _ => rfl
  have F_law_otherwise := fun_mk (st := d_law_otherwise) l_law_otherwise c_law_otherwise k_law_otherwise
  have m_law_otherwise := PySem.W.mg_of X G a_law_otherwise
  have b_law_otherwise := F_law_otherwise.binds (ps := ["well", "told"]) fun _ _ _ _ _ _ us hl => match us, hl with | [_, _], _ => rfl
  have F_law_changed := fun_mk (st := d_law_changed) l_law_changed c_law_changed k_law_changed
  have m_law_changed := PySem.W.mg_of X G a_law_changed
  have b_law_changed := F_law_changed.binds (ps := ["well", "told", "day"]) fun _ _ _ _ _ _ us hl => match us, hl with | [_, _, _], _ => rfl
  have F_law_first := fun_mk (st := d_law_first) l_law_first c_law_first k_law_first
  have m_law_first := PySem.W.mg_of X G a_law_first
  have b_law_first := F_law_first.binds (ps := ["one", "other"]) fun _ _ _ _ _ _ us hl => match us, hl with | [_, _], _ => rfl
  have F_law_right := fun_mk (st := d_law_right) l_law_right c_law_right k_law_right
  have m_law_right := PySem.W.mg_of X G a_law_right
  have b_law_right := F_law_right.binds (ps := ["one", "other"]) fun _ _ _ _ _ _ us hl => match us, hl with | [_, _], _ => rfl
  have F_law := fun_mk (st := d_law) l_law c_law k_law
  have m_law := PySem.W.mg_of X G a_law
  refine ⟨PySem.W.fnOf "law" "law" (defArgs d_law) (defBody d_law) (defScope d_law) .none kV_law dc_law pm_law an_law cd_law ct_law, fun s v => .of_eq rfl, fun base _ _ => ?_⟩
  have T : Txt K mg cShare cNoShare := ⟨⟨pgcShare, hdcShare, pocShare, sacShare⟩, ncShare_top, ncShare_bottom, mcShare, i_gcd, z_isinstance, z_int, z_bool, mcNoShare, xcNoShare, kcNoShare, bcNoShare, tcNoShare, exm_own bcNoShare icNoShare tcNoShare scNoShare⟩
  have TI : TxtI K cShare := ⟨gccShare, gs, gt, gmcShare, mecShare, mcShare_tuple, mcShare_int, mcShare_NoneType⟩
  have Bt : TxtB mg := ⟨z_int, z_len, z_abs⟩
  have Yt : TxtY mg cShare := ⟨z_isinstance, z_tuple, z_list, z_all, z_any, z_len, mcShare⟩
  have TC : CrsC K cCourse := ⟨⟨pgcCourse, hdcCourse, pocCourse, sacCourse⟩, ncCourse_spans⟩
  have TIC : TxtC K cCourse := ⟨gccCourse, gs, gt, gmcCourse, mecCourse⟩
  have D : OddC K cShare cCourse := ⟨⟨mcCourse_NoneType, ycCourse_NoneType, wcCourse_NoneType⟩, ⟨mcCourse_int, ycCourse_int, wcCourse_int⟩, ⟨mcCourse_bool, ycCourse_bool, wcCourse_bool⟩, ⟨mcCourse_str, ycCourse_str, wcCourse_str⟩, ⟨mcCourse_list, ycCourse_list, wcCourse_list⟩, ⟨mcCourse_dict, ycCourse_dict, wcCourse_dict⟩, jShare_Course, vShare_Course, jCourse_Share, vCourse_Share⟩
  have M : Mk K cShare f_Share_init := ⟨mkcShare, a_Share_init, i_Share_init, kccShare⟩
  have MC : Mk K cCourse f_Course_init := ⟨mkcCourse, a_Course_init, i_Course_init, kccCourse⟩
  have GW := ok_whole (P := P) (w := w) (mg := mg) (base := base) F_is_whole T
  have GI := ok_init (P := P) (w := w) (mg := mg) (base := base) F_Share_init T GW m_is_whole k_is_whole b_is_whole
  have GE := ok_eq (P := P) (w := w) (mg := mg) (base := base) F_Share_eq T TI
  have GWX := ok_wholeX (P := P) (w := w) (mg := mg) (base := base) F_is_whole z_isinstance z_int z_bool
  have GLe := ok_least (P := P) (w := w) (mg := mg) (base := base) F_least_word Bt z_range GE b_Share_eq a_Share_eq i_Share_eq
  have GSp := ok_spans (P := P) (w := w) (mg := mg) (base := base) F_spans_of GLe m_least_word k_least_word b_least_word
  have GSh := ok_share_on (P := P) (w := w) (mg := mg) (base := base) (C := cShare) F_share_on Bt
  have GWd := ok_wordG (P := P) (w := w) (mg := mg) (base := base) F_is_word Yt T TI g_MOST_SHARES
  have GSt := ok_strG (P := P) (w := w) (mg := mg) (base := base) F_is_stretch Yt GWd m_is_word k_is_word b_is_word GWX m_is_whole k_is_whole b_is_whole
  have GAr := ok_areG (P := P) (w := w) (mg := mg) (base := base) F_are_stretches Yt g_MOST_STRETCHES GSt m_is_stretch k_is_stretch b_is_stretch
  have GCi := ok_cinit (P := P) (w := w) (mg := mg) (base := base) F_Course_init TC ErNoCourse GAr m_are_stretches k_are_stretches b_are_stretches GSp m_spans_of k_spans_of b_spans_of
  have GSo := ok_sooner (P := P) (w := w) (mg := mg) (base := base) F_sooner z_min
  have GBs := ok_beside (P := P) (w := w) (mg := mg) (base := base) (C := cShare) F_beside ⟨GSo, m_sooner, k_sooner, b_sooner⟩
  have GFu := ok_first (P := P) (w := w) (mg := mg) (base := base) F_first_unlike TC Bt z_min z_range ⟨GBs, m_beside, k_beside, b_beside⟩ ⟨GSh, m_share_on, k_share_on, b_share_on⟩ GE b_Share_eq a_Share_eq i_Share_eq ecShare ocShare
  have GCe := ok_ceq (P := P) (w := w) (mg := mg) (base := base) F_Course_eq TC TIC z_isinstance mcCourse ⟨GFu, m_first_unlike, k_first_unlike, b_first_unlike⟩
  have GDr := ok_draw (P := P) (w := w) (mg := mg) (base := base) F_law_draw
  have GWe := ok_well (P := P) (w := w) (mg := mg) (base := base) F_law_well Bt
  have GO1 := ok_one (P := P) (w := w) (mg := mg) (base := base) F_law_one Bt GDr m_law_draw k_law_draw b_law_draw
  have GLo := ok_low (P := P) (w := w) (mg := mg) (base := base) F_law_low Bt
  have GLs := ok_lsum (P := P) (w := w) (mg := mg) (base := base) F_law_sum GLo m_law_low k_law_low b_law_low
  have GLon := ok_lon (P := P) (w := w) (mg := mg) (base := base) F_law_on Bt
  have GLw := ok_lword (P := P) (w := w) (mg := mg) (base := base) F_law_word z_range GDr m_law_draw k_law_draw b_law_draw GO1 m_law_one k_law_one b_law_one GLo m_law_low k_law_low b_law_low
  have GSr := ok_lstr (P := P) (w := w) (mg := mg) (base := base) F_law_stretches z_range GDr m_law_draw k_law_draw b_law_draw GLw m_law_word k_law_word b_law_word
  have GLc := ok_lcrs (P := P) (w := w) (mg := mg) (base := base) F_law_course T z_tuple M GI b_Share_init3 mcCourse MC GCi b_Course_init
  have GTu := ok_turned (P := P) (w := w) (mg := mg) (base := base) F_law_turned Bt
  have GCu := ok_cut (P := P) (w := w) (mg := mg) (base := base) F_law_cut ⟨GTu, m_law_turned, k_law_turned, b_law_turned⟩
  have GOt := ok_other (P := P) (w := w) (mg := mg) (base := base) F_law_otherwise Bt z_range ⟨GDr, m_law_draw, k_law_draw, b_law_draw⟩ ⟨GO1, m_law_one, k_law_one, b_law_one⟩ ⟨GCu, m_law_cut, k_law_cut, b_law_cut⟩
  have GCh := ok_changed (P := P) (w := w) (mg := mg) (base := base) F_law_changed ⟨GDr, m_law_draw, k_law_draw, b_law_draw⟩ ⟨GLs, m_law_sum, k_law_sum, b_law_sum⟩ ⟨GCu, m_law_cut, k_law_cut, b_law_cut⟩
  have GLf := ok_lfirst (P := P) (w := w) (mg := mg) (base := base) F_law_first z_min z_range z_set z_sorted z_zip ⟨GLon, m_law_on, k_law_on, b_law_on⟩
  have GRi := ok_right (P := P) (w := w) (mg := mg) (base := base) F_law_right TC TIC D ⟨GLf, m_law_first, k_law_first, b_law_first⟩ ⟨GLc, m_law_course, k_law_course, b_law_course⟩ ⟨GFu, m_first_unlike, k_first_unlike, b_first_unlike⟩ GCe b_Course_eq a_Course_eq i_Course_eq GE b_Share_eq a_Share_eq i_Share_eq ecCourse ocCourse
  exact ok_law F_law T TI TC TIC D M GI b_Share_init2 rd_Share_init2 ⟨GWe, m_law_well, k_law_well, b_law_well⟩ ⟨GSr, m_law_stretches, k_law_stretches, b_law_stretches⟩ ⟨GO1, m_law_one, k_law_one, b_law_one⟩ ⟨GDr, m_law_draw, k_law_draw, b_law_draw⟩ ⟨GOt, m_law_otherwise, k_law_otherwise, b_law_otherwise⟩ ⟨GLf, m_law_first, k_law_first, b_law_first⟩ ⟨GRi, m_law_right, k_law_right, b_law_right⟩ ⟨GCh, m_law_changed, k_law_changed, b_law_changed⟩ ⟨GFu, m_first_unlike, k_first_unlike, b_first_unlike⟩ ⟨GLc, m_law_course, k_law_course, b_law_course⟩ GCe b_Course_eq a_Course_eq i_Course_eq GE b_Share_eq a_Share_eq i_Share_eq ecCourse ocCourse
theorem walk {l : PySem.W.OpenLaw} {q : Program} {loose : List Str} {XP : (Str → Option Value) → Heap → Prop} {YP : World → Heap → Prop} {d : DefRec} {K : Params → PySem.W.Frag} (hn : l.most = some 63) (hdf : d.params.defaults = [])
    (hY : ∀ (w : World) (h : Heap), YP w h → (K w.params).In h)
    (F : ∀ (w : World) (mg : Str → Option Value) (fa : Addr) (h : Heap), (K w.params).In h → h.Ns mainGlobals mg → mg d.name = some (.ref fa) →
      ∃ fd : FuncData, (∀ (s : Shared) (u : Value), BindsTo s fd ⟨[u], []⟩ [("script", u)]) ∧ ∀ base : Heap, (K w.params).In base → base.Ns mainGlobals mg → FnOk l.prog w (K w.params) mg base CX0 9 fa fd ["script"] (spLaw (K w.params))) :
    PySem.W.WalkO q loose XP YP l.row.toRowW d [] (fun f vs => PySem.call f vs) :=
  walk_of (n := 63) (k := 9) (x := "script") (CX := fun _ => CX0) (sp := fun w => spLaw (K w.params)) hn (by decide) hdf ⟨rfl, by decide, by decide⟩ hY F (fun _ _ a ns hl _ hS => law_told hl hS) (fun _ _ _ _ _ z => z)
end K12

open PySem PySem.W PyProof.Rows in
set_option maxRecDepth 100000 in
set_option maxHeartbeats 0 in
theorem PySem.Challenge.cw_rillweb_k12_courses_compared_holds : PySem.Challenge.rw_rillweb_k12_courses_compared.Holds := by
  w_on; o_law; k_head; (case hw => w_witness2)
  k_fill
  refine K12.walk (l := PySem.Challenge.rw_rillweb_k12_courses_compared) rfl rfl (fun w h Y => PySem.W.kIn_of Y) ?F
  case F =>
    intro w mg fa h KX G hmg
    refine' K12.all_mk KX G hmg ?z_ValueError ?z_abs ?z_all ?z_any ?z_bool ?z_int ?z_isinstance ?z_len ?z_list ?z_min ?z_range ?z_set ?z_sorted ?z_tuple ?z_zip ?i_gcd ?g_MOST_STRETCHES ?g_MOST_SHARES ?acRillError ?xcRillError ?kcRillError ?bcRillError ?tcRillError ?icRillError ?scRillError ?acNoShare ?xcNoShare ?kcNoShare ?bcNoShare ?tcNoShare ?icNoShare ?scNoShare ?acNoCourse ?xcNoCourse ?kcNoCourse ?bcNoCourse ?tcNoCourse ?icNoCourse ?scNoCourse ?acShare ?pgcShare ?hdcShare ?pocShare ?sacShare ?mkcShare ?kccShare ?ncShare_bottom ?ncShare_top ?gccShare ?gmcShare ?mecShare ?mcShare_tuple ?ucShare_tuple ?mcShare_int ?ucShare_int ?mcShare_NoneType ?mcShare_list ?ucShare_list ?mcShare_str ?mcShare_bool ?ucShare_bool ?mcShare_dict ?ecShare ?ocShare ?wcShare_tuple ?ycShare_tuple ?wcShare_int ?ycShare_int ?wcShare_NoneType ?ycShare_NoneType ?wcShare_list ?ycShare_list ?wcShare_str ?ycShare_str ?wcShare_bool ?ycShare_bool ?wcShare_dict ?ycShare_dict ?a_Share_init ?i_Share_init ?l_Share_init ?c_Share_init ?k_Share_init ?lTD_Share_init ?a_Share_eq ?i_Share_eq ?l_Share_eq ?c_Share_eq ?k_Share_eq ?acCourse ?pgcCourse ?hdcCourse ?pocCourse ?sacCourse ?mkcCourse ?kccCourse ?ncCourse_spans ?gccCourse ?gmcCourse ?mecCourse ?mcCourse_tuple ?ucCourse_tuple ?mcCourse_int ?ucCourse_int ?mcCourse_NoneType ?mcCourse_list ?ucCourse_list ?mcCourse_str ?mcCourse_bool ?ucCourse_bool ?mcCourse_dict ?ecCourse ?ocCourse ?wcCourse_tuple ?ycCourse_tuple ?wcCourse_int ?ycCourse_int ?wcCourse_NoneType ?ycCourse_NoneType ?wcCourse_list ?ycCourse_list ?wcCourse_str ?ycCourse_str ?wcCourse_bool ?ycCourse_bool ?wcCourse_dict ?ycCourse_dict ?a_Course_init ?i_Course_init ?l_Course_init ?c_Course_init ?k_Course_init ?a_Course_eq ?i_Course_eq ?l_Course_eq ?c_Course_eq ?k_Course_eq ?jShare_Course ?vShare_Course ?jCourse_Share ?vCourse_Share ?a_is_whole ?l_is_whole ?c_is_whole ?k_is_whole ?a_least_word ?l_least_word ?c_least_word ?k_least_word ?a_spans_of ?l_spans_of ?c_spans_of ?k_spans_of ?a_share_on ?l_share_on ?c_share_on ?k_share_on ?a_sooner ?l_sooner ?c_sooner ?k_sooner ?a_beside ?l_beside ?c_beside ?k_beside ?a_are_stretches ?l_are_stretches ?c_are_stretches ?k_are_stretches ?a_is_stretch ?l_is_stretch ?c_is_stretch ?k_is_stretch ?a_is_word ?l_is_word ?c_is_word ?k_is_word ?a_first_unlike ?l_first_unlike ?c_first_unlike ?k_first_unlike ?a_law_well ?l_law_well ?c_law_well ?k_law_well ?a_law_draw ?l_law_draw ?c_law_draw ?k_law_draw ?a_law_one ?l_law_one ?c_law_one ?k_law_one ?a_law_low ?l_law_low ?c_law_low ?k_law_low ?a_law_sum ?l_law_sum ?c_law_sum ?k_law_sum ?a_law_word ?l_law_word ?c_law_word ?k_law_word ?a_law_stretches ?l_law_stretches ?c_law_stretches ?k_law_stretches ?a_law_course ?l_law_course ?c_law_course ?k_law_course ?a_law_on ?l_law_on ?c_law_on ?k_law_on ?a_law_turned ?l_law_turned ?c_law_turned ?k_law_turned ?a_law_cut ?l_law_cut ?c_law_cut ?k_law_cut ?a_law_otherwise ?l_law_otherwise ?c_law_otherwise ?k_law_otherwise ?a_law_changed ?l_law_changed ?c_law_changed ?k_law_changed ?a_law_first ?l_law_first ?c_law_first ?k_law_first ?a_law_right ?l_law_right ?c_law_right ?k_law_right ?a_law ?l_law ?c_law ?k_law ?gs ?gt
    (case z_ValueError => k_is)
    (case z_abs => k_is)
    (case z_all => k_is)
    (case z_any => k_is)
    (case z_bool => k_is)
    (case z_int => k_is)
    (case z_isinstance => k_is)
    (case z_len => k_is)
    (case z_list => k_is)
    (case z_min => k_is)
    (case z_range => k_is)
    (case z_set => k_is)
    (case z_sorted => k_is)
    (case z_tuple => k_is)
    (case z_zip => k_is)
    (case i_gcd => k_is)
    (case g_MOST_STRETCHES => k_is)
    (case g_MOST_SHARES => k_is)
    (case acRillError => k_is)
    (case xcRillError => k_exc)
    (case kcRillError => k_is)
    (case bcRillError => k_is)
    (case tcRillError => k_is)
    (case icRillError => k_is)
    (case scRillError => first | rfl | k_is)
    (case acNoShare => k_is)
    (case xcNoShare => k_exc)
    (case kcNoShare => k_is)
    (case bcNoShare => k_is)
    (case tcNoShare => k_is)
    (case icNoShare => k_is)
    (case scNoShare => first | rfl | k_is)
    (case acNoCourse => k_is)
    (case xcNoCourse => k_exc)
    (case kcNoCourse => k_is)
    (case bcNoCourse => k_is)
    (case tcNoCourse => k_is)
    (case icNoCourse => k_is)
    (case scNoCourse => first | rfl | k_is)
    (case acShare => k_is)
    (case pgcShare => k_is)
    (case hdcShare => k_is)
    (case pocShare => k_is)
    (case sacShare => k_is)
    (case mkcShare => k_is)
    (case kccShare => k_is)
    (case ncShare_bottom => k_is)
    (case ncShare_top => k_is)
    (case gccShare => k_is)
    (case gmcShare => k_is)
    (case mecShare => first | rfl | k_is)
    (case mcShare_tuple => first | rfl | k_is)
    (case ucShare_tuple => first | rfl | k_is)
    (case mcShare_int => first | rfl | k_is)
    (case ucShare_int => first | rfl | k_is)
    (case mcShare_NoneType => first | rfl | k_is)
    (case mcShare_list => first | rfl | k_is)
    (case ucShare_list => first | rfl | k_is)
    (case mcShare_str => first | rfl | k_is)
    (case mcShare_bool => first | rfl | k_is)
    (case ucShare_bool => first | rfl | k_is)
    (case mcShare_dict => first | rfl | k_is)
    (case ecShare => k_is)
    (case ocShare => first | rfl | k_is)
    (case wcShare_tuple => first | rfl | k_is)
    (case ycShare_tuple => first | rfl | k_is)
    (case wcShare_int => first | rfl | k_is)
    (case ycShare_int => first | rfl | k_is)
    (case wcShare_NoneType => first | rfl | k_is)
    (case ycShare_NoneType => first | rfl | k_is)
    (case wcShare_list => first | rfl | k_is)
    (case ycShare_list => first | rfl | k_is)
    (case wcShare_str => first | rfl | k_is)
    (case ycShare_str => first | rfl | k_is)
    (case wcShare_bool => first | rfl | k_is)
    (case ycShare_bool => first | rfl | k_is)
    (case wcShare_dict => first | rfl | k_is)
    (case ycShare_dict => first | rfl | k_is)
    (case a_Share_init => k_is)
    (case i_Share_init => k_is)
    (case l_Share_init => k_is)
    (case c_Share_init => k_is)
    (case k_Share_init => k_is)
    (case lTD_Share_init => k_is)
    (case a_Share_eq => k_is)
    (case i_Share_eq => k_is)
    (case l_Share_eq => k_is)
    (case c_Share_eq => k_is)
    (case k_Share_eq => k_is)
    (case acCourse => k_is)
    (case pgcCourse => k_is)
    (case hdcCourse => k_is)
    (case pocCourse => k_is)
    (case sacCourse => k_is)
    (case mkcCourse => k_is)
    (case kccCourse => k_is)
    (case ncCourse_spans => k_is)
    (case gccCourse => k_is)
    (case gmcCourse => k_is)
    (case mecCourse => first | rfl | k_is)
    (case mcCourse_tuple => first | rfl | k_is)
    (case ucCourse_tuple => first | rfl | k_is)
    (case mcCourse_int => first | rfl | k_is)
    (case ucCourse_int => first | rfl | k_is)
    (case mcCourse_NoneType => first | rfl | k_is)
    (case mcCourse_list => first | rfl | k_is)
    (case ucCourse_list => first | rfl | k_is)
    (case mcCourse_str => first | rfl | k_is)
    (case mcCourse_bool => first | rfl | k_is)
    (case ucCourse_bool => first | rfl | k_is)
    (case mcCourse_dict => first | rfl | k_is)
    (case ecCourse => k_is)
    (case ocCourse => first | rfl | k_is)
    (case wcCourse_tuple => first | rfl | k_is)
    (case ycCourse_tuple => first | rfl | k_is)
    (case wcCourse_int => first | rfl | k_is)
    (case ycCourse_int => first | rfl | k_is)
    (case wcCourse_NoneType => first | rfl | k_is)
    (case ycCourse_NoneType => first | rfl | k_is)
    (case wcCourse_list => first | rfl | k_is)
    (case ycCourse_list => first | rfl | k_is)
    (case wcCourse_str => first | rfl | k_is)
    (case ycCourse_str => first | rfl | k_is)
    (case wcCourse_bool => first | rfl | k_is)
    (case ycCourse_bool => first | rfl | k_is)
    (case wcCourse_dict => first | rfl | k_is)
    (case ycCourse_dict => first | rfl | k_is)
    (case a_Course_init => k_is)
    (case i_Course_init => k_is)
    (case l_Course_init => k_is)
    (case c_Course_init => k_is)
    (case k_Course_init => k_is)
    (case a_Course_eq => k_is)
    (case i_Course_eq => k_is)
    (case l_Course_eq => k_is)
    (case c_Course_eq => k_is)
    (case k_Course_eq => k_is)
    (case jShare_Course => first | rfl | k_is)
    (case vShare_Course => first | rfl | k_is)
    (case jCourse_Share => first | rfl | k_is)
    (case vCourse_Share => first | rfl | k_is)
    (case a_is_whole => k_is)
    (case l_is_whole => k_is)
    (case c_is_whole => k_is)
    (case k_is_whole => k_is)
    (case a_least_word => k_is)
    (case l_least_word => k_is)
    (case c_least_word => k_is)
    (case k_least_word => k_is)
    (case a_spans_of => k_is)
    (case l_spans_of => k_is)
    (case c_spans_of => k_is)
    (case k_spans_of => k_is)
    (case a_share_on => k_is)
    (case l_share_on => k_is)
    (case c_share_on => k_is)
    (case k_share_on => k_is)
    (case a_sooner => k_is)
    (case l_sooner => k_is)
    (case c_sooner => k_is)
    (case k_sooner => k_is)
    (case a_beside => k_is)
    (case l_beside => k_is)
    (case c_beside => k_is)
    (case k_beside => k_is)
    (case a_are_stretches => k_is)
    (case l_are_stretches => k_is)
    (case c_are_stretches => k_is)
    (case k_are_stretches => k_is)
    (case a_is_stretch => k_is)
    (case l_is_stretch => k_is)
    (case c_is_stretch => k_is)
    (case k_is_stretch => k_is)
    (case a_is_word => k_is)
    (case l_is_word => k_is)
    (case c_is_word => k_is)
    (case k_is_word => k_is)
    (case a_first_unlike => k_is)
    (case l_first_unlike => k_is)
    (case c_first_unlike => k_is)
    (case k_first_unlike => k_is)
    (case a_law_well => k_is)
    (case l_law_well => k_is)
    (case c_law_well => k_is)
    (case k_law_well => k_is)
    (case a_law_draw => k_is)
    (case l_law_draw => k_is)
    (case c_law_draw => k_is)
    (case k_law_draw => k_is)
    (case a_law_one => k_is)
    (case l_law_one => k_is)
    (case c_law_one => k_is)
    (case k_law_one => k_is)
    (case a_law_low => k_is)
    (case l_law_low => k_is)
    (case c_law_low => k_is)
    (case k_law_low => k_is)
    (case a_law_sum => k_is)
    (case l_law_sum => k_is)
    (case c_law_sum => k_is)
    (case k_law_sum => k_is)
    (case a_law_word => k_is)
    (case l_law_word => k_is)
    (case c_law_word => k_is)
    (case k_law_word => k_is)
    (case a_law_stretches => k_is)
    (case l_law_stretches => k_is)
    (case c_law_stretches => k_is)
    (case k_law_stretches => k_is)
    (case a_law_course => k_is)
    (case l_law_course => k_is)
    (case c_law_course => k_is)
    (case k_law_course => k_is)
    (case a_law_on => k_is)
    (case l_law_on => k_is)
    (case c_law_on => k_is)
    (case k_law_on => k_is)
    (case a_law_turned => k_is)
    (case l_law_turned => k_is)
    (case c_law_turned => k_is)
    (case k_law_turned => k_is)
    (case a_law_cut => k_is)
    (case l_law_cut => k_is)
    (case c_law_cut => k_is)
    (case k_law_cut => k_is)
    (case a_law_otherwise => k_is)
    (case l_law_otherwise => k_is)
    (case c_law_otherwise => k_is)
    (case k_law_otherwise => k_is)
    (case a_law_changed => k_is)
    (case l_law_changed => k_is)
    (case c_law_changed => k_is)
    (case k_law_changed => k_is)
    (case a_law_first => k_is)
    (case l_law_first => k_is)
    (case c_law_first => k_is)
    (case k_law_first => k_is)
    (case a_law_right => k_is)
    (case l_law_right => k_is)
    (case c_law_right => k_is)
    (case k_law_right => k_is)
    (case a_law => k_is)
    (case l_law => k_is)
    (case c_law => k_is)
    (case k_law => k_is)
    (case gs => first | rfl | k_is)
    (case gt => first | rfl | k_is)
