import PyProof.Rows.All
import Wide.All
import OpenK.AllK
import Wide.FinOn
import HandS.ForMost
import HandS.Walk
import HandS.ForExc
import HandS.ExcInit
import HandS.ExcIs
import HandS.ExcValue
import HandS.Wide
import HandS.Gcd
import HandS.IsInst
import HandS.Defaults
import HandS.Codes
import HandS.OwnEq
import HandS.Lambda
import KE.KExcIs
import KE.GoesMore
import HandS.Style
import HandS.TryMany
import HandS.EndTab
import HandS.SetFor
import HandS.SortInts
import KE.KSortedM
import HandS.SetFor
import HandS.SortInts
import KE.KSortedM
import HandS.Strs
import HandS.Flow
import HandS.Zip
import KE.GoesZip
import KE.GoesEnum
import KE.KTupSum
import HandS.Defaults
import HandS.TupAny
import HandS.OwnEq
import KE.SortData
import HandS.Sort
import HandS.Deep
import KE.SortKeyHeap
import HandS.Nested
import KE.KSortKey
import HandS.TupSets
import HandS.Conv
import HandS.TupMul
import PySem.Challenge.RW_rillweb_k04_webs_with_one_change
set_option Elab.async false
set_option linter.all false
set_option maxRecDepth 100000
set_option maxHeartbeats 2000000
set_option exponentiation.threshold 20000
namespace K04
open PySem PySem.Spec PyProof.Rows L2
def top (i : Nat) : Stmt := PySem.Challenge.pw_rillweb_k04_webs_with_one_change.main.body.getD i (.Pass ⟨0, 0, 0, 0⟩)
abbrev d_NoWeb_init : Stmt := inClass (top 4) 0
abbrev d_NoPlace_init : Stmt := inClass (top 5) 0
abbrev d_is_whole : Stmt := top 7
abbrev d_is_between : Stmt := top 8
abbrev d_Share_init : Stmt := inClass (top 10) 0
abbrev d_Share_eq : Stmt := inClass (top 10) 1
abbrev d_less : Stmt := top 11
abbrev d_Web_init : Stmt := inClass (top 17) 0
abbrev d_Web_eq : Stmt := inClass (top 17) 1
abbrev d_are_beds : Stmt := top 18
abbrev d_is_a_bed : Stmt := top 19
abbrev d_are_parts : Stmt := top 20
abbrev d_are_parts_of_one : Stmt := top 21
abbrev d_is_place : Stmt := top 22
abbrev d_beds_from : Stmt := top 23
abbrev d_cut : Stmt := top 25
abbrev d_joined : Stmt := top 26
abbrev d_are_pipes : Stmt := top 27
abbrev d_is_pipe : Stmt := top 28
abbrev d_law_cell_at : Stmt := top 30
abbrev d_law_mixed : Stmt := top 31
abbrev d_law_source : Stmt := top 32
abbrev d_law_next : Stmt := top 33
abbrev d_law_pick : Stmt := top 34
abbrev d_law_lowered : Stmt := top 35
abbrev d_law_sum : Stmt := top 36
abbrev d_law_mark : Stmt := top 37
abbrev d_law_beds_of : Stmt := top 38
abbrev d_law_world : Stmt := top 39
abbrev d_law_made : Stmt := top 40
abbrev d_law_parts_for : Stmt := top 41
abbrev d_law_row_changed : Stmt := top 42
abbrev d_law_parts_changed : Stmt := top 43
abbrev d_law_beds_exchanged : Stmt := top 44
abbrev d_law_bed_more : Stmt := top 45
abbrev d_law_changed : Stmt := top 46
abbrev d_law_cut_at : Stmt := top 47
abbrev d_law_put_beside : Stmt := top 48
abbrev d_law_two_right : Stmt := top 49
abbrev d_law_world_right : Stmt := top 50
abbrev d_law : Stmt := top 51
end K04
namespace K04
/-- the common part of two whole numbers, with the sign of the second -/
def sg (a b : Int) : Int := if b < 0 then -((Nat.gcd a.natAbs b.natAbs : Nat) : Int) else ((Nat.gcd a.natAbs b.natAbs : Nat) : Int)
/-- the top and the bottom in lowest terms -/
def lowT (a b : Int) : Int := a.fdiv (sg a b)
def lowB (a b : Int) : Int := b.fdiv (sg a b)

theorem gcd_pos {a b : Int} (hb : b ≠ 0) : 0 < Nat.gcd a.natAbs b.natAbs := Nat.gcd_pos_of_pos_right _ (by omega)
theorem sg_ne {a b : Int} (hb : b ≠ 0) : sg a b ≠ 0 := by
  have := gcd_pos (a := a) hb
  unfold sg
  split <;> omega
theorem sg_dvd_left (a b : Int) : sg a b ∣ a := by
  have h : ((Nat.gcd a.natAbs b.natAbs : Nat) : Int) ∣ a := Int.ofNat_dvd_left.mpr (Nat.gcd_dvd_left _ _)
  unfold sg
  split
  · exact Int.neg_dvd.mpr h
  · exact h
theorem sg_dvd_right (a b : Int) : sg a b ∣ b := by
  have h : ((Nat.gcd a.natAbs b.natAbs : Nat) : Int) ∣ b := Int.ofNat_dvd_left.mpr (Nat.gcd_dvd_right _ _)
  unfold sg
  split
  · exact Int.neg_dvd.mpr h
  · exact h
theorem lowT_mul (a b : Int) : lowT a b * sg a b = a := Int.fdiv_mul_cancel (sg_dvd_left a b)
theorem lowB_mul (a b : Int) : lowB a b * sg a b = b := Int.fdiv_mul_cancel (sg_dvd_right a b)
theorem lowB_pos {a b : Int} (hb : b ≠ 0) : 0 < lowB a b := by
  have h := lowB_mul a b
  have hg := gcd_pos (a := a) hb
  have hs : (0 < b ∧ 0 < sg a b) ∨ (b < 0 ∧ sg a b < 0) := by
    unfold sg
    split <;> omega
  rcases hs with ⟨h1, h2⟩ | ⟨h1, h2⟩
  · rcases Int.lt_trichotomy (lowB a b) 0 with h3 | h3 | h3
    · have := Int.mul_neg_of_neg_of_pos h3 h2
      omega
    · rw [h3] at h; omega
    · exact h3
  · rcases Int.lt_trichotomy (lowB a b) 0 with h3 | h3 | h3
    · have := Int.mul_pos_of_neg_of_neg h3 h2
      omega
    · rw [h3] at h; omega
    · exact h3
theorem sg_abs (a b : Int) : (sg a b).natAbs = Nat.gcd a.natAbs b.natAbs := by
  unfold sg
  split <;> omega
theorem low_coprime {a b : Int} (hb : b ≠ 0) : Nat.gcd (lowT a b).natAbs (lowB a b).natAbs = 1 := by
  have h1 : (lowT a b).natAbs * (sg a b).natAbs = a.natAbs := by rw [← Int.natAbs_mul, lowT_mul]
  have h2 : (lowB a b).natAbs * (sg a b).natAbs = b.natAbs := by rw [← Int.natAbs_mul, lowB_mul]
  have hg := gcd_pos (a := a) hb
  have h3 : Nat.gcd ((lowT a b).natAbs * (sg a b).natAbs) ((lowB a b).natAbs * (sg a b).natAbs) = (sg a b).natAbs := by
    rw [h1, h2, sg_abs]
  rw [Nat.gcd_mul_right] at h3
  rw [sg_abs] at h3
  exact Nat.eq_of_mul_eq_mul_right hg (by rw [h3, Nat.one_mul])
theorem same_of {t b t' b' : Int} (hb : 0 < b) (hb' : 0 < b') (h : t * b' = t' * b) (c : Nat.gcd t.natAbs b.natAbs = 1) (c' : Nat.gcd t'.natAbs b'.natAbs = 1) : t = t' ∧ b = b' := by
  have e : t.natAbs * b'.natAbs = t'.natAbs * b.natAbs := by rw [← Int.natAbs_mul, ← Int.natAbs_mul, h]
  have d1 : b.natAbs ∣ b'.natAbs := by
    have : b.natAbs ∣ t.natAbs * b'.natAbs := ⟨t'.natAbs, by rw [e, Nat.mul_comm]⟩
    exact Nat.Coprime.dvd_of_dvd_mul_left (by rw [Nat.Coprime, Nat.gcd_comm]; exact c) this
  have d2 : b'.natAbs ∣ b.natAbs := by
    have : b'.natAbs ∣ t'.natAbs * b.natAbs := ⟨t.natAbs, by rw [← e, Nat.mul_comm]⟩
    exact Nat.Coprime.dvd_of_dvd_mul_left (by rw [Nat.Coprime, Nat.gcd_comm]; exact c') this
  have eb : b = b' := by
    have := Nat.dvd_antisymm d1 d2
    omega
  refine ⟨?_, eb⟩
  rw [← eb] at h
  exact Int.eq_of_mul_eq_mul_right (by omega) h
/-- fractions of one number have one form -/
theorem low_eq {p q p' q' : Int} (hq : q ≠ 0) (hq' : q' ≠ 0) (h : p * q' = p' * q) : lowT p q = lowT p' q' ∧ lowB p q = lowB p' q' := by
  refine same_of (lowB_pos hq) (lowB_pos hq') ?_ (low_coprime hq) (low_coprime hq')
  have h1 := lowT_mul p q
  have h2 := lowB_mul p q
  have h3 := lowT_mul p' q'
  have h4 := lowB_mul p' q'
  have g1 := sg_ne (a := p) hq
  have g2 := sg_ne (a := p') hq'
  have e : (lowT p q * lowB p' q') * (sg p q * sg p' q') = (lowT p' q' * lowB p q) * (sg p q * sg p' q') := by
    have e1 : (lowT p q * lowB p' q') * (sg p q * sg p' q') = (lowT p q * sg p q) * (lowB p' q' * sg p' q') := by grind
    have e2 : (lowT p' q' * lowB p q) * (sg p q * sg p' q') = (lowT p' q' * sg p' q') * (lowB p q * sg p q) := by grind
    rw [e1, e2, h1, h2, h3, h4, h]
  exact Int.eq_of_mul_eq_mul_right (Int.mul_ne_zero g1 g2) e
theorem low_iff {p q p' q' : Int} (hq : q ≠ 0) (hq' : q' ≠ 0) : (lowT p q = lowT p' q' ∧ lowB p q = lowB p' q') ↔ p * q' = p' * q := by
  refine ⟨fun ⟨h1, h2⟩ => ?_, low_eq hq hq'⟩
  have e1 := lowT_mul p q
  have e2 := lowB_mul p q
  have e3 := lowT_mul p' q'
  have e4 := lowB_mul p' q'
  rw [h1] at e1
  rw [h2] at e2
  rw [← e1, ← e2]
  rw [show p' * (lowB p' q' * sg p q) = (p' * lowB p' q') * sg p q by grind]
  have e5 : lowT p' q' * q' = p' * lowB p' q' := by
    calc lowT p' q' * q' = lowT p' q' * (lowB p' q' * sg p' q') := by rw [e4]
      _ = (lowT p' q' * sg p' q') * lowB p' q' := by grind
      _ = p' * lowB p' q' := by rw [e3]
  rw [← e5]
  grind
/-- already in lowest terms -/
theorem low_self {t b : Int} (hb : 0 < b) (c : Nat.gcd t.natAbs b.natAbs = 1) : lowT t b = t ∧ lowB t b = b :=
  same_of (lowB_pos (by omega)) hb (by
    have h1 := lowT_mul t b
    have h2 := lowB_mul t b
    have g := sg_ne (a := t) (b := b) (by omega)
    have e : (lowT t b * b) * sg t b = (t * lowB t b) * sg t b := by
      calc (lowT t b * b) * sg t b = (lowT t b * sg t b) * b := by grind
        _ = t * b := by rw [h1]
        _ = t * (lowB t b * sg t b) := by rw [h2]
        _ = (t * lowB t b) * sg t b := by grind
    exact Int.eq_of_mul_eq_mul_right g e) (low_coprime (by omega)) c
/-- what is cross-multiplied by lowest terms -/
theorem low_cross {p q : Int} : lowT p q * q = p * lowB p q := by
  have h1 := lowT_mul p q
  have h2 := lowB_mul p q
  calc lowT p q * q = lowT p q * (lowB p q * sg p q) := by rw [h2]
    _ = (lowT p q * sg p q) * lowB p q := by grind
    _ = p * lowB p q := by rw [h1]
/-- order -/
theorem lt_mul_pos {x y k : Int} (hk : 0 < k) : x * k < y * k ↔ x < y := ⟨fun h => Int.lt_of_mul_lt_mul_right h (Int.le_of_lt hk), fun h => Int.mul_lt_mul_of_pos_right h hk⟩
theorem less_low {p q p' q' : Int} (hq : 0 < q) (hq' : 0 < q') : lowT p q * lowB p' q' < lowT p' q' * lowB p q ↔ p * q' < p' * q := by
  have b1 := lowB_pos (a := p) (b := q) (by omega)
  have b2 := lowB_pos (a := p') (b := q') (by omega)
  have c1 := low_cross (p := p) (q := q)
  have c2 := low_cross (p := p') (q := q')
  have hk : 0 < q * q' := Int.mul_pos hq hq'
  have hl : 0 < lowB p q * lowB p' q' := Int.mul_pos b1 b2
  rw [← lt_mul_pos hk, ← lt_mul_pos (x := p * q') hl]
  have e1 : lowT p q * lowB p' q' * (q * q') = p * q' * (lowB p q * lowB p' q') := by
    calc lowT p q * lowB p' q' * (q * q') = (lowT p q * q) * (lowB p' q' * q') := by grind
      _ = (p * lowB p q) * (lowB p' q' * q') := by rw [c1]
      _ = p * q' * (lowB p q * lowB p' q') := by grind
  have e2 : lowT p' q' * lowB p q * (q * q') = p' * q * (lowB p q * lowB p' q') := by
    calc lowT p' q' * lowB p q * (q * q') = (lowT p' q' * q') * (lowB p q * q) := by grind
      _ = (p' * lowB p' q') * (lowB p q * q) := by rw [c2]
      _ = p' * q * (lowB p q * lowB p' q') := by grind
  rw [e1, e2]
theorem lowT_neg {p q : Int} (hq : q ≠ 0) : lowT p q < 0 ↔ p * q < 0 := by
  have b := lowB_pos (a := p) hq
  have h1 := lowT_mul p q
  have h2 := lowB_mul p q
  have g := sg_ne (a := p) hq
  have hs : 0 < sg p q * sg p q := by
    rcases Int.lt_or_gt_of_ne g with h | h
    · exact Int.mul_pos_of_neg_of_neg h h
    · exact Int.mul_pos h h
  have e : p * q = lowT p q * (lowB p q * (sg p q * sg p q)) := by
    calc p * q = (lowT p q * sg p q) * (lowB p q * sg p q) := by rw [h1, h2]
      _ = _ := by grind
  have hk := Int.mul_pos b hs
  have := lt_mul_pos (x := lowT p q) (y := 0) hk
  rw [Int.zero_mul] at this
  rw [e]
  exact this.symm
theorem lowT_pos {p q : Int} (hq : q ≠ 0) : 0 < lowT p q ↔ 0 < p * q := by
  have b := lowB_pos (a := p) hq
  have h1 := lowT_mul p q
  have h2 := lowB_mul p q
  have g := sg_ne (a := p) hq
  have hs : 0 < sg p q * sg p q := by
    rcases Int.lt_or_gt_of_ne g with h | h
    · exact Int.mul_pos_of_neg_of_neg h h
    · exact Int.mul_pos h h
  have e : p * q = lowT p q * (lowB p q * (sg p q * sg p q)) := by
    calc p * q = (lowT p q * sg p q) * (lowB p q * sg p q) := by rw [h1, h2]
      _ = _ := by grind
  have hk := Int.mul_pos b hs
  have := lt_mul_pos (x := 0) (y := lowT p q) hk
  rw [Int.zero_mul] at this
  rw [e]
  exact this.symm

/-! what the law puts beside what the program tells -/
section
variable {a b c d : Int}
theorem val_plus (hb : b ≠ 0) (hd : d ≠ 0) : lowT (lowT a b * lowB c d + lowT c d * lowB a b) (lowB a b * lowB c d) = lowT (a * d + c * b) (b * d) ∧
    lowB (lowT a b * lowB c d + lowT c d * lowB a b) (lowB a b * lowB c d) = lowB (a * d + c * b) (b * d) := by
  have b1 := lowB_pos (a := a) hb
  have b2 := lowB_pos (a := c) hd
  have c1 := low_cross (p := a) (q := b)
  have c2 := low_cross (p := c) (q := d)
  refine low_eq (Int.mul_ne_zero (by omega) (by omega)) (Int.mul_ne_zero hb hd) ?_
  generalize lowT a b = x at *
  generalize lowB a b = y at *
  generalize lowT c d = z at *
  generalize lowB c d = w at *
  grind
theorem val_minus (hb : b ≠ 0) (hd : d ≠ 0) : lowT (lowT a b * lowB c d - lowT c d * lowB a b) (lowB a b * lowB c d) = lowT (a * d - c * b) (b * d) ∧
    lowB (lowT a b * lowB c d - lowT c d * lowB a b) (lowB a b * lowB c d) = lowB (a * d - c * b) (b * d) := by
  have b1 := lowB_pos (a := a) hb
  have b2 := lowB_pos (a := c) hd
  have c1 := low_cross (p := a) (q := b)
  have c2 := low_cross (p := c) (q := d)
  refine low_eq (Int.mul_ne_zero (by omega) (by omega)) (Int.mul_ne_zero hb hd) ?_
  generalize lowT a b = x at *
  generalize lowB a b = y at *
  generalize lowT c d = z at *
  generalize lowB c d = w at *
  grind
theorem val_times (hb : b ≠ 0) (hd : d ≠ 0) : lowT (lowT a b * lowT c d) (lowB a b * lowB c d) = lowT (a * c) (b * d) ∧
    lowB (lowT a b * lowT c d) (lowB a b * lowB c d) = lowB (a * c) (b * d) := by
  have b1 := lowB_pos (a := a) hb
  have b2 := lowB_pos (a := c) hd
  have c1 := low_cross (p := a) (q := b)
  have c2 := low_cross (p := c) (q := d)
  refine low_eq (Int.mul_ne_zero (by omega) (by omega)) (Int.mul_ne_zero hb hd) ?_
  generalize lowT a b = x at *
  generalize lowB a b = y at *
  generalize lowT c d = z at *
  generalize lowB c d = w at *
  grind
theorem lowT_zero (hd : d ≠ 0) : lowT c d = 0 ↔ c = 0 := by
  have h := lowT_mul c d
  have g := sg_ne (a := c) hd
  constructor
  · intro e
    rw [e, Int.zero_mul] at h
    exact h.symm
  · intro e
    rw [e] at h ⊢
    rw [e] at g
    rcases Int.mul_eq_zero.mp h with z | z
    · exact z
    · exact absurd z g
theorem val_over (hb : b ≠ 0) (hd : d ≠ 0) (hc : c ≠ 0) : lowT (lowT a b * lowB c d) (lowB a b * lowT c d) = lowT (a * d) (b * c) ∧
    lowB (lowT a b * lowB c d) (lowB a b * lowT c d) = lowB (a * d) (b * c) := by
  have b1 := lowB_pos (a := a) hb
  have t2 : lowT c d ≠ 0 := fun e => hc ((lowT_zero hd).mp e)
  have c1 := low_cross (p := a) (q := b)
  have c2 := low_cross (p := c) (q := d)
  refine low_eq (Int.mul_ne_zero (by omega) t2) (Int.mul_ne_zero hb hc) ?_
  generalize lowT a b = x at *
  generalize lowB a b = y at *
  generalize lowT c d = z at *
  generalize lowB c d = w at *
  grind
theorem num_less (hb : b ≠ 0) (hd : d ≠ 0) : ((a * d - c * b) * (b * d) < 0 ↔ lowT a b * lowB c d < lowT c d * lowB a b) ∧ (0 < (a * d - c * b) * (b * d) ↔ lowT c d * lowB a b < lowT a b * lowB c d) := by
  have h := val_minus (a := a) (c := c) hb hd
  have b1 := lowB_pos (a := a) hb
  have b2 := lowB_pos (a := c) hd
  have hk : 0 < lowB a b * lowB c d := Int.mul_pos b1 b2
  have k1 := lowT_neg (p := a * d - c * b) (q := b * d) (Int.mul_ne_zero hb hd)
  have k2 := lowT_pos (p := a * d - c * b) (q := b * d) (Int.mul_ne_zero hb hd)
  have k3 := lowT_neg (p := lowT a b * lowB c d - lowT c d * lowB a b) (q := lowB a b * lowB c d) (by omega)
  have k4 := lowT_pos (p := lowT a b * lowB c d - lowT c d * lowB a b) (q := lowB a b * lowB c d) (by omega)
  have m1 := lt_mul_pos (x := lowT a b * lowB c d - lowT c d * lowB a b) (y := 0) hk
  have m2 := lt_mul_pos (x := 0) (y := lowT a b * lowB c d - lowT c d * lowB a b) hk
  rw [Int.zero_mul] at m1 m2
  rw [← k1, ← k2, ← h.1, k3, k4, m1, m2]
  omega
theorem val_less (hb : b ≠ 0) (hd : d ≠ 0) : (lowT (a * d - c * b) (b * d) < 0 ↔ lowT a b * lowB c d < lowT c d * lowB a b) ∧ (0 < lowT (a * d - c * b) (b * d) ↔ lowT c d * lowB a b < lowT a b * lowB c d) := by
  have k1 := lowT_neg (p := a * d - c * b) (q := b * d) (Int.mul_ne_zero hb hd)
  have k2 := lowT_pos (p := a * d - c * b) (q := b * d) (Int.mul_ne_zero hb hd)
  have := num_less (a := a) (c := c) hb hd
  rw [k1, k2]
  exact this
end
section
variable {t1 b1 t2 b2 t3 b3 : Int}
theorem ord_plus (h1 : 0 < b1) (h2 : 0 < b2) (h3 : 0 < b3) :
    lowT (t1 * b3 + t3 * b1) (b1 * b3) * lowB (t2 * b3 + t3 * b2) (b2 * b3) < lowT (t2 * b3 + t3 * b2) (b2 * b3) * lowB (t1 * b3 + t3 * b1) (b1 * b3) ↔ t1 * b2 < t2 * b1 := by
  rw [less_low (Int.mul_pos h1 h3) (Int.mul_pos h2 h3)]
  have hk : 0 < b3 * b3 := Int.mul_pos h3 h3
  rw [← lt_mul_pos (x := t1 * b2) hk]
  have e : (t1 * b3 + t3 * b1) * (b2 * b3) - t1 * b2 * (b3 * b3) = (t2 * b3 + t3 * b2) * (b1 * b3) - t2 * b1 * (b3 * b3) := by grind
  omega
theorem ord_times (h1 : 0 < b1) (h2 : 0 < b2) (h3 : 0 < b3) (ht : 0 < t3) :
    lowT (t1 * t3) (b1 * b3) * lowB (t2 * t3) (b2 * b3) < lowT (t2 * t3) (b2 * b3) * lowB (t1 * t3) (b1 * b3) ↔ t1 * b2 < t2 * b1 := by
  rw [less_low (Int.mul_pos h1 h3) (Int.mul_pos h2 h3)]
  have hk : 0 < t3 * b3 := Int.mul_pos ht h3
  rw [← lt_mul_pos (x := t1 * b2) hk]
  have e1 : t1 * t3 * (b2 * b3) = t1 * b2 * (t3 * b3) := by grind
  have e2 : t2 * t3 * (b1 * b3) = t2 * b1 * (t3 * b3) := by grind
  rw [e1, e2]
theorem ord_turned (h1 : 0 < b1) (h2 : 0 < b2) (h3 : 0 < b3) (ht : t3 < 0) :
    lowT (t2 * t3) (b2 * b3) * lowB (t1 * t3) (b1 * b3) < lowT (t1 * t3) (b1 * b3) * lowB (t2 * t3) (b2 * b3) ↔ t1 * b2 < t2 * b1 := by
  rw [less_low (Int.mul_pos h2 h3) (Int.mul_pos h1 h3)]
  have hk : 0 < (-t3) * b3 := Int.mul_pos (by omega) h3
  rw [← lt_mul_pos (x := t1 * b2) hk]
  have e1 : t2 * t3 * (b1 * b3) = -(t2 * b1 * (-t3 * b3)) := by grind
  have e2 : t1 * t3 * (b2 * b3) = -(t1 * b2 * (-t3 * b3)) := by grind
  rw [e1, e2]
  omega
theorem ord_none (h1 : 0 < b1) (h2 : 0 < b2) (h3 : 0 < b3) (ht : t3 = 0) : lowT (t1 * t3) (b1 * b3) = lowT (t2 * t3) (b2 * b3) ∧ lowB (t1 * t3) (b1 * b3) = lowB (t2 * t3) (b2 * b3) := by
  subst ht
  refine low_eq ?_ ?_ (by simp)
  · have := Int.mul_pos h1 h3
    omega
  · have := Int.mul_pos h2 h3
    omega
end
theorem lowT_one (a : Int) : lowT a 1 = a := by
  have h := lowT_mul a 1
  have e : sg a 1 = 1 := by unfold sg; simp
  rw [e] at h
  omega
theorem lowB_one (a : Int) : lowB a 1 = 1 := by
  have h := lowB_mul a 1
  have e : sg a 1 = 1 := by unfold sg; simp
  rw [e] at h
  omega
/-! sizes -/
theorem lowT_le {a b : Int} (hb : b ≠ 0) : (lowT a b).natAbs ≤ a.natAbs := by
  have h : (lowT a b).natAbs * (sg a b).natAbs = a.natAbs := by rw [← Int.natAbs_mul, lowT_mul]
  have g : 0 < (sg a b).natAbs := by have := sg_ne (a := a) hb; omega
  exact Nat.le_trans (Nat.le_mul_of_pos_right _ g) (Nat.le_of_eq h)
theorem lowB_le {a b : Int} (hb : b ≠ 0) : (lowB a b).natAbs ≤ b.natAbs := by
  have h : (lowB a b).natAbs * (sg a b).natAbs = b.natAbs := by rw [← Int.natAbs_mul, lowB_mul]
  have g : 0 < (sg a b).natAbs := by have := sg_ne (a := a) hb; omega
  exact Nat.le_trans (Nat.le_mul_of_pos_right _ g) (Nat.le_of_eq h)
theorem sg_le {a b : Int} (hb : b ≠ 0) : (sg a b).natAbs ≤ b.natAbs := by
  rw [sg_abs]
  exact Nat.le_of_dvd (by omega) (Nat.gcd_dvd_right _ _)
end K04
namespace K04
open PySem PySem.Spec PyProof.Rows L2
abbrev sWhole : Stmt := d_is_whole
abbrev sInit : Stmt := d_Share_init
abbrev sEq : Stmt := d_Share_eq
/-! ### a share on the heap -/
theorem tb_ : ¬ (("top" : Str) = "bottom") := by decide +kernel
theorem bt_ : ¬ (("bottom" : Str) = "top") := by decide +kernel
def shf (t b : Int) : List (Str × V) := putF "bottom" (.int b) (putF "top" (.int t) [])
theorem shf_top (t b : Int) : (shf t b).lookup ("top" : Str) = some (.int t) := by
  unfold shf
  rw [lookup_putF, if_neg tb_, lookup_putF, if_pos rfl]
theorem shf_bottom (t b : Int) : (shf t b).lookup ("bottom" : Str) = some (.int b) := by
  unfold shf
  rw [lookup_putF, if_pos rfl]
/-- a share t over b stands at p -/
def ShAt (C : Addr) (H : Hp) (p : Addr) (t b : Int) : Prop := ∃ dx, H p = some (.ins C dx (shf t b))
theorem ShAt.mono {C : Addr} {H H' : Hp} {p : Addr} {t b : Int} (h : ShAt C H p t b) (s : Same H H') : ShAt C H' p t b := by
  obtain ⟨dx, e⟩ := h
  exact ⟨dx, s _ _ e⟩
/-- what the top says of the program's own names -/
structure Txt (K : PySem.W.Frag) (mg : Str → Option Value) (C CN : Addr) : Prop where
  cl : Cls K C
  nT : NoAttr K C "top"
  nB : NoAttr K C "bottom"
  mgC : mg "Share" = some (.ref C)
  gcd : mg "gcd" = some (.builtin "math.gcd")
  isi : mg "isinstance" = none
  int : mg "int" = none
  bool : mg "bool" = none
  gN : mg "NoShare" = some (.ref CN)
  xN : PySem.W.excIn K CN [.type "ValueError", .type "Exception", .type "BaseException", .type "object"] "ValueError.__new__" = true
  kN : PySem.W.keepIn K (.ref CN) = true
  bN : PySem.W.subIn K (.ref CN) (.type "BaseException") = some true
  tN : PySem.W.typeIn K (.ref CN) = some (.type "type")
  eN : PySem.W.exmOne K (.ref CN) (.ref CN) = some true
/-! ### // by a divisor of either sign -/
def CDivX (_ j : Int) : Prop := j ≠ 0 ∧ j.natAbs.log2 < 9000
section
variable {X : Cx}
theorem op_fdivX : OpR X (binaryOp .FloorDiv) (rI CDivX fun i j => .int (i.fdiv j)) := opI fun i j _ _ _ _ _ hc q => floordiv_int hc.1 q (.inl (PyProof.noPylong_of_log2 hc.2))
end
theorem big_div {i j : Int} {b : Nat} (h : j ≠ 0) (hb : j.natAbs < 2 ^ b) (h0 : 0 < b) (h9 : b ≤ 9000) : CDivX i j := ⟨h, Nat.lt_of_lt_of_le (PySem.Flt.log2_lt_of h0 hb) h9⟩
theorem add_lt {i j : Int} {a : Nat} (hi : i.natAbs < 2 ^ a) (hj : j.natAbs < 2 ^ a) : (i + j).natAbs < 2 ^ (a + 1) := by
  have e : 2 ^ (a + 1) = 2 ^ a * 2 := Nat.pow_succ ..
  omega
theorem sub_lt {i j : Int} {a : Nat} (hi : i.natAbs < 2 ^ a) (hj : j.natAbs < 2 ^ a) : (i - j).natAbs < 2 ^ (a + 1) := by
  have e : 2 ^ (a + 1) = 2 ^ a * 2 := Nat.pow_succ ..
  omega
theorem pow_le {i : Int} {a b : Nat} (h : i.natAbs < 2 ^ a) (hab : a ≤ b) : i.natAbs < 2 ^ b := Nat.lt_of_lt_of_le h (Nat.pow_le_pow_right (by omega) hab)
/-! ### promises -/
def spWhole : Sp := fun vs H Q _ => ∃ i : Int, vs = [.int i] ∧ Q (.bl true) H
def spInit (C CN : Addr) : Sp := fun vs H Q E => ∃ (p dx : Addr) (t b : Int), vs = [.ref p, .int t, .int b] ∧ H p = some (.ins C dx []) ∧ t.natAbs < 2 ^ 4000 ∧ b.natAbs < 2 ^ 4000 ∧
  (b = 0 → E (.ref CN) none H) ∧ (b ≠ 0 → ∀ H' : Hp, H' p = some (.ins C dx (shf (lowT t b) (lowB t b))) → (∀ a, a ≠ p → H' a = H a) → Q .non H')
section
variable {P : Program} {w : World} {K : PySem.W.Frag} {mg : Str → Option Value} {base : Heap}
theorem scWhole : FnScope ["thing"] ["thing"] (defScope sWhole) := ⟨rfl, rfl, rfl, by decide +kernel, rfl, by decide +kernel, by decide +kernel⟩
theorem ok_whole {f C CN : Addr} {fd : FuncData} (F : Fun K "is_whole" "is_whole" sWhole f fd) (T : Txt K mg C CN) : FnOk P w K mg base CX0 1 f fd ["thing"] spWhole := by
  refine F.ok scWhole (fun vs H Q E h => ?_) (fun cdv A outer s H vs Q E hr h => ?_)
  · obtain ⟨i, rfl, _⟩ := h
    rfl
  · obtain ⟨i, rfl, k⟩ := h
    refine ⟨_, pss_one (ps_ret (pe_and (pe_callB call_isi (by rfl) T.isi (by decide +kernel) (pa_cons (pv 0) (pa_cons (pe_bltn (v := .ty "int") (by rfl) T.int (by decide +kernel) rfl) pa_nil)))
      (pe_one (pe_not (pe_callB call_isi (by rfl) T.isi (by decide +kernel) (pa_cons (pv 0) (pa_cons (pe_bltn (v := .ty "bool") (by rfl) T.bool (by decide +kernel) rfl) pa_nil))))))), ?_⟩
    refine ⟨_, rfl, _, _, _, _, true, rfl, ClsV.ty _, TyX.base (TyOf.int _), kit_ty (by decide +kernel), true, rfl, iteT ?_⟩
    exact ⟨_, rfl, _, _, _, _, false, rfl, ClsV.ty _, TyX.base (TyOf.int _), kit_ty (by decide +kernel), false, rfl, k⟩

theorem scInit : FnScope ["self", "top", "bottom", "common"] ["self", "top", "bottom"] (defScope sInit) := ⟨rfl, rfl, rfl, by decide +kernel, rfl, by decide +kernel, by decide +kernel⟩
theorem ok_init {f fW C CN : Addr} {fd fdW : FuncData} (F : FunD K "__init__" "Share.__init__" (defArgs sInit) (defBody sInit) (defScope sInit) [.int 1] [] f fd) (T : Txt K mg C CN)
    (GW : FnOk P w K mg base CX0 1 fW fdW ["thing"] spWhole) (mW : mg "is_whole" = some (.ref fW)) (kW : PySem.W.keepIn K (.ref fW) = true) (bW : Binds K fdW ["thing"] []) :
    FnOk P w K mg base (L2.CX P w) 2 f fd ["self", "top", "bottom"] (spInit C CN) := by
  refine FunD.ok (N := ["self", "top", "bottom", "common"]) F scInit (fun vs H Q E h => ?_) (fun cdv A outer s H vs Q E hr h => ?_)
  · obtain ⟨p, dx, t, b, rfl, _⟩ := h
    rfl
  · obtain ⟨p, dx, t, b, rfl, hp, st, sb, ke, kq⟩ := h
    refine ⟨_, pss_cons (ps_if (PW.pt (pw_or (pt_not (pt_val (pe_call GW hr rfl mW kW bW .nil pass0 (pa_cons (pv 1) pa_nil)))) (pw_or (pt_not (pt_val (pe_call GW hr rfl mW kW bW .nil pass0 (pa_cons (pv 2) pa_nil)))) (pw_or1 (pt_cmpR op_eq (pv 2) pe_int (nomark _))))))
        (pss_one (ps_raise rfl (takes_of rfl rfl rfl rfl) (pmk_own PySem.F.excBase_ValueError T.xN T.gN T.kN (raises_own T.bN T.tN) (by exact rfl)))) pss_nil)
      (pss_cons (ps_set (i := 3) scInit.nd rfl (Or.inl rfl) (pe_callBfun cr_gcd rfl T.gcd (pa_cons (pv 1) (pa_cons (pv 2) pa_nil))))
      (pss_cons (ps_if (pt_cmpR op_lt (pv 2) pe_int (nomark _)) (pss_one (ps_set (i := 3) scInit.nd rfl (Or.inl rfl) (pe_un un_neg (pv 3)))) pss_nil)
      (pss_cons (ps_fld (pv 0) (pe_op op_fdivX (pv 1) (pv 3)) rfl)
      (pss_one (ps_fld (pv 0) (pe_op op_fdivX (pv 2) (pv 3)) rfl))))), ?_⟩
    refine ⟨_, rfl, t, rfl, true, rfl, iteF ?_⟩
    refine ⟨_, rfl, b, rfl, true, rfl, iteF ?_⟩
    refine ⟨_, rfl, rfl, _, rfl, ?_⟩
    refine ite2 (fun h0 => ?_) (fun h0 => ?_)
    · exact ke (by simpa using h0)
    · have hb : b ≠ 0 := fun e => h0 (by rw [e]; exact decide_eq_true rfl)
      have gs : (sg t b).natAbs < 2 ^ 4000 := Nat.lt_of_le_of_lt (sg_le hb) sb
      refine ⟨_, rfl, _, rfl, t, b, rfl, ?_⟩
      refine ⟨_, rfl, _, _, rfl, rfl, _, rfl, ?_⟩
      refine ite2 (fun hn => ?_) (fun hn => ?_)
      · have hn : b < 0 := of_decide_eq_true hn
        have e : -((Nat.gcd t.natAbs b.natAbs : Nat) : Int) = sg t b := by unfold sg; rw [if_pos hn]
        have g0 : -((Nat.gcd t.natAbs b.natAbs : Nat) : Int) ≠ 0 := by rw [e]; exact sg_ne hb
        have gd : ∀ i : Int, CDivX i (-((Nat.gcd t.natAbs b.natAbs : Nat) : Int)) := fun i => big_div (b := 4000) g0 (by rw [e]; exact gs) (by decide) (by decide)
        refine ⟨_, rfl, _, rfl, ?_⟩
        refine ⟨_, rfl, _, rfl, _, _, rfl, rfl, gd _, _, rfl, p, C, dx, _, rfl, hp, T.cl, T.nT, (by show 0 < 1000; decide), ?_⟩
        refine ⟨_, rfl, _, rfl, _, _, rfl, rfl, gd _, _, rfl, p, C, dx, _, rfl, upd_same, T.cl, T.nB, (by show 1 < 1000; decide), ?_⟩
        refine kq hb _ (Eq.trans upd_same ?_) (fun a ha => by rw [upd_ne ha, upd_ne ha])
        rw [e]
        rfl
      · have hn : ¬ b < 0 := fun q => hn (decide_eq_true q)
        have e : ((Nat.gcd t.natAbs b.natAbs : Nat) : Int) = sg t b := by unfold sg; rw [if_neg hn]
        have g0 : ((Nat.gcd t.natAbs b.natAbs : Nat) : Int) ≠ 0 := by rw [e]; exact sg_ne hb
        have gd : ∀ i : Int, CDivX i ((Nat.gcd t.natAbs b.natAbs : Nat) : Int) := fun i => big_div (b := 4000) g0 (by rw [e]; exact gs) (by decide) (by decide)
        refine ⟨_, rfl, _, rfl, _, _, rfl, rfl, gd _, _, rfl, p, C, dx, _, rfl, hp, T.cl, T.nT, (by show 0 < 1000; decide), ?_⟩
        refine ⟨_, rfl, _, rfl, _, _, rfl, rfl, gd _, _, rfl, p, C, dx, _, rfl, upd_same, T.cl, T.nB, (by show 1 < 1000; decide), ?_⟩
        refine kq hb _ (Eq.trans upd_same ?_) (fun a ha => by rw [upd_ne ha, upd_ne ha])
        rw [e]
        rfl

/-- what is made stands beside what stood -/
theorem made_same {H H' : Hp} {x dx C : Addr} {o : HO} (nx : H x = none) (nd : H dx = none) (k : ∀ a, a ≠ x → H' a = (upd (upd H dx (.own x)) x o) a) : Same H H' := fun a u e => by
  have a1 : a ≠ x := fun z => by rw [z, nx] at e; cases e
  have a2 : a ≠ dx := fun z => by rw [z, nd] at e; cases e
  rw [k a a1, upd_ne a1, upd_ne a2]
  exact e
end
end K04

namespace K04
open PySem PySem.Spec PyProof.Rows L2
/-! ### a share as the number that it stands for -/
theorem rat_frac (q : Rat) : (q.num : Rat) / ((q.den : Int) : Rat) = q := by
  have h := Rat.num_divInt_den q
  rw [Rat.divInt_eq_div] at h
  exact h
theorem icast_ne {b : Int} (h : b ≠ 0) : (b : Rat) ≠ 0 := fun z => h (Rat.intCast_inj.mp (by rw [z]; rfl))
theorem den_pos (q : Rat) : (0 : Int) < (q.den : Int) := by
  have := q.den_nz
  omega
theorem low_rat {t b : Int} (hb : b ≠ 0) : lowT t b = ((t : Rat) / (b : Rat)).num ∧ lowB t b = ((((t : Rat) / (b : Rat)).den : Nat) : Int) := by
  have hq := rat_frac ((t : Rat) / (b : Rat))
  have hd := den_pos ((t : Rat) / (b : Rat))
  have hc := ((t : Rat) / (b : Rat)).reduced
  generalize hx : (t : Rat) / (b : Rat) = q at *
  refine same_of (lowB_pos hb) hd ?_ (low_coprime hb) hc
  have nb := icast_ne hb
  have nd := icast_ne (show ((q.den : Nat) : Int) ≠ 0 by omega)
  have cross : t * (q.den : Int) = q.num * b := by
    refine Rat.intCast_inj.mp ?_
    rw [Rat.intCast_mul, Rat.intCast_mul]
    have e : (t : Rat) / (b : Rat) = (q.num : Rat) / ((q.den : Int) : Rat) := by rw [hx, hq]
    grind
  have h1 := lowT_mul t b
  have h2 := lowB_mul t b
  have g := sg_ne (a := t) hb
  refine Int.eq_of_mul_eq_mul_right g ?_
  calc lowT t b * (q.den : Int) * sg t b = (lowT t b * sg t b) * (q.den : Int) := by rw [Int.mul_assoc, Int.mul_comm (q.den : Int), ← Int.mul_assoc]
    _ = t * (q.den : Int) := by rw [h1]
    _ = q.num * b := cross
    _ = q.num * (lowB t b * sg t b) := by rw [h2]
    _ = q.num * lowB t b * sg t b := by rw [Int.mul_assoc]
/-- the share of q stands at p -/
def ShQ (C : Addr) (H : Hp) (p : Addr) (q : Rat) : Prop := ShAt C H p q.num (q.den : Int)
theorem ShQ.mono {C : Addr} {H H' : Hp} {p : Addr} {q : Rat} (h : ShQ C H p q) (s : Same H H') : ShQ C H' p q := ShAt.mono h s
theorem shq_low {C : Addr} {H : Hp} {p : Addr} {t b : Int} (hb : b ≠ 0) (h : ShAt C H p (lowT t b) (lowB t b)) : ShQ C H p ((t : Rat) / (b : Rat)) := by
  unfold ShQ
  rw [← (low_rat hb).1, ← (low_rat hb).2]
  exact h
/-- below 2 ^ k, both top and bottom -/
def Sz (k : Nat) (q : Rat) : Prop := q.num.natAbs < 2 ^ k ∧ ((q.den : Nat) : Int).natAbs < 2 ^ k
theorem Sz.up {j k : Nat} {q : Rat} (h : Sz j q) (e : j ≤ k) : Sz k q := ⟨pow_le h.1 e, pow_le h.2 e⟩
theorem sz_div {k : Nat} {t b : Int} (hb : b ≠ 0) (ht : t.natAbs < 2 ^ k) (hk : b.natAbs < 2 ^ k) : Sz k ((t : Rat) / (b : Rat)) := by
  unfold Sz
  rw [← (low_rat hb).1, ← (low_rat hb).2]
  exact ⟨Nat.lt_of_le_of_lt (lowT_le hb) ht, Nat.lt_of_le_of_lt (lowB_le hb) hk⟩
theorem mul_lt {i j : Int} {a b : Nat} (ha : i.natAbs < 2 ^ a) (hb : j.natAbs < 2 ^ b) : (i * j).natAbs < 2 ^ (a + b) := by
  rw [Int.natAbs_mul, Nat.pow_add]
  exact Nat.mul_lt_mul_of_lt_of_lt ha hb
theorem rat_mul (x y : Rat) : ((x.num * y.num : Int) : Rat) / (((x.den : Int) * (y.den : Int) : Int) : Rat) = x * y := by
  have a := rat_frac x
  have b := rat_frac y
  have n1 := icast_ne (show ((x.den : Nat) : Int) ≠ 0 from by have := den_pos x; omega)
  have n2 := icast_ne (show ((y.den : Nat) : Int) ≠ 0 from by have := den_pos y; omega)
  rw [Rat.intCast_mul, Rat.intCast_mul]
  generalize hx : (x.num : Rat) = xn at *
  generalize hy : (y.num : Rat) = yn at *
  generalize ((x.den : Int) : Rat) = xd at *
  generalize ((y.den : Int) : Rat) = yd at *
  subst a b
  grind
theorem rat_add (x y : Rat) : ((x.num * (y.den : Int) + y.num * (x.den : Int) : Int) : Rat) / (((x.den : Int) * (y.den : Int) : Int) : Rat) = x + y := by
  have a := rat_frac x
  have b := rat_frac y
  have n1 := icast_ne (show ((x.den : Nat) : Int) ≠ 0 from by have := den_pos x; omega)
  have n2 := icast_ne (show ((y.den : Nat) : Int) ≠ 0 from by have := den_pos y; omega)
  rw [Rat.intCast_mul, Rat.intCast_add, Rat.intCast_mul, Rat.intCast_mul]
  generalize hx : (x.num : Rat) = xn at *
  generalize hy : (y.num : Rat) = yn at *
  generalize ((x.den : Int) : Rat) = xd at *
  generalize ((y.den : Int) : Rat) = yd at *
  subst a b
  grind
theorem rat_sub (x y : Rat) : ((x.num * (y.den : Int) - y.num * (x.den : Int) : Int) : Rat) / (((x.den : Int) * (y.den : Int) : Int) : Rat) = x - y := by
  have a := rat_frac x
  have b := rat_frac y
  have n1 := icast_ne (show ((x.den : Nat) : Int) ≠ 0 from by have := den_pos x; omega)
  have n2 := icast_ne (show ((y.den : Nat) : Int) ≠ 0 from by have := den_pos y; omega)
  rw [Rat.intCast_mul, Rat.intCast_sub, Rat.intCast_mul, Rat.intCast_mul]
  generalize hx : (x.num : Rat) = xn at *
  generalize hy : (y.num : Rat) = yn at *
  generalize ((x.den : Int) : Rat) = xd at *
  generalize ((y.den : Int) : Rat) = yd at *
  subst a b
  grind
theorem sz_mul {a b : Nat} {x y : Rat} (hx : Sz a x) (hy : Sz b y) : Sz (a + b) (x * y) := by
  rw [← rat_mul]
  exact sz_div (Int.mul_ne_zero (by have := den_pos x; omega) (by have := den_pos y; omega)) (mul_lt hx.1 hy.1) (mul_lt hx.2 hy.2)
theorem sz_add {a b : Nat} {x y : Rat} (hx : Sz a x) (hy : Sz b y) : Sz (a + b + 1) (x + y) := by
  rw [← rat_add]
  refine sz_div (Int.mul_ne_zero (by have := den_pos x; omega) (by have := den_pos y; omega)) (add_lt (mul_lt hx.1 hy.2) ?_) (pow_le (mul_lt hx.2 hy.2) (by omega))
  rw [Nat.add_comm]
  exact mul_lt hy.1 hx.2
theorem sz_sub {a b : Nat} {x y : Rat} (hx : Sz a x) (hy : Sz b y) : Sz (a + b + 1) (x - y) := by
  rw [← rat_sub]
  refine sz_div (Int.mul_ne_zero (by have := den_pos x; omega) (by have := den_pos y; omega)) (sub_lt (mul_lt hx.1 hy.2) ?_) (pow_le (mul_lt hx.2 hy.2) (by omega))
  rw [Nat.add_comm]
  exact mul_lt hy.1 hx.2
theorem rat_lt (x y : Rat) : decide (x.num * (y.den : Int) < y.num * (x.den : Int)) = decide (x < y) := decide_eq_decide.mpr (Rat.lt_iff x y).symm
theorem rat_eq (x y : Rat) : (decide (x.num = y.num) && decide ((x.den : Int) = (y.den : Int))) = decide (x = y) := by
  rw [← Bool.decide_and]
  refine decide_eq_decide.mpr ⟨fun h => Rat.ext h.1 (by have := h.2; omega), fun h => by rw [h]; exact ⟨rfl, rfl⟩⟩
end K04

namespace K04
open PySem PySem.Spec PyProof.Rows L2
/-! ### two lists side by side -/
structure All2 {α β : Type} (R : α → β → Prop) (as : List α) (bs : List β) : Prop where
  len : as.length = bs.length
  all : ∀ (i : Nat) (a : α) (b : β), as[i]? = some a → bs[i]? = some b → R a b
theorem All2.nil {α β : Type} {R : α → β → Prop} : All2 R [] [] := ⟨rfl, fun i a b h _ => by simp at h⟩
theorem All2.mono {α β : Type} {R S : α → β → Prop} {as : List α} {bs : List β} (h : All2 R as bs) (f : ∀ a b, a ∈ as → b ∈ bs → R a b → S a b) : All2 S as bs :=
  ⟨h.len, fun i a b ha hb => f a b (List.mem_of_getElem? ha) (List.mem_of_getElem? hb) (h.all i a b ha hb)⟩
theorem All2.snoc {α β : Type} {R : α → β → Prop} {as : List α} {bs : List β} {a : α} {b : β} (h : All2 R as bs) (r : R a b) : All2 R (as ++ [a]) (bs ++ [b]) := by
  refine ⟨by rw [List.length_append, List.length_append, h.len]; rfl, fun i x y hx hy => ?_⟩
  by_cases c : i < as.length
  · rw [List.getElem?_append_left c] at hx
    rw [List.getElem?_append_left (by rw [← h.len]; exact c)] at hy
    exact h.all i x y hx hy
  · rw [List.getElem?_append_right (by omega)] at hx
    rw [List.getElem?_append_right (by rw [← h.len]; omega)] at hy
    have c0 : i - as.length = 0 := by
      have := (List.getElem?_eq_some_iff.mp hx).1
      simp at this
      omega
    rw [← h.len, c0] at hy
    rw [c0] at hx
    have e1 : a = x := by simpa using hx
    have e2 : b = y := by simpa using hy
    subst e1 e2
    exact r
theorem All2.one {α β : Type} {R : α → β → Prop} {a : α} {b : β} (r : R a b) : All2 R [a] [b] := All2.nil.snoc r
theorem All2.two {α β : Type} {R : α → β → Prop} {a a' : α} {b b' : β} (r : R a b) (r' : R a' b') : All2 R [a, a'] [b, b'] := (All2.one r).snoc r'
theorem All2.take {α β : Type} {R : α → β → Prop} {as : List α} {bs : List β} (h : All2 R as bs) (n : Nat) : All2 R (as.take n) (bs.take n) :=
  ⟨by rw [List.length_take, List.length_take, h.len], fun i a b ha hb => by
    rw [List.getElem?_take] at ha hb
    split at ha
    · rename_i c
      rw [if_pos c] at hb
      exact h.all i a b ha hb
    · cases ha⟩
theorem All2.rev {α β : Type} {R : α → β → Prop} {as : List α} {bs : List β} (h : All2 R as bs) : All2 R as.reverse bs.reverse :=
  ⟨by rw [List.length_reverse, List.length_reverse, h.len], fun i a b ha hb => by
    have hi : i < as.length := by
      have := (List.getElem?_eq_some_iff.mp ha).1
      simpa using this
    rw [List.getElem?_reverse hi] at ha
    rw [List.getElem?_reverse (by rw [← h.len]; exact hi), ← h.len] at hb
    exact h.all _ a b ha hb⟩
theorem same1 {H : Hp} {p : Addr} {o : HO} (h : H p = none) : Same H (upd H p o) := fun b u e => by rw [upd_ne (ne_of_none e h)]; exact e
theorem Same.tup {K : PySem.W.Frag} {H H' : Hp} {a : Addr} {xs : List V} (e : Same H H') (h : SqT K H a xs) : SqT K H' a xs := SqT.ext h e
theorem at_k {xs : List V} {k : Int} {v : V} (h0 : 0 ≤ k) (h : xs[k.toNat]? = some v) : atI xs k = some v := by
  have e := atI_nat h
  rw [Int.toNat_of_nonneg h0] at e
  exact e
/-- a def at hand: its promise, its name, how it is called -/
structure At (P : Program) (w : World) (K : PySem.W.Frag) (mg : Str → Option Value) (base : Heap) (CX : CXT) (k : Nat) (x : Str) (ps : List Str) (sp : Sp) (f : Addr) (fd : FuncData) : Prop where
  G : FnOk P w K mg base CX k f fd ps sp
  m : mg x = some (.ref f)
  k : PySem.W.keepIn K (.ref f) = true
  b : Binds K fd ps []
end K04

namespace K04
open PySem PySem.Spec PyProof.Rows L2
/-! ### lcm of great numbers, and what comes together -/
theorem sum_le : ∀ (l : List Int) (B : Nat), (∀ x ∈ l, x.natAbs ≤ B) → l.sum.natAbs ≤ l.length * B
  | [], B, _ => by simp
  | a :: l, B, h => by
    have h1 := h a (by simp)
    have h2 := sum_le l B (fun x hx => h x (by simp [hx]))
    rw [List.sum_cons, List.length_cons, Nat.succ_mul]
    have := Int.natAbs_add_le a l.sum
    omega
section
variable {X : Cx}
def rLcmW : List V → Hp → VK → Prop := fun xs H Q => ∃ a b : Int, xs = [.int a, .int b] ∧ a.natAbs < 2 ^ 4000 ∧ b.natAbs < 2 ^ 4000 ∧ Q (.int ((Nat.lcm a.natAbs b.natAbs : Nat) : Int)) H
theorem log_le {n k : Nat} (h0 : 0 < k) (h : n < 2 ^ k) : n.log2 < k := PySem.Flt.log2_lt_of h0 h
theorem cr_lcmW : CallR X (.builtin "math.lcm") rLcmW := by
  intro pins s σ H vs us Q I r h
  obtain ⟨a, b, rfl, ha, hb, q⟩ := h
  obtain ⟨t, u, rfl⟩ := Vals.int2 r
  have l1 : (max 1 a.natAbs).log2 < 4000 := log_le (by decide) (by have : 1 < 2 ^ 4000 := Nat.one_lt_two_pow (by decide); omega)
  have l2 : (max a.natAbs b.natAbs).log2 < 4000 := log_le (by decide) (by omega)
  have sz : ((((Nat.lcm 1 a.natAbs).lcm b.natAbs : Nat) : Int)).natAbs.log2 < bitsLine := by
    rw [PySem.W.mc_lcm_one, Int.natAbs_natCast]
    have m : a.natAbs.lcm b.natAbs < 2 ^ 8000 := by
      refine Nat.lt_of_le_of_lt (PySem.W.mc_lcm_le _ _) ?_
      rw [show 8000 = 4000 + 4000 from rfl, Nat.pow_add]
      exact Nat.mul_lt_mul_of_lt_of_lt ha hb
    exact Nat.lt_of_lt_of_le (log_le (by decide) m) (by decide)
  refine call_function_meets PySem.W.MGF.kind_lcm PySem.W.MGF.plain_lcm PySem.W.MGF.entry_lcm (PySem.W.MGF.args_lcm _ _) (PySem.W.mg_run_lcm a t b u (by omega) (by omega) sz).meets ?_
  rw [PySem.W.mc_lcm_one]
  exact ⟨.int _, H, I.tok _, ⟨_, rfl⟩, q⟩
end
/-- a list of shares at ps -/
def ShQs (C : Addr) (H : Hp) (ps : List Addr) (ws : List Rat) : Prop := All2 (ShQ C H) ps ws
theorem ShQs.mono {C : Addr} {H H' : Hp} {ps : List Addr} {ws : List Rat} (h : ShQs C H ps ws) (s : Same H H') : ShQs C H' ps ws := All2.mono h fun _ _ _ _ r => r.mono s
/-- what is small enough to be added: all bottoms go into M -/
structure Tots (ws : List Rat) (M : Nat) : Prop where
  pos : 0 < M
  lt : M < 2 ^ 2000
  den : ∀ q ∈ ws, q.den ∣ M
  num : ∀ q ∈ ws, q.num.natAbs < 2 ^ 1500
  few : ws.length ≤ 100
def lcmQ (ws : List Rat) : Nat := ws.foldl (fun m q => Nat.lcm m q.den) 1
theorem lcmQ_next {ws : List Rat} {i : Nat} {q : Rat} (h : ws[i]? = some q) : lcmQ (ws.take (i + 1)) = Nat.lcm (lcmQ (ws.take i)) q.den := by
  obtain ⟨hi, e⟩ := List.getElem?_eq_some_iff.mp h
  unfold lcmQ
  rw [List.take_succ_eq_append_getElem hi, List.foldl_append, e]
  rfl
theorem lcmQ_dvd {ws : List Rat} {M : Nat} (h : Tots ws M) : ∀ i, i ≤ ws.length → lcmQ (ws.take i) ∣ M
  | 0, _ => by
    rw [List.take_zero]
    exact Nat.one_dvd _
  | i + 1, hi => by
    have hx : ws[i]? = some ws[i] := List.getElem?_eq_getElem (by omega)
    rw [lcmQ_next hx]
    exact Nat.lcm_dvd (lcmQ_dvd h i (by omega)) (h.den _ (List.getElem_mem _))
theorem lcmQ_all {ws : List Rat} : ∀ i, i ≤ ws.length → ∀ q ∈ ws.take i, q.den ∣ lcmQ (ws.take i)
  | 0, _, q, hq => by simp at hq
  | i + 1, hi, q, hq => by
    have hx : ws[i]? = some ws[i] := List.getElem?_eq_getElem (by omega)
    rw [lcmQ_next hx]
    rw [List.take_succ_eq_append_getElem (by omega)] at hq
    rcases List.mem_append.mp hq with z | z
    · exact Nat.dvd_trans (lcmQ_all i (by omega) q z) (Nat.dvd_lcm_left _ _)
    · rw [List.mem_singleton.mp z]
      exact Nat.dvd_lcm_right _ _
theorem lcmQ_lt {ws : List Rat} {M : Nat} (h : Tots ws M) {i : Nat} (hi : i ≤ ws.length) : 0 < lcmQ (ws.take i) ∧ lcmQ (ws.take i) < 2 ^ 2000 := by
  have d := lcmQ_dvd h i hi
  exact ⟨Nat.pos_of_dvd_of_pos d h.pos, Nat.lt_of_le_of_lt (Nat.le_of_dvd h.pos d) h.lt⟩
/-- by a common bottom -/
def numS (ws : List Rat) (D : Nat) : Int := (ws.map fun q => q.num * ((D : Int) / (q.den : Int))).sum
theorem numS_is {D : Nat} (hD : 0 < D) : ∀ ws : List Rat, (∀ q ∈ ws, q.den ∣ D) → ((numS ws D : Int) : Rat) / ((D : Int) : Rat) = ws.sum
  | [], _ => by
    show ((0 : Int) : Rat) / _ = (0 : Rat)
    rw [show ((0 : Int) : Rat) = 0 from rfl]
    grind
  | q :: r, h => by
    have ih := numS_is hD r (fun x hx => h x (by simp [hx]))
    obtain ⟨k, hk⟩ := h q (by simp)
    have hd := den_pos q
    have nd := icast_ne (show ((q.den : Nat) : Int) ≠ 0 by omega)
    have nD := icast_ne (show ((D : Nat) : Int) ≠ 0 by omega)
    have fr := rat_frac q
    have e : ((D : Int) / (q.den : Int)) = (k : Int) := by
      rw [hk, Int.natCast_mul, Int.mul_ediv_cancel_left _ (by omega)]
    have eD : ((D : Int) : Rat) = ((q.den : Int) : Rat) * ((k : Int) : Rat) := by rw [← Rat.intCast_mul, ← Int.natCast_mul, ← hk]
    show (((q.num * ((D : Int) / (q.den : Int)) + numS r D : Int)) : Rat) / ((D : Int) : Rat) = q + r.sum
    rw [e, Rat.intCast_add, Rat.intCast_mul, ← ih]
    generalize hq : (q.num : Rat) = a at *
    generalize ((q.den : Int) : Rat) = b at *
    generalize ((k : Int) : Rat) = c at *
    generalize ((numS r D : Int) : Rat) = s at *
    rw [eD] at nD ⊢
    rw [← fr]
    grind
theorem numS_lt {ws : List Rat} {M : Nat} (h : Tots ws M) {D : Nat} (hD : D < 2 ^ 2000) : (numS ws D).natAbs < 2 ^ 4000 := by
  have a := sum_le (ws.map fun q => q.num * ((D : Int) / (q.den : Int))) (2 ^ 3500) (fun y hy => by
    obtain ⟨q, hq, rfl⟩ := List.mem_map.mp hy
    have t := h.num q hq
    have d := den_pos q
    have e : ((D : Int) / (q.den : Int)).natAbs ≤ D := by
      have q0 : 0 ≤ (D : Int) / (q.den : Int) := Int.ediv_nonneg (by omega) (by omega)
      have q1 : (D : Int) / (q.den : Int) ≤ (D : Int) := Int.ediv_le_self _ (by omega)
      omega
    rw [Int.natAbs_mul, show (2 : Nat) ^ 3500 = 2 ^ 1500 * 2 ^ 2000 from by rw [← Nat.pow_add]]
    exact Nat.mul_le_mul (Nat.le_of_lt t) (Nat.le_trans e (Nat.le_of_lt hD)))
  rw [List.length_map] at a
  have c : ws.length * 2 ^ 3500 ≤ 2 ^ 7 * 2 ^ 3500 := Nat.mul_le_mul_right _ (Nat.le_trans h.few (by decide))
  rw [← Nat.pow_add] at c
  exact Nat.lt_of_le_of_lt (Nat.le_trans a c) (Nat.pow_lt_pow_right (by decide) (by decide))
end K04

namespace K04
open PySem PySem.Spec PyProof.Rows L2
/-! ### less -/
def spLessQ (C : Addr) : Sp := fun vs H Q _ => ∃ (x y : Addr) (p q : Rat), vs = [.ref x, .ref y] ∧ ShQ C H x p ∧ ShQ C H y q ∧ Sz 1500 p ∧ Sz 1500 q ∧ Q (.bl (decide (p < q))) H
section
variable {P : Program} {w : World} {K : PySem.W.Frag} {mg : Str → Option Value} {base : Heap}
theorem scLessQ : FnScope ["one", "other"] ["one", "other"] (defScope d_less) := ⟨rfl, rfl, rfl, by decide +kernel, rfl, by decide +kernel, by decide +kernel⟩
theorem ok_lessQ {f C CN : Addr} {fd : FuncData} (F : Fun K "less" "less" d_less f fd) (T : Txt K mg C CN) : FnOk P w K mg base CX0 1 f fd ["one", "other"] (spLessQ C) := by
  refine F.ok scLessQ (fun vs H Q E h => ?_) (fun cdv A outer s H vs Q E hr h => ?_)
  · obtain ⟨x, y, p, q, rfl, _⟩ := h
    rfl
  · obtain ⟨x, y, p, q, rfl, ⟨dx, hx⟩, ⟨dy, hy⟩, s1, s2, k⟩ := h
    refine ⟨_, pss_one (ps_ret (pe_cmpR op_lt (pe_op op_mulW (pe_fld (pv 0) rfl) (pe_fld (pv 1) rfl)) (pe_op op_mulW (pe_fld (pv 1) rfl) (pe_fld (pv 0) rfl)) (nomark _))), ?_⟩
    refine ⟨_, rfl, x, C, dx, _, _, rfl, hx, T.cl, T.nT, shf_top .., _, rfl, y, C, dy, _, _, rfl, hy, T.cl, T.nB, shf_bottom .., _, _, rfl, rfl, wide_mul s1.1 s2.2 (by decide) (by decide) (by decide), ?_⟩
    refine ⟨_, rfl, y, C, dy, _, _, rfl, hy, T.cl, T.nT, shf_top .., _, rfl, x, C, dx, _, _, rfl, hx, T.cl, T.nB, shf_bottom .., _, _, rfl, rfl, wide_mul s2.1 s1.2 (by decide) (by decide) (by decide), _, _, rfl, rfl, ?_⟩
    show Q (.bl (decide (p.num * (q.den : Int) < q.num * (p.den : Int)))) H
    rw [rat_lt]
    exact k
end
end K04

namespace K04
open PySem PySem.Spec PyProof.Rows L2
theorem ty_tup {K : PySem.W.Frag} {H : Hp} {a : Addr} {xs : List V} (h : SqT K H a xs) : TyX K H (.ref a) (.type "tuple") := by
  rcases h with (h | ⟨o, h⟩) | ⟨o, its, n, hk, hc, _⟩
  · exact .base (.tup h)
  · exact .fTuple h
  · exact .kTuple hk hc
theorem ty_lst {K : PySem.W.Frag} {H : Hp} {a : Addr} {xs : List V} (h : SqL K H a xs) : TyX K H (.ref a) (.type "list") := by
  rcases h with (h | ⟨o, h⟩) | ⟨o, its, n, hk, hc, _⟩
  · exact .base (.lst h)
  · exact .base (.frz h)
  · exact .kList hk hc
end K04

namespace K04
open PySem PySem.Spec PyProof.Rows L2
/-! ### webs -/
structure Bed where
  s : Nat
  e : Nat
  lo : Rat
  hi : Rat
structure WebV where
  many : Nat
  beds : List Bed
  parts : List (List Nat)
def starts (W : WebV) : List Nat := W.beds.map Bed.s
structure GoodBed (many : Nat) (b : Bed) : Prop where
  up : b.s < b.e
  le : b.e < many
  lt : b.lo < b.hi
  slo : Sz 1500 b.lo
  shi : Sz 1500 b.hi
/-- parts of a place at which n beds begin -/
structure GoodParts (n : Nat) (ps : List Nat) : Prop where
  len : ps.length = n
  le : ∀ p ∈ ps, p ≤ 9
  few : ps.length ≤ 12
  some_ : n = 0 ∨ ∃ p ∈ ps, p ≠ 0
structure GoodWeb (W : WebV) : Prop where
  m1 : 1 ≤ W.many
  m8 : W.many ≤ 8
  few : W.beds.length ≤ 12
  bed : ∀ b ∈ W.beds, GoodBed W.many b
  sorted : (starts W).Pairwise (· ≤ ·)
  two : ∀ s, (starts W).count s ≤ 2
  plen : W.parts.length = W.many
  part : ∀ (i : Nat) (ps : List Nat), W.parts[i]? = some ps → GoodParts ((starts W).count i) ps
def BedAt (K : PySem.W.Frag) (C : Addr) (H : Hp) (t : Addr) (b : Bed) : Prop := ∃ x y, SqT K H t [.int (b.s : Int), .int (b.e : Int), .ref x, .ref y] ∧ ShQ C H x b.lo ∧ ShQ C H y b.hi
theorem BedAt.mono {K : PySem.W.Frag} {C : Addr} {H H' : Hp} {t : Addr} {b : Bed} (h : BedAt K C H t b) (s : Same H H') : BedAt K C H' t b := by
  obtain ⟨x, y, a, u, v⟩ := h
  exact ⟨x, y, Same.tup s a, u.mono s, v.mono s⟩
def natV (n : Nat) : V := .int (n : Int)
def PartsAt (K : PySem.W.Frag) (H : Hp) (t : Addr) (ps : List Nat) : Prop := SqT K H t (ps.map natV)
/-- the builtins that a web's program asks -/
structure TxtW (mg : Str → Option Value) (C : Addr) : Prop where
  isi : mg "isinstance" = none
  tuple : mg "tuple" = none
  list : mg "list" = none
  len : mg "len" = none
  all : mg "all" = none
  any : mg "any" = none
  sorted : mg "sorted" = none
  enumerate : mg "enumerate" = none
  sh : mg "Share" = some (.ref C)
def spBetweenI : Sp := fun vs H Q _ => ∃ i a b : Int, vs = [.int i, .int a, .int b] ∧ Q (.bl (decide (a ≤ i) && decide (i ≤ b))) H
def spBedG (K : PySem.W.Frag) (C : Addr) : Sp := fun vs H Q _ => ∃ (t : Addr) (many : Nat) (b : Bed), vs = [.ref t, .int (many : Int)] ∧ BedAt K C H t b ∧ GoodBed many b ∧ Q (.bl true) H
section
variable {P : Program} {w : World} {K : PySem.W.Frag} {mg : Str → Option Value} {base : Heap}
theorem scBetweenI : FnScope ["thing", "least", "most"] ["thing", "least", "most"] (defScope d_is_between) := ⟨rfl, rfl, rfl, by decide +kernel, rfl, by decide +kernel, by decide +kernel⟩
theorem ok_betweenI {f f1 : Addr} {fd fd1 : FuncData} (F : Fun K "is_between" "is_between" d_is_between f fd) (A1 : At P w K mg base CX0 1 "is_whole" ["thing"] spWhole f1 fd1) :
    FnOk P w K mg base CX0 2 f fd ["thing", "least", "most"] spBetweenI := by
  refine F.ok scBetweenI (fun vs H Q E h => ?_) (fun cdv A outer s H vs Q E hr h => ?_)
  · obtain ⟨_, _, _, rfl, _⟩ := h
    rfl
  · obtain ⟨i, a, b, rfl, q⟩ := h
    refine ⟨_, pss_one (ps_ret (pe_and (pe_call A1.G hr rfl A1.m A1.k A1.b .nil pass0 (pa_cons (pv 0) pa_nil)) (pe_one (pe_chain op_le op_le (pv 1) (pv 0) (pv 2))))), ?_⟩
    refine ⟨_, rfl, i, rfl, true, rfl, iteT ⟨_, rfl, _, rfl, _, _, rfl, rfl, _, rfl, ?_⟩⟩
    refine ite2 (fun h => ?_) (fun h => ?_)
    · refine ⟨_, rfl, _, _, rfl, rfl, ?_⟩
      rw [h] at q
      exact q
    · rw [show decide (a ≤ i) = false from by simpa using h] at q
      exact q
theorem scBedG : FnScope ["thing", "many", "start", "finish", "low", "high"] ["thing", "many"] (defScope d_is_a_bed) := ⟨rfl, rfl, rfl, by decide +kernel, rfl, by decide +kernel, by decide +kernel⟩
theorem ok_bedG {f f1 f2 C CN : Addr} {fd fd1 fd2 : FuncData} (F : Fun K "is_a_bed" "is_a_bed" d_is_a_bed f fd) (T : Txt K mg C CN) (Y : TxtW mg C) (IsSh : ∀ H p q, ShQ C H p q → TyX K H (.ref p) (.ref C)) (me : PySem.W.kitOne K (.ref C) (.ref C) = some true)
    (A1 : At P w K mg base CX0 2 "is_between" ["thing", "least", "most"] spBetweenI f1 fd1) (A2 : At P w K mg base CX0 1 "less" ["one", "other"] (spLessQ C) f2 fd2) :
    FnOk P w K mg base CX0 3 f fd ["thing", "many"] (spBedG K C) := by
  refine F.ok scBedG (fun vs H Q E h => ?_) (fun cdv A outer s H vs Q E hr h => ?_)
  · obtain ⟨_, _, _, rfl, _⟩ := h
    rfl
  · obtain ⟨t, many, b, rfl, ⟨x, y, ht, hx, hy⟩, g, q⟩ := h
    have r1 : Room 1 _ := hr.mono (by decide)
    refine ⟨_, pss_cons (ps_if (PW.pt (pw_or (pt_not (pt_val (pe_callB call_isi (by rfl) Y.isi (by decide +kernel) (pa_cons (pv 0) (pa_cons (pe_bltn (v := .ty "tuple") (by rfl) Y.tuple (by decide +kernel) rfl) pa_nil)))))
          (pw_or1 (pt_cmpR op_ne (pe_callB call_len_seq (by rfl) Y.len PySem.boot_len (pa_cons (pv 0) pa_nil)) pe_int (nomark _))))) (pss_one (ps_ret pe_bl)) pss_nil)
      (pss_cons (ps_asg (pv 0) (pg_tup (by rfl) (pgs_cons (pg_name (i := 2) scBedG.nd rfl (.inl rfl)) (pgs_cons (pg_name (i := 3) scBedG.nd rfl (.inl rfl)) (pgs_cons (pg_name (i := 4) scBedG.nd rfl (.inl rfl)) (pgs_cons (pg_name (i := 5) scBedG.nd rfl (.inl rfl)) pgs_nil))))))
      (pss_cons (ps_if (PW.pt (pw_or (pt_not (pt_val (pe_call A1.G hr rfl A1.m A1.k A1.b .nil pass0 (pa_cons (pv 2) (pa_cons pe_int (pa_cons (pe_op op_sub (pv 1) pe_int) pa_nil))))))
          (pw_or1 (pt_not (pt_val (pe_call A1.G hr rfl A1.m A1.k A1.b .nil pass0 (pa_cons (pv 3) (pa_cons (pe_op op_add (pv 2) pe_int) (pa_cons (pe_op op_sub (pv 1) pe_int) pa_nil))))))))) (pss_one (ps_ret pe_bl)) pss_nil)
      (pss_one (ps_ret (pe_and (pe_callB call_isi (by rfl) Y.isi (by decide +kernel) (pa_cons (pv 4) (pa_cons (pe_glob (v := .ref C) rfl Y.sh rfl) pa_nil))) (pe_and (pe_callB call_isi (by rfl) Y.isi (by decide +kernel) (pa_cons (pv 5) (pa_cons (pe_glob (v := .ref C) rfl Y.sh rfl) pa_nil)))
        (pe_one (pe_call A2.G r1 rfl A2.m A2.k A2.b .nil pass0 (pa_cons (pv 4) (pa_cons (pv 5) pa_nil)))))))))), ?_⟩
    have g1 := g.up
    have g2 := g.le
    refine ⟨_, rfl, _, _, _, _, true, rfl, ClsV.ty _, ty_tup ht, kit_ty (by decide +kernel), true, rfl, iteF ?_⟩
    refine ⟨_, rfl, t, _, rfl, .inr ht, rfl, _, rfl, iteF ?_⟩
    refine ⟨_, rfl, t, _, rfl, ht, rfl, _, _, rfl, _, _, rfl, _, _, rfl, _, _, rfl, rfl, ?_⟩
    refine ⟨_, rfl, _, rfl, _, _, rfl, rfl, _, _, _, rfl, _, rfl, ?_⟩
    rw [decide_eq_true (show (0 : Int) ≤ (b.s : Int) by omega), decide_eq_true (show (b.s : Int) ≤ (many : Int) - 1 by omega)]
    refine iteF ?_
    refine ⟨_, rfl, _, rfl, _, _, rfl, rfl, _, rfl, _, _, rfl, rfl, _, _, _, rfl, _, rfl, ?_⟩
    rw [decide_eq_true (show (b.s : Int) + 1 ≤ (b.e : Int) by omega), decide_eq_true (show (b.e : Int) ≤ (many : Int) - 1 by omega)]
    refine iteF ?_
    refine ⟨_, rfl, _, _, _, _, true, rfl, ClsV.own C, IsSh _ _ _ hx, me, true, rfl, iteT ?_⟩
    refine ⟨_, rfl, _, _, _, _, true, rfl, ClsV.own C, IsSh _ _ _ hy, me, true, rfl, iteT ?_⟩
    refine ⟨_, rfl, _, rfl, x, y, _, _, rfl, hx, hy, g.slo, g.shi, ?_⟩
    rw [decide_eq_true g.lt]
    exact q
end
end K04

namespace K04
open PySem PySem.Spec PyProof.Rows L2
def WBeds (K : PySem.W.Frag) (C : Addr) (H : Hp) (l : Addr) (bs : List Bed) : Prop := ∃ ts : List Addr, SqL K H l (ts.map V.ref) ∧ All2 (BedAt K C H) ts bs
theorem WBeds.mono {K : PySem.W.Frag} {C : Addr} {H H' : Hp} {l : Addr} {bs : List Bed} (h : WBeds K C H l bs) (s : Same H H') : WBeds K C H' l bs := by
  obtain ⟨ts, a, b⟩ := h
  exact ⟨ts, s.seq a, b.mono fun _ _ _ _ r => r.mono s⟩
def WParts (K : PySem.W.Frag) (H : Hp) (l : Addr) (pss : List (List Nat)) : Prop := ∃ ts : List Addr, SqL K H l (ts.map V.ref) ∧ All2 (PartsAt K H) ts pss
theorem WParts.mono {K : PySem.W.Frag} {H H' : Hp} {l : Addr} {pss : List (List Nat)} (h : WParts K H l pss) (s : Same H H') : WParts K H' l pss := by
  obtain ⟨ts, a, b⟩ := h
  exact ⟨ts, s.seq a, b.mono fun _ _ _ _ r => Same.tup s r⟩
structure GoodBeds (many : Nat) (bs : List Bed) : Prop where
  few : bs.length ≤ 12
  bed : ∀ b ∈ bs, GoodBed many b
  sorted : (bs.map Bed.s).Pairwise (· ≤ ·)
  two : ∀ s, (bs.map Bed.s).count s ≤ 2
def intsOf (bs : List Bed) : List Int := bs.map fun b => (b.s : Int)
theorem intsOf_map (bs : List Bed) : intsOf bs = (bs.map Bed.s).map fun n : Nat => (n : Int) := by
  unfold intsOf
  rw [List.map_map]
  rfl
theorem count_cast (ns : List Nat) (k : Nat) : (ns.map fun n : Nat => (n : Int)).count (k : Int) = ns.count k := by
  induction ns with
  | nil => rfl
  | cons a r ih =>
    rw [List.map_cons, List.count_cons, List.count_cons, ih]
    have e : ((a : Int) == (k : Int)) = (a == k) := by
      by_cases h : a = k
      · subst h
        simp
      · rw [beq_eq_false_iff_ne.mpr h, beq_eq_false_iff_ne.mpr (by omega)]
    rw [e]
theorem sorted_cast {ns : List Nat} (h : ns.Pairwise (· ≤ ·)) : (ns.map fun n : Nat => (n : Int)).Pairwise (· ≤ ·) := by
  rw [List.pairwise_map]
  exact h.imp fun h => by omega
theorem dps_ints {K : PySem.W.Frag} {H : Hp} : ∀ ns : List Int, DpAll K H (ns.map V.int) (ns.map PyData.int)
  | [] => .nil
  | n :: r => .cons (.int n) (dps_ints r)
theorem eqv_ints (ns : List Int) : PyData.eqv (.list (ns.map PyData.int)) (.list (ns.map PyData.int)) = true := by
  refine SeqAt.eqv_refl _ ?_
  have h := PySem.W.shaped_ints ns
  unfold SeqAt.shaped at h
  rw [Bool.and_eq_true] at h
  exact h.1
theorem all_true (n : Nat) : (List.replicate n true).all id = true := by simp
def spBedsG (K : PySem.W.Frag) (C : Addr) : Sp := fun vs H Q _ => ∃ (l : Addr) (many : Nat) (bs : List Bed), vs = [.ref l, .int (many : Int)] ∧ WBeds K C H l bs ∧ GoodBeds many bs ∧ ∀ H', Same H H' → Q (.bl true) H'
def spPart1G (K : PySem.W.Frag) : Sp := fun vs H Q _ => ∃ (t : Addr) (n : Nat) (ps : List Nat), vs = [.ref t, .int (n : Int)] ∧ PartsAt K H t ps ∧ GoodParts n ps ∧ ∀ H', Same H H' → Q (.bl true) H'
theorem isShT {K : PySem.W.Frag} {mg : Str → Option Value} {C CN : Addr} (T : Txt K mg C CN) (ha : PySem.W.findIn K (.ref C) "__class__" = some (some (.builtin "object.__class__"))) (hn : PySem.W.specialIn K (.builtin "object.__class__") "__get__" = some (some (.builtin "getset_descriptor.__get__")))
    (htk : PySem.W.takesIn K (.builtin "object.__class__") = some true) (hm : PySem.W.mroIn K C (.type "object") = some true) : ∀ H p q, ShQ C H p q → TyX K H (.ref p) (.ref C) := fun H p q ⟨dx, e⟩ => .base (.ins e T.cl ha hn htk hm)
section
variable {P : Program} {w : World} {K : PySem.W.Frag} {mg : Str → Option Value} {base : Heap}
abbrev bedsN : List Str := ["things", "many", "thing", "starts", "bed", "start"]
theorem scBedsG : FnScope bedsN ["things", "many"] (defScope d_are_beds) := ⟨rfl, rfl, rfl, by decide +kernel, rfl, by decide +kernel, by decide +kernel⟩
theorem ok_bedsG {f f1 C : Addr} {fd fd1 : FuncData} {tk1 tk2 : Tok} (F : Fun K "are_beds" "are_beds" d_are_beds f fd) (Y : TxtW mg C) (g1 : mg "MOST_BEDS" = some (.int 12 tk1)) (g2 : mg "MOST_BEDS_OF_A_PLACE" = some (.int 2 tk2))
    (A1 : At P w K mg base CX0 3 "is_a_bed" ["thing", "many"] (spBedG K C) f1 fd1) : FnOk P w K mg base CX0 4 f fd ["things", "many"] (spBedsG K C) := by
  refine F.ok scBedsG (fun vs H Q E h => ?_) (fun cdv A outer s H vs Q E hr h => ?_)
  · obtain ⟨_, _, _, rfl, _⟩ := h
    rfl
  · obtain ⟨l, many, bs, rfl, ⟨ts, hl, hts⟩, g, q⟩ := h
    refine ⟨_, pss_cons (ps_if (PW.pt (pw_or (pt_not (pt_val (pe_callB call_isi (by rfl) Y.isi (by decide +kernel) (pa_cons (pv 0) (pa_cons (pe_bltn (v := .ty "list") (by rfl) Y.list (by decide +kernel) rfl) pa_nil)))))
          (pw_or1 (pt_cmpR op_gt (pe_callB call_len_seq (by rfl) Y.len PySem.boot_len (pa_cons (pv 0) pa_nil)) (pe_glob (v := .int 12) rfl g1 ⟨tk1, rfl⟩) (nomark _))))) (pss_one (ps_ret pe_bl)) pss_nil)
      (pss_cons (ps_if (pt_not (pt_val (pe_callB (cr_all rfl) (by rfl) Y.all (by decide +kernel) (pa_cons
        (pe_lc (own := [("thing", 2)]) (g := gName 2) (by rfl) scBedsG.nd (pi_list (pv 0)) (blkOk_by (own := [("thing", 2)]) (N := bedsN) (sc := defScope d_are_beds) (by decide +kernel)) (fun _ _ _ _ _ => pg_name (i := 2) scBedsG.nd rfl (.inl rfl)) (fun _ _ _ _ _ => pts_nil)
          (fun _ _ _ _ _ => pe_call A1.G hr rfl A1.m A1.k A1.b .nil pass0 (pa_cons (pv 2) (pa_cons (pv 1) pa_nil)))) pa_nil)))) (pss_one (ps_ret pe_bl)) pss_nil)
      (pss_cons (ps_set (i := 3) scBedsG.nd rfl (Or.inr rfl) (pe_lc (own := [("bed", 4)]) (g := gName 4) (by rfl) scBedsG.nd (pi_list (pv 0)) (blkOk_by (own := [("bed", 4)]) (N := bedsN) (sc := defScope d_are_beds) (by decide +kernel)) (fun _ _ _ _ _ => pg_name (i := 4) scBedsG.nd rfl (.inl rfl)) (fun _ _ _ _ _ => pts_nil)
          (fun _ _ _ _ _ => pe_ix (show IxR _ (rIxT K) from ix_tup) (pv 4) pe_int (fun _ _ => rfl))))
      (pss_one (ps_ret (pe_and (pe_cmpR (op_eqD hr.units) (pv 3) (pe_callB cr_sorted (by rfl) Y.sorted (by decide +kernel) (pa_cons (pv 3) pa_nil)) (nomark _))
        (pe_one (pe_callB (cr_all rfl) (by rfl) Y.all (by decide +kernel) (pa_cons
          (pe_lc (own := [("start", 5)]) (g := gName 5) (by rfl) scBedsG.nd (pi_list (pv 3)) (blkOk_by (own := [("start", 5)]) (N := bedsN) (sc := defScope d_are_beds) (by decide +kernel)) (fun _ _ _ _ _ => pg_name (i := 5) scBedsG.nd rfl (.inl rfl)) (fun _ _ _ _ _ => pts_nil)
            (fun _ _ _ _ _ => pe_cmpR op_le (show PE _ _ (tBM K "list" (rCntI K) (tVar 3) (tCons (tVar 5) tNil)) from pe_bm PySem.F.plainAttrs_list PySem.F.slot_list_count PySem.F.type_list_count mt_lcount (pv 3) (pa_cons (pv 5) pa_nil)) (pe_glob (v := .int 2) rfl g2 ⟨tk2, rfl⟩) (nomark _))) pa_nil)))))))), ?_⟩
    have few := g.few
    have lt : ts.length = bs.length := hts.len
    have lp : (ts.map V.ref).length = bs.length := by rw [List.length_map, lt]
    refine ⟨_, rfl, _, _, _, _, true, rfl, ClsV.ty _, ty_lst hl, kit_ty (by decide +kernel), true, rfl, iteF ?_⟩
    refine ⟨_, rfl, l, _, rfl, .inl hl, _, _, rfl, rfl, _, rfl, ?_⟩
    rw [lp, decide_eq_false (show ¬ (12 : Int) < (bs.length : Int) by omega)]
    refine iteF ?_
    refine ⟨_, rfl, l, rfl, ⟨_, hl⟩, fun D hD => ?_⟩
    refine lc_list (K := K) (a := l) (xs := ts.map V.ref) (fun i M => M D = some (.lst ((List.replicate i true).map V.bl)) ∧ Same H M) ⟨upd_same, same1 hD⟩ ?_ ?_ ?_
    · rintro i M _ ⟨_, sm⟩
      exact sm.seq hl
    · rintro i x M hx ⟨eD, sm⟩
      rw [List.getElem?_map] at hx
      obtain ⟨t, ht, rfl⟩ := Option.map_eq_some_iff.mp hx
      have il : i < bs.length := by
        have := (List.getElem?_eq_some_iff.mp ht).1
        omega
      have hb : bs[i]? = some bs[i] := List.getElem?_eq_getElem il
      refine ⟨rfl, ?_⟩
      refine ⟨_, rfl, _, rfl, t, many, bs[i], rfl, (hts.all i t _ ht hb).mono sm, g.bed _ (List.getElem_mem il), ?_⟩
      refine ⟨_, eD, (by rw [List.length_map, List.length_replicate]; exact Nat.lt_of_lt_of_le il (Nat.le_trans few (show 12 ≤ sizeLine by decide))), ?_, fun b o e => ?_⟩
      · rw [List.replicate_succ', List.map_append]
        exact upd_same
      · rw [upd_ne (ne_of_none e hD)]
        exact sm _ _ e
    · rintro M ⟨eD, sm⟩
      refine ⟨D, _, rfl, SqL.of eD, ?_⟩
      rw [all_true]
      refine ⟨true, rfl, iteF ?_⟩
      have hlM := sm.seq hl
      refine ⟨_, rfl, l, rfl, ⟨_, hlM⟩, fun S hS => ?_⟩
      refine lc_list (K := K) (a := l) (xs := ts.map V.ref) (fun i N => N S = some (.lst ((intsOf (bs.take i)).map V.int)) ∧ Same M N) ⟨upd_same, same1 hS⟩ ?_ ?_ ?_
      · rintro i N _ ⟨_, sN⟩
        exact sN.seq hlM
      · rintro i x N hx ⟨eS, sN⟩
        rw [List.getElem?_map] at hx
        obtain ⟨t, ht, rfl⟩ := Option.map_eq_some_iff.mp hx
        have il : i < bs.length := by
          have := (List.getElem?_eq_some_iff.mp ht).1
          omega
        have hb : bs[i]? = some bs[i] := List.getElem?_eq_getElem il
        obtain ⟨_, _, q1, _, _⟩ := (hts.all i t _ ht hb).mono (sm.trans sN)
        refine ⟨rfl, ?_⟩
        refine ⟨_, rfl, t, _, _, _, rfl, rfl, q1, at_k (by decide) rfl, ?_⟩
        refine ⟨_, eS, ?_, ?_, fun b o e => ?_⟩
        · unfold intsOf
          rw [List.length_map, List.length_map, List.length_take]
          exact Nat.lt_of_le_of_lt (Nat.min_le_left _ _) (Nat.lt_of_lt_of_le il (Nat.le_trans few (show 12 ≤ sizeLine by decide)))
        · unfold intsOf
          rw [List.take_succ_eq_append_getElem il, List.map_append, List.map_append]
          exact upd_same
        · rw [upd_ne (ne_of_none e hS)]
          exact sN _ _ e
      · rintro N ⟨eS, sN⟩
        rw [lp, List.take_length] at eS
        have li : (intsOf bs).length ≤ 12 := by
          unfold intsOf
          rw [List.length_map]
          exact few
        have so : (intsOf bs).Pairwise (· ≤ ·) := by
          rw [intsOf_map]
          exact sorted_cast g.sorted
        refine ⟨_, rfl, _, rfl, S, _, rfl, SqL.of eS, by omega, fun ns' p pm ri hp => ?_⟩
        have en : ns' = intsOf bs := PySem.W.ksm_same pm ri so
        subst en
        have s3 : Same N (upd N p (.lst ((intsOf bs).map V.int))) := same1 hp
        refine ⟨_, _, .lst (SqL.of (s3 _ _ eS)) (dps_ints _), .lst (SqL.of upd_same) (dps_ints _), PySem.W.shaped_ints _, PySem.W.shaped_ints _, ?_⟩
        rw [eqv_ints]
        refine ⟨true, rfl, iteT ?_⟩
        generalize upd N p (.lst ((intsOf bs).map V.int)) = N3 at *
        have eS3 := s3 _ _ eS
        refine ⟨_, rfl, S, rfl, ⟨_, SqL.of eS3⟩, fun E2 hE2 => ?_⟩
        refine lc_list (K := K) (a := S) (xs := (intsOf bs).map V.int) (fun i M' => M' E2 = some (.lst ((List.replicate i true).map V.bl)) ∧ Same N3 M') ⟨upd_same, same1 hE2⟩ ?_ ?_ ?_
        · rintro i M' _ ⟨_, s4⟩
          exact SqL.of (s4 _ _ eS3)
        · rintro i x M' hx ⟨eE, s4⟩
          rw [List.getElem?_map] at hx
          obtain ⟨k, hk, rfl⟩ := Option.map_eq_some_iff.mp hx
          have ki : i < (intsOf bs).length := (List.getElem?_eq_some_iff.mp hk).1
          have c2 : (intsOf bs).count k ≤ 2 := by
            rw [intsOf_map] at hk ⊢
            rw [List.getElem?_map] at hk
            obtain ⟨n, _, rfl⟩ := Option.map_eq_some_iff.mp hk
            rw [count_cast]
            exact g.two n
          refine ⟨rfl, ?_⟩
          refine ⟨_, rfl, .inl ⟨rfl, _, SqL.of (s4 _ _ eS3)⟩, _, rfl, S, _, k, rfl, rfl, SqL.of (s4 _ _ eS3), _, _, rfl, rfl, ?_⟩
          have de : decide (((List.count k (intsOf bs) : Nat) : Int) ≤ 2) = true := decide_eq_true (by omega)
          refine ⟨_, eE, (by rw [List.length_map, List.length_replicate]; exact Nat.lt_of_lt_of_le ki (Nat.le_trans li (show 12 ≤ sizeLine by decide))), ?_, fun b o e => ?_⟩
          · refine Eq.trans upd_same ?_
            show some (HO.lst (_ ++ [V.bl (decide (((List.count k (intsOf bs) : Nat) : Int) ≤ 2))])) = _
            rw [de, List.replicate_succ', List.map_append]
            rfl
          · rw [upd_ne (ne_of_none e hE2)]
            exact s4 _ _ e
        · rintro M' ⟨eE, s4⟩
          refine ⟨E2, _, rfl, SqL.of eE, ?_⟩
          rw [all_true]
          exact q _ (sm.trans (sN.trans (s3.trans s4)))
end
end K04

namespace K04
open PySem PySem.Spec PyProof.Rows L2
structure CrsW (K : PySem.W.Frag) (CW : Addr) : Prop where
  cl : L2.Cls K CW
  nm : NoAttr K CW "many"
  nb : NoAttr K CW "beds"
  np : NoAttr K CW "parts"
def webF (m : Int) (b p : Addr) : List (Str × V) := putF "parts" (.ref p) (putF "beds" (.ref b) (putF "many" (.int m) []))
theorem webF_many (m : Int) (b p : Addr) : (webF m b p).lookup ("many" : Str) = some (.int m) := by
  unfold webF
  rw [lookup_putF, if_neg (by decide +kernel), lookup_putF, if_neg (by decide +kernel), lookup_putF, if_pos rfl]
theorem webF_beds (m : Int) (b p : Addr) : (webF m b p).lookup ("beds" : Str) = some (.ref b) := by
  unfold webF
  rw [lookup_putF, if_neg (by decide +kernel), lookup_putF, if_pos rfl]
theorem webF_parts (m : Int) (b p : Addr) : (webF m b p).lookup ("parts" : Str) = some (.ref p) := by
  unfold webF
  rw [lookup_putF, if_pos rfl]
/-- lists of a web's own -/
def WBedsT (K : PySem.W.Frag) (C : Addr) (H : Hp) (l : Addr) (bs : List Bed) : Prop := ∃ ts : List Addr, H l = some (.lst (ts.map V.ref)) ∧ All2 (BedAt K C H) ts bs
theorem WBedsT.mono {K : PySem.W.Frag} {C : Addr} {H H' : Hp} {l : Addr} {bs : List Bed} (h : WBedsT K C H l bs) (s : Same H H') : WBedsT K C H' l bs := by
  obtain ⟨ts, a, b⟩ := h
  exact ⟨ts, s _ _ a, b.mono fun _ _ _ _ r => r.mono s⟩
theorem WBedsT.old {K : PySem.W.Frag} {C : Addr} {H : Hp} {l : Addr} {bs : List Bed} (h : WBedsT K C H l bs) : WBeds K C H l bs := by
  obtain ⟨ts, a, b⟩ := h
  exact ⟨ts, SqL.of a, b⟩
def WPartsT (K : PySem.W.Frag) (H : Hp) (l : Addr) (pss : List (List Nat)) : Prop := ∃ ts : List Addr, H l = some (.lst (ts.map V.ref)) ∧ All2 (PartsAt K H) ts pss
theorem WPartsT.mono {K : PySem.W.Frag} {H H' : Hp} {l : Addr} {pss : List (List Nat)} (h : WPartsT K H l pss) (s : Same H H') : WPartsT K H' l pss := by
  obtain ⟨ts, a, b⟩ := h
  exact ⟨ts, s _ _ a, b.mono fun _ _ _ _ r => Same.tup s r⟩
theorem WPartsT.old {K : PySem.W.Frag} {H : Hp} {l : Addr} {pss : List (List Nat)} (h : WPartsT K H l pss) : WParts K H l pss := by
  obtain ⟨ts, a, b⟩ := h
  exact ⟨ts, SqL.of a, b⟩
/-- a web at w -/
def WebAt (K : PySem.W.Frag) (C CW : Addr) (H : Hp) (w : Addr) (W : WebV) : Prop := ∃ dx b p, H w = some (.ins CW dx (webF (W.many : Int) b p)) ∧ WBedsT K C H b W.beds ∧ WPartsT K H p W.parts ∧ GoodWeb W
theorem WebAt.mono {K : PySem.W.Frag} {C CW : Addr} {H H' : Hp} {w : Addr} {W : WebV} (h : WebAt K C CW H w W) (s : Same H H') : WebAt K C CW H' w W := by
  obtain ⟨dx, b, p, e, u, v, g⟩ := h
  exact ⟨dx, b, p, s _ _ e, u.mono s, v.mono s, g⟩
theorem WebAt.old {K : PySem.W.Frag} {C CW : Addr} {H : Hp} {w : Addr} {W : WebV} (h : WebAt K C CW H w W) : ∃ dx b p, H w = some (.ins CW dx (webF (W.many : Int) b p)) ∧ WBeds K C H b W.beds ∧ WParts K H p W.parts ∧ GoodWeb W := by
  obtain ⟨dx, b, p, e, u, v, g⟩ := h
  exact ⟨dx, b, p, e, u.old, v.old, g⟩
/-- what is no object still being made stays -/
def Keep2 (H H' : Hp) : Prop := ∀ b o, H b = some o → (∀ C d, o ≠ .ins C d []) → H' b = some o
theorem Keep2.tup {K : PySem.W.Frag} {H H' : Hp} {a : Addr} {xs : List V} (k : Keep2 H H') (h : SqT K H a xs) : SqT K H' a xs :=
  h.elim (fun h => .inl (h.elim (fun h => .inl (k _ _ h (fun _ _ z => nomatch z))) fun ⟨o, h⟩ => .inr ⟨o, k _ _ h (fun _ _ z => nomatch z)⟩)) fun h => .inr h
theorem Keep2.seq {K : PySem.W.Frag} {H H' : Hp} {a : Addr} {xs : List V} (k : Keep2 H H') (h : SqL K H a xs) : SqL K H' a xs :=
  h.elim (fun h => .inl (h.elim (fun h => .inl (k _ _ h (fun _ _ z => nomatch z))) fun ⟨o, h⟩ => .inr ⟨o, k _ _ h (fun _ _ z => nomatch z)⟩)) fun h => .inr h
theorem Keep2.sh {C : Addr} {H H' : Hp} {p : Addr} {q : Rat} (k : Keep2 H H') (h : ShQ C H p q) : ShQ C H' p q := by
  obtain ⟨dx, e⟩ := h
  refine ⟨dx, k _ _ e (fun C' d z => ?_)⟩
  injection z with _ _ z
  have t := shf_top q.num (q.den : Int)
  rw [z] at t
  cases t
theorem Keep2.bed {K : PySem.W.Frag} {C : Addr} {H H' : Hp} {t : Addr} {b : Bed} (k : Keep2 H H') (h : BedAt K C H t b) : BedAt K C H' t b := by
  obtain ⟨x, y, a, u, v⟩ := h
  exact ⟨x, y, k.tup a, k.sh u, k.sh v⟩
theorem keep2_ins {H : Hp} {p CC dx : Addr} {o : HO} (h : H p = some (.ins CC dx [])) : Keep2 H (upd H p o) := fun b u e n => by
  rw [upd_ne (fun z => by rw [z, h] at e; exact n _ _ (Option.some.inj e).symm)]
  exact e
/-- but x, an object of the class at CW, all stays -/
structure Wo (CW x : Addr) (H H' : Hp) : Prop where
  at_ : ∃ dx fs, H x = some (.ins CW dx fs)
  keep : ∀ a o, a ≠ x → H a = some o → H' a = some o
theorem Wo.of {CW x : Addr} {H H' : Hp} (k : Wo CW x H H') {a : Addr} {o : HO} (e : H a = some o) (n : ∀ dx fs, o ≠ .ins CW dx fs) : H' a = some o := by
  obtain ⟨dx, fs, ex⟩ := k.at_
  exact k.keep a o (fun z => by rw [z, ex] at e; exact n _ _ (Option.some.inj e).symm) e
theorem Wo.tup {K : PySem.W.Frag} {CW x : Addr} {H H' : Hp} {a : Addr} {xs : List V} (k : Wo CW x H H') (h : SqT K H a xs) : SqT K H' a xs :=
  h.elim (fun h => .inl (h.elim (fun h => .inl (k.of h (fun _ _ z => nomatch z))) fun ⟨o, h⟩ => .inr ⟨o, k.of h (fun _ _ z => nomatch z)⟩)) fun h => .inr h
theorem Wo.seq {K : PySem.W.Frag} {CW x : Addr} {H H' : Hp} {a : Addr} {xs : List V} (k : Wo CW x H H') (h : SqL K H a xs) : SqL K H' a xs :=
  h.elim (fun h => .inl (h.elim (fun h => .inl (k.of h (fun _ _ z => nomatch z))) fun ⟨o, h⟩ => .inr ⟨o, k.of h (fun _ _ z => nomatch z)⟩)) fun h => .inr h
theorem Wo.sh {C CW x : Addr} {H H' : Hp} {p : Addr} {q : Rat} (k : Wo CW x H H') (ne : C ≠ CW) (h : ShQ C H p q) : ShQ C H' p q := by
  obtain ⟨dx, e⟩ := h
  refine ⟨dx, k.of e (fun d fs z => ?_)⟩
  injection z with z
  exact ne z
theorem Wo.bed {K : PySem.W.Frag} {C CW x : Addr} {H H' : Hp} {t : Addr} {b : Bed} (k : Wo CW x H H') (ne : C ≠ CW) (h : BedAt K C H t b) : BedAt K C H' t b := by
  obtain ⟨y, z, a, u, v⟩ := h
  exact ⟨y, z, k.tup a, k.sh ne u, k.sh ne v⟩
def spPartsG (K : PySem.W.Frag) (C : Addr) : Sp := fun vs H Q _ => ∃ (l b : Addr) (W : WebV), vs = [.ref l, .int (W.many : Int), .ref b] ∧ WParts K H l W.parts ∧ WBeds K C H b W.beds ∧ GoodWeb W ∧ ∀ H', Same H H' → Q (.bl true) H'
def spWInit (K : PySem.W.Frag) (C CW : Addr) : Sp := fun vs H Q _ => ∃ (w dx b p : Addr) (W : WebV), vs = [.ref w, .int (W.many : Int), .ref b, .ref p] ∧ H w = some (.ins CW dx []) ∧ WBeds K C H b W.beds ∧ WParts K H p W.parts ∧ GoodWeb W ∧
  ∀ H', WebAt K C CW H' w W → (∀ a o, a ≠ w → H a = some o → H' a = some o) → Q .non H'
/-- as spWInit; nothing that it holds is a list that was there -/
def KeepW (H H' : Hp) : Prop := ∀ b o, H b = some o → (∀ xs, o ≠ .lst xs) → H' b = some o
theorem KeepW.tup {K : PySem.W.Frag} {H H' : Hp} {a : Addr} {xs : List V} (k : KeepW H H') (h : SqT K H a xs) : SqT K H' a xs :=
  h.elim (fun h => .inl (h.elim (fun h => .inl (k _ _ h (fun _ z => nomatch z))) fun ⟨o, h⟩ => .inr ⟨o, k _ _ h (fun _ z => nomatch z)⟩)) fun h => .inr h
theorem KeepW.bed {K : PySem.W.Frag} {C : Addr} {H H' : Hp} {t : Addr} {b : Bed} (k : KeepW H H') (h : BedAt K C H t b) : BedAt K C H' t b := by
  obtain ⟨x, y, a, ⟨d1, u⟩, ⟨d2, v⟩⟩ := h
  exact ⟨x, y, k.tup a, ⟨d1, k _ _ u (fun _ z => nomatch z)⟩, ⟨d2, k _ _ v (fun _ z => nomatch z)⟩⟩
theorem keepw_put {H : Hp} {D : Addr} {xs : List V} {o : HO} (e : H D = some (.lst xs)) : KeepW H (upd H D o) := fun b u eb n => by
  rw [upd_ne (fun z => by rw [z, e] at eb; exact n _ (Option.some.inj eb).symm)]
  exact eb
def FreeOf (K : PySem.W.Frag) (C CW : Addr) (H H' : Hp) (w : Addr) (W : WebV) : Prop := ∀ (D : Addr) (xs : List V), H D = some (.lst xs) → ∀ ys : List V, WebAt K C CW (upd H' D (.lst ys)) w W
def spWInitF (K : PySem.W.Frag) (C CW : Addr) : Sp := fun vs H Q _ => ∃ (w dx b p : Addr) (W : WebV), vs = [.ref w, .int (W.many : Int), .ref b, .ref p] ∧ H w = some (.ins CW dx []) ∧ WBeds K C H b W.beds ∧ WParts K H p W.parts ∧ GoodWeb W ∧
  ∀ H', WebAt K C CW H' w W → FreeOf K C CW H H' w W → (∀ a o, a ≠ w → H a = some o → H' a = some o) → Q .non H'
theorem fn_weaken {P : Program} {w : World} {K : PySem.W.Frag} {mg : Str → Option Value} {base : Heap} {CX : CXT} {k : Nat} {f : Addr} {fd : FuncData} {ps : List Str} {sp sp' : Sp} (h : FnOk P w K mg base CX k f fd ps sp) (i : ∀ vs H Q E, sp' vs H Q E → sp vs H Q E) : FnOk P w K mg base CX k f fd ps sp' :=
  ⟨fun vs H Q E x => h.len vs H Q E (i vs H Q E x), fun A outer s H args us vs Q E room env binds rel wish => h.run A outer s H args us vs Q E room env binds rel (i vs H Q E wish)⟩
section
variable {P : Program} {w : World} {K : PySem.W.Frag} {mg : Str → Option Value} {base : Heap}
theorem scPart1 : FnScope ["thing", "many", "part"] ["thing", "many"] (defScope d_are_parts_of_one) := ⟨rfl, rfl, rfl, by decide +kernel, rfl, by decide +kernel, by decide +kernel⟩
theorem ok_part1 {f f1 C : Addr} {fd fd1 : FuncData} {tk : Tok} (F : Fun K "are_parts_of_one" "are_parts_of_one" d_are_parts_of_one f fd) (Y : TxtW mg C) (g1 : mg "MOST_OF_A_PART" = some (.int 9 tk))
    (A1 : At P w K mg base CX0 2 "is_between" ["thing", "least", "most"] spBetweenI f1 fd1) : FnOk P w K mg base CX0 3 f fd ["thing", "many"] (spPart1G K) := by
  refine F.ok scPart1 (fun vs H Q E h => ?_) (fun cdv A outer s H vs Q E hr h => ?_)
  · obtain ⟨_, _, _, rfl, _⟩ := h
    rfl
  · obtain ⟨t, n, ps, rfl, ht, g, q⟩ := h
    refine ⟨_, pss_cons (ps_if (PW.pt (pw_or (pt_not (pt_val (pe_callB call_isi (by rfl) Y.isi (by decide +kernel) (pa_cons (pv 0) (pa_cons (pe_bltn (v := .ty "tuple") (by rfl) Y.tuple (by decide +kernel) rfl) pa_nil)))))
          (pw_or1 (pt_cmpR op_ne (pe_callB call_len_seq (by rfl) Y.len PySem.boot_len (pa_cons (pv 0) pa_nil)) (pv 1) (nomark _))))) (pss_one (ps_ret pe_bl)) pss_nil)
      (pss_cons (ps_if (pt_not (pt_val (pe_callB (cr_all rfl) (by rfl) Y.all (by decide +kernel) (pa_cons
        (pe_lc (own := [("part", 2)]) (g := gName 2) (by rfl) scPart1.nd (pi_tup (pv 0)) (blkOk_by (own := [("part", 2)]) (N := ["thing", "many", "part"]) (sc := defScope d_are_parts_of_one) (by decide +kernel)) (fun _ _ _ _ _ => pg_name (i := 2) scPart1.nd rfl (.inl rfl)) (fun _ _ _ _ _ => pts_nil)
          (fun _ _ _ _ _ => pe_call A1.G hr rfl A1.m A1.k A1.b .nil pass0 (pa_cons (pv 2) (pa_cons pe_int (pa_cons (pe_glob (v := .int 9) rfl g1 ⟨tk, rfl⟩) pa_nil))))) pa_nil)))) (pss_one (ps_ret pe_bl)) pss_nil)
      (pss_one (ps_ret (pe_or (pe_cmpR op_eq (pv 1) pe_int (nomark _)) (pe_one (pe_callB (cr_any rfl) (by rfl) Y.any (by decide +kernel) (pa_cons
        (pe_lc (own := [("part", 2)]) (g := gName 2) (by rfl) scPart1.nd (pi_tup (pv 0)) (blkOk_by (own := [("part", 2)]) (N := ["thing", "many", "part"]) (sc := defScope d_are_parts_of_one) (by decide +kernel)) (fun _ _ _ _ _ => pg_name (i := 2) scPart1.nd rfl (.inl rfl)) (fun _ _ _ _ _ => pts_nil)
          (fun _ _ _ _ _ => pe_cmpR op_ne (pv 2) pe_int (nomark _))) pa_nil))))))), ?_⟩
    have lp : (ps.map natV).length = n := by rw [List.length_map, g.len]
    have few := g.few
    refine ⟨_, rfl, _, _, _, _, true, rfl, ClsV.ty _, ty_tup ht, kit_ty (by decide +kernel), true, rfl, iteF ?_⟩
    refine ⟨_, rfl, t, _, rfl, .inr ht, _, rfl, rfl, _, rfl, iteNS (by rw [lp]) ?_⟩
    refine ⟨_, rfl, t, rfl, ⟨_, ht⟩, fun D hD => ?_⟩
    refine lc_tup (K := K) (a := t) (xs := ps.map natV) (fun i M => M D = some (.lst ((List.replicate i true).map V.bl)) ∧ Same H M) ⟨upd_same, same1 hD⟩ ?_ ?_ ?_
    · rintro i M _ ⟨_, sm⟩
      exact Same.tup sm ht
    · rintro i x M hx ⟨eD, sm⟩
      rw [List.getElem?_map] at hx
      obtain ⟨k, hk, rfl⟩ := Option.map_eq_some_iff.mp hx
      have ki : i < ps.length := (List.getElem?_eq_some_iff.mp hk).1
      have k9 := g.le k (List.mem_of_getElem? hk)
      refine ⟨rfl, ?_⟩
      have de : (decide ((0 : Int) ≤ (k : Int)) && decide ((k : Int) ≤ 9)) = true := by
        rw [decide_eq_true (show (0 : Int) ≤ (k : Int) by omega), decide_eq_true (show (k : Int) ≤ 9 by omega)]
        rfl
      refine ⟨_, rfl, (k : Int), 0, 9, rfl, _, eD, (by rw [List.length_map, List.length_replicate]; exact Nat.lt_of_lt_of_le ki (Nat.le_trans few (show 12 ≤ sizeLine by decide))), ?_, fun b o e => ?_⟩
      · refine Eq.trans upd_same ?_
        rw [de, List.replicate_succ', List.map_append]
        rfl
      · rw [upd_ne (ne_of_none e hD)]
        exact sm _ _ e
    · rintro M ⟨eD, sm⟩
      refine ⟨D, _, rfl, SqL.of eD, ?_⟩
      rw [all_true]
      refine ⟨true, rfl, iteF ?_⟩
      refine ⟨_, rfl, rfl, _, rfl, ite2 (fun _ => q _ sm) (fun hn => ?_)⟩
      have tM := Same.tup sm ht
      refine ⟨_, rfl, t, rfl, ⟨_, tM⟩, fun D2 hD2 => ?_⟩
      refine lc_tup (K := K) (a := t) (xs := ps.map natV) (fun i N => N D2 = some (.lst (((ps.take i).map fun k => !decide (k = 0)).map V.bl)) ∧ Same M N) ⟨upd_same, same1 hD2⟩ ?_ ?_ ?_
      · rintro i N _ ⟨_, sN⟩
        exact Same.tup sN tM
      · rintro i x N hx ⟨eD2, sN⟩
        rw [List.getElem?_map] at hx
        obtain ⟨k, hk, rfl⟩ := Option.map_eq_some_iff.mp hx
        have ki : i < ps.length := (List.getElem?_eq_some_iff.mp hk).1
        refine ⟨rfl, ?_⟩
        refine ⟨_, rfl, rfl, _, eD2, (by rw [List.length_map, List.length_map, List.length_take]; exact Nat.lt_of_le_of_lt (Nat.min_le_left _ _) (Nat.lt_of_lt_of_le ki (Nat.le_trans few (show 12 ≤ sizeLine by decide)))), ?_, fun b o e => ?_⟩
        · have ek : ps[i] = k := Option.some.inj ((List.getElem?_eq_getElem ki).symm.trans hk)
          have ed : decide (natV k = V.int 0) = decide (k = 0) := decide_eq_decide.mpr ⟨fun z => by
            have z : ((k : Nat) : Int) = 0 := V.int.inj z
            omega, fun z => by rw [z]; rfl⟩
          refine Eq.trans upd_same ?_
          rw [List.take_succ_eq_append_getElem ki, List.map_append, List.map_append, ek, ed]
          rfl
        · rw [upd_ne (ne_of_none e hD2)]
          exact sN _ _ e
      · rintro N ⟨eD2, sN⟩
        rw [List.length_map, List.take_length] at eD2
        refine ⟨D2, _, rfl, SqL.of eD2, ?_⟩
        have ha : ((ps.map fun k => !decide (k = 0)).any id) = true := by
          rcases g.some_ with z | ⟨k, hk, k0⟩
          · exact absurd (decide_eq_true (by rw [z]; rfl)) hn
          · rw [List.any_eq_true]
            exact ⟨true, List.mem_map.mpr ⟨k, hk, by simp [k0]⟩, rfl⟩
        rw [ha]
        exact q _ (sm.trans sN)
abbrev partsN : List Str := ["things", "many", "beds", "starts", "bed", "place", "thing"]
theorem scParts : FnScope partsN ["things", "many", "beds"] (defScope d_are_parts) := ⟨rfl, rfl, rfl, by decide +kernel, rfl, by decide +kernel, by decide +kernel⟩
theorem ok_partsG {f f1 C : Addr} {fd fd1 : FuncData} (F : Fun K "are_parts" "are_parts" d_are_parts f fd) (Y : TxtW mg C)
    (A1 : At P w K mg base CX0 3 "are_parts_of_one" ["thing", "many"] (spPart1G K) f1 fd1) : FnOk P w K mg base CX0 4 f fd ["things", "many", "beds"] (spPartsG K C) := by
  refine F.ok scParts (fun vs H Q E h => ?_) (fun cdv A outer s H vs Q E hr h => ?_)
  · obtain ⟨_, _, _, rfl, _⟩ := h
    rfl
  · obtain ⟨l, b, W, rfl, ⟨ts, hl, hts⟩, ⟨us, hb, hus⟩, g, q⟩ := h
    refine ⟨_, pss_cons (ps_if (PW.pt (pw_or (pt_not (pt_val (pe_callB call_isi (by rfl) Y.isi (by decide +kernel) (pa_cons (pv 0) (pa_cons (pe_bltn (v := .ty "list") (by rfl) Y.list (by decide +kernel) rfl) pa_nil)))))
          (pw_or1 (pt_cmpR op_ne (pe_callB call_len_seq (by rfl) Y.len PySem.boot_len (pa_cons (pv 0) pa_nil)) (pv 1) (nomark _))))) (pss_one (ps_ret pe_bl)) pss_nil)
      (pss_cons (ps_set (i := 3) scParts.nd rfl (Or.inr rfl) (pe_lc (own := [("bed", 4)]) (g := gName 4) (by rfl) scParts.nd (pi_list (pv 2)) (blkOk_by (own := [("bed", 4)]) (N := partsN) (sc := defScope d_are_parts) (by decide +kernel)) (fun _ _ _ _ _ => pg_name (i := 4) scParts.nd rfl (.inl rfl)) (fun _ _ _ _ _ => pts_nil)
          (fun _ _ _ _ _ => pe_ix (show IxR _ (rIxT K) from ix_tup) (pv 4) pe_int (fun _ _ => rfl))))
      (pss_one (ps_ret (pe_callB (cr_all rfl) (by rfl) Y.all (by decide +kernel) (pa_cons
          (pe_lc (own := [("place", 5), ("thing", 6)]) (g := gTup K 2 (gCons (gName 5) (gCons (gName 6) gNil))) (by rfl) scParts.nd (pi_enum (by rfl) Y.enumerate (pa_cons (pv 0) pa_nil)) (blkOk_by (own := [("place", 5), ("thing", 6)]) (N := partsN) (sc := defScope d_are_parts) (by decide +kernel))
            (fun _ _ _ _ _ => pg_tup (by rfl) (pgs_cons (pg_name (i := 5) scParts.nd rfl (.inl rfl)) (pgs_cons (pg_name (i := 6) scParts.nd rfl (.inl rfl)) pgs_nil))) (fun _ _ _ _ _ => pts_nil)
            (fun _ _ _ _ _ => pe_call A1.G hr rfl A1.m A1.k A1.b .nil pass0 (pa_cons (pv 6) (pa_cons (show PE _ _ (tBM K "list" (rCntI K) (tVar 3) (tCons (tVar 5) tNil)) from pe_bm PySem.F.plainAttrs_list PySem.F.slot_list_count PySem.F.type_list_count mt_lcount (pv 3) (pa_cons (pv 5) pa_nil)) pa_nil)))) pa_nil)))))
      , ?_⟩
    have m8 := g.m8
    have pl := g.plen
    have lt : ts.length = W.parts.length := hts.len
    have lu : us.length = W.beds.length := hus.len
    have few := g.few
    refine ⟨_, rfl, _, _, _, _, true, rfl, ClsV.ty _, ty_lst hl, kit_ty (by decide +kernel), true, rfl, iteF ?_⟩
    refine ⟨_, rfl, l, _, rfl, .inl hl, _, rfl, rfl, _, rfl, iteNS (by rw [List.length_map, lt, pl]) ?_⟩
    refine ⟨_, rfl, b, rfl, ⟨_, hb⟩, fun S hS => ?_⟩
    refine lc_list (K := K) (a := b) (xs := us.map V.ref) (fun i N => N S = some (.lst ((intsOf (W.beds.take i)).map V.int)) ∧ Same H N) ⟨upd_same, same1 hS⟩ ?_ ?_ ?_
    · rintro i N _ ⟨_, sN⟩
      exact sN.seq hb
    · rintro i x N hx ⟨eS, sN⟩
      rw [List.getElem?_map] at hx
      obtain ⟨t, ht, rfl⟩ := Option.map_eq_some_iff.mp hx
      have il : i < W.beds.length := by
        have := (List.getElem?_eq_some_iff.mp ht).1
        omega
      have hbi : W.beds[i]? = some W.beds[i] := List.getElem?_eq_getElem il
      obtain ⟨_, _, q1, _, _⟩ := (hus.all i t _ ht hbi).mono sN
      refine ⟨rfl, ?_⟩
      refine ⟨_, rfl, t, _, _, _, rfl, rfl, q1, at_k (by decide) rfl, ?_⟩
      refine ⟨_, eS, ?_, ?_, fun a o e => ?_⟩
      · unfold intsOf
        rw [List.length_map, List.length_map, List.length_take]
        exact Nat.lt_of_le_of_lt (Nat.min_le_left _ _) (Nat.lt_of_lt_of_le il (Nat.le_trans few (show 12 ≤ sizeLine by decide)))
      · unfold intsOf
        rw [List.take_succ_eq_append_getElem il, List.map_append, List.map_append]
        exact upd_same
      · rw [upd_ne (ne_of_none e hS)]
        exact sN _ _ e
    · rintro N ⟨eS, sN⟩
      rw [List.length_map, lu, List.take_length] at eS
      have hlN := sN.seq hl
      refine ⟨_, rfl, l, _, rfl, hlN, fun D hD => ?_⟩
      refine lc_it (walk_enum (K := K) (a := l) (xs := ts.map V.ref)) (fun i M => M D = some (.lst ((List.replicate i true).map V.bl)) ∧ Same N M) ⟨upd_same, same1 hD⟩ ?_ ?_ ?_
      · rintro i M _ ⟨_, sM⟩
        exact sM.seq hlN
      · rintro i x M M' hi ⟨eD, sM⟩ ⟨T, x1, x2, rfl, hT, rfl, e1, e2⟩
        obtain rfl := Option.some.inj e1
        have e2 : (ts.map V.ref)[i]? = some x2 := e2
        rw [List.getElem?_map] at e2
        obtain ⟨t, ht, rfl⟩ := Option.map_eq_some_iff.mp e2
        have il : i < W.parts.length := by
          have := (List.getElem?_eq_some_iff.mp ht).1
          omega
        have hpi : W.parts[i]? = some W.parts[i] := List.getElem?_eq_getElem il
        have s3 : Same M (upd M T (.tup [.int (i : Nat), .ref t])) := same1 hT
        refine ⟨T, _, rfl, SqT.of upd_same, rfl, _, _, rfl, _, _, rfl, rfl, rfl, ?_⟩
        generalize upd M T (.tup [.int (i : Nat), .ref t]) = M3 at *
        have sNM := sM.trans s3
        have eS3 := sNM _ _ eS
        refine ⟨_, rfl, _, rfl, .inl ⟨rfl, _, SqL.of eS3⟩, _, rfl, S, _, (i : Int), rfl, rfl, SqL.of eS3, ?_⟩
        refine ⟨t, (intsOf W.beds).count (i : Int), W.parts[i], rfl, Same.tup (sN.trans sNM) (hts.all i t _ ht hpi), ?_, fun M4 s4 => ?_⟩
        · rw [intsOf_map, count_cast]
          exact g.part i _ hpi
        · have s34 := s3.trans s4
          refine ⟨_, s34 _ _ eD, (by rw [List.length_map, List.length_replicate]; exact Nat.lt_of_lt_of_le il (Nat.le_trans (show W.parts.length ≤ 8 by omega) (show 8 ≤ sizeLine by decide))), ?_, fun a o e => ?_⟩
          · rw [List.replicate_succ', List.map_append]
            exact upd_same
          · rw [upd_ne (ne_of_none e hD)]
            exact s34 _ _ (sM _ _ e)
      · rintro M ⟨eD, sM⟩
        refine ⟨D, _, rfl, SqL.of eD, ?_⟩
        rw [all_true]
        exact q _ (sN.trans sM)
theorem scWInit : FnScope ["self", "many", "beds", "parts"] ["self", "many", "beds", "parts"] (defScope d_Web_init) := ⟨rfl, rfl, rfl, by decide +kernel, rfl, by decide +kernel, by decide +kernel⟩
theorem ok_winitF {f f1 f2 f3 C CW : Addr} {fd fd1 fd2 fd3 : FuncData} {tk : Tok} (F : Fun K "__init__" "Web.__init__" d_Web_init f fd) (TW : CrsW K CW) (ne : C ≠ CW) (Y : TxtW mg C) (g1 : mg "MOST_PLACES" = some (.int 8 tk))
    (A1 : At P w K mg base CX0 2 "is_between" ["thing", "least", "most"] spBetweenI f1 fd1) (A2 : At P w K mg base CX0 4 "are_beds" ["things", "many"] (spBedsG K C) f2 fd2) (A3 : At P w K mg base CX0 4 "are_parts" ["things", "many", "beds"] (spPartsG K C) f3 fd3) :
    FnOk P w K mg base CX0 5 f fd ["self", "many", "beds", "parts"] (spWInitF K C CW) := by
  refine F.ok scWInit (fun vs H Q E h => ?_) (fun cdv A outer s H vs Q E hr h => ?_)
  · obtain ⟨_, _, _, _, _, rfl, _⟩ := h
    rfl
  · obtain ⟨x, dx, b, p, W, rfl, hx, hb, hp, g, q⟩ := h
    have r2 : Room 2 _ := hr.mono (by decide)
    refine ⟨_, pss_cons (ps_if (pt_not (pt_val (pe_call A1.G r2 rfl A1.m A1.k A1.b .nil pass0 (pa_cons (pv 1) (pa_cons pe_int (pa_cons (pe_glob (v := .int 8) rfl g1 ⟨tk, rfl⟩) pa_nil)))))) (pss_one ps_never) pss_nil)
      (pss_cons (ps_if (pt_not (pt_val (pe_call A2.G hr rfl A2.m A2.k A2.b .nil pass0 (pa_cons (pv 2) (pa_cons (pv 1) pa_nil))))) (pss_one ps_never) pss_nil)
      (pss_cons (ps_if (pt_not (pt_val (pe_call A3.G hr rfl A3.m A3.k A3.b .nil pass0 (pa_cons (pv 3) (pa_cons (pv 1) (pa_cons (pv 2) pa_nil)))))) (pss_one ps_never) pss_nil)
      (pss_cons (ps_fld (pv 0) (pv 1) rfl)
      (pss_cons (ps_fld (pv 0) (pe_callTy call_list_of (by rfl) Y.list (by decide +kernel) (pa_cons (pv 2) pa_nil)) rfl)
      (pss_one (ps_fld (pv 0) (pe_callTy call_list_of (by rfl) Y.list (by decide +kernel) (pa_cons (pv 3) pa_nil)) rfl)))))), ?_⟩
    have m1 := g.m1
    have m8 := g.m8
    refine ⟨_, rfl, (W.many : Int), 1, 8, rfl, ?_⟩
    rw [decide_eq_true (show (1 : Int) ≤ (W.many : Int) by omega), decide_eq_true (show (W.many : Int) ≤ 8 by omega)]
    refine ⟨true, rfl, iteF ?_⟩
    refine ⟨_, rfl, _, rfl, b, W.many, W.beds, rfl, hb, ⟨g.few, g.bed, g.sorted, g.two⟩, fun H1 s1 => ⟨true, rfl, iteF ?_⟩⟩
    refine ⟨_, rfl, _, rfl, _, rfl, p, b, W, rfl, hp.mono s1, hb.mono s1, g, fun H2 s2 => ⟨true, rfl, iteF ?_⟩⟩
    have s12 := s1.trans s2
    have hx2 := s12 _ _ hx
    obtain ⟨us, ub, uall⟩ := hb.mono s12
    obtain ⟨ts, tb, tall⟩ := hp.mono s12
    refine ⟨_, rfl, _, rfl, x, CW, dx, _, rfl, hx2, TW.cl, TW.nm, (by show 0 < 1000; decide), ?_⟩
    have kx : Keep2 H2 (upd H2 x (.ins CW dx (putF "many" (.int (W.many : Int)) []))) := keep2_ins hx2
    have e1 : (upd H2 x (.ins CW dx (putF "many" (.int (W.many : Int)) [])) : Hp) x = some (.ins CW dx (putF "many" (.int (W.many : Int)) [])) := upd_same
    have o1 : ∀ a o, a ≠ x → H2 a = some o → upd H2 x (.ins CW dx (putF "many" (.int (W.many : Int)) [])) a = some o := fun a o n e => by rw [upd_ne n]; exact e
    generalize upd H2 x (.ins CW dx (putF "many" (.int (W.many : Int)) [])) = H3 at *
    have ub3 := kx.seq ub
    have tb3 := kx.seq tb
    have ua3 := uall.mono fun a c _ _ r => kx.bed r
    have ta3 := tall.mono fun a c _ _ r => (kx.tup r : PartsAt K H3 a c)
    refine ⟨_, rfl, b, _, rfl, .inl ub3, fun lb hlb => ?_⟩
    have s4 : Same H3 (upd H3 lb (.lst (us.map V.ref))) := same1 hlb
    have eb : (upd H3 lb (.lst (us.map V.ref)) : Hp) lb = some (.lst (us.map V.ref)) := upd_same
    have e4 := s4 _ _ e1
    generalize upd H3 lb (.lst (us.map V.ref)) = H4 at *
    refine ⟨_, rfl, x, CW, dx, _, rfl, e4, TW.cl, TW.nb, (by show 1 < 1000; decide), ?_⟩
    have nbx : lb ≠ x := fun z => by rw [z, e4] at eb; cases eb
    have k5 : ∀ a o, a ≠ x → H4 a = some o → upd H4 x (.ins CW dx (putF "beds" (.ref lb) (putF "many" (.int (W.many : Int)) []))) a = some o := fun a o n e => by rw [upd_ne n]; exact e
    have e5 : (upd H4 x (.ins CW dx (putF "beds" (.ref lb) (putF "many" (.int (W.many : Int)) []))) : Hp) x = some (.ins CW dx (putF "beds" (.ref lb) (putF "many" (.int (W.many : Int)) []))) := upd_same
    generalize upd H4 x (.ins CW dx (putF "beds" (.ref lb) (putF "many" (.int (W.many : Int)) []))) = H5 at *
    have w45 : Wo CW x H4 H5 := ⟨⟨_, _, e4⟩, k5⟩
    have tb5 := w45.seq (s4.seq tb3)
    have ua5 := ua3.mono fun a c _ _ r => w45.bed ne (r.mono s4)
    have ta5 := ta3.mono fun a c _ _ r => (w45.tup (Same.tup s4 r) : PartsAt K H5 a c)
    refine ⟨_, rfl, p, _, rfl, .inl tb5, fun lp hlp => ?_⟩
    have s6 : Same H5 (upd H5 lp (.lst (ts.map V.ref))) := same1 hlp
    have ep : (upd H5 lp (.lst (ts.map V.ref)) : Hp) lp = some (.lst (ts.map V.ref)) := upd_same
    have e6 := s6 _ _ e5
    have eb6 := s6 _ _ (k5 _ _ nbx eb)
    generalize upd H5 lp (.lst (ts.map V.ref)) = H6 at *
    refine ⟨_, rfl, x, CW, dx, _, rfl, e6, TW.cl, TW.np, (by show 2 < 1000; decide), ?_⟩
    have npx : lp ≠ x := fun z => by rw [z, e6] at ep; cases ep
    have k7 : ∀ a o, a ≠ x → H6 a = some o → upd H6 x (.ins CW dx (webF (W.many : Int) lb lp)) a = some o := fun a o n e => by rw [upd_ne n]; exact e
    have w67 : Wo CW x H6 (upd H6 x (.ins CW dx (webF (W.many : Int) lb lp))) := ⟨⟨_, _, e6⟩, k7⟩
    have hub : All2 (BedAt K C (upd H6 x (.ins CW dx (webF (W.many : Int) lb lp)))) us W.beds := ua5.mono fun a c _ _ r => w67.bed ne (r.mono s6)
    have htp : All2 (PartsAt K (upd H6 x (.ins CW dx (webF (W.many : Int) lb lp)))) ts W.parts := ta5.mono fun a c _ _ r => w67.tup (Same.tup s6 r)
    refine q _ ⟨dx, lb, lp, upd_same, ⟨us, k7 _ _ nbx eb6, hub⟩, ⟨ts, k7 _ _ npx ep, htp⟩, g⟩ (fun D xs hD ys => ?_) (fun a o n e => ?_)
    · have nDx : D ≠ x := fun z => by rw [z, hx] at hD; cases hD
      have e2 := s12 _ _ hD
      have e3 := o1 _ _ nDx e2
      have e4 := s4 _ _ e3
      have e5 := k5 _ _ nDx e4
      have nl : lb ≠ D := fun z => by rw [z] at hlb; rw [e3] at hlb; cases hlb
      have np : lp ≠ D := fun z => by rw [z] at hlp; rw [e5] at hlp; cases hlp
      have kp : KeepW (upd H6 x (.ins CW dx (webF (W.many : Int) lb lp))) (upd (upd H6 x (.ins CW dx (webF (W.many : Int) lb lp))) D (.lst ys)) := keepw_put (k7 _ _ nDx (s6 _ _ e5))
      exact ⟨dx, lb, lp, by rw [upd_ne (Ne.symm nDx)]; exact upd_same, ⟨us, by rw [upd_ne nl]; exact k7 _ _ nbx eb6, hub.mono fun a c _ _ r => kp.bed r⟩, ⟨ts, by rw [upd_ne np]; exact k7 _ _ npx ep, htp.mono fun a c _ _ r => (kp.tup r : PartsAt K _ a c)⟩, g⟩
    · exact k7 _ _ n (s6 _ _ (k5 _ _ n (s4 _ _ (o1 _ _ n (s12 _ _ e)))))
theorem ok_winit {f f1 f2 f3 C CW : Addr} {fd fd1 fd2 fd3 : FuncData} {tk : Tok} (F : Fun K "__init__" "Web.__init__" d_Web_init f fd) (TW : CrsW K CW) (ne : C ≠ CW) (Y : TxtW mg C) (g1 : mg "MOST_PLACES" = some (.int 8 tk))
    (A1 : At P w K mg base CX0 2 "is_between" ["thing", "least", "most"] spBetweenI f1 fd1) (A2 : At P w K mg base CX0 4 "are_beds" ["things", "many"] (spBedsG K C) f2 fd2) (A3 : At P w K mg base CX0 4 "are_parts" ["things", "many", "beds"] (spPartsG K C) f3 fd3) :
    FnOk P w K mg base CX0 5 f fd ["self", "many", "beds", "parts"] (spWInit K C CW) :=
  fn_weaken (ok_winitF F TW ne Y g1 A1 A2 A3) fun vs H Q E ⟨w, dx, b, p, W, e, e1, e2, e3, g, q⟩ => ⟨w, dx, b, p, W, e, e1, e2, e3, g, fun H' h _ k => q H' h k⟩
end
end K04

namespace K04
open PySem PySem.Spec PyProof.Rows L2
/-! ### what a day does, as plain functions -/
def fromB (bs : List Bed) (p : Nat) : List Nat := (List.range bs.length).filter fun k => decide ((bs[k]?).map Bed.s = some p)
def gap1 (ds : List Int) : List Nat → Int
  | [i, j] => (ds[i]?).getD 0 - (ds[j]?).getD 0
  | _ => 0
def gapsV (W : WebV) (ds : List Int) : List Int := (List.range W.many).map fun p => gap1 ds (fromB W.beds p)
def leadsV (gs : List Int) : List Bool := gs.map fun g => decide (0 ≤ g)
def ratI (n : Nat) : Rat := ((n : Int) : Rat)
def partV (ps : List Nat) (am : Rat) (a : Nat) : Rat := am * (ratI a / ratI ps.sum)
def bornV (ps : List Nat) (am : Rat) (first : Bool) : List Rat := if first = true then ps.map (partV ps am) else (ps.map (partV ps am)).reverse
def intoV (bs : List Bed) (bears : List Rat) (p : Nat) : List Rat := ((bears.zip bs).filter fun x => decide (x.2.e = p)).map Prod.fst
def amL (W : WebV) (rain : List Rat) (bears : List Rat) (p : Nat) : List Rat := (rain[p]?).getD 0 :: intoV W.beds bears p
def flowV (W : WebV) (leads : List Bool) (rain : List Rat) : Nat → List Rat × List Rat
  | 0 => ([], [])
  | p + 1 => ((flowV W leads rain p).1 ++ [(amL W rain (flowV W leads rain p).2 p).sum],
      (flowV W leads rain p).2 ++ bornV ((W.parts[p]?).getD []) (amL W rain (flowV W leads rain p).2 p).sum ((leads[p]?).getD true))
def mvV (b : Bed) (q : Rat) : Int := if b.hi ≤ q then 1 else if b.lo < q then 0 else -1
def movesV (bs : List Bed) (qs : List Rat) : List Int := (bs.zip qs).map fun x => mvV x.1 x.2
/-- how many beds begin ahead of a place -/
def cntB (l : List Nat) (p : Nat) : Nat := (l.filter fun s => decide (s < p)).length
theorem cntB_zero (l : List Nat) : cntB l 0 = 0 := by
  unfold cntB
  simp
theorem cntB_succ (l : List Nat) (p : Nat) : cntB l (p + 1) = cntB l p + l.count p := by
  induction l with
  | nil => rfl
  | cons a r ih =>
    unfold cntB at *
    rw [List.filter_cons, List.filter_cons, List.count_cons]
    by_cases h1 : a < p
    · rw [if_pos (by simp; omega), if_pos (by simp [h1]), List.length_cons, List.length_cons, ih, if_neg (by simp; omega)]
      omega
    · by_cases h2 : a = p
      · rw [if_pos (by simp; omega), if_neg (by simp; omega), List.length_cons, ih, if_pos (by simp [h2])]
        omega
      · rw [if_neg (by simp; omega), if_neg (by simp; omega), ih, if_neg (by simp [h2])]
        omega
theorem cntB_le (l : List Nat) (p : Nat) : cntB l p ≤ l.length := List.length_filter_le _ _
theorem cntB_all {l : List Nat} {p : Nat} (h : ∀ s ∈ l, s < p) : cntB l p = l.length := by
  unfold cntB
  rw [List.filter_eq_self.mpr (fun s hs => by simp [h s hs])]
/-- of starts in order the ones ahead of a place stand first -/
theorem cntB_lt : ∀ {l : List Nat} {p k : Nat} {s : Nat}, l.Pairwise (· ≤ ·) → l[k]? = some s → (k < cntB l p ↔ s < p)
  | [], p, k, s, _, h => by simp at h
  | a :: r, p, 0, s, hs, h => by
    have e : a = s := by simpa using h
    subst e
    unfold cntB
    rw [List.filter_cons]
    by_cases c : a < p
    · rw [if_pos (by simp [c])]
      simp [c]
    · rw [if_neg (by simp [c])]
      have z : r.filter (fun s => decide (s < p)) = [] := by
        rw [List.filter_eq_nil_iff]
        intro x hx
        have := List.rel_of_pairwise_cons hs hx
        simp
        omega
      rw [z]
      simp [c]
  | a :: r, p, k + 1, s, hs, h => by
    have h : r[k]? = some s := by simpa using h
    have ih := cntB_lt (p := p) (List.Pairwise.of_cons hs) h
    have le : a ≤ s := List.rel_of_pairwise_cons hs (List.mem_of_getElem? h)
    unfold cntB at *
    rw [List.filter_cons]
    by_cases c : a < p
    · rw [if_pos (by simp [c]), List.length_cons]
      omega
    · rw [if_neg (by simp [c])]
      have z : r.filter (fun s => decide (s < p)) = [] := by
        rw [List.filter_eq_nil_iff]
        intro x hx
        have := List.rel_of_pairwise_cons hs hx
        simp
        omega
      rw [z]
      simp
      omega
theorem born_len (ps : List Nat) (am : Rat) (first : Bool) : (bornV ps am first).length = ps.length := by
  unfold bornV
  split <;> simp
theorem flow_len1 (W : WebV) (leads : List Bool) (rain : List Rat) : ∀ p, (flowV W leads rain p).1.length = p
  | 0 => rfl
  | p + 1 => by
    show ((flowV W leads rain p).1 ++ [_]).length = p + 1
    rw [List.length_append, flow_len1 W leads rain p]
    rfl
theorem parts_at {W : WebV} (g : GoodWeb W) {p : Nat} (h : p < W.many) : ∃ ps, W.parts[p]? = some ps ∧ GoodParts ((starts W).count p) ps := by
  have hp := g.plen
  exact ⟨_, List.getElem?_eq_getElem (by omega), g.part p _ (List.getElem?_eq_getElem (by omega))⟩
theorem flow_len2 {W : WebV} (g : GoodWeb W) (leads : List Bool) (rain : List Rat) : ∀ p, p ≤ W.many → (flowV W leads rain p).2.length = cntB (starts W) p
  | 0, _ => (cntB_zero _).symm
  | p + 1, h => by
    obtain ⟨ps, e, gp⟩ := parts_at g (p := p) (by omega)
    show ((flowV W leads rain p).2 ++ bornV _ _ _).length = _
    rw [List.length_append, flow_len2 g leads rain p (by omega), born_len, cntB_succ, e]
    show _ + ps.length = _
    rw [gp.len]
theorem starts_len (W : WebV) : (starts W).length = W.beds.length := List.length_map ..
theorem flow_few {W : WebV} (g : GoodWeb W) (leads : List Bool) (rain : List Rat) {p : Nat} (h : p ≤ W.many) : (flowV W leads rain p).2.length ≤ W.beds.length := by
  rw [flow_len2 g leads rain p h, ← starts_len]
  exact cntB_le _ _
theorem flow_all {W : WebV} (g : GoodWeb W) (leads : List Bool) (rain : List Rat) : (flowV W leads rain W.many).2.length = W.beds.length := by
  rw [flow_len2 g leads rain _ (Nat.le_refl _), ← starts_len]
  refine cntB_all fun s hs => ?_
  obtain ⟨b, hb, rfl⟩ := List.mem_map.mp hs
  have := g.bed b hb
  have h1 := this.up
  have h2 := this.le
  omega
/-! ### sizes -/
/-- a whole number, below 2 ^ k, over M -/
def Lim (M k : Nat) (q : Rat) : Prop := ∃ n : Int, q = (n : Rat) / ((M : Int) : Rat) ∧ n.natAbs < 2 ^ k
theorem Lim.up {M k k' : Nat} {q : Rat} (h : Lim M k q) (e : k ≤ k') : Lim M k' q := by
  obtain ⟨n, a, b⟩ := h
  exact ⟨n, a, pow_le b e⟩
theorem Lim.den {M k : Nat} {q : Rat} (h : Lim M k q) (m : 0 < M) : q.den ∣ M := by
  obtain ⟨n, a, b⟩ := h
  have e := (low_rat (t := n) (b := (M : Int)) (by omega)).2
  rw [← a] at e
  have d : lowB n (M : Int) ∣ (M : Int) := ⟨sg n M, (lowB_mul n (M : Int)).symm⟩
  rw [e] at d
  exact Int.natCast_dvd_natCast.mp d
theorem Lim.num {M k : Nat} {q : Rat} (h : Lim M k q) (m : 0 < M) : q.num.natAbs < 2 ^ k := by
  obtain ⟨n, a, b⟩ := h
  have e := (low_rat (t := n) (b := (M : Int)) (by omega)).1
  rw [← a] at e
  rw [← e]
  exact Nat.lt_of_le_of_lt (lowT_le (by omega)) b
theorem Lim.sz {M k j : Nat} {q : Rat} (h : Lim M k q) (m : 0 < M) (hm : M < 2 ^ j) (hk : k ≤ j) : Sz j q := by
  refine ⟨pow_le (h.num m) hk, ?_⟩
  have := Nat.le_of_dvd m (h.den m)
  rw [Int.natAbs_natCast]
  omega
theorem lim_zero {M k : Nat} : Lim M k 0 := ⟨0, by rw [show ((0 : Int) : Rat) = 0 from rfl]; grind, by simp; exact Nat.two_pow_pos k⟩
theorem Lim.mul {M k L j : Nat} {q : Rat} (h : Lim M k q) (l0 : 0 < L) (hl : L ≤ 2 ^ j) : Lim (M * L) (k + j) q := by
  obtain ⟨n, a, b⟩ := h
  refine ⟨n * L, ?_, ?_⟩
  · have nl := icast_ne (show ((L : Nat) : Int) ≠ 0 by omega)
    rw [a, Int.natCast_mul, Rat.intCast_mul, Rat.intCast_mul]
    generalize ((n : Int) : Rat) = x at *
    generalize ((L : Int) : Rat) = y at *
    generalize ((M : Int) : Rat) = z at *
    by_cases hz : z = 0
    · rw [hz]
      grind
    · grind
  · rw [Int.natAbs_mul, Int.natAbs_natCast, Nat.pow_add]
    exact Nat.mul_lt_mul_of_lt_of_le b hl (Nat.two_pow_pos j)
theorem lim_sum {M k : Nat} : ∀ {l : List Rat}, (∀ q ∈ l, Lim M k q) → ∃ n : Int, l.sum = (n : Rat) / ((M : Int) : Rat) ∧ n.natAbs ≤ l.length * 2 ^ k
  | [], _ => ⟨0, by rw [show ((0 : Int) : Rat) = 0 from rfl]; show (0 : Rat) = _; grind, by simp⟩
  | q :: r, h => by
    obtain ⟨n, a, b⟩ := h q (by simp)
    obtain ⟨m, c, d⟩ := lim_sum (fun x hx => h x (by simp [hx]) : ∀ x ∈ r, Lim M k x)
    refine ⟨n + m, ?_, ?_⟩
    · rw [List.sum_cons, a, c, Rat.intCast_add]
      generalize ((M : Int) : Rat) = z
      by_cases hz : z = 0
      · rw [hz]
        grind
      · grind
    · rw [List.length_cons, Nat.succ_mul]
      have := Int.natAbs_add_le n m
      omega
theorem Lim.sum {M k : Nat} {l : List Rat} (h : ∀ q ∈ l, Lim M k q) (few : l.length ≤ 15) : Lim M (k + 4) l.sum := by
  obtain ⟨n, a, b⟩ := lim_sum h
  refine ⟨n, a, Nat.lt_of_le_of_lt b ?_⟩
  rw [Nat.pow_add]
  have := Nat.two_pow_pos k
  have : l.length * 2 ^ k ≤ 15 * 2 ^ k := Nat.mul_le_mul_right _ few
  omega
abbrev LL : Nat := 12252240
theorem LL_dvd {S : Nat} (h1 : 1 ≤ S) (h2 : S ≤ 18) : S ∣ LL := by
  have : S = 1 ∨ S = 2 ∨ S = 3 ∨ S = 4 ∨ S = 5 ∨ S = 6 ∨ S = 7 ∨ S = 8 ∨ S = 9 ∨ S = 10 ∨ S = 11 ∨ S = 12 ∨ S = 13 ∨ S = 14 ∨ S = 15 ∨ S = 16 ∨ S = 17 ∨ S = 18 := by omega
  rcases this with h | h | h | h | h | h | h | h | h | h | h | h | h | h | h | h | h | h <;> subst h <;> decide
theorem LL_pos : 0 < LL := by decide
theorem LL_lt : LL ≤ 2 ^ 24 := by decide
theorem Lim.part {M k S a : Nat} {q : Rat} (h : Lim M k q) (h1 : 1 ≤ S) (h2 : S ≤ 18) (ha : a ≤ S) : Lim (M * LL) (k + 24) (q * (ratI a / ratI S)) := by
  obtain ⟨n, e, b⟩ := h
  obtain ⟨c, hc⟩ := LL_dvd h1 h2
  refine ⟨n * (a * c : Nat), ?_, ?_⟩
  · have ns := icast_ne (show ((S : Nat) : Int) ≠ 0 by omega)
    have nc := icast_ne (show ((c : Nat) : Int) ≠ 0 from by
      intro z
      have : c = 0 := by omega
      rw [this, Nat.mul_zero] at hc
      exact absurd hc (by decide))
    unfold ratI
    rw [e, hc, Int.natCast_mul, Int.natCast_mul, Int.natCast_mul, Rat.intCast_mul, Rat.intCast_mul, Rat.intCast_mul, Rat.intCast_mul]
    generalize ((n : Int) : Rat) = x at *
    generalize ((S : Int) : Rat) = y at *
    generalize ((M : Int) : Rat) = z at *
    generalize ((c : Int) : Rat) = u at *
    generalize ((a : Int) : Rat) = v at *
    by_cases hz : z = 0
    · rw [hz]
      grind
    · grind
  · rw [Int.natAbs_mul, Int.natAbs_natCast, Nat.pow_add]
    refine Nat.mul_lt_mul_of_lt_of_le b ?_ (Nat.two_pow_pos 24)
    have : a * c ≤ S * c := Nat.mul_le_mul_right _ ha
    rw [← hc] at this
    exact Nat.le_trans this LL_lt
structure RainOk (W : WebV) (R k0 : Nat) (rain : List Rat) : Prop where
  len : rain.length = W.many
  lim : ∀ q ∈ rain, Lim R k0 q
  nn : ∀ q ∈ rain, 0 ≤ q
  r0 : 0 < R
  rlt : R < 2 ^ 200
  k : k0 ≤ 400
theorem sum_nat_le : ∀ (l : List Nat), (∀ p ∈ l, p ≤ 9) → l.sum ≤ 9 * l.length
  | [], _ => by simp
  | a :: r, h => by
    have h1 := h a (by simp)
    have h2 := sum_nat_le r (fun x hx => h x (by simp [hx]))
    rw [List.sum_cons, List.length_cons]
    omega
theorem sum_nat_mem : ∀ {l : List Nat} {p : Nat}, p ∈ l → p ≤ l.sum
  | a :: r, p, h => by
    rw [List.sum_cons]
    rcases List.mem_cons.mp h with z | z
    · omega
    · have := sum_nat_mem z
      omega
theorem parts_sum {W : WebV} (g : GoodWeb W) {i n : Nat} {ps : List Nat} (hn : n = (starts W).count i) (h : GoodParts n ps) {a : Nat} (ha : a ∈ ps) : 1 ≤ ps.sum ∧ ps.sum ≤ 18 ∧ a ≤ ps.sum := by
  have h2 := g.two i
  have hl := h.len
  have h3 := sum_nat_le ps h.le
  have h4 := sum_nat_mem ha
  refine ⟨?_, by omega, h4⟩
  rcases h.some_ with z | ⟨p, hp, p0⟩
  · have := List.length_pos_of_mem ha
    omega
  · have := sum_nat_mem hp
    omega
theorem LLp_pos (p : Nat) : 0 < LL ^ p := Nat.pow_pos LL_pos
theorem LLp_le (p : Nat) : LL ^ p ≤ 2 ^ (24 * p) := by
  rw [Nat.pow_mul]
  exact Nat.pow_le_pow_left LL_lt p
theorem into_mem {bs : List Bed} {bears : List Rat} {p : Nat} {q : Rat} (h : q ∈ intoV bs bears p) : q ∈ bears := by
  unfold intoV at h
  obtain ⟨x, hx, rfl⟩ := List.mem_map.mp h
  exact (List.of_mem_zip (List.mem_filter.mp hx).1).1
theorem into_len (bs : List Bed) (bears : List Rat) (p : Nat) : (intoV bs bears p).length ≤ bs.length := by
  unfold intoV
  rw [List.length_map]
  refine Nat.le_trans (List.length_filter_le _ _) ?_
  rw [List.length_zip]
  omega
theorem getD_mem {α : Type} {l : List α} {i : Nat} {d : α} (h : i < l.length) : (l[i]?).getD d ∈ l := by
  rw [List.getElem?_eq_getElem h]
  exact List.getElem_mem h
theorem flow_lim {W : WebV} {R k0 : Nat} {rain : List Rat} (g : GoodWeb W) (leads : List Bool) (r : RainOk W R k0 rain) : ∀ p, p ≤ W.many →
    (∀ q ∈ (flowV W leads rain p).1, Lim (R * LL ^ p) (k0 + 40 * p) q) ∧ (∀ q ∈ (flowV W leads rain p).2, Lim (R * LL ^ p) (k0 + 40 * p) q) ∧
    (p < W.many → (∀ q ∈ amL W rain (flowV W leads rain p).2 p, Lim (R * LL ^ p) (k0 + 40 * p) q) ∧ Lim (R * LL ^ p) (k0 + 40 * p + 4) (amL W rain (flowV W leads rain p).2 p).sum)
  | p, hp => by
    have base : (∀ q ∈ (flowV W leads rain p).1, Lim (R * LL ^ p) (k0 + 40 * p) q) ∧ (∀ q ∈ (flowV W leads rain p).2, Lim (R * LL ^ p) (k0 + 40 * p) q) := by
      match p, hp with
      | 0, _ => exact ⟨(fun q h => nomatch h), (fun q h => nomatch h)⟩
      | p + 1, hp =>
        obtain ⟨h1, h2, h3⟩ := flow_lim g leads r p (by omega)
        obtain ⟨h4, h5⟩ := h3 (by omega)
        obtain ⟨ps, e, gp⟩ := parts_at g (p := p) (by omega)
        have up : ∀ q, Lim (R * LL ^ p) (k0 + 40 * p + 4) q → Lim (R * LL ^ (p + 1)) (k0 + 40 * (p + 1)) q := fun q h => by
          rw [Nat.pow_succ, ← Nat.mul_assoc]
          exact (h.mul LL_pos LL_lt).up (by omega)
        refine ⟨fun q hq => ?_, fun q hq => ?_⟩
        · rcases List.mem_append.mp (show q ∈ (flowV W leads rain p).1 ++ [_] from hq) with z | z
          · exact up q ((h1 q z).up (by omega))
          · rw [List.mem_singleton.mp z]
            exact up _ h5
        · rcases List.mem_append.mp (show q ∈ (flowV W leads rain p).2 ++ bornV _ _ _ from hq) with z | z
          · exact up q ((h2 q z).up (by omega))
          · rw [e] at z
            have z : q ∈ ps.map (partV ps (amL W rain (flowV W leads rain p).2 p).sum) := by
              have z : q ∈ bornV ps _ _ := z
              unfold bornV at z
              split at z
              · exact z
              · exact List.mem_reverse.mp z
            obtain ⟨a, ha, rfl⟩ := List.mem_map.mp z
            obtain ⟨s1, s2, s3⟩ := parts_sum g rfl gp ha
            rw [Nat.pow_succ, ← Nat.mul_assoc]
            exact (h5.part s1 s2 s3).up (by omega)
    refine ⟨base.1, base.2, fun hlt => ?_⟩
    have h4 : ∀ q ∈ amL W rain (flowV W leads rain p).2 p, Lim (R * LL ^ p) (k0 + 40 * p) q := fun q hq => by
      rcases List.mem_cons.mp (show q ∈ _ :: intoV _ _ _ from hq) with z | z
      · rw [z]
        exact ((r.lim _ (getD_mem (by rw [r.len]; exact hlt))).mul (LLp_pos p) (LLp_le p)).up (by omega)
      · exact base.2 q (into_mem z)
    refine ⟨h4, Lim.sum h4 ?_⟩
    have := into_len W.beds (flowV W leads rain p).2 p
    have := g.few
    show (_ :: intoV _ _ _).length ≤ 15
    rw [List.length_cons]
    omega
theorem RLL_pos {W : WebV} {R k0 : Nat} {rain : List Rat} (r : RainOk W R k0 rain) (p : Nat) : 0 < R * LL ^ p := Nat.mul_pos r.r0 (LLp_pos p)
theorem RLL_lt {W : WebV} {R k0 : Nat} {rain : List Rat} (r : RainOk W R k0 rain) {p : Nat} (h : p ≤ 8) : R * LL ^ p < 2 ^ 400 := by
  have : R * LL ^ p < 2 ^ 200 * 2 ^ 200 := by
    refine Nat.mul_lt_mul_of_lt_of_le r.rlt (Nat.le_trans (LLp_le p) (Nat.pow_le_pow_right (by decide) (by omega))) (Nat.two_pow_pos 200)
  rwa [← Nat.pow_add] at this
theorem flow_tots {W : WebV} {R k0 : Nat} {rain : List Rat} (g : GoodWeb W) (leads : List Bool) (r : RainOk W R k0 rain) {p : Nat} (h : p < W.many) : Tots (amL W rain (flowV W leads rain p).2 p) (R * LL ^ p) := by
  have h8 := g.m8
  have hk := r.k
  obtain ⟨_, _, h3⟩ := flow_lim g leads r p (by omega)
  obtain ⟨h4, _⟩ := h3 h
  refine ⟨RLL_pos r p, Nat.lt_trans (RLL_lt r (by omega)) (Nat.pow_lt_pow_right (by decide) (by decide)), fun q hq => (h4 q hq).den (RLL_pos r p), fun q hq => pow_le ((h4 q hq).num (RLL_pos r p)) (by omega), ?_⟩
  have := into_len W.beds (flowV W leads rain p).2 p
  have := g.few
  show (_ :: intoV _ _ _).length ≤ 100
  rw [List.length_cons]
  omega
theorem flow_szA {W : WebV} {R k0 : Nat} {rain : List Rat} (g : GoodWeb W) (leads : List Bool) (r : RainOk W R k0 rain) {p : Nat} (h : p < W.many) : Sz 1500 (amL W rain (flowV W leads rain p).2 p).sum := by
  have h8 := g.m8
  have hk := r.k
  obtain ⟨_, _, h3⟩ := flow_lim g leads r p (by omega)
  obtain ⟨_, h5⟩ := h3 h
  exact h5.sz (RLL_pos r p) (Nat.lt_trans (RLL_lt r (by omega)) (Nat.pow_lt_pow_right (by decide) (by decide))) (by omega)
theorem flow_szB {W : WebV} {R k0 : Nat} {rain : List Rat} (g : GoodWeb W) (leads : List Bool) (r : RainOk W R k0 rain) {p : Nat} (h : p ≤ W.many) : (∀ q ∈ (flowV W leads rain p).1, Sz 1500 q) ∧ ∀ q ∈ (flowV W leads rain p).2, Sz 1500 q := by
  have h8 := g.m8
  have hk := r.k
  obtain ⟨h1, h2, _⟩ := flow_lim g leads r p (by omega)
  exact ⟨fun q hq => (h1 q hq).sz (RLL_pos r p) (Nat.lt_trans (RLL_lt r (by omega)) (Nat.pow_lt_pow_right (by decide) (by decide))) (by omega),
    fun q hq => (h2 q hq).sz (RLL_pos r p) (Nat.lt_trans (RLL_lt r (by omega)) (Nat.pow_lt_pow_right (by decide) (by decide))) (by omega)⟩
end K04

namespace K04
open PySem PySem.Spec PyProof.Rows L2
/-! ### zip of lists and tuples, in any order -/
/-- a tuple (true) or a list (false) to be read -/
def SqK (K : PySem.W.Frag) : Bool → Hp → Addr → List V → Prop
  | true, H, a, xs => SqT K H a xs
  | false, H, a, xs => SqL K H a xs
def HeapK : Bool → Heap → Addr → Array Value → Prop
  | true, h, a, its => h.IsTuple a its
  | false, h, a, its => h.IsList a its
def IterK : Bool → Heap → Addr → Addr → Nat → Prop
  | true, h, it, a, i => h.IsTupleIter it a i
  | false, h, it, a, i => h.IsListIter it a i
def iterO : Bool → Addr → Obj
  | true, a => { cls := .type "tuple_iterator", data := .fields #[.ref a, .int 0 0] }
  | false, a => { cls := .type "list_iterator", data := .fields #[.ref a, .int 0 0] }
theorem beginsK (k : Bool) (a : Addr) (its : Array Value) : Begins (.ref a) (iterO k a) (fun h => HeapK k h a its) := by
  cases k
  · exact begins_list a its
  · exact begins_tuple a its
theorem drawsK {P : Program} {w : World} {A : Around} (k : Bool) (hh : A.handled = none) (it a : Addr) (ne : a ≠ it) (its : Array Value) :
    Draws P w A it [it, a] its.size (fun i v => its[i]? = some v) (fun i h => IterK k h it a i ∧ HeapK k h a its) := by
  cases k
  · exact Draws.list hh it a ne its
  · exact Draws.tuple hh it a ne its
theorem IterK.obj {k : Bool} {h : Heap} {it a : Addr} {i : Nat} (e : IterK k h it a i) : ∃ o, h.get? it = some o ∧ o.data = .fields #[.ref a, .int i 0] := by
  cases k <;> (obtain ⟨o, x, _, y⟩ := e; exact ⟨o, x, y⟩)
theorem IterK.at_ {k : Bool} {h h' : Heap} {it a : Addr} {i : Nat} (e : IterK k h it a i) (f : ∀ o, h.get? it = some o → h'.get? it = some o) : IterK k h' it a i := by
  cases k
  · exact Heap.IsListIter.at e f
  · exact Heap.IsTupleIter.at e f
theorem IterK.new {k : Bool} {h : Heap} {it a : Addr} (e : h.get? it = some (iterO k a)) : IterK k h it a 0 := by
  cases k <;> exact ⟨_, e, rfl, rfl⟩
theorem SqK.ext {K : PySem.W.Frag} {k : Bool} {H H' : Hp} {a : Addr} {xs : List V} (h : SqK K k H a xs) (s : Same H H') : SqK K k H' a xs := by
  cases k
  · exact s.seq h
  · exact Same.tup s h
section
variable {X : Cx} {pins : List (Addr × Obj)} {σ : L2.St} {H : Hp} {s : Shared}
theorem inv_sqK (I : Inv X pins σ H s) {k : Bool} {a : Addr} {xs : List V} (h : SqK X.K k H a xs) : ∃ its, Vals xs its ∧ HeapK k s.heap a its.toArray ∧ a < s.heap.objs.size := by
  cases k
  · obtain ⟨its, rv, p, _⟩ := I.list h
    exact ⟨its, rv, p.isList, p.lt⟩
  · obtain ⟨its, rv, p, _⟩ := I.tuple h
    obtain ⟨o, e, _⟩ := id p
    exact ⟨its, rv, p, Heap.lt_size e⟩
theorem inv_injK (I : Inv X pins σ H s) {k : Bool} {a : Addr} {xs ys : List V} (h : SqK X.K k H a xs) (g : SqK X.K k H a ys) : xs = ys := by
  cases k
  · exact I.list_inj h g
  · exact I.tuple_inj h g
end
def ItzG (K : PySem.W.Frag) (j k : Bool) (a b : Addr) : It where
  go i H := ∃ (xs ys : List V) (x y : V), SqK K j H a xs ∧ SqK K k H b ys ∧ xs[i]? = some x ∧ ys[i]? = some y
  yld i H v H' := ∃ (t : Addr) (x y : V), v = .ref t ∧ H t = none ∧ H' = upd H t (.tup [x, y]) ∧ (∀ us, SqK K j H a us → us[i]? = some x) ∧ (∀ us, SqK K k H b us → us[i]? = some y)
  stop i H := ∃ xs ys : List V, SqK K j H a xs ∧ SqK K k H b ys ∧ i ≤ xs.length ∧ i ≤ ys.length ∧ (i = xs.length ∨ i = ys.length)
def ZipAt (j k : Bool) (a b z TI TO i1 i2 : Addr) (i : Nat) (h : Heap) : Prop :=
  IsZip h z TI TO .none ∧ IsTupOf2 h TI (.ref i1) (.ref i2) ∧ (∃ u v, IsTupOf2 h TO u v) ∧ IterK j h i1 a i ∧ IterK k h i2 b i
theorem zg_turn {P : Program} {w : World} {K : PySem.W.Frag} {elts : List Expr} {kk : Nat} {tp : Pos} {j k : Bool} {a b z TI TO i1 i2 : Addr} (S : ZipSep2 z TI TO i1 i2 [i1, a] [i2, b]) (n1 : a ≠ i1) (n2 : b ≠ i2) :
    Turn P w K (.Tuple elts kk tp) (ItzG K j k a b) [z, TI, TO, i1, i2] z (ZipAt j k a b z TI TO i1 i2) where
  mem := List.mem_cons_self ..
  obj i h := by
    rintro ⟨e1, e2, ⟨u, v, e3⟩, e4, e5⟩ c hc
    obtain ⟨o4, g4, d4⟩ := e4.obj
    obtain ⟨o5, g5, d5⟩ := e5.obj
    have q : c = z ∨ c = TI ∨ c = TO ∨ c = i1 ∨ c = i2 := by simpa using hc
    rcases q with q | q | q | q | q <;> rw [q]
    · exact ⟨_, e1, fun v q => nomatch q⟩
    · exact ⟨_, e2, fun v q => nomatch q⟩
    · exact ⟨_, e3, fun v q => nomatch q⟩
    · exact ⟨o4, g4, fun v q => by rw [d4] at q; cases q⟩
    · exact ⟨o5, g5, fun v q => by rw [d5] at q; cases q⟩
  keep i h h' := by
    rintro ⟨e1, e2, ⟨u, v, e3⟩, e4, e5⟩ f
    exact ⟨f z (by simp) _ e1, f TI (by simp) _ e2, ⟨u, v, f TO (by simp) _ e3⟩, e4.at_ fun o q => f i1 (by simp) o q, e5.at_ fun o q => f i2 (by simp) o q⟩
  item := by
    intro X hP hw hK hc i pins s σ H E I hf st hg
    subst hP hw hK
    obtain ⟨e1, e2, ⟨u0, v0, e3⟩, e4, e5⟩ := st
    obtain ⟨xs, ys, x, y, qx, qy, hx, hy⟩ := hg
    obtain ⟨its, rv, p, _⟩ := inv_sqK I qx
    obtain ⟨its2, rv2, p2, _⟩ := inv_sqK I qy
    obtain ⟨u, hu, ru⟩ := rv.get hx
    obtain ⟨u2, hu2, ru2⟩ := rv2.get hy
    have l1 : i < its.toArray.size := by
      have := (List.getElem?_eq_some_iff.mp hu).1
      simpa using this
    have l2 : i < its2.toArray.size := by
      have := (List.getElem?_eq_some_iff.mp hu2).1
      simpa using this
    have zl : z < s.heap.objs.size := Heap.lt_size e1
    have hd : X.A.in1.handled = none := I.ok.hd hc
    have zi1 : z ≠ i1 := fun q => S.zf1 (by rw [q]; simp)
    have zi2 : z ≠ i2 := fun q => S.zf2 (by rw [q]; simp)
    have o4 := e4.obj
    have o5 := e5.obj
    refine wpAny_pyNext_zipD2_item S (drawsK j hd i1 a n1 its.toArray) (drawsK k hd i2 b n2 its2.toArray) e1 e2 e3 ⟨e4, p⟩ ⟨e5, p2⟩ l1 l2 fun y1 y2 h' tk hy1 hy2 zo to s1 s2 hT hsz hk => ?_
    have g1 : y1 = u := by
      have hy1 : its.toArray[i]? = some y1 := hy1
      have hy1 : its[i]? = some y1 := by simpa using hy1
      rw [hu] at hy1
      exact (Option.some.inj hy1).symm
    have g2 : y2 = u2 := by
      have hy2 : its2.toArray[i]? = some y2 := hy2
      have hy2 : its2[i]? = some y2 := by simpa using hy2
      rw [hu2] at hy2
      exact (Option.some.inj hy2).symm
    subst g1 g2
    refine ⟨_, rfl, wpAny_letOwnedTupleGo_zip (s := { s with heap := h', toks := tk }) zo fun h2 z2 sb => ?_⟩
    have t2 : h2.get? s.heap.objs.size = some { cls := .type "tuple", data := .seq #[y1, y2] } := (sb.2 _ (Nat.ne_of_gt zl)).trans hT
    have nw : ObjOk X.prog X.w (upd H s.heap.objs.size (.tup [x, y])) h2 s.heap.objs.size (.tup [x, y]) :=
      ⟨(by show 2 ≤ sizeLine; decide), [y1, y2], .cons ru (.cons ru2 .nil), ⟨_, t2, rfl, _, rfl⟩⟩
    have I2 : Inv X pins σ (upd H s.heap.objs.size (.tup [x, y])) { s with heap := h2, toks := tk } := by
      refine I.turnedNew (ch := [z, TI, TO, i1, i2]) (fun c oc hb q => ?_) hf (Nat.le_refl _) nw
      have c1 : c ≠ z := fun q => hb (by simp [q])
      exact (sb.2 c c1).trans (hk c oc c1 (fun q => hb (by simp [q])) (fun q => hb (by simp [q])) (fun q => hb (by simp [q])) q)
    refine ⟨.ref s.heap.objs.size, _, I2, rfl, ⟨_, x, y, rfl, I.hok.fresh (Nat.le_refl _), rfl, fun us hq => ?_, fun us hq => ?_⟩, ⟨z2, ?_, ⟨y1, y2, ?_⟩, ?_, ?_⟩, fun c hcm => ?_⟩
    · rw [inv_injK I hq qx]
      exact hx
    · rw [inv_injK I hq qy]
      exact hy
    · exact (sb.2 _ S.TIz).trans (hk _ _ S.TIz S.TITO S.TIi1 S.TIi2 e2)
    · exact (sb.2 _ S.TOz).trans to
    · exact s1.1.at_ fun o q => (sb.2 _ (Ne.symm zi1)).trans q
    · exact s2.1.at_ fun o q => (sb.2 _ (Ne.symm zi2)).trans q
    · have lt : c < s.heap.objs.size := by
        have q : c = z ∨ c = TI ∨ c = TO ∨ c = i1 ∨ c = i2 := by simpa using hcm
        rcases q with q | q | q | q | q <;> rw [q]
        · exact zl
        · exact Heap.lt_size e2
        · exact Heap.lt_size e3
        · obtain ⟨_, q, _⟩ := o4
          exact Heap.lt_size q
        · obtain ⟨_, q, _⟩ := o5
          exact Heap.lt_size q
      rw [upd_ne (Nat.ne_of_lt lt)]
      exact (hf c hcm).1
  done := by
    intro X hP hw hK hc i pins s σ H E I hf st hg
    subst hP hw hK
    obtain ⟨e1, e2, ⟨u0, v0, e3⟩, e4, e5⟩ := st
    obtain ⟨xs, ys, qx, qy, h1, h2, he⟩ := hg
    obtain ⟨its, rv, p, _⟩ := inv_sqK I qx
    obtain ⟨its2, rv2, p2, _⟩ := inv_sqK I qy
    have a1 : its.toArray.size = xs.length := by
      have := rv.length
      simp
      omega
    have a2 : its2.toArray.size = ys.length := by
      have := rv2.length
      simp
      omega
    have hd : X.A.in1.handled = none := I.ok.hd hc
    refine wpAny_pyNext_zipD2_end S (drawsK j hd i1 a n1 its.toArray) (drawsK k hd i2 b n2 its2.toArray) e1 e2 e3 ⟨e4, p⟩ ⟨e5, p2⟩ (by omega) (by omega) (by omega) fun h' tk hk => ?_
    refine ⟨rfl, I.turnedL (t' := tk) (ch := [z, TI, TO, i1, i2]) (fun c o hb q => ?_) hf⟩
    exact hk c o (fun q => hb (by simp [q])) (fun q => hb (by simp [q])) (fun q => hb (by simp [q])) (fun q => hb (by simp [q])) q
  self _ i s Q E st h := wpAny_pyIter_zip st.1 h
def iZipG (K : PySem.W.Frag) (j k : Bool) (ta : TA) : TI := fun σ H R => ta σ H fun vs H1 => ∃ a b xs ys, vs = [.ref a, .ref b] ∧ SqK K j H1 a xs ∧ SqK K k H1 b ys ∧ R (ItzG K j k a b) H1
theorem pi_zipG {X : Cx} (j k : Bool) {e e2 : Expr} {ta : TA} {p pos tp : Pos} {elts : List Expr} {kk : Nat} (hg : Gl X "zip") (hm : X.mg "zip" = none) (ha : PA X [e, e2] ta)
    (hs : starEach [e, e2] X.env = (false, eval e X.env) :: starEach [e2] X.env := by rfl) (hpl : (backTo pos (starEach [e2] X.env)).any (·.1) = false := by rfl) :
    PI X (.Tuple elts kk tp) (.Call (.Name "zip" p) [e, e2] [] pos) (iZipG X.K j k ta) := by
  constructor
  intro pins s σ H R I h
  refine Call_ (ld_blt I hg hm PyProof.Rows.boot_zip (PyProof.Rows.callWith_type1 (thn (ha.run pos pins s σ H _ I h) fun us s1 ⟨vs, H1, I1, r1, q1⟩ => ?_) hs hpl))
  obtain ⟨a, b, xs, ys, ex, qx, qy, q⟩ := q1
  subst ex
  rcases r1 with _ | ⟨r, rr⟩
  rcases rr with _ | ⟨r', rr⟩
  cases rr
  cases r
  cases r'
  obtain ⟨its, rv, p1, la⟩ := inv_sqK I1 qx
  obtain ⟨its2, rv2, p2, lb⟩ := inv_sqK I1 qy
  refine zip_begins2 (beginsK j a its.toArray) (beginsK k b its2.toArray) p1 p2 fun h' hz hTI hTO h1 h2 hsz hk => wpAny_pyIter_zip hz ?_
  have I2 : Inv X pins σ H1 { s1 with heap := h' } := I1.kept (t' := s1.toks) hk
  have S := zip_sep2 (N := s1.heap.objs.size) (fp1 := [a]) (fp2 := [b]) (fun c hc => by rw [List.mem_singleton.mp hc]; exact la) (fun c hc => by rw [List.mem_singleton.mp hc]; exact lb)
  have nb : b ≠ s1.heap.objs.size + 1 := Nat.ne_of_lt (Nat.lt_succ_of_lt lb)
  refine ⟨s1.heap.objs.size + 4, [s1.heap.objs.size + 4, s1.heap.objs.size + 2, s1.heap.objs.size + 3, s1.heap.objs.size, s1.heap.objs.size + 1], _, _, H1, rfl, I2, zg_turn (j := j) (k := k) S (Nat.ne_of_lt la) nb, ⟨hz, hTI, ⟨_, _, hTO⟩, .new h1, .new h2⟩, fun c hcm => ?_, q⟩
  have e : c = s1.heap.objs.size + 4 ∨ c = s1.heap.objs.size + 2 ∨ c = s1.heap.objs.size + 3 ∨ c = s1.heap.objs.size ∨ c = s1.heap.objs.size + 1 := by simpa using hcm
  have le : s1.heap.objs.size ≤ c := by
    rcases e with z | z | z | z | z <;> rw [z]
    · exact Nat.le_add_right _ _
    · exact Nat.le_add_right _ _
    · exact Nat.le_add_right _ _
    · exact Nat.le_refl _
    · exact Nat.le_add_right _ _
  exact I1.fpOk le (I1.hok.fresh le)
theorem walk_zipG {K : PySem.W.Frag} {j k : Bool} {a b : Addr} {xs ys : List V} {n : Nat} (hn : n = min xs.length ys.length) : Walk (ItzG K j k a b) n (fun H => SqK K j H a xs ∧ SqK K k H b ys) (YPair (fun i => xs[i]?) (fun i => ys[i]?)) := by
  subst hn
  refine ⟨fun i H hi q => ?_, fun H q => ?_, fun i H v H' _ q y => ?_⟩
  · have h1 : i < xs.length := by omega
    have h2 : i < ys.length := by omega
    exact ⟨xs, ys, xs[i], ys[i], q.1, q.2, by simp [h1], by simp [h2]⟩
  · exact ⟨xs, ys, q.1, q.2, by omega, by omega, by omega⟩
  · obtain ⟨t, x, z, h1, h2, h3, h4, h5⟩ := y
    exact ⟨t, x, z, h1, h2, h3, h4 xs q.1, h5 ys q.2⟩
end K04

namespace K04
open PySem PySem.Spec PyProof.Rows L2
/-! ### the law's draws -/
/-- the builtins that the law asks by name -/
structure TxtB (mg : Str → Option Value) : Prop where
  int : mg "int" = none
  len : mg "len" = none
  abs : mg "abs" = none
/-- all but p stays -/
def But (p : Addr) (H H' : Hp) : Prop := ∀ b o, b ≠ p → H b = some o → H' b = some o
/-- a list of three numbers to draw from -/
def SrcAt (H : Hp) (p : Addr) : Prop := ∃ x y z : Int, H p = some (.lst [.int x, .int y, .int z])
theorem But.trans {p : Addr} {H H1 H2 : Hp} (a : But p H H1) (b : But p H1 H2) : But p H H2 := fun c o h e => b c o h (a c o h e)
theorem same_but {p : Addr} {H H' : Hp} (s : Same H H') : But p H H' := fun b o _ e => s b o e
theorem But.refl (p : Addr) (H : Hp) : But p H H := fun _ _ _ e => e
theorem SrcAt.same {H H' : Hp} {p : Addr} (h : SrcAt H p) (s : Same H H') : SrcAt H' p := by
  obtain ⟨x, y, z, e⟩ := h
  exact ⟨x, y, z, s _ _ e⟩
theorem SrcAt.ne {H : Hp} {p q : Addr} (h : SrcAt H p) (e : H q = none) : q ≠ p := fun z => by
  obtain ⟨_, _, _, e2⟩ := h
  rw [z, e2] at e
  cases e
theorem SrcAt.put {H : Hp} {p D : Addr} {o : HO} (h : SrcAt H p) (n : D ≠ p) : SrcAt (upd H D o) p := by
  obtain ⟨x, y, z, e⟩ := h
  exact ⟨x, y, z, by rw [upd_ne (Ne.symm n)]; exact e⟩
theorem But.none {p : Addr} {H H' : Hp} {q : Addr} (b : But p H H') (s : SrcAt H p) (e : H' q = .none) (s' : SrcAt H' p) : H q = .none := by
  cases c : H q with
  | none => rfl
  | some o =>
    have := b q o (s'.ne e) c
    rw [e] at this
    cases this
/-- what is no list stays -/
theorem But.nt {p : Addr} {H H' : Hp} (k : But p H H') (s : SrcAt H p) {b : Addr} {o : HO} (e : H b = some o) (n : ∀ xs, o ≠ .lst xs) : H' b = some o :=
  k b o (fun z => by
    obtain ⟨_, _, _, e2⟩ := s
    rw [z, e2] at e
    exact n _ (Option.some.inj e).symm) e
theorem But.tup {K : PySem.W.Frag} {p : Addr} {H H' : Hp} (k : But p H H') (s : SrcAt H p) {a : Addr} {xs : List V} (h : SqT K H a xs) : SqT K H' a xs :=
  h.elim (fun h => .inl (h.elim (fun h => .inl (k.nt s h (fun _ z => nomatch z))) fun ⟨o, h⟩ => .inr ⟨o, k.nt s h (fun _ z => nomatch z)⟩)) fun h => .inr h
/-- a list of objects -/
theorem But.seqR {K : PySem.W.Frag} {p : Addr} {H H' : Hp} (k : But p H H') (s : SrcAt H p) {a : Addr} {ts : List Addr} (h : SqL K H a (ts.map V.ref)) : SqL K H' a (ts.map V.ref) :=
  h.elim (fun h => .inl (h.elim (fun h => .inl (k _ _ (fun z => by
    obtain ⟨_, _, _, e2⟩ := s
    rw [z, e2] at h
    cases ts with
    | nil => cases h
    | cons t r => cases h) h)) fun ⟨o, h⟩ => .inr ⟨o, k.nt s h (fun _ z => nomatch z)⟩)) fun h => .inr h
/-- any list but this one -/
theorem But.seqN {K : PySem.W.Frag} {p : Addr} {H H' : Hp} (k : But p H H') (s : SrcAt H p) {a : Addr} {xs : List V} (h : SqL K H a xs) (n : a ≠ p) : SqL K H' a xs :=
  h.elim (fun h => .inl (h.elim (fun h => .inl (k _ _ n h)) fun ⟨o, h⟩ => .inr ⟨o, k.nt s h (fun _ z => nomatch z)⟩)) fun h => .inr h
def spCell (K : PySem.W.Frag) : Sp := fun vs H Q _ => ∃ (a : Addr) (ns : List Int) (k : Int), vs = [.ref a, .int k] ∧ SqL K H a (ns.map V.int) ∧ 0 ≤ k ∧ ∀ c : Int, Q (.int c) H
def spMixed : Sp := fun vs H Q _ => ∃ c k : Int, vs = [.int c, .int k] ∧ ∀ r : Int, 0 ≤ r → r < 2147483563 → Q (.int r) H
def spSource (K : PySem.W.Frag) : Sp := fun vs H Q _ => ∃ (a : Addr) (ns : List Int) (k : Int), vs = [.ref a, .int k] ∧ SqL K H a (ns.map V.int) ∧ 0 ≤ k ∧
  ∀ (p : Addr) (x y z : Int), H p = none → Q (.ref p) (upd H p (.lst [.int x, .int y, .int z]))
def spNext : Sp := fun vs H Q _ => ∃ (p : Addr) (m : Int), vs = [.ref p, .int m] ∧ SrcAt H p ∧ 0 < m ∧ m < 2 ^ 62 ∧
  ∀ (H' : Hp) (d : Int), But p H H' → SrcAt H' p → 0 ≤ d → d < m → Q (.int d) H'
def spPick (K : PySem.W.Frag) : Sp := fun vs H Q _ => ∃ (p l : Addr) (k : Bool) (xs : List V), vs = [.ref p, .ref l] ∧ SrcAt H p ∧ SqK K k H l xs ∧ (∀ H', But p H H' → SqK K k H' l xs) ∧ 0 < xs.length ∧ xs.length < 1000 ∧
  ∀ (H' : Hp) (x : V), But p H H' → SrcAt H' p → x ∈ xs → Q x H'
section
variable {P : Program} {w : World} {K : PySem.W.Frag} {mg : Str → Option Value} {base : Heap}
theorem scCell : FnScope ["script", "k"] ["script", "k"] (defScope d_law_cell_at) := ⟨rfl, rfl, rfl, by decide +kernel, rfl, by decide +kernel, by decide +kernel⟩
theorem ok_cell {f : Addr} {fd : FuncData} (F : Fun K "_law_cell_at" "_law_cell_at" d_law_cell_at f fd) (B : TxtB mg) : FnOk P w K mg base CX0 1 f fd ["script", "k"] (spCell K) := by
  refine F.ok scCell (fun vs H Q E h => ?_) (fun cdv A outer s H vs Q E hr h => ?_)
  · obtain ⟨_, _, _, rfl, _⟩ := h
    rfl
  · obtain ⟨a, ns, k, rfl, ha, k0, q⟩ := h
    refine ⟨_, pss_cons (ps_if (pt_cmpR op_lt (pv 1) (pe_callB call_len_seq (by rfl) B.len PySem.boot_len (pa_cons (pv 0) pa_nil)) (nomark _)) (pss_one (ps_ret (pe_ix ix_list (pv 0) (pv 1) (fun _ _ => rfl)))) pss_nil)
      (pss_one (ps_ret pe_int)), ?_⟩
    refine ⟨_, rfl, _, rfl, a, _, rfl, .inl ha, _, _, rfl, rfl, _, rfl, ?_⟩
    refine ite2 (fun h => ?_) (fun _ => q 0)
    have h : k < ((ns.map V.int).length : Int) := of_decide_eq_true h
    rw [List.length_map] at h
    have hk : k.toNat < ns.length := by omega
    exact ⟨_, rfl, _, rfl, a, _, _, _, rfl, rfl, ha, at_k k0 (by rw [List.getElem?_map, List.getElem?_eq_getElem hk]; rfl), q _⟩
theorem scMixed : FnScope ["cell", "k", "low"] ["cell", "k"] (defScope d_law_mixed) := ⟨rfl, rfl, rfl, by decide +kernel, rfl, by decide +kernel, by decide +kernel⟩
theorem wd {i j : Int} (h0 : 0 < j) (h : j < 2 ^ 62) : CDivW i j := wide_div (b := 62) h0 (by omega) (by decide) (by decide)
theorem ok_mixed {f : Addr} {fd : FuncData} (F : Fun K "_law_mixed" "_law_mixed" d_law_mixed f fd) : FnOk P w K mg base CX0 1 f fd ["cell", "k"] spMixed := by
  refine F.ok scMixed (fun vs H Q E h => ?_) (fun cdv A outer s H vs Q E hr h => ?_)
  · obtain ⟨_, _, rfl, _⟩ := h
    rfl
  · obtain ⟨c, k, rfl, q⟩ := h
    refine ⟨_, pss_cons (ps_set (i := 2) scMixed.nd rfl (Or.inl rfl) (pe_op op_add (pe_op op_mod (pv 0) pe_int) (pe_op op_mul (pe_op op_fdivW (pv 0) pe_int) pe_int)))
      (pss_cons (ps_set (i := 2) scMixed.nd rfl (Or.inl rfl) (pe_op op_mod (pe_op op_mul (pe_op op_add (pe_op op_add (pv 2) (pe_op op_mul pe_int (pv 1))) pe_int) pe_int) pe_int))
      (pss_cons (ps_set (i := 2) scMixed.nd rfl (Or.inl rfl) (pe_op op_mod (pe_op op_mul (pv 2) (pe_op op_add (pe_op op_add (pe_op op_fdivW (pv 2) pe_int) pe_int) (pv 1))) pe_int))
      (pss_one (ps_ret (pe_op op_mod (pe_op op_mul (pv 2) (pe_op op_add (pe_op op_fdivW (pv 2) pe_int) pe_int)) pe_int))))), ?_⟩
    refine ⟨_, rfl, _, _, rfl, rfl, (by show (0 : Int) < 2147483629; decide), _, rfl, _, _, rfl, rfl, wd (by decide) (by decide), _, _, rfl, rfl, .inr ⟨by decide, by decide⟩, _, _, rfl, rfl, ?_⟩
    refine ⟨_, rfl, _, rfl, _, _, rfl, rfl, .inl ⟨by decide, by decide⟩, _, _, rfl, rfl, _, _, rfl, rfl, _, _, rfl, rfl, .inr ⟨by decide, by decide⟩, _, _, rfl, rfl, (by show (0 : Int) < 2147483629; decide), ?_⟩
    have e0 : ∀ x : Int, 0 ≤ x % 2147483629 ∧ x % 2147483629 < 2147483629 := fun x => ⟨Int.emod_nonneg _ (by decide), Int.emod_lt_of_pos _ (by decide)⟩
    have e1 : ∀ x : Int, 0 ≤ x % 2147483587 ∧ x % 2147483587 < 2147483587 := fun x => ⟨Int.emod_nonneg _ (by decide), Int.emod_lt_of_pos _ (by decide)⟩
    have h0 := e0 ((c % 2147483629 + c / 2147483629 * 30011 + 69621 * k + 1) * 48271)
    generalize (c % 2147483629 + c / 2147483629 * 30011 + 69621 * k + 1) * 48271 % 2147483629 = low at *
    refine ⟨_, rfl, _, rfl, _, _, rfl, rfl, wd (by decide) (by decide), _, _, rfl, rfl, _, rfl, _, _, rfl, rfl, _, _, rfl, rfl, .inl ⟨by omega, by omega⟩, _, _, rfl, rfl, (by show (0 : Int) < 2147483587; decide), ?_⟩
    have h1 := e1 (low * (low / 907 + 16831 + k))
    generalize low * (low / 907 + 16831 + k) % 2147483587 = l2 at *
    refine ⟨_, rfl, _, rfl, _, _, rfl, rfl, wd (by decide) (by decide), _, _, rfl, rfl, _, _, rfl, rfl, .inl ⟨by omega, by omega⟩, _, _, rfl, rfl, (by show (0 : Int) < 2147483563; decide), ?_⟩
    exact q _ (Int.emod_nonneg _ (by decide)) (Int.emod_lt_of_pos _ (by decide))
theorem scSource : FnScope ["script", "k", "cell"] ["script", "k"] (defScope d_law_source) := ⟨rfl, rfl, rfl, by decide +kernel, rfl, by decide +kernel, by decide +kernel⟩
theorem ok_source {f f1 f2 : Addr} {fd fd1 fd2 : FuncData} (F : Fun K "_law_source" "_law_source" d_law_source f fd) (B : TxtB mg)
    (A1 : At P w K mg base CX0 1 "_law_cell_at" ["script", "k"] (spCell K) f1 fd1) (A2 : At P w K mg base CX0 1 "_law_mixed" ["cell", "k"] spMixed f2 fd2) : FnOk P w K mg base CX0 2 f fd ["script", "k"] (spSource K) := by
  refine F.ok scSource (fun vs H Q E h => ?_) (fun cdv A outer s H vs Q E hr h => ?_)
  · obtain ⟨_, _, _, rfl, _⟩ := h
    rfl
  · obtain ⟨a, ns, k, rfl, ha, k0, q⟩ := h
    refine ⟨_, pss_cons (ps_if (pt_cmpR op_lt (pv 1) (pe_callB call_len_seq (by rfl) B.len PySem.boot_len (pa_cons (pv 0) pa_nil)) (nomark _)) (pss_one (ps_ret (pe_lst (pa_cons (pe_ix ix_list (pv 0) (pv 1) (fun _ _ => rfl)) (pa_cons (pe_ix ix_list (pv 0) (pv 1) (fun _ _ => rfl)) (pa_cons pe_int pa_nil)))))) pss_nil)
      (pss_cons (ps_set (i := 2) scSource.nd rfl (Or.inl rfl) (pe_call A2.G hr rfl A2.m A2.k A2.b .nil pass0 (pa_cons (pe_call A1.G hr rfl A1.m A1.k A1.b .nil pass0 (pa_cons (pv 0) (pa_cons pe_int pa_nil))) (pa_cons (pe_op op_add pe_int (pv 1)) pa_nil))))
      (pss_one (ps_ret (pe_lst (pa_cons (pv 2) (pa_cons (pv 2) (pa_cons pe_int pa_nil))))))), ?_⟩
    refine ⟨_, rfl, _, rfl, a, _, rfl, .inl ha, _, _, rfl, rfl, _, rfl, ?_⟩
    refine ite2 (fun h => ?_) (fun _ => ?_)
    · have h : k < ((ns.map V.int).length : Int) := of_decide_eq_true h
      rw [List.length_map] at h
      have hk : k.toNat < ns.length := by omega
      have hx : atI (ns.map V.int) k = some (.int ns[k.toNat]) := at_k k0 (by rw [List.getElem?_map, List.getElem?_eq_getElem hk]; rfl)
      exact ⟨_, rfl, _, rfl, a, _, _, _, rfl, rfl, ha, hx, _, rfl, _, rfl, a, _, _, _, rfl, rfl, ha, hx, (by show 3 ≤ sizeLine; decide), fun p hp => q p _ _ _ hp⟩
    · refine ⟨_, rfl, a, ns, 0, rfl, ha, by decide, fun c => ?_⟩
      refine ⟨_, rfl, _, _, rfl, rfl, c, 1000 + k, rfl, fun r r0 r1 => ?_⟩
      exact ⟨_, rfl, _, rfl, (by show 3 ≤ sizeLine; decide), fun p hp => q p _ _ _ hp⟩
theorem scNext : FnScope ["source", "many", "found"] ["source", "many"] (defScope d_law_next) := ⟨rfl, rfl, rfl, by decide +kernel, rfl, by decide +kernel, by decide +kernel⟩
theorem ok_next {f f1 : Addr} {fd fd1 : FuncData} (F : Fun K "_law_next" "_law_next" d_law_next f fd) (A1 : At P w K mg base CX0 1 "_law_mixed" ["cell", "k"] spMixed f1 fd1) : FnOk P w K mg base CX0 2 f fd ["source", "many"] spNext := by
  refine F.ok scNext (fun vs H Q E h => ?_) (fun cdv A outer s H vs Q E hr h => ?_)
  · obtain ⟨_, _, rfl, _⟩ := h
    rfl
  · obtain ⟨p, m, rfl, ⟨x, y, z, hp⟩, m0, m1, q⟩ := h
    refine ⟨_, pss_cons (ps_if (pt_cmpR op_ge (pe_ix ix_list (pv 0) pe_int (fun _ _ => rfl)) (pe_op op_pow pe_int pe_int) (nomark _))
        (pss_cons (ps_set (i := 2) scNext.nd rfl (Or.inl rfl) (pe_op op_mod (pe_ix ix_list (pv 0) pe_int (fun _ _ => rfl)) (pv 1)))
        (pss_cons (ps_asg (pe_op op_fdivW (pe_ix ix_list (pv 0) pe_int (fun _ _ => rfl)) (pv 1)) (pg_sub (pv 0) pe_int set_list))
        (pss_one (ps_ret (pv 2))))) pss_nil)
      (pss_cons (ps_asg (pe_op op_add (pe_ix ix_list (pv 0) pe_int (fun _ _ => rfl)) pe_int) (pg_sub (pv 0) pe_int set_list))
      (pss_one (ps_ret (pe_op op_mod (pe_call A1.G hr rfl A1.m A1.k A1.b .nil pass0 (pa_cons (pe_ix ix_list (pv 0) pe_int (fun _ _ => rfl)) (pa_cons (pe_ix ix_list (pv 0) pe_int (fun _ _ => rfl)) pa_nil))) (pv 1))))), ?_⟩
    refine ⟨_, rfl, p, _, _, _, rfl, rfl, SqL.of hp, at_k (by decide) rfl, _, _, rfl, rfl, ⟨by decide, by decide, by decide⟩, _, _, rfl, rfl, _, rfl, ?_⟩
    refine ite2 (fun h => ?_) (fun h => ?_)
    · refine ⟨_, rfl, p, _, _, _, rfl, rfl, SqL.of hp, at_k (by decide) rfl, _, rfl, _, _, rfl, rfl, m0, ?_⟩
      refine ⟨_, rfl, p, _, _, _, rfl, rfl, SqL.of hp, at_k (by decide) rfl, _, rfl, _, _, rfl, rfl, wd m0 m1, ?_⟩
      refine ⟨_, rfl, p, _, _, 0, rfl, rfl, hp, rfl, ?_⟩
      exact ⟨_, rfl, q _ _ (fun b o hb e => by rw [upd_ne hb]; exact e) ⟨_, _, _, upd_same⟩ (Int.emod_nonneg _ (by omega)) (Int.emod_lt_of_pos _ m0)⟩
    · refine ⟨_, rfl, p, _, _, _, rfl, rfl, SqL.of hp, at_k (by decide) rfl, _, _, rfl, rfl, ?_⟩
      refine ⟨_, rfl, p, _, _, 2, rfl, rfl, hp, rfl, ?_⟩
      have hp2 : upd H p (.lst [.int x, .int y, .int (z + 1)]) p = some (.lst [.int x, .int y, .int (z + 1)]) := upd_same
      refine ⟨_, rfl, p, _, _, _, rfl, rfl, SqL.of hp2, at_k (by decide) rfl, _, rfl, p, _, _, _, rfl, rfl, SqL.of hp2, at_k (by decide) rfl, _, _, rfl, fun r r0 r1 => ?_⟩
      refine ⟨_, rfl, _, _, rfl, rfl, m0, ?_⟩
      exact q _ _ (fun b o hb e => by rw [upd_ne hb]; exact e) ⟨_, _, _, hp2⟩ (Int.emod_nonneg _ (by omega)) (Int.emod_lt_of_pos _ m0)
theorem scPick : FnScope ["source", "some"] ["source", "some"] (defScope d_law_pick) := ⟨rfl, rfl, rfl, by decide +kernel, rfl, by decide +kernel, by decide +kernel⟩
theorem ok_pick {f f1 : Addr} {fd fd1 : FuncData} (F : Fun K "_law_pick" "_law_pick" d_law_pick f fd) (B : TxtB mg) (A1 : At P w K mg base CX0 2 "_law_next" ["source", "many"] spNext f1 fd1) : FnOk P w K mg base CX0 3 f fd ["source", "some"] (spPick K) := by
  refine F.ok scPick (fun vs H Q E h => ?_) (fun cdv A outer s H vs Q E hr h => ?_)
  · obtain ⟨_, _, _, _, rfl, _⟩ := h
    rfl
  · obtain ⟨p, l, k, xs, rfl, hp, hl, hst, l0, l1, q⟩ := h
    refine ⟨_, pss_one (ps_ret (pe_ix ix_seq (pv 1) (pe_call A1.G hr rfl A1.m A1.k A1.b .nil pass0 (pa_cons (pv 0) (pa_cons (pe_callB call_len_seq (by rfl) B.len PySem.boot_len (pa_cons (pv 1) pa_nil)) pa_nil))) (fun _ _ => rfl))), ?_⟩
    refine ⟨_, rfl, _, rfl, _, rfl, l, xs, rfl, (by cases k; exact .inl hl; exact .inr hl), ?_⟩
    refine ⟨p, _, rfl, hp, (by omega), (by omega), fun H' d bt hp' d0 d1 => ?_⟩
    have hd : d.toNat < xs.length := by omega
    have at_ : atI xs d = some xs[d.toNat] := at_k d0 (by simp [hd])
    have hl' := hst H' bt
    have fin := q H' _ bt hp' (List.getElem_mem hd)
    cases k with
    | false => exact .inl ⟨l, xs, _, _, rfl, rfl, hl', at_, fin⟩
    | true => exact .inr (.inl ⟨l, xs, _, _, rfl, rfl, hl', at_, fin⟩)
end
end K04

namespace K04
open PySem PySem.Spec PyProof.Rows L2
/-! ### the law's fractions -/
def prV (x : Rat) : List V := [.int x.num, .int ((x.den : Nat) : Int)]
def PairAt (K : PySem.W.Frag) (H : Hp) (q : Addr) (x : Rat) : Prop := SqT K H q (prV x)
theorem PairAt.mono {K : PySem.W.Frag} {H H' : Hp} {q : Addr} {x : Rat} (h : PairAt K H q x) (s : Same H H') : PairAt K H' q x := Same.tup s h
def spLowQ : Sp := fun vs H Q _ => ∃ a b : Int, vs = [.int a, .int b] ∧ b ≠ 0 ∧ a.natAbs < 2 ^ 4000 ∧ b.natAbs < 2 ^ 4000 ∧ ∀ p : Addr, H p = none → Q (.ref p) (upd H p (.tup (prV ((a : Rat) / (b : Rat)))))
def spTwoP (K : PySem.W.Frag) (f : Rat → Rat → Rat) : Sp := fun vs H Q _ => ∃ (x y : Addr) (p q : Rat), vs = [.ref x, .ref y] ∧ PairAt K H x p ∧ PairAt K H y q ∧ Sz 1500 p ∧ Sz 1500 q ∧
  ∀ r : Addr, H r = none → Q (.ref r) (upd H r (.tup (prV (f p q))))
def spMark : Sp := fun vs H Q _ => ∃ p : Addr, vs = [.ref p] ∧ SrcAt H p ∧ ∀ (H' : Hp) (q : Addr) (x : Rat), But p H H' → SrcAt H' p → H q = none → H' q = some (.tup (prV x)) → Lim 42 11 x → Q (.ref q) H'
def leftOf : L2.St → Nat
  | [_, _, _, some (.int l)] => l.toNat
  | _ => 0
theorem absV (i : Int) : (if i < 0 then -i else i) = ((i.natAbs : Nat) : Int) := by split <;> omega
theorem low_pr {a b : Int} (hb : b ≠ 0) : [V.int (lowT a b), V.int (lowB a b)] = prV ((a : Rat) / (b : Rat)) := by
  rw [(low_rat hb).1, (low_rat hb).2]
  rfl
theorem lim_frac {n d M c k : Nat} {m : Int} (hm : m.natAbs = n) (hc : M = d * c) (d0 : d ≠ 0) (c0 : c ≠ 0) (hk : n * c < 2 ^ k) : Lim M k ((m : Rat) / (((d : Nat) : Int) : Rat)) := by
  refine ⟨m * (c : Int), ?_, ?_⟩
  · have nd := icast_ne (show ((d : Nat) : Int) ≠ 0 by omega)
    have nc := icast_ne (show ((c : Nat) : Int) ≠ 0 by omega)
    rw [hc, Int.natCast_mul, Rat.intCast_mul, Rat.intCast_mul]
    generalize ((m : Int) : Rat) = x at *
    generalize ((d : Int) : Rat) = y at *
    generalize ((c : Int) : Rat) = z at *
    grind
  · rw [Int.natAbs_mul, Int.natAbs_natCast, hm]
    exact hk
section
variable {P : Program} {w : World} {K : PySem.W.Frag} {mg : Str → Option Value} {base : Heap}
theorem scLow : FnScope ["one", "other", "high", "low"] ["one", "other"] (defScope d_law_lowered) := ⟨rfl, rfl, rfl, by decide +kernel, rfl, by decide +kernel, by decide +kernel⟩
theorem ok_lowQ {f : Addr} {fd : FuncData} (F : Fun K "_law_lowered" "_law_lowered" d_law_lowered f fd) (B : TxtB mg) : FnOk P w K mg base CX0 1 f fd ["one", "other"] spLowQ := by
  refine F.ok scLow (fun vs H Q E h => ?_) (fun cdv A outer s H vs Q E hr h => ?_)
  · obtain ⟨_, _, rfl, _⟩ := h
    rfl
  · obtain ⟨a, b, rfl, hb, sa, sb, kq⟩ := h
    refine ⟨_, pss_cons (ps_par (i := 2) (j := 3) rfl scLow.nd rfl rfl (by decide) rfl rfl (pa_cons (pe_callB call_abs (by rfl) B.abs (by decide +kernel) (pa_cons (pv 0) pa_nil)) (pa_cons (pe_callB call_abs (by rfl) B.abs (by decide +kernel) (pa_cons (pv 1) pa_nil)) pa_nil)) (by rfl))
      (pss_cons (ps_while PassesOwn.never (pt_cmpR op_ne (pv 3) pe_int (nomark _)) (pss_one (ps_par (i := 2) (j := 3) rfl scLow.nd rfl rfl (by decide) rfl rfl (pa_cons (pv 3) (pa_cons (pe_op op_mod (pv 2) (pv 3)) pa_nil)) (by rfl))))
      (pss_cons (ps_if (pt_cmpR op_lt (pv 1) pe_int (nomark _)) (pss_one (ps_set (i := 2) scLow.nd rfl (Or.inl rfl) (pe_op op_sub pe_int (pv 2)))) pss_nil)
      (pss_one (ps_ret (pe_tup (pa_cons (pe_op op_fdivX (pv 0) (pv 2)) (pa_cons (pe_op op_fdivX (pv 1) (pv 2)) pa_nil))))))), ?_⟩
    refine ⟨_, rfl, a, rfl, _, rfl, b, rfl, _, _, rfl, ?_⟩
    rw [absV, absV]
    refine while_by (fun σ H' => H' = H ∧ ∃ g l : Nat, σ = [some (.int a), some (.int b), some (.int (g : Int)), some (.int (l : Int))] ∧ Nat.gcd g l = Nat.gcd a.natAbs b.natAbs) (fun σ _ => leftOf σ) ⟨rfl, _, _, rfl, rfl⟩ ?_ ?_
    · rintro σ H' ⟨rfl, g, l, rfl, hg⟩
      refine ⟨_, rfl, rfl, _, rfl, ?_⟩
      by_cases hl : l = 0
      · subst hl
        refine ite2 (fun h => ?_) (fun _ => ?_)
        · exact absurd h (by simp)
        have ge : g = Nat.gcd a.natAbs b.natAbs := by rw [← hg, Nat.gcd_zero_right]
        refine ⟨_, rfl, _, _, rfl, rfl, _, rfl, ?_⟩
        have gs : (sg a b).natAbs < 2 ^ 4000 := Nat.lt_of_le_of_lt (sg_le hb) sb
        have fin : ∀ g2 : Int, g2 = sg a b → ∀ p, H' p = none → Q (.ref p) (upd H' p (.tup [V.int (a.fdiv g2), V.int (b.fdiv g2)])) := fun g2 e p hp => by
          have z := kq p hp
          rw [← low_pr hb] at z
          unfold lowT lowB at z
          rw [← e] at z
          exact z
        refine ite2 (fun hn => ?_) (fun hn => ?_)
        · have hn : b < 0 := of_decide_eq_true hn
          have e : 0 - (g : Int) = sg a b := by unfold sg; rw [if_pos hn, ge]; omega
          have g0 : 0 - (g : Int) ≠ 0 := by rw [e]; exact sg_ne hb
          have gd : ∀ i : Int, CDivX i (0 - (g : Int)) := fun i => big_div (b := 4000) g0 (by rw [e]; exact gs) (by decide) (by decide)
          refine ⟨_, rfl, _, _, rfl, rfl, ?_⟩
          exact ⟨_, rfl, _, rfl, _, _, rfl, rfl, gd _, _, rfl, _, rfl, _, _, rfl, rfl, gd _, (by show 2 ≤ sizeLine; decide), fun p hp => fin _ e p hp⟩
        · have hn : ¬ b < 0 := fun q => hn (decide_eq_true q)
          have e : (g : Int) = sg a b := by unfold sg; rw [if_neg hn, ge]
          have g0 : (g : Int) ≠ 0 := by rw [e]; exact sg_ne hb
          have gd : ∀ i : Int, CDivX i (g : Int) := fun i => big_div (b := 4000) g0 (by rw [e]; exact gs) (by decide) (by decide)
          exact ⟨_, rfl, _, rfl, _, _, rfl, rfl, gd _, _, rfl, _, rfl, _, _, rfl, rfl, gd _, (by show 2 ≤ sizeLine; decide), fun p hp => fin _ e p hp⟩
      · refine ite2 (fun _ => ?_) (fun h => ?_)
        · refine ⟨_, rfl, _, rfl, _, rfl, _, _, rfl, rfl, (by show (0 : Int) < (l : Int); omega), _, _, rfl, ⟨rfl, l, g % l, ?_, ?_⟩, ?_⟩
          · show [some (V.int a), some (V.int b), some (V.int (l : Int)), some (V.int ((g : Int) % (l : Int)))] = _
            rw [Int.natCast_emod]
          · rw [← hg, Nat.gcd_comm g l, Nat.gcd_rec l g, Nat.gcd_comm]
          · show ((g : Int) % (l : Int)).toNat < ((l : Int)).toNat
            have h1 : (g : Int) % (l : Int) = ((g % l : Nat) : Int) := (Int.natCast_emod g l).symm
            rw [h1, Int.toNat_natCast, Int.toNat_natCast]
            exact Nat.mod_lt _ (by omega)
        · exfalso
          apply h
          have : ¬ V.int (l : Int) = V.int 0 := fun z => by
            have := V.int.inj z
            omega
          simp [this]
    · intro σ H' Q1 Q2 m h
      obtain ⟨v, e, z, k, ek, q⟩ := h
      exact ⟨v, e, z, k, ek, m _ _ q⟩
theorem scLSum : FnScope ["one", "other"] ["one", "other"] (defScope d_law_sum) := ⟨rfl, rfl, rfl, by decide +kernel, rfl, by decide +kernel, by decide +kernel⟩
theorem ok_lsum {f f1 : Addr} {fd fd1 : FuncData} (F : Fun K "_law_sum" "_law_sum" d_law_sum f fd) (A1 : At P w K mg base CX0 1 "_law_lowered" ["one", "other"] spLowQ f1 fd1) : FnOk P w K mg base CX0 2 f fd ["one", "other"] (spTwoP K fun p q => p + q) := by
  refine F.ok scLSum (fun vs H Q E h => ?_) (fun cdv A outer s H vs Q E hr h => ?_)
  · obtain ⟨_, _, _, _, rfl, _⟩ := h
    rfl
  · obtain ⟨x, y, p, q, rfl, hx, hy, s1, s2, kq⟩ := h
    refine ⟨_, pss_one (ps_ret (pe_call A1.G hr rfl A1.m A1.k A1.b .nil pass0 (pa_cons (pe_op op_add (pe_op op_mulW (pe_ix ix_tup (pv 0) pe_int (fun _ _ => rfl)) (pe_ix ix_tup (pv 1) pe_int (fun _ _ => rfl))) (pe_op op_mulW (pe_ix ix_tup (pv 1) pe_int (fun _ _ => rfl)) (pe_ix ix_tup (pv 0) pe_int (fun _ _ => rfl))))
      (pa_cons (pe_op op_mulW (pe_ix ix_tup (pv 0) pe_int (fun _ _ => rfl)) (pe_ix ix_tup (pv 1) pe_int (fun _ _ => rfl))) pa_nil)))), ?_⟩
    have x0 : atI (prV p) 0 = some (.int p.num) := at_k (by decide) rfl
    have x1 : atI (prV p) 1 = some (.int ((p.den : Nat) : Int)) := at_k (by decide) rfl
    have y0 : atI (prV q) 0 = some (.int q.num) := at_k (by decide) rfl
    have y1 : atI (prV q) 1 = some (.int ((q.den : Nat) : Int)) := at_k (by decide) rfl
    refine ⟨_, rfl, x, _, _, _, rfl, rfl, hx, x0, _, rfl, y, _, _, _, rfl, rfl, hy, y1, _, _, rfl, rfl, wide_mul s1.1 s2.2 (by decide) (by decide) (by decide), _, rfl, y, _, _, _, rfl, rfl, hy, y0, _, rfl, x, _, _, _, rfl, rfl, hx, x1, _, _, rfl, rfl, wide_mul s2.1 s1.2 (by decide) (by decide) (by decide), _, _, rfl, rfl, ?_⟩
    refine ⟨_, rfl, x, _, _, _, rfl, rfl, hx, x1, _, rfl, y, _, _, _, rfl, rfl, hy, y1, _, _, rfl, rfl, wide_mul s1.2 s2.2 (by decide) (by decide) (by decide), ?_⟩
    have nz : (p.den : Int) * (q.den : Int) ≠ 0 := Int.mul_ne_zero (by have := den_pos p; omega) (by have := den_pos q; omega)
    refine ⟨_, _, rfl, nz, pow_le (add_lt (mul_lt s1.1 s2.2) (mul_lt s2.1 s1.2)) (by decide), pow_le (mul_lt s1.2 s2.2) (by decide), fun r nr => ?_⟩
    rw [rat_add]
    exact kq r nr
theorem scMark : FnScope ["source", "whole"] ["source"] (defScope d_law_mark) := ⟨rfl, rfl, rfl, by decide +kernel, rfl, by decide +kernel, by decide +kernel⟩
theorem ok_mark {f f1 f2 : Addr} {fd fd1 fd2 : FuncData} (F : Fun K "_law_mark" "_law_mark" d_law_mark f fd) (A1 : At P w K mg base CX0 2 "_law_next" ["source", "many"] spNext f1 fd1) (A2 : At P w K mg base CX0 1 "_law_lowered" ["one", "other"] spLowQ f2 fd2) :
    FnOk P w K mg base CX0 3 f fd ["source"] spMark := by
  refine F.ok scMark (fun vs H Q E h => ?_) (fun cdv A outer s H vs Q E hr h => ?_)
  · obtain ⟨_, rfl, _⟩ := h
    rfl
  · obtain ⟨p, rfl, hp, q⟩ := h
    refine ⟨_, pss_cons (ps_set (i := 1) scMark.nd rfl (Or.inl rfl) (pe_ix ix_list (pe_lst (pa_cons (pe_call A1.G hr rfl A1.m A1.k A1.b .nil pass0 (pa_cons (pv 0) (pa_cons pe_int pa_nil))) (pa_cons (pe_call A1.G hr rfl A1.m A1.k A1.b .nil pass0 (pa_cons (pv 0) (pa_cons pe_int pa_nil)))
          (pa_cons (pe_op op_sub pe_int (pe_call A1.G hr rfl A1.m A1.k A1.b .nil pass0 (pa_cons (pv 0) (pa_cons pe_int pa_nil)))) pa_nil)))) (pe_op op_fdiv (pe_call A1.G hr rfl A1.m A1.k A1.b .nil pass0 (pa_cons (pv 0) (pa_cons pe_int pa_nil))) pe_int) (fun _ _ => rfl)))
      (pss_one (ps_ret (pe_call A2.G (hr.mono (by decide)) rfl A2.m A2.k A2.b .nil pass0 (pa_cons (pv 1) (pa_cons (pe_ix ix_list (pe_lst (pa_cons pe_int (pa_cons pe_int (pa_cons pe_int (pa_cons pe_int (pa_cons pe_int pa_nil)))))) (pe_call A1.G hr rfl A1.m A1.k A1.b .nil pass0 (pa_cons (pv 0) (pa_cons pe_int pa_nil))) (fun _ _ => rfl)) pa_nil))))), ?_⟩
    refine ⟨_, rfl, p, 5, rfl, hp, by decide, by decide, fun H1 a b1 w1 a0 a1 => ?_⟩
    refine ⟨_, rfl, p, 40, rfl, w1, by decide, by decide, fun H2 b b2 w2 c0 c1 => ?_⟩
    refine ⟨_, rfl, p, 4, rfl, w2, by decide, by decide, fun H3 c b3 w3 d0 d1 => ?_⟩
    refine ⟨_, _, rfl, rfl, (by show 3 ≤ sizeLine; decide), fun l hl => ?_⟩
    have nl := w3.ne hl
    have b4 : But p H3 (upd H3 l (.lst [.int a, .int b, .int (0 - c)])) := same_but (same1 hl)
    have w4 : SrcAt (upd H3 l (.lst [.int a, .int b, .int (0 - c)])) p := w3.put nl
    have el : (upd H3 l (.lst [.int a, .int b, .int (0 - c)]) : Hp) l = some (.lst [.int a, .int b, .int (0 - c)]) := upd_same
    generalize upd H3 l (.lst [.int a, .int b, .int (0 - c)]) = H4 at *
    refine ⟨_, rfl, p, 7, rfl, w4, by decide, by decide, fun H5 d b5 w5 e0 e1 => ?_⟩
    have el5 := b5 _ _ nl el
    obtain ⟨n, hn, n1⟩ : ∃ n : Int, atI [V.int a, V.int b, V.int (0 - c)] (d / 3) = some (V.int n) ∧ n.natAbs ≤ 40 := by
      have h : d / 3 = 0 ∨ d / 3 = 1 ∨ d / 3 = 2 := by omega
      rcases h with h | h | h <;> rw [h]
      · exact ⟨a, at_k (by decide) rfl, by omega⟩
      · exact ⟨b, at_k (by decide) rfl, by omega⟩
      · exact ⟨0 - c, at_k (by decide) rfl, by omega⟩
    refine ⟨_, _, rfl, rfl, ⟨by decide, by decide⟩, l, _, _, _, rfl, rfl, SqL.of el5, hn, ?_⟩
    refine ⟨_, rfl, (by show 5 ≤ sizeLine; decide), fun l2 hl2 => ?_⟩
    have nl2 := w5.ne hl2
    have b6 : But p H5 (upd H5 l2 (.lst [.int 1, .int 1, .int 2, .int 3, .int 7])) := same_but (same1 hl2)
    have w6 : SrcAt (upd H5 l2 (.lst [.int 1, .int 1, .int 2, .int 3, .int 7])) p := w5.put nl2
    have el2 : (upd H5 l2 (.lst [.int 1, .int 1, .int 2, .int 3, .int 7]) : Hp) l2 = some (.lst [.int 1, .int 1, .int 2, .int 3, .int 7]) := upd_same
    generalize upd H5 l2 (.lst [.int 1, .int 1, .int 2, .int 3, .int 7]) = H6 at *
    refine ⟨_, rfl, p, 5, rfl, w6, by decide, by decide, fun H7 e b7 w7 f0 f1 => ?_⟩
    have el7 := b7 _ _ nl2 el2
    obtain ⟨m, co, hm, m0, mc, c0, cl⟩ : ∃ m co : Nat, atI [V.int 1, V.int 1, V.int 2, V.int 3, V.int 7] e = some (V.int (m : Int)) ∧ m ≠ 0 ∧ 42 = m * co ∧ co ≠ 0 ∧ co ≤ 42 := by
      have h : e = 0 ∨ e = 1 ∨ e = 2 ∨ e = 3 ∨ e = 4 := by omega
      rcases h with h | h | h | h | h <;> rw [h]
      · exact ⟨1, 42, at_k (by decide) rfl, by decide, by decide, by decide, by decide⟩
      · exact ⟨1, 42, at_k (by decide) rfl, by decide, by decide, by decide, by decide⟩
      · exact ⟨2, 21, at_k (by decide) rfl, by decide, by decide, by decide, by decide⟩
      · exact ⟨3, 14, at_k (by decide) rfl, by decide, by decide, by decide, by decide⟩
      · exact ⟨7, 6, at_k (by decide) rfl, by decide, by decide, by decide, by decide⟩
    have mle : m ≤ 42 := Nat.le_of_dvd (by decide) ⟨co, mc⟩
    have up : ∀ x : Nat, x < 2 ^ 6 → x < 2 ^ 4000 := fun x h => Nat.lt_of_lt_of_le h (Nat.pow_le_pow_right (by decide) (by decide))
    refine ⟨l2, _, _, _, rfl, rfl, SqL.of el7, hm, n, (m : Int), rfl, by omega, up _ (by omega), up _ (by omega), fun r hr => ?_⟩
    have B := b1.trans (b2.trans (b3.trans (b4.trans (b5.trans (b6.trans b7)))))
    have nr := w7.ne hr
    refine q _ r _ (B.trans (same_but (same1 hr))) (w7.put nr) (B.none hp hr w7) upd_same (lim_frac rfl mc m0 c0 ?_)
    have : n.natAbs * co ≤ 40 * 42 := Nat.mul_le_mul n1 cl
    exact Nat.lt_of_le_of_lt this (by decide)
end
end K04

namespace K04
open PySem PySem.Spec PyProof.Rows L2
/-! ### what stays where lists alone change -/
def KeepL (H H' : Hp) : Prop := ∀ b o, H b = some o → (∀ xs, o ≠ .lst xs) → H' b = some o
theorem But.keep {p : Addr} {H H' : Hp} (k : But p H H') (s : SrcAt H p) : KeepL H H' := fun _ _ e n => k.nt s e n
theorem keep_same {H H' : Hp} (s : Same H H') : KeepL H H' := fun b o e _ => s b o e
theorem keep_put {H : Hp} {D : Addr} {xs : List V} {o : HO} (e : H D = some (.lst xs)) : KeepL H (upd H D o) := fun b u eb n => by
  rw [upd_ne (fun z => by rw [z, e] at eb; exact n _ (Option.some.inj eb).symm)]
  exact eb
theorem KeepL.trans {H H1 H2 : Hp} (a : KeepL H H1) (b : KeepL H1 H2) : KeepL H H2 := fun c o e n => b c o (a c o e n) n
theorem KeepL.tup {K : PySem.W.Frag} {H H' : Hp} {a : Addr} {xs : List V} (k : KeepL H H') (h : SqT K H a xs) : SqT K H' a xs :=
  h.elim (fun h => .inl (h.elim (fun h => .inl (k _ _ h (fun _ z => nomatch z))) fun ⟨o, h⟩ => .inr ⟨o, k _ _ h (fun _ z => nomatch z)⟩)) fun h => .inr h
theorem KeepL.sh {C : Addr} {H H' : Hp} {a : Addr} {q : Rat} (k : KeepL H H') (h : ShQ C H a q) : ShQ C H' a q := by
  obtain ⟨dx, e⟩ := h
  exact ⟨dx, k _ _ e (fun _ z => nomatch z)⟩
def RowAt (K : PySem.W.Frag) (H : Hp) (t : Addr) (b : Bed) : Prop := ∃ x y, SqT K H t [.int (b.s : Int), .int (b.e : Int), .ref x, .ref y] ∧ PairAt K H x b.lo ∧ PairAt K H y b.hi
theorem KeepL.row {K : PySem.W.Frag} {H H' : Hp} {a : Addr} {b : Bed} (k : KeepL H H') (h : RowAt K H a b) : RowAt K H' a b := by
  obtain ⟨x, y, u, v, w⟩ := h
  exact ⟨x, y, k.tup u, k.tup v, k.tup w⟩
theorem RowAt.mono {K : PySem.W.Frag} {H H' : Hp} {a : Addr} {b : Bed} (h : RowAt K H a b) (s : Same H H') : RowAt K H' a b := (keep_same s).row h
/-- rows of beds in a list of our own -/
def RowsAt (K : PySem.W.Frag) (H : Hp) (l : Addr) (bs : List Bed) : Prop := ∃ ts : List Addr, SqL K H l (ts.map V.ref) ∧ All2 (RowAt K H) ts bs
theorem RowsAt.mono {K : PySem.W.Frag} {H H' : Hp} {a : Addr} {bs : List Bed} (h : RowsAt K H a bs) (s : Same H H') : RowsAt K H' a bs := by
  obtain ⟨ts, u, v⟩ := h
  exact ⟨ts, s.seq u, v.mono fun _ _ _ _ r => r.mono s⟩
theorem RowsAt.but {K : PySem.W.Frag} {H H' : Hp} {p a : Addr} {bs : List Bed} (h : RowsAt K H a bs) (k : But p H H') (s : SrcAt H p) : RowsAt K H' a bs := by
  obtain ⟨ts, u, v⟩ := h
  exact ⟨ts, k.seqR s u, v.mono fun _ _ _ _ r => (k.keep s).row r⟩
theorem WParts.but {K : PySem.W.Frag} {H H' : Hp} {p a : Addr} {pss : List (List Nat)} (h : WParts K H a pss) (k : But p H H') (s : SrcAt H p) : WParts K H' a pss := by
  obtain ⟨ts, u, v⟩ := h
  exact ⟨ts, k.seqR s u, v.mono fun _ _ _ _ r => (k.keep s).tup r⟩
theorem WBeds.but {K : PySem.W.Frag} {C : Addr} {H H' : Hp} {p a : Addr} {bs : List Bed} (h : WBeds K C H a bs) (k : But p H H') (s : SrcAt H p) : WBeds K C H' a bs := by
  obtain ⟨ts, u, v⟩ := h
  refine ⟨ts, k.seqR s u, v.mono fun _ _ _ _ ⟨x, y, r1, r2, r3⟩ => ?_⟩
  have kk := k.keep s
  exact ⟨x, y, kk.tup r1, kk.sh r2, kk.sh r3⟩
theorem But.lstR {p : Addr} {H H' : Hp} (k : But p H H') (s : SrcAt H p) {a : Addr} {ts : List Addr} (h : H a = some (.lst (ts.map V.ref))) : H' a = some (.lst (ts.map V.ref)) :=
  k _ _ (fun z => by
    obtain ⟨_, _, _, e2⟩ := s
    rw [z, e2] at h
    cases ts with
    | nil => cases h
    | cons t r => cases h) h
theorem WebAt.but {K : PySem.W.Frag} {C CW : Addr} {H H' : Hp} {p w : Addr} {W : WebV} (h : WebAt K C CW H w W) (k : But p H H') (s : SrcAt H p) : WebAt K C CW H' w W := by
  obtain ⟨dx, b, pp, e, ⟨ts, u, u2⟩, ⟨us, v, v2⟩, g⟩ := h
  have kk := k.keep s
  refine ⟨dx, b, pp, k.nt s e (fun _ z => nomatch z), ⟨ts, k.lstR s u, u2.mono fun _ _ _ _ ⟨x, y, r1, r2, r3⟩ => ⟨x, y, kk.tup r1, kk.sh r2, kk.sh r3⟩⟩, ⟨us, k.lstR s v, v2.mono fun _ _ _ _ r => kk.tup r⟩, g⟩
/-- a bed as the law draws it -/
structure BedOk (many : Nat) (b : Bed) : Prop where
  up : b.s < b.e
  le : b.e < many
  lt : b.lo < b.hi
  lo : Lim 42 11 b.lo
  hi : Lim 42 13 b.hi
theorem lim_sz42 {k : Nat} {q : Rat} (h : Lim 42 k q) (e : k ≤ 1500) : Sz 1500 q := h.sz (by decide) (Nat.lt_of_lt_of_le (show 42 < 2 ^ 6 by decide) (Nat.pow_le_pow_right (by decide) (by decide))) e
theorem BedOk.good {many : Nat} {b : Bed} (h : BedOk many b) : GoodBed many b := ⟨h.up, h.le, h.lt, lim_sz42 h.lo (by decide), lim_sz42 h.hi (by decide)⟩
structure RowsOk (many : Nat) (bs : List Bed) : Prop where
  few : bs.length ≤ 12
  bed : ∀ b ∈ bs, BedOk many b
  sorted : (bs.map Bed.s).Pairwise (· ≤ ·)
  two : ∀ s, (bs.map Bed.s).count s ≤ 2
theorem Lim.add {M j k n : Nat} {x y : Rat} (hx : Lim M j x) (hy : Lim M k y) (h1 : j < n) (h2 : k < n) : Lim M n (x + y) := by
  obtain ⟨a, e1, l1⟩ := hx
  obtain ⟨b, e2, l2⟩ := hy
  refine ⟨a + b, ?_, ?_⟩
  · rw [e1, e2, Rat.intCast_add]
    generalize ((M : Int) : Rat) = z
    by_cases hz : z = 0
    · rw [hz]
      grind
    · grind
  · have p1 := pow_le l1 (show j ≤ n - 1 by omega)
    have p2 := pow_le l2 (show k ≤ n - 1 by omega)
    have := add_lt p1 p2
    rwa [show n - 1 + 1 = n from by omega] at this
theorem Lim.neg {M k : Nat} {x : Rat} (h : Lim M k x) : Lim M k (-x) := by
  obtain ⟨a, e, l⟩ := h
  refine ⟨-a, ?_, by omega⟩
  rw [e, Rat.intCast_neg]
  generalize ((M : Int) : Rat) = z
  by_cases hz : z = 0
  · rw [hz]
    grind
  · grind
/-- a fraction above 0 -/
def posV (y : Rat) : Rat := if y = 0 then 1 else if y < 0 then -y else y
theorem posV_pos (y : Rat) : 0 < posV y := by
  unfold posV
  by_cases h : y = 0
  · rw [if_pos h]
    decide
  · rw [if_neg h]
    by_cases h2 : y < 0
    · rw [if_pos h2]
      grind
    · rw [if_neg h2]
      grind
theorem posV_lim {y : Rat} (h : Lim 42 11 y) : Lim 42 11 (posV y) := by
  unfold posV
  by_cases h0 : y = 0
  · rw [if_pos h0]
    exact ⟨42, by rw [show (((42 : Nat) : Int) : Rat) = ((42 : Int) : Rat) from rfl]; have := icast_ne (show (42 : Int) ≠ 0 by decide); generalize ((42 : Int) : Rat) = z at *; grind, by decide⟩
  · rw [if_neg h0]
    by_cases h2 : y < 0
    · rw [if_pos h2]
      exact h.neg
    · rw [if_neg h2]
      exact h
theorem posV_pr (y : Rat) : [V.int (((y.num.natAbs : Nat) : Int) + (if y.num = 0 then 1 else 0)), V.int ((y.den : Nat) : Int)] = prV (posV y) := by
  unfold posV prV
  by_cases h : y = 0
  · subst h
    rfl
  · rw [if_neg h]
    have nn : y.num ≠ 0 := fun z => h (Rat.num_eq_zero.mp z)
    rw [if_neg nn]
    by_cases h2 : y < 0
    · rw [if_pos h2]
      have : ¬ 0 ≤ y.num := fun z => absurd (Rat.num_nonneg.mp z) (Rat.not_le.mpr h2)
      rw [show (((y.num.natAbs : Nat) : Int) + 0) = -y.num by omega]
      rfl
    · rw [if_neg h2]
      have : 0 ≤ y.num := Rat.num_nonneg.mpr (Rat.not_lt.mp h2)
      rw [show (((y.num.natAbs : Nat) : Int) + 0) = y.num by omega]
theorem RowsOk.nil {many : Nat} : RowsOk many [] := ⟨by decide, (fun b h => nomatch h), .nil, fun s => by simp⟩
theorem RowsOk.snoc {many i k : Nat} {bs : List Bed} {b : Bed} (h : RowsOk many bs) (few : bs.length < 12) (ob : BedOk many b) (es : b.s = i) (le : ∀ c ∈ bs, c.s ≤ i) (cn : (bs.map Bed.s).count i = k) (k2 : k < 2) :
    RowsOk many (bs ++ [b]) ∧ (∀ c ∈ bs ++ [b], c.s ≤ i) ∧ ((bs ++ [b]).map Bed.s).count i = k + 1 := by
  have mm : ∀ c ∈ bs ++ [b], c ∈ bs ∨ c = b := fun c hc => by
    rcases List.mem_append.mp hc with z | z
    · exact .inl z
    · exact .inr (List.mem_singleton.mp z)
  have cnt : ∀ s, ((bs ++ [b]).map Bed.s).count s = (bs.map Bed.s).count s + if i = s then 1 else 0 := fun s => by
    rw [List.map_append, List.count_append, List.map_cons, List.map_nil, List.count_cons, List.count_nil, es]
    by_cases z : i = s
    · simp [z]
    · simp [z]
  refine ⟨⟨by rw [List.length_append]; exact few, fun c hc => ?_, ?_, fun s => ?_⟩, fun c hc => ?_, ?_⟩
  · rcases mm c hc with z | z
    · exact h.bed c z
    · rw [z]
      exact ob
  · rw [List.map_append, List.pairwise_append]
    refine ⟨h.sorted, by simp, fun a ha b' hb => ?_⟩
    obtain ⟨c, hc, rfl⟩ := List.mem_map.mp ha
    have e : b' = b.s := by simpa using hb
    rw [e, es]
    exact le c hc
  · rw [cnt]
    by_cases z : i = s
    · subst z
      rw [cn, if_pos rfl]
      omega
    · rw [if_neg z]
      exact h.two s
  · rcases mm c hc with z | z
    · exact le c z
    · rw [z, es]
      exact Nat.le_refl _
  · rw [cnt, cn, if_pos rfl]
def spBedsOf (K : PySem.W.Frag) : Sp := fun vs H Q _ => ∃ (p : Addr) (m : Nat), vs = [.ref p, .int (m : Int)] ∧ SrcAt H p ∧ 1 ≤ m ∧ m ≤ 8 ∧
  ∀ (H' : Hp) (l : Addr) (bs : List Bed), But p H H' → SrcAt H' p → H l = none → l ≠ p → RowsAt K H' l bs → RowsOk m bs → Q (.ref l) H'
section
variable {P : Program} {w : World} {K : PySem.W.Frag} {mg : Str → Option Value} {base : Heap}
abbrev boN : List Str := ["source", "many", "found", "place", "k", "finish", "low", "more"]
theorem scBO : FnScope boN ["source", "many"] (defScope d_law_beds_of) := ⟨rfl, rfl, rfl, by decide +kernel, rfl, by decide +kernel, by decide +kernel⟩
theorem ok_bedsOf {f f1 f2 f3 : Addr} {fd fd1 fd2 fd3 : FuncData} (F : Fun K "_law_beds_of" "_law_beds_of" d_law_beds_of f fd) (B : TxtB mg) (hrange : mg "range" = none) (hmin : mg "min" = none)
    (A1 : At P w K mg base CX0 2 "_law_next" ["source", "many"] spNext f1 fd1) (A2 : At P w K mg base CX0 3 "_law_mark" ["source"] spMark f2 fd2) (A3 : At P w K mg base CX0 2 "_law_sum" ["one", "other"] (spTwoP K fun p q => p + q) f3 fd3) :
    FnOk P w K mg base CX0 4 f fd ["source", "many"] (spBedsOf K) := by
  refine F.ok scBO (fun vs H Q E h => ?_) (fun cdv A outer s H vs Q E hr h => ?_)
  · obtain ⟨_, _, rfl, _⟩ := h
    rfl
  · obtain ⟨p, m, rfl, hp, m1, m8, q⟩ := h
    have r2 : Room 2 _ := hr.mono (by decide)
    refine ⟨_, pss_cons (ps_set (i := 2) scBO.nd rfl (Or.inl rfl) (pe_lst pa_nil))
      (pss_cons (ps_for PassesOwn.never rfl (pi_range1 (by rfl) hrange (pa_cons (pe_op op_sub (pv 1) pe_int) pa_nil)) (pg_name (i := 3) scBO.nd rfl (.inl rfl))
        (pss_one (ps_for PassesOwn.never rfl (pi_range1 (by rfl) hrange (pa_cons (pe_callB (call_min2 rfl) (by rfl) hmin (by decide +kernel) (pa_cons (pe_op op_sub pe_int (pe_callB call_len_seq (by rfl) B.len PySem.boot_len (pa_cons (pv 2) pa_nil)))
            (pa_cons (pe_ix ix_list (pe_lst (pa_cons pe_int (pa_cons pe_int (pa_cons pe_int (pa_cons pe_int pa_nil))))) (pe_call A1.G r2 rfl A1.m A1.k A1.b .nil pass0 (pa_cons (pv 0) (pa_cons pe_int pa_nil))) (fun _ _ => rfl)) pa_nil))) pa_nil)) (pg_name (i := 4) scBO.nd rfl (.inl rfl))
          (pss_cons (ps_set (i := 5) scBO.nd rfl (Or.inl rfl) (pe_op op_add (pe_op op_add (pv 3) pe_int) (pe_call A1.G r2 rfl A1.m A1.k A1.b .nil pass0 (pa_cons (pv 0) (pa_cons (pe_op op_sub (pe_op op_sub (pv 1) pe_int) (pv 3)) pa_nil)))))
          (pss_cons (ps_par (i := 6) (j := 7) rfl scBO.nd rfl rfl (by decide) rfl rfl (pa_cons (pe_call A2.G hr rfl A2.m A2.k A2.b .nil pass0 (pa_cons (pv 0) pa_nil)) (pa_cons (pe_call A2.G hr rfl A2.m A2.k A2.b .nil pass0 (pa_cons (pv 0) pa_nil)) pa_nil)) (by rfl))
          (pss_cons (ps_set (i := 7) scBO.nd rfl (Or.inl rfl) (pe_tup (pa_cons (pe_op op_add (pe_callB call_abs (by rfl) B.abs (by decide +kernel) (pa_cons (pe_ix ix_tup (pv 7) pe_int (fun _ _ => rfl)) pa_nil)) (pe_callTy call_int1 (by rfl) B.int (by decide +kernel) (pa_cons (pe_cmpR op_eq (pe_ix ix_tup (pv 7) pe_int (fun _ _ => rfl)) pe_int (nomark _)) pa_nil)))
              (pa_cons (pe_ix ix_tup (pv 7) pe_int (fun _ _ => rfl)) pa_nil))))
          (pss_one (ps_expr (pe_bm PySem.F.plainAttrs_list PySem.F.slot_list_append PySem.F.type_list_append mt_append (pv 2) (pa_cons (pe_tup (pa_cons (pv 3) (pa_cons (pv 5) (pa_cons (pv 6) (pa_cons (pe_call A3.G r2 rfl A3.m A3.k A3.b .nil pass0 (pa_cons (pv 6) (pa_cons (pv 7) pa_nil))) pa_nil))))) pa_nil)))))))))) 
      (pss_one (ps_ret (pv 2)))), ?_⟩
    refine ⟨(by show 0 ≤ sizeLine; decide), fun F hF => ?_⟩
    have nF := hp.ne hF
    have b0 : But p H (upd H F (.lst [])) := same_but (same1 hF)
    have w0 : SrcAt (upd H F (.lst [])) p := hp.put nF
    have eF : (upd H F (.lst []) : Hp) F = some (.lst ([].map V.ref)) := upd_same
    generalize upd H F (.lst []) = H0 at *
    refine ⟨_, rfl, _, _, rfl, rfl, _, rfl, by omega, by omega, ?_⟩
    refine for_range (lo := 0) (n := ((m : Int) - 1).toNat) (fun i σ N => ∃ (v3 v4 v5 v6 v7 : Option V) (ts : List Addr) (bs : List Bed), σ = [some (.ref p), some (.int (m : Int)), some (.ref F), v3, v4, v5, v6, v7] ∧ N F = some (.lst (ts.map V.ref)) ∧ All2 (RowAt K N) ts bs ∧ RowsOk m bs ∧ (∀ b ∈ bs, b.s < i) ∧ SrcAt N p ∧ But p H N)
      ⟨none, none, none, none, none, [], [], rfl, eF, .nil, .nil, (fun b h => nomatch h), w0, b0⟩ ?_ ?_
    · rintro i σ N hi ⟨v3, v4, v5, v6, v7, ts, bs, rfl, eN, hA, ok, ob, wN, bN⟩
      have im : (i : Int) < (m : Int) - 1 := by omega
      refine ⟨_, rfl, F, _, rfl, .inl (SqL.of eN), _, _, rfl, rfl, ?_⟩
      refine ⟨(by show 4 ≤ sizeLine; decide), fun l hl => ?_⟩
      have nl := wN.ne hl
      have s1 : Same N (upd N l (.lst [.int 0, .int 1, .int 2, .int 2])) := same1 hl
      have w1 : SrcAt (upd N l (.lst [.int 0, .int 1, .int 2, .int 2])) p := wN.put nl
      have el : (upd N l (.lst [.int 0, .int 1, .int 2, .int 2]) : Hp) l = some (.lst [.int 0, .int 1, .int 2, .int 2]) := upd_same
      generalize upd N l (.lst [.int 0, .int 1, .int 2, .int 2]) = N1 at *
      refine ⟨_, rfl, p, 4, rfl, w1, by decide, by decide, fun N2 d b2 w2 d0 d1 => ?_⟩
      have el2 := b2 _ _ nl el
      have bN2 : But p N N2 := (same_but s1).trans b2
      obtain ⟨c, hc, c0, c2⟩ : ∃ c : Int, atI [V.int 0, V.int 1, V.int 2, V.int 2] d = some (V.int c) ∧ 0 ≤ c ∧ c ≤ 2 := by
        have h : d = 0 ∨ d = 1 ∨ d = 2 ∨ d = 3 := by omega
        rcases h with h | h | h | h <;> rw [h]
        · exact ⟨0, at_k (by decide) rfl, by decide, by decide⟩
        · exact ⟨1, at_k (by decide) rfl, by decide, by decide⟩
        · exact ⟨2, at_k (by decide) rfl, by decide, by decide⟩
        · exact ⟨2, at_k (by decide) rfl, by decide, by decide⟩
      refine ⟨l, _, _, _, rfl, rfl, SqL.of el2, hc, _, _, rfl, _, rfl, ?_⟩
      have lts : (ts.map V.ref).length = bs.length := by rw [List.length_map, hA.len]
      rw [lts]
      have few := ok.few
      generalize hmn : (if c < 12 - ((bs.length : Nat) : Int) then c else 12 - ((bs.length : Nat) : Int)) = mn
      have mn2 : mn ≤ 2 ∧ mn + bs.length ≤ 12 := by
        rw [← hmn]
        split <;> omega
      have mn0 : 0 ≤ mn := by
        rw [← hmn]
        split <;> omega
      refine ⟨by omega, by omega, ?_⟩
      have bHN2 := bN.trans bN2
      have kN2 := bN2.keep wN
      have z0 : (bs.map Bed.s).count i = 0 := List.count_eq_zero.mpr fun z => by
        obtain ⟨b, hb, e⟩ := List.mem_map.mp z
        have := ob b hb
        omega
      refine for_range (lo := 0) (n := mn.toNat) (fun k σ G => ∃ (v4 v5 v6 v7 : Option V) (ts' : List Addr) (bs' : List Bed), σ = [some (.ref p), some (.int (m : Int)), some (.ref F), some (.int (0 + (i : Int))), v4, v5, v6, v7] ∧ G F = some (.lst (ts'.map V.ref)) ∧ All2 (RowAt K G) ts' bs' ∧ RowsOk m bs' ∧ (∀ b ∈ bs', b.s ≤ i) ∧ (bs'.map Bed.s).count i = k ∧ bs'.length = bs.length + k ∧ SrcAt G p ∧ But p H G)
        ⟨v4, v5, v6, v7, ts, bs, rfl, bN2 _ _ nF eN, hA.mono fun _ _ _ _ r => kN2.row r, ok, fun b hb => Nat.le_of_lt (ob b hb), z0, rfl, w2, bHN2⟩ ?_ ?_
      · rintro k σ G hk ⟨v4, v5, v6, v7, ts', bs', rfl, eG, hA', ok', ob', cn, ln, wG, bG⟩
        refine ⟨_, rfl, _, _, rfl, rfl, _, rfl, _, rfl, _, _, rfl, rfl, _, rfl, _, _, rfl, rfl, p, _, rfl, wG, by omega, by omega, fun G1 d1 b1 w1 e0 e1 => ⟨_, _, rfl, rfl, ?_⟩⟩
        refine ⟨_, rfl, p, rfl, w1, fun G2 x lo b2 w2 nx ex llo => ⟨_, rfl, p, rfl, w2, fun G3 y mo b3 w3 ny ey lmo => ⟨_, _, rfl, ?_⟩⟩⟩
        have m0 : atI (prV mo) 0 = some (.int mo.num) := at_k (by decide) rfl
        have m1' : atI (prV mo) 1 = some (.int ((mo.den : Nat) : Int)) := at_k (by decide) rfl
        have hy : SqT K G3 y (prV mo) := SqT.of ey
        refine ⟨_, rfl, y, _, _, _, rfl, rfl, hy, m0, _, rfl, _, rfl, y, _, _, _, rfl, rfl, hy, m0, rfl, .inr ⟨_, rfl, _, _, rfl, rfl, _, rfl, y, _, _, _, rfl, rfl, hy, m1', (by show 2 ≤ sizeLine; decide), fun z hz => ?_⟩⟩
        have ez : (upd G3 z (.tup [V.int ((if mo.num < 0 then -mo.num else mo.num) + (if decide (V.int mo.num = V.int 0) = true then 1 else 0)), V.int ((mo.den : Nat) : Int)]) : Hp) z = some (.tup (prV (posV mo))) := by
          rw [upd_same, ← posV_pr, absV]
          by_cases c : mo.num = 0
          · rw [c]
            rfl
          · have : ¬ V.int mo.num = V.int 0 := fun z => c (V.int.inj z)
            rw [if_neg c, decide_eq_false this]
            rfl
        have s4 : Same G3 (upd G3 z (.tup [V.int ((if mo.num < 0 then -mo.num else mo.num) + (if decide (V.int mo.num = V.int 0) = true then 1 else 0)), V.int ((mo.den : Nat) : Int)])) := same1 hz
        generalize upd G3 z (.tup [V.int ((if mo.num < 0 then -mo.num else mo.num) + (if decide (V.int mo.num = V.int 0) = true then 1 else 0)), V.int ((mo.den : Nat) : Int)]) = G4 at *
        have k3 : KeepL G2 G3 := b3.keep w2
        have ex4 : G4 x = some (.tup (prV lo)) := s4 _ _ (k3 _ _ ex (fun _ z => nomatch z))
        have bG3 := b1.trans (b2.trans b3)
        have eF3 := bG3 _ _ nF eG
        have eF4 := s4 _ _ eF3
        have kG4 : KeepL G G4 := ((b1.keep wG).trans ((b2.keep w1).trans k3)).trans (keep_same s4)
        refine ⟨_, rfl, .inl ⟨rfl, _, SqL.of eF4⟩, _, rfl, _, rfl, _, rfl, _, rfl, _, rfl, x, z, lo, posV mo, rfl, SqT.of ex4, SqT.of ez, lim_sz42 llo (by decide), lim_sz42 (posV_lim lmo) (by decide), fun u hu => ?_⟩
        have s5 : Same G4 (upd G4 u (.tup (prV (lo + posV mo)))) := same1 hu
        have eu : (upd G4 u (.tup (prV (lo + posV mo))) : Hp) u = some (.tup (prV (lo + posV mo))) := upd_same
        generalize upd G4 u (.tup (prV (lo + posV mo))) = G5 at *
        refine ⟨(by show 4 ≤ sizeLine; decide), fun t ht => ?_⟩
        have s6 : Same G5 (upd G5 t (.tup [.int (0 + (i : Int)), .int (0 + (i : Int) + 1 + d1), .ref x, .ref u])) := same1 ht
        have et : (upd G5 t (.tup [.int (0 + (i : Int)), .int (0 + (i : Int) + 1 + d1), .ref x, .ref u]) : Hp) t = some (.tup [.int (0 + (i : Int)), .int (0 + (i : Int) + 1 + d1), .ref x, .ref u]) := upd_same
        generalize upd G5 t (.tup [.int (0 + (i : Int)), .int (0 + (i : Int) + 1 + d1), .ref x, .ref u]) = G6 at *
        have s46 := s5.trans s6
        have eF6 := s46 _ _ eF4
        have few' := ok'.few
        refine ⟨F, _, _, rfl, rfl, eF6, ?_, ?_⟩
        · rw [List.length_map, hA'.len]
          exact Nat.lt_of_le_of_lt few' (show 12 < sizeLine by decide)
        have k7 : KeepL G6 (upd G6 F (.lst (ts'.map V.ref ++ [V.ref t]))) := keep_put eF6
        have kG7 : KeepL G (upd G6 F (.lst (ts'.map V.ref ++ [V.ref t]))) := kG4.trans ((keep_same s46).trans k7)
        have bd : RowAt K (upd G6 F (.lst (ts'.map V.ref ++ [V.ref t]))) t ⟨i, i + 1 + d1.toNat, lo, lo + posV mo⟩ := by
          refine ⟨x, u, SqT.of (k7 _ _ ?_ (fun _ z => nomatch z)), SqT.of (k7 _ _ (s46 _ _ ex4) (fun _ z => nomatch z)), SqT.of (k7 _ _ (s6 _ _ eu) (fun _ z => nomatch z))⟩
          rw [et]
          show some (HO.tup [V.int (0 + (i : Int)), V.int (0 + (i : Int) + 1 + d1), V.ref x, V.ref u]) = some (HO.tup [V.int ((i : Nat) : Int), V.int ((i + 1 + d1.toNat : Nat) : Int), V.ref x, V.ref u])
          rw [show 0 + (i : Int) = ((i : Nat) : Int) from by omega, show ((i : Nat) : Int) + 1 + d1 = ((i + 1 + d1.toNat : Nat) : Int) from by omega]
        have kmn : k < mn.toNat := hk
        obtain ⟨g1, g2, g3⟩ := ok'.snoc (b := ⟨i, i + 1 + d1.toNat, lo, lo + posV mo⟩) (by omega) ⟨by show i < i + 1 + d1.toNat; omega, by show i + 1 + d1.toNat < m; omega, by
          have := posV_pos mo
          show lo < lo + posV mo
          grind, llo, llo.add (posV_lim lmo) (by decide) (by decide)⟩ rfl ob' cn (by omega)
        refine ⟨_, _, _, _, ts' ++ [t], _, rfl, by rw [List.map_append]; exact upd_same, (hA'.mono fun _ _ _ _ r => kG7.row r).snoc bd, g1, g2, g3, by rw [List.length_append, ln]; rfl, ?_, fun a o na ea => ?_⟩
        · exact ((w3.same s4).same s46).put nF
        · have := (s4.trans s46) _ _ (bG3 _ _ na (bG _ _ na ea))
          rw [upd_ne (ne_of_none ea hF)]
          exact this
      · rintro σ G ⟨v4, v5, v6, v7, ts', bs', rfl, eG, hA', ok', ob', cn, ln, wG, bG⟩
        exact ⟨_, v4, v5, v6, v7, ts', bs', rfl, eG, hA', ok', fun b hb => Nat.lt_succ_of_le (ob' b hb), wG, bG⟩
    · rintro σ N ⟨v3, v4, v5, v6, v7, ts, bs, rfl, eN, hA, ok, ob, wN, bN⟩
      exact ⟨_, rfl, q N F bs bN wN hF nF ⟨ts, SqL.of eN, hA⟩ ok⟩
end
end K04

namespace K04
open PySem PySem.Spec PyProof.Rows L2
/-! ### tuple(..) of a list or a tuple -/
def rTupO (K : PySem.W.Frag) : List V → Hp → VK → Prop := fun xs H Q => ∃ p ys, xs = [.ref p] ∧ ((SqL K H p ys ∧ ∀ l, H l = none → Q (.ref l) (upd H l (.tup ys))) ∨ (SqT K H p ys ∧ Q (.ref p) H))
theorem cr_tup {X : Cx} {K : PySem.W.Frag} (e : X.K = K) : CallR X (.type "tuple") (rTupO K) := by
  subst e
  exact call_tuple_of
end K04

namespace K04
open PySem PySem.Spec PyProof.Rows L2
/-! ### sum(t) of a tuple of ints -/
def rSumT (K : PySem.W.Frag) : List V → Hp → VK → Prop := fun vs H Q => ∃ (a : Addr) (ns : List Int), vs = [V.ref a] ∧ SqT K H a (ns.map V.int) ∧ Q (.int ns.sum) H
theorem cr_sumT {X : Cx} (hc : X.calm = true) : CallR X (.builtin "sum") (rSumT X.K) := by
  intro pins s σ H vs us Q I r h
  obtain ⟨a, ns, rfl, hs, q⟩ := h
  obtain ⟨its, rv, ht, hz⟩ := I.tuple hs
  rw [Vals.ref1 r]
  have hi : IntsAre its ns := ints_of_vals rv
  have ht : s.heap.IsTuple a its.toArray := ht
  obtain ⟨xs, hx⟩ := hi.allInts.items
  have hn : numsOf its.toArray.toList = ns := by rw [show its.toArray.toList = its from rfl, hi.numsOf]
  rw [hx] at ht hn
  rw [nums_intItems] at hn
  refine PySem.W.ktm_sumG (I.ok.hd hc) ht fun h' tk t' hk => ?_
  rw [preSum_eq, List.take_of_length_le (by simp), hn]
  exact ⟨.int _, H, I.kept hk, ⟨_, rfl⟩, q⟩
end K04

namespace K04
open PySem PySem.Spec PyProof.Rows L2
theorem sum_cast : ∀ ps : List Nat, (ps.map fun n : Nat => (n : Int)).sum = ((ps.sum : Nat) : Int)
  | [] => rfl
  | a :: r => by
    rw [List.map_cons, List.sum_cons, sum_cast r, List.sum_cons]
    omega
theorem natV_map (ps : List Nat) : ps.map natV = (ps.map fun n : Nat => (n : Int)).map V.int := by
  rw [List.map_map]
  rfl
theorem All2.app {α β : Type} {R : α → β → Prop} {as as' : List α} {bs bs' : List β} (h : All2 R as bs) (g : All2 R as' bs') : All2 R (as ++ as') (bs ++ bs') := by
  refine ⟨by rw [List.length_append, List.length_append, h.len, g.len], fun i x y hx hy => ?_⟩
  by_cases c : i < as.length
  · rw [List.getElem?_append_left c] at hx
    rw [List.getElem?_append_left (by rw [← h.len]; exact c)] at hy
    exact h.all i x y hx hy
  · rw [List.getElem?_append_right (by omega)] at hx
    rw [List.getElem?_append_right (by rw [← h.len]; omega), ← h.len] at hy
    exact g.all _ x y hx hy
end K04

namespace K04
open PySem PySem.Spec PyProof.Rows L2
/-! ### a web of the law's, and the program's of it -/
def WorldAt (K : PySem.W.Frag) (H : Hp) (t : Addr) (W : WebV) : Prop := ∃ rl sl, SqT K H t [.int (W.many : Int), .ref rl, .ref sl] ∧ RowsAt K H rl W.beds ∧ WParts K H sl W.parts
theorem WorldAt.mono {K : PySem.W.Frag} {H H' : Hp} {t : Addr} {W : WebV} (h : WorldAt K H t W) (s : Same H H') : WorldAt K H' t W := by
  obtain ⟨rl, sl, u, v, w⟩ := h
  exact ⟨rl, sl, Same.tup s u, v.mono s, w.mono s⟩
theorem WorldAt.but {K : PySem.W.Frag} {H H' : Hp} {p t : Addr} {W : WebV} (h : WorldAt K H t W) (k : But p H H') (s : SrcAt H p) : WorldAt K H' t W := by
  obtain ⟨rl, sl, u, v, w⟩ := h
  exact ⟨rl, sl, (k.keep s).tup u, v.but k s, w.but k s⟩
structure WorldOk (W : WebV) : Prop where
  m1 : 1 ≤ W.many
  m8 : W.many ≤ 8
  rows : RowsOk W.many W.beds
  plen : W.parts.length = W.many
  part : ∀ (i : Nat) (ps : List Nat), W.parts[i]? = some ps → GoodParts ((starts W).count i) ps
theorem WorldOk.good {W : WebV} (h : WorldOk W) : GoodWeb W := ⟨h.m1, h.m8, h.rows.few, fun b hb => (h.rows.bed b hb).good, h.rows.sorted, h.rows.two, h.plen, h.part⟩
def spWorld (K : PySem.W.Frag) : Sp := fun vs H Q _ => ∃ (p : Addr) (m : Nat), vs = [.ref p, .int (m : Int)] ∧ SrcAt H p ∧ 1 ≤ m ∧ m ≤ 8 ∧
  ∀ (H' : Hp) (t : Addr) (W : WebV), But p H H' → SrcAt H' p → WorldAt K H' t W → WorldOk W → W.many ≤ m → Q (.ref t) H'
theorem sum_some : ∀ {ps : List Nat}, ps.sum ≠ 0 → ∃ p ∈ ps, p ≠ 0
  | [], h => absurd rfl h
  | a :: r, h => by
    by_cases c : a = 0
    · subst c
      rw [List.sum_cons, Nat.zero_add] at h
      obtain ⟨p, hp, p0⟩ := sum_some h
      exact ⟨p, List.mem_cons_of_mem _ hp, p0⟩
    · exact ⟨a, List.mem_cons_self .., c⟩
theorem cut1 (a b : V) : cutV [a] (some 1) none = [] ∧ cutV [a, b] (some 1) none = [b] := ⟨rfl, rfl⟩
section
variable {P : Program} {w : World} {K : PySem.W.Frag} {mg : Str → Option Value} {base : Heap}
abbrev woN : List Str := ["source", "most_places", "many", "rows", "shared", "place", "wanted", "one", "some", "k"]
theorem scWo : FnScope woN ["source", "most_places"] (defScope d_law_world) := ⟨rfl, rfl, rfl, by decide +kernel, rfl, by decide +kernel, by decide +kernel⟩
theorem ok_world {f f1 f2 C : Addr} {fd fd1 fd2 : FuncData} (F : Fun K "_law_world" "_law_world" d_law_world f fd) (Y : TxtW mg C) (hrange : mg "range" = none) (hsum : mg "sum" = none)
    (A1 : At P w K mg base CX0 2 "_law_next" ["source", "many"] spNext f1 fd1) (A2 : At P w K mg base CX0 4 "_law_beds_of" ["source", "many"] (spBedsOf K) f2 fd2) : FnOk P w K mg base CX0 5 f fd ["source", "most_places"] (spWorld K) := by
  refine F.ok scWo (fun vs H Q E h => ?_) (fun cdv A outer s H vs Q E hr h => ?_)
  · obtain ⟨_, _, rfl, _⟩ := h
    rfl
  · obtain ⟨p, m, rfl, hp, m1, m8, q⟩ := h
    have r2 : Room 2 _ := hr.mono (by decide)
    refine ⟨_, pss_cons (ps_set (i := 2) scWo.nd rfl (Or.inl rfl) (pe_op op_add pe_int (pe_call A1.G r2 rfl A1.m A1.k A1.b .nil pass0 (pa_cons (pv 0) (pa_cons (pv 1) pa_nil)))))
      (pss_cons (ps_set (i := 3) scWo.nd rfl (Or.inl rfl) (pe_call A2.G hr rfl A2.m A2.k A2.b .nil pass0 (pa_cons (pv 0) (pa_cons (pv 2) pa_nil))))
      (pss_cons (ps_set (i := 4) scWo.nd rfl (Or.inl rfl) (pe_lst pa_nil))
      (pss_cons (ps_for PassesOwn.never rfl (pi_range1 (by rfl) hrange (pa_cons (pv 2) pa_nil)) (pg_name (i := 5) scWo.nd rfl (.inr rfl))
        (pss_cons (ps_set (i := 6) scWo.nd rfl (Or.inl rfl) (pe_callB call_len_seq (by rfl) Y.len PySem.boot_len (pa_cons
          (pe_lc (own := [("one", 7)]) (g := gName 7) (by rfl) scWo.nd (pi_list (pv 3)) (blkOk_by (own := [("one", 7)]) (N := woN) (sc := defScope d_law_world) (by decide +kernel)) (fun _ _ _ _ _ => pg_name (i := 7) scWo.nd rfl (.inl rfl))
            (fun _ _ _ _ _ => pts_one (pt_cmpR op_eq (pe_ix (show IxR _ (rIxT K) from ix_tup) (pv 7) pe_int (fun _ _ => rfl)) (pv 5) (nomark _))) (fun _ _ _ _ _ => pv 7)) pa_nil)))
        (pss_cons (ps_set (i := 8) scWo.nd rfl (Or.inl rfl) (pe_callTy (cr_tup (K := K) rfl) (by rfl) Y.tuple (by decide +kernel) (pa_cons
          (pe_lc (own := [("k", 9)]) (g := gName 9) (by rfl) scWo.nd (pi_range1 (by rfl) hrange (pa_cons (pv 6) pa_nil)) (blkOk_by (own := [("k", 9)]) (N := woN) (sc := defScope d_law_world) (by decide +kernel)) (fun _ _ _ _ _ => pg_name (i := 9) scWo.nd rfl (.inl rfl)) (fun _ _ _ _ _ => pts_nil)
            (fun _ _ _ _ _ => pe_call A1.G r2 rfl A1.m A1.k A1.b .nil pass0 (pa_cons (pv 0) (pa_cons (pe_ix (show IxR _ (rIxL K) from ix_list) (pe_lst (pa_cons pe_int (pa_cons pe_int pa_nil))) (pe_call A1.G r2 rfl A1.m A1.k A1.b .nil pass0 (pa_cons (pv 0) (pa_cons pe_int pa_nil))) (fun _ _ => rfl)) pa_nil)))) pa_nil)))
        (pss_cons (ps_if (PW.pt (pw_and (pt_cmpR op_gt (pv 6) pe_int (nomark _)) (pw_and1 (pt_cmpR op_eq (pe_callB (cr_sumT rfl) (by rfl) hsum (by decide +kernel) (pa_cons (pv 8) pa_nil)) pe_int (nomark _)))))
          (pss_one (ps_set (i := 8) scWo.nd rfl (Or.inl rfl) (pe_op op_catT (pe_tup (pa_cons (pe_op op_add pe_int (pe_call A1.G r2 rfl A1.m A1.k A1.b .nil pass0 (pa_cons (pv 0) (pa_cons pe_int pa_nil)))) pa_nil)) (pe_slice sl_tupA (pv 8) (po_some pe_int) po_none)))) pss_nil)
        (pss_one (ps_expr (pe_bm PySem.F.plainAttrs_list PySem.F.slot_list_append PySem.F.type_list_append mt_append (pv 4) (pa_cons (pv 8) pa_nil))))))))
      (pss_one (ps_ret (pe_tup (pa_cons (pv 2) (pa_cons (pv 3) (pa_cons (pv 4) pa_nil))))))))), ?_⟩
    refine ⟨_, rfl, _, rfl, p, _, rfl, hp, by omega, by omega, fun H1 d b1 w1 d0 d1 => ⟨_, _, rfl, rfl, ?_⟩⟩
    obtain ⟨mm, hmm⟩ : ∃ mm : Nat, 1 + d = (mm : Int) := ⟨(1 + d).toNat, by omega⟩
    show gName 2 (V.int (1 + d)) _ H1 _
    rw [hmm]
    refine ⟨_, rfl, _, rfl, p, mm, rfl, w1, by omega, by omega, fun H2 rl bs b2 w2 nrl rlp ⟨ts, hts, hA⟩ ok => ?_⟩
    refine ⟨(by show 0 ≤ sizeLine; decide), fun S hS => ?_⟩
    have nS := w2.ne hS
    have b3 : But p H2 (upd H2 S (.lst [])) := same_but (same1 hS)
    have s3 : Same H2 (upd H2 S (.lst [])) := same1 hS
    have w3 : SrcAt (upd H2 S (.lst [])) p := w2.put nS
    have eS : (upd H2 S (.lst []) : Hp) S = some (.lst ([].map V.ref)) := upd_same
    generalize upd H2 S (.lst []) = H3 at *
    refine ⟨_, rfl, _, rfl, by omega, by omega, ?_⟩
    refine for_range (lo := 0) (n := ((mm : Int)).toNat) (fun i σ N => ∃ (v5 v6 v8 : Option V) (us : List Addr) (pss : List (List Nat)), σ = [some (.ref p), some (.int (m : Int)), some (.int (mm : Int)), some (.ref rl), some (.ref S), v5, v6, none, v8, none] ∧
        N S = some (.lst (us.map V.ref)) ∧ All2 (PartsAt K N) us pss ∧ pss.length = i ∧ (∀ (j : Nat) (ps : List Nat), pss[j]? = some ps → GoodParts ((bs.map Bed.s).count j) ps) ∧ SrcAt N p ∧ But p H2 N)
      ⟨none, none, none, [], [], rfl, eS, .nil, rfl, (fun j ps h => by simp at h), w3, b3⟩ ?_ ?_
    · rintro i σ N hi ⟨v5, v6, v8, us, pss, rfl, eN, hU, lp, gp, wN, bN⟩
      have hrl : SqL K N rl (ts.map V.ref) := bN.seqR w2 hts
      have hAN : All2 (RowAt K N) ts bs := hA.mono fun _ _ _ _ r => (bN.keep w2).row r
      refine ⟨_, rfl, rl, rfl, ⟨_, hrl⟩, fun D hD => ?_⟩
      refine lc_list (K := K) (a := rl) (xs := ts.map V.ref) (fun j M => ∃ qs : List Addr, M D = some (.lst (qs.map V.ref)) ∧ qs.length = ((bs.take j).map Bed.s).count i ∧ Same N M) ⟨[], upd_same, rfl, same1 hD⟩ ?_ ?_ ?_
      · rintro j M _ ⟨_, _, _, sM⟩
        exact sM.seq hrl
      · rintro j x M hx ⟨qs, eD, lq, sM⟩
        rw [List.getElem?_map] at hx
        obtain ⟨t, ht, rfl⟩ := Option.map_eq_some_iff.mp hx
        have jl : j < bs.length := by
          have := (List.getElem?_eq_some_iff.mp ht).1
          have := hA.len
          omega
        have hb : bs[j]? = some bs[j] := List.getElem?_eq_getElem jl
        obtain ⟨_, _, q1, _, _⟩ := (hAN.all j t _ ht hb).mono sM
        have few := ok.few
        have nxt : ((bs.take (j + 1)).map Bed.s).count i = ((bs.take j).map Bed.s).count i + if bs[j].s = i then 1 else 0 := by
          rw [List.take_succ_eq_append_getElem jl, List.map_append, List.count_append, List.map_cons, List.map_nil, List.count_cons, List.count_nil]
          by_cases c : bs[j].s = i
          · simp [c]
          · simp [c]
        refine ⟨rfl, _, rfl, t, _, _, _, rfl, rfl, q1, at_k (by decide) rfl, _, rfl, rfl, _, rfl, ?_⟩
        refine ite2 (fun h => ?_) (fun h => ?_)
        · have h : ((bs[j].s : Nat) : Int) = 0 + (i : Int) := V.int.inj (of_decide_eq_true h)
          refine ⟨_, rfl, _, eD, ?_, qs ++ [t], by rw [List.map_append]; exact upd_same, ?_, fun a o ea => ?_⟩
          · rw [List.length_map, lq]
            refine Nat.lt_of_le_of_lt List.count_le_length ?_
            rw [List.length_map, List.length_take]
            exact Nat.lt_of_le_of_lt (Nat.min_le_left _ _) (Nat.lt_of_lt_of_le (show j < 12 by omega) (show 12 ≤ sizeLine by decide))
          · rw [List.length_append, lq, nxt, if_pos (by omega)]
            rfl
          · rw [upd_ne (ne_of_none ea hD)]
            exact sM _ _ ea
        · have h : ¬ ((bs[j].s : Nat) : Int) = 0 + (i : Int) := fun z => h (decide_eq_true (by rw [z]))
          refine ⟨qs, eD, ?_, sM⟩
          rw [lq, nxt, if_neg (by omega)]
          rfl
      · rintro M ⟨qs, eD, lq, sM⟩
        rw [List.length_map, hA.len, List.take_length] at lq
        have two := ok.two i
        refine ⟨D, _, rfl, .inl (SqL.of eD), ?_⟩
        rw [show (qs.map V.ref).length = qs.length from List.length_map ..]
        have wM := wN.same sM
        refine ⟨_, rfl, _, rfl, by omega, by omega, fun G hG => ?_⟩
        have nG := wM.ne hG
        refine lc_range (lo := 0) (n := ((qs.length : Int)).toNat) (fun j M2 => ∃ ps : List Nat, M2 G = some (.lst (ps.map natV)) ∧ ps.length = j ∧ (∀ a ∈ ps, a ≤ 9) ∧ SrcAt M2 p ∧ But p M M2) ⟨[], upd_same, rfl, (fun a h => nomatch h), wM.put nG, same_but (same1 hG)⟩ ?_ ?_
        · rintro j M2 hj ⟨ps, eG, lps, h9, w4, b4⟩
          refine ⟨rfl, _, rfl, (by show 2 ≤ sizeLine; decide), fun l hl => ?_⟩
          have nl := w4.ne hl
          have s5 : Same M2 (upd M2 l (.lst [.int 2, .int 10])) := same1 hl
          have w5 : SrcAt (upd M2 l (.lst [.int 2, .int 10])) p := w4.put nl
          have el : (upd M2 l (.lst [.int 2, .int 10]) : Hp) l = some (.lst [.int 2, .int 10]) := upd_same
          generalize upd M2 l (.lst [.int 2, .int 10]) = M3 at *
          refine ⟨_, rfl, p, 2, rfl, w5, by decide, by decide, fun M4 e b6 w6 e0 e1 => ?_⟩
          have el2 := b6 _ _ nl el
          obtain ⟨c, hc, c1, c2⟩ : ∃ c : Int, atI [V.int 2, V.int 10] e = some (V.int c) ∧ 0 < c ∧ c ≤ 10 := by
            have h : e = 0 ∨ e = 1 := by omega
            rcases h with h | h <;> rw [h]
            · exact ⟨2, at_k (by decide) rfl, by decide, by decide⟩
            · exact ⟨10, at_k (by decide) rfl, by decide, by decide⟩
          refine ⟨l, _, _, _, rfl, rfl, SqL.of el2, hc, p, c, rfl, w6, c1, by omega, fun M5 v b7 w7 v0 v1 => ?_⟩
          have bM5 := (same_but s5).trans (b6.trans b7)
          have eG5 := bM5 _ _ nG eG
          refine ⟨_, eG5, ?_, ps ++ [v.toNat], ?_, ?_, ?_, w7.put nG, fun a o na ea => ?_⟩
          · rw [List.length_map, lps]
            exact Nat.lt_of_lt_of_le (show j < 12 by omega) (show 12 ≤ sizeLine by decide)
          · rw [List.map_append, upd_same]
            show some (HO.lst (_ ++ [V.int v])) = some (HO.lst (_ ++ [V.int ((v.toNat : Nat) : Int)]))
            rw [show ((v.toNat : Nat) : Int) = v by omega]
          · rw [List.length_append, lps]
            rfl
          · intro a ha
            rcases List.mem_append.mp ha with z | z
            · exact h9 a z
            · rw [List.mem_singleton.mp z]
              omega
          · have := bM5 _ _ na (b4 _ _ na ea)
            rw [upd_ne (ne_of_none ea hG)]
            exact this
        · rintro M2 ⟨ps, eG, lps, h9, w4, b4⟩
          rw [Int.toNat_natCast] at lps
          refine ⟨G, _, rfl, .inl ⟨SqL.of eG, fun t ht => ?_⟩⟩
          have s5 : Same M2 (upd M2 t (.tup (ps.map natV))) := same1 ht
          have w5 := w4.same s5
          have et : (upd M2 t (.tup (ps.map natV)) : Hp) t = some (.tup (ps.map natV)) := upd_same
          generalize upd M2 t (.tup (ps.map natV)) = M3 at *
          have bN3 : But p N M3 := (same_but sM).trans (b4.trans (same_but s5))
          have fin : ∀ (G3 : Hp) (u : Addr) (ps' : List Nat), But p M3 G3 → SrcAt G3 p → PartsAt K G3 u ps' → GoodParts qs.length ps' →
              ∃ lp xs v, V.ref S = .ref lp ∧ [V.ref u] = [v] ∧ G3 lp = some (.lst xs) ∧ xs.length < sizeLine ∧ ∃ (v5 v6 v8 : Option V) (us : List Addr) (pss : List (List Nat)), [some (V.ref p), some (V.int (m : Int)), some (V.int (mm : Int)), some (V.ref rl), some (V.ref S), some (V.int (0 + (i : Int))), some (V.int (qs.length : Int)), none, some (V.ref u), none] = [some (.ref p), some (.int (m : Int)), some (.int (mm : Int)), some (.ref rl), some (.ref S), v5, v6, none, v8, none] ∧
                upd G3 lp (.lst (xs ++ [v])) S = some (.lst (us.map V.ref)) ∧ All2 (PartsAt K (upd G3 lp (.lst (xs ++ [v])))) us pss ∧ pss.length = i + 1 ∧ (∀ (j : Nat) (ps : List Nat), pss[j]? = some ps → GoodParts ((bs.map Bed.s).count j) ps) ∧ SrcAt (upd G3 lp (.lst (xs ++ [v]))) p ∧ But p H2 (upd G3 lp (.lst (xs ++ [v]))) := fun G3 u ps' b6 w6 hu gps => by
            have bG := bN3.trans b6
            have eS3 := bG _ _ nS eN
            have k7 : KeepL G3 (upd G3 S (.lst (us.map V.ref ++ [V.ref u]))) := keep_put eS3
            refine ⟨S, _, _, rfl, rfl, eS3, ?_, _, _, _, us ++ [u], pss ++ [ps'], rfl, by rw [List.map_append]; exact upd_same, ?_, by rw [List.length_append, lp]; rfl, fun j ps0 hj => ?_, w6.put nS, fun a o na ea => ?_⟩
            · rw [List.length_map, hU.len, lp]
              exact Nat.lt_of_lt_of_le (show i < 12 by omega) (show 12 ≤ sizeLine by decide)
            · have kk : KeepL N (upd G3 S (.lst (us.map V.ref ++ [V.ref u]))) := (bG.keep wN).trans k7
              exact (hU.mono fun _ _ _ _ r => kk.tup r).snoc (k7.tup hu)
            · by_cases c : j < pss.length
              · rw [List.getElem?_append_left c] at hj
                exact gp j ps0 hj
              · rw [List.getElem?_append_right (by omega)] at hj
                have c0 : j - pss.length = 0 := by
                  have := (List.getElem?_eq_some_iff.mp hj).1
                  simp at this
                  omega
                rw [c0] at hj
                have e : ps' = ps0 := by simpa using hj
                rw [← e, show j = i from by omega, ← lq]
                exact gps
            · have := bG _ _ na (bN _ _ na ea)
              rw [upd_ne (ne_of_none ea hS)]
              exact this
          have lq2 : ps.length = qs.length := lps
          refine ⟨_, rfl, _, _, rfl, rfl, _, rfl, ?_⟩
          refine ite2 (fun h => ?_) (fun h => ?_)
          · have h0 : 0 < qs.length := by
              have h : (0 : Int) < ((qs.length : Nat) : Int) := of_decide_eq_true h
              omega
            refine ⟨_, rfl, t, ps.map (fun n : Nat => (n : Int)), rfl, (by rw [← natV_map]; exact SqT.of et), ?_⟩
            rw [sum_cast]
            refine ⟨rfl, _, rfl, ?_⟩
            refine ite2 (fun h2 => ?_) (fun h2 => ?_)
            · refine ⟨_, rfl, p, 9, rfl, w5, by decide, by decide, fun M4 v b6 w6 v0 v1 => ⟨_, _, rfl, rfl, (by show 1 ≤ sizeLine; decide), fun a ha => ?_⟩⟩
              have s7 : Same M4 (upd M4 a (.tup [.int (1 + v)])) := same1 ha
              have ea : (upd M4 a (.tup [.int (1 + v)]) : Hp) a = some (.tup [natV (1 + v.toNat)]) := by
                rw [upd_same]
                show some (HO.tup [V.int (1 + v)]) = some (HO.tup [V.int ((1 + v.toNat : Nat) : Int)])
                rw [show ((1 + v.toNat : Nat) : Int) = 1 + v by omega]
              have w7 := w6.same s7
              generalize upd M4 a (.tup [.int (1 + v)]) = M5 at *
              have b57 := b6.trans (same_but s7)
              have et5 := (b57.keep w5) _ _ et (fun _ z => nomatch z)
              have more : ∀ (ps' : List Nat) (M6 : Hp) (u : Addr), Same M5 M6 → M6 u = some (.tup (ps'.map natV)) → ps'.length = qs.length → (∀ a ∈ ps', a ≤ 9) → (∃ a ∈ ps', a ≠ 0) → But p M3 M6 ∧ SrcAt M6 p ∧ PartsAt K M6 u ps' ∧ GoodParts qs.length ps' ∧ M6 S = some (.lst (us.map V.ref)) := fun ps' M6 u s8 e8 l8 n8 o8 =>
                ⟨b57.trans (same_but s8), w7.same s8, SqT.of e8, ⟨l8, n8, by omega, .inr o8⟩, s8 _ _ (b57 _ _ nS (bN3 _ _ nS eN))⟩
              match hps : ps, lq2 with
              | [], z => exact absurd z (by rw [List.length_nil]; omega)
              | [x], z =>
                refine ⟨_, rfl, _, rfl, t, [natV x], rfl, SqT.of et5, fun ⟨y, _⟩ => absurd y (show ¬ HT.sIx 1 0 (some 1) = 0 from by decide), fun _ r hr => ?_⟩
                have s8 : Same M5 (upd M5 r (.tup (cutV [natV x] (some 1) none))) := same1 hr
                have e8 : (upd M5 r (.tup (cutV [natV x] (some 1) none)) : Hp) r = some (.tup []) := upd_same
                generalize upd M5 r (.tup (cutV [natV x] (some 1) none)) = M6 at *
                refine ⟨a, r, _, _, rfl, rfl, SqT.of (s8 _ _ ea), SqT.of e8, (fun z => nomatch z), (by show 1 ≤ sizeLine; decide), fun _ => ?_, fun z => absurd rfl z⟩
                obtain ⟨g1, g2, g3, g4, g5⟩ := more [1 + v.toNat] M6 a s8 (s8 _ _ ea) z (fun c hc => by rw [List.mem_singleton.mp hc]; omega) ⟨_, List.mem_singleton.mpr rfl, by omega⟩
                exact ⟨_, rfl, .inl ⟨rfl, _, SqL.of g5⟩, _, rfl, fin M6 a _ g1 g2 g3 g4⟩
              | [x, y], z =>
                refine ⟨_, rfl, _, rfl, t, [natV x, natV y], rfl, SqT.of et5, fun ⟨y, _⟩ => absurd y (show ¬ HT.sIx 2 0 (some 1) = 0 from by decide), fun _ r hr => ?_⟩
                have s8 : Same M5 (upd M5 r (.tup (cutV [natV x, natV y] (some 1) none))) := same1 hr
                have e8 : (upd M5 r (.tup (cutV [natV x, natV y] (some 1) none)) : Hp) r = some (.tup [natV y]) := upd_same
                generalize upd M5 r (.tup (cutV [natV x, natV y] (some 1) none)) = M6 at *
                refine ⟨a, r, _, _, rfl, rfl, SqT.of (s8 _ _ ea), SqT.of e8, (fun z => nomatch z), (by show 2 ≤ sizeLine; decide), (fun z => nomatch z), fun _ u hu => ?_⟩
                have s9 : Same M6 (upd M6 u (.tup ([natV (1 + v.toNat)] ++ [natV y]))) := same1 hu
                have e9 : (upd M6 u (.tup ([natV (1 + v.toNat)] ++ [natV y])) : Hp) u = some (.tup ([1 + v.toNat, y].map natV)) := upd_same
                generalize upd M6 u (.tup ([natV (1 + v.toNat)] ++ [natV y])) = M7 at *
                obtain ⟨g1, g2, g3, g4, g5⟩ := more [1 + v.toNat, y] M7 u (s8.trans s9) e9 z (fun c hc => by
                  rcases List.mem_cons.mp hc with q1 | q1
                  · omega
                  · rw [List.mem_singleton.mp q1]
                    exact h9 y (by simp)) ⟨_, List.mem_cons_self .., by omega⟩
                exact ⟨_, rfl, .inl ⟨rfl, _, SqL.of g5⟩, _, rfl, fin M7 u _ g1 g2 g3 g4⟩
              | _ :: _ :: _ :: _, z => exact absurd z (by rw [List.length_cons, List.length_cons, List.length_cons]; omega)
            · exact ⟨_, rfl, .inl ⟨rfl, _, SqL.of (bN3 _ _ nS eN)⟩, _, rfl, fin M3 t ps (But.refl _ _) w5 (SqT.of et) ⟨lq2, h9, by omega, .inr (sum_some fun z => h2 (decide_eq_true (by rw [z]; rfl)))⟩⟩
          · have h0 : qs.length = 0 := by
              have h : ¬ (0 : Int) < ((qs.length : Nat) : Int) := fun z => h (decide_eq_true z)
              omega
            exact ⟨_, rfl, .inl ⟨rfl, _, SqL.of (bN3 _ _ nS eN)⟩, _, rfl, fin M3 t ps (But.refl _ _) w5 (SqT.of et) ⟨lq2, h9, by omega, .inl h0⟩⟩
    · rintro σ N ⟨v5, v6, v8, us, pss, rfl, eN, hU, lp, gp, wN, bN⟩
      rw [Int.toNat_natCast] at lp
      refine ⟨_, rfl, _, rfl, _, rfl, (by show 3 ≤ sizeLine; decide), fun t ht => ?_⟩
      have s5 : Same N (upd N t (.tup [.int (mm : Int), .ref rl, .ref S])) := same1 ht
      refine q _ t ⟨mm, bs, pss⟩ ((b1.trans b2).trans (bN.trans (same_but s5))) (wN.same s5) ⟨rl, S, SqT.of upd_same, ?_, us, SqL.of (s5 _ _ eN), hU.mono fun _ _ _ _ r => Same.tup s5 r⟩ ⟨by show 1 ≤ mm; omega, by show mm ≤ 8; omega, ok, lp, gp⟩ (by show mm ≤ m; omega)
      exact RowsAt.mono ⟨ts, bN.seqR w2 hts, hA.mono fun _ _ _ _ r => (bN.keep w2).row r⟩ s5
end
end K04

namespace K04
open PySem PySem.Spec PyProof.Rows PySem.Calls
/-! ### == of two tuples whose items have an own == : both answers -/
section
variable {prog : Program} {w : World} {A : Around} {R : Result → Shared → Prop}
theorem tuple_eqB (l b : Addr) (items items2 : Array Value) (n n2 : Nat) (dd dd2 : Option Addr) (sl sl2 : Array (Option Value)) (I : Nat → Shared → Prop)
    (turn : ∀ i (h1 : i < items.size) (h2 : i < items2.size) s, I i s → wpAny (model prog w) A.in1 (eqBool items[i] items2[i]) (fun r s' => (r = true ∧ I (i + 1) s') ∨ (r = false ∧ R (.ok (.ret (.bool false))) s')) (fun e s' => R (.error e) s') s)
    (fin : ∀ s, I (min items.size items2.size) s → R (.ok (.ret (.bool (items.size == items2.size)))) s) {s : Shared} (hl1 : s.heap.get? l = some { cls := .type "tuple", dict := dd, data := .seq items n, slots := sl }) (hb1 : s.heap.get? b = some { cls := .type "tuple", dict := dd2, data := .seq items2 n2, slots := sl2 }) (h : I 0 s) :
    wpAny (model prog w) A.in1 (Builtin.«tuple.__eq__» ⟨[.ref l, .ref b], []⟩) (GQ.FinOf prog w A R) (fun e s' => R (.error e) s') s := by
  have f2 := AutoSeq1.sub_tuple_tuple
  have hZ : (items.toList.zip items2.toList).length = min items.size items2.size := by simp
  have h0 := h
  obtain ⟨hp, g, d, tk, os⟩ := s
  wp_walk using wpAny_loadPart' hl1, wpAny_loadPart' hb1, wpAny_forIn_list _ (fun rest b s' => b.1 = none ∧ ∃ i, rest = (items.toList.zip items2.toList).drop i ∧ i ≤ min items.size items2.size ∧ I i s') _
  case turn =>
    rintro ⟨y, x⟩ rest b s' ⟨hb', i, hz, hi, hI⟩
    have hlt : i < (items.toList.zip items2.toList).length := by
      rcases Nat.lt_or_ge i (items.toList.zip items2.toList).length with h' | h'
      · exact h'
      · rw [List.drop_of_length_le h'] at hz; cases hz
    have h1 : i < items.size := by omega
    have h2 : i < items2.size := by omega
    rw [List.drop_eq_getElem_cons hlt] at hz
    injection hz with hyx hrest
    have hy : y = items[i] := by have := congrArg Prod.fst hyx; simpa using this
    have hx : x = items2[i] := by have := congrArg Prod.snd hyx; simpa using this
    subst hy hx
    refine wpAny_bind (wpAny_mono (turn i h1 h2 s' hI) (fun r s2 q2 => ?_) fun _ _ x => x)
    rcases q2 with ⟨hr, q2⟩ | ⟨hr, q2⟩
    · subst hr
      wp_walk
      exact ⟨rfl, i + 1, hrest, by omega, q2⟩
    · subst hr
      wp_walk
      exact q2
  case fin =>
    rintro ⟨b1, b2⟩ s' ⟨hb', i, hz, hi, hI⟩
    simp only at hb'
    subst hb'
    have hge : min items.size items2.size ≤ i := by
      rcases Nat.lt_or_ge i (items.toList.zip items2.toList).length with h' | h'
      · rw [List.drop_eq_getElem_cons h'] at hz; cases hz
      · exact hZ ▸ h'
    have hi' : i = min items.size items2.size := by omega
    have hR := fin s' (hi' ▸ hI)
    wp_walk
    simpa [Builtin.Tuple.tupleCompareSizes] using hR
  case h =>
    exact ⟨rfl, 0, rfl, Nat.zero_le _, h0⟩
end
section
variable {prog : Program} {w : World} {A : Around} {E : Value → Shared → Prop} {s : Shared}
theorem rc_tupB {l b : Addr} {items items2 : Array Value} {Q : Value → Shared → Prop} (hu : A.units < cLine) (I : Nat → Shared → Prop)
    (hl : s.heap.IsTuple l items) (hb : s.heap.IsTuple b items2)
    (turn : ∀ i (h1 : i < items.size) (h2 : i < items2.size) s, I i s → wpAny (model prog w) A.in1 (eqBool items[i] items2[i]) (fun r s' => (r = true ∧ I (i + 1) s') ∨ (r = false ∧ Q (.bool false) s')) E s)
    (fin : ∀ s, I (min items.size items2.size) s → Q (.bool (items.size == items2.size)) s) (h : I 0 s) : wpAny (model prog w) A (richCompare .Eq (.ref l) (.ref b)) Q E s := by
  obtain ⟨⟨cls, dd, data, sl⟩, ho, hc, n, hd⟩ := id hl
  obtain ⟨⟨cls2, dd2, data2, sl2⟩, ho2, hc2, n2, hd2⟩ := id hb
  simp only at hc hd hc2 hd2
  subst hc hd hc2 hd2
  refine wpAny_richCompare_same_room (op := .Eq) ⟨_, ho, rfl⟩ ⟨_, ho2, rfl⟩ F.slot_tuple_eq (GQ.call_here F.slot_tuple_eq ⟨_, ho, rfl⟩ F.entry_tuple_eq (F.args_tuple_eq_2 _ _) ?_) hu
  refine tuple_eqB (R := wants (fun v s' => v ≠ .notImplemented ∧ Q v s') E) l b items items2 n n2 dd dd2 sl sl2 I (fun i h1 h2 s' q => wpAny_mono (turn i h1 h2 s' q) (fun r s2 z => ?_) fun _ _ z => z) (fun s' q => ⟨(fun x => nomatch x), fin s' q⟩) ho ho2 h
  rcases z with z | ⟨hr, z⟩
  · exact .inl z
  · exact .inr ⟨hr, (fun x => nomatch x), z⟩
end
end K04

namespace K04
open PySem PySem.Spec PyProof.Rows L2
/-! ### == of a share and anything, by its own __eq__ -/
/-- what isinstance asks of the class, and what the law puts beside a share -/
structure TxtI (K : PySem.W.Frag) (C : Addr) : Prop where
  ha : PySem.W.findIn K (.ref C) "__class__" = some (some (.builtin "object.__class__"))
  hn : PySem.W.specialIn K (.builtin "object.__class__") "__get__" = some (some (.builtin "getset_descriptor.__get__"))
  htk : PySem.W.takesIn K (.builtin "object.__class__") = some true
  hm : PySem.W.mroIn K C (.type "object") = some true
  me : PySem.W.kitOne K (.ref C) (.ref C) = some true
  mt : PySem.W.kitOne K (.type "tuple") (.ref C) = some false
  mi : PySem.W.kitOne K (.type "int") (.ref C) = some false
  mn : PySem.W.kitOne K (.type "NoneType") (.ref C) = some false
/-- either another share, or something that is none -/
def EqTo (K : PySem.W.Frag) (C : Addr) (H : Hp) (v : V) (t1 b1 : Int) (r : Bool) : Prop :=
  (∃ (y : Addr) (t2 b2 : Int), v = .ref y ∧ ShAt C H y t2 b2 ∧ r = (decide (t1 = t2) && decide (b1 = b2))) ∨ (∃ ty, TyX K H v ty ∧ PySem.W.kitOne K ty (.ref C) = some false ∧ r = false)
def spEqS (K : PySem.W.Frag) (C : Addr) : Sp := fun vs H Q _ => ∃ (x : Addr) (v : V) (t1 b1 : Int) (r : Bool), vs = [.ref x, v] ∧ ShAt C H x t1 b1 ∧ EqTo K C H v t1 b1 r ∧ Q (.bl r) H
section
variable {P : Program} {w : World} {K : PySem.W.Frag} {mg : Str → Option Value} {base : Heap}
theorem decI (a b : Int) : decide (V.int a = V.int b) = decide (a = b) := by
  by_cases h : a = b
  · rw [h]; simp
  · simp [h]
theorem scEq : FnScope ["self", "other"] ["self", "other"] (defScope sEq) := ⟨rfl, rfl, rfl, by decide +kernel, rfl, by decide +kernel, by decide +kernel⟩
theorem ok_eq {f C CN : Addr} {fd : FuncData} (F : Fun K "__eq__" "Share.__eq__" sEq f fd) (T : Txt K mg C CN) (TI : TxtI K C) : FnOk P w K mg base CX0 1 f fd ["self", "other"] (spEqS K C) := by
  refine F.ok scEq (fun vs H Q E h => ?_) (fun cdv A outer s H vs Q E hr h => ?_)
  · obtain ⟨x, v, t1, b1, r, rfl, _⟩ := h
    rfl
  · obtain ⟨x, v, t1, b1, r, rfl, ⟨dx, hx⟩, hv, k⟩ := h
    refine ⟨_, pss_one (ps_ret (pe_and (pe_callB call_isi (by rfl) T.isi (by decide +kernel) (pa_cons (pv 1) (pa_cons (pe_glob (v := .ref C) rfl T.mgC rfl) pa_nil)))
      (pe_and (pe_cmpR op_eq (pe_fld (pv 0) rfl) (pe_fld (pv 1) rfl) (nomark _)) (pe_one (pe_cmpR op_eq (pe_fld (pv 0) rfl) (pe_fld (pv 1) rfl) (nomark _)))))), ?_⟩
    rcases hv with ⟨y, t2, b2, rfl, ⟨dy, hy⟩, rfl⟩ | ⟨ty, hty, hk, rfl⟩
    · refine ⟨_, rfl, _, _, _, _, true, rfl, ClsV.own C, TyX.base (TyOf.ins hy T.cl TI.ha TI.hn TI.htk TI.hm), TI.me, true, rfl, iteT ?_⟩
      refine ⟨_, rfl, x, C, dx, _, _, rfl, hx, T.cl, T.nT, shf_top .., _, rfl, y, C, dy, _, _, rfl, hy, T.cl, T.nT, shf_top .., rfl, _, rfl, ?_⟩
      rw [decI]
      by_cases e : t1 = t2
      · rw [decide_eq_true e] at k ⊢
        refine iteT ?_
        refine ⟨_, rfl, x, C, dx, _, _, rfl, hx, T.cl, T.nB, shf_bottom .., _, rfl, y, C, dy, _, _, rfl, hy, T.cl, T.nB, shf_bottom .., rfl, ?_⟩
        rw [decI]
        exact k
      · rw [decide_eq_false e] at k ⊢
        exact iteF k
    · refine ⟨_, rfl, _, _, _, _, false, rfl, ClsV.own C, hty, hk, false, rfl, iteF k⟩
end
end K04
namespace K04
open PySem PySem.Spec PyProof.Rows L2
/-! ### comparisons with a share in them -/
/-- what stands beside a share: another one, or a value of a built-in type that the share's class is no subclass of, and that is none of it -/
structure Odd (K : PySem.W.Frag) (C : Addr) (T : String) : Prop where
  k : PySem.W.kitOne K (.type T) (.ref C) = some false
  l : PySem.W.subIn K (.type T) (.ref C) = some false
  r : PySem.W.subIn K (.ref C) (.type T) = some false
/-- the own == of the class at C stands at f, and keeps its promise -/
structure OwnEq (X : Cx) (n : Nat) (C f : Addr) : Prop where
  fn : ∃ fd ps, FnOk X.prog X.w X.K X.mg X.base CX0 n f fd ps (spEqS X.K C) ∧ Binds X.K fd ps []
  at_ : PySem.W.findIn X.K (.ref C) "__eq__" = some (some (.ref f))
  isf : PySem.W.isFn X.K (.ref f) = true
section
variable {X : Cx} {n : Nat} {C f : Addr} {A : Around} {pins : List (Addr × Obj)} {s : Shared} {σ : L2.St} {H : Hp} {x : Addr} {v : V} {u : Value} {t1 b1 : Int} {r : Bool} {T : String}
/-- the def itself, called -/
theorem run_own (O : OwnEq X n C f) (sb : Sub X n A) (I : Inv X pins σ H s) (rv : RelV v u) (hx : ShAt C H x t1 b1) (hv : EqTo X.K C H v t1 b1 r) :
    wpAny (model X.prog X.w) A (call (.ref f) [.ref x, u]) (fun q s' => q = .bool r ∧ Inv X pins σ H s') X.xe s := by
  obtain ⟨fd, ps, F, hb⟩ := O.fn
  have hsp : spEqS X.K C [.ref x, v] H (fun z H' => z = .bl r ∧ H' = H) E0 := ⟨x, v, t1, b1, r, rfl, hx, hv, rfl, rfl⟩
  have e0 : Env0 X.prog X.w X.K X.mg X.base A X.stack s H := by
    have e := I.env0
    exact ⟨by rw [sb.fr]; exact e.frames, e.mod, e.bs, e.bsz, e.funs, e.frf, e.hok, e.bare⟩
  have hl := F.len _ _ _ _ hsp
  have r2 : Vals [V.ref x, v] [Value.ref x, u] := .cons rfl (.cons rv .nil)
  have bb := hb s [.ref x, u] I.kIn (by simpa using hl)
  rw [List.append_nil] at bb
  refine wpAny_call (codeAny_mono (F.run A X.stack s H ⟨[.ref x, u], []⟩ [.ref x, u] [.ref x, v] _ E0 sb.room e0 bb r2 hsp) fun q s' hq => ?_)
  cases q with
  | error e => exact hq.elim
  | ok fl =>
    cases fl with
    | ret z =>
      obtain ⟨y, H', I', ry, ey, eH⟩ := I.after hq
      subst ey
      subst eH
      cases ry
      exact ⟨rfl, I'⟩
    | next => exact False.elim hq
    | brk => exact False.elim hq
    | cont => exact False.elim hq
theorem ins_at (I : Inv X pins σ H s) (hx : ShAt C H x t1 b1) : ∃ ox od, PySem.W.InstAt s.heap x ox C od := by
  obtain ⟨dx, e⟩ := hx
  obtain ⟨m, J, _⟩ := ins_get I.hok e
  obtain ⟨od, J, _⟩ := J.look
  exact ⟨_, _, J⟩
/-- a share on the left -/
theorem rc_left (O : OwnEq X n C f) (sb : Sub X n A) (I : Inv X pins σ H s) (rv : RelV v u) (hx : ShAt C H x t1 b1) (hv : EqTo X.K C H v t1 b1 r)
    {tb : Value} (ht : PySem.W.Looks (model X.prog X.w) s.heap (typeOf u) tb) (hf : PySem.W.notFirst X.K C tb = true) :
    wpAny (model X.prog X.w) A (richCompare .Eq (.ref x) u) (fun q s' => q = .bool r ∧ Inv X pins σ H s') X.xe s := by
  obtain ⟨ox, od, J⟩ := ins_at I hx
  obtain ⟨m, hF⟩ := I.fr
  refine PySem.W.cmp_K (op := .Eq) (tb := tb) sb.room.units0 hF I.ok.mod.kin J ht hf O.at_ O.isf ?_
  refine wpAny_mono (run_own O sb I rv hx hv) (fun q s' z => ?_) fun _ _ z => z
  obtain ⟨rfl, I'⟩ := z
  exact ⟨rfl, I'⟩
/-- two shares -/
theorem rc_two (O : OwnEq X n C f) (sb : Sub X n A) (I : Inv X pins σ H s) {y : Addr} {t2 b2 : Int} (hx : ShAt C H x t1 b1) (hy : ShAt C H y t2 b2) :
    wpAny (model X.prog X.w) A (richCompare .Eq (.ref x) (.ref y)) (fun q s' => q = .bool (decide (t1 = t2) && decide (b1 = b2)) ∧ Inv X pins σ H s') X.xe s := by
  obtain ⟨oy, od, J⟩ := ins_at I hy
  exact rc_left O sb I (v := .ref y) rfl hx (.inl ⟨y, t2, b2, rfl, hy, rfl⟩) J.type (by simp [PySem.W.notFirst])
/-- a value of a built-in type on the left, a share on the right -/
theorem rc_right (O : OwnEq X n C f) (sb : Sub X n A) (I : Inv X pins σ H s) (rv : RelV v u) (hx : ShAt C H x t1 b1) (ty : TyX X.K H v (.type T)) (D : Odd X.K C T)
    (dec : wpAny (model X.prog X.w) A (tryCompare u "__eq__" (.ref x)) (fun q s' => q = none ∧ s' = s) X.xe s) :
    wpAny (model X.prog X.w) A (richCompare .Eq u (.ref x)) (fun q s' => q = .bool false ∧ Inv X pins σ H s') X.xe s := by
  obtain ⟨ox, od, J⟩ := ins_at I hx
  obtain ⟨Ph, Z, ph, _⟩ := kit_of I rv ty
  have LT := Z.ty (model X.prog X.w) s.heap I.kIn ph
  have nu : oneThing? .Eq u (.ref x) = none := by cases u <;> rfl
  unfold richCompare
  simp only [nu]
  refine wpAny_holding (wpAny_bind (wpAny_cRoomFor sb.room.units0 ?_))
  refine wpAny_bind (LT.here (wpAny_bind (J.type.here ?_)))
  rw [if_pos (show (Value.type T != Value.ref C) = true from rfl)]
  refine wpAny_bind ((PySem.W.looks_subIn I.kIn D.r).here ?_)
  simp only [Bool.false_eq_true, if_false]
  refine wpAny_bind (wpAny_mono dec (fun q s' z => ?_) fun _ _ z => z)
  obtain ⟨rfl, rfl⟩ := z
  simp only [Bool.not_false, if_true]
  refine wpAny_bind (m := tryCompare (.ref x) _ u) ?_
  unfold tryCompare
  refine wpAny_bind (PySem.W.ifBound_K I.kIn J O.at_ O.isf (wpAny_mono (run_own O sb I rv hx (.inr ⟨_, ty, D.k, rfl⟩)) (fun q s' z => ?_) fun _ _ z => z))
  obtain ⟨rfl, I'⟩ := z
  exact wpAny_pure (wpAny_pure ⟨rfl, I'⟩)
end
end K04

namespace K04
open PySem PySem.Spec PyProof.Rows L2
/-! ### != of two shares: object.__ne__ over the own == -/
section
variable {X : Cx} {n : Nat} {C f : Addr} {A : Around} {pins : List (Addr × Obj)} {s : Shared} {σ : L2.St} {H : Hp} {x y : Addr} {t1 b1 t2 b2 : Int}
theorem ne_body (O : OwnEq X n C f) (sb : Sub X (n + 1) A) (I : Inv X pins σ H s) (hx : ShAt C H x t1 b1) (hy : ShAt C H y t2 b2) {Q : Fin → Shared → Prop}
    (hq : ∀ s', Inv X pins σ H s' → Q (.done (.ret (.bool (!(decide (t1 = t2) && decide (b1 = b2)))))) s') :
    wpAny (model X.prog X.w) A (Builtin.«object.__ne__» ⟨[.ref x, .ref y], []⟩) Q X.xe s := by
  obtain ⟨ox, od, J⟩ := ins_at I hx
  have sb0 : Sub X n A := sb.mono (Nat.le_succ n)
  unfold Builtin.«object.__ne__»
  refine wpAny_bind (wpAny_of_eq (a := ((Value.ref x : Value), [Value.ref y])) (by first | rfl | (simp only [slotArgs]; rfl)) ?_)
  dsimp only
  refine wpAny_bind (wpAny_cRoomFor sb.room.units0 ?_)
  refine wpAny_bind (PySem.W.ifBound_K I.kIn J O.at_ O.isf (wpAny_mono (run_own O sb0 I (v := .ref y) rfl hx (.inl ⟨y, t2, b2, rfl, hy, rfl⟩)) (fun q s' z => ?_) fun _ _ z => z))
  obtain ⟨rfl, I'⟩ := z
  dsimp only
  exact wpAny_bind (wpAny_truthy_bool (wpAny_pure (hq _ I')))
theorem ne_two (O : OwnEq X n C f) (sb : Sub X (n + 2) A) (I : Inv X pins σ H s) (hne : PySem.W.findIn X.K (.ref C) "__ne__" = some (some (.builtin "object.__ne__"))) (hob : PySem.W.subIn X.K (.ref C) (.type "object") = some true)
    (hx : ShAt C H x t1 b1) (hy : ShAt C H y t2 b2) :
    wpAny (model X.prog X.w) A (richCompare .NotEq (.ref x) (.ref y)) (fun q s' => q = .bool (!(decide (t1 = t2) && decide (b1 = b2))) ∧ Inv X pins σ H s') X.xe s := by
  obtain ⟨ox, od, J⟩ := ins_at I hx
  obtain ⟨oy, od', J'⟩ := ins_at I hy
  have isob : PySem.W.Looks (model X.prog X.w) s.heap (isInstance (.ref x) (.type "object")) true := J.type.andThen (PySem.W.looks_subIn I.kIn hob)
  have called : wpAny (model X.prog X.w) A (call (.builtin "object.__ne__") [.ref x, .ref y]) (fun q s' => q = .bool (!(decide (t1 = t2) && decide (b1 = b2))) ∧ Inv X pins σ H s') X.xe s := by
    refine wpAny_call (codeAny_call_builtin F.cmp_object.ne.plain F.cmpEntry_ne (PySem.W.check_slot F.cmpKind_ne F.cmpSplit_ne isob (F.cmpArgs_ne _ _) ?_))
    exact ne_body O (sb.in1) I hx hy fun s' I' => ⟨rfl, I'⟩
  unfold richCompare
  simp only [oneThing_ref]
  refine wpAny_holding (wpAny_bind (wpAny_cRoomFor sb.room.units0 ?_))
  refine wpAny_bind (J.type.here (wpAny_bind (J'.type.here ?_)))
  rw [if_neg (show ¬ (Value.ref C != Value.ref C) = true by simp)]
  refine wpAny_bind (wpAny_pure ?_)
  simp only [Bool.false_eq_true, if_false]
  refine wpAny_bind (m := tryCompare (.ref x) _ (.ref y)) ?_
  unfold tryCompare
  have fin : wpAny (model X.prog X.w) A (call (.builtin "object.__ne__") ([.ref x] ++ [.ref y]) >>= fun v => pure (some v)) (fun o s' => ∃ q, o = some q ∧ q = .bool (!(decide (t1 = t2) && decide (b1 = b2))) ∧ Inv X pins σ H s') X.xe s :=
    wpAny_bind (wpAny_mono called (fun q s' z => wpAny_pure ⟨q, rfl, z⟩) fun _ _ z => z)
  have asked : wpAny (model X.prog X.w) A (callSpecialIfBound? (.ref x) "__ne__" [.ref y]) (fun o s' => ∃ q, o = some q ∧ q = .bool (!(decide (t1 = t2) && decide (b1 = b2))) ∧ Inv X pins σ H s') X.xe s := by
    simp only [callSpecialIfBound?, bindSpecialIfBound?]
    refine wpAny_holding (wpAny_bind (wpAny_bind (wpAny_bind (J.type.here ((PySem.W.looks_findIn I.kIn hne).here ?_)))))
    simp only [F.cmp_object.ne.bind]
    refine wpAny_bind (wpAny_askSetting (wpAny_ite ?_))
    split
    · exact wpAny_bind (wpAny_pure (wpAny_pure fin))
    · exact wpAny_tryCatch (wpAny_bind (wpAny_pure (wpAny_pure fin)))
  refine wpAny_bind (wpAny_mono asked (fun o s' z => ?_) fun _ _ z => z)
  obtain ⟨q, rfl, rfl, I'⟩ := z
  exact wpAny_pure (wpAny_pure ⟨rfl, I'⟩)
end
/-! ### the operators, as rules -/
section
variable {X : Cx} {n : Nat} {C f : Addr}
def rEqS (C : Addr) : R2 := fun x y H Q => ∃ (a b : Addr) (t1 b1 t2 b2 : Int), x = .ref a ∧ y = .ref b ∧ ShAt C H a t1 b1 ∧ ShAt C H b t2 b2 ∧ Q (.bl (decide (t1 = t2) && decide (b1 = b2))) H
def rNeS (C : Addr) : R2 := fun x y H Q => ∃ (a b : Addr) (t1 b1 t2 b2 : Int), x = .ref a ∧ y = .ref b ∧ ShAt C H a t1 b1 ∧ ShAt C H b t2 b2 ∧ Q (.bl (!(decide (t1 = t2) && decide (b1 = b2)))) H
theorem op_eqS (O : OwnEq X n C f) (hr : Room n X.A) : OpR X (compareOp .Eq) (rEqS C) := by
  intro pins s σ H x y v u Q I rx ry h
  obtain ⟨a, b, t1, b1, t2, b2, rfl, rfl, ha, hb, q⟩ := h
  cases rx
  cases ry
  show wpAny (model X.prog X.w) X.A (richCompare .Eq (.ref a) (.ref b)) (EP X pins σ Q) X.xe s
  refine wpAny_mono (rc_two O ⟨hr, rfl⟩ I ha hb) (fun r s' z => ?_) fun _ _ z => z
  obtain ⟨rfl, I'⟩ := z
  exact ⟨.bl _, H, I', rfl, q⟩
theorem op_neS (O : OwnEq X n C f) (hr : Room (n + 2) X.A) (hne : PySem.W.findIn X.K (.ref C) "__ne__" = some (some (.builtin "object.__ne__"))) (hob : PySem.W.subIn X.K (.ref C) (.type "object") = some true) : OpR X (compareOp .NotEq) (rNeS C) := by
  intro pins s σ H x y v u Q I rx ry h
  obtain ⟨a, b, t1, b1, t2, b2, rfl, rfl, ha, hb, q⟩ := h
  cases rx
  cases ry
  show wpAny (model X.prog X.w) X.A (richCompare .NotEq (.ref a) (.ref b)) (EP X pins σ Q) X.xe s
  refine wpAny_mono (ne_two O ⟨hr, rfl⟩ I hne hob ha hb) (fun r s' z => ?_) fun _ _ z => z
  obtain ⟨rfl, I'⟩ := z
  exact ⟨.bl _, H, I', rfl, q⟩
end
end K04

namespace K04
open PySem PySem.Spec PyProof.Rows L2
/-! ### == and != of webs that are alike -/
/-- two shares of one number -/
def RSh (C : Addr) : Addr → Addr → Hp → Prop := fun a b H => ∃ q : Rat, ShQ C H a q ∧ ShQ C H b q
/-- two webs of one kind -/
def RWeb (K : PySem.W.Frag) (C CW : Addr) : Addr → Addr → Hp → Prop := fun a b H => ∃ W : WebV, WebAt K C CW H a W ∧ WebAt K C CW H b W
theorem rsh_mon {C : Addr} : ∀ a b H H', Ext H H' → RSh C a b H → RSh C a b H' := fun _ _ _ _ e ⟨q, h1, h2⟩ => ⟨q, h1.mono e, h2.mono e⟩
/-- what stands in a bed -/
def DItem (C : Addr) : Eqv := fun x y H => DFlat x y H ∨ DIns C (RSh C) x y H
theorem mon_item {C : Addr} : Mon (DItem C) := mon_flat.or (mon_ins rsh_mon)
theorem flat_int (i : Int) (H : Hp) : DFlat (.int i) (.int i) H := ⟨rfl, rfl, by unfold eqV; simp⟩
theorem item_sh {C : Addr} {H : Hp} {a b : Addr} {q : Rat} (h1 : ShQ C H a q) (h2 : ShQ C H b q) : DItem C (.ref a) (.ref b) H := by
  obtain ⟨d1, e1⟩ := id h1
  obtain ⟨d2, e2⟩ := id h2
  exact .inr ⟨a, b, d1, d2, _, _, rfl, rfl, e1, e2, q, h1, h2⟩
theorem bed_eq {K : PySem.W.Frag} {C : Addr} {H : Hp} {s t : Addr} {b : Bed} (h1 : BedAt K C H s b) (h2 : BedAt K C H t b) : DTup K (DItem C) (.ref s) (.ref t) H := by
  obtain ⟨x, y, a1, a2, a3⟩ := h1
  obtain ⟨u, v, c1, c2, c3⟩ := h2
  exact ⟨s, t, _, _, rfl, rfl, a1, c1, .cons (.inl (flat_int _ _)) (.cons (.inl (flat_int _ _)) (.cons (item_sh a2 c2) (.cons (item_sh a3 c3) .nil)))⟩
theorem beds_eq {K : PySem.W.Frag} {C : Addr} {H : Hp} {l m : Addr} {bs : List Bed} (h1 : WBedsT K C H l bs) (h2 : WBedsT K C H m bs) : DList (DTup K (DItem C)) (.ref l) (.ref m) H := by
  obtain ⟨ss, e1, a1⟩ := h1
  obtain ⟨ts, e2, a2⟩ := h2
  refine ⟨l, m, _, _, rfl, rfl, e1, e2, by rw [List.length_map, List.length_map, a1.len, a2.len], fun i x y hx hy => ?_⟩
  rw [List.getElem?_map] at hx hy
  obtain ⟨s, hs, rfl⟩ := Option.map_eq_some_iff.mp hx
  obtain ⟨t, ht, rfl⟩ := Option.map_eq_some_iff.mp hy
  have il : i < bs.length := by
    have := (List.getElem?_eq_some_iff.mp hs).1
    have := a1.len
    omega
  exact bed_eq (a1.all i s _ hs (List.getElem?_eq_getElem il)) (a2.all i t _ ht (List.getElem?_eq_getElem il))
def pnd (ps : List Nat) : PyData := .tuple ((ps.map fun n : Nat => (n : Int)).map PyData.int)
theorem can_ints : ∀ ns : List Int, PyData.canLayAll0 (ns.map PyData.int) = true
  | [] => by simp [PyData.canLayAll0]
  | n :: r => by simp [PyData.canLayAll0, PyData.canLay0, can_ints r]
theorem dep_ints : ∀ ns : List Int, PyData.depthAll (ns.map PyData.int) ≤ 1
  | [] => by simp [PyData.depthAll]
  | n :: r => by
    have := dep_ints r
    simp only [List.map_cons, PyData.depthAll, PyData.depth]
    omega
theorem can_pnd : ∀ pss : List (List Nat), PyData.canLayAll0 (pss.map pnd) = true
  | [] => by simp [PyData.canLayAll0]
  | n :: r => by
    have := can_ints (n.map fun n : Nat => (n : Int))
    simp [PyData.canLayAll0, PyData.canLay0, pnd, can_pnd r]
    simpa using this
theorem dep_pnd : ∀ pss : List (List Nat), PyData.depthAll (pss.map pnd) ≤ 2
  | [] => by simp [PyData.depthAll]
  | n :: r => by
    have h1 := dep_pnd r
    have h2 := dep_ints (n.map fun n : Nat => (n : Int))
    simp only [List.map_cons, PyData.depthAll, PyData.depth, pnd]
    omega
theorem shaped_of {ds : List PyData} (h1 : PyData.canLayAll0 ds = true) (h2 : PyData.depthAll ds ≤ 10) : SeqAt.shaped (.list ds) = true := by
  have h3 : PyData.depth (.list ds) ≤ 64 := by simp only [PyData.depth]; omega
  show (PyData.canLay0 (.list ds) && decide (PyData.depth (.list ds) ≤ 64)) = true
  rw [Bool.and_eq_true]
  exact ⟨by simp only [PyData.canLay0]; exact h1, decide_eq_true h3⟩
theorem shaped_ofT {ds : List PyData} (h1 : PyData.canLayAll0 ds = true) (h2 : PyData.depthAll ds ≤ 10) : SeqAt.shaped (.tuple ds) = true := by
  have h3 : PyData.depth (.tuple ds) ≤ 64 := by simp only [PyData.depth]; omega
  show (PyData.canLay0 (.tuple ds) && decide (PyData.depth (.tuple ds) ≤ 64)) = true
  rw [Bool.and_eq_true]
  exact ⟨by simp only [PyData.canLay0]; exact h1, decide_eq_true h3⟩
theorem eqv_self {d : PyData} (h : SeqAt.shaped d = true) : PyData.eqv d d = true := by
  refine SeqAt.eqv_refl _ ?_
  unfold SeqAt.shaped at h
  rw [Bool.and_eq_true] at h
  exact h.1
theorem dp_list {K : PySem.W.Frag} {H : Hp} {α : Type} {R : Addr → α → Prop} {f : α → PyData} (h : ∀ a x, R a x → Dp K H (.ref a) (f x)) : ∀ {qs : List Addr} {ws : List α}, All2 R qs ws → DpAll K H (qs.map V.ref) (ws.map f)
  | [], [], _ => .nil
  | [], _ :: _, a => by have := a.len; simp at this
  | _ :: _, [], a => by have := a.len; simp at this
  | q :: r, w :: t, a => .cons (h q w (a.all 0 q w rfl rfl)) (dp_list h ⟨by have := a.len; simpa using this, fun i x y hx hy => a.all (i + 1) x y (by simpa using hx) (by simpa using hy)⟩)
theorem dp_part {K : PySem.W.Frag} {H : Hp} {t : Addr} {ps : List Nat} (h : PartsAt K H t ps) : Dp K H (.ref t) (pnd ps) := by
  unfold PartsAt at h
  rw [natV_map] at h
  exact .tup h (dps_ints _)
section
variable {P : Program} {w : World} {K : PySem.W.Frag} {mg : Str → Option Value} {base : Heap}
theorem scShEq : FnScope ["self", "other"] ["self", "other"] (defScope d_Share_eq) := ⟨rfl, rfl, rfl, by decide +kernel, rfl, by decide +kernel, by decide +kernel⟩
theorem ok_sheq {f C CN : Addr} {fd : FuncData} (F : Fun K "__eq__" "Share.__eq__" d_Share_eq f fd) (T : Txt K mg C CN) (IsSh : ∀ H p q, ShQ C H p q → TyX K H (.ref p) (.ref C)) (me : PySem.W.kitOne K (.ref C) (.ref C) = some true) : FnOk P w K mg base CX0 1 f fd ["self", "other"] (spEq (RSh C)) := by
  refine F.ok scShEq (fun vs H Q E h => ?_) (fun cdv A outer s H vs Q E hr h => ?_)
  · obtain ⟨_, _, rfl, _⟩ := h
    rfl
  · obtain ⟨a, b, rfl, ⟨x, ⟨dx, ha⟩, hb⟩, q⟩ := h
    have tb := IsSh _ _ _ hb
    obtain ⟨dy, hb⟩ := hb
    refine ⟨_, pss_one (ps_ret (pe_and (pe_callB call_isi (by rfl) T.isi (by decide +kernel) (pa_cons (pv 1) (pa_cons (pe_glob (v := .ref C) rfl T.mgC rfl) pa_nil)))
      (pe_and (pe_cmpR op_eq (pe_fld (pv 0) rfl) (pe_fld (pv 1) rfl) (nomark _)) (pe_one (pe_cmpR op_eq (pe_fld (pv 0) rfl) (pe_fld (pv 1) rfl) (nomark _)))))), ?_⟩
    refine ⟨_, rfl, _, _, _, _, true, rfl, ClsV.own C, tb, me, true, rfl, iteT ?_⟩
    refine ⟨_, rfl, a, C, dx, _, _, rfl, ha, T.cl, T.nT, shf_top .., _, rfl, b, C, dy, _, _, rfl, hb, T.cl, T.nT, shf_top .., rfl, _, rfl, ite2 (fun _ => ?_) (fun z => absurd (decide_eq_true rfl) z)⟩
    refine ⟨_, rfl, a, C, dx, _, _, rfl, ha, T.cl, T.nB, shf_bottom .., _, rfl, b, C, dy, _, _, rfl, hb, T.cl, T.nB, shf_bottom .., rfl, ?_⟩
    have e : decide (V.int ((x.den : Nat) : Int) = V.int ((x.den : Nat) : Int)) = true := decide_eq_true rfl
    rw [e]
    exact q _ Ext.rfl'
theorem scWbEq : FnScope ["self", "other"] ["self", "other"] (defScope d_Web_eq) := ⟨rfl, rfl, rfl, by decide +kernel, rfl, by decide +kernel, by decide +kernel⟩
theorem ok_webeq {f f1 C CW : Addr} {fd fd1 : FuncData} (F : Fun K "__eq__" "Web.__eq__" d_Web_eq f fd) (TW : CrsW K CW) (Y : TxtW mg C) (hW : mg "Web" = some (.ref CW)) (IsW : ∀ H p dx fs, H p = some (.ins CW dx fs) → TyX K H (.ref p) (.ref CW)) (me : PySem.W.kitOne K (.ref CW) (.ref CW) = some true)
    (G1 : FnOk P w K mg base CX0 1 f1 fd1 ["self", "other"] (spEq (RSh C))) (at1 : PySem.W.findIn K (.ref C) "__eq__" = some (some (.ref f1))) (is1 : PySem.W.isFn K (.ref f1) = true) (b1 : Binds K fd1 ["self", "other"] []) :
    FnOk P w K mg base CX0 4 f fd ["self", "other"] (spEq (RWeb K C CW)) := by
  refine F.ok scWbEq (fun vs H Q E h => ?_) (fun cdv A outer s H vs Q E hr h => ?_)
  · obtain ⟨_, _, rfl, _⟩ := h
    rfl
  · obtain ⟨a, b, rfl, ⟨W, ⟨dx, b1', p1, ea, hb1, hp1, g⟩, ⟨dy, b2, p2, eb, hb2, hp2, _⟩⟩, q⟩ := h
    have rc : RcG (cxOf CX0 P w K mg base ["self", "other"] "Web.__eq__" (defScope d_Web_eq) f cdv A outer s H E).nox 3 (DList (DTup K (DItem C))) :=
      rcG_list (mon_tup mon_item) (eqG_tup mon_item ((eqG_flat.mono (Nat.zero_le 1)).or (eqG_ins G1 at1 is1 b1 pass0)))
    refine ⟨_, pss_cons (ps_if (pt_not (pt_val (pe_callB call_isi (by rfl) Y.isi (by decide +kernel) (pa_cons (pv 1) (pa_cons (pe_glob (v := .ref CW) rfl hW rfl) pa_nil))))) (pss_one (ps_ret pe_bl)) pss_nil)
      (pss_one (ps_ret (pe_and (pe_cmpR op_eq (pe_fld (pv 0) rfl) (pe_fld (pv 1) rfl) (nomark _)) (pe_and (pe_cmpR (op_eqG rc hr) (pe_fld (pv 0) rfl) (pe_fld (pv 1) rfl) (nomark _)) (pe_one (pe_cmpR (op_eqD hr.units) (pe_fld (pv 0) rfl) (pe_fld (pv 1) rfl) (nomark _))))))), ?_⟩
    refine ⟨_, rfl, _, _, _, _, true, rfl, ClsV.own CW, IsW _ _ _ _ eb, me, true, rfl, iteF ?_⟩
    refine ⟨_, rfl, a, CW, dx, _, _, rfl, ea, TW.cl, TW.nm, webF_many .., _, rfl, b, CW, dy, _, _, rfl, eb, TW.cl, TW.nm, webF_many .., rfl, _, rfl, ite2 (fun _ => ?_) (fun z => absurd (decide_eq_true rfl) z)⟩
    refine ⟨_, rfl, a, CW, dx, _, _, rfl, ea, TW.cl, TW.nb, webF_beds .., _, rfl, b, CW, dy, _, _, rfl, eb, TW.cl, TW.nb, webF_beds .., beds_eq hb1 hb2, fun H1 x1 => ⟨_, rfl, iteT ?_⟩⟩
    refine ⟨_, rfl, a, CW, dx, _, _, rfl, x1 _ _ ea, TW.cl, TW.np, webF_parts .., _, rfl, b, CW, dy, _, _, rfl, x1 _ _ eb, TW.cl, TW.np, webF_parts .., ?_⟩
    obtain ⟨us, u1, u2⟩ := WPartsT.mono hp1 x1
    obtain ⟨vs, v1, v2⟩ := WPartsT.mono hp2 x1
    have sh : SeqAt.shaped (.list (W.parts.map pnd)) = true := shaped_of (can_pnd _) (Nat.le_trans (dep_pnd _) (by decide))
    refine ⟨_, _, .lst (SqL.of u1) (dp_list (fun _ _ r => dp_part r) u2), .lst (SqL.of v1) (dp_list (fun _ _ r => dp_part r) v2), sh, sh, ?_⟩
    rw [eqv_self sh]
    exact q _ x1
end
section
variable {X : Cx} {n : Nat} {C f : Addr} {A : Around} {pins : List (Addr × Obj)} {s : Shared} {σ : L2.St} {H : Hp} {x y : Addr} {R : Addr → Addr → Hp → Prop}
/-- the own == of the class at C stands at f and keeps its promise for what R tells -/
structure OwnR (X : Cx) (n : Nat) (C f : Addr) (R : Addr → Addr → Hp → Prop) : Prop where
  fn : ∃ fd ps, FnOk X.prog X.w X.K X.mg X.base CX0 n f fd ps (spEq R) ∧ Binds X.K fd ps []
  at_ : PySem.W.findIn X.K (.ref C) "__eq__" = some (some (.ref f))
  isf : PySem.W.isFn X.K (.ref f) = true
theorem own_run (O : OwnR X n C f R) (sb : Sub X n A) (I : Inv X pins σ H s) (hr : R x y H) :
    wpAny (model X.prog X.w) A (call (.ref f) [.ref x, .ref y]) (fun q s' => q = .bool true ∧ ∃ H', Inv X pins σ H' s' ∧ Ext H H') X.xe s := by
  obtain ⟨fd, ps, F, hb⟩ := O.fn
  have hsp : spEq R [.ref x, .ref y] H (fun z H' => z = .bl true ∧ Ext H H') E0 := ⟨x, y, rfl, hr, fun H' e => ⟨rfl, e⟩⟩
  have e0 : Env0 X.prog X.w X.K X.mg X.base A X.stack s H := by
    have e := I.env0
    exact ⟨by rw [sb.fr]; exact e.frames, e.mod, e.bs, e.bsz, e.funs, e.frf, e.hok, e.bare⟩
  have hl := F.len _ _ _ _ hsp
  have r2 : Vals [V.ref x, V.ref y] [Value.ref x, Value.ref y] := .cons rfl (.cons rfl .nil)
  have bb := hb s [.ref x, .ref y] I.kIn (by simpa using hl)
  rw [List.append_nil] at bb
  refine wpAny_call (codeAny_mono (F.run A X.stack s H ⟨[.ref x, .ref y], []⟩ [.ref x, .ref y] [.ref x, .ref y] _ E0 sb.room e0 bb r2 hsp) fun q s' hq => ?_)
  cases q with
  | error e => exact hq.elim
  | ok fl =>
    cases fl with
    | ret z =>
      obtain ⟨y, H', I', ry, ey, eH⟩ := I.after hq
      subst ey
      cases ry
      exact ⟨rfl, H', I', eH⟩
    | next => exact False.elim hq
    | brk => exact False.elim hq
    | cont => exact False.elim hq
theorem own_ne (O : OwnR X n C f R) (sb : Sub X (n + 2) A) (I : Inv X pins σ H s) (hne : PySem.W.findIn X.K (.ref C) "__ne__" = some (some (.builtin "object.__ne__"))) (hob : PySem.W.subIn X.K (.ref C) (.type "object") = some true)
    {dx dy : Addr} {fs gs : List (Str × V)} (hx : H x = some (.ins C dx fs)) (hy : H y = some (.ins C dy gs)) (hr : R x y H) :
    wpAny (model X.prog X.w) A (richCompare .NotEq (.ref x) (.ref y)) (fun q s' => q = .bool false ∧ ∃ H', Inv X pins σ H' s' ∧ Ext H H') X.xe s := by
  obtain ⟨m1, J, _⟩ := ins_get I.hok hx
  obtain ⟨od, J, _⟩ := J.look
  obtain ⟨m2, J', _⟩ := ins_get I.hok hy
  obtain ⟨od', J', _⟩ := J'.look
  have isob : PySem.W.Looks (model X.prog X.w) s.heap (isInstance (.ref x) (.type "object")) true := J.type.andThen (PySem.W.looks_subIn I.kIn hob)
  have body : ∀ {B : Around} {Q : Fin → Shared → Prop}, Sub X (n + 1) B → (∀ s', (∃ H', Inv X pins σ H' s' ∧ Ext H H') → Q (.done (.ret (.bool false))) s') → wpAny (model X.prog X.w) B (Builtin.«object.__ne__» ⟨[.ref x, .ref y], []⟩) Q X.xe s := fun {B Q} sb1 hq => by
    unfold Builtin.«object.__ne__»
    refine wpAny_bind (wpAny_of_eq (a := ((Value.ref x : Value), [Value.ref y])) (by first | rfl | (simp only [slotArgs]; rfl)) ?_)
    dsimp only
    refine wpAny_bind (wpAny_cRoomFor sb1.room.units0 ?_)
    refine wpAny_bind (PySem.W.ifBound_K I.kIn J O.at_ O.isf (wpAny_mono (own_run O (sb1.mono (Nat.le_succ n)) I hr) (fun q s' z => ?_) fun _ _ z => z))
    obtain ⟨rfl, z⟩ := z
    dsimp only
    exact wpAny_bind (wpAny_truthy_bool (wpAny_pure (hq _ z)))
  have called : wpAny (model X.prog X.w) A (call (.builtin "object.__ne__") [.ref x, .ref y]) (fun q s' => q = .bool false ∧ ∃ H', Inv X pins σ H' s' ∧ Ext H H') X.xe s := by
    refine wpAny_call (codeAny_call_builtin F.cmp_object.ne.plain F.cmpEntry_ne (PySem.W.check_slot F.cmpKind_ne F.cmpSplit_ne isob (F.cmpArgs_ne _ _) ?_))
    exact body sb.in1 fun s' z => ⟨rfl, z⟩
  unfold richCompare
  simp only [oneThing_ref]
  refine wpAny_holding (wpAny_bind (wpAny_cRoomFor sb.room.units0 ?_))
  refine wpAny_bind (J.type.here (wpAny_bind (J'.type.here ?_)))
  rw [if_neg (show ¬ (Value.ref C != Value.ref C) = true by simp)]
  refine wpAny_bind (wpAny_pure ?_)
  simp only [Bool.false_eq_true, if_false]
  refine wpAny_bind (m := tryCompare (.ref x) _ (.ref y)) ?_
  unfold tryCompare
  have fin : wpAny (model X.prog X.w) A (call (.builtin "object.__ne__") ([.ref x] ++ [.ref y]) >>= fun v => pure (some v)) (fun o s' => ∃ q, o = some q ∧ q = .bool false ∧ ∃ H', Inv X pins σ H' s' ∧ Ext H H') X.xe s :=
    wpAny_bind (wpAny_mono called (fun q s' z => wpAny_pure ⟨q, rfl, z⟩) fun _ _ z => z)
  have asked : wpAny (model X.prog X.w) A (callSpecialIfBound? (.ref x) "__ne__" [.ref y]) (fun o s' => ∃ q, o = some q ∧ q = .bool false ∧ ∃ H', Inv X pins σ H' s' ∧ Ext H H') X.xe s := by
    simp only [callSpecialIfBound?, bindSpecialIfBound?]
    refine wpAny_holding (wpAny_bind (wpAny_bind (wpAny_bind (J.type.here ((PySem.W.looks_findIn I.kIn hne).here ?_)))))
    simp only [F.cmp_object.ne.bind]
    refine wpAny_bind (wpAny_askSetting (wpAny_ite ?_))
    split
    · exact wpAny_bind (wpAny_pure (wpAny_pure fin))
    · exact wpAny_tryCatch (wpAny_bind (wpAny_pure (wpAny_pure fin)))
  refine wpAny_bind (wpAny_mono asked (fun o s' z => ?_) fun _ _ z => z)
  obtain ⟨q, rfl, rfl, z⟩ := z
  exact wpAny_pure (wpAny_pure ⟨rfl, z⟩)
/-- x != y of two objects that are alike -/
def rNeR (C : Addr) (R : Addr → Addr → Hp → Prop) : R2 := fun x y H Q => ∃ (a b dx dy : Addr) (fs gs : List (Str × V)), x = .ref a ∧ y = .ref b ∧ H a = some (.ins C dx fs) ∧ H b = some (.ins C dy gs) ∧ R a b H ∧ ∀ H', Ext H H' → Q (.bl false) H'
theorem op_neR (O : OwnR X n C f R) (hr : Room (n + 2) X.A) (hne : PySem.W.findIn X.K (.ref C) "__ne__" = some (some (.builtin "object.__ne__"))) (hob : PySem.W.subIn X.K (.ref C) (.type "object") = some true) : OpR X (compareOp .NotEq) (rNeR C R) := by
  intro pins s σ H x y v u Q I rx ry h
  obtain ⟨a, b, dx, dy, fs, gs, rfl, rfl, ha, hb, r, q⟩ := h
  cases rx
  cases ry
  show wpAny (model X.prog X.w) X.A (richCompare .NotEq (.ref a) (.ref b)) (EP X pins σ Q) X.xe s
  refine wpAny_mono (own_ne O ⟨hr, rfl⟩ I hne hob ha hb r) (fun r s' z => ?_) fun _ _ z => z
  obtain ⟨rfl, H', I', e⟩ := z
  exact ⟨.bl _, H', I', rfl, q H' e⟩
end
end K04

/-! ### == of lists and tuples whose items have an own ==, both answers -/
namespace K04.GN
open PySem PySem.SeqAt
open AutoSeq1 (wpAny_loadPart')
open MeetsSeq MeetsSeq2 MeetsSeq3 SeqRoads2
section
variable {prog : Program} {w : World} {A : Around} {R : Result → Shared → Prop}
/-- two lists of N items, read anew at each turn; d i is what == says of the i-th two -/
def ListB (prog : Program) (w : World) (A : Around) (E : Value → Shared → Prop) (l b : Addr) (N : Nat) (d : Nat → Bool) (I : Nat → Shared → Prop) : Prop :=
  ∀ i s, I i s → ∃ (p q : Array Value) (n m : Nat), s.heap.get? l = some { cls := .type "list", data := .seq p n } ∧ s.heap.get? b = some { cls := .type "list", data := .seq q m } ∧ p.size = N ∧ q.size = N ∧
    ∀ (hp : i < p.size) (hq : i < q.size), wpAny (model prog w) A.in1 (eqBool p[i] q[i]) (fun r s' => r = d i ∧ I (i + 1) s') E s
theorem eq_loopB (l b : Addr) (N : Nat) (d : Nat → Bool) (I : Nat → Shared → Prop) (hl : ListB prog w A (fun e s' => R (.error e) s') l b N d I)
    (yes : (∀ j, j < N → d j = true) → ∀ s, I N s → R (.ok (.ret (.bool true))) s) (no : ∀ j, j < N → d j = false → ∀ s, I (j + 1) s → R (.ok (.ret (.bool false))) s) (k : Nat) :
    ∀ i : Nat, N - i = k → i ≤ N → (∀ j, j < i → d j = true) → ∀ s, I i s →
      wpAny (model prog w) A.in1 (Builtin.«list.__eq__.loop» ⟨[.ref l, .ref b, rawInt i, rawInt 2], []⟩) (GQ.FinOf prog w A R) (fun e s' => R (.error e) s') s := by
  induction k with
  | zero =>
    intro i hk hi al s h
    obtain ⟨p, q, n, m, hl1, hb1, hs1, hs2, _⟩ := hl _ _ h
    obtain rfl : i = N := by omega
    have hR : R (.ok (.ret (.bool true))) s := yes al s h
    obtain ⟨hp, g, dr, tk, os⟩ := s
    wp_walk using wpAny_loadPart' hl1, wpAny_loadPart' hb1
    have hi1 : p[((i : Nat) : Int).toNat]? = none := by simp; omega
    have hi2 : q[((i : Nat) : Int).toNat]? = none := by simp; omega
    rw [hi1, hi2]
    wp_walk using wpAny_loadPart' hl1, wpAny_loadPart' hb1
    show R (.ok (.ret (.bool (p.size == q.size)))) _
    rw [hs1, hs2]
    simpa using hR
  | succ k ih =>
    intro i hk hi al s h
    obtain ⟨p, q, n, m, hl1, hb1, hs1, hs2, turn⟩ := hl _ _ h
    have ip : i < p.size := by omega
    have iq : i < q.size := by omega
    have ht := turn ip iq
    have iN : i < N := by omega
    obtain ⟨hp, g, dr, tk, os⟩ := s
    wp_walk using wpAny_loadPart' hl1, wpAny_loadPart' hb1
    have hi1 : p[((i : Nat) : Int).toNat]? = some p[i] := by simp [ip]
    have hi2 : q[((i : Nat) : Int).toNat]? = some q[i] := by simp [iq]
    rw [hi1, hi2]
    refine wpAny_bind (wpAny_mono ht (fun r s2 z => ?_) fun _ _ z => z)
    obtain ⟨rfl, z⟩ := z
    have more := hl
    cases hd : d i with
    | true =>
      have go := ih (i + 1) (by omega) iN (fun j hj => by
        by_cases c : j = i
        · rw [c]
          exact hd
        · exact al j (by omega)) s2 z
      have hc : ((i : Int) + 1) = ((i + 1 : Nat) : Int) := by omega
      obtain ⟨hp2, g2, d2, tk2, os2⟩ := s2
      wp_walk
      rw [hc]
      exact ⟨plainId_quiet plain_eq_loop _, codeAny_builtin entry_eq_loop (by
        rw [Around.under_plainId plain_eq_loop _]
        exact go)⟩
    | false =>
      have stop := no i iN hd s2 z
      obtain ⟨p', q', n', m', hl2, hb2, hs3, hs4, _⟩ := more _ _ z
      obtain ⟨hp2, g2, d2, tk2, os2⟩ := s2
      wp_walk using wpAny_loadPart' hl2, wpAny_loadPart' hb2
      have hj1 : p'[((i : Nat) : Int).toNat]? = some p'[i] := by simp [show i < p'.size by omega]
      have hj2 : q'[((i : Nat) : Int).toNat]? = some q'[i] := by simp [show i < q'.size by omega]
      rw [hj1, hj2]
      wp_walk
      exact stop
theorem list_eqB (l b : Addr) (N : Nat) (d : Nat → Bool) (I : Nat → Shared → Prop) (hl : ListB prog w A (fun e s' => R (.error e) s') l b N d I)
    (yes : (∀ j, j < N → d j = true) → ∀ s, I N s → R (.ok (.ret (.bool true))) s) (no : ∀ j, j < N → d j = false → ∀ s, I (j + 1) s → R (.ok (.ret (.bool false))) s) {s : Shared} (h : I 0 s) :
    wpAny (model prog w) A.in1 (Builtin.«list.__eq__» ⟨[.ref l, .ref b], []⟩) (GQ.FinOf prog w A R) (fun e s' => R (.error e) s') s := by
  obtain ⟨p, q, n, m, hl1, hb1, hs1, hs2, _⟩ := hl _ _ h
  have go := eq_loopB (A := A) (R := R) l b N d I hl yes no _ 0 rfl (Nat.zero_le _) (fun j hj => absurd hj (Nat.not_lt_zero _)) s h
  obtain ⟨hp, g, dr, tk, os⟩ := s
  have sub := AutoSeq1.sub_list_list
  have same : ¬ (p.size != q.size) = true := by simp [hs1, hs2]
  wp_walk using wpAny_loadPart' hl1, wpAny_loadPart' hb1
  exact ⟨plainId_quiet plain_eq_loop _, codeAny_builtin entry_eq_loop (by
    rw [Around.under_plainId plain_eq_loop _]
    exact go)⟩
theorem tuple_eqB (l b : Addr) (p q : Array Value) (n m : Nat) (dd dd2 : Option Addr) (sl sl2 : Array (Option Value)) (hsz : p.size = q.size) (d : Nat → Bool) (I : Nat → Shared → Prop)
    (turn : ∀ i (hp : i < p.size) (hq : i < q.size) s, I i s → wpAny (model prog w) A.in1 (eqBool p[i] q[i]) (fun r s' => r = d i ∧ I (i + 1) s') (fun e s' => R (.error e) s') s)
    (yes : (∀ j, j < p.size → d j = true) → ∀ s, I p.size s → R (.ok (.ret (.bool true))) s) (no : ∀ j, j < p.size → d j = false → ∀ s, I (j + 1) s → R (.ok (.ret (.bool false))) s)
    {s : Shared} (hl1 : s.heap.get? l = some { cls := .type "tuple", dict := dd, data := .seq p n, slots := sl }) (hb1 : s.heap.get? b = some { cls := .type "tuple", dict := dd2, data := .seq q m, slots := sl2 }) (h : I 0 s) :
    wpAny (model prog w) A.in1 (Builtin.«tuple.__eq__» ⟨[.ref l, .ref b], []⟩) (GQ.FinOf prog w A R) (fun e s' => R (.error e) s') s := by
  have sub := AutoSeq1.sub_tuple_tuple
  have lz : (p.toList.zip q.toList).length = p.size := by simp [hsz]
  have start := h
  obtain ⟨hp, g, dr, tk, os⟩ := s
  wp_walk using wpAny_loadPart' hl1, wpAny_loadPart' hb1, wpAny_forIn_list _ (fun rest b s' => (b.1 = none ∧ ∃ i, rest = (p.toList.zip q.toList).drop i ∧ i ≤ p.size ∧ (∀ j, j < i → d j = true) ∧ I i s')) _
  case turn =>
    rintro ⟨y, x⟩ rest b s' ⟨nb, i, hz, hi, al, z⟩
    have il : i < (p.toList.zip q.toList).length := Nat.lt_of_not_le fun c => by
      rw [List.drop_of_length_le c] at hz
      cases hz
    have i1 : i < p.size := by omega
    have i2 : i < q.size := by omega
    rw [List.drop_eq_getElem_cons il] at hz
    obtain ⟨exy, er⟩ := List.cons.inj hz
    obtain rfl : y = p[i] := by simpa using congrArg Prod.fst exy
    obtain rfl : x = q[i] := by simpa using congrArg Prod.snd exy
    refine wpAny_bind (wpAny_mono (turn i i1 i2 s' z) (fun r s2 ⟨er', z2⟩ => ?_) fun _ _ z => z)
    subst er'
    cases hd : d i with
    | true =>
      wp_walk
      refine ⟨rfl, i + 1, er, i1, fun j hj => ?_, z2⟩
      by_cases c : j = i
      · rw [c]
        exact hd
      · exact al j (by omega)
    | false =>
      have stop := no i i1 hd s2 z2
      wp_walk
      exact stop
  case fin =>
    rintro ⟨b1, b2⟩ s' ⟨nb, i, hz, hi, al, z⟩
    simp only at nb
    subst nb
    have ge : p.size ≤ i := Nat.le_of_not_lt fun c => by
      rw [List.drop_eq_getElem_cons (by omega)] at hz
      cases hz
    obtain rfl : i = p.size := by omega
    have z' := yes al s' z
    wp_walk
    simpa [Builtin.Tuple.tupleCompareSizes, hsz] using z'
  case h =>
    exact ⟨rfl, 0, rfl, Nat.zero_le _, fun j hj => absurd hj (Nat.not_lt_zero _), start⟩
end
section
variable {prog : Program} {w : World} {A : Around} {E : Value → Shared → Prop} {s : Shared}
theorem rc_listB {l b : Addr} {N : Nat} {d : Nat → Bool} {Q : Value → Shared → Prop} (hu : A.units < cLine) (I : Nat → Shared → Prop) (hl : ListB prog w A E l b N d I)
    (yes : (∀ j, j < N → d j = true) → ∀ s, I N s → Q (.bool true) s) (no : ∀ j, j < N → d j = false → ∀ s, I (j + 1) s → Q (.bool false) s) (h : I 0 s) : wpAny (model prog w) A (richCompare .Eq (.ref l) (.ref b)) Q E s := by
  obtain ⟨p, q, n, m, hl1, hb1, _, _, _⟩ := hl _ _ h
  refine wpAny_richCompare_same_room (op := .Eq) ⟨_, hl1, rfl⟩ ⟨_, hb1, rfl⟩ F.slot_list_eq (GQ.call_here F.slot_list_eq ⟨_, hl1, rfl⟩ F.entry_list_eq (F.args_list_eq_2 _ _) ?_) hu
  exact list_eqB (R := wants (fun v s' => v ≠ .notImplemented ∧ Q v s') E) l b N d I hl (fun al s' z => ⟨(fun x => nomatch x), yes al s' z⟩) (fun j hj e s' z => ⟨(fun x => nomatch x), no j hj e s' z⟩) h
theorem rc_tupB {l b : Addr} {p q : Array Value} {d : Nat → Bool} {Q : Value → Shared → Prop} (hsz : p.size = q.size) (hu : A.units < cLine) (I : Nat → Shared → Prop) (hl : s.heap.IsTuple l p) (hb : s.heap.IsTuple b q)
    (turn : ∀ i (hp : i < p.size) (hq : i < q.size) s, I i s → wpAny (model prog w) A.in1 (eqBool p[i] q[i]) (fun r s' => r = d i ∧ I (i + 1) s') E s)
    (yes : (∀ j, j < p.size → d j = true) → ∀ s, I p.size s → Q (.bool true) s) (no : ∀ j, j < p.size → d j = false → ∀ s, I (j + 1) s → Q (.bool false) s) (h : I 0 s) : wpAny (model prog w) A (richCompare .Eq (.ref l) (.ref b)) Q E s := by
  obtain ⟨⟨cls, dd, data, sl⟩, ho, hc, n, hd⟩ := id hl
  obtain ⟨⟨cls2, dd2, data2, sl2⟩, ho2, hc2, n2, hd2⟩ := id hb
  simp only at hc hd hc2 hd2
  subst hc hd hc2 hd2
  refine wpAny_richCompare_same_room (op := .Eq) ⟨_, ho, rfl⟩ ⟨_, ho2, rfl⟩ F.slot_tuple_eq (GQ.call_here F.slot_tuple_eq ⟨_, ho, rfl⟩ F.entry_tuple_eq (F.args_tuple_eq_2 _ _) ?_) hu
  exact tuple_eqB (R := wants (fun v s' => v ≠ .notImplemented ∧ Q v s') E) l b p q n n2 dd dd2 sl sl2 hsz d I turn (fun al s' z => ⟨(fun x => nomatch x), yes al s' z⟩) (fun j hj e s' z => ⟨(fun x => nomatch x), no j hj e s' z⟩) ho ho2 h
/-- x in [y] -/
theorem in_oneB {l : Addr} {x y : Value} {p : Array Value} {n : Nat} {dd : Option Addr} {sl : Array (Option Value)} {r : Bool} {Q : Value → Shared → Prop} {J : Shared → Prop} (hp : p = #[y]) (hl : s.heap.get? l = some { cls := .type "list", dict := dd, data := .seq p n, slots := sl })
    (he : wpAny (model prog w) A.in1 (eqBool y x) (fun b s' => b = r ∧ J s') E s) (keep : ∀ s', J s' → ∃ y' p' n', p' = #[y'] ∧ s'.heap.get? l = some { cls := .type "list", dict := dd, data := .seq p' n', slots := sl })
    (h : ∀ s', J s' → Q (.bool r) s') : wpAny (model prog w) A (compareOp .In x (.ref l)) Q E s := by
  show wpAny _ A (do return .bool (← contains (.ref l) x)) Q E s
  refine wpAny_bind (wpAny_contains_slot ⟨_, hl, rfl⟩ F.slot_list_contains (wpAny_mono (Q := fun v s' => v = .bool r ∧ J s') (GQ.call_here F.slot_list_contains ⟨_, hl, rfl⟩ F.entry_list_contains (F.args_list_contains_2 _ _) ?_) (fun v s' hv => ?_) fun _ _ e => e))
  · obtain ⟨hp0, g, dr, tk, os⟩ := s
    wp_walk using wpAny_loadPart' hl
    refine ⟨plainId_quiet plain_contains_loop _, codeAny_builtin entry_contains_loop ?_⟩
    rw [Around.under_plainId plain_contains_loop _]
    wp_walk using wpAny_loadPart' hl
    have h0 : p[(0 : Int).toNat]? = some y := by rw [hp]; rfl
    rw [h0]
    refine wpAny_bind (wpAny_mono he (fun b s2 z => ?_) fun _ _ z => z)
    obtain ⟨rfl, z⟩ := z
    obtain ⟨y', p', n', hp', k2⟩ := keep _ z
    cases b with
    | true =>
      wp_walk
      exact ⟨rfl, z⟩
    | false =>
      obtain ⟨hp2, g2, d2, tk2, os2⟩ := s2
      wp_walk
      refine ⟨plainId_quiet plain_contains_loop _, codeAny_builtin entry_contains_loop ?_⟩
      rw [Around.under_plainId plain_contains_loop _]
      wp_walk using wpAny_loadPart' k2
      have h1 : p'[(0 + 1 : Int).toNat]? = none := by rw [hp']; rfl
      rw [h1]
      wp_walk
      exact ⟨rfl, z⟩
  · obtain ⟨rfl, z⟩ := hv
    exact wpAny_truthy_bool (wpAny_pure (h s' z))
end
end K04.GN
namespace K04
open PySem PySem.Spec PyProof.Rows L2
/-- what == says of two values, by the abstract heap -/
abbrev Eqb := V → V → Bool → Hp → Prop
def MonB (D : Eqb) : Prop := ∀ x y r H H', Ext H H' → D x y r H → D x y r H'
/-- == inside a list or tuple answers what D says -/
structure EqB (X : Cx) (n : Nat) (D : Eqb) : Prop where
  run : ∀ (A : Around) (pins : List (Addr × Obj)) (s : Shared) (σ : L2.St) (H : Hp) (x y : V) (r : Bool) (u v : Value), Sub X n A → Inv X pins σ H s → RelV x u → RelV y v → D x y r H →
    wpAny (model X.prog X.w) A (eqBool u v) (fun b s' => b = r ∧ ∃ H', Inv X pins σ H' s' ∧ Ext H H') X.xe s
  same : ∀ (pins : List (Addr × Obj)) (s : Shared) (σ : L2.St) (H : Hp) (x y : V) (r : Bool) (u : Value), Inv X pins σ H s → RelV x u → RelV y u → D x y r H → r = true
def RcB (X : Cx) (n : Nat) (D : Eqb) : Prop :=
  ∀ (A : Around) (pins : List (Addr × Obj)) (s : Shared) (σ : L2.St) (H : Hp) (x y : V) (r : Bool) (u v : Value), Sub X n A → Inv X pins σ H s → RelV x u → RelV y v → D x y r H →
    wpAny (model X.prog X.w) A (richCompare .Eq u v) (fun b s' => b = .bool r ∧ ∃ H', Inv X pins σ H' s' ∧ Ext H H') X.xe s
/-- item by item -/
def PrsB (D : Eqb) (xs ys : List V) (rs : List Bool) (H : Hp) : Prop := xs.length = ys.length ∧ rs.length = xs.length ∧ ∀ (i : Nat) x y r, xs[i]? = some x → ys[i]? = some y → rs[i]? = some r → D x y r H
def DListB (D : Eqb) : Eqb := fun x y r H => ∃ a b xs ys, x = .ref a ∧ y = .ref b ∧ H a = some (.lst xs) ∧ H b = some (.lst ys) ∧ ((xs.length ≠ ys.length ∧ r = false) ∨ ∃ rs, PrsB D xs ys rs H ∧ r = rs.all id)
def DTupB (K : PySem.W.Frag) (D : Eqb) : Eqb := fun x y r H => ∃ a b xs ys rs, x = .ref a ∧ y = .ref b ∧ SqT K H a xs ∧ SqT K H b ys ∧ PrsB D xs ys rs H ∧ r = rs.all id
def DIntB : Eqb := fun x y r _ => ∃ i j : Int, x = .int i ∧ y = .int j ∧ r = decide (i = j)
def DShB (C : Addr) : Eqb := fun x y r H => ∃ (p q : Addr) (t1 b1 t2 b2 : Int), x = .ref p ∧ y = .ref q ∧ ShAt C H p t1 b1 ∧ ShAt C H q t2 b2 ∧ r = (decide (t1 = t2) && decide (b1 = b2))
section
variable {X : Cx} {n m : Nat} {D D' : Eqb}
theorem EqB.mono (h : EqB X n D) (hn : n ≤ m) : EqB X m D := ⟨fun A pins s σ H x y r u v sb => h.run A pins s σ H x y r u v (sb.mono hn), h.same⟩
theorem EqB.or (h : EqB X n D) (h' : EqB X n D') : EqB X n (fun x y r H => D x y r H ∨ D' x y r H) :=
  ⟨fun A pins s σ H x y r u v sb I rx ry d => d.elim (fun d => h.run A pins s σ H x y r u v sb I rx ry d) (fun d => h'.run A pins s σ H x y r u v sb I rx ry d),
   fun pins s σ H x y r u I rx ry d => d.elim (fun d => h.same pins s σ H x y r u I rx ry d) (fun d => h'.same pins s σ H x y r u I rx ry d)⟩
theorem eqB_int : EqB X 0 DIntB := by
  refine ⟨fun A pins s σ H x y r u v sb I rx ry d => ?_, fun pins s σ H x y r u I rx ry d => ?_⟩
  · obtain ⟨i, j, rfl, rfl, rfl⟩ := d
    have q := eqAt_V (A := A) (s := s) rx ry rfl rfl
    have e : eqV (.int i) (.int j) = decide (i = j) := by unfold eqV; exact Bool.beq_eq_decide_eq i j
    rw [e] at q
    exact q X.prog X.w X.xe _ ⟨rfl, H, I, Ext.rfl'⟩
  · obtain ⟨i, j, rfl, rfl, rfl⟩ := d
    obtain ⟨t, rfl⟩ := rx
    obtain ⟨t', e⟩ := ry
    injection e with e
    rw [e]
    exact decide_eq_true rfl
theorem sh_one {C : Addr} {H : Hp} {p : Addr} {t1 b1 t2 b2 : Int} (h1 : ShAt C H p t1 b1) (h2 : ShAt C H p t2 b2) : t1 = t2 ∧ b1 = b2 := by
  obtain ⟨d1, e1⟩ := h1
  obtain ⟨d2, e2⟩ := h2
  rw [e1] at e2
  injection e2 with e2
  injection e2 with _ _ e2
  have u := shf_top t1 b1
  have v := shf_bottom t1 b1
  rw [e2, shf_top] at u
  rw [e2, shf_bottom] at v
  injection u with u
  injection u with u
  injection v with v
  injection v with v
  exact ⟨u.symm, v.symm⟩
theorem eqB_sh {C f : Addr} (O : OwnEq X n C f) : EqB X n (DShB C) := by
  refine ⟨fun A pins s σ H x y r u v sb I rx ry d => ?_, fun pins s σ H x y r u I rx ry d => ?_⟩
  · obtain ⟨p, q, t1, b1, t2, b2, rfl, rfl, h1, h2, rfl⟩ := d
    cases rx
    cases ry
    by_cases e : p = q
    · subst e
      obtain ⟨rfl, rfl⟩ := sh_one h1 h2
      exact SeqAt.EqAt.same (A := A) (s := s) (.ref p) X.prog X.w X.xe _ ⟨by rw [decide_eq_true rfl, decide_eq_true rfl]; rfl, H, I, Ext.rfl'⟩
    · refine GQ.eqBool_refG e (wpAny_mono (rc_two O sb I h1 h2) (fun b s' z => ?_) fun _ _ z => z)
      obtain ⟨rfl, I'⟩ := z
      exact ⟨_, rfl, rfl, H, I', Ext.rfl'⟩
  · obtain ⟨p, q, t1, b1, t2, b2, rfl, rfl, h1, h2, rfl⟩ := d
    cases rx
    cases ry
    obtain ⟨rfl, rfl⟩ := sh_one h1 h2
    rw [decide_eq_true rfl, decide_eq_true rfl]
    rfl
theorem turnB (hD : MonB D) (h : EqB X n D) {A : Around} (sb : Sub X (n + 1) A) {pins : List (Addr × Obj)} {σ : L2.St} {H : Hp} {xs ys : List V} {rs : List Bool} {its its2 : List Value} (p : PrsB D xs ys rs H) (r : Vals xs its) (r2 : Vals ys its2)
    (i : Nat) (h1 : i < its.toArray.size) (h2 : i < its2.toArray.size) (s' : Shared) (l : LoopI X pins σ H s') :
    wpAny (model X.prog X.w) A.in1 (eqBool its.toArray[i] its2.toArray[i]) (fun b s2 => b = rs.getD i true ∧ LoopI X pins σ H s2) X.xe s' := by
  obtain ⟨H1, I1, e1⟩ := l
  have a1 : i < its.length := by simpa using h1
  have a2 : i < its2.length := by simpa using h2
  have k1 : i < xs.length := by rw [r.length]; exact a1
  have k2 : i < ys.length := by rw [r2.length]; exact a2
  have k3 : i < rs.length := by rw [p.2.1]; exact k1
  obtain ⟨u, hu, ru⟩ := r.get (List.getElem?_eq_getElem k1)
  obtain ⟨v, hv, rv⟩ := r2.get (List.getElem?_eq_getElem k2)
  have eu : its.toArray[i] = u := by
    rw [List.getElem?_eq_getElem a1] at hu
    simpa using hu
  have ev : its2.toArray[i] = v := by
    rw [List.getElem?_eq_getElem a2] at hv
    simpa using hv
  rw [eu, ev]
  have er : rs.getD i true = rs[i] := by rw [List.getD_eq_getElem?_getD, List.getElem?_eq_getElem k3]; rfl
  rw [er]
  refine wpAny_mono (h.run A.in1 pins s' σ H1 _ _ _ u v sb.in1 I1 ru rv (hD _ _ _ _ _ e1 (p.2.2 i _ _ _ (List.getElem?_eq_getElem k1) (List.getElem?_eq_getElem k2) (List.getElem?_eq_getElem k3)))) (fun b s2 z => ?_) fun _ _ z => z
  obtain ⟨hb, H2, I2, e2⟩ := z
  exact ⟨hb, H2, I2, e1.trans e2⟩
theorem all_getD {rs : List Bool} (h : ∀ j, j < rs.length → rs.getD j true = true) : rs.all id = true := by
  rw [List.all_eq_true]
  intro b hb
  obtain ⟨j, hj⟩ := List.mem_iff_getElem?.mp hb
  have hl := (List.getElem?_eq_some_iff.mp hj).1
  have := h j hl
  rw [List.getD_eq_getElem?_getD, hj] at this
  exact this
theorem not_getD {rs : List Bool} {j : Nat} (hj : j < rs.length) (h : rs.getD j true = false) : rs.all id = false := by
  rw [List.all_eq_false]
  refine ⟨rs[j], List.getElem_mem hj, ?_⟩
  rw [List.getD_eq_getElem?_getD, List.getElem?_eq_getElem hj] at h
  have h : rs[j] = false := h
  rw [h]
  decide
theorem rcB_list (hD : MonB D) (h : EqB X n D) : RcB X (n + 1) (DListB D) := by
  intro A pins s σ H x y r u v sb I rx ry d
  obtain ⟨a, b, xs, ys, rfl, rfl, ha, hb, p⟩ := d
  cases rx
  cases ry
  rcases p with ⟨ne, rfl⟩ | ⟨rs, p, rfl⟩
  · obtain ⟨z, its, k, r, e⟩ := I.hok a _ ha
    obtain ⟨z2, its2, k2, r2, e2⟩ := I.hok b _ hb
    exact SeqAt.RcAt.lists_lengths ⟨_, e, rfl, _, rfl⟩ ⟨_, e2, rfl, _, rfl⟩ (by
      have l1 := r.length
      have l2 := r2.length
      simp
      omega) sb.room.units0 X.prog X.w X.xe _ ⟨rfl, H, I, Ext.rfl'⟩
  · refine GN.rc_listB (N := xs.length) (d := fun i => rs.getD i true) sb.room.units0 (fun _ s' => LoopI X pins σ H s') (fun i s' q => ?_) (fun al s' q => ⟨by rw [all_getD fun j hj => al j (by rw [← p.2.1]; exact hj)], q⟩) (fun j hj e s' q => ⟨by rw [not_getD (by rw [p.2.1]; exact hj) e], q⟩) ⟨H, I, Ext.rfl'⟩
    obtain ⟨H1, I1, e1⟩ := id q
    obtain ⟨z, its, k, r, e⟩ := I1.hok a _ (e1 _ _ ha)
    obtain ⟨z2, its2, k2, r2, e2⟩ := I1.hok b _ (e1 _ _ hb)
    refine ⟨its.toArray, its2.toArray, k, k2, e, e2, by rw [List.size_toArray, ← r.length], by rw [List.size_toArray, ← r2.length, ← p.1], fun h1 h2 => ?_⟩
    exact turnB hD h sb p r r2 i h1 h2 s' q
theorem rcB_tup (hD : MonB D) (h : EqB X n D) : RcB X (n + 1) (DTupB X.K D) := by
  intro A pins s σ H x y r u v sb I rx ry d
  obtain ⟨a, b, xs, ys, rs, rfl, rfl, ha, hb, p, rfl⟩ := d
  cases rx
  cases ry
  obtain ⟨its, r, e, z⟩ := I.tuple ha
  obtain ⟨its2, r2, e2, z2⟩ := I.tuple hb
  have hsz : its.toArray.size = its2.toArray.size := by rw [List.size_toArray, List.size_toArray, ← r.length, ← r2.length]; exact p.1
  have l1 : its.toArray.size = rs.length := by rw [List.size_toArray, ← r.length, p.2.1]
  exact GN.rc_tupB (d := fun i => rs.getD i true) hsz sb.room.units0 (fun _ s' => LoopI X pins σ H s') e e2 (fun i h1 h2 s' q => turnB hD h sb p r r2 i h1 h2 s' q)
    (fun al s' q => ⟨by rw [all_getD fun j hj => al j (by rw [l1]; exact hj)], q⟩) (fun j hj e s' q => ⟨by rw [not_getD (by rw [← l1]; exact hj) e], q⟩) ⟨H, I, Ext.rfl'⟩
theorem RcB.eqB (h : RcB X n D) (hr : ∀ x y r H, D x y r H → ∃ a b, x = .ref a ∧ y = .ref b) (sm : ∀ (pins : List (Addr × Obj)) (s : Shared) (σ : L2.St) (H : Hp) (x y : V) (r : Bool) (u : Value), Inv X pins σ H s → RelV x u → RelV y u → D x y r H → r = true) : EqB X n D := by
  refine ⟨fun A pins s σ H x y r u v sb I rx ry d => ?_, sm⟩
  obtain ⟨a, b, rfl, rfl⟩ := hr _ _ _ _ d
  cases rx
  cases ry
  by_cases hab : a = b
  · subst hab
    obtain rfl := sm pins s σ H (.ref a) (.ref a) _ (.ref a) I rfl rfl d
    exact SeqAt.EqAt.same (A := A) (s := s) (.ref a) X.prog X.w X.xe _ ⟨rfl, H, I, Ext.rfl'⟩
  · refine GQ.eqBool_refG hab (wpAny_mono (h A pins s σ H (.ref a) (.ref b) _ _ _ sb I rfl rfl d) (fun b s' q => ?_) fun _ _ x => x)
    obtain ⟨rfl, q⟩ := q
    exact ⟨_, rfl, rfl, q⟩
theorem same_prs (h : EqB X n D) {pins : List (Addr × Obj)} {s : Shared} {σ : L2.St} {H : Hp} (I : Inv X pins σ H s) {xs ys : List V} {rs : List Bool} {its : List Value} (p : PrsB D xs ys rs H) (r : Vals xs its) (r2 : Vals ys its) : rs.all id = true := by
  rw [List.all_eq_true]
  intro b hb
  obtain ⟨j, hj⟩ := List.mem_iff_getElem?.mp hb
  have hl := (List.getElem?_eq_some_iff.mp hj).1
  have k1 : j < xs.length := by rw [← p.2.1]; exact hl
  have k2 : j < ys.length := by rw [← p.1]; exact k1
  obtain ⟨u, hu, ru⟩ := r.get (List.getElem?_eq_getElem k1)
  obtain ⟨v, hv, rv⟩ := r2.get (List.getElem?_eq_getElem k2)
  rw [hu] at hv
  obtain rfl := Option.some.inj hv
  exact h.same pins s σ H _ _ _ u I ru rv (p.2.2 j _ _ _ (List.getElem?_eq_getElem k1) (List.getElem?_eq_getElem k2) hj)
theorem eqB_tup (hD : MonB D) (h : EqB X n D) : EqB X (n + 1) (DTupB X.K D) := (rcB_tup hD h).eqB (fun _ _ _ _ d => let ⟨a, b, _, _, _, hx, hy, _⟩ := d; ⟨a, b, hx, hy⟩) fun pins s σ H x y r u I rx ry d => by
  obtain ⟨a, b, xs, ys, rs, rfl, rfl, ha, hb, p, rfl⟩ := d
  cases rx
  cases ry
  obtain ⟨its, r, ⟨o, e, c, k, dt⟩, _⟩ := I.tuple ha
  obtain ⟨its2, r2, ⟨o2, e2, c2, k2, dt2⟩, _⟩ := I.tuple hb
  rw [e] at e2
  obtain rfl := Option.some.inj e2
  rw [dt] at dt2
  injection dt2 with dt2
  obtain rfl : its = its2 := by simpa using dt2
  exact same_prs h I p r r2
def rEqB (D : Eqb) : R2 := fun x y H Q => ∃ r, D x y r H ∧ ∀ H', Ext H H' → Q (.bl r) H'
theorem op_eqB (h : RcB X n D) (hr : Room n X.A) : OpR X (compareOp .Eq) (rEqB D) := by
  intro pins s σ H x y v u Q I rx ry hq
  obtain ⟨r, d, q⟩ := hq
  show wpAny (model X.prog X.w) X.A (richCompare .Eq v u) (EP X pins σ Q) X.xe s
  refine wpAny_mono (h X.A pins s σ H x y r v u ⟨hr, rfl⟩ I rx ry d) (fun b s' z => ?_) fun _ _ x => x
  obtain ⟨rfl, H', I', e⟩ := z
  exact ⟨.bl r, H', I', rfl, q H' e⟩
/-- x in [y] -/
def rInB1 (D : Eqb) : R2 := fun x y H Q => ∃ l z r, y = .ref l ∧ H l = some (.lst [z]) ∧ D z x r H ∧ ∀ H', Ext H H' → Q (.bl r) H'
theorem op_inB1 (h : EqB X n D) (hr : Room (n + 1) X.A) : OpR X (compareOp .In) (rInB1 D) := by
  intro pins s σ H x y v u Q I rx ry hq
  obtain ⟨l, z, r, rfl, hl, d, q⟩ := hq
  cases ry
  obtain ⟨zz, its, k, rv, e⟩ := I.hok l _ hl
  cases rv with
  | cons r1 rn =>
    cases rn
    have sb : Sub X (n + 1) X.A := ⟨hr, rfl⟩
    refine GN.in_oneB (J := fun s' => ∃ H', Inv X pins σ H' s' ∧ Ext H H') rfl e (h.run X.A.in1 pins s σ H z x r _ _ sb.in1 I r1 rx d) (fun s' ⟨H', I', e'⟩ => ?_) (fun s' ⟨H', I', e'⟩ => ⟨.bl r, H', I', rfl, q H' e'⟩)
    obtain ⟨_, its', k', rv', e2⟩ := I'.hok l _ (e' _ _ hl)
    cases rv' with
    | cons r2 rn2 =>
      cases rn2
      exact ⟨_, _, _, rfl, e2⟩
end
end K04

namespace K04
open PySem PySem.Spec PyProof.Rows L2
/-! ### webs: == and !=, both answers -/
instance : DecidableEq Bed := fun a b => decidable_of_iff (a.s = b.s ∧ a.e = b.e ∧ a.lo = b.lo ∧ a.hi = b.hi) ⟨fun h => by
  obtain ⟨a1, a2, a3, a4⟩ := a
  obtain ⟨b1, b2, b3, b4⟩ := b
  obtain ⟨rfl, rfl, rfl, rfl⟩ := h
  rfl, fun h => by rw [h]; exact ⟨rfl, rfl, rfl, rfl⟩⟩
instance : DecidableEq WebV := fun a b => decidable_of_iff (a.many = b.many ∧ a.beds = b.beds ∧ a.parts = b.parts) ⟨fun h => by
  obtain ⟨a1, a2, a3⟩ := a
  obtain ⟨b1, b2, b3⟩ := b
  obtain ⟨rfl, rfl, rfl⟩ := h
  rfl, fun h => by rw [h]; exact ⟨rfl, rfl, rfl⟩⟩
def DItemB (C : Addr) : Eqb := fun x y r H => DIntB x y r H ∨ DShB C x y r H
theorem mon_itemB {C : Addr} : MonB (DItemB C) := by
  rintro x y r H H' e (d | ⟨p, q, t1, b1, t2, b2, hx, hy, h1, h2, hr⟩)
  · exact .inl d
  · exact .inr ⟨p, q, t1, b1, t2, b2, hx, hy, ShAt.mono h1 e, ShAt.mono h2 e, hr⟩
theorem PrsB.mon {D : Eqb} (hD : MonB D) {xs ys : List V} {rs : List Bool} {H H' : Hp} (e : Ext H H') (p : PrsB D xs ys rs H) : PrsB D xs ys rs H' := ⟨p.1, p.2.1, fun i x y r h1 h2 h3 => hD x y r H H' e (p.2.2 i x y r h1 h2 h3)⟩
theorem PrsB.nil {D : Eqb} {H : Hp} : PrsB D [] [] [] H := ⟨rfl, rfl, fun i x y r h _ _ => by simp at h⟩
theorem PrsB.cons {D : Eqb} {x y : V} {r : Bool} {xs ys : List V} {rs : List Bool} {H : Hp} (h : D x y r H) (p : PrsB D xs ys rs H) : PrsB D (x :: xs) (y :: ys) (r :: rs) H := by
  refine ⟨by rw [List.length_cons, List.length_cons, p.1], by rw [List.length_cons, List.length_cons, p.2.1], fun i a b c h1 h2 h3 => ?_⟩
  cases i with
  | zero =>
    simp at h1 h2 h3
    subst h1 h2 h3
    exact h
  | succ i => exact p.2.2 i a b c (by simpa using h1) (by simpa using h2) (by simpa using h3)
theorem mon_tupB {K : PySem.W.Frag} {D : Eqb} (hD : MonB D) : MonB (DTupB K D) := by
  rintro x y r H H' e ⟨a, b, xs, ys, rs, hx, hy, h1, h2, p, hr⟩
  exact ⟨a, b, xs, ys, rs, hx, hy, h1.ext e, h2.ext e, p.mon hD e, hr⟩
theorem bed_eqB {K : PySem.W.Frag} {C : Addr} {H : Hp} {s t : Addr} {b c : Bed} (h1 : BedAt K C H s b) (h2 : BedAt K C H t c) : DTupB K (DItemB C) (.ref s) (.ref t) (decide (b = c)) H := by
  obtain ⟨x, y, a1, a2, a3⟩ := h1
  obtain ⟨u, v, c1, c2, c3⟩ := h2
  refine ⟨s, t, _, _, _, rfl, rfl, a1, c1, .cons (.inl ⟨_, _, rfl, rfl, rfl⟩) (.cons (.inl ⟨_, _, rfl, rfl, rfl⟩) (.cons (.inr ⟨x, u, _, _, _, _, rfl, rfl, a2, c2, rfl⟩) (.cons (.inr ⟨y, v, _, _, _, _, rfl, rfl, a3, c3, rfl⟩) .nil))), ?_⟩
  obtain ⟨b1, b2, b3, b4⟩ := b
  obtain ⟨e1, e2, e3, e4⟩ := c
  rw [List.all_cons, List.all_cons, List.all_cons, List.all_cons, List.all_nil, Bool.and_true]
  show decide (Bed.mk b1 b2 b3 b4 = Bed.mk e1 e2 e3 e4) = (decide ((b1 : Int) = (e1 : Int)) && (decide ((b2 : Int) = (e2 : Int)) && ((decide (b3.num = e3.num) && decide ((b3.den : Int) = (e3.den : Int))) && (decide (b4.num = e4.num) && decide ((b4.den : Int) = (e4.den : Int))))))
  rw [rat_eq, rat_eq, ← Bool.decide_and, ← Bool.decide_and, ← Bool.decide_and]
  refine decide_eq_decide.mpr ?_
  rw [Bed.mk.injEq]
  constructor
  · rintro ⟨rfl, rfl, rfl, rfl⟩
    exact ⟨rfl, rfl, rfl, rfl⟩
  · rintro ⟨z1, z2, z3, z4⟩
    exact ⟨by omega, by omega, z3, z4⟩
theorem all_zip {α : Type} [DecidableEq α] : ∀ {bs cs : List α}, bs.length = cs.length → ((bs.zip cs).map fun p => decide (p.1 = p.2)).all id = decide (bs = cs)
  | [], [], _ => rfl
  | [], _ :: _, h => by simp at h
  | _ :: _, [], h => by simp at h
  | b :: bs, c :: cs, h => by
    have ih := all_zip (bs := bs) (cs := cs) (by simpa using h)
    rw [List.zip_cons_cons, List.map_cons, List.all_cons, ih]
    show (decide (b = c) && decide (bs = cs)) = _
    rw [← Bool.decide_and]
    exact decide_eq_decide.mpr (by rw [List.cons.injEq])
theorem beds_eqB {K : PySem.W.Frag} {C : Addr} {H : Hp} {l m : Addr} {bs cs : List Bed} (h1 : WBedsT K C H l bs) (h2 : WBedsT K C H m cs) : DListB (DTupB K (DItemB C)) (.ref l) (.ref m) (decide (bs = cs)) H := by
  obtain ⟨ss, e1, a1⟩ := h1
  obtain ⟨ts, e2, a2⟩ := h2
  have l1 := a1.len
  have l2 := a2.len
  refine ⟨l, m, _, _, rfl, rfl, e1, e2, ?_⟩
  by_cases h : bs.length = cs.length
  · refine .inr ⟨(bs.zip cs).map fun p => decide (p.1 = p.2), ⟨by rw [List.length_map, List.length_map, l1, l2, h], by rw [List.length_map, List.length_map, List.length_zip]; omega, fun i x y r hx hy hr => ?_⟩, (all_zip h).symm⟩
    rw [List.getElem?_map] at hx hy hr
    obtain ⟨s, hs, rfl⟩ := Option.map_eq_some_iff.mp hx
    obtain ⟨t, ht, rfl⟩ := Option.map_eq_some_iff.mp hy
    obtain ⟨p, hp, rfl⟩ := Option.map_eq_some_iff.mp hr
    rw [List.getElem?_zip_eq_some] at hp
    exact bed_eqB (a1.all i s _ hs hp.1) (a2.all i t _ ht hp.2)
  · exact .inl ⟨by rw [List.length_map, List.length_map, l1, l2]; exact h, decide_eq_false fun z => h (by rw [z])⟩
theorem eqvL_ints : ∀ l m : List Int, PyData.eqvAll (l.map PyData.int) (m.map PyData.int) = decide (l = m)
  | [], [] => by simp [PyData.eqvAll]
  | [], _ :: _ => by simp [PyData.eqvAll]
  | _ :: _, [] => by simp [PyData.eqvAll]
  | a :: l, b :: m => by
    have ih := eqvL_ints l m
    have h : (a == b) = decide (a = b) := Bool.beq_eq_decide_eq a b
    simp only [List.map_cons, PyData.eqvAll, PyData.eqv, ih, h]
    by_cases c : a = b
    · simp [c]
    · simp [c]
/-- == of lists whose items are told apart by what they are told by -/
theorem eqvL_map {α : Type} [DecidableEq α] {f : α → PyData} (h : ∀ a b, PyData.eqv (f a) (f b) = decide (a = b)) : ∀ l m : List α, PyData.eqvAll (l.map f) (m.map f) = decide (l = m)
  | [], [] => by simp [PyData.eqvAll]
  | [], _ :: _ => by simp [PyData.eqvAll]
  | _ :: _, [] => by simp [PyData.eqvAll]
  | a :: l, b :: m => by
    have ih := eqvL_map h l m
    simp only [List.map_cons, PyData.eqvAll, h, ih]
    by_cases c : a = b
    · simp [c]
    · simp [c]
theorem nat_ints {ps qs : List Nat} : (ps.map fun n : Nat => (n : Int)) = (qs.map fun n : Nat => (n : Int)) ↔ ps = qs := List.map_inj_right fun a b e => by omega
theorem eqv_pnd (ps qs : List Nat) : PyData.eqv (pnd ps) (pnd qs) = decide (ps = qs) := by
  unfold pnd
  rw [show PyData.eqv (.tuple ((ps.map fun n : Nat => (n : Int)).map PyData.int)) (.tuple ((qs.map fun n : Nat => (n : Int)).map PyData.int)) = PyData.eqvAll ((ps.map fun n : Nat => (n : Int)).map PyData.int) ((qs.map fun n : Nat => (n : Int)).map PyData.int) from by simp only [PyData.eqv], eqvL_ints]
  exact decide_eq_decide.mpr nat_ints
/-! ### an own == that says both, and the != over it -/
def spEqB (R : Addr → Addr → Bool → Hp → Prop) : Sp := fun vs H Q _ => ∃ a b r, vs = [.ref a, .ref b] ∧ R a b r H ∧ ∀ H', Ext H H' → Q (.bl r) H'
def RWebB (K : PySem.W.Frag) (C CW : Addr) : Addr → Addr → Bool → Hp → Prop := fun a b r H => ∃ W V : WebV, WebAt K C CW H a W ∧ WebAt K C CW H b V ∧ r = decide (W = V)
section
variable {P : Program} {w : World} {K : PySem.W.Frag} {mg : Str → Option Value} {base : Heap}
theorem ok_webeqB {f f1 C CW : Addr} {fd fd1 : FuncData} (F : Fun K "__eq__" "Web.__eq__" d_Web_eq f fd) (TW : CrsW K CW) (Y : TxtW mg C) (hW : mg "Web" = some (.ref CW)) (IsW : ∀ H p dx fs, H p = some (.ins CW dx fs) → TyX K H (.ref p) (.ref CW)) (me : PySem.W.kitOne K (.ref CW) (.ref CW) = some true)
    (G1 : FnOk P w K mg base CX0 1 f1 fd1 ["self", "other"] (spEqS K C)) (at1 : PySem.W.findIn K (.ref C) "__eq__" = some (some (.ref f1))) (is1 : PySem.W.isFn K (.ref f1) = true) (b1 : Binds K fd1 ["self", "other"] []) :
    FnOk P w K mg base CX0 4 f fd ["self", "other"] (spEqB (RWebB K C CW)) := by
  refine F.ok scWbEq (fun vs H Q E h => ?_) (fun cdv A outer s H vs Q E hr h => ?_)
  · obtain ⟨_, _, _, rfl, _⟩ := h
    rfl
  · obtain ⟨a, b, r, rfl, ⟨W, V, ⟨dx, b1', p1, ea, hb1, hp1, g⟩, ⟨dy, b2, p2, eb, hb2, hp2, g2⟩, rfl⟩, q⟩ := h
    have own : OwnEq (cxOf CX0 P w K mg base ["self", "other"] "Web.__eq__" (defScope d_Web_eq) f cdv A outer s H E).nox 1 C f1 := ⟨⟨_, _, G1, b1⟩, at1, is1⟩
    have rc : RcB (cxOf CX0 P w K mg base ["self", "other"] "Web.__eq__" (defScope d_Web_eq) f cdv A outer s H E).nox 3 (DListB (DTupB K (DItemB C))) :=
      rcB_list (mon_tupB mon_itemB) (eqB_tup mon_itemB ((eqB_int.mono (Nat.zero_le 1)).or (eqB_sh own)))
    refine ⟨_, pss_cons (ps_if (pt_not (pt_val (pe_callB call_isi (by rfl) Y.isi (by decide +kernel) (pa_cons (pv 1) (pa_cons (pe_glob (v := .ref CW) rfl hW rfl) pa_nil))))) (pss_one (ps_ret pe_bl)) pss_nil)
      (pss_one (ps_ret (pe_and (pe_cmpR op_eq (pe_fld (pv 0) rfl) (pe_fld (pv 1) rfl) (nomark _)) (pe_and (pe_cmpR (op_eqB rc hr) (pe_fld (pv 0) rfl) (pe_fld (pv 1) rfl) (nomark _)) (pe_one (pe_cmpR (op_eqD hr.units) (pe_fld (pv 0) rfl) (pe_fld (pv 1) rfl) (nomark _))))))), ?_⟩
    refine ⟨_, rfl, _, _, _, _, true, rfl, ClsV.own CW, IsW _ _ _ _ eb, me, true, rfl, iteF ?_⟩
    obtain ⟨m1, bs1, ps1⟩ := W
    obtain ⟨m2, bs2, ps2⟩ := V
    have eq3 : decide (WebV.mk m1 bs1 ps1 = WebV.mk m2 bs2 ps2) = (decide (m1 = m2) && (decide (bs1 = bs2) && decide (ps1 = ps2))) := by
      rw [← Bool.decide_and, ← Bool.decide_and]
      exact decide_eq_decide.mpr (by rw [WebV.mk.injEq])
    rw [eq3] at q
    refine ⟨_, rfl, a, CW, dx, _, _, rfl, ea, TW.cl, TW.nm, webF_many .., _, rfl, b, CW, dy, _, _, rfl, eb, TW.cl, TW.nm, webF_many .., rfl, _, rfl, ?_⟩
    rw [decI]
    by_cases c1 : m1 = m2
    · rw [decide_eq_true c1, Bool.true_and] at q
      rw [decide_eq_true (show (m1 : Int) = (m2 : Int) by omega)]
      refine iteT ?_
      refine ⟨_, rfl, a, CW, dx, _, _, rfl, ea, TW.cl, TW.nb, webF_beds .., _, rfl, b, CW, dy, _, _, rfl, eb, TW.cl, TW.nb, webF_beds .., _, beds_eqB hb1 hb2, fun H1 x1 => ⟨_, rfl, ?_⟩⟩
      by_cases c2 : bs1 = bs2
      · rw [decide_eq_true c2, Bool.true_and] at q
        rw [decide_eq_true c2]
        refine iteT ?_
        refine ⟨_, rfl, a, CW, dx, _, _, rfl, x1 _ _ ea, TW.cl, TW.np, webF_parts .., _, rfl, b, CW, dy, _, _, rfl, x1 _ _ eb, TW.cl, TW.np, webF_parts .., ?_⟩
        obtain ⟨us, u1, u2⟩ := WPartsT.mono hp1 x1
        obtain ⟨vs, v1, v2⟩ := WPartsT.mono hp2 x1
        refine ⟨_, _, .lst (SqL.of u1) (dp_list (fun _ _ r => dp_part r) u2), .lst (SqL.of v1) (dp_list (fun _ _ r => dp_part r) v2), shaped_of (can_pnd _) (Nat.le_trans (dep_pnd _) (by decide)), shaped_of (can_pnd _) (Nat.le_trans (dep_pnd _) (by decide)), ?_⟩
        rw [show PyData.eqv (.list (ps1.map pnd)) (.list (ps2.map pnd)) = PyData.eqvAll (ps1.map pnd) (ps2.map pnd) from by simp only [PyData.eqv], eqvL_map eqv_pnd]
        exact q _ x1
      · rw [decide_eq_false c2, Bool.false_and] at q
        rw [decide_eq_false c2]
        exact iteF (q _ x1)
    · rw [decide_eq_false c1, Bool.false_and] at q
      rw [decide_eq_false (show ¬ (m1 : Int) = (m2 : Int) by omega)]
      exact iteF (q _ Ext.rfl')
end
section
variable {X : Cx} {n : Nat} {C f : Addr} {A : Around} {pins : List (Addr × Obj)} {s : Shared} {σ : L2.St} {H : Hp} {x y : Addr} {r : Bool} {R : Addr → Addr → Bool → Hp → Prop}
/-- the class at C has its own == at f, which says what R does -/
structure OwnB (X : Cx) (n : Nat) (C f : Addr) (R : Addr → Addr → Bool → Hp → Prop) : Prop where
  fn : ∃ fd ps, FnOk X.prog X.w X.K X.mg X.base CX0 n f fd ps (spEqB R) ∧ Binds X.K fd ps []
  at_ : PySem.W.findIn X.K (.ref C) "__eq__" = some (some (.ref f))
  isf : PySem.W.isFn X.K (.ref f) = true
theorem own_runB (O : OwnB X n C f R) (sb : Sub X n A) (I : Inv X pins σ H s) (hr : R x y r H) :
    wpAny (model X.prog X.w) A (call (.ref f) [.ref x, .ref y]) (fun q s' => q = .bool r ∧ ∃ H', Inv X pins σ H' s' ∧ Ext H H') X.xe s := by
  obtain ⟨fd, ps, F, hb⟩ := O.fn
  have hsp : spEqB R [.ref x, .ref y] H (fun z H' => z = .bl r ∧ Ext H H') E0 := ⟨x, y, r, rfl, hr, fun H' e => ⟨rfl, e⟩⟩
  have e0 : Env0 X.prog X.w X.K X.mg X.base A X.stack s H := by
    have e := I.env0
    exact ⟨by rw [sb.fr]; exact e.frames, e.mod, e.bs, e.bsz, e.funs, e.frf, e.hok, e.bare⟩
  have hl := F.len _ _ _ _ hsp
  have r2 : Vals [V.ref x, V.ref y] [Value.ref x, Value.ref y] := .cons rfl (.cons rfl .nil)
  have bb := hb s [.ref x, .ref y] I.kIn (by simpa using hl)
  rw [List.append_nil] at bb
  refine wpAny_call (codeAny_mono (F.run A X.stack s H ⟨[.ref x, .ref y], []⟩ [.ref x, .ref y] [.ref x, .ref y] _ E0 sb.room e0 bb r2 hsp) fun q s' hq => ?_)
  cases q with
  | error e => exact hq.elim
  | ok fl =>
    cases fl with
    | ret z =>
      obtain ⟨y, H', I', ry, ey, eH⟩ := I.after hq
      subst ey
      cases ry
      exact ⟨rfl, H', I', eH⟩
    | next => exact False.elim hq
    | brk => exact False.elim hq
    | cont => exact False.elim hq
/-- two objects of the class, by what R says -/
def DOwnB (C : Addr) (R : Addr → Addr → Bool → Hp → Prop) : Eqb := fun x y r H => ∃ a b dx dy fs gs, x = .ref a ∧ y = .ref b ∧ a ≠ b ∧ H a = some (.ins C dx fs) ∧ H b = some (.ins C dy gs) ∧ R a b r H
theorem rcB_own (O : OwnB X n C f R) : RcB X n (DOwnB C R) := by
  intro A pins s σ H x y r u v sb I rx ry d
  obtain ⟨a, b, dx, dy, fs, gs, rfl, rfl, _, ha, hb, hr⟩ := d
  cases rx
  cases ry
  obtain ⟨mA, J, _⟩ := ins_get I.hok ha
  obtain ⟨mB, J', _⟩ := ins_get I.hok hb
  obtain ⟨od, J, _⟩ := J.look
  obtain ⟨od', J', _⟩ := J'.look
  obtain ⟨m, hF⟩ := I.fr
  refine PySem.W.cmp_K (op := .Eq) (tb := .ref C) sb.room.units0 hF I.ok.mod.kin J J'.type (by simp [PySem.W.notFirst]) O.at_ O.isf ?_
  refine wpAny_mono (own_runB O sb I hr) (fun q s' z => ?_) fun _ _ z => z
  obtain ⟨rfl, z⟩ := z
  exact ⟨rfl, z⟩
theorem eqB_own (O : OwnB X n C f R) : EqB X n (DOwnB C R) := (rcB_own O).eqB (fun _ _ _ _ d => let ⟨a, b, _, _, _, _, hx, hy, _⟩ := d; ⟨a, b, hx, hy⟩) fun pins s σ H x y r u I rx ry d => by
  obtain ⟨a, b, dx, dy, fs, gs, rfl, rfl, ne, _⟩ := d
  cases rx
  cases ry
  exact absurd rfl ne
theorem own_neB (O : OwnB X n C f R) (sb : Sub X (n + 2) A) (I : Inv X pins σ H s) (hne : PySem.W.findIn X.K (.ref C) "__ne__" = some (some (.builtin "object.__ne__"))) (hob : PySem.W.subIn X.K (.ref C) (.type "object") = some true)
    {dx dy : Addr} {fs gs : List (Str × V)} (hx : H x = some (.ins C dx fs)) (hy : H y = some (.ins C dy gs)) (hr : R x y r H) :
    wpAny (model X.prog X.w) A (richCompare .NotEq (.ref x) (.ref y)) (fun q s' => q = .bool (!r) ∧ ∃ H', Inv X pins σ H' s' ∧ Ext H H') X.xe s := by
  obtain ⟨m1, J, _⟩ := ins_get I.hok hx
  obtain ⟨od, J, _⟩ := J.look
  obtain ⟨m2, J', _⟩ := ins_get I.hok hy
  obtain ⟨od', J', _⟩ := J'.look
  have isob : PySem.W.Looks (model X.prog X.w) s.heap (isInstance (.ref x) (.type "object")) true := J.type.andThen (PySem.W.looks_subIn I.kIn hob)
  have body : ∀ {B : Around} {Q : Fin → Shared → Prop}, Sub X (n + 1) B → (∀ s', (∃ H', Inv X pins σ H' s' ∧ Ext H H') → Q (.done (.ret (.bool (!r)))) s') → wpAny (model X.prog X.w) B (Builtin.«object.__ne__» ⟨[.ref x, .ref y], []⟩) Q X.xe s := fun {B Q} sb1 hq => by
    unfold Builtin.«object.__ne__»
    refine wpAny_bind (wpAny_of_eq (a := ((Value.ref x : Value), [Value.ref y])) (by first | rfl | (simp only [slotArgs]; rfl)) ?_)
    dsimp only
    refine wpAny_bind (wpAny_cRoomFor sb1.room.units0 ?_)
    refine wpAny_bind (PySem.W.ifBound_K I.kIn J O.at_ O.isf (wpAny_mono (own_runB O (sb1.mono (Nat.le_succ n)) I hr) (fun q s' z => ?_) fun _ _ z => z))
    obtain ⟨rfl, z⟩ := z
    dsimp only
    exact wpAny_bind (wpAny_truthy_bool (wpAny_pure (hq _ z)))
  have called : wpAny (model X.prog X.w) A (call (.builtin "object.__ne__") [.ref x, .ref y]) (fun q s' => q = .bool (!r) ∧ ∃ H', Inv X pins σ H' s' ∧ Ext H H') X.xe s := by
    refine wpAny_call (codeAny_call_builtin F.cmp_object.ne.plain F.cmpEntry_ne (PySem.W.check_slot F.cmpKind_ne F.cmpSplit_ne isob (F.cmpArgs_ne _ _) ?_))
    exact body sb.in1 fun s' z => ⟨rfl, z⟩
  unfold richCompare
  simp only [oneThing_ref]
  refine wpAny_holding (wpAny_bind (wpAny_cRoomFor sb.room.units0 ?_))
  refine wpAny_bind (J.type.here (wpAny_bind (J'.type.here ?_)))
  rw [if_neg (show ¬ (Value.ref C != Value.ref C) = true by simp)]
  refine wpAny_bind (wpAny_pure ?_)
  simp only [Bool.false_eq_true, if_false]
  refine wpAny_bind (m := tryCompare (.ref x) _ (.ref y)) ?_
  unfold tryCompare
  have fin : wpAny (model X.prog X.w) A (call (.builtin "object.__ne__") ([.ref x] ++ [.ref y]) >>= fun v => pure (some v)) (fun o s' => ∃ q, o = some q ∧ q = .bool (!r) ∧ ∃ H', Inv X pins σ H' s' ∧ Ext H H') X.xe s :=
    wpAny_bind (wpAny_mono called (fun q s' z => wpAny_pure ⟨q, rfl, z⟩) fun _ _ z => z)
  have asked : wpAny (model X.prog X.w) A (callSpecialIfBound? (.ref x) "__ne__" [.ref y]) (fun o s' => ∃ q, o = some q ∧ q = .bool (!r) ∧ ∃ H', Inv X pins σ H' s' ∧ Ext H H') X.xe s := by
    simp only [callSpecialIfBound?, bindSpecialIfBound?]
    refine wpAny_holding (wpAny_bind (wpAny_bind (wpAny_bind (J.type.here ((PySem.W.looks_findIn I.kIn hne).here ?_)))))
    simp only [F.cmp_object.ne.bind]
    refine wpAny_bind (wpAny_askSetting (wpAny_ite ?_))
    split
    · exact wpAny_bind (wpAny_pure (wpAny_pure fin))
    · exact wpAny_tryCatch (wpAny_bind (wpAny_pure (wpAny_pure fin)))
  refine wpAny_bind (wpAny_mono asked (fun o s' z => ?_) fun _ _ z => z)
  obtain ⟨q, rfl, rfl, z⟩ := z
  exact wpAny_pure (wpAny_pure ⟨rfl, z⟩)
def rNeB (D : Eqb) : R2 := fun x y H Q => ∃ r, D x y r H ∧ ∀ H', Ext H H' → Q (.bl (!r)) H'
theorem op_neB (O : OwnB X n C f R) (hr : Room (n + 2) X.A) (hne : PySem.W.findIn X.K (.ref C) "__ne__" = some (some (.builtin "object.__ne__"))) (hob : PySem.W.subIn X.K (.ref C) (.type "object") = some true) : OpR X (compareOp .NotEq) (rNeB (DOwnB C R)) := by
  intro pins s σ H x y v u Q I rx ry h
  obtain ⟨r, ⟨a, b, dx, dy, fs, gs, rfl, rfl, _, ha, hb, hR⟩, q⟩ := h
  cases rx
  cases ry
  show wpAny (model X.prog X.w) X.A (richCompare .NotEq (.ref a) (.ref b)) (EP X pins σ Q) X.xe s
  refine wpAny_mono (own_neB O ⟨hr, rfl⟩ I hne hob ha hb hR) (fun z s' z2 => ?_) fun _ _ z => z
  obtain ⟨rfl, H', I', e⟩ := z2
  exact ⟨.bl _, H', I', rfl, q H' e⟩
end
end K04

namespace K04
open PySem PySem.Spec PyProof.Rows L2
/-! ### a web cut, two webs side by side: mathematics -/
def cutF (W : WebV) (n : Nat) : WebV := ⟨W.many, W.beds.filter fun b => decide (b.s < n), W.parts.take n ++ List.replicate (W.many - n) []⟩
def shB (m : Nat) (b : Bed) : Bed := ⟨b.s + m, b.e + m, b.lo, b.hi⟩
def joinW (W V : WebV) : WebV := ⟨W.many + V.many, W.beds ++ V.beds.map (shB W.many), W.parts ++ V.parts⟩
theorem cnt_cut (n s : Nat) : ∀ l : List Bed, ((l.filter fun b => decide (b.s < n)).map Bed.s).count s = if s < n then (l.map Bed.s).count s else 0
  | [] => by simp
  | b :: l => by
    have ih := cnt_cut n s l
    by_cases c : b.s < n
    · rw [List.filter_cons, if_pos (decide_eq_true c), List.map_cons, List.count_cons, ih, List.map_cons, List.count_cons]
      by_cases e : s < n
      · rw [if_pos e, if_pos e]
      · rw [if_neg e, if_neg e, if_neg (by simp; omega)]
    · rw [List.filter_cons, if_neg (by simpa using c), ih, List.map_cons, List.count_cons]
      by_cases e : s < n
      · rw [if_pos e, if_pos e, if_neg (by simp; omega)]
        omega
      · rw [if_neg e, if_neg e]
theorem good_nil : GoodParts 0 [] := ⟨rfl, fun _ h => (nomatch h), Nat.zero_le _, .inl rfl⟩
theorem cutF_good {W : WebV} (g : GoodWeb W) {n : Nat} (hn : n ≤ W.many) : GoodWeb (cutF W n) := by
  have pl := g.plen
  refine ⟨g.m1, g.m8, Nat.le_trans (List.length_filter_le _ _) g.few, fun b hb => g.bed b ((List.mem_filter.mp hb).1), ?_, fun s => ?_, ?_, fun i ps h => ?_⟩
  · exact g.sorted.sublist (List.filter_sublist.map _)
  · show ((W.beds.filter fun b => decide (b.s < n)).map Bed.s).count s ≤ 2
    rw [cnt_cut]
    split
    · exact g.two s
    · omega
  · show (W.parts.take n ++ List.replicate (W.many - n) []).length = W.many
    rw [List.length_append, List.length_take, List.length_replicate]
    omega
  · show GoodParts (((W.beds.filter fun b => decide (b.s < n)).map Bed.s).count i) ps
    rw [cnt_cut]
    have h : (W.parts.take n ++ List.replicate (W.many - n) [])[i]? = some ps := h
    by_cases c : i < n
    · rw [if_pos c]
      rw [List.getElem?_append_left (by rw [List.length_take]; omega), List.getElem?_take, if_pos c] at h
      exact g.part i ps h
    · rw [if_neg c]
      rw [List.getElem?_append_right (by rw [List.length_take]; omega)] at h
      rw [List.eq_of_mem_replicate (List.mem_of_getElem? h)]
      exact good_nil
theorem cnt_sh (m s : Nat) : ∀ l : List Bed, ((l.map (shB m)).map Bed.s).count s = if m ≤ s then (l.map Bed.s).count (s - m) else 0
  | [] => by simp
  | b :: l => by
    have ih := cnt_sh m s l
    rw [List.map_cons, List.map_cons, List.count_cons, ih, List.map_cons, List.count_cons]
    show _ + (if (b.s + m == s) = true then 1 else 0) = _
    by_cases c : m ≤ s
    · rw [if_pos c, if_pos c]
      by_cases e : b.s + m = s
      · rw [if_pos (by simpa using e), if_pos (by simp; omega)]
      · rw [if_neg (by simpa using e), if_neg (by simp; omega)]
    · rw [if_neg c, if_neg c, if_neg (by simp; omega)]
theorem bed_lt {W : WebV} (g : GoodWeb W) {b : Bed} (h : b ∈ W.beds) : b.s < W.many := by
  have := g.bed b h
  have := this.up
  have := (g.bed b h).le
  omega
theorem cnt_high {W : WebV} (g : GoodWeb W) {s : Nat} (h : W.many ≤ s) : (W.beds.map Bed.s).count s = 0 := by
  refine List.count_eq_zero.mpr fun z => ?_
  obtain ⟨b, hb, rfl⟩ := List.mem_map.mp z
  have := bed_lt g hb
  omega
theorem cnt_join {W V : WebV} (g : GoodWeb W) (s : Nat) : ((W.beds ++ V.beds.map (shB W.many)).map Bed.s).count s = if s < W.many then (W.beds.map Bed.s).count s else (V.beds.map Bed.s).count (s - W.many) := by
  rw [List.map_append, List.count_append, cnt_sh]
  by_cases c : s < W.many
  · rw [if_pos c, if_neg (by omega)]
    omega
  · rw [if_neg c, if_pos (by omega), cnt_high g (by omega)]
    omega
theorem joinW_good {W V : WebV} (g : GoodWeb W) (h : GoodWeb V) (m : W.many + V.many ≤ 8) (few : W.beds.length + V.beds.length ≤ 12) : GoodWeb (joinW W V) := by
  have m1 := g.m1
  have pl := g.plen
  have ql := h.plen
  refine ⟨by show 1 ≤ W.many + V.many; omega, m, by show (W.beds ++ V.beds.map (shB W.many)).length ≤ 12; rw [List.length_append, List.length_map]; exact few, fun b hb => ?_, ?_, fun s => ?_, ?_, fun i ps e => ?_⟩
  · rcases List.mem_append.mp hb with z | z
    · have gb := g.bed b z
      exact ⟨gb.up, by have := gb.le; show b.e < W.many + V.many; omega, gb.lt, gb.slo, gb.shi⟩
    · obtain ⟨c, hc, rfl⟩ := List.mem_map.mp z
      have gb := h.bed c hc
      exact ⟨by have := gb.up; show c.s + W.many < c.e + W.many; omega, by have := gb.le; show c.e + W.many < W.many + V.many; omega, gb.lt, gb.slo, gb.shi⟩
  · show ((W.beds ++ V.beds.map (shB W.many)).map Bed.s).Pairwise (· ≤ ·)
    rw [List.map_append, List.pairwise_append]
    refine ⟨g.sorted, ?_, fun a ha b hb => ?_⟩
    · have hs := List.pairwise_map.mp h.sorted
      rw [List.map_map]
      refine List.pairwise_map.mpr (hs.imp fun {x y} z => ?_)
      show x.s + W.many ≤ y.s + W.many
      omega
    · obtain ⟨x, hx, rfl⟩ := List.mem_map.mp ha
      obtain ⟨y, hy, rfl⟩ := List.mem_map.mp hb
      obtain ⟨z, _, rfl⟩ := List.mem_map.mp hy
      have := bed_lt g hx
      show x.s ≤ z.s + W.many
      omega
  · show ((W.beds ++ V.beds.map (shB W.many)).map Bed.s).count s ≤ 2
    rw [cnt_join g]
    split
    · exact g.two s
    · exact h.two _
  · show (W.parts ++ V.parts).length = W.many + V.many
    rw [List.length_append]
    omega
  · show GoodParts (((W.beds ++ V.beds.map (shB W.many)).map Bed.s).count i) ps
    rw [cnt_join g]
    have e : (W.parts ++ V.parts)[i]? = some ps := e
    by_cases c : i < W.many
    · rw [if_pos c]
      rw [List.getElem?_append_left (by omega)] at e
      exact g.part i ps e
    · rw [if_neg c]
      rw [List.getElem?_append_right (by omega), pl] at e
      exact h.part _ ps e
end K04

namespace K04
open PySem PySem.Spec PyProof.Rows L2 LamX
/-! ### sorted(.., key=lambda x: ..) -/
theorem exn_tup {K : PySem.W.Frag} {H H' : Hp} {a : Addr} {xs : List V} (k : ExtN H H') (h : SqT K H a xs) : SqT K H' a xs := by
  rcases h with (h | ⟨o, h⟩) | h
  · exact .inl (.inl (k _ _ h fun _ z => nomatch z))
  · exact .inl (.inr ⟨o, k _ _ h fun _ z => nomatch z⟩)
  · exact .inr h
theorem exn_seq {K : PySem.W.Frag} {H H' : Hp} {a : Addr} {xs : List V} (k : ExtN H H') (h : SqL K H a xs) : SqL K H' a xs := by
  rcases h with (h | ⟨o, h⟩) | h
  · exact .inl (.inl (k _ _ h fun _ z => nomatch z))
  · exact .inl (.inr ⟨o, k _ _ h fun _ z => nomatch z⟩)
  · exact .inr h
/-- the lambda a def makes: one name of its own, the others captured or global -/
def LamK (sc scope : Scope) (a : Str) : Prop := (scope.kind = .function ∧ scope.isCoroutine = false ∧ scope.isGenerator = false) ∧ scope.names.lookup a = some .local ∧ (∀ y ∈ scope.names, y.2 ≠ .cell) ∧ ∀ y ∈ scope.names, y.2 = .free → sc.names.lookup y.1 = some .cell ∨ sc.names.lookup y.1 = some .free
def lamKB (sc scope : Scope) (a : Str) : Bool := (decide (scope.kind = .function) && !scope.isCoroutine && !scope.isGenerator) && decide (scope.names.lookup a = some .local) && (scope.names.all fun y => !decide (y.2 = .cell)) && scope.names.all fun y => !decide (y.2 = .free) || decide (sc.names.lookup y.1 = some .cell) || decide (sc.names.lookup y.1 = some .free)
theorem lamK_by {sc scope : Scope} {a : Str} (h : lamKB sc scope a = true) : LamK sc scope a := by
  unfold lamKB at h
  simp only [Bool.and_eq_true, Bool.not_eq_true', decide_eq_true_eq, List.all_eq_true, decide_eq_false_iff_not] at h
  obtain ⟨⟨⟨⟨⟨h1, h2⟩, h3⟩, h4⟩, h5⟩, h6⟩ := h
  refine ⟨⟨h1, h2, h3⟩, h4, h5, fun y hy e => ?_⟩
  have z := h6 y hy
  rw [decide_eq_true e, Bool.not_true, Bool.false_or, Bool.or_eq_true, decide_eq_true_eq, decide_eq_true_eq] at z
  exact z
theorem LamK.cells {X : Cx} {scope : Scope} {a : Str} (L : LamK X.env.scope scope a) (ok : X.Ok) : ∀ y ∈ scope.names, y.2 = .free → ∃ c, X.env.cells.lookup y.1 = some c := fun y hy e => (L.2.2.2 y hy e).elim (fun k => ok.has _ (.inl k)) (fun k => ok.has _ (.inr k))
/-- the lambda's body, its parameter at hand: it keeps the heap and gives what reads as k -/
def KRun (X : Cx) (a : Str) (scope : Scope) (body : Expr) (σ : L2.St) (H : Hp) (x : V) (k : PyData) : Prop :=
  ∀ (pins : List (Addr × Obj)) (A' : Around) (L f c' : Addr) (u : Value) (s : Shared) (m : Str → Option Value), Inv X pins σ H s → RelV x u → s.heap.Ns L m → m a = some u →
    wpAny (model X.prog X.w) A' (eval body (lamEnv X scope L f c')) (fun w s' => (∃ tk, s' = { s with toks := tk }) ∧ Reads s.heap w k []) (fun _ _ => False) s
section
variable {X : Cx} {pins : List (Addr × Obj)} {σ : L2.St} {H : Hp} {s : Shared} {scope : Scope} {a : Str}
/-- x[i] of a tuple, x the parameter -/
theorem ev_at {A' : Around} {L f c' t : Addr} {m : Str → Option Value} {E : Value → Shared → Prop} {Q : Value → Shared → Prop} {i : Int} {j : Nat} {p1 p2 p3 : Pos} {xs : List V} {z : V} (K : LamK X.env.scope scope a) (hd : (a == ("__debug__" : Str)) = false) (I : Inv X pins σ H s) (hn : s.heap.Ns L m) (hm : m a = some (.ref t))
    (hs : SqT X.K H t xs) (hi : atI xs i = some z) (h : ∀ tk w, RelV z w → Q w { s with toks := tk }) : wpAny (model X.prog X.w) A' (eval (.Subscript (.Name a p1) (.Constant (.int i) j p2) p3) (lamEnv X scope L f c')) Q E s := by
  refine Subscript_ (wpAny_Name (wpAny_loadName_local K.1.1 K.2.1 hn hm ?_) hd)
  refine wpAny_Constant_int ?_
  obtain ⟨its, r, pl, hz⟩ := (I.tok (s.toks + 1)).tuple hs
  obtain ⟨n, h1, h2, h3, h4, h5⟩ := atI_get hi
  obtain ⟨w, ew, rw'⟩ := r.get h2
  have hl := r.length
  have hln := line63
  exact subscriptTail_builtinR (x := w) pl.typeIs slot_tuple_getitem.lookup (getItem_tuple (j := n) (Q := fun r s' => r = w ∧ Q r s') pl (by omega) (by omega) (by rw [List.size_toArray, ← hl]; exact h1) (by simpa using ew) ⟨rfl, h _ _ rw'⟩)
/-- a captured name -/
theorem ev_free {y : Str} {n : Nat} {v : V} (K : LamK X.env.scope scope a) (I : Inv X pins σ H s) (hN : X.N[n]? = some y) (hσ : σ[n]? = some (some v)) (hc : X.env.scope.names.lookup y = some .cell) (hf : scope.names.lookup y = some .free) :
    ∃ u c, RelV v u ∧ (cloFrom X.env.cells scope.names []).lookup y = some c ∧ s.heap.IsCell c (some u) := by
  obtain ⟨m, hn, hl⟩ := I.loc
  obtain ⟨u, r, l⟩ := hl n y v hN hσ (.inr (.inl hc))
  rcases l with ⟨hk, _⟩ | ⟨_, c, hc', hcell⟩
  · have hk : X.env.scope.names.lookup y = some .local := hk
    rw [hc] at hk
    cases hk
  · exact ⟨u, c, r, NdefX.clo_has (K.cells I.ok) (PySem.mem_of_lookup hf) hc', hcell⟩
theorem readsAll_ints {h : Heap} : ∀ {ns : List Int} {us : List Value}, Vals (ns.map V.int) us → ReadsAll h us (ns.map PyData.int) []
  | [], _, r => by
    cases r
    exact .nil
  | n :: ns, _, r => by
    cases r with
    | cons r1 r2 =>
      obtain ⟨t, rfl⟩ := r1
      exact ReadsAll.cons (as := []) (bs := []) (.int n t) (readsAll_ints r2)
/-- lambda x: x[i], where that is an int -/
theorem krun_int {t : Addr} {xs : List V} {i n : Int} {j : Nat} {p1 p2 p3 : Pos} (K : LamK X.env.scope scope a) (hd : (a == ("__debug__" : Str)) = false) (hs : SqT X.K H t xs) (hi : atI xs i = some (.int n)) : KRun X a scope (.Subscript (.Name a p1) (.Constant (.int i) j p2) p3) σ H (.ref t) (.int n) := by
  intro pins A' L f c' u s m I r hn hm
  cases r
  exact ev_at K hd I hn hm hs hi fun tk w rw' => by
    obtain ⟨t', rfl⟩ := rw'
    exact ⟨⟨tk, rfl⟩, .int n t'⟩
/-- lambda x: x[i], where that is a tuple of ints -/
theorem krun_ints {t d : Addr} {xs : List V} {i : Int} {ns : List Int} {j : Nat} {p1 p2 p3 : Pos} (K : LamK X.env.scope scope a) (hd : (a == ("__debug__" : Str)) = false) (hs : SqT X.K H t xs) (hi : atI xs i = some (.ref d)) (ht : SqT X.K H d (ns.map V.int)) : KRun X a scope (.Subscript (.Name a p1) (.Constant (.int i) j p2) p3) σ H (.ref t) (.tuple (ns.map PyData.int)) := by
  intro pins A' L f c' u s m I r hn hm
  cases r
  exact ev_at K hd I hn hm hs hi fun tk w rw' => by
    cases rw'
    obtain ⟨its, rv, ⟨o, ho, hc, n, hdt⟩, _⟩ := I.tuple ht
    exact ⟨⟨tk, rfl⟩, Reads.tuple ho hc hdt (readsAll_ints rv)⟩
/-- lambda x: x[0] * (y // x[1]), y a captured int -/
theorem krun_by {t : Addr} {xs : List V} {y : Str} {p q z : Int} {n j j' : Nat} {p1 p2 p3 p4 p5 p6 p7 p8 p9 : Pos} (K : LamK X.env.scope scope a) (hd : (a == ("__debug__" : Str)) = false) (hdy : (y == ("__debug__" : Str)) = false) (hcy : (y == ("__classdict__" : Str)) = false) (hN : X.N[n]? = some y) (hσ : σ[n]? = some (some (.int z)))
    (hc : X.env.scope.names.lookup y = some .cell) (hf : scope.names.lookup y = some .free) (hs : SqT X.K H t xs) (h0 : atI xs 0 = some (.int p)) (h1 : atI xs 1 = some (.int q)) (dv : CDivX z q) (mu : IntMulOk p (z.fdiv q)) :
    KRun X a scope (.BinOp (.Subscript (.Name a p1) (.Constant (.int 0) j p2) p3) .Mult (.BinOp (.Name y p4) .FloorDiv (.Subscript (.Name a p5) (.Constant (.int 1) j' p6) p7) p8) p9) σ H (.ref t) (.int (p * z.fdiv q)) := by
  intro pins A' L f c' u s m I r hn hm
  cases r
  refine wpAny_BinOp (ev_at K hd I hn hm hs h0 fun t1 w1 r1 => ?_)
  obtain ⟨k1, rfl⟩ := r1
  obtain ⟨u2, c2, r2, hl2, hcell⟩ := ev_free K I hN hσ hc hf
  refine wpAny_BinOp (wpAny_Name (wpAny_loadName_free K.1.1 hf hl2 hcell ?_ hcy) hdy)
  obtain ⟨k2, rfl⟩ := r2
  refine ev_at (s := { s with toks := t1 }) K hd (I.tok t1) hn hm hs h1 fun t3 w3 r3 => ?_
  obtain ⟨k3, rfl⟩ := r3
  refine floordiv_int dv.1 ?_ (.inl (PyProof.noPylong_of_log2 dv.2))
  exact mul_int ⟨⟨_, rfl⟩, .int _ _⟩ mu
theorem vals_each {k : Nat} : ∀ {bs : List (V × PyData)} {us : List Value}, PySem.W.EachIs (fun u (b : V × PyData) => RelV b.1 u) us bs → Vals (bs.map Prod.fst) us
  | _, _, .nil => .nil
  | _, _, .cons r1 r2 => .cons r1 (vals_each (k := k) r2)
theorem each_vals : ∀ {bs : List (V × PyData)} {us : List Value}, Vals (bs.map Prod.fst) us → PySem.W.EachIs (fun u (b : V × PyData) => RelV b.1 u) us bs
  | [], _, r => by
    cases r
    exact .nil
  | b :: bs, _, r => by
    cases r with
    | cons r1 r2 => exact .cons r1 (each_vals r2)
/-- sorted(e, key=lambda a: body) -/
def tSortK (X : Cx) (T : List (Addr × Str)) (a : Str) (scope : Scope) (body : Expr) (te : TE) : TE := fun σ H Q => te σ H fun v H1 => ∃ (l : Addr) (bs : List (V × PyData)), v = .ref l ∧ SqL X.K H1 l (bs.map Prod.fst) ∧ Tabs T H1 ∧ PySem.W.AllAlike (bs.map Prod.snd) ∧ PySem.W.Sortable (bs.map Prod.snd) ∧ (∀ b ∈ bs, b.2.depth ≤ 64) ∧
  ∀ H2, ExtN H1 H2 → Tabs T H2 → (∀ b ∈ bs, KRun X a scope body σ H2 b.1 b.2) ∧ ∀ d, H2 d = none → Q (.ref d) (upd H2 d (.lst ((bs.mergeSort (PySem.W.dataLe false Prod.snd)).map Prod.fst)))
theorem pe_sortK {T : List (Addr × Str)} {k : Nat} {c P : Addr} {params : Arguments} {body e : Expr} {te : TE} {p lpos kp pos : Pos} (hr : Room (k + 1) X.A) (hg : Gl X "sorted") (hm : X.mg "sorted" = none) (he : PE X e te) (K : LamK X.env.scope scope a) (TB : TabB X.base X.mg c P) (hcode : X.env.code = .ref c)
    (hmT : (P, X.env.qual ++ "<lambda>") ∈ T) (hu : ∀ p ∈ T, p.1 = P → p.2 = X.env.qual ++ "<lambda>") (hdef : defaultsOf params X.env = ([], []))
    (hbind : ∀ (q : Str) (cl : List (Str × Addr)) (pm cv ctv u : Value), bindArgs (PySem.W.kla_fn "<lambda>" q params body scope cl pm cv ctv) ⟨[u], []⟩ = pure [(a, u)])
    (hst : backTo pos (starEach [e] X.env) = [(false, eval e X.env)] := by rfl) :
    PE X (.Call (.Name "sorted" p) [e] [⟨some "key", .Lambda params body scope lpos, kp⟩] pos) (tSortK X T a scope body te) := by
  refine ⟨fun pins s σ H Q I h => ?_⟩
  refine wpAny_Call_Name_kw (ld_blt (u := .builtin "sorted") I hg hm (by decide +kernel) ?_)
  refine PyProof.Rows.callWith_kw ?_ (by rw [hst]; rfl) (by rw [hst]; rfl) (by rfl) (by rfl)
  rw [hst]
  refine Calls.spliced_cons (thn (he.run pins s σ H _ I h) fun u s1 ⟨v, H1, I1, r1, q1⟩ => ?_)
  obtain ⟨l, bs, rfl, hl, hT, hal, hso, hdp, q1⟩ := q1
  obtain rfl : u = Value.ref l := r1
  refine Calls.spliced_nil ?_
  refine PyProof.Rows.kws_cons (lam_make2 I1 TB hcode hmT hu hT hdef (K.cells I1.ok) fun f c' pm ctv H2 s2 I2 hE hT2 hf hfn hfr hco => PyProof.Rows.kws_nil ?_)
  obtain ⟨hk, hq⟩ := q1 H2 hE hT2
  have hl2 : SqL X.K H2 l (bs.map Prod.fst) := exn_seq hE hl
  obtain ⟨its, rv, hli, hz⟩ := I2.list hl2
  rw [List.length_map] at hz
  obtain ⟨⟨oc, vs, t, hoc, hdc, hvc⟩, _, _⟩ := I2.hok c' _ hco
  refine PySem.W.sorted_key_data (s := s2) (b := false) (bs := bs) (vs := its) (R := fun u (b : V × PyData) => RelV b.1 u) Prod.snd hli.isList (each_vals rv) hal hso hz (fun b hb => ?_) (ksk_s1 _ _) (fun _ => ksk_l1 _ _) (fun _ => ksk_t1 _ _) (fun u b rb hb h tk kp => ?_) fun out ep h' tk kp fr0 hD hlen eo => ?_
  · have := hdp b hb
    have := hr.un
    omega
  · have I3 : Inv X pins σ H2 { s2 with heap := h, toks := tk } := I2.kept kp
    refine wpAny_call (PySem.W.kla_callFunE hr.depth (kp _ _ hf) rfl K.1.2.1 K.1.2.2 rfl ⟨c', oc, vs, t, rfl, kp _ _ hoc, hdc, hvc⟩ ?_)
    rw [hbind]
    refine wpAny_pure (wpAny_newFunctionEnv K.2.2.1 (fun y hy => by rw [List.mem_singleton.mp hy]; exact K.2.1) (fun h₁ hns hsb => ⟨I3.nolimit.fresh _ hsb, ?_⟩) K.1.1)
    show codeAny _ _ (.expr body (lamEnv X scope h.objs.size f c')) _ _
    have kp1 : ∀ b o, h.get? b = some o → h₁.get? b = some o := fun b o e => hsb.extBut b o (Nat.ne_of_lt (Heap.lt_size e)) (Heap.get?_push_of_some _ e)
    refine PySem.W.kla_codeExpr (wpAny_mono (hk b hb pins _ h.objs.size f c' u { s2 with heap := h₁, toks := tk + 1 } _ (I3.kept kp1) rb hns (by simp)) (fun w s' hw => ?_) fun _ _ hF => hF.elim)
    obtain ⟨⟨tk', rfl⟩, hw⟩ := hw
    exact ⟨h₁, tk', rfl, kp1, hw⟩
  · refine ⟨.ref _, upd H2 (s2.heap.objs.size + 1) (.lst ((bs.mergeSort (PySem.W.dataLe false Prod.snd)).map Prod.fst)), I2.laid (t' := tk) kp (Nat.le_succ _) ⟨?_, out, ep, vals_each (k := 0) eo, hD⟩, rfl, hq _ (I2.hok.fresh (Nat.le_succ _))⟩
    rw [List.length_map, List.length_mergeSort]
    exact hz
end
end K04

namespace K04
open PySem PySem.Spec PyProof.Rows L2 LamX
/-! ### beds sorted by where they start -/
abbrev AB := Addr × Bed
def abB (x : AB) : V × PyData := (.ref x.1, .int (x.2.s : Int))
def byS (x y : AB) : Bool := decide (x.2.s ≤ y.2.s)
theorem ab_sort {l : List AB} : ((l.map abB).mergeSort (PySem.W.dataLe false Prod.snd)).map Prod.fst = (l.mergeSort byS).map fun x => V.ref x.1 := by
  rw [← List.map_mergeSort (r := byS) fun x _ y _ => ?_, List.map_map]
  · rfl
  · show _ = PySem.W.dataLe false Prod.snd (abB x) (abB y)
    rw [PySem.W.dataLe_eq]
    show _ = !PySem.W.dataLt (.int (y.2.s : Int)) (.int (x.2.s : Int))
    rw [PySem.W.dataLt_int, PySem.W.not_lt_int]
    exact decide_eq_decide.mpr (by omega)
theorem ab_alike {l : List AB} : PySem.W.AllAlike ((l.map abB).map Prod.snd) := by
  rw [List.map_map]
  exact PySem.W.AllAlike.of (enc := Prod.snd ∘ abB) fun b b' => by
    show PySem.W.alike (.int _) (.int _) = true
    simp [PySem.W.alike]
theorem ab_sortable {l : List AB} : PySem.W.Sortable ((l.map abB).map Prod.snd) := by
  rw [List.map_map]
  exact PySem.W.Sortable.others (enc := Prod.snd ∘ abB) fun b => ⟨(fun z => nomatch z), fun xs z => nomatch z⟩
theorem ab_depth {l : List AB} : ∀ b ∈ l.map abB, b.2.depth ≤ 64 := fun b hb => by
  obtain ⟨x, hx, rfl⟩ := List.mem_map.mp hb
  show PyData.depth (.int _) ≤ 64
  simp [PyData.depth]
theorem byS_trans (a b c : AB) (h1 : byS a b = true) (h2 : byS b c = true) : byS a c = true := by
  unfold byS at *
  rw [decide_eq_true_iff] at *
  omega
theorem byS_total (a b : AB) : (byS a b || byS b a) = true := by
  unfold byS
  rw [Bool.or_eq_true, decide_eq_true_iff, decide_eq_true_iff]
  omega
theorem ab_perm (l : List AB) : (l.mergeSort byS).Perm l := List.mergeSort_perm l byS
theorem ab_up (l : List AB) : ((l.mergeSort byS).map fun x => x.2.s).Pairwise (· ≤ ·) := by
  refine List.pairwise_map.mpr ((List.pairwise_mergeSort byS_trans byS_total l).imp fun {x y} h => ?_)
  unfold byS at h
  exact of_decide_eq_true h
theorem ab_same {l : List AB} (h : (l.map fun x => x.2.s).Pairwise (· ≤ ·)) : l.mergeSort byS = l :=
  List.mergeSort_of_pairwise ((List.pairwise_map.mp h).imp fun {x y} z => decide_eq_true z)
/-- a list of things told by beds, as pairs -/
theorem ab_of {R : Addr → Bed → Prop} {ts : List Addr} {bs : List Bed} (h : All2 R ts bs) : ∃ l : List AB, l.map Prod.fst = ts ∧ l.map Prod.snd = bs ∧ ∀ x ∈ l, R x.1 x.2 := by
  refine ⟨ts.zip bs, ?_, ?_, fun x hx => ?_⟩
  · exact List.map_fst_zip (by have := h.len; omega)
  · exact List.map_snd_zip (by have := h.len; omega)
  · obtain ⟨i, hi⟩ := List.mem_iff_getElem?.mp hx
    rw [List.getElem?_zip_eq_some] at hi
    exact h.all i _ _ hi.1 hi.2
theorem ab_all2 {R : Addr → Bed → Prop} {l : List AB} (h : ∀ x ∈ l, R x.1 x.2) : All2 R (l.map Prod.fst) (l.map Prod.snd) := by
  refine ⟨by rw [List.length_map, List.length_map], fun i a b ha hb => ?_⟩
  rw [List.getElem?_map] at ha hb
  obtain ⟨x, hx, rfl⟩ := Option.map_eq_some_iff.mp ha
  rw [hx] at hb
  obtain rfl := Option.some.inj hb
  exact h x (List.mem_of_getElem? hx)
end K04

namespace K04
open PySem PySem.Spec PyProof.Rows L2 LamX
/-! ### joined, without pipes -/
def joQ : Str := ("joined.<locals>.<lambda>" : Str)
/-- nothing but a table of codes stood there -/
def NewA (H : Hp) (u : Addr) : Prop := ∀ o, H u = some o → ∃ x, o = .tbl x
theorem newA_none {H H' : Hp} {u : Addr} (e : ExtN H H') (h : H' u = none) : NewA H u := fun o z => by
  by_cases c : ∃ x, o = .tbl x
  · exact c
  · have := e _ _ z (fun x hx => c ⟨x, hx⟩)
    rw [h] at this
    cases this
theorem exn_bed {K : PySem.W.Frag} {C : Addr} {H H' : Hp} {t : Addr} {b : Bed} (k : ExtN H H') (h : BedAt K C H t b) : BedAt K C H' t b := by
  obtain ⟨x, y, a, ⟨d1, u⟩, ⟨d2, v⟩⟩ := h
  exact ⟨x, y, exn_tup k a, ⟨d1, k _ _ u (fun _ z => nomatch z)⟩, ⟨d2, k _ _ v (fun _ z => nomatch z)⟩⟩
theorem exn_web {K : PySem.W.Frag} {C CW : Addr} {H H' : Hp} {w : Addr} {W : WebV} (k : ExtN H H') (h : WebAt K C CW H w W) : WebAt K C CW H' w W := by
  obtain ⟨dx, b, p, e, ⟨ts, u, v⟩, ⟨us, x, y⟩, g⟩ := h
  exact ⟨dx, b, p, k _ _ e (fun _ z => nomatch z), ⟨ts, k _ _ u (fun _ z => nomatch z), v.mono fun _ _ _ _ r => exn_bed k r⟩, ⟨us, k _ _ x (fun _ z => nomatch z), y.mono fun _ _ _ _ r => exn_tup k r⟩, g⟩
def spNever : Sp := fun _ _ _ _ => False
theorem ok_never {P : Program} {w : World} {K : PySem.W.Frag} {mg : Str → Option Value} {base : Heap} {CX : CXT} {k : Nat} {f : Addr} {fd : FuncData} {ps : List Str} : FnOk P w K mg base CX k f fd ps spNever := ⟨fun _ _ _ _ h => h.elim, fun _ _ _ _ _ _ _ _ _ _ _ _ _ h => h.elim⟩
def spArePipes0 (K : PySem.W.Frag) : Sp := fun vs H Q _ => ∃ (a b l : Addr), vs = [.ref a, .ref b, .ref l] ∧ H l = some (.lst []) ∧ ∀ H', Same H H' → Q (.bl true) H'
def spJoin0 (K : PySem.W.Frag) (C CW : Addr) (T : List (Addr × Str)) : Sp := fun vs H Q _ => ∃ (a b l : Addr) (W V : WebV), vs = [.ref a, .ref b, .ref l] ∧ WebAt K C CW H a W ∧ WebAt K C CW H b V ∧ H l = some (.lst []) ∧ W.many + V.many ≤ 8 ∧ W.beds.length + V.beds.length ≤ 12 ∧ Tabs T H ∧
  ∀ (H' : Hp) (u : Addr), ExtN H H' → Tabs T H' → NewA H u → WebAt K C CW H' u (joinW W V) → Q (.ref u) H'
section
variable {P : Program} {w : World} {K : PySem.W.Frag} {mg : Str → Option Value} {base : Heap}
abbrev apN : List Str := ["one", "other", "things", "thing", "lake", "_"]
theorem scAp : FnScope apN ["one", "other", "things"] (defScope d_are_pipes) := ⟨rfl, rfl, rfl, by decide +kernel, rfl, by decide +kernel, by decide +kernel⟩
theorem ok_arePipes0 {f f1 C : Addr} {fd fd1 : FuncData} (F : Fun K "are_pipes" "are_pipes" d_are_pipes f fd) (Y : TxtW mg C) (hset : mg "set" = none)
    (m1 : mg "is_pipe" = some (.ref f1)) (k1 : PySem.W.keepIn K (.ref f1) = true) (b1 : Binds K fd1 ["one", "other", "thing"] []) : FnOk P w K mg base CX0 2 f fd ["one", "other", "things"] (spArePipes0 K) := by
  refine F.ok scAp (fun vs H Q E h => ?_) (fun cdv A outer s H vs Q E hr h => ?_)
  · obtain ⟨_, _, _, rfl, _⟩ := h
    rfl
  · obtain ⟨a, b, l, rfl, hl, q⟩ := h
    refine ⟨_, pss_cons (ps_if (PW.pt (pw_or (pt_not (pt_val (pe_callB call_isi (by rfl) Y.isi (by decide +kernel) (pa_cons (pv 2) (pa_cons (pe_bltn (v := .ty "list") (by rfl) Y.list (by decide +kernel) rfl) pa_nil)))))
          (pw_or1 (pt_not (pt_val (pe_callB (cr_all rfl) (by rfl) Y.all (by decide +kernel) (pa_cons
            (pe_lc (own := [("thing", 3)]) (g := gName 3) (by rfl) scAp.nd (pi_list (pv 2)) (blkOk_by (own := [("thing", 3)]) (N := apN) (sc := defScope d_are_pipes) (by decide +kernel)) (fun _ _ _ _ _ => pg_name (i := 3) scAp.nd rfl (.inl rfl)) (fun _ _ _ _ _ => pts_nil)
              (fun _ _ _ _ _ => pe_call (ok_never (CX := CX0) (k := 1)) hr rfl m1 k1 b1 .nil pass0 (pa_cons (pv 0) (pa_cons (pv 1) (pa_cons (pv 3) pa_nil))))) pa_nil))))))) (pss_one (ps_ret pe_bl)) pss_nil)
      (pss_one (ps_ret (pe_cmpR op_eq (pe_lenSetI rfl (by rfl) Y.len (by rfl) hset
          (pe_lc (own := [("lake", 4), ("_", 5)]) (g := gTup K 2 (gCons (gName 4) (gCons (gName 5) gNil))) (by rfl) scAp.nd (pi_list (pv 2)) (blkOk_by (own := [("lake", 4), ("_", 5)]) (N := apN) (sc := defScope d_are_pipes) (by decide +kernel))
            (fun _ _ _ _ _ => pg_tup (by rfl) (pgs_cons (pg_name (i := 4) scAp.nd rfl (.inl rfl)) (pgs_cons (pg_name (i := 5) scAp.nd rfl (.inl rfl)) pgs_nil))) (fun _ _ _ _ _ => pts_nil) (fun _ _ _ _ _ => pv 4)))
          (pe_callB call_len_seq (by rfl) Y.len PySem.boot_len (pa_cons (pv 2) pa_nil)) (nomark _)))), ?_⟩
    refine ⟨_, rfl, _, _, _, _, true, rfl, ClsV.ty _, ty_lst (SqL.of hl), kit_ty (by decide +kernel), true, rfl, iteF ?_⟩
    refine ⟨_, rfl, l, rfl, ⟨_, SqL.of hl⟩, fun D hD => ?_⟩
    refine lc_list (K := K) (a := l) (xs := []) (fun i M => M D = some (.lst []) ∧ Same H M) ⟨upd_same, same1 hD⟩ ?_ ?_ ?_
    · rintro i M _ ⟨_, sM⟩
      exact SqL.of (sM _ _ hl)
    · rintro i x M hx _
      simp at hx
    · rintro M ⟨eD, sM⟩
      refine ⟨D, [], rfl, SqL.of eD, true, rfl, iteF ?_⟩
      have hlM := sM _ _ hl
      refine ⟨_, rfl, l, rfl, ⟨_, SqL.of hlM⟩, fun D2 hD2 => ?_⟩
      refine lc_list (K := K) (a := l) (xs := []) (fun i N => N D2 = some (.lst []) ∧ Same M N) ⟨upd_same, same1 hD2⟩ ?_ ?_ ?_
      · rintro i N _ ⟨_, sN⟩
        exact SqL.of (sN _ _ hlM)
      · rintro i x N hx _
        simp at hx
      · rintro N ⟨eD2, sN⟩
        refine ⟨D2, [], rfl, SqL.of eD2, by decide, .nil, ?_⟩
        refine ⟨_, rfl, l, [], rfl, .inl (SqL.of (sN _ _ hlM)), rfl, ?_⟩
        exact q N (sM.trans sN)
abbrev joN : List Str := ["one", "other", "pipes", "many", "piped", "moved", "lakes", "parts", "lake", "place", "start", "finish", "low", "high", "_", "told"]
theorem scJo : FnScope joN ["one", "other", "pipes"] (defScope d_joined) := ⟨rfl, rfl, rfl, by decide +kernel, rfl, by decide +kernel, by decide +kernel⟩
theorem ok_join0 {T : List (Addr × Str)} {fa f1 fI fW C CN CW cc Pt : Addr} {fd1 fdI fdW : FuncData} {kV doc pm ct oc u0 : Value} {an od : Option Addr} {osl : Array (Option Value)} {t8 t12 : Tok}
    (lk : K.lookup fa = some ⟨oc, od, .func (PySem.W.fnOf "joined" "joined" (defArgs d_joined) (defBody d_joined) (defScope d_joined) .none kV doc pm an (.ref cc) ct), osl⟩) (hcd : PySem.W.codeIn K (.ref cc) "joined" = true)
    (TW : CrsW K CW) (Tx : Txt K mg C CN) (Y : TxtW mg C) (hW : mg "Web" = some (.ref CW)) (g8 : mg "MOST_PLACES" = some (.int 8 t8)) (g12 : mg "MOST_BEDS" = some (.int 12 t12)) (TB : TabB base mg cc Pt) (hmT : (Pt, joQ) ∈ T) (huT : ∀ p ∈ T, p.1 = Pt → p.2 = joQ)
    (A1 : At P w K mg base CX0 2 "are_pipes" ["one", "other", "things"] (spArePipes0 K) f1 fd1)
    (M : Mk K C fI) (GI : FnOk P w K mg base (L2.CX P w) 2 fI fdI ["self", "top", "bottom"] (spInit C CN)) (bI1 : Binds K fdI ["self", "top", "bottom"] [u0]) (vd : Vals [.int 1] [u0])
    (MW : Mk K CW fW) (GWi : FnOk P w K mg base CX0 5 fW fdW ["self", "many", "beds", "parts"] (spWInitF K C CW)) (bWi : Binds K fdW ["self", "many", "beds", "parts"] []) :
    FnOk P w K mg base CX0 7 fa (PySem.W.fnOf "joined" "joined" (defArgs d_joined) (defBody d_joined) (defScope d_joined) .none kV doc pm an (.ref cc) ct) ["one", "other", "pipes"] (spJoin0 K C CW T) := by
  refine fn_of lk hcd scJo (fun vs H Q E h => ?_) (fun A outer s H vs Q E hr h => ?_)
  · obtain ⟨_, _, _, _, _, rfl, _⟩ := h
    rfl
  · obtain ⟨a, b, l, W, Z, rfl, hW1, hV1, hl, m8, few, hT, q⟩ := h
    have r2 : Room 2 _ := hr.mono (by decide)
    have r3 : Room 3 _ := hr.mono (by decide)
    refine ⟨_, PSs.nox (pss_cons (ps_set (i := 3) scJo.nd rfl (Or.inl rfl) (pe_op op_add (pe_fld (pv 0) rfl) (pe_fld (pv 1) rfl)))
      (pss_cons (ps_if (PW.pt (pw_or (pt_not (pt_val (pe_call A1.G r2 rfl A1.m A1.k A1.b .nil pass0 (pa_cons (pv 0) (pa_cons (pv 1) (pa_cons (pv 2) pa_nil)))))) (pw_or1 (pt_cmpR op_gt (pv 3) (pe_glob (v := .int 8) rfl g8 ⟨t8, rfl⟩) (nomark _))))) (pss_one ps_never) pss_nil)
      (pss_cons (ps_if (pt_cmpR op_gt (pe_op op_add (pe_op op_add (pe_callB call_len_seq (by rfl) Y.len PySem.boot_len (pa_cons (pe_fld (pv 0) rfl) pa_nil)) (pe_callB call_len_seq (by rfl) Y.len PySem.boot_len (pa_cons (pe_fld (pv 1) rfl) pa_nil)))
          (pe_callB call_len_seq (by rfl) Y.len PySem.boot_len (pa_cons (pv 2) pa_nil))) (pe_glob (v := .int 12) rfl g12 ⟨t12, rfl⟩) (nomark _)) (pss_one ps_never) pss_nil)
      (pss_cons (ps_setLc (i := 4) (own := [("lake", 8), ("place", 9)]) (g := gTup K 2 (gCons (gName 8) (gCons (gName 9) gNil))) (by rfl) scJo.nd rfl rfl (sw_true rfl rfl rfl (by decide +kernel)) (pi_list (pv 2)) (blkOk_by (own := [("lake", 8), ("place", 9)]) (N := joN) (sc := defScope d_joined) (by decide +kernel))
          (fun _ _ _ _ _ => pg_tup (by rfl) (pgs_cons (pg_name (i := 8) scJo.nd rfl (.inl rfl)) (pgs_cons (pg_name (i := 9) scJo.nd rfl (.inl rfl)) pgs_nil))) (fun _ _ _ _ _ => pts_nil)
          (fun _ _ _ _ _ => pe_tup (pa_cons (pv 8) (pa_cons (pe_op op_add (show PE _ _ (tFld K (tVar 0) "many") from pe_fld (pv 0) rfl) (pv 9)) (pa_cons (pe_make M GI r3 rfl Tx.mgC bI1 vd passL (pa_cons (pe_un un_neg pe_int) pa_nil)) (pa_cons (pe_make M GI r3 rfl Tx.mgC bI1 vd passL (pa_cons (pe_op op_pow pe_int pe_int) pa_nil)) pa_nil))))))
      (pss_cons (ps_setLc (i := 5) (own := [("start", 10), ("finish", 11), ("low", 12), ("high", 13)]) (g := gTup K 4 (gCons (gName 10) (gCons (gName 11) (gCons (gName 12) (gCons (gName 13) gNil))))) (by rfl) scJo.nd rfl rfl (sw_true rfl rfl rfl (by decide +kernel)) (pi_list (pe_fld (pv 1) rfl)) (blkOk_by (own := [("start", 10), ("finish", 11), ("low", 12), ("high", 13)]) (N := joN) (sc := defScope d_joined) (by decide +kernel))
          (fun _ _ _ _ _ => pg_tup (by rfl) (pgs_cons (pg_name (i := 10) scJo.nd rfl (.inl rfl)) (pgs_cons (pg_name (i := 11) scJo.nd rfl (.inl rfl)) (pgs_cons (pg_name (i := 12) scJo.nd rfl (.inl rfl)) (pgs_cons (pg_name (i := 13) scJo.nd rfl (.inl rfl)) pgs_nil))))) (fun _ _ _ _ _ => pts_nil)
          (fun _ _ _ _ _ => pe_tup (pa_cons (pe_op op_add (pv 10) (show PE _ _ (tFld K (tVar 0) "many") from pe_fld (pv 0) rfl)) (pa_cons (pe_op op_add (pv 11) (show PE _ _ (tFld K (tVar 0) "many") from pe_fld (pv 0) rfl)) (pa_cons (pv 12) (pa_cons (pv 13) pa_nil))))))
      (pss_cons (ps_set (i := 6) scJo.nd rfl (Or.inr rfl) (pe_lc (own := [("lake", 8), ("_", 14)]) (g := gTup K 2 (gCons (gName 8) (gCons (gName 14) gNil))) (by rfl) scJo.nd (pi_list (pv 2)) (blkOk_by (own := [("lake", 8), ("_", 14)]) (N := joN) (sc := defScope d_joined) (by decide +kernel))
          (fun _ _ _ _ _ => pg_tup (by rfl) (pgs_cons (pg_name (i := 8) scJo.nd rfl (.inl rfl)) (pgs_cons (pg_name (i := 14) scJo.nd rfl (.inl rfl)) pgs_nil))) (fun _ _ _ _ _ => pts_nil) (fun _ _ _ _ _ => pv 8)))
      (pss_cons (ps_setLc (i := 7) (own := [("place", 9), ("told", 15)]) (g := gTup K 2 (gCons (gName 9) (gCons (gName 15) gNil))) (by rfl) scJo.nd rfl rfl (sw_true rfl rfl rfl (by decide +kernel)) (pi_enum (by rfl) Y.enumerate (pa_cons (pe_fld (pv 0) rfl) pa_nil)) (blkOk_by (own := [("place", 9), ("told", 15)]) (N := joN) (sc := defScope d_joined) (by decide +kernel))
          (fun _ _ _ _ _ => pg_tup (by rfl) (pgs_cons (pg_name (i := 9) scJo.nd rfl (.inl rfl)) (pgs_cons (pg_name (i := 15) scJo.nd rfl (.inl rfl)) pgs_nil))) (fun _ _ _ _ _ => pts_nil)
          (fun _ _ _ _ _ => pe_ifExp (pt_cmpR (show OpR _ _ (rIn K false) from op_in_seq) (pv 9) (pv 6) (by rfl)) (pe_tup (pa_cons pe_int pa_nil)) (pv 15)))
      (pss_one (ps_ret (pe_make MW GWi hr rfl hW bWi .nil pass0 (pa_cons (pv 3) (pa_cons (pe_op op_cat (pe_sortK (a := "bed") (T := T) hr (by rfl) Y.sorted (pe_op op_cat (pe_fld (pv 0) rfl) (pv 4)) (lamK_by (sc := defScope d_joined) (by decide +kernel)) TB rfl hmT huT rfl (fun _ _ _ _ _ _ => rfl)) (pv 5)) (pa_cons (pe_op op_cat (pv 7) (pe_fld (pv 1) rfl)) pa_nil))))))))))))), ?_⟩
    obtain ⟨dx, bl, pl, ea, ⟨ts, hb, hts⟩, ⟨us, hp, hus⟩, gW⟩ := id hW1
    obtain ⟨dy, cl, ql, eb, ⟨vs, hc, hvs⟩, ⟨ws, hq, hws⟩, gV⟩ := id hV1
    have lts := hts.len
    have lvs := hvs.len
    have lus := hus.len
    have lws := hws.len
    have gpl := gW.plen
    have vpl := gV.plen
    refine ⟨_, rfl, a, CW, dx, _, _, rfl, ea, TW.cl, TW.nm, webF_many .., _, rfl, b, CW, dy, _, _, rfl, eb, TW.cl, TW.nm, webF_many .., _, _, rfl, rfl, ?_⟩
    refine ⟨_, rfl, _, rfl, _, rfl, a, b, l, rfl, hl, fun H1 s1 => ⟨true, rfl, iteF ?_⟩⟩
    refine ⟨_, rfl, _, _, rfl, rfl, _, rfl, ite2 (fun h => absurd (of_decide_eq_true h) (by omega)) (fun _ => ?_)⟩
    have s1b := s1 _ _ hb
    have s1c := s1 _ _ hc
    have s1l := s1 _ _ hl
    refine ⟨_, rfl, a, CW, dx, _, _, rfl, s1 _ _ ea, TW.cl, TW.nb, webF_beds .., bl, _, rfl, .inl (SqL.of s1b), _, rfl, b, CW, dy, _, _, rfl, s1 _ _ eb, TW.cl, TW.nb, webF_beds .., cl, _, rfl, .inl (SqL.of s1c), _, _, rfl, rfl, ?_⟩
    refine ⟨_, rfl, l, [], rfl, .inl (SqL.of s1l), _, _, rfl, rfl, _, _, rfl, rfl, _, rfl, ?_⟩
    refine ite2 (fun h => absurd (of_decide_eq_true h) (by rw [List.length_map, List.length_map, lts, lvs]; simp; omega)) (fun _ => ?_)
    refine ⟨_, rfl, l, rfl, ⟨_, SqL.of s1l⟩, fun D1 hD1 => ?_⟩
    refine lc_list (K := K) (a := l) (xs := []) (fun i N => N D1 = some (.lst []) ∧ Same H1 N) ⟨upd_same, same1 hD1⟩ ?_ ?_ ?_
    · rintro i N _ ⟨_, sN⟩
      exact SqL.of (sN _ _ s1l)
    · rintro i x N hx _
      simp at hx
    rintro H2 ⟨eD1, s2⟩
    have s12 := s1.trans s2
    refine ⟨_, rfl, b, CW, dy, _, _, rfl, s12 _ _ eb, TW.cl, TW.nb, webF_beds .., cl, rfl, ⟨_, SqL.of (s12 _ _ hc)⟩, fun D2 hD2 => ?_⟩
    refine lc_list (K := K) (a := cl) (xs := vs.map V.ref) (fun i N => ∃ zs : List Addr, N D2 = some (.lst (zs.map V.ref)) ∧ All2 (BedAt K C N) zs ((Z.beds.take i).map (shB W.many)) ∧ Same H2 N) ⟨[], upd_same, .nil, same1 hD2⟩ ?_ ?_ ?_
    · rintro i N _ ⟨_, _, _, sN⟩
      exact SqL.of (sN _ _ (s12 _ _ hc))
    · rintro i x N hx ⟨zs, eD, hzs, sN⟩
      rw [List.getElem?_map] at hx
      obtain ⟨t, ht, rfl⟩ := Option.map_eq_some_iff.mp hx
      have il : i < Z.beds.length := by
        have := (List.getElem?_eq_some_iff.mp ht).1
        omega
      have s1N := s12.trans sN
      obtain ⟨x, y, q1, hx1, hy1⟩ := (hvs.all i t _ ht (List.getElem?_eq_getElem il)).mono s1N
      generalize hbi : Z.beds[i] = bi at *
      refine ⟨t, _, rfl, q1, rfl, _, _, rfl, _, _, rfl, _, _, rfl, _, _, rfl, rfl, rfl, ?_⟩
      have eaN := s1N _ _ ea
      refine ⟨_, rfl, _, rfl, a, CW, dx, _, _, rfl, eaN, TW.cl, TW.nm, webF_many .., _, _, rfl, rfl, _, rfl, _, rfl, a, CW, dx, _, _, rfl, eaN, TW.cl, TW.nm, webF_many .., _, _, rfl, rfl, _, rfl, _, rfl, (by show 4 ≤ sizeLine; decide), fun u hu => ?_⟩
      have s3 : Same N (upd N u (.tup [.int ((bi.s : Int) + (W.many : Int)), .int ((bi.e : Int) + (W.many : Int)), .ref x, .ref y])) := same1 hu
      have eu : (upd N u (.tup [.int ((bi.s : Int) + (W.many : Int)), .int ((bi.e : Int) + (W.many : Int)), .ref x, .ref y]) : Hp) u = some (.tup [.int (((shB W.many bi).s : Nat) : Int), .int (((shB W.many bi).e : Nat) : Int), .ref x, .ref y]) := by
        rw [upd_same]
        show _ = some (HO.tup [.int ((bi.s + W.many : Nat) : Int), .int ((bi.e + W.many : Nat) : Int), .ref x, .ref y])
        rw [Int.natCast_add, Int.natCast_add]
      generalize upd N u (.tup [.int ((bi.s : Int) + (W.many : Int)), .int ((bi.e : Int) + (W.many : Int)), .ref x, .ref y]) = N2 at *
      have eD2 := s3 _ _ eD
      have kp : KeepL N2 (upd N2 D2 (.lst (zs.map V.ref ++ [V.ref u]))) := keep_put eD2
      have kb : ∀ {a : Addr} {b : Bed}, BedAt K C N2 a b → BedAt K C (upd N2 D2 (.lst (zs.map V.ref ++ [V.ref u]))) a b := fun {a b} ⟨x, y, r1, r2, r3⟩ => ⟨x, y, kp.tup r1, kp.sh r2, kp.sh r3⟩
      refine ⟨_, eD2, ?_, zs ++ [u], by rw [List.map_append]; exact upd_same, ?_, fun a o ea => ?_⟩
      · rw [List.length_map, hzs.len, List.length_map, List.length_take]
        exact Nat.lt_of_le_of_lt (Nat.min_le_left _ _) (Nat.lt_of_lt_of_le (show i < 12 by omega) (show 12 ≤ sizeLine by decide))
      · rw [List.take_succ_eq_append_getElem il, List.map_append, hbi]
        exact (hzs.mono fun _ _ _ _ r => kb (r.mono s3)).snoc (kb ⟨x, y, SqT.of eu, hx1.mono s3, hy1.mono s3⟩)
      · rw [upd_ne (ne_of_none ea hD2)]
        exact s3 _ _ (sN _ _ ea)
    rintro H3 ⟨zs, eD2, hzs, s3⟩
    rw [List.length_map, lvs, List.take_length] at hzs
    have s13 := s12.trans s3
    refine ⟨_, rfl, l, rfl, ⟨_, SqL.of (s13 _ _ hl)⟩, fun D3 hD3 => ?_⟩
    refine lc_list (K := K) (a := l) (xs := []) (fun i N => N D3 = some (.lst []) ∧ Same H3 N) ⟨upd_same, same1 hD3⟩ ?_ ?_ ?_
    · rintro i N _ ⟨_, sN⟩
      exact SqL.of (sN _ _ (s13 _ _ hl))
    · rintro i x N hx _
      simp at hx
    rintro H4 ⟨eD3, s4⟩
    have s14 := s13.trans s4
    refine ⟨_, rfl, a, CW, dx, _, _, rfl, s14 _ _ ea, TW.cl, TW.np, webF_parts .., pl, _, rfl, SqL.of (s14 _ _ hp), fun D4 hD4 => ?_⟩
    refine lc_it (walk_enum (K := K) (a := pl) (xs := us.map V.ref)) (fun i N => N D4 = some (.lst ((us.take i).map V.ref)) ∧ Same H4 N) ⟨upd_same, same1 hD4⟩ ?_ ?_ ?_
    · rintro i N _ ⟨_, sN⟩
      exact SqL.of (sN _ _ (s14 _ _ hp))
    · rintro i x N N' hi ⟨eD, sN⟩ ⟨T1, x1, x2, rfl, hT1, rfl, e1, e2⟩
      obtain rfl := Option.some.inj e1
      have e2 : (us.map V.ref)[i]? = some x2 := e2
      rw [List.getElem?_map] at e2
      obtain ⟨u, hu, rfl⟩ := Option.map_eq_some_iff.mp e2
      have il : i < us.length := (List.getElem?_eq_some_iff.mp hu).1
      have s5 : Same N (upd N T1 (.tup [.int (i : Nat), .ref u])) := same1 hT1
      refine ⟨T1, _, rfl, SqT.of upd_same, rfl, _, _, rfl, _, _, rfl, rfl, rfl, ?_⟩
      generalize upd N T1 (.tup [.int (i : Nat), .ref u]) = N2 at *
      have eD4 := s5 _ _ eD
      refine ⟨_, rfl, _, rfl, D3, [], rfl, .inl (SqL.of ((sN.trans s5) _ _ eD3)), rfl, rfl, false, rfl, iteF ?_⟩
      refine ⟨_, rfl, _, eD4, ?_, ?_, fun a o ea => ?_⟩
      · rw [List.length_map, List.length_take]
        exact Nat.lt_of_le_of_lt (Nat.min_le_left _ _) (Nat.lt_of_lt_of_le (show i < 8 by omega) (show 8 ≤ sizeLine by decide))
      · rw [upd_same, List.take_add_one, hu, List.map_append]
        rfl
      · rw [upd_ne (ne_of_none ea hD4)]
        exact s5 _ _ (sN _ _ ea)
    rintro H5 ⟨eD4, s5⟩
    rw [List.length_map, List.take_length] at eD4
    have s15 := s14.trans s5
    have eD1' := (s3.trans (s4.trans s5)) _ _ eD1
    have s35 := s4.trans s5
    refine ⟨_, rfl, _, rfl, a, CW, dx, _, _, rfl, s15 _ _ ea, TW.cl, TW.nb, webF_beds .., _, rfl, bl, D1, _, _, rfl, rfl, s15 _ _ hb, eD1', by rw [List.length_map, lts]; exact Nat.le_trans (show W.beds.length + 0 ≤ 12 by omega) (show 12 ≤ sizeLine by decide), fun L1 hL1 => ?_⟩
    rw [List.append_nil]
    have s6 : Same H5 (upd H5 L1 (.lst (ts.map V.ref))) := same1 hL1
    have eL1 : (upd H5 L1 (.lst (ts.map V.ref)) : Hp) L1 = some (.lst (ts.map V.ref)) := upd_same
    generalize upd H5 L1 (.lst (ts.map V.ref)) = H6 at *
    have s16 := s15.trans s6
    obtain ⟨l0, el1, el2, hl0⟩ := ab_of hts
    have lm : (l0.map abB).map Prod.fst = ts.map V.ref := by
      rw [← el1, List.map_map, List.map_map]
      rfl
    refine ⟨L1, l0.map abB, rfl, by rw [lm]; exact SqL.of eL1, hT.ext s16, ab_alike, ab_sortable, ab_depth, fun H7 hE hT7 => ⟨fun x hx => ?_, fun d hd => ?_⟩⟩
    · obtain ⟨y, hy, rfl⟩ := List.mem_map.mp hx
      obtain ⟨_, _, q1, _, _⟩ := hl0 y hy
      exact krun_int (lamK_by (sc := defScope d_joined) (by decide +kernel)) (by decide) (exn_tup hE (Same.tup s16 q1)) (at_k (by decide) rfl)
    · rw [ab_sort, ab_same (by rw [show (l0.map fun x => x.2.s) = (l0.map Prod.snd).map Bed.s from by rw [List.map_map]; rfl, el2]; exact gW.sorted)]
      rw [show (l0.map fun x => V.ref x.1) = ts.map V.ref from by rw [← el1, List.map_map]; rfl]
      have s8 : Same H7 (upd H7 d (.lst (ts.map V.ref))) := same1 hd
      have ed : (upd H7 d (.lst (ts.map V.ref)) : Hp) d = some (.lst (ts.map V.ref)) := upd_same
      have hT8 := hT7.ext s8
      generalize upd H7 d (.lst (ts.map V.ref)) = H8 at *
      have x68 : ExtN H6 H8 := hE.trans (ExtN.of s8)
      have x38 : ExtN H3 H8 := (ExtN.of (s35.trans s6)).trans x68
      have x08 : ExtN H H8 := (ExtN.of s16).trans x68
      have eD2' : H8 D2 = some (.lst (zs.map V.ref)) := x38 _ _ eD2 (fun _ z => nomatch z)
      refine ⟨_, rfl, d, D2, _, _, rfl, rfl, ed, eD2', ?_, fun L2 hL2 => ?_⟩
      · rw [List.length_map, List.length_map, lts, hzs.len, List.length_map]
        exact Nat.le_trans few (by decide)
      rw [← List.map_append]
      have s9 : Same H8 (upd H8 L2 (.lst ((ts ++ zs).map V.ref))) := same1 hL2
      have eL2 : (upd H8 L2 (.lst ((ts ++ zs).map V.ref)) : Hp) L2 = some (.lst ((ts ++ zs).map V.ref)) := upd_same
      have hT9 := hT8.ext s9
      generalize upd H8 L2 (.lst ((ts ++ zs).map V.ref)) = H9 at *
      have x09 : ExtN H H9 := x08.trans (ExtN.of s9)
      have x39 : ExtN H3 H9 := x38.trans (ExtN.of s9)
      have x59 : ExtN H5 H9 := (ExtN.of s6).trans (x68.trans (ExtN.of s9))
      have eD4' : H9 D4 = some (.lst (us.map V.ref)) := x59 _ _ eD4 (fun _ z => nomatch z)
      refine ⟨_, rfl, _, rfl, b, CW, dy, _, _, rfl, x09 _ _ eb (fun _ z => nomatch z), TW.cl, TW.np, webF_parts .., D4, ql, _, _, rfl, rfl, eD4', x09 _ _ hq (fun _ z => nomatch z), ?_, fun L3 hL3 => ?_⟩
      · rw [List.length_map, List.length_map]
        exact Nat.le_trans (show us.length + ws.length ≤ 8 by omega) (show 8 ≤ sizeLine by decide)
      rw [← List.map_append]
      have s10 : Same H9 (upd H9 L3 (.lst ((us ++ ws).map V.ref))) := same1 hL3
      have eL3 : (upd H9 L3 (.lst ((us ++ ws).map V.ref)) : Hp) L3 = some (.lst ((us ++ ws).map V.ref)) := upd_same
      have hT10 := hT9.ext s10
      generalize upd H9 L3 (.lst ((us ++ ws).map V.ref)) = H10 at *
      intro x xd nx ndx nex
      have s11 : Same H10 (upd (upd H10 xd (.own x)) x (.ins CW xd [])) := made_same (C := CW) nx ndx (fun a _ => rfl)
      have hx11 : (upd (upd H10 xd (.own x)) x (.ins CW xd []) : Hp) x = some (.ins CW xd []) := upd_same
      have hT11 := hT10.ext s11
      generalize upd (upd H10 xd (.own x)) x (.ins CW xd []) = H11 at *
      have x0a : ExtN H H11 := x09.trans (ExtN.of (s10.trans s11))
      have x3a : ExtN H3 H11 := x39.trans (ExtN.of (s10.trans s11))
      refine ⟨x, xd, L2, L3, joinW W Z, rfl, hx11, ⟨ts ++ zs, SqL.of ((s10.trans s11) _ _ eL2), All2.app (hts.mono fun _ _ _ _ r => exn_bed x0a r) (hzs.mono fun _ _ _ _ r => exn_bed x3a r)⟩, ⟨us ++ ws, SqL.of (s11 _ _ eL3), All2.app (hus.mono fun _ _ _ _ r => exn_tup x0a r) (hws.mono fun _ _ _ _ r => exn_tup x0a r)⟩, joinW_good gW gV m8 few, fun H' hw' fr kp => ⟨rfl, ?_⟩⟩
      have hxH : NewA H x := newA_none (x09.trans (ExtN.of s10)) nx
      have hx0 : ∀ o, H11 x = some o → o = .ins CW xd [] := fun o e => by
        rw [hx11] at e
        exact (Option.some.inj e).symm
      refine q H' x (fun c o ec n => ?_) (fun z hz => ?_) hxH hw'
      · by_cases e : c = x
        · subst e
          obtain ⟨y, hy⟩ := hxH o ec
          exact absurd hy (n y)
        · exact kp c o e (x0a c o ec n)
      · obtain ⟨ps, h1, h2, h3⟩ := hT11 z hz
        refine ⟨ps, kp _ _ (fun e => ?_) h1, h2, fun pos cv hc => ?_⟩
        · rw [e, hx11] at h1
          cases h1
        · obtain ⟨c, e1, e2⟩ := h3 pos cv hc
          refine ⟨c, e1, kp _ _ (fun e => ?_) e2⟩
          rw [e, hx11] at e2
          cases e2
end
end K04

namespace K04
open PySem PySem.Spec PyProof.Rows L2
theorem cut_to {xs : List V} {n : Nat} : cutV xs none (some (n : Int)) = xs.take n := by
  unfold cutV
  rw [HT.sIx_nat, HT.sIx_none, List.drop_zero, Nat.sub_zero]
  by_cases h : n ≤ xs.length
  · rw [Nat.min_eq_left h]
  · rw [Nat.min_eq_right (by omega), List.take_of_length_le (Nat.le_refl _), List.take_of_length_le (by omega)]
end K04

namespace K04
open PySem PySem.Spec PyProof.Rows L2
/-! ### cut, where the place is one -/
def spCutF (K : PySem.W.Frag) (C CW : Addr) : Sp := fun vs H Q _ => ∃ (w : Addr) (W : WebV) (n : Nat), vs = [.ref w, .int (n : Int)] ∧ WebAt K C CW H w W ∧ n ≤ W.many ∧ ∀ (H' : Hp) (u : Addr), Same H H' → H u = none → WebAt K C CW H' u (cutF W n) → Q (.ref u) H'
theorem none_back {H H' : Hp} {u : Addr} (s : Same H H') (h : H' u = none) : H u = none := by
  cases e : H u with
  | none => rfl
  | some o =>
    have := s _ _ e
    rw [h] at this
    cases this
section
variable {P : Program} {w : World} {K : PySem.W.Frag} {mg : Str → Option Value} {base : Heap}
abbrev cuN : List Str := ["web", "place", "beds", "bed"]
theorem scCu : FnScope cuN ["web", "place"] (defScope d_cut) := ⟨rfl, rfl, rfl, by decide +kernel, rfl, by decide +kernel, by decide +kernel⟩
theorem ok_cutF {f f1 fW C CW : Addr} {fd fd1 fdW : FuncData} (F : Fun K "cut" "cut" d_cut f fd) (TW : CrsW K CW) (hW : mg "Web" = some (.ref CW)) (A1 : At P w K mg base CX0 2 "is_between" ["thing", "least", "most"] spBetweenI f1 fd1)
    (MW : Mk K CW fW) (GWi : FnOk P w K mg base CX0 5 fW fdW ["self", "many", "beds", "parts"] (spWInitF K C CW)) (bWi : Binds K fdW ["self", "many", "beds", "parts"] []) : FnOk P w K mg base CX0 7 f fd ["web", "place"] (spCutF K C CW) := by
  refine F.ok scCu (fun vs H Q E h => ?_) (fun cdv A outer s H vs Q E hr h => ?_)
  · obtain ⟨_, _, _, rfl, _⟩ := h
    rfl
  · obtain ⟨w0, W, n, rfl, hw, hn, q⟩ := h
    have r2 : Room 2 _ := hr.mono (by decide)
    refine ⟨_, pss_cons (ps_if (pt_not (pt_val (pe_call A1.G r2 rfl A1.m A1.k A1.b .nil pass0 (pa_cons (pv 1) (pa_cons pe_int (pa_cons (pe_fld (pv 0) rfl) pa_nil)))))) (pss_one ps_never) pss_nil)
      (pss_cons (ps_setLc (i := 2) (own := [("bed", 3)]) (g := gName 3) (by rfl) scCu.nd rfl rfl (sw_true rfl rfl rfl (by decide +kernel)) (pi_list (pe_fld (pv 0) rfl)) (blkOk_by (own := [("bed", 3)]) (N := cuN) (sc := defScope d_cut) (by decide +kernel)) (fun _ _ _ _ _ => pg_name (i := 3) scCu.nd rfl (.inl rfl))
          (fun _ _ _ _ _ => pts_one (pt_cmpR op_lt (pe_ix (show IxR _ (rIxT K) from ix_tup) (pv 3) pe_int (fun _ _ => rfl)) (pv 1) (nomark _))) (fun _ _ _ _ _ => pv 3))
      (pss_one (ps_ret (pe_make MW GWi hr rfl hW bWi .nil pass0 (pa_cons (pe_fld (pv 0) rfl) (pa_cons (pv 2) (pa_cons (pe_op op_cat (pe_slice sl_list (pe_fld (pv 0) rfl) po_none (po_some (pv 1)))
          (pe_op op_rep (pe_lst (pa_cons (pe_tup pa_nil) pa_nil)) (pe_op op_sub (pe_fld (pv 0) rfl) (pv 1)))) pa_nil))))))), ?_⟩
    have g := hw.choose_spec.choose_spec.choose_spec.2.2.2
    have few := g.few
    have m8 := g.m8
    obtain ⟨dx, bl, pl, ew, ⟨ts, hb, hts⟩, ⟨us, hp, hus⟩, _⟩ := id hw
    have lts : ts.length = W.beds.length := hts.len
    have lus : us.length = W.many := by
      have := hus.len
      have := g.plen
      omega
    refine ⟨_, rfl, _, rfl, w0, CW, dx, _, _, rfl, ew, TW.cl, TW.nm, webF_many .., _, _, _, rfl, _, rfl, ?_⟩
    have hbt : (decide ((0 : Int) ≤ (n : Int)) && decide ((n : Int) ≤ (W.many : Int))) = true := by
      rw [decide_eq_true (show (0 : Int) ≤ (n : Int) by omega), decide_eq_true (show (n : Int) ≤ (W.many : Int) by omega)]
      rfl
    refine ite2 (fun h => absurd h (by rw [hbt]; decide)) (fun _ => ?_)
    refine ⟨_, rfl, w0, CW, dx, _, _, rfl, ew, TW.cl, TW.nb, webF_beds .., bl, rfl, ⟨_, SqL.of hb⟩, fun D hD => ?_⟩
    refine lc_list (K := K) (a := bl) (xs := ts.map V.ref) (fun i N => ∃ zs : List Addr, N D = some (.lst (zs.map V.ref)) ∧ zs.length ≤ i ∧ All2 (BedAt K C N) zs ((W.beds.take i).filter fun b => decide (b.s < n)) ∧ Same H N) ⟨[], upd_same, Nat.le_refl _, .nil, same1 hD⟩ ?_ ?_ ?_
    · rintro i N _ ⟨_, _, _, _, sN⟩
      exact SqL.of (sN _ _ hb)
    · rintro i x N hx ⟨zs, eD, lz, hzs, sN⟩
      rw [List.getElem?_map] at hx
      obtain ⟨t, ht, rfl⟩ := Option.map_eq_some_iff.mp hx
      have il : i < W.beds.length := by
        have := (List.getElem?_eq_some_iff.mp ht).1
        omega
      have hbed := (hts.all i t _ ht (List.getElem?_eq_getElem il)).mono sN
      obtain ⟨x, y, q1, hx1, hy1⟩ := id hbed
      refine ⟨rfl, _, rfl, t, _, _, _, rfl, rfl, q1, at_k (by decide) rfl, _, rfl, _, _, rfl, rfl, _, rfl, ?_⟩
      refine ite2 (fun h => ?_) (fun h => ?_)
      · have h : ((W.beds[i].s : Nat) : Int) < (n : Int) := of_decide_eq_true h
        have kp : KeepL N (upd N D (.lst (zs.map V.ref ++ [V.ref t]))) := keep_put eD
        have kb : ∀ {a : Addr} {b : Bed}, BedAt K C N a b → BedAt K C (upd N D (.lst (zs.map V.ref ++ [V.ref t]))) a b := fun {a b} ⟨x, y, r1, r2, r3⟩ => ⟨x, y, kp.tup r1, kp.sh r2, kp.sh r3⟩
        refine ⟨_, rfl, _, eD, ?_, zs ++ [t], by rw [List.map_append]; exact upd_same, by rw [List.length_append]; exact Nat.succ_le_succ lz, ?_, fun a o ea => ?_⟩
        · rw [List.length_map]
          exact Nat.lt_of_le_of_lt lz (Nat.lt_of_lt_of_le (show i < 12 by omega) (show 12 ≤ sizeLine by decide))
        · rw [List.take_succ_eq_append_getElem il, List.filter_append, List.filter_cons, if_pos (decide_eq_true (by omega)), List.filter_nil]
          exact (hzs.mono fun _ _ _ _ r => kb r).snoc (kb hbed)
        · rw [upd_ne (ne_of_none ea hD)]
          exact sN _ _ ea
      · have h : ¬ ((W.beds[i].s : Nat) : Int) < (n : Int) := fun z => h (decide_eq_true z)
        refine ⟨zs, eD, Nat.le_succ_of_le lz, ?_, sN⟩
        rw [List.take_succ_eq_append_getElem il, List.filter_append, List.filter_cons, if_neg (by rw [decide_eq_false (show ¬ W.beds[i].s < n by omega)]; exact Bool.false_ne_true), List.filter_nil, List.append_nil]
        exact hzs
    · rintro N ⟨zs, eD, _, hzs, sN⟩
      rw [List.length_map, hts.len, List.take_length] at hzs
      refine ⟨_, rfl, w0, CW, dx, _, _, rfl, sN _ _ ew, TW.cl, TW.nm, webF_many .., _, rfl, ?_⟩
      refine ⟨_, rfl, w0, CW, dx, _, _, rfl, sN _ _ ew, TW.cl, TW.np, webF_parts .., _, rfl, _, rfl, pl, _, rfl, SqL.of (sN _ _ hp), fun L1 hL1 => ?_⟩
      rw [cut_to, ← List.map_take]
      have s1 : Same N (upd N L1 (.lst ((us.take n).map V.ref))) := same1 hL1
      have eL1 : (upd N L1 (.lst ((us.take n).map V.ref)) : Hp) L1 = some (.lst ((us.take n).map V.ref)) := upd_same
      generalize upd N L1 (.lst ((us.take n).map V.ref)) = N1 at *
      refine ⟨(by show 0 ≤ sizeLine; decide), fun T hT => ⟨(by show 1 ≤ sizeLine; decide), fun L2 hL2 => ?_⟩⟩
      have s2 : Same N1 (upd N1 T (.tup [])) := same1 hT
      have eT : (upd N1 T (.tup []) : Hp) T = some (.tup []) := upd_same
      generalize upd N1 T (.tup []) = N2 at *
      have s3 : Same N2 (upd N2 L2 (.lst [.ref T])) := same1 hL2
      have eL2 : (upd N2 L2 (.lst [.ref T]) : Hp) L2 = some (.lst [.ref T]) := upd_same
      generalize upd N2 L2 (.lst [.ref T]) = N3 at *
      have s13 := s1.trans (s2.trans s3)
      have k1 : ((W.many : Int) - (n : Int)).toNat = W.many - n := by omega
      refine ⟨_, rfl, w0, CW, dx, _, _, rfl, (sN.trans s13) _ _ ew, TW.cl, TW.nm, webF_many .., _, rfl, _, _, rfl, rfl, L2, _, _, rfl, rfl, eL2, by omega, by omega, ?_, fun L3 hL3 => ?_⟩
      · rw [k1]
        exact Nat.le_trans (show 1 * (W.many - n) ≤ 8 by omega) (show 8 ≤ sizeLine by decide)
      have rep : (List.replicate ((W.many : Int) - (n : Int)).toNat [V.ref T]).flatten = (List.replicate (W.many - n) T).map V.ref := by
        rw [k1, List.map_replicate]
        generalize W.many - n = j
        induction j with
        | zero => rfl
        | succ j ih => rw [List.replicate_succ, List.flatten_cons, ih, List.replicate_succ]; rfl
      rw [rep]
      have s4 : Same N3 (upd N3 L3 (.lst ((List.replicate (W.many - n) T).map V.ref))) := same1 hL3
      have eL3 : (upd N3 L3 (.lst ((List.replicate (W.many - n) T).map V.ref)) : Hp) L3 = some (.lst ((List.replicate (W.many - n) T).map V.ref)) := upd_same
      generalize upd N3 L3 (.lst ((List.replicate (W.many - n) T).map V.ref)) = N4 at *
      refine ⟨L1, L3, _, _, rfl, rfl, (s2.trans (s3.trans s4)) _ _ eL1, eL3, ?_, fun L4 hL4 => ?_⟩
      · rw [List.length_map, List.length_map, List.length_take, List.length_replicate]
        exact Nat.le_trans (show min n us.length + (W.many - n) ≤ 8 by omega) (show 8 ≤ sizeLine by decide)
      rw [← List.map_append]
      have s5 : Same N4 (upd N4 L4 (.lst ((us.take n ++ List.replicate (W.many - n) T).map V.ref))) := same1 hL4
      have eL4 : (upd N4 L4 (.lst ((us.take n ++ List.replicate (W.many - n) T).map V.ref)) : Hp) L4 = some (.lst ((us.take n ++ List.replicate (W.many - n) T).map V.ref)) := upd_same
      generalize upd N4 L4 (.lst ((us.take n ++ List.replicate (W.many - n) T).map V.ref)) = N5 at *
      have s15 := s13.trans (s4.trans s5)
      intro x xd nx ndx nex
      have t4 : Same N5 (upd (upd N5 xd (.own x)) x (.ins CW xd [])) := made_same (C := CW) nx ndx (fun a _ => rfl)
      have s16 := s15.trans t4
      have hP : All2 (PartsAt K (upd (upd N5 xd (.own x)) x (.ins CW xd []))) (us.take n ++ List.replicate (W.many - n) T) (cutF W n).parts := by
        refine All2.app ((hus.take n).mono fun _ _ _ _ r => Same.tup (sN.trans s16) r) ⟨by rw [List.length_replicate, List.length_replicate], fun i a b ha hb' => ?_⟩
        obtain rfl := List.eq_of_mem_replicate (List.mem_of_getElem? ha)
        obtain rfl := List.eq_of_mem_replicate (List.mem_of_getElem? hb')
        exact SqT.of ((s3.trans (s4.trans (s5.trans t4))) _ _ eT)
      refine ⟨x, xd, D, L4, cutF W n, rfl, upd_same, ⟨zs, SqL.of (s16 _ _ eD), hzs.mono fun _ _ _ _ r => r.mono s16⟩, ⟨_, SqL.of (t4 _ _ eL4), hP⟩, cutF_good g hn, fun H' hw' fr kp => ⟨rfl, ?_⟩⟩
      exact q H' x (fun a o ea => kp a o (ne_of_none ((sN.trans s15) _ _ ea) nx) ((sN.trans s16) _ _ ea)) (none_back (sN.trans s15) nx) hw'
end
end K04

namespace K04
open PySem PySem.Spec PyProof.Rows L2
/-! ### made, of shares that need not be written in lowest terms -/
def spMade04 (K : PySem.W.Frag) (C CW : Addr) : Sp := fun vs H Q _ => ∃ (p t : Addr) (W : WebV), vs = [.ref p, .ref t] ∧ SrcAt H p ∧ WorldAt K H t W ∧ GoodWeb W ∧ ∀ (H' : Hp) (w : Addr), But p H H' → SrcAt H' p → H w = none → WebAt K C CW H' w W → Q (.ref w) H'
def rLst (K : PySem.W.Frag) : List V → Hp → VK → Prop := fun xs H Q => ∃ p ys, xs = [V.ref p] ∧ (SqL K H p ys ∨ SqT K H p ys) ∧ ∀ l, H l = none → Q (.ref l) (upd H l (.lst ys))
theorem rat_by (q : Rat) {k : Int} (hk : k ≠ 0) : ((q.num * k : Int) : Rat) / (((q.den : Int) * k : Int) : Rat) = q := by
  have h := rat_frac q
  have hk := icast_ne hk
  have hd := icast_ne (show (q.den : Int) ≠ 0 by have := den_pos q; omega)
  rw [Rat.intCast_mul, Rat.intCast_mul]
  generalize ((k : Int) : Rat) = x at *
  generalize ((q.num : Int) : Rat) = y at *
  generalize (((q.den : Nat) : Int) : Rat) = z at *
  rw [← h]
  grind
theorem none_but {p : Addr} {H H' : Hp} {u : Addr} (k : But p H H') (n : u ≠ p) (h : H' u = none) : H u = none := by
  cases e : H u with
  | none => rfl
  | some o =>
    have := k _ _ n e
    rw [h] at this
    cases this
section
variable {P : Program} {w : World} {K : PySem.W.Frag} {mg : Str → Option Value} {base : Heap}
abbrev mdN : List Str := ["source", "world", "many", "rows", "shared", "told", "start", "finish", "low", "high", "by", "row"]
theorem scMd : FnScope mdN ["source", "world"] (defScope d_law_made) := ⟨rfl, rfl, rfl, by decide +kernel, rfl, by decide +kernel, by decide +kernel⟩
theorem shq_by {C : Addr} {H : Hp} {p : Addr} {x : Rat} {k : Int} (hk : k ≠ 0) (h : ShAt C H p (lowT (x.num * k) ((x.den : Int) * k)) (lowB (x.num * k) ((x.den : Int) * k))) : ShQ C H p x := by
  have z := shq_low (t := x.num * k) (b := (x.den : Int) * k) (Int.mul_ne_zero (by have := den_pos x; omega) hk) h
  rw [rat_by x hk] at z
  exact z
theorem ok_made04 {f f1 fI fW C CN CW : Addr} {fd fd1 fdI fdW : FuncData} (F : Fun K "_law_made" "_law_made" d_law_made f fd) (T : Txt K mg C CN) (Y : TxtW mg C) (hW : mg "Web" = some (.ref CW)) (A1 : At P w K mg base CX0 2 "_law_next" ["source", "many"] spNext f1 fd1)
    (M : Mk K C fI) (GI : FnOk P w K mg base (L2.CX P w) 2 fI fdI ["self", "top", "bottom"] (spInit C CN)) (bI : Binds K fdI ["self", "top", "bottom"] [])
    (MW : Mk K CW fW) (GW : FnOk P w K mg base CX0 5 fW fdW ["self", "many", "beds", "parts"] (spWInit K C CW)) (bW : Binds K fdW ["self", "many", "beds", "parts"] []) : FnOk P w K mg base CX0 7 f fd ["source", "world"] (spMade04 K C CW) := by
  refine F.ok scMd (fun vs H Q E h => ?_) (fun cdv A outer s H vs Q E hr h => ?_)
  · obtain ⟨_, _, _, rfl, _⟩ := h
    rfl
  · obtain ⟨p, t0, W, rfl, hp, ⟨rl, sl, h0, ⟨ts, hts, hA⟩, ⟨us, hus, hU⟩⟩, g, q⟩ := h
    have r2 : Room 2 _ := hr.mono (by decide)
    have r3 : Room 3 _ := hr.mono (by decide)
    refine ⟨_, pss_cons (ps_asg (pv 1) (pg_tup (by rfl) (pgs_cons (pg_name (i := 2) scMd.nd rfl (.inl rfl)) (pgs_cons (pg_name (i := 3) scMd.nd rfl (.inl rfl)) (pgs_cons (pg_name (i := 4) scMd.nd rfl (.inl rfl)) pgs_nil)))))
      (pss_cons (ps_set (i := 5) scMd.nd rfl (Or.inl rfl) (pe_lst pa_nil))
      (pss_cons (ps_for PassesOwn.never rfl (pi_list (pv 3)) (pg_tup (by rfl) (pgs_cons (pg_name (i := 6) scMd.nd rfl (.inl rfl)) (pgs_cons (pg_name (i := 7) scMd.nd rfl (.inl rfl)) (pgs_cons (pg_name (i := 8) scMd.nd rfl (.inl rfl)) (pgs_cons (pg_name (i := 9) scMd.nd rfl (.inl rfl)) pgs_nil)))))
        (pss_cons (ps_set (i := 10) scMd.nd rfl (Or.inl rfl) (pe_ix ix_list (pe_lst (pa_cons pe_int (pa_cons pe_int (pa_cons pe_int (pa_cons (pe_un un_neg pe_int) pa_nil))))) (pe_call A1.G r2 rfl A1.m A1.k A1.b .nil pass0 (pa_cons (pv 0) (pa_cons pe_int pa_nil))) (fun _ _ => rfl)))
        (pss_one (ps_expr (pe_bm PySem.F.plainAttrs_list PySem.F.slot_list_append PySem.F.type_list_append mt_append (pv 5) (pa_cons (pe_tup (pa_cons (pv 6) (pa_cons (pv 7)
          (pa_cons (pe_make M GI r3 rfl T.mgC bI .nil passL (pa_cons (pe_op op_mulW (pe_ix ix_tup (pv 8) pe_int (fun _ _ => rfl)) (pv 10)) (pa_cons (pe_op op_mulW (pe_ix ix_tup (pv 8) pe_int (fun _ _ => rfl)) (pv 10)) pa_nil)))
          (pa_cons (pe_make M GI r3 rfl T.mgC bI .nil passL (pa_cons (pe_op op_mulW (pe_ix ix_tup (pv 9) pe_int (fun _ _ => rfl)) (pv 10)) (pa_cons (pe_op op_mulW (pe_ix ix_tup (pv 9) pe_int (fun _ _ => rfl)) (pv 10)) pa_nil))) pa_nil))))) pa_nil))))))
      (pss_one (ps_ret (pe_make MW GW hr rfl hW bW .nil pass0 (pa_cons (pv 2) (pa_cons (pv 5) (pa_cons
          (pe_lc (own := [("row", 11)]) (g := gName 11) (by rfl) scMd.nd (pi_list (pv 4)) (blkOk_by (own := [("row", 11)]) (N := mdN) (sc := defScope d_law_made) (by decide +kernel)) (fun _ _ _ _ _ => pg_name (i := 11) scMd.nd rfl (.inl rfl)) (fun _ _ _ _ _ => pts_nil)
            (fun _ _ _ _ _ => pe_callTy (cr_tup (K := K) rfl) (by rfl) Y.tuple (by decide +kernel) (pa_cons (pe_callTy (show CallR _ (.type "list") (rLst K) from call_list_of) (by rfl) Y.list (by decide +kernel) (pa_cons (pv 11) pa_nil)) pa_nil))) pa_nil)))))))), ?_⟩
    refine ⟨_, rfl, t0, _, rfl, h0, rfl, _, _, rfl, _, _, rfl, _, _, rfl, rfl, ?_⟩
    refine ⟨(by show 0 ≤ sizeLine; decide), fun F hF => ?_⟩
    have nF := hp.ne hF
    have b0 : But p H (upd H F (.lst [])) := same_but (same1 hF)
    have w0 : SrcAt (upd H F (.lst [])) p := hp.put nF
    have eF : (upd H F (.lst []) : Hp) F = some (.lst ([].map V.ref)) := upd_same
    generalize upd H F (.lst []) = H0 at *
    have few := g.few
    have htsH := b0.seqR hp hts
    refine ⟨_, rfl, rl, rfl, ⟨_, htsH⟩, ?_⟩
    refine for_list (K := K) (a := rl) (xs := ts.map V.ref) (fun i σ N => ∃ (v6 v7 v8 v9 v10 : Option V) (vs : List Addr), σ = [some (.ref p), some (.ref t0), some (.int (W.many : Int)), some (.ref rl), some (.ref sl), some (.ref F), v6, v7, v8, v9, v10, none] ∧ N F = some (.lst (vs.map V.ref)) ∧ All2 (BedAt K C N) vs (W.beds.take i) ∧ SrcAt N p ∧ But p H N) ⟨none, none, none, none, none, [], rfl, eF, .nil, w0, b0⟩ ?_ ?_ ?_
    · rintro i σ N _ ⟨_, _, _, _, _, _, rfl, _, _, wN, bN⟩
      exact bN.seqR hp hts
    · rintro i x σ N hx ⟨v6, v7, v8, v9, v10, vs, rfl, eN, hV, wN, bN⟩
      rw [List.getElem?_map] at hx
      obtain ⟨t, ht, rfl⟩ := Option.map_eq_some_iff.mp hx
      have il : i < W.beds.length := by
        have := (List.getElem?_eq_some_iff.mp ht).1
        have := hA.len
        omega
      have hbi : W.beds[i]? = some W.beds[i] := List.getElem?_eq_getElem il
      obtain ⟨x, y, q1, hx1, hy1⟩ := (bN.keep hp).row (hA.all i t _ ht hbi)
      have gb := g.bed _ (List.getElem_mem il)
      generalize hb : W.beds[i] = b at *
      have s1 := gb.slo
      have s2 := gb.shi
      refine ⟨t, _, rfl, q1, rfl, _, _, rfl, _, _, rfl, _, _, rfl, _, _, rfl, rfl, ?_⟩
      refine ⟨_, rfl, (by show 4 ≤ sizeLine; decide), fun L hL => ?_⟩
      have nL := wN.ne hL
      generalize hol : HO.lst [V.int 1, V.int 1, V.int 2, V.int (-3)] = ol at *
      have sL : Same N (upd N L ol) := same1 hL
      have wL : SrcAt (upd N L ol) p := wN.put nL
      have eL : (upd N L ol : Hp) L = some ol := upd_same
      generalize upd N L ol = N1 at *
      subst hol
      refine ⟨_, rfl, p, 4, rfl, wL, by decide, by decide, fun N2 d b2 w2 d0 d1 => ?_⟩
      have eL2 := b2 _ _ nL eL
      obtain ⟨c, hc, c0, c2⟩ : ∃ c : Int, atI [V.int 1, V.int 1, V.int 2, V.int (-3)] d = some (V.int c) ∧ c ≠ 0 ∧ c.natAbs < 2 ^ 2 := by
        have h : d = 0 ∨ d = 1 ∨ d = 2 ∨ d = 3 := by omega
        rcases h with h | h | h | h <;> rw [h]
        · exact ⟨1, at_k (by decide) rfl, by decide, by decide⟩
        · exact ⟨1, at_k (by decide) rfl, by decide, by decide⟩
        · exact ⟨2, at_k (by decide) rfl, by decide, by decide⟩
        · exact ⟨-3, at_k (by decide) rfl, by decide, by decide⟩
      refine ⟨L, _, _, _, rfl, rfl, SqL.of eL2, hc, ?_⟩
      have bN2 : But p N N2 := (same_but sL).trans b2
      have k2 := bN2.keep wN
      have hx2 : PairAt K N2 x b.lo := k2.tup hx1
      have hy2 : PairAt K N2 y b.hi := k2.tup hy1
      have eN2 := bN2 _ _ nF eN
      have n0 : ∀ z : Rat, atI (prV z) 0 = some (.int z.num) := fun z => at_k (by decide) rfl
      have n1 : ∀ z : Rat, atI (prV z) 1 = some (.int ((z.den : Nat) : Int)) := fun z => at_k (by decide) rfl
      have wm : ∀ {i : Int}, i.natAbs < 2 ^ 1500 → CMulW i c := fun h => wide_mul (a := 1500) (b := 2) h c2 (by decide) (by decide) (by decide)
      have zm : ∀ {i : Int}, i.natAbs < 2 ^ 1500 → (i * c).natAbs < 2 ^ 4000 := fun h => pow_le (mul_lt (a := 1500) (b := 2) h c2) (by decide)
      have ne0 : ∀ q : Rat, ((q.den : Nat) : Int) * c ≠ 0 := fun q => Int.mul_ne_zero (by have := den_pos q; omega) c0
      refine ⟨_, rfl, .inl ⟨rfl, _, SqL.of eN2⟩, _, rfl, _, rfl, _, rfl, x, _, _, _, rfl, rfl, hx2, n0 _, _, rfl, _, _, rfl, rfl, wm s1.1, _, rfl, x, _, _, _, rfl, rfl, hx2, n1 _, _, rfl, _, _, rfl, rfl, wm s1.2, fun p1 d1 np nd nex => ?_⟩
      refine ⟨p1, d1, _, _, rfl, upd_same, zm s1.1, zm s1.2, fun z => absurd z (ne0 _), fun _ N3 e1 ka => ⟨rfl, ?_⟩⟩
      have m1 : Same N2 N3 := made_same (C := C) np nd ka
      have hp1 : ShQ C N3 p1 b.lo := shq_by c0 ⟨d1, e1⟩
      have hy3 := Same.tup m1 hy2
      refine ⟨_, rfl, y, _, _, _, rfl, rfl, hy3, n0 _, _, rfl, _, _, rfl, rfl, wm s2.1, _, rfl, y, _, _, _, rfl, rfl, hy3, n1 _, _, rfl, _, _, rfl, rfl, wm s2.2, fun p2 d2 np2 nd2 nex2 => ?_⟩
      refine ⟨p2, d2, _, _, rfl, upd_same, zm s2.1, zm s2.2, fun z => absurd z (ne0 _), fun _ N4 e2 ka2 => ⟨rfl, ?_⟩⟩
      have m2 : Same N3 N4 := made_same (C := C) np2 nd2 ka2
      have hp2 : ShQ C N4 p2 b.hi := shq_by c0 ⟨d2, e2⟩
      refine ⟨(by show 4 ≤ sizeLine; decide), fun u hu => ?_⟩
      have m3 : Same N4 (upd N4 u (.tup [.int (b.s : Int), .int (b.e : Int), .ref p1, .ref p2])) := same1 hu
      have eu : (upd N4 u (.tup [.int (b.s : Int), .int (b.e : Int), .ref p1, .ref p2]) : Hp) u = some (.tup [.int (b.s : Int), .int (b.e : Int), .ref p1, .ref p2]) := upd_same
      generalize upd N4 u (.tup [.int (b.s : Int), .int (b.e : Int), .ref p1, .ref p2]) = N5 at *
      have m13 := m1.trans (m2.trans m3)
      have w5 := w2.same m13
      have bN5 : But p N N5 := bN2.trans (same_but m13)
      have eN5 := bN5 _ _ nF eN
      refine ⟨F, _, _, rfl, rfl, eN5, ?_, ?_⟩
      · rw [List.length_map, hV.len, List.length_take]
        exact Nat.lt_of_le_of_lt (Nat.min_le_left _ _) (Nat.lt_of_lt_of_le (show i < 12 by omega) (show 12 ≤ sizeLine by decide))
      have kp : KeepL N5 (upd N5 F (.lst (vs.map V.ref ++ [V.ref u]))) := keep_put eN5
      have kN5 := (bN5.keep wN).trans kp
      have kb : ∀ {H1 H2 : Hp} {a : Addr} {b : Bed}, KeepL H1 H2 → BedAt K C H1 a b → BedAt K C H2 a b := fun {H1 H2 a b} k ⟨x, y, r1, r2, r3⟩ => ⟨x, y, k.tup r1, k.sh r2, k.sh r3⟩
      refine ⟨_, _, _, _, _, vs ++ [u], rfl, by rw [List.map_append]; exact upd_same, ?_, w5.put nF, fun a o na ea => ?_⟩
      · rw [List.take_succ_eq_append_getElem il, hb]
        exact (hV.mono fun _ _ _ _ r => kb kN5 r).snoc (kb kp ⟨p1, p2, SqT.of eu, hp1.mono (m2.trans m3), hp2.mono m3⟩)
      · rw [upd_ne (ne_of_none ea hF)]
        exact bN5 _ _ na (bN _ _ na ea)
    · rintro σ N ⟨v6, v7, v8, v9, v10, vs, rfl, eN, hV, wN, bN⟩
      rw [List.length_map, hA.len, List.take_length] at hV
      have plen := g.plen
      have m8 := g.m8
      have lus := hU.len
      refine ⟨_, rfl, _, rfl, _, rfl, sl, rfl, ⟨_, bN.seqR hp hus⟩, fun D hD => ?_⟩
      have nD := wN.ne hD
      refine lc_list (K := K) (a := sl) (xs := us.map V.ref) (fun i M => ∃ zs : List Addr, M D = some (.lst (zs.map V.ref)) ∧ All2 (PartsAt K M) zs (W.parts.take i) ∧ Same N M) ⟨[], upd_same, .nil, same1 hD⟩ ?_ ?_ ?_
      · rintro i M _ ⟨_, _, _, sM⟩
        exact sM.seq (bN.seqR hp hus)
      · rintro i x M hx ⟨zs, eD, hzs, sM⟩
        rw [List.getElem?_map] at hx
        obtain ⟨t, ht, rfl⟩ := Option.map_eq_some_iff.mp hx
        have il : i < W.parts.length := by
          have := (List.getElem?_eq_some_iff.mp ht).1
          omega
        have ht2 : PartsAt K M t W.parts[i] := Same.tup sM ((bN.keep hp).tup (hU.all i t _ ht (List.getElem?_eq_getElem il)))
        generalize hbi : W.parts[i] = ps at *
        refine ⟨rfl, _, rfl, t, _, rfl, .inr ht2, fun l hl => ?_⟩
        have s1 : Same M (upd M l (.lst (ps.map natV))) := same1 hl
        have el : (upd M l (.lst (ps.map natV)) : Hp) l = some (.lst (ps.map natV)) := upd_same
        generalize upd M l (.lst (ps.map natV)) = M1 at *
        refine ⟨l, _, rfl, .inl ⟨SqL.of el, fun u hu => ?_⟩⟩
        have s2 : Same M1 (upd M1 u (.tup (ps.map natV))) := same1 hu
        have eu : (upd M1 u (.tup (ps.map natV)) : Hp) u = some (.tup (ps.map natV)) := upd_same
        generalize upd M1 u (.tup (ps.map natV)) = M2 at *
        have eD2 := (s1.trans s2) _ _ eD
        have kp : KeepL M2 (upd M2 D (.lst (zs.map V.ref ++ [V.ref u]))) := keep_put eD2
        refine ⟨_, eD2, ?_, zs ++ [u], by rw [List.map_append]; exact upd_same, ?_, fun a o ea => ?_⟩
        · rw [List.length_map, hzs.len, List.length_take]
          exact Nat.lt_of_le_of_lt (Nat.min_le_left _ _) (Nat.lt_of_lt_of_le (show i < 8 by omega) (show 8 ≤ sizeLine by decide))
        · rw [List.take_succ_eq_append_getElem il, hbi]
          exact (hzs.mono fun _ _ _ _ r => kp.tup (Same.tup (s1.trans s2) r)).snoc (kp.tup (SqT.of eu))
        · rw [upd_ne (ne_of_none ea hD)]
          exact (s1.trans s2) _ _ (sM _ _ ea)
      · rintro M ⟨zs, eD, hzs, sM⟩
        rw [List.length_map, lus, List.take_length] at hzs
        intro x dx nx ndx nex
        have s4 : Same M (upd (upd M dx (.own x)) x (.ins CW dx [])) := made_same (C := CW) nx ndx (fun a _ => rfl)
        have hx4 : (upd (upd M dx (.own x)) x (.ins CW dx []) : Hp) x = some (.ins CW dx []) := upd_same
        generalize upd (upd M dx (.own x)) x (.ins CW dx []) = M4 at *
        have s34 := sM.trans s4
        have wM := wN.same sM
        have px : x ≠ p := wM.ne nx
        refine ⟨x, dx, F, D, W, rfl, hx4, ⟨vs, SqL.of (s34 _ _ eN), hV.mono fun _ _ _ _ r => r.mono s34⟩, ⟨zs, SqL.of (s4 _ _ eD), hzs.mono fun _ _ _ _ r => Same.tup s4 r⟩, g, fun H' hw kp => ⟨rfl, ?_⟩⟩
        have kx : Same M H' := fun a o ea => kp a o (ne_of_none ea nx) (s4 _ _ ea)
        exact q H' x (bN.trans (same_but (sM.trans kx))) (wM.same kx) (none_but (bN.trans (same_but sM)) px nx) hw
end
end K04

/-! ### a tuple times 0 or 1 -/
namespace K04.GN
open PySem PySem.SeqAt
open AutoSeq1 (wpAny_loadPart')
open MeetsSeq MeetsSeq2 MeetsSeq3 SeqRoads2
theorem mul_one (l : Addr) (p : Array Value) (n : Nat) (dd : Option Addr) (sl : Array (Option Value)) (u : Tok) :
    Meets (Builtin.«tuple.__mul__» ⟨[.ref l, .int 1 u], []⟩) (fun _ R s => s.heap.get? l = some { cls := .type "tuple", dict := dd, data := .seq p n, slots := sl } ∧ R (.ok (.ret (Value.ref l))) s) :=
  .of_wp fun prog w A R s h => by
    obtain ⟨hp, g, dr, tk, os⟩ := s
    obtain ⟨hl, h⟩ := h
    have ix := AutoSeq1.idx_int
    wp_walk using wpAny_loadPart' hl
    exact ⟨_, rfl, h⟩
theorem mul_zero (l : Addr) (p : Array Value) (n : Nat) (dd : Option Addr) (sl : Array (Option Value)) (u : Tok) (ne : p.isEmpty = false) :
    Meets (Builtin.«tuple.__mul__» ⟨[.ref l, .int 0 u], []⟩) (fun _ R s => s.heap.get? l = some { cls := .type "tuple", dict := dd, data := .seq p n, slots := sl } ∧
      R (.ok (.ret (Value.ref s.heap.objs.size))) { s with heap := s.heap.push { cls := Value.type "tuple", data := Data.seq #[] }, toks := s.toks }) :=
  .of_wp fun prog w A R s h => by
    obtain ⟨hp, g, dr, tk, os⟩ := s
    obtain ⟨hl, h⟩ := h
    have ix := AutoSeq1.idx_int
    wp_walk using wpAny_loadPart' hl
    exact ⟨_, rfl, h⟩
end K04.GN
namespace K04
open PySem PySem.Spec PyProof.Rows L2
/-- t * k for a tuple of something, k from 0 on -/
def rRepA (K : PySem.W.Frag) : R2 := fun x y H Q => ∃ l k xs, x = .ref l ∧ y = .int k ∧ SqT K H l xs ∧ xs ≠ [] ∧ 0 ≤ k ∧ k ≤ 1000 ∧ xs.length ≤ 1000 ∧ (k = 1 → Q (.ref l) H) ∧ (k ≠ 1 → ∀ p, H p = none → Q (.ref p) (upd H p (.tup (List.replicate k.toNat xs).flatten)))
theorem op_repA {X : Cx} : OpR X (binaryOp .Mult) (rRepA X.K) := by
  intro pins s σ H x y v u Q I rx ry h
  obtain ⟨l, k, xs, rfl, rfl, hT, hne, h0, h1, hz, q1, q2⟩ := h
  by_cases c : 2 ≤ k
  · exact op_repT pins s σ H _ _ v u Q I rx ry ⟨l, k, xs, rfl, rfl, hT, hne, c, h1, hz, q2 (by omega)⟩
  cases rx
  obtain ⟨t, rfl⟩ := ry
  obtain ⟨its, r, ⟨⟨cls, dd, data, sl⟩, ho, hc, n, hd⟩, hs⟩ := I.tuple hT
  simp only at hc hd
  subst hc hd
  have run : wpAny (model X.prog X.w) X.A (call (.builtin "tuple.__mul__") [.ref l, .int k t]) (EP X pins σ Q) X.xe s → wpAny (model X.prog X.w) X.A (binaryOp .Mult (.ref l) (.int k t)) (EP X pins σ Q) X.xe s := fun hm =>
    wpAny_binaryOp_repeat_ref (T := "tuple") (U := "int") (by decide) ⟨_, ho, rfl⟩ (fun s' => typeIs_int s' k t)
      noFill_tuple_mul F.fills_int_mul F.slot_int_rmul repeat_tuple F.slot_int_index.lookup
      (call_meets F.slot_int_rmul (typeIs_int s k t) F.entry_int_rmul (F.args_int_rmul_2 _ _) (int_rmul_tuple k t l its.toArray n dd sl) ⟨ho, rfl, ⟨_, ho, rfl⟩, hm⟩)
  refine run ?_
  by_cases e : k = 1
  · subst e
    refine call_meets F.slot_tuple_mul ⟨_, ho, rfl⟩ F.entry_tuple_mul (F.args_tuple_mul_2 _ _) (GN.mul_one l its.toArray n dd sl t) ⟨ho, ?_⟩
    exact ⟨.ref l, H, I, rfl, q1 rfl⟩
  · obtain rfl : k = 0 := by omega
    have hi : its.toArray.isEmpty = false := by
      cases its with
      | nil =>
        cases r
        exact absurd rfl hne
      | cons a b => rfl
    refine call_meets F.slot_tuple_mul ⟨_, ho, rfl⟩ F.entry_tuple_mul (F.args_tuple_mul_2 _ _) (GN.mul_zero l its.toArray n dd sl t hi) ⟨ho, ?_⟩
    refine ⟨.ref s.heap.objs.size, _, I.laid (t' := s.toks) (o := .tup []) (fun b ob q => Heap.get?_push_of_some _ q) (Nat.le_refl _) ?_, rfl, q2 e _ (I.hok.fresh (Nat.le_refl _))⟩
    exact ⟨by show 0 ≤ sizeLine; decide, _, .nil, IsTup.new _ _⟩
end K04

namespace K04
open PySem PySem.Spec PyProof.Rows L2
/-! ### parts that match some beds -/
def spPartsFor (K : PySem.W.Frag) : Sp := fun vs H Q _ => ∃ (m : Nat) (l sl : Addr) (bs : List Bed) (pss : List (List Nat)), vs = [.int (m : Int), .ref l, .ref sl] ∧ RowsAt K H l bs ∧ WParts K H sl pss ∧ m ≤ 8 ∧ bs.length ≤ 12 ∧ (∀ ps ∈ pss, GoodParts ps.length ps) ∧
  ∀ (H' : Hp) (r : Addr) (qss : List (List Nat)), Same H H' → H r = none → WParts K H' r qss → qss.length = m → (∀ (i : Nat) (ps : List Nat), qss[i]? = some ps → GoodParts ((bs.map Bed.s).count i) ps) → Q (.ref r) H'
theorem good_ones {n : Nat} (h : n ≤ 12) : GoodParts n (List.replicate n 1) := ⟨List.length_replicate, fun p hp => by rw [List.eq_of_mem_replicate hp]; decide, by rw [List.length_replicate]; exact h, by
  cases n with
  | zero => exact .inl rfl
  | succ n => exact .inr ⟨1, by simp, by decide⟩⟩
section
variable {P : Program} {w : World} {K : PySem.W.Frag} {mg : Str → Option Value} {base : Heap}
abbrev pfN : List Str := ["many", "rows", "shared", "found", "place", "wanted", "one", "old"]
theorem scPf : FnScope pfN ["many", "rows", "shared"] (defScope d_law_parts_for) := ⟨rfl, rfl, rfl, by decide +kernel, rfl, by decide +kernel, by decide +kernel⟩
theorem ok_partsFor {f C : Addr} {fd : FuncData} (F : Fun K "_law_parts_for" "_law_parts_for" d_law_parts_for f fd) (Y : TxtW mg C) (hrange : mg "range" = none) : FnOk P w K mg base CX0 1 f fd ["many", "rows", "shared"] (spPartsFor K) := by
  refine F.ok scPf (fun vs H Q E h => ?_) (fun cdv A outer s H vs Q E hr h => ?_)
  · obtain ⟨_, _, _, _, _, rfl, _⟩ := h
    rfl
  · obtain ⟨m, rl, sl, bs, pss, rfl, ⟨ts, hts, hA⟩, ⟨us, hus, hU⟩, m8, few, gp, q⟩ := h
    refine ⟨_, pss_cons (ps_set (i := 3) scPf.nd rfl (Or.inl rfl) (pe_lst pa_nil))
      (pss_cons (ps_for PassesOwn.never rfl (pi_range1 (by rfl) hrange (pa_cons (pv 0) pa_nil)) (pg_name (i := 4) scPf.nd rfl (.inr rfl))
        (pss_cons (ps_set (i := 5) scPf.nd rfl (Or.inl rfl) (pe_callB call_len_seq (by rfl) Y.len PySem.boot_len (pa_cons
          (pe_lc (own := [("one", 6)]) (g := gName 6) (by rfl) scPf.nd (pi_list (pv 1)) (blkOk_by (own := [("one", 6)]) (N := pfN) (sc := defScope d_law_parts_for) (by decide +kernel)) (fun _ _ _ _ _ => pg_name (i := 6) scPf.nd rfl (.inl rfl))
            (fun _ _ _ _ _ => pts_one (pt_cmpR op_eq (pe_ix (show IxR _ (rIxT K) from ix_tup) (pv 6) pe_int (fun _ _ => rfl)) (pv 4) (nomark _))) (fun _ _ _ _ _ => pv 6)) pa_nil)))
        (C8.pss_cut (ps_set (i := 7) scPf.nd rfl (Or.inl rfl) (pe_ifExp (pt_cmpR op_lt (pv 4) (pe_callB call_len_seq (by rfl) Y.len PySem.boot_len (pa_cons (pv 2) pa_nil)) (nomark _)) (pe_ix ix_list (pv 2) (pv 4) (fun _ _ => rfl)) (pe_tup pa_nil)))
        (pss_one (ps_expr (pe_bm PySem.F.plainAttrs_list PySem.F.slot_list_append PySem.F.type_list_append mt_append (pv 3) (pa_cons
          (pe_ifExp (pt_cmpR op_eq (pe_callB call_len_seq (by rfl) Y.len PySem.boot_len (pa_cons (pv 7) pa_nil)) (pv 5) (nomark _)) (pv 7) (pe_op op_repA (pe_tup (pa_cons pe_int pa_nil)) (pv 5))) pa_nil)))))))
      (pss_one (ps_ret (pv 3)))), ?_⟩
    refine ⟨(by show 0 ≤ sizeLine; decide), fun S hS => ?_⟩
    have s0 : Same H (upd H S (.lst [])) := same1 hS
    have eS : (upd H S (.lst []) : Hp) S = some (.lst ([].map V.ref)) := upd_same
    generalize upd H S (.lst []) = H0 at *
    refine ⟨_, rfl, _, rfl, by omega, by omega, ?_⟩
    refine for_range (lo := 0) (n := ((m : Int)).toNat) (fun i σ N => ∃ (v4 v5 v7 : Option V) (zs : List Addr) (qss : List (List Nat)), σ = [some (.int (m : Int)), some (.ref rl), some (.ref sl), some (.ref S), v4, v5, none, v7] ∧
        N S = some (.lst (zs.map V.ref)) ∧ All2 (PartsAt K N) zs qss ∧ qss.length = i ∧ (∀ (j : Nat) (ps : List Nat), qss[j]? = some ps → GoodParts ((bs.map Bed.s).count j) ps) ∧ Same H N)
      ⟨none, none, none, [], [], rfl, eS, .nil, rfl, (fun j ps h => by simp at h), s0⟩ ?_ ?_
    · rintro i σ N hi ⟨v4, v5, v7, zs, qss, rfl, eN, hZ, lq0, gq, sN⟩
      have hrl : SqL K N rl (ts.map V.ref) := sN.seq hts
      have hAN : All2 (RowAt K N) ts bs := hA.mono fun _ _ _ _ r => r.mono sN
      refine ⟨_, rfl, rl, rfl, ⟨_, hrl⟩, fun D hD => ?_⟩
      refine lc_list (K := K) (a := rl) (xs := ts.map V.ref) (fun j M => ∃ qs : List Addr, M D = some (.lst (qs.map V.ref)) ∧ qs.length = ((bs.take j).map Bed.s).count i ∧ Same N M) ⟨[], upd_same, rfl, same1 hD⟩ ?_ ?_ ?_
      · rintro j M _ ⟨_, _, _, sM⟩
        exact sM.seq hrl
      · rintro j x M hx ⟨qs, eD, lq, sM⟩
        rw [List.getElem?_map] at hx
        obtain ⟨t, ht, rfl⟩ := Option.map_eq_some_iff.mp hx
        have jl : j < bs.length := by
          have := (List.getElem?_eq_some_iff.mp ht).1
          have := hA.len
          omega
        have hb : bs[j]? = some bs[j] := List.getElem?_eq_getElem jl
        obtain ⟨_, _, q1, _, _⟩ := (hAN.all j t _ ht hb).mono sM
        have nxt : ((bs.take (j + 1)).map Bed.s).count i = ((bs.take j).map Bed.s).count i + if bs[j].s = i then 1 else 0 := by
          rw [List.take_succ_eq_append_getElem jl, List.map_append, List.count_append, List.map_cons, List.map_nil, List.count_cons, List.count_nil]
          by_cases c : bs[j].s = i
          · simp [c]
          · simp [c]
        refine ⟨rfl, _, rfl, t, _, _, _, rfl, rfl, q1, at_k (by decide) rfl, _, rfl, rfl, _, rfl, ?_⟩
        refine ite2 (fun h => ?_) (fun h => ?_)
        · have h : ((bs[j].s : Nat) : Int) = 0 + (i : Int) := V.int.inj (of_decide_eq_true h)
          refine ⟨_, rfl, _, eD, ?_, qs ++ [t], by rw [List.map_append]; exact upd_same, ?_, fun a o ea => ?_⟩
          · rw [List.length_map, lq]
            refine Nat.lt_of_le_of_lt List.count_le_length ?_
            rw [List.length_map, List.length_take]
            exact Nat.lt_of_le_of_lt (Nat.min_le_left _ _) (Nat.lt_of_lt_of_le (show j < 12 by omega) (show 12 ≤ sizeLine by decide))
          · rw [List.length_append, lq, nxt, if_pos (by omega)]
            rfl
          · rw [upd_ne (ne_of_none ea hD)]
            exact sM _ _ ea
        · have h : ¬ ((bs[j].s : Nat) : Int) = 0 + (i : Int) := fun z => h (decide_eq_true (by rw [z]))
          refine ⟨qs, eD, ?_, sM⟩
          rw [lq, nxt, if_neg (by omega)]
          rfl
      · rintro M ⟨qs, eD, lq, sM⟩
        rw [List.length_map, hA.len, List.take_length] at lq
        have cle : (bs.map Bed.s).count i ≤ 12 := by
          refine Nat.le_trans List.count_le_length ?_
          rw [List.length_map]
          exact few
        refine ⟨D, _, rfl, .inl (SqL.of eD), ?_⟩
        have sN2 := sN.trans sM
        have husM : SqL K M sl (us.map V.ref) := sN2.seq hus
        refine ⟨fun σ' N' => ∃ (u : Addr) (ps : List Nat), σ' = [some (.int (m : Int)), some (.ref rl), some (.ref sl), some (.ref S), some (.int (0 + (i : Int))), some (.int ((qs.map V.ref).length : Int)), none, some (.ref u)] ∧ Same M N' ∧ PartsAt K N' u ps ∧ GoodParts ps.length ps, ?_, ?_⟩
        · refine ⟨_, rfl, _, rfl, sl, _, rfl, .inl husM, _, _, rfl, rfl, _, rfl, ?_⟩
          refine ite2 (fun h => ?_) (fun h => ?_)
          · have h : 0 + (i : Int) < (((us.map V.ref).length : Nat) : Int) := of_decide_eq_true h
            rw [List.length_map] at h
            have iu : i < us.length := by omega
            have ip : i < pss.length := by rw [← hU.len]; exact iu
            refine ⟨_, rfl, _, rfl, sl, _, _, _, rfl, rfl, husM, at_k (by omega) (by rw [show (0 + (i : Int)).toNat = i by omega, List.getElem?_map, List.getElem?_eq_getElem iu]; rfl), us[i], pss[i], rfl, Same.refl _, ?_, gp _ (List.getElem_mem ip)⟩
            exact Same.tup sN2 (hU.all i _ _ (List.getElem?_eq_getElem iu) (List.getElem?_eq_getElem ip))
          · refine ⟨(by show 0 ≤ sizeLine; decide), fun T hT => ⟨T, [], rfl, same1 hT, SqT.of upd_same, good_nil⟩⟩
        · rintro σ' N' ⟨u, ps, rfl, sM', hu, gu⟩
          have sMN := sM.trans sM'
          have eN' := sMN _ _ eN
          have lqi : (((qs.map V.ref).length : Nat) : Int) = (((bs.map Bed.s).count i : Nat) : Int) := by rw [List.length_map, lq]
          rw [lqi]
          refine ⟨_, rfl, .inl ⟨rfl, _, SqL.of eN'⟩, _, rfl, u, _, rfl, .inr hu, _, rfl, rfl, _, rfl, ?_⟩
          have fin : ∀ (M1 : Hp) (x : Addr) (ps' : List Nat), Same N' M1 → PartsAt K M1 x ps' → GoodParts ((bs.map Bed.s).count i) ps' →
              ∃ lp xs v, V.ref S = .ref lp ∧ [V.ref x] = [v] ∧ M1 lp = some (.lst xs) ∧ xs.length < sizeLine ∧ ∃ (v4 v5 v7 : Option V) (zs : List Addr) (qss : List (List Nat)), [some (V.int (m : Int)), some (V.ref rl), some (V.ref sl), some (V.ref S), some (V.int (0 + (i : Int))), some (V.int (((bs.map Bed.s).count i : Nat) : Int)), none, some (V.ref u)] = [some (.int (m : Int)), some (.ref rl), some (.ref sl), some (.ref S), v4, v5, none, v7] ∧
                upd M1 lp (.lst (xs ++ [v])) S = some (.lst (zs.map V.ref)) ∧ All2 (PartsAt K (upd M1 lp (.lst (xs ++ [v])))) zs qss ∧ qss.length = i + 1 ∧ (∀ (j : Nat) (ps : List Nat), qss[j]? = some ps → GoodParts ((bs.map Bed.s).count j) ps) ∧ Same H (upd M1 lp (.lst (xs ++ [v]))) := fun M1 x ps' s1 hx gx => by
            have s2 := sMN.trans s1
            have eM1 := s1 _ _ eN'
            have kp : KeepL M1 (upd M1 S (.lst (zs.map V.ref ++ [V.ref x]))) := keep_put eM1
            refine ⟨S, _, _, rfl, rfl, eM1, ?_, _, _, _, zs ++ [x], qss ++ [ps'], rfl, by rw [List.map_append]; exact upd_same, (hZ.mono fun _ _ _ _ r => kp.tup (Same.tup s2 r)).snoc (kp.tup hx), by rw [List.length_append, lq0]; rfl, fun j ps0 hj => ?_, fun a o ea => ?_⟩
            · rw [List.length_map, hZ.len, lq0]
              exact Nat.lt_of_lt_of_le (show i < 8 by omega) (show 8 ≤ sizeLine by decide)
            · by_cases c : j < qss.length
              · rw [List.getElem?_append_left c] at hj
                exact gq j ps0 hj
              · rw [List.getElem?_append_right (by omega)] at hj
                have c0 : j - qss.length = 0 := by
                  have := (List.getElem?_eq_some_iff.mp hj).1
                  simp at this
                  omega
                rw [c0] at hj
                have e : ps' = ps0 := by simpa using hj
                rw [← e, show j = i by omega]
                exact gx
            · rw [upd_ne (ne_of_none ea hS)]
              exact s2 _ _ (sN _ _ ea)
          refine ite2 (fun h => ?_) (fun h => ?_)
          · have h : (((ps.map natV).length : Nat) : Int) = (((bs.map Bed.s).count i : Nat) : Int) := V.int.inj (of_decide_eq_true h)
            rw [List.length_map] at h
            refine ⟨_, rfl, fin N' u ps (Same.refl _) hu ?_⟩
            rw [show (bs.map Bed.s).count i = ps.length by omega]
            exact gu
          · refine ⟨(by show 1 ≤ sizeLine; decide), fun T hT => ?_⟩
            have s1 : Same N' (upd N' T (.tup [.int 1])) := same1 hT
            have eT : (upd N' T (.tup [.int 1]) : Hp) T = some (.tup [.int 1]) := upd_same
            generalize upd N' T (.tup [.int 1]) = M1 at *
            refine ⟨_, rfl, T, _, [.int 1], rfl, rfl, SqT.of eT, (fun z => nomatch z), by omega, by omega, by decide, fun h1 => ?_, fun h1 p hp => ?_⟩
            · refine fin M1 T [1] s1 (SqT.of eT) ?_
              have := good_ones (n := 1) (by decide)
              rw [show (bs.map Bed.s).count i = 1 by omega]
              exact this
            · have rep : (List.replicate (((bs.map Bed.s).count i : Nat) : Int).toNat [V.int 1]).flatten = (List.replicate ((bs.map Bed.s).count i) 1).map natV := by
                rw [Int.toNat_natCast, List.map_replicate]
                generalize (bs.map Bed.s).count i = j
                induction j with
                | zero => rfl
                | succ j ih => rw [List.replicate_succ, List.flatten_cons, ih, List.replicate_succ]; rfl
              rw [rep]
              have s2 := same1 (o := .tup ((List.replicate ((bs.map Bed.s).count i) 1).map natV)) hp
              exact fin _ p _ (s1.trans s2) (SqT.of upd_same) (good_ones cle)
    · rintro σ N ⟨v4, v5, v7, zs, qss, rfl, eN, hZ, lq0, gq, sN⟩
      rw [Int.toNat_natCast] at lq0
      exact ⟨_, rfl, q N S qss sN hS ⟨zs, SqL.of eN, hZ⟩ lq0 gq⟩
end
end K04

namespace K04
open PySem PySem.Spec PyProof.Rows L2 LamX
/-! ### a world with one change: mathematics -/
structure RowsG (m : Nat) (bs : List Bed) : Prop where
  few : bs.length ≤ 12
  bed : ∀ b ∈ bs, GoodBed m b
  sorted : (bs.map Bed.s).Pairwise (· ≤ ·)
  two : ∀ s, (bs.map Bed.s).count s ≤ 2
theorem GoodWeb.rowsG {W : WebV} (g : GoodWeb W) : RowsG W.many W.beds := ⟨g.few, g.bed, g.sorted, g.two⟩
theorem RowsG.web {m : Nat} {bs : List Bed} {qss : List (List Nat)} (r : RowsG m bs) (m1 : 1 ≤ m) (m8 : m ≤ 8) (pl : qss.length = m) (hp : ∀ (i : Nat) (ps : List Nat), qss[i]? = some ps → GoodParts ((bs.map Bed.s).count i) ps) : GoodWeb ⟨m, bs, qss⟩ :=
  ⟨m1, m8, r.few, r.bed, r.sorted, r.two, pl, hp⟩
theorem RowsG.sort {m : Nat} {L : List AB} (few : L.length ≤ 12) (bed : ∀ x ∈ L, GoodBed m x.2) (two : ∀ s, (L.map fun x => x.2.s).count s ≤ 2) : RowsG m ((L.mergeSort byS).map Prod.snd) := by
  have pm := ab_perm L
  refine ⟨by rw [List.length_map, pm.length_eq]; exact few, fun b hb => ?_, ?_, fun s => ?_⟩
  · obtain ⟨x, hx, rfl⟩ := List.mem_map.mp hb
    exact bed x (pm.mem_iff.mp hx)
  · rw [List.map_map]
    exact ab_up L
  · rw [List.map_map]
    have := (pm.map fun x : AB => x.2.s).count_eq s
    show ((L.mergeSort byS).map fun x => x.2.s).count s ≤ 2
    rw [this]
    exact two s
theorem RowsG.sub {m : Nat} {bs cs : List Bed} (r : RowsG m bs) (h : cs.Sublist bs) : RowsG m cs :=
  ⟨Nat.le_trans h.length_le r.few, fun b hb => r.bed b (h.subset hb), r.sorted.sublist (h.map _), fun s => Nat.le_trans ((h.map Bed.s).count_le s) (r.two s)⟩
theorem good_self {W : WebV} (g : GoodWeb W) : ∀ ps ∈ W.parts, GoodParts ps.length ps := fun ps h => by
  obtain ⟨i, hi⟩ := List.mem_iff_getElem?.mp h
  have z := g.part i ps hi
  rw [← z.len] at z
  exact z
theorem cut_from {xs : List V} {n : Nat} (h : n ≤ xs.length) : cutV xs (some (n : Int)) none = xs.drop n := by
  unfold cutV
  rw [HT.sIx_nat, HT.sIx_none, Nat.min_eq_left h, List.take_of_length_le (by rw [List.length_drop]; exact Nat.le_refl _)]
theorem split_at {α : Type} {l : List α} {i : Nat} {x : α} (h : l[i]? = some x) : l = l.take i ++ x :: l.drop (i + 1) := by
  obtain ⟨hl, rfl⟩ := List.getElem?_eq_some_iff.mp h
  rw [List.getElem_cons_drop, List.take_append_drop]
theorem swap_two {l : List AB} {i : Nat} {t u : Addr} {b c : Bed} (h : l[i]? = some (t, b)) (two : ∀ s, (l.map fun x => x.2.s).count s ≤ 2)
    (hc : c.s = b.s ∨ ((l.take i ++ l.drop (i + 1)).map fun x => x.2.s).count c.s < 2) : ∀ s, ((l.take i ++ [(u, c)] ++ l.drop (i + 1)).map fun x => x.2.s).count s ≤ 2 := fun s => by
  have e := two s
  rw [split_at h] at e
  simp only [List.map_append, List.map_cons, List.map_nil, List.count_append, List.count_cons, List.count_nil] at e hc ⊢
  by_cases k : c.s = s
  · rw [if_pos (by simpa using k)]
    rcases hc with hc | hc
    · rw [if_pos (by simpa [← hc] using k)] at e
      omega
    · rw [k] at hc
      omega
  · rw [if_neg (by simpa using k)]
    omega
/-- 1 and -1 over a number -/
theorem one_over {n : Nat} (n0 : 0 < n) (n9 : n ≤ 9) {s : Int} (hs : s = 1 ∨ s = -1) : ∃ q : Rat, prV q = [.int s, .int (n : Int)] ∧ Sz 100 q ∧ (s = 1 → 0 < q) ∧ (s = -1 → q < 0) := by
  refine ⟨⟨s, n, by omega, by rcases hs with rfl | rfl <;> exact Nat.coprime_one_left n⟩, rfl, ⟨?_, ?_⟩, fun e => ?_, fun e => ?_⟩
  · show s.natAbs < 2 ^ 100
    exact Nat.lt_of_le_of_lt (show s.natAbs ≤ 1 by omega) (by decide)
  · show ((n : Nat) : Int).natAbs < 2 ^ 100
    rw [Int.natAbs_natCast]
    exact Nat.lt_of_le_of_lt n9 (by decide)
  · rw [Rat.lt_iff]
    simp [e]
  · rw [Rat.lt_iff]
    simp [e]
end K04

namespace K04
open PySem PySem.Spec PyProof.Rows L2 LamX
/-! ### a bed otherwise -/
def rcQ : Str := ("_law_row_changed.<locals>.<lambda>" : Str)
/-- all but the source stays, and tables grow -/
def ButX (p : Addr) (H H' : Hp) : Prop := ∀ b o, b ≠ p → H b = some o → (∀ x, o ≠ .tbl x) → H' b = some o
theorem ButX.ext {p : Addr} {H H1 H2 : Hp} (a : ButX p H H1) (b : ExtN H1 H2) : ButX p H H2 := fun c o n e t => b c o (a c o n e t) t
theorem ButX.but {p : Addr} {H H1 H2 : Hp} (a : ButX p H H1) (b : But p H1 H2) : ButX p H H2 := fun c o n e t => b c o n (a c o n e t)
theorem butx {p : Addr} {H H1 : Hp} (a : ExtN H H1) : ButX p H H1 := fun c o _ e t => a c o e t
theorem butx_but {p : Addr} {H H1 : Hp} (a : But p H H1) : ButX p H H1 := fun c o n e _ => a c o n e
theorem ButX.trans {p : Addr} {H H1 H2 : Hp} (a : ButX p H H1) (b : ButX p H1 H2) : ButX p H H2 := fun c o n e t => b c o n (a c o n e t) t
theorem tabs_but {T : List (Addr × Str)} {p : Addr} {H H' : Hp} (t : Tabs T H) (k : But p H H') (s : SrcAt H p) : Tabs T H' := fun x hx => by
  obtain ⟨ps, h1, h2, h3⟩ := t x hx
  refine ⟨ps, k.nt s h1 (fun _ z => nomatch z), h2, fun pos cv hc => ?_⟩
  obtain ⟨c, e1, e2⟩ := h3 pos cv hc
  exact ⟨c, e1, k.nt s e2 (fun _ z => nomatch z)⟩
theorem exn_row {K : PySem.W.Frag} {H H' : Hp} {a : Addr} {b : Bed} (k : ExtN H H') (h : RowAt K H a b) : RowAt K H' a b := by
  obtain ⟨x, y, u, v, w⟩ := h
  exact ⟨x, y, exn_tup k u, exn_tup k v, exn_tup k w⟩
theorem exn_src {p : Addr} {H H' : Hp} (k : ExtN H H') (h : SrcAt H p) : SrcAt H' p := by
  obtain ⟨x, y, z, e⟩ := h
  exact ⟨x, y, z, k _ _ e (fun _ z => nomatch z)⟩
theorem exn_wparts {K : PySem.W.Frag} {H H' : Hp} {a : Addr} {pss : List (List Nat)} (k : ExtN H H') (h : WParts K H a pss) : WParts K H' a pss := by
  obtain ⟨ts, u, v⟩ := h
  exact ⟨ts, exn_seq k u, v.mono fun _ _ _ _ r => exn_tup k r⟩
def spRowChanged (K : PySem.W.Frag) (T : List (Addr × Str)) : Sp := fun vs H Q _ => ∃ (p t : Addr) (W : WebV) (i : Nat), vs = [.ref p, .ref t, .int (i : Int)] ∧ SrcAt H p ∧ WorldAt K H t W ∧ WorldOk W ∧ i < W.beds.length ∧ Tabs T H ∧
  ∀ (H' : Hp) (u : Addr) (Z : WebV), ButX p H H' → SrcAt H' p → Tabs T H' → WorldAt K H' u Z → GoodWeb Z → Q (.ref u) H'
section
variable {P : Program} {w : World} {K : PySem.W.Frag} {mg : Str → Option Value} {base : Heap}
abbrev rcN : List Str := ["source", "world", "at", "many", "rows", "shared", "start", "finish", "low", "high", "kind", "mine", "one", "rest", "changed_rows"]
theorem scRc : FnScope rcN ["source", "world", "at"] (defScope d_law_row_changed) := ⟨rfl, rfl, rfl, by decide +kernel, rfl, by decide +kernel, by decide +kernel⟩
theorem ok_rowChanged {T : List (Addr × Str)} {fa f1 f2 f3 C cc Pt : Addr} {fd1 fd2 fd3 : FuncData} {kV doc pm ct oc : Value} {an od : Option Addr} {osl : Array (Option Value)}
    (lk : K.lookup fa = some ⟨oc, od, .func (PySem.W.fnOf "_law_row_changed" "_law_row_changed" (defArgs d_law_row_changed) (defBody d_law_row_changed) (defScope d_law_row_changed) .none kV doc pm an (.ref cc) ct), osl⟩) (hcd : PySem.W.codeIn K (.ref cc) "_law_row_changed" = true)
    (Y : TxtW mg C) (hmax : mg "max" = none) (TB : TabB base mg cc Pt) (hmT : (Pt, rcQ) ∈ T) (huT : ∀ p ∈ T, p.1 = Pt → p.2 = rcQ)
    (A1 : At P w K mg base CX0 2 "_law_next" ["source", "many"] spNext f1 fd1) (A2 : At P w K mg base CX0 2 "_law_sum" ["one", "other"] (spTwoP K fun p q => p + q) f2 fd2) (A3 : At P w K mg base CX0 1 "_law_parts_for" ["many", "rows", "shared"] (spPartsFor K) f3 fd3) :
    FnOk P w K mg base CX0 3 fa (PySem.W.fnOf "_law_row_changed" "_law_row_changed" (defArgs d_law_row_changed) (defBody d_law_row_changed) (defScope d_law_row_changed) .none kV doc pm an (.ref cc) ct) ["source", "world", "at"] (spRowChanged K T) := by
  refine fn_of lk hcd scRc (fun vs H Q E h => ?_) (fun A outer s H vs Q E hr h => ?_)
  · obtain ⟨_, _, _, _, rfl, _⟩ := h
    rfl
  · obtain ⟨p, t0, W, i, rfl, hp, hW, ok, il, hT, q⟩ := h
    have r1 : Room 1 _ := hr.mono (by decide)
    refine ⟨_, PSs.nox (pss_cons (ps_asg (pv 1) (pg_tup (by rfl) (pgs_cons (pg_name (i := 3) scRc.nd rfl (.inl rfl)) (pgs_cons (pg_name (i := 4) scRc.nd rfl (.inl rfl)) (pgs_cons (pg_name (i := 5) scRc.nd rfl (.inl rfl)) pgs_nil)))))
      (pss_cons (ps_asg (pe_ix ix_list (pv 4) (pv 2) (fun _ _ => rfl)) (pg_tup (by rfl) (pgs_cons (pg_name (i := 6) scRc.nd rfl (.inr rfl)) (pgs_cons (pg_name (i := 7) scRc.nd rfl (.inl rfl)) (pgs_cons (pg_name (i := 8) scRc.nd rfl (.inl rfl)) (pgs_cons (pg_name (i := 9) scRc.nd rfl (.inl rfl)) pgs_nil))))))
      (pss_cons (ps_set (i := 10) scRc.nd rfl (Or.inl rfl) (pe_call A1.G hr rfl A1.m A1.k A1.b .nil pass0 (pa_cons (pv 0) (pa_cons pe_int pa_nil))))
      (C8.pss_cut (ps_if (pt_cmpR op_eq (pv 10) pe_int (nomark _))
          (pss_one (ps_set (i := 7) scRc.nd rfl (Or.inl rfl) (pe_op op_add (pe_op op_add (pv 6) pe_int) (pe_call A1.G hr rfl A1.m A1.k A1.b .nil pass0 (pa_cons (pv 0) (pa_cons (pe_op op_sub (pe_op op_sub (pv 3) pe_int) (pv 6)) pa_nil))))))
          (pss_one (ps_if (pt_cmpR op_eq (pv 10) pe_int (nomark _))
            (pss_one (ps_set (i := 8) scRc.nd rfl (Or.inl rfl) (pe_call A2.G hr rfl A2.m A2.k A2.b .nil pass0 (pa_cons (pv 8) (pa_cons (pe_tup (pa_cons (pe_un un_neg pe_int) (pa_cons (pe_op op_add pe_int (pe_call A1.G hr rfl A1.m A1.k A1.b .nil pass0 (pa_cons (pv 0) (pa_cons pe_int pa_nil)))) pa_nil))) pa_nil)))))
            (pss_one (ps_if (pt_cmpR op_eq (pv 10) pe_int (nomark _))
              (pss_one (ps_set (i := 9) scRc.nd rfl (Or.inl rfl) (pe_call A2.G hr rfl A2.m A2.k A2.b .nil pass0 (pa_cons (pv 9) (pa_cons (pe_tup (pa_cons pe_int (pa_cons (pe_op op_add pe_int (pe_call A1.G hr rfl A1.m A1.k A1.b .nil pass0 (pa_cons (pv 0) (pa_cons pe_int pa_nil)))) pa_nil))) pa_nil)))))
              (pss_one (ps_if (pt_cmpR op_eq (pv 10) pe_int (nomark _))
                (pss_cons (ps_setLc (i := 11) (own := [("one", 12)]) (g := gName 12) (by rfl) scRc.nd rfl rfl (sw_true rfl rfl rfl (by decide +kernel)) (pi_list (pe_op op_cat (pe_slice sl_list (pv 4) po_none (po_some (pv 2))) (pe_slice sl_list (pv 4) (po_some (pe_op op_add (pv 2) pe_int)) po_none)))
                    (blkOk_by (own := [("one", 12)]) (N := rcN) (sc := defScope d_law_row_changed) (by decide +kernel)) (fun _ _ _ _ _ => pg_name (i := 12) scRc.nd rfl (.inl rfl))
                    (fun _ _ _ _ _ => pts_one (pt_cmpR op_eq (pe_ix (show IxR _ (rIxT K) from ix_tup) (pv 12) pe_int (fun _ _ => rfl)) (pe_callB (call_max2 rfl) (by rfl) hmax (by decide +kernel) (pa_cons pe_int (pa_cons (pe_op op_sub (pv 6) pe_int) pa_nil))) (nomark _))) (fun _ _ _ _ _ => pv 12))
                (pss_one (ps_set (i := 6) scRc.nd rfl (Or.inr rfl) (pe_ifExp (pt_cmpR op_lt (pe_callB call_len_seq (by rfl) Y.len PySem.boot_len (pa_cons (pv 11) pa_nil)) pe_int (nomark _)) (pe_callB (call_max2 rfl) (by rfl) hmax (by decide +kernel) (pa_cons pe_int (pa_cons (pe_op op_sub (pv 6) pe_int) pa_nil))) (pv 6)))))
                (pss_cons (ps_set (i := 13) scRc.nd rfl (Or.inl rfl) (pe_op op_cat (pe_slice sl_list (pv 4) po_none (po_some (pv 2))) (pe_slice sl_list (pv 4) (po_some (pe_op op_add (pv 2) pe_int)) po_none)))
                (pss_one (ps_ret (pe_tup (pa_cons (pv 3) (pa_cons (pv 13) (pa_cons (pe_call A3.G r1 rfl A3.m A3.k A3.b .nil pass0 (pa_cons (pv 3) (pa_cons (pv 13) (pa_cons (pv 5) pa_nil)))) pa_nil))))))))))))))
      (pss_cons (ps_set (i := 14) scRc.nd rfl (Or.inl rfl) (pe_sortK (a := "one") (T := T) hr (by rfl) Y.sorted (pe_op op_cat (pe_op op_cat (pe_slice sl_list (pv 4) po_none (po_some (pv 2))) (pe_lst (pa_cons (pe_tup (pa_cons (pv 6) (pa_cons (pv 7) (pa_cons (pv 8) (pa_cons (pv 9) pa_nil))))) pa_nil))) (pe_slice sl_list (pv 4) (po_some (pe_op op_add (pv 2) pe_int)) po_none))
          (lamK_by (sc := defScope d_law_row_changed) (by decide +kernel)) TB rfl hmT huT rfl (fun _ _ _ _ _ _ => rfl)))
      (pss_one (ps_ret (pe_tup (pa_cons (pv 3) (pa_cons (pv 14) (pa_cons (pe_call A3.G r1 rfl A3.m A3.k A3.b .nil pass0 (pa_cons (pv 3) (pa_cons (pv 14) (pa_cons (pv 5) pa_nil)))) pa_nil))))))))))), ?_⟩
    obtain ⟨rl, sl, h0, ⟨ts, hts, hA⟩, hP⟩ := id hW
    have g := ok.good
    have few := g.few
    have m8 := g.m8
    have m1 := g.m1
    obtain ⟨l, el1, el2, hl⟩ := ab_of hA
    have ll : l.length = W.beds.length := by rw [← el2, List.length_map]
    have hts : SqL K H rl (l.map fun x => V.ref x.1) := by
      rw [← el1, List.map_map] at hts
      exact hts
    have two : ∀ s, (l.map fun x => x.2.s).count s ≤ 2 := fun s => by
      have := g.two s
      unfold starts at this
      rw [← el2, List.map_map] at this
      exact this
    have gbl : ∀ x ∈ l, GoodBed W.many x.2 := fun x hx => g.bed _ (by rw [← el2]; exact List.mem_map_of_mem hx)
    obtain ⟨⟨t, b⟩, hi⟩ : ∃ x, l[i]? = some x := ⟨_, List.getElem?_eq_getElem (by omega)⟩
    have hb0 : W.beds[i]? = some b := by rw [← el2, List.getElem?_map, hi]; rfl
    have hbm := List.mem_of_getElem? hb0
    have gb := g.bed b hbm
    have ob := ok.rows.bed b hbm
    obtain ⟨x, y, q1, hx, hy⟩ := (show RowAt K H t b from hl _ (List.mem_of_getElem? hi))
    have hat : atI (l.map fun x => V.ref x.1) (i : Int) = some (.ref t) := at_k (by omega) (by rw [Int.toNat_natCast, List.getElem?_map, hi]; rfl)
    refine ⟨_, rfl, t0, _, rfl, h0, rfl, _, _, rfl, _, _, rfl, _, _, rfl, rfl, ?_⟩
    refine ⟨_, rfl, _, rfl, rl, _, _, _, rfl, rfl, hts, hat, t, _, rfl, q1, rfl, _, _, rfl, _, _, rfl, _, _, rfl, _, _, rfl, rfl, ?_⟩
    refine ⟨_, rfl, p, 5, rfl, hp, by decide, by decide, fun H1 k b1 w1 k0 k1 => ?_⟩
    have lo100 : Sz 100 b.lo := ob.lo.sz (by decide) (by decide) (by decide)
    have hi100 : Sz 100 b.hi := ob.hi.sz (by decide) (by decide) (by decide)
    have lb := ob.lt
    have up := ob.up
    have le := ob.le
    have kp1 := b1.keep hp
    have hx1 : PairAt K H1 x b.lo := kp1.tup hx
    have hy1 : PairAt K H1 y b.hi := kp1.tup hy
    have hP1 := hP.but b1 hp
    have hts1 : SqL K H1 rl (l.map fun x => V.ref x.1) := by
      have e : (l.map fun x => V.ref x.1) = ts.map V.ref := by rw [← el1, List.map_map]; rfl
      rw [e] at hts ⊢
      exact b1.seqR hp hts
    refine ⟨fun σ' N' => ∃ (v11 : Option V) (x' y' : Addr) (c : Bed), σ' = [some (.ref p), some (.ref t0), some (.int (i : Int)), some (.int (W.many : Int)), some (.ref rl), some (.ref sl), some (.int (c.s : Int)), some (.int (c.e : Int)), some (.ref x'), some (.ref y'), some (.int k), v11, none, none, none] ∧
      PairAt K N' x' c.lo ∧ PairAt K N' y' c.hi ∧ GoodBed W.many c ∧ (c.s = b.s ∨ ((l.take i ++ l.drop (i + 1)).map fun x => x.2.s).count c.s < 2) ∧ But p H N' ∧ SrcAt N' p, ?_, ?_⟩
    · refine ⟨_, rfl, rfl, _, rfl, ?_⟩
      refine ite2 (fun h => ?_) (fun h => ?_)
      · refine ⟨_, rfl, _, _, rfl, rfl, _, rfl, _, rfl, _, _, rfl, rfl, _, rfl, _, _, rfl, rfl, p, _, rfl, w1, by omega, by omega, fun N2 d b2 w2 d0 d1 => ⟨_, _, rfl, rfl, ?_⟩⟩
        have e7 : V.int ((b.s : Int) + 1 + d) = V.int (((b.s + 1 + d.toNat : Nat)) : Int) := by congr 1; omega
        have kp2 := b2.keep w1
        refine ⟨none, x, y, ⟨b.s, b.s + 1 + d.toNat, b.lo, b.hi⟩, ?_, kp2.tup hx1, kp2.tup hy1, ⟨by show b.s < b.s + 1 + d.toNat; omega, by show b.s + 1 + d.toNat < W.many; omega, lb, gb.slo, gb.shi⟩, .inl rfl, b1.trans b2, w2⟩
        show [some (V.ref p), some (V.ref t0), some (V.int (i : Int)), some (V.int (W.many : Int)), some (V.ref rl), some (V.ref sl), some (V.int (b.s : Int)), some (V.int ((b.s : Int) + 1 + d)), some (V.ref x), some (V.ref y), some (V.int k), none, none, none, none] = _
        rw [e7]
      refine ⟨_, rfl, rfl, _, rfl, ?_⟩
      refine ite2 (fun h => ?_) (fun h => ?_)
      · refine ⟨_, rfl, _, rfl, _, rfl, p, 9, rfl, w1, by decide, by decide, fun N2 d b2 w2 d0 d1 => ⟨_, _, rfl, rfl, (by show 2 ≤ sizeLine; decide), fun T1 hT1 => ?_⟩⟩
        obtain ⟨qq, hq, sq, _, qn⟩ := one_over (n := (1 + d).toNat) (by omega) (by omega) (s := -1) (.inr rfl)
        have e2 : [V.int (-1), V.int (1 + d)] = prV qq := by rw [hq, show (((1 + d).toNat : Nat) : Int) = 1 + d by omega]
        have s2 : Same N2 (upd N2 T1 (.tup [V.int (-1), V.int (1 + d)])) := same1 hT1
        have eT : (upd N2 T1 (.tup [V.int (-1), V.int (1 + d)]) : Hp) T1 = some (.tup (prV qq)) := by rw [← e2]; exact upd_same
        generalize upd N2 T1 (.tup [V.int (-1), V.int (1 + d)]) = N3 at *
        have kp2 := (b2.keep w1).trans (keep_same s2)
        have sz := sz_add lo100 sq
        refine ⟨x, T1, b.lo, qq, rfl, kp2.tup hx1, SqT.of eT, lo100.up (by decide), sq.up (by decide), fun r hr' => ?_⟩
        have s3 : Same N3 (upd N3 r (.tup (prV (b.lo + qq)))) := same1 hr'
        have er : (upd N3 r (.tup (prV (b.lo + qq))) : Hp) r = some (.tup (prV (b.lo + qq))) := upd_same
        generalize upd N3 r (.tup (prV (b.lo + qq))) = N4 at *
        have s23 := s2.trans s3
        exact ⟨none, r, y, ⟨b.s, b.e, b.lo + qq, b.hi⟩, rfl, SqT.of er, (kp2.trans (keep_same s3)).tup hy1, ⟨up, le, by have := qn rfl; show b.lo + qq < b.hi; grind, sz.up (by decide), gb.shi⟩, .inl rfl, b1.trans (b2.trans (same_but s23)), w2.same s23⟩
      refine ⟨_, rfl, rfl, _, rfl, ?_⟩
      refine ite2 (fun h => ?_) (fun h => ?_)
      · refine ⟨_, rfl, _, rfl, p, 9, rfl, w1, by decide, by decide, fun N2 d b2 w2 d0 d1 => ⟨_, _, rfl, rfl, (by show 2 ≤ sizeLine; decide), fun T1 hT1 => ?_⟩⟩
        obtain ⟨qq, hq, sq, qp, _⟩ := one_over (n := (1 + d).toNat) (by omega) (by omega) (s := 1) (.inl rfl)
        have e2 : [V.int 1, V.int (1 + d)] = prV qq := by rw [hq, show (((1 + d).toNat : Nat) : Int) = 1 + d by omega]
        have s2 : Same N2 (upd N2 T1 (.tup [V.int 1, V.int (1 + d)])) := same1 hT1
        have eT : (upd N2 T1 (.tup [V.int 1, V.int (1 + d)]) : Hp) T1 = some (.tup (prV qq)) := by rw [← e2]; exact upd_same
        generalize upd N2 T1 (.tup [V.int 1, V.int (1 + d)]) = N3 at *
        have kp2 := (b2.keep w1).trans (keep_same s2)
        have sz := sz_add hi100 sq
        refine ⟨y, T1, b.hi, qq, rfl, kp2.tup hy1, SqT.of eT, hi100.up (by decide), sq.up (by decide), fun r hr' => ?_⟩
        have s3 : Same N3 (upd N3 r (.tup (prV (b.hi + qq)))) := same1 hr'
        have er : (upd N3 r (.tup (prV (b.hi + qq))) : Hp) r = some (.tup (prV (b.hi + qq))) := upd_same
        generalize upd N3 r (.tup (prV (b.hi + qq))) = N4 at *
        have s23 := s2.trans s3
        exact ⟨none, x, r, ⟨b.s, b.e, b.lo, b.hi + qq⟩, rfl, (kp2.trans (keep_same s3)).tup hx1, SqT.of er, ⟨up, le, by have := qp rfl; show b.lo < b.hi + qq; grind, gb.slo, sz.up (by decide)⟩, .inl rfl, b1.trans (b2.trans (same_but s23)), w2.same s23⟩
      refine ⟨_, rfl, rfl, _, rfl, ?_⟩
      have lm : (l.map fun x => V.ref x.1).length = l.length := List.length_map ..
      have oth : (l.map fun x => V.ref x.1).take i ++ (l.map fun x => V.ref x.1).drop (i + 1) = (l.take i ++ l.drop (i + 1)).map fun x => V.ref x.1 := by rw [List.map_append, List.map_take, List.map_drop]
      have hoR : ∀ z ∈ l.take i ++ l.drop (i + 1), RowAt K H1 z.1 z.2 := fun z hz => kp1.row (hl z (by
        rcases List.mem_append.mp hz with e | e
        · exact List.mem_of_mem_take e
        · exact List.mem_of_mem_drop e))
      have lo_ : (l.take i ++ l.drop (i + 1)).length ≤ 12 := by rw [List.length_append, List.length_take, List.length_drop]; omega
      refine ite2 (fun h => ?_) (fun h => ?_)
      · refine ⟨_, rfl, _, rfl, _, rfl, rl, _, rfl, hts1, fun L1 hL1 => ?_⟩
        rw [cut_to]
        have s2 := same1 (o := .lst ((l.map fun x => V.ref x.1).take i)) hL1
        have eL1 : (upd H1 L1 (.lst ((l.map fun x => V.ref x.1).take i)) : Hp) L1 = some (.lst ((l.map fun x => V.ref x.1).take i)) := upd_same
        generalize upd H1 L1 (.lst ((l.map fun x => V.ref x.1).take i)) = N1 at *
        refine ⟨_, rfl, _, rfl, _, _, rfl, rfl, _, rfl, rl, _, rfl, s2.seq hts1, fun L2 hL2 => ?_⟩
        rw [show (i : Int) + 1 = ((i + 1 : Nat) : Int) from by omega, cut_from (by rw [lm]; omega)]
        have s3 := same1 (o := .lst ((l.map fun x => V.ref x.1).drop (i + 1))) hL2
        have eL2 : (upd N1 L2 (.lst ((l.map fun x => V.ref x.1).drop (i + 1))) : Hp) L2 = some (.lst ((l.map fun x => V.ref x.1).drop (i + 1))) := upd_same
        generalize upd N1 L2 (.lst ((l.map fun x => V.ref x.1).drop (i + 1))) = N2 at *
        refine ⟨L1, L2, _, _, rfl, rfl, s3 _ _ eL1, eL2, ?_, fun L3 hL3 => ?_⟩
        · rw [← List.length_append, oth, List.length_map]
          exact Nat.le_trans lo_ (by decide)
        rw [oth]
        have s4 := same1 (o := .lst ((l.take i ++ l.drop (i + 1)).map fun x => V.ref x.1)) hL3
        have eL3 : (upd N2 L3 (.lst ((l.take i ++ l.drop (i + 1)).map fun x => V.ref x.1)) : Hp) L3 = some (.lst ((l.take i ++ l.drop (i + 1)).map fun x => V.ref x.1)) := upd_same
        generalize upd N2 L3 (.lst ((l.take i ++ l.drop (i + 1)).map fun x => V.ref x.1)) = N3 at *
        have s24 := s2.trans (s3.trans s4)
        generalize l.take i ++ l.drop (i + 1) = o at *
        refine ⟨L3, rfl, ⟨_, SqL.of eL3⟩, fun D hD => ?_⟩
        refine lc_list (K := K) (a := L3) (xs := o.map fun x => V.ref x.1) (fun j M => ∃ qs : List Addr, M D = some (.lst (qs.map V.ref)) ∧ qs.length = ((o.take j).map fun x => x.2.s).count (b.s - 1) ∧ Same N3 M) ⟨[], upd_same, rfl, same1 hD⟩ ?_ ?_ ?_
        · rintro j M _ ⟨_, _, _, sM⟩
          exact SqL.of (sM _ _ eL3)
        · rintro j z M hz ⟨qs, eD, lq, sM⟩
          rw [List.getElem?_map] at hz
          obtain ⟨⟨t', b'⟩, ht, rfl⟩ := Option.map_eq_some_iff.mp hz
          have jl : j < o.length := (List.getElem?_eq_some_iff.mp ht).1
          obtain ⟨_, _, q1', _, _⟩ := (show RowAt K H1 t' b' from hoR _ (List.mem_of_getElem? ht)).mono (s24.trans sM)
          have nxt : ((o.take (j + 1)).map fun x => x.2.s).count (b.s - 1) = ((o.take j).map fun x => x.2.s).count (b.s - 1) + if b'.s = b.s - 1 then 1 else 0 := by
            rw [List.take_add_one, ht, List.map_append, List.count_append]
            show _ + ([b'.s].count (b.s - 1)) = _
            rw [List.count_cons, List.count_nil]
            by_cases c : b'.s = b.s - 1
            · simp [c]
            · simp [c]
          refine ⟨rfl, _, rfl, t', _, _, _, rfl, rfl, q1', at_k (by decide) rfl, _, rfl, _, _, rfl, rfl, _, _, rfl, rfl, _, rfl, ?_⟩
          refine ite2 (fun h => ?_) (fun h => ?_)
          · have h : ((b'.s : Nat) : Int) = if (b.s : Int) - 1 > 0 then (b.s : Int) - 1 else 0 := V.int.inj (of_decide_eq_true h)
            have h' : b'.s = b.s - 1 := by split at h <;> omega
            refine ⟨_, rfl, _, eD, ?_, qs ++ [t'], by rw [List.map_append]; exact upd_same, ?_, fun a o ea => ?_⟩
            · rw [List.length_map, lq]
              refine Nat.lt_of_le_of_lt List.count_le_length ?_
              rw [List.length_map, List.length_take]
              exact Nat.lt_of_le_of_lt (Nat.min_le_left _ _) (Nat.lt_of_lt_of_le (show j < 12 by omega) (show 12 ≤ sizeLine by decide))
            · rw [List.length_append, lq, nxt, if_pos h']
              rfl
            · rw [upd_ne (ne_of_none ea hD)]
              exact sM _ _ ea
          · have h' : ¬ b'.s = b.s - 1 := fun z => h (decide_eq_true (by
              congr 1
              split <;> omega))
            refine ⟨qs, eD, ?_, sM⟩
            rw [lq, nxt, if_neg h']
            rfl
        · rintro M ⟨qs, eD, lq, sM⟩
          rw [List.length_map, List.take_length] at lq
          have s2M := s24.trans sM
          have kM := keep_same s2M
          refine ⟨_, rfl, D, _, rfl, .inl (SqL.of eD), _, _, rfl, rfl, _, rfl, ?_⟩
          refine ite2 (fun h => ?_) (fun h => ?_)
          · have h : (((qs.map V.ref).length : Nat) : Int) < 2 := of_decide_eq_true h
            rw [List.length_map] at h
            refine ⟨_, rfl, _, _, rfl, rfl, _, _, rfl, some (.ref D), x, y, ⟨b.s - 1, b.e, b.lo, b.hi⟩, ?_, kM.tup hx1, kM.tup hy1, ⟨by show b.s - 1 < b.e; omega, le, lb, gb.slo, gb.shi⟩, .inr (show (o.map fun x => x.2.s).count (b.s - 1) < 2 by omega), b1.trans (same_but s2M), w1.same s2M⟩
            have e6 : V.int (if (b.s : Int) - 1 > 0 then (b.s : Int) - 1 else 0) = V.int ((b.s - 1 : Nat) : Int) := by
              congr 1
              split <;> omega
            show [some (V.ref p), some (V.ref t0), some (V.int (i : Int)), some (V.int (W.many : Int)), some (V.ref rl), some (V.ref sl), some (V.int (if (b.s : Int) - 1 > 0 then (b.s : Int) - 1 else 0)), some (V.int (b.e : Int)), some (V.ref x), some (V.ref y), some (V.int k), some (V.ref D), none, none, none] = _
            rw [e6]
          · exact ⟨_, rfl, some (.ref D), x, y, b, rfl, kM.tup hx1, kM.tup hy1, gb, .inl rfl, b1.trans (same_but s2M), w1.same s2M⟩
      · refine ⟨_, rfl, _, rfl, _, rfl, rl, _, rfl, hts1, fun L1 hL1 => ?_⟩
        rw [cut_to]
        have s2 := same1 (o := .lst ((l.map fun x => V.ref x.1).take i)) hL1
        have eL1 : (upd H1 L1 (.lst ((l.map fun x => V.ref x.1).take i)) : Hp) L1 = some (.lst ((l.map fun x => V.ref x.1).take i)) := upd_same
        generalize upd H1 L1 (.lst ((l.map fun x => V.ref x.1).take i)) = N1 at *
        refine ⟨_, rfl, _, rfl, _, _, rfl, rfl, _, rfl, rl, _, rfl, s2.seq hts1, fun L2 hL2 => ?_⟩
        rw [show (i : Int) + 1 = ((i + 1 : Nat) : Int) from by omega, cut_from (by rw [lm]; omega)]
        have s3 := same1 (o := .lst ((l.map fun x => V.ref x.1).drop (i + 1))) hL2
        have eL2 : (upd N1 L2 (.lst ((l.map fun x => V.ref x.1).drop (i + 1))) : Hp) L2 = some (.lst ((l.map fun x => V.ref x.1).drop (i + 1))) := upd_same
        generalize upd N1 L2 (.lst ((l.map fun x => V.ref x.1).drop (i + 1))) = N2 at *
        refine ⟨L1, L2, _, _, rfl, rfl, s3 _ _ eL1, eL2, ?_, fun L3 hL3 => ?_⟩
        · rw [← List.length_append, oth, List.length_map]
          exact Nat.le_trans lo_ (by decide)
        rw [oth]
        have s4 := same1 (o := .lst ((l.take i ++ l.drop (i + 1)).map fun x => V.ref x.1)) hL3
        have eL3 : (upd N2 L3 (.lst ((l.take i ++ l.drop (i + 1)).map fun x => V.ref x.1)) : Hp) L3 = some (.lst ((l.take i ++ l.drop (i + 1)).map fun x => V.ref x.1)) := upd_same
        generalize upd N2 L3 (.lst ((l.take i ++ l.drop (i + 1)).map fun x => V.ref x.1)) = N3 at *
        have s24 := s2.trans (s3.trans s4)
        have sub : (l.take i ++ l.drop (i + 1)).Sublist l := by
          rw [← List.eraseIdx_eq_take_drop_succ]
          exact List.eraseIdx_sublist l i
        generalize l.take i ++ l.drop (i + 1) = o at *
        have rg : RowsG W.many (o.map Prod.snd) := g.rowsG.sub (by rw [← el2]; exact sub.map _)
        have hR : RowsAt K N3 L3 (o.map Prod.snd) := ⟨o.map Prod.fst, SqL.of (by rw [List.map_map]; exact eL3), ab_all2 fun z hz => (hoR z hz).mono s24⟩
        refine ⟨_, rfl, _, rfl, _, rfl, _, rfl, _, rfl, W.many, L3, sl, o.map Prod.snd, W.parts, rfl, hR, hP1.mono s24, m8, by rw [List.length_map]; exact lo_, good_self g, fun N4 r qss s5 nr hq lq gq => ⟨(by show 3 ≤ sizeLine; decide), fun u hu => ?_⟩⟩
        have s6 := same1 (o := .tup [V.int (W.many : Int), V.ref L3, V.ref r]) hu
        have s26 := s24.trans (s5.trans s6)
        exact q _ u ⟨W.many, o.map Prod.snd, qss⟩ (butx_but (b1.trans (same_but s26))) (w1.same s26) ((tabs_but hT b1 hp).ext s26) ⟨L3, r, SqT.of upd_same, hR.mono (s5.trans s6), hq.mono s6⟩ (rg.web m1 m8 lq gq)
    · rintro σ' N' ⟨v11, x', y', c, rfl, hx', hy', gc, hc, bN, wN⟩
      have kpN := bN.keep hp
      have htsN : SqL K N' rl (l.map fun x => V.ref x.1) := by
        have e : (l.map fun x => V.ref x.1) = ts.map V.ref := by rw [← el1, List.map_map]; rfl
        rw [e] at hts ⊢
        exact bN.seqR hp hts
      have hPN := hP.but bN hp
      have hTN := tabs_but hT bN hp
      have lm : (l.map fun x => V.ref x.1).length = l.length := List.length_map ..
      refine ⟨_, rfl, _, rfl, _, rfl, rl, _, rfl, htsN, fun L1 hL1 => ?_⟩
      rw [cut_to]
      have s2 := same1 (o := .lst ((l.map fun x => V.ref x.1).take i)) hL1
      have eL1 : (upd N' L1 (.lst ((l.map fun x => V.ref x.1).take i)) : Hp) L1 = some (.lst ((l.map fun x => V.ref x.1).take i)) := upd_same
      generalize upd N' L1 (.lst ((l.map fun x => V.ref x.1).take i)) = N1 at *
      refine ⟨_, rfl, _, rfl, _, rfl, _, rfl, (by show 4 ≤ sizeLine; decide), fun u hu => ⟨(by show 1 ≤ sizeLine; decide), fun L0 hL0 => ?_⟩⟩
      have s3 := same1 (o := .tup [V.int (c.s : Int), V.int (c.e : Int), V.ref x', V.ref y']) hu
      have eu : (upd N1 u (.tup [V.int (c.s : Int), V.int (c.e : Int), V.ref x', V.ref y']) : Hp) u = some (.tup [V.int (c.s : Int), V.int (c.e : Int), V.ref x', V.ref y']) := upd_same
      generalize upd N1 u (.tup [V.int (c.s : Int), V.int (c.e : Int), V.ref x', V.ref y']) = N2 at *
      have s4 := same1 (o := .lst [V.ref u]) hL0
      have eL0 : (upd N2 L0 (.lst [V.ref u]) : Hp) L0 = some (.lst [V.ref u]) := upd_same
      generalize upd N2 L0 (.lst [V.ref u]) = N3 at *
      have s34 := s3.trans s4
      refine ⟨L1, L0, _, _, rfl, rfl, s34 _ _ eL1, eL0, ?_, fun L2 hL2 => ?_⟩
      · rw [List.length_take, lm]
        exact Nat.le_trans (show min i l.length + 1 ≤ 13 by omega) (show 13 ≤ sizeLine by decide)
      have s5 := same1 (o := .lst ((l.map fun x => V.ref x.1).take i ++ [V.ref u])) hL2
      have eL2 : (upd N3 L2 (.lst ((l.map fun x => V.ref x.1).take i ++ [V.ref u])) : Hp) L2 = some (.lst ((l.map fun x => V.ref x.1).take i ++ [V.ref u])) := upd_same
      generalize upd N3 L2 (.lst ((l.map fun x => V.ref x.1).take i ++ [V.ref u])) = N4 at *
      have s25 := s2.trans (s34.trans s5)
      refine ⟨_, rfl, _, rfl, _, _, rfl, rfl, _, rfl, rl, _, rfl, s25.seq htsN, fun L3 hL3 => ?_⟩
      rw [show (i : Int) + 1 = ((i + 1 : Nat) : Int) from by omega, cut_from (by rw [lm]; omega)]
      have s6 := same1 (o := .lst ((l.map fun x => V.ref x.1).drop (i + 1))) hL3
      have eL3 : (upd N4 L3 (.lst ((l.map fun x => V.ref x.1).drop (i + 1))) : Hp) L3 = some (.lst ((l.map fun x => V.ref x.1).drop (i + 1))) := upd_same
      generalize upd N4 L3 (.lst ((l.map fun x => V.ref x.1).drop (i + 1))) = N5 at *
      have oth : (l.map fun x => V.ref x.1).take i ++ [V.ref u] ++ (l.map fun x => V.ref x.1).drop (i + 1) = (l.take i ++ [(u, c)] ++ l.drop (i + 1)).map fun x => V.ref x.1 := by
        rw [List.map_append, List.map_append, List.map_take, List.map_drop]
        rfl
      have lo_ : (l.take i ++ [(u, c)] ++ l.drop (i + 1)).length ≤ 12 := by
        rw [List.length_append, List.length_append, List.length_take, List.length_drop]
        show min i l.length + 1 + (l.length - (i + 1)) ≤ 12
        omega
      refine ⟨L2, L3, _, _, rfl, rfl, s6 _ _ eL2, eL3, ?_, fun L4 hL4 => ?_⟩
      · rw [← List.length_append, oth, List.length_map]
        exact Nat.le_trans lo_ (by decide)
      rw [oth]
      have tw := swap_two (u := u) hi two hc
      have s26 := s25.trans s6
      have mem : ∀ z ∈ l.take i ++ [(u, c)] ++ l.drop (i + 1), GoodBed W.many z.2 ∧ RowAt K N5 z.1 z.2 := fun z hz => by
        rcases List.mem_append.mp hz with e | e
        · rcases List.mem_append.mp e with e | e
          · exact ⟨gbl z (List.mem_of_mem_take e), (kpN.row (hl z (List.mem_of_mem_take e))).mono s26⟩
          · rw [List.mem_singleton.mp e]
            exact ⟨gc, x', y', SqT.of ((s4.trans (s5.trans s6)) _ _ eu), Same.tup s26 hx', Same.tup s26 hy'⟩
        · exact ⟨gbl z (List.mem_of_mem_drop e), (kpN.row (hl z (List.mem_of_mem_drop e))).mono s26⟩
      generalize l.take i ++ [(u, c)] ++ l.drop (i + 1) = o at *
      have s7 := same1 (o := .lst (o.map fun x => V.ref x.1)) hL4
      have eL4 : (upd N5 L4 (.lst (o.map fun x => V.ref x.1)) : Hp) L4 = some (.lst (o.map fun x => V.ref x.1)) := upd_same
      generalize upd N5 L4 (.lst (o.map fun x => V.ref x.1)) = N6 at *
      have s27 := s26.trans s7
      have rg : RowsG W.many ((o.mergeSort byS).map Prod.snd) := RowsG.sort lo_ (fun z hz => (mem z hz).1) tw
      refine ⟨L4, o.map abB, rfl, by rw [List.map_map]; exact SqL.of eL4, hTN.ext s27, ab_alike, ab_sortable, ab_depth, fun H7 hE hT7 => ⟨fun z hz => ?_, fun d hd => ?_⟩⟩
      · obtain ⟨⟨t', b'⟩, hy, rfl⟩ := List.mem_map.mp hz
        obtain ⟨_, _, q1', _, _⟩ := ((mem _ hy).2).mono s7
        exact krun_int (lamK_by (sc := defScope d_law_row_changed) (by decide +kernel)) (by decide) (exn_tup hE q1') (at_k (by decide) rfl)
      · rw [ab_sort]
        have pm := ab_perm o
        have e12 : ((o.mergeSort byS).map Prod.snd).length ≤ 12 := rg.few
        have memS : ∀ z ∈ o.mergeSort byS, RowAt K H7 z.1 z.2 := fun z hz => exn_row hE (((mem z (pm.mem_iff.mp hz)).2).mono s7)
        generalize o.mergeSort byS = os at *
        have s8 := same1 (o := .lst (os.map fun x => V.ref x.1)) hd
        have ed : (upd H7 d (.lst (os.map fun x => V.ref x.1)) : Hp) d = some (.lst (os.map fun x => V.ref x.1)) := upd_same
        have hT8 := hT7.ext s8
        generalize upd H7 d (.lst (os.map fun x => V.ref x.1)) = H8 at *
        have x8 : ExtN N' H8 := (ExtN.of s27).trans (hE.trans (ExtN.of s8))
        have hR : RowsAt K H8 d (os.map Prod.snd) := ⟨os.map Prod.fst, SqL.of (by rw [List.map_map]; exact ed), ab_all2 fun z hz => (memS z hz).mono s8⟩
        refine ⟨_, rfl, _, rfl, _, rfl, _, rfl, _, rfl, W.many, d, sl, os.map Prod.snd, W.parts, rfl, hR, exn_wparts x8 hPN, m8, e12, good_self g, fun N9 r qss s9 nr hq lq gq => ⟨(by show 3 ≤ sizeLine; decide), fun u' hu' => ?_⟩⟩
        have s10 := same1 (o := .tup [V.int (W.many : Int), V.ref d, V.ref r]) hu'
        exact q _ u' ⟨W.many, os.map Prod.snd, qss⟩ (((butx_but bN).ext x8).ext (ExtN.of (s9.trans s10))) ((exn_src x8 wN).same (s9.trans s10)) (hT8.ext (s9.trans s10)) ⟨d, r, SqT.of upd_same, hR.mono (s9.trans s10), hq.mono s10⟩ (rg.web m1 m8 lq gq)
end
end K04

namespace K04
open PySem PySem.Spec PyProof.Rows L2
/-! ### parts otherwise -/
theorem catA_to {K : PySem.W.Frag} {H : Hp} {a b : Addr} {xs ys : List V} {Q : VK} (ha : SqT K H a xs) (hb : SqT K H b ys) (l : xs.length + ys.length ≤ sizeLine) (k : ∀ (H' : Hp) (r : Addr), Same H H' → SqT K H' r (xs ++ ys) → Q (.ref r) H') : rCatA K (.ref a) (.ref b) H Q :=
  ⟨a, b, xs, ys, rfl, rfl, ha, hb, l, fun z => k H b (Same.refl _) (by rw [z]; exact hb), fun _ z => k H a (Same.refl _) (by rw [z, List.append_nil]; exact ha), fun _ _ p hp => k _ p (same1 hp) (SqT.of upd_same)⟩
theorem slA_to {K : PySem.W.Frag} {H : Hp} {a : Addr} {xs : List V} {lo hi : Option Int} {Q : VK} (ha : SqT K H a xs) (k : ∀ (H' : Hp) (r : Addr), Same H H' → SqT K H' r (cutV xs lo hi) → Q (.ref r) H') : rSlA K (.ref a) lo hi H Q :=
  ⟨a, xs, rfl, ha, fun z => k H a (Same.refl _) (by
    unfold cutV
    rw [z.1, z.2, List.drop_zero, Nat.sub_zero, List.take_length]
    exact ha), fun _ p hp => k _ p (same1 hp) (SqT.of upd_same)⟩
theorem All2.dropN {α β : Type} {R : α → β → Prop} {as : List α} {bs : List β} (h : All2 R as bs) (n : Nat) : All2 R (as.drop n) (bs.drop n) :=
  ⟨by rw [List.length_drop, List.length_drop, h.len], fun i a b ha hb => by
    rw [List.getElem?_drop] at ha hb
    exact h.all _ a b ha hb⟩
theorem one_set {α : Type} {l : List α} {z : Nat} (h : z < l.length) (a : α) : l.take z ++ [a] ++ l.drop (z + 1) = l.set z a := by
  rw [List.set_eq_take_append_cons_drop, if_pos h, List.append_assoc]
  rfl
theorem set_web {W : WebV} (g : GoodWeb W) {z : Nat} {ps qs : List Nat} (h : W.parts[z]? = some ps) (k : GoodParts ps.length qs) : GoodWeb ⟨W.many, W.beds, W.parts.set z qs⟩ := by
  have zl := (List.getElem?_eq_some_iff.mp h).1
  refine g.rowsG.web g.m1 g.m8 (by rw [List.length_set]; exact g.plen) fun i ps' e => ?_
  by_cases c : z = i
  · subst c
    rw [List.getElem?_set_self zl] at e
    obtain rfl := Option.some.inj e
    have := (g.part z ps h).len
    unfold starts at this
    rw [← this]
    exact k
  · rw [List.getElem?_set_ne c] at e
    exact g.part i ps' e
theorem row_le {ps : List Nat} {sp v : Nat} (h : sp < ps.length) (n9 : ∀ a ∈ ps, a ≤ 9) (v9 : v ≤ 9) : (ps.take sp ++ [v] ++ ps.drop (sp + 1)).length = ps.length ∧ ∀ a ∈ ps.take sp ++ [v] ++ ps.drop (sp + 1), a ≤ 9 := by
  constructor
  · rw [one_set h, List.length_set]
  · intro a ha
    rcases List.mem_append.mp ha with e | e
    · rcases List.mem_append.mp e with e | e
      · exact n9 a (List.mem_of_mem_take e)
      · rw [List.mem_singleton.mp e]
        exact v9
    · exact n9 a (List.mem_of_mem_drop e)
theorem row_map (ps : List Nat) (sp v : Nat) : (ps.map natV).take sp ++ [V.int (v : Int)] ++ (ps.map natV).drop (sp + 1) = (ps.take sp ++ [v] ++ ps.drop (sp + 1)).map natV := by
  rw [List.map_append, List.map_append, List.map_take, List.map_drop]
  rfl
def spParts04 (K : PySem.W.Frag) : Sp := fun vs H Q _ => ∃ (p t : Addr) (W : WebV), vs = [.ref p, .ref t] ∧ SrcAt H p ∧ WorldAt K H t W ∧ GoodWeb W ∧ ∀ (H' : Hp) (u : Addr) (Z : WebV), But p H H' → SrcAt H' p → WorldAt K H' u Z → GoodWeb Z → Q (.ref u) H'
section
variable {P : Program} {w : World} {K : PySem.W.Frag} {mg : Str → Option Value} {base : Heap}
abbrev pcN : List Str := ["source", "world", "many", "rows", "shared", "some", "place", "spot", "row"]
theorem scPc : FnScope pcN ["source", "world"] (defScope d_law_parts_changed) := ⟨rfl, rfl, rfl, by decide +kernel, rfl, by decide +kernel, by decide +kernel⟩
theorem ok_parts04 {f f1 f2 C : Addr} {fd fd1 fd2 : FuncData} (F : Fun K "_law_parts_changed" "_law_parts_changed" d_law_parts_changed f fd) (Y : TxtW mg C) (hrange : mg "range" = none) (hsum : mg "sum" = none)
    (A1 : At P w K mg base CX0 2 "_law_next" ["source", "many"] spNext f1 fd1) (A2 : At P w K mg base CX0 3 "_law_pick" ["source", "some"] (spPick K) f2 fd2) : FnOk P w K mg base CX0 4 f fd ["source", "world"] (spParts04 K) := by
  refine F.ok scPc (fun vs H Q E h => ?_) (fun cdv A outer s H vs Q E hr h => ?_)
  · obtain ⟨_, _, _, rfl, _⟩ := h
    rfl
  · obtain ⟨p, t0, W, rfl, hp, hW, g, q⟩ := h
    have r2 : Room 2 _ := hr.mono (by decide)
    refine ⟨_, pss_cons (ps_asg (pv 1) (pg_tup (by rfl) (pgs_cons (pg_name (i := 2) scPc.nd rfl (.inl rfl)) (pgs_cons (pg_name (i := 3) scPc.nd rfl (.inl rfl)) (pgs_cons (pg_name (i := 4) scPc.nd rfl (.inr rfl)) pgs_nil)))))
      (pss_cons (ps_setLc (i := 5) (own := [("place", 6)]) (g := gName 6) (by rfl) scPc.nd rfl rfl (sw_true rfl rfl rfl (by decide +kernel)) (pi_range1 (by rfl) hrange (pa_cons (pv 2) pa_nil)) (blkOk_by (own := [("place", 6)]) (N := pcN) (sc := defScope d_law_parts_changed) (by decide +kernel)) (fun _ _ _ _ _ => pg_name (i := 6) scPc.nd rfl (.inl rfl))
          (fun _ _ _ _ _ => pts_one (pt_cmpR (show OpR _ _ (rNeD K) from op_neD hr.units) (pe_ix (show IxR _ (rIxL K) from ix_list) (pv 4) (pv 6) (fun _ _ => rfl)) (pe_tup pa_nil) (nomark _))) (fun _ _ _ _ _ => pv 6))
      (pss_cons (ps_if (pt_cmpR (op_eqD hr.units) (pv 5) (pe_lst pa_nil) (nomark _)) (pss_one (ps_ret (pv 1))) pss_nil)
      (pss_cons (ps_set (i := 6) scPc.nd rfl (Or.inl rfl) (pe_call A2.G hr rfl A2.m A2.k A2.b .nil pass0 (pa_cons (pv 0) (pa_cons (pv 5) pa_nil))))
      (pss_cons (ps_set (i := 7) scPc.nd rfl (Or.inl rfl) (pe_call A1.G r2 rfl A1.m A1.k A1.b .nil pass0 (pa_cons (pv 0) (pa_cons (pe_callB call_len_seq (by rfl) Y.len PySem.boot_len (pa_cons (pe_ix ix_list (pv 4) (pv 6) (fun _ _ => rfl)) pa_nil)) pa_nil))))
      (pss_cons (ps_set (i := 8) scPc.nd rfl (Or.inl rfl) (pe_op op_catA (pe_op op_catA (pe_slice sl_tupA (pe_ix ix_list (pv 4) (pv 6) (fun _ _ => rfl)) po_none (po_some (pv 7))) (pe_tup (pa_cons (pe_call A1.G r2 rfl A1.m A1.k A1.b .nil pass0 (pa_cons (pv 0) (pa_cons pe_int pa_nil))) pa_nil)))
          (pe_slice sl_tupA (pe_ix ix_list (pv 4) (pv 6) (fun _ _ => rfl)) (po_some (pe_op op_add (pv 7) pe_int)) po_none)))
      (C8.pss_cut (ps_if (pt_cmpR op_eq (pe_callB (cr_sumT rfl) (by rfl) hsum (by decide +kernel) (pa_cons (pv 8) pa_nil)) pe_int (nomark _))
          (pss_one (ps_set (i := 8) scPc.nd rfl (Or.inl rfl) (pe_op op_catA (pe_op op_catA (pe_slice sl_tupA (pv 8) po_none (po_some (pv 7))) (pe_tup (pa_cons (pe_op op_add pe_int (pe_call A1.G r2 rfl A1.m A1.k A1.b .nil pass0 (pa_cons (pv 0) (pa_cons pe_int pa_nil)))) pa_nil)))
            (pe_slice sl_tupA (pv 8) (po_some (pe_op op_add (pv 7) pe_int)) po_none)))) pss_nil)
      (pss_one (ps_ret (pe_tup (pa_cons (pv 2) (pa_cons (pv 3) (pa_cons (pe_op op_cat (pe_op op_cat (pe_slice sl_list (pv 4) po_none (po_some (pv 6))) (pe_lst (pa_cons (pv 8) pa_nil))) (pe_slice sl_list (pv 4) (po_some (pe_op op_add (pv 6) pe_int)) po_none)) pa_nil)))))))))))), ?_⟩
    obtain ⟨rl, sl, h0, hR, ⟨us, hus, hU⟩⟩ := id hW
    have m8 := g.m8
    have plen := g.plen
    have lus := hU.len
    refine ⟨_, rfl, t0, _, rfl, h0, rfl, _, _, rfl, _, _, rfl, _, _, rfl, rfl, ?_⟩
    refine ⟨_, rfl, _, rfl, by omega, by omega, fun D hD => ?_⟩
    have nD := hp.ne hD
    refine lc_range (lo := 0) (n := ((W.many : Int)).toNat) (fun i N => ∃ zs : List Nat, N D = some (.lst (zs.map natV)) ∧ zs.length ≤ i ∧ (∀ z ∈ zs, ∃ ps, W.parts[z]? = some ps ∧ ps ≠ []) ∧ Same H N) ⟨[], upd_same, Nat.le_refl _, (fun z h => nomatch h), same1 hD⟩ ?_ ?_
    · rintro i N hi ⟨zs, eD, lz, hz, sN⟩
      have iu : i < us.length := by omega
      have ip : i < W.parts.length := by omega
      have hu := hU.all i _ _ (List.getElem?_eq_getElem iu) (List.getElem?_eq_getElem ip)
      have hpi : W.parts[i]? = some W.parts[i] := List.getElem?_eq_getElem ip
      have few := (good_self g _ (List.getElem_mem ip)).few
      generalize W.parts[i] = ps at *
      refine ⟨rfl, _, rfl, _, rfl, sl, _, _, _, rfl, rfl, sN.seq hus, at_k (by omega) (by rw [show (0 + (i : Int)).toNat = i by omega, List.getElem?_map, List.getElem?_eq_getElem iu]; rfl), (by show 0 ≤ sizeLine; decide), fun E0 hE0 => ?_⟩
      have s1 := same1 (o := .tup []) hE0
      have eE : (upd N E0 (.tup []) : Hp) E0 = some (.tup []) := upd_same
      generalize upd N E0 (.tup []) = N1 at *
      have c1 : SeqAt.shaped (pnd ps) = true := by
        unfold pnd
        exact shaped_ofT (can_ints _) (Nat.le_trans (dep_ints _) (by decide))
      refine ⟨_, _, dp_part (Same.tup (sN.trans s1) hu), dp_part (ps := []) (SqT.of eE), c1, by decide +kernel, _, rfl, ?_⟩
      rw [eqv_pnd]
      have eD1 := s1 _ _ eD
      by_cases c : ps = []
      · rw [decide_eq_true c]
        exact iteF ⟨zs, eD1, Nat.le_succ_of_le lz, hz, sN.trans s1⟩
      · rw [decide_eq_false c]
        refine iteT ⟨_, rfl, _, eD1, ?_, zs ++ [i], ?_, by rw [List.length_append]; exact Nat.succ_le_succ lz, fun z hz' => ?_, fun a o ea => ?_⟩
        · rw [List.length_map]
          exact Nat.lt_of_le_of_lt lz (Nat.lt_of_lt_of_le (show i < 8 by omega) (show 8 ≤ sizeLine by decide))
        · rw [List.map_append, upd_same]
          show some (HO.lst (_ ++ [V.int (0 + (i : Int))])) = some (HO.lst (_ ++ [V.int (i : Int)]))
          rw [Int.zero_add]
        · rcases List.mem_append.mp hz' with e | e
          · exact hz z e
          · rw [List.mem_singleton.mp e]
            exact ⟨ps, hpi, c⟩
        · rw [upd_ne (ne_of_none ea hD)]
          exact s1 _ _ (sN _ _ ea)
    · rintro N ⟨zs, eD, lz, hz, sN⟩
      rw [Int.toNat_natCast] at lz
      refine ⟨_, rfl, (by show 0 ≤ sizeLine; decide), fun E0 hE0 => ?_⟩
      have s1 := same1 (o := .lst []) hE0
      have eE : (upd N E0 (.lst []) : Hp) E0 = some (.lst []) := upd_same
      generalize upd N E0 (.lst []) = N1 at *
      have eD1 := s1 _ _ eD
      have sH1 := sN.trans s1
      have eq0 : PyData.eqv (.list ((zs.map fun n : Nat => (n : Int)).map PyData.int)) (.list (([] : List Int).map PyData.int)) = decide (zs = []) := by
        rw [show PyData.eqv (.list ((zs.map fun n : Nat => (n : Int)).map PyData.int)) (.list (([] : List Int).map PyData.int)) = PyData.eqvAll ((zs.map fun n : Nat => (n : Int)).map PyData.int) (([] : List Int).map PyData.int) from by simp only [PyData.eqv], eqvL_ints]
        exact decide_eq_decide.mpr (by simp)
      have eD2 := eD1
      rw [natV_map] at eD2
      refine ⟨_, _, .lst (SqL.of eD2) (dps_ints _), .lst (SqL.of (xs := ([] : List Int).map V.int) eE) (dps_ints _), shaped_of (can_ints _) (Nat.le_trans (dep_ints _) (by decide)), shaped_of (can_ints _) (Nat.le_trans (dep_ints _) (by decide)), _, rfl, ?_⟩
      rw [eq0]
      by_cases cz : zs = []
      · rw [decide_eq_true cz]
        exact iteT ⟨_, rfl, q N1 t0 W (same_but sH1) (hp.same sH1) (hW.mono sH1) g⟩
      · rw [decide_eq_false cz]
        refine iteF ?_
        have w1 := hp.same sH1
        have z0 : 0 < zs.length := by
          cases zs with
          | nil => exact absurd rfl cz
          | cons a r => simp
        refine ⟨_, rfl, _, rfl, p, D, false, zs.map natV, rfl, w1, SqL.of eD1, fun H' b' => SqL.of (b' _ _ nD eD1), by rw [List.length_map]; exact z0, by rw [List.length_map]; omega, fun H2 x b2 w2 hx => ?_⟩
        obtain ⟨z, hzm, rfl⟩ := List.mem_map.mp hx
        obtain ⟨ps, hps, pne⟩ := hz z hzm
        obtain ⟨zp, _⟩ := List.getElem?_eq_some_iff.mp hps
        have zu : z < us.length := by omega
        have bH2 : But p H H2 := (same_but sH1).trans b2
        have gp := g.part z ps hps
        have few := gp.few
        have nine := gp.le
        have gl := gp.len
        have hus2 : SqL K H2 sl (us.map V.ref) := bH2.seqR hp hus
        have hu0 := hU.all z _ _ (List.getElem?_eq_getElem zu) hps
        have hatz : atI (us.map V.ref) ((z : Nat) : Int) = some (V.ref us[z]) := at_k (by omega) (by rw [Int.toNat_natCast, List.getElem?_map, List.getElem?_eq_getElem zu]; rfl)
        have hu2 : PartsAt K H2 us[z] ps := (bH2.keep hp).tup hu0
        generalize us[z] = u0 at *
        have p0 : 0 < ps.length := by
          cases ps with
          | nil => exact absurd rfl pne
          | cons a r => simp
        refine ⟨_, rfl, _, rfl, _, rfl, sl, _, _, _, rfl, rfl, hus2, hatz, u0, _, rfl, .inr hu2, p, _, rfl, w2, by rw [List.length_map]; omega, by rw [List.length_map]; omega, fun H3 d b3 w3 d0 d1 => ?_⟩
        rw [List.length_map] at d1
        obtain ⟨sp, rfl⟩ : ∃ sp : Nat, d = (sp : Int) := ⟨d.toNat, by omega⟩
        have spl : sp < ps.length := by omega
        have bH3 := bH2.trans b3
        have hus3 : SqL K H3 sl (us.map V.ref) := bH3.seqR hp hus
        have hu3 : PartsAt K H3 u0 ps := (bH3.keep hp).tup hu0
        refine ⟨_, rfl, _, rfl, sl, _, _, _, rfl, rfl, hus3, hatz, _, rfl, _, rfl, slA_to hu3 fun H4 r1 s4 hr1 => ?_⟩
        rw [cut_to] at hr1
        have w4 := w3.same s4
        have bH4 := bH3.trans (same_but s4)
        refine ⟨_, rfl, p, 10, rfl, w4, by decide, by decide, fun H5 v b5 w5 v0 v1 => ⟨(by show 1 ≤ sizeLine; decide), fun T hT => ?_⟩⟩
        obtain ⟨v, rfl⟩ : ∃ n : Nat, v = (n : Int) := ⟨v.toNat, by omega⟩
        have s5 := same1 (o := .tup [V.int (v : Int)]) hT
        have eT : (upd H5 T (.tup [V.int (v : Int)]) : Hp) T = some (.tup [V.int (v : Int)]) := upd_same
        generalize upd H5 T (.tup [V.int (v : Int)]) = H6 at *
        have k56 := (b5.keep w4).trans (keep_same s5)
        have lk : (ps.map natV).length = ps.length := List.length_map ..
        refine catA_to (k56.tup hr1) (SqT.of eT) ?_ fun H7 r2 s7 hr2 => ?_
        · rw [List.length_take, lk]
          exact Nat.le_trans (show min sp ps.length + 1 ≤ 13 by omega) (show 13 ≤ sizeLine by decide)
        have bH7 := bH4.trans (b5.trans (same_but (s5.trans s7)))
        have w7 := w5.same (s5.trans s7)
        have hus7 : SqL K H7 sl (us.map V.ref) := bH7.seqR hp hus
        have hu7 : PartsAt K H7 u0 ps := (bH7.keep hp).tup hu0
        refine ⟨_, rfl, _, rfl, sl, _, _, _, rfl, rfl, hus7, hatz, _, rfl, _, _, rfl, rfl, _, rfl, ?_⟩
        simp only [tNoPart]
        refine slA_to hu7 fun H8 r3 s8 hr3 => ?_
        rw [show (sp : Int) + 1 = ((sp + 1 : Nat) : Int) from by omega, cut_from (by rw [lk]; omega)] at hr3
        refine catA_to (Same.tup s8 hr2) hr3 ?_ fun H9 r4 s9 hr4 => ?_
        · rw [List.length_append, List.length_take, List.length_drop, lk]
          exact Nat.le_trans (show min sp ps.length + 1 + (ps.length - (sp + 1)) ≤ 13 by omega) (show 13 ≤ sizeLine by decide)
        rw [row_map] at hr4
        have bH9 := bH7.trans (same_but (s8.trans s9))
        have w9 := w7.same (s8.trans s9)
        obtain ⟨rlen, rle⟩ := row_le (v := v) spl nine (by omega)
        refine ⟨fun σ' N' => ∃ (u : Addr) (qs : List Nat), σ' = [some (.ref p), some (.ref t0), some (.int (W.many : Int)), some (.ref rl), some (.ref sl), some (.ref D), some (.int (z : Int)), some (.int (sp : Int)), some (.ref u)] ∧ PartsAt K N' u qs ∧ GoodParts ps.length qs ∧ But p H N' ∧ SrcAt N' p, ?_, ?_⟩
        · generalize ps.take sp ++ [v] ++ ps.drop (sp + 1) = row at *
          have hr4 : PartsAt K H9 r4 row := hr4
          refine ⟨_, rfl, r4, row.map (fun n : Nat => (n : Int)), rfl, (by rw [← natV_map]; exact hr4), ?_⟩
          rw [sum_cast]
          refine ⟨rfl, _, rfl, ?_⟩
          refine ite2 (fun h => ?_) (fun h => ?_)
          · have lr : (row.map natV).length = row.length := List.length_map ..
            refine ⟨_, rfl, _, rfl, _, rfl, slA_to hr4 fun Ha r5 sa hr5 => ?_⟩
            rw [cut_to] at hr5
            have wa := w9.same sa
            refine ⟨_, rfl, p, 9, rfl, wa, by decide, by decide, fun Hb v2 bb wb v20 v21 => ⟨_, _, rfl, rfl, (by show 1 ≤ sizeLine; decide), fun T2 hT2 => ?_⟩⟩
            obtain ⟨m2, e2⟩ : ∃ n : Nat, 1 + v2 = (n : Int) := ⟨(1 + v2).toNat, by omega⟩
            show rCatA K (V.ref r5) (V.ref T2) (upd Hb T2 (.tup [V.int (1 + v2)])) _
            rw [e2]
            have sc := same1 (o := .tup [V.int (m2 : Int)]) hT2
            have eT2 : (upd Hb T2 (.tup [V.int (m2 : Int)]) : Hp) T2 = some (.tup [V.int (m2 : Int)]) := upd_same
            generalize upd Hb T2 (.tup [V.int (m2 : Int)]) = Hc at *
            have kac := (bb.keep wa).trans (keep_same sc)
            refine catA_to (kac.tup hr5) (SqT.of eT2) ?_ fun Hd r6 sd hr6 => ?_
            · rw [List.length_take, lr]
              exact Nat.le_trans (show min sp row.length + 1 ≤ 13 by omega) (show 13 ≤ sizeLine by decide)
            have bad : But p H9 Hd := (same_but sa).trans (bb.trans (same_but (sc.trans sd)))
            have wd := wb.same (sc.trans sd)
            refine ⟨_, rfl, _, rfl, _, _, rfl, rfl, _, rfl, ?_⟩
            simp only [tNoPart]
            refine slA_to ((bad.keep w9).tup hr4) fun He r7 se hr7 => ?_
            rw [show (sp : Int) + 1 = ((sp + 1 : Nat) : Int) from by omega, cut_from (by rw [lr]; omega)] at hr7
            refine catA_to (Same.tup se hr6) hr7 ?_ fun Hf r8 sf hr8 => ?_
            · rw [List.length_append, List.length_take, List.length_drop, lr]
              exact Nat.le_trans (show min sp row.length + 1 + (row.length - (sp + 1)) ≤ 13 by omega) (show 13 ≤ sizeLine by decide)
            rw [row_map] at hr8
            obtain ⟨l2, n2⟩ := row_le (v := m2) (ps := row) (sp := sp) (by omega) rle (by omega)
            exact ⟨r8, _, rfl, hr8, ⟨by rw [l2, rlen], n2, by rw [l2, rlen]; exact few, .inr ⟨m2, by simp, by omega⟩⟩, bH9.trans (bad.trans (same_but (se.trans sf))), wd.same (se.trans sf)⟩
          · exact ⟨r4, row, rfl, hr4, ⟨rlen, rle, by rw [rlen]; exact few, .inr (sum_some fun z => h (decide_eq_true (by rw [z]; rfl)))⟩, bH9, w9⟩
        · rintro σ' N' ⟨u, qs, rfl, hu, gq, bN, wN⟩
          have husN : SqL K N' sl (us.map V.ref) := bN.seqR hp hus
          have kN := bN.keep hp
          have lu : (us.map V.ref).length = us.length := List.length_map ..
          refine ⟨_, rfl, _, rfl, _, rfl, _, rfl, _, rfl, sl, _, rfl, husN, fun L1 hL1 => ?_⟩
          rw [cut_to, ← List.map_take]
          have s2 := same1 (o := .lst ((us.take z).map V.ref)) hL1
          have eL1 : (upd N' L1 (.lst ((us.take z).map V.ref)) : Hp) L1 = some (.lst ((us.take z).map V.ref)) := upd_same
          generalize upd N' L1 (.lst ((us.take z).map V.ref)) = N1 at *
          refine ⟨_, rfl, (by show 1 ≤ sizeLine; decide), fun L0 hL0 => ?_⟩
          have s3 := same1 (o := .lst [V.ref u]) hL0
          have eL0 : (upd N1 L0 (.lst [V.ref u]) : Hp) L0 = some (.lst [V.ref u]) := upd_same
          generalize upd N1 L0 (.lst [V.ref u]) = N2 at *
          refine ⟨L1, L0, _, _, rfl, rfl, s3 _ _ eL1, eL0, ?_, fun L2 hL2 => ?_⟩
          · rw [List.length_map, List.length_take]
            exact Nat.le_trans (show min z us.length + 1 ≤ 9 by omega) (show 9 ≤ sizeLine by decide)
          have s4' := same1 (o := .lst ((us.take z).map V.ref ++ [V.ref u])) hL2
          have eL2 : (upd N2 L2 (.lst ((us.take z).map V.ref ++ [V.ref u])) : Hp) L2 = some (.lst ((us.take z).map V.ref ++ [V.ref u])) := upd_same
          generalize upd N2 L2 (.lst ((us.take z).map V.ref ++ [V.ref u])) = N3 at *
          have s24 := s2.trans (s3.trans s4')
          refine ⟨_, rfl, _, rfl, _, _, rfl, rfl, _, rfl, sl, _, rfl, s24.seq husN, fun L3 hL3 => ?_⟩
          rw [show (z : Int) + 1 = ((z + 1 : Nat) : Int) from by omega, cut_from (by rw [lu]; omega), ← List.map_drop]
          have s5' := same1 (o := .lst ((us.drop (z + 1)).map V.ref)) hL3
          have eL3 : (upd N3 L3 (.lst ((us.drop (z + 1)).map V.ref)) : Hp) L3 = some (.lst ((us.drop (z + 1)).map V.ref)) := upd_same
          generalize upd N3 L3 (.lst ((us.drop (z + 1)).map V.ref)) = N4 at *
          have all : (us.take z).map V.ref ++ [V.ref u] ++ (us.drop (z + 1)).map V.ref = (us.take z ++ [u] ++ us.drop (z + 1)).map V.ref := by
            rw [List.map_append, List.map_append]
            rfl
          refine ⟨L2, L3, _, _, rfl, rfl, s5' _ _ eL2, eL3, ?_, fun L4 hL4 => ?_⟩
          · rw [← List.length_append, all, List.length_map, one_set zu, List.length_set]
            exact Nat.le_trans (show us.length ≤ 8 by omega) (show 8 ≤ sizeLine by decide)
          rw [all]
          have s6' := same1 (o := .lst ((us.take z ++ [u] ++ us.drop (z + 1)).map V.ref)) hL4
          have eL4 : (upd N4 L4 (.lst ((us.take z ++ [u] ++ us.drop (z + 1)).map V.ref)) : Hp) L4 = some (.lst ((us.take z ++ [u] ++ us.drop (z + 1)).map V.ref)) := upd_same
          generalize upd N4 L4 (.lst ((us.take z ++ [u] ++ us.drop (z + 1)).map V.ref)) = N5 at *
          refine ⟨(by show 3 ≤ sizeLine; decide), fun t' ht' => ?_⟩
          have s7' := same1 (o := .tup [V.int (W.many : Int), V.ref rl, V.ref L4]) ht'
          have s27 := s24.trans (s5'.trans (s6'.trans s7'))
          have hUN : All2 (PartsAt K N') us W.parts := hU.mono fun _ _ _ _ r => kN.tup r
          have hp2 : All2 (PartsAt K N') (us.take z ++ [u] ++ us.drop (z + 1)) (W.parts.take z ++ [qs] ++ W.parts.drop (z + 1)) := All2.app (All2.app (hUN.take z) (All2.snoc (as := []) (bs := []) .nil hu)) (hUN.dropN (z + 1))
          rw [one_set zp] at hp2
          exact q _ t' ⟨W.many, W.beds, W.parts.set z qs⟩ (bN.trans (same_but s27)) (wN.same s27) ⟨rl, L4, SqT.of upd_same, (hR.but bN hp).mono s27, _, SqL.of (s7' _ _ eL4), hp2.mono fun _ _ _ _ r => Same.tup s27 r⟩ (set_web g hps gq)
end
end K04

namespace K04
open PySem PySem.Spec PyProof.Rows L2 LamX
/-! ### two beds of one place exchanged -/
theorem split_two {α : Type} {l : List α} {i : Nat} {x y : α} (h : l[i]? = some x) (h2 : l[i + 1]? = some y) : l = l.take i ++ [x, y] ++ l.drop (i + 2) := by
  have e := split_at h
  have z : l.drop (i + 1) = y :: l.drop (i + 2) := by
    obtain ⟨hl, rfl⟩ := List.getElem?_eq_some_iff.mp h2
    rw [List.getElem_cons_drop]
  rw [z] at e
  rw [List.append_assoc]
  exact e
theorem swap_web {W : WebV} (g : GoodWeb W) {l : List AB} (el : l.map Prod.snd = W.beds) {i : Nat} {x y : AB} (h : l[i]? = some x) (h2 : l[i + 1]? = some y) (e : x.2.s = y.2.s) : GoodWeb ⟨W.many, (l.take i ++ [y, x] ++ l.drop (i + 2)).map Prod.snd, W.parts⟩ := by
  have st : ((l.take i ++ [y, x] ++ l.drop (i + 2)).map Prod.snd).map Bed.s = W.beds.map Bed.s := by
    rw [← el]
    conv => rhs; rw [split_two h h2]
    rw [List.map_append, List.map_append, List.map_append, List.map_append, List.map_append, List.map_append, List.map_append, List.map_append]
    congr 2
    show [y.2.s, x.2.s] = [x.2.s, y.2.s]
    rw [e]
  have ln : ((l.take i ++ [y, x] ++ l.drop (i + 2)).map Prod.snd).length = W.beds.length := by
    have := congrArg List.length st
    rw [List.length_map, List.length_map (f := Bed.s) (as := W.beds)] at this
    exact this
  refine ⟨g.m1, g.m8, by show _ ≤ 12; rw [ln]; exact g.few, fun b hb => ?_, by show List.Pairwise _ (List.map _ _); rw [st]; exact g.sorted, fun s => by show List.count _ (List.map _ _) ≤ 2; rw [st]; exact g.two s, g.plen, fun j ps hj => by show GoodParts (List.count _ (List.map _ _)) _; rw [st]; exact g.part j ps hj⟩
  obtain ⟨z, hz, rfl⟩ := List.mem_map.mp hb
  have mem : z ∈ l := by
    rcases List.mem_append.mp hz with c | c
    · rcases List.mem_append.mp c with c | c
      · exact List.mem_of_mem_take c
      · rcases List.mem_cons.mp c with c | c
        · rw [c]
          exact List.mem_of_getElem? h2
        · rw [List.mem_singleton.mp c]
          exact List.mem_of_getElem? h
    · exact List.mem_of_mem_drop c
  exact g.bed _ (by rw [← el]; exact List.mem_map_of_mem mem)
section
variable {P : Program} {w : World} {K : PySem.W.Frag} {mg : Str → Option Value} {base : Heap}
abbrev bxN : List Str := ["source", "world", "many", "rows", "shared", "some", "at"]
theorem scBx : FnScope bxN ["source", "world"] (defScope d_law_beds_exchanged) := ⟨rfl, rfl, rfl, by decide +kernel, rfl, by decide +kernel, by decide +kernel⟩
theorem ok_beds04 {f f2 C : Addr} {fd fd2 : FuncData} (F : Fun K "_law_beds_exchanged" "_law_beds_exchanged" d_law_beds_exchanged f fd) (Y : TxtW mg C) (hrange : mg "range" = none)
    (A2 : At P w K mg base CX0 3 "_law_pick" ["source", "some"] (spPick K) f2 fd2) : FnOk P w K mg base CX0 4 f fd ["source", "world"] (spParts04 K) := by
  refine F.ok scBx (fun vs H Q E h => ?_) (fun cdv A outer s H vs Q E hr h => ?_)
  · obtain ⟨_, _, _, rfl, _⟩ := h
    rfl
  · obtain ⟨p, t0, W, rfl, hp, hW, g, q⟩ := h
    refine ⟨_, pss_cons (ps_asg (pv 1) (pg_tup (by rfl) (pgs_cons (pg_name (i := 2) scBx.nd rfl (.inl rfl)) (pgs_cons (pg_name (i := 3) scBx.nd rfl (.inr rfl)) (pgs_cons (pg_name (i := 4) scBx.nd rfl (.inl rfl)) pgs_nil)))))
      (pss_cons (ps_setLc (i := 5) (own := [("at", 6)]) (g := gName 6) (by rfl) scBx.nd rfl rfl (sw_true rfl rfl rfl (by decide +kernel)) (pi_range1 (by rfl) hrange (pa_cons (pe_op op_sub (pe_callB call_len_seq (by rfl) Y.len PySem.boot_len (pa_cons (pv 3) pa_nil)) pe_int) pa_nil)) (blkOk_by (own := [("at", 6)]) (N := bxN) (sc := defScope d_law_beds_exchanged) (by decide +kernel)) (fun _ _ _ _ _ => pg_name (i := 6) scBx.nd rfl (.inl rfl))
          (fun _ _ _ _ _ => pts_one (pt_cmpR op_eq (pe_ix (show IxR _ (rIxT K) from ix_tup) (pe_ix (show IxR _ (rIxL K) from ix_list) (pv 3) (pv 6) (fun _ _ => rfl)) pe_int (fun _ _ => rfl)) (pe_ix (show IxR _ (rIxT K) from ix_tup) (pe_ix (show IxR _ (rIxL K) from ix_list) (pv 3) (pe_op op_add (pv 6) pe_int) (fun _ _ => rfl)) pe_int (fun _ _ => rfl)) (nomark _))) (fun _ _ _ _ _ => pv 6))
      (pss_cons (ps_if (pt_cmpR (op_eqD hr.units) (pv 5) (pe_lst pa_nil) (nomark _)) (pss_one (ps_ret (pv 1))) pss_nil)
      (pss_cons (ps_set (i := 6) scBx.nd rfl (Or.inl rfl) (pe_call A2.G hr rfl A2.m A2.k A2.b .nil pass0 (pa_cons (pv 0) (pa_cons (pv 5) pa_nil))))
      (pss_one (ps_ret (pe_tup (pa_cons (pv 2) (pa_cons (pe_op op_cat (pe_op op_cat (pe_slice sl_list (pv 3) po_none (po_some (pv 6))) (pe_lst (pa_cons (pe_ix ix_list (pv 3) (pe_op op_add (pv 6) pe_int) (fun _ _ => rfl)) (pa_cons (pe_ix ix_list (pv 3) (pv 6) (fun _ _ => rfl)) pa_nil)))) (pe_slice sl_list (pv 3) (po_some (pe_op op_add (pv 6) pe_int)) po_none)) (pa_cons (pv 4) pa_nil))))))))), ?_⟩
    obtain ⟨rl, sl, h0, ⟨ts, hts, hA⟩, hP⟩ := id hW
    have few := g.few
    obtain ⟨l, el1, el2, hl⟩ := ab_of hA
    have ll : l.length = W.beds.length := by rw [← el2, List.length_map]
    have hts0 := hts
    have hts : SqL K H rl (l.map fun x => V.ref x.1) := by
      rw [← el1, List.map_map] at hts
      exact hts
    have eqts : (l.map fun x => V.ref x.1) = ts.map V.ref := by rw [← el1, List.map_map]; rfl
    have lm : (l.map fun x => V.ref x.1).length = l.length := List.length_map ..
    refine ⟨_, rfl, t0, _, rfl, h0, rfl, _, _, rfl, _, _, rfl, _, _, rfl, rfl, ?_⟩
    refine ⟨_, rfl, rl, _, rfl, .inl hts, _, _, rfl, rfl, _, rfl, by omega, by omega, fun D hD => ?_⟩
    have nD := hp.ne hD
    have atl : ∀ j : Nat, (h : j < l.length) → atI (l.map fun x => V.ref x.1) (j : Int) = some (V.ref (l[j]).1) := fun j h => at_k (by omega) (by rw [Int.toNat_natCast, List.getElem?_map, List.getElem?_eq_getElem h]; rfl)
    refine lc_range (lo := 0) (n := ((((l.map fun x => V.ref x.1).length : Nat) : Int) - 1).toNat) (fun i N => ∃ zs : List Nat, N D = some (.lst (zs.map natV)) ∧ zs.length ≤ i ∧ (∀ z ∈ zs, ∃ x y, l[z]? = some x ∧ l[z + 1]? = some y ∧ x.2.s = y.2.s) ∧ Same H N) ⟨[], upd_same, Nat.le_refl _, (fun z h => nomatch h), same1 hD⟩ ?_ ?_
    · rintro i N hi ⟨zs, eD, lz, hz, sN⟩
      rw [lm] at hi
      have i0 : i < l.length := by omega
      have i1 : i + 1 < l.length := by omega
      have a0 := atl i i0
      have a1 := atl (i + 1) i1
      have g0 : l[i]? = some l[i] := List.getElem?_eq_getElem i0
      have g1 : l[i + 1]? = some l[i + 1] := List.getElem?_eq_getElem i1
      obtain ⟨_, _, q0, _, _⟩ := (hl _ (List.getElem_mem i0)).mono sN
      obtain ⟨_, _, q1, _, _⟩ := (hl _ (List.getElem_mem i1)).mono sN
      generalize l[i] = x at *
      generalize l[i + 1] = y at *
      have htsN := sN.seq hts
      refine ⟨rfl, _, rfl, _, rfl, rl, _, _, _, rfl, rfl, htsN, (by rw [Int.zero_add]; exact a0), x.1, _, _, _, rfl, rfl, q0, at_k (by decide) rfl, ?_⟩
      refine ⟨_, rfl, _, rfl, _, _, rfl, rfl, rl, _, _, _, rfl, rfl, htsN, (by rw [Int.zero_add, show (i : Int) + 1 = ((i + 1 : Nat) : Int) from by omega]; exact a1), y.1, _, _, _, rfl, rfl, q1, at_k (by decide) rfl, rfl, _, rfl, ?_⟩
      refine ite2 (fun h => ?_) (fun h => ?_)
      · have h : ((x.2.s : Nat) : Int) = ((y.2.s : Nat) : Int) := V.int.inj (of_decide_eq_true h)
        refine ⟨_, rfl, _, eD, ?_, zs ++ [i], ?_, by rw [List.length_append]; exact Nat.succ_le_succ lz, fun z hz' => ?_, fun a o ea => ?_⟩
        · rw [List.length_map]
          exact Nat.lt_of_le_of_lt lz (Nat.lt_of_lt_of_le (show i < 12 by omega) (show 12 ≤ sizeLine by decide))
        · rw [List.map_append, upd_same]
          show some (HO.lst (_ ++ [V.int (0 + (i : Int))])) = some (HO.lst (_ ++ [V.int (i : Int)]))
          rw [Int.zero_add]
        · rcases List.mem_append.mp hz' with e | e
          · exact hz z e
          · rw [List.mem_singleton.mp e]
            exact ⟨x, y, g0, g1, by omega⟩
        · rw [upd_ne (ne_of_none ea hD)]
          exact sN _ _ ea
      · exact ⟨zs, eD, Nat.le_succ_of_le lz, hz, sN⟩
    · rintro N ⟨zs, eD, lz, hz, sN⟩
      refine ⟨_, rfl, (by show 0 ≤ sizeLine; decide), fun E0 hE0 => ?_⟩
      have s1 := same1 (o := .lst []) hE0
      have eE : (upd N E0 (.lst []) : Hp) E0 = some (.lst []) := upd_same
      generalize upd N E0 (.lst []) = N1 at *
      have eD1 := s1 _ _ eD
      have sH1 := sN.trans s1
      have eq0 : PyData.eqv (.list ((zs.map fun n : Nat => (n : Int)).map PyData.int)) (.list (([] : List Int).map PyData.int)) = decide (zs = []) := by
        rw [show PyData.eqv (.list ((zs.map fun n : Nat => (n : Int)).map PyData.int)) (.list (([] : List Int).map PyData.int)) = PyData.eqvAll ((zs.map fun n : Nat => (n : Int)).map PyData.int) (([] : List Int).map PyData.int) from by simp only [PyData.eqv], eqvL_ints]
        exact decide_eq_decide.mpr (by simp)
      have eD2 := eD1
      rw [natV_map] at eD2
      refine ⟨_, _, .lst (SqL.of eD2) (dps_ints _), .lst (SqL.of (xs := ([] : List Int).map V.int) eE) (dps_ints _), shaped_of (can_ints _) (Nat.le_trans (dep_ints _) (by decide)), shaped_of (can_ints _) (Nat.le_trans (dep_ints _) (by decide)), _, rfl, ?_⟩
      rw [eq0]
      by_cases cz : zs = []
      · rw [decide_eq_true cz]
        exact iteT ⟨_, rfl, q N1 t0 W (same_but sH1) (hp.same sH1) (hW.mono sH1) g⟩
      · rw [decide_eq_false cz]
        refine iteF ?_
        have w1 := hp.same sH1
        have z0 : 0 < zs.length := by
          cases zs with
          | nil => exact absurd rfl cz
          | cons a r => simp
        refine ⟨_, rfl, _, rfl, p, D, false, zs.map natV, rfl, w1, SqL.of eD1, fun H' b' => SqL.of (b' _ _ nD eD1), by rw [List.length_map]; exact z0, by rw [List.length_map]; omega, fun H2 x b2 w2 hx => ?_⟩
        obtain ⟨z, hzm, rfl⟩ := List.mem_map.mp hx
        obtain ⟨x, y, gx, gy, exy⟩ := hz z hzm
        obtain ⟨zl, ex⟩ := List.getElem?_eq_some_iff.mp gx
        obtain ⟨zl1, ey⟩ := List.getElem?_eq_some_iff.mp gy
        have bH2 : But p H H2 := (same_but sH1).trans b2
        have hts2 : SqL K H2 rl (l.map fun x => V.ref x.1) := by
          rw [eqts]
          exact bH2.seqR hp hts0
        have a0 := atl z zl
        have a1 := atl (z + 1) zl1
        rw [ex] at a0
        rw [ey] at a1
        refine ⟨_, rfl, _, rfl, _, rfl, _, rfl, rl, _, rfl, hts2, fun L1 hL1 => ?_⟩
        rw [cut_to]
        have s2 := same1 (o := .lst ((l.map fun x => V.ref x.1).take z)) hL1
        have eL1 : (upd H2 L1 (.lst ((l.map fun x => V.ref x.1).take z)) : Hp) L1 = some (.lst ((l.map fun x => V.ref x.1).take z)) := upd_same
        generalize upd H2 L1 (.lst ((l.map fun x => V.ref x.1).take z)) = N1 at *
        refine ⟨_, rfl, _, rfl, _, _, rfl, rfl, rl, _, _, _, rfl, rfl, s2.seq hts2, (by rw [show (z : Int) + 1 = ((z + 1 : Nat) : Int) from by omega]; exact a1), _, rfl, _, rfl, rl, _, _, _, rfl, rfl, s2.seq hts2, a0, (by show 2 ≤ sizeLine; decide), fun L0 hL0 => ?_⟩
        have s3 := same1 (o := .lst [V.ref y.1, V.ref x.1]) hL0
        have eL0 : (upd N1 L0 (.lst [V.ref y.1, V.ref x.1]) : Hp) L0 = some (.lst [V.ref y.1, V.ref x.1]) := upd_same
        generalize upd N1 L0 (.lst [V.ref y.1, V.ref x.1]) = N2 at *
        refine ⟨L1, L0, _, _, rfl, rfl, s3 _ _ eL1, eL0, ?_, fun L2 hL2 => ?_⟩
        · rw [List.length_take, lm]
          exact Nat.le_trans (show min z l.length + 2 ≤ 14 by omega) (show 14 ≤ sizeLine by decide)
        have s4 := same1 (o := .lst ((l.map fun x => V.ref x.1).take z ++ [V.ref y.1, V.ref x.1])) hL2
        have eL2 : (upd N2 L2 (.lst ((l.map fun x => V.ref x.1).take z ++ [V.ref y.1, V.ref x.1])) : Hp) L2 = some (.lst ((l.map fun x => V.ref x.1).take z ++ [V.ref y.1, V.ref x.1])) := upd_same
        generalize upd N2 L2 (.lst ((l.map fun x => V.ref x.1).take z ++ [V.ref y.1, V.ref x.1])) = N3 at *
        have s24 := s2.trans (s3.trans s4)
        refine ⟨_, rfl, _, rfl, _, _, rfl, rfl, _, rfl, rl, _, rfl, s24.seq hts2, fun L3 hL3 => ?_⟩
        rw [show (z : Int) + 2 = ((z + 2 : Nat) : Int) from by omega, cut_from (by rw [lm]; omega)]
        have s5 := same1 (o := .lst ((l.map fun x => V.ref x.1).drop (z + 2))) hL3
        have eL3 : (upd N3 L3 (.lst ((l.map fun x => V.ref x.1).drop (z + 2))) : Hp) L3 = some (.lst ((l.map fun x => V.ref x.1).drop (z + 2))) := upd_same
        generalize upd N3 L3 (.lst ((l.map fun x => V.ref x.1).drop (z + 2))) = N4 at *
        have all : (l.map fun x => V.ref x.1).take z ++ [V.ref y.1, V.ref x.1] ++ (l.map fun x => V.ref x.1).drop (z + 2) = (l.take z ++ [y, x] ++ l.drop (z + 2)).map fun x => V.ref x.1 := by
          rw [List.map_append, List.map_append, List.map_take, List.map_drop]
          rfl
        have gw := swap_web g el2 gx gy exy
        have few' : (l.take z ++ [y, x] ++ l.drop (z + 2)).length ≤ 12 := by
          have := gw.few
          rwa [List.length_map] at this
        have mem : ∀ v ∈ l.take z ++ [y, x] ++ l.drop (z + 2), v ∈ l := fun v hv => by
          rcases List.mem_append.mp hv with c | c
          · rcases List.mem_append.mp c with c | c
            · exact List.mem_of_mem_take c
            · rcases List.mem_cons.mp c with c | c
              · rw [c]
                exact List.mem_of_getElem? gy
              · rw [List.mem_singleton.mp c]
                exact List.mem_of_getElem? gx
          · exact List.mem_of_mem_drop c
        refine ⟨L2, L3, _, _, rfl, rfl, s5 _ _ eL2, eL3, ?_, fun L4 hL4 => ?_⟩
        · rw [← List.length_append, all, List.length_map]
          exact Nat.le_trans few' (by decide)
        rw [all]
        generalize l.take z ++ [y, x] ++ l.drop (z + 2) = o at *
        have s6 := same1 (o := .lst (o.map fun x => V.ref x.1)) hL4
        have eL4 : (upd N4 L4 (.lst (o.map fun x => V.ref x.1)) : Hp) L4 = some (.lst (o.map fun x => V.ref x.1)) := upd_same
        generalize upd N4 L4 (.lst (o.map fun x => V.ref x.1)) = N5 at *
        refine ⟨_, rfl, (by show 3 ≤ sizeLine; decide), fun t' ht' => ?_⟩
        have s7 := same1 (o := .tup [V.int (W.many : Int), V.ref L4, V.ref sl]) ht'
        have s27 := s24.trans (s5.trans (s6.trans s7))
        have kp := (bH2.keep hp).trans (keep_same s27)
        exact q _ t' ⟨W.many, o.map Prod.snd, W.parts⟩ (bH2.trans (same_but s27)) (w2.same s27) ⟨L4, sl, SqT.of upd_same, ⟨o.map Prod.fst, SqL.of (by rw [List.map_map]; exact s7 _ _ eL4), ab_all2 fun v hv => kp.row (hl v (mem v hv))⟩, (hP.but bH2 hp).mono s27⟩ gw
end
end K04

namespace K04
open PySem PySem.Spec PyProof.Rows L2
/-- one list + another one, also such as a module has made -/
def rCatS (K : PySem.W.Frag) : R2 := fun x y H Q => ∃ a b xs ys, x = .ref a ∧ y = .ref b ∧ SqL K H a xs ∧ SqL K H b ys ∧ xs.length + ys.length ≤ sizeLine ∧ ∀ p, H p = none → Q (.ref p) (upd H p (.lst (xs ++ ys)))
theorem op_catS {X : Cx} : OpR X (binaryOp .Add) (rCatS X.K) := by
  intro pins s σ H x y v u Q I rx ry h
  obtain ⟨a, b, xs, ys, rfl, rfl, ha, hb, few, q⟩ := h
  cases rx
  cases ry
  obtain ⟨p1, r1, l1, _⟩ := I.list ha
  obtain ⟨p2, r2, l2, _⟩ := I.list hb
  obtain ⟨⟨c1, d1, t1, m1⟩, g1, e1, n1, f1⟩ := l1.isList
  obtain ⟨⟨c2, d2, t2, m2⟩, g2, e2, n2, f2⟩ := l2.isList
  simp only at e1 f1 e2 f2
  subst e1 f1 e2 f2
  have k1 := r1.length
  have k2 := r2.length
  refine concat_meets ⟨_, g1, rfl⟩ ⟨_, g2, rfl⟩ noFill_list_add seq_list_add PySem.F.slot_list_add PySem.F.entry_list_add (PySem.F.args_list_add_2 _ _)
    (list_addW a b p1.toArray p2.toArray n1 n2 d1 d2 m1 m2 (by rw [List.size_toArray, List.size_toArray]; omega)) ⟨g1, g2, ?_⟩
  have both : p1.toArray ++ p2.toArray = (p1 ++ p2).toArray := by simp
  rw [both]
  exact ⟨.ref _, _, I.lnew (t' := s.toks) (r1.append r2) (by rw [List.length_append]; omega), rfl, q _ I.fresh⟩
end K04

namespace K04
open PySem PySem.Spec PyProof.Rows L2 LamX
/-! ### a bed more -/
def bmQ : Str := ("_law_bed_more.<locals>.<lambda>" : Str)
def rLenS (K : PySem.W.Frag) : List V → Hp → VK → Prop := fun xs H Q => ∃ p ys, xs = [V.ref p] ∧ (SqL K H p ys ∨ SqT K H p ys) ∧ Q (V.int ys.length) H
def spMore04 (K : PySem.W.Frag) (T : List (Addr × Str)) : Sp := fun vs H Q _ => ∃ (p t : Addr) (W : WebV), vs = [.ref p, .ref t] ∧ SrcAt H p ∧ WorldAt K H t W ∧ GoodWeb W ∧ Tabs T H ∧
  ∀ (H' : Hp) (u : Addr) (Z : WebV), ButX p H H' → SrcAt H' p → Tabs T H' → WorldAt K H' u Z → GoodWeb Z → Q (.ref u) H'
theorem lt_18' {i : Int} (h0 : 0 ≤ i) (h : i ≤ 18) : i.natAbs < 2 ^ 1500 := Nat.lt_of_lt_of_le (show i.natAbs < 2 ^ 5 by omega) (Nat.pow_le_pow_right (by decide) (by decide))
section
variable {P : Program} {w : World} {K : PySem.W.Frag} {mg : Str → Option Value} {base : Heap}
abbrev bmN : List Str := ["source", "world", "many", "rows", "shared", "some", "place", "one", "more", "changed_rows"]
theorem scBm : FnScope bmN ["source", "world"] (defScope d_law_bed_more) := ⟨rfl, rfl, rfl, by decide +kernel, rfl, by decide +kernel, by decide +kernel⟩
theorem ok_more04 {T : List (Addr × Str)} {fa f1 f2 f3 C cc Pt : Addr} {fd1 fd2 fd3 : FuncData} {kV doc pm ct oc : Value} {an od : Option Addr} {osl : Array (Option Value)}
    (lk : K.lookup fa = some ⟨oc, od, .func (PySem.W.fnOf "_law_bed_more" "_law_bed_more" (defArgs d_law_bed_more) (defBody d_law_bed_more) (defScope d_law_bed_more) .none kV doc pm an (.ref cc) ct), osl⟩) (hcd : PySem.W.codeIn K (.ref cc) "_law_bed_more" = true)
    (Y : TxtW mg C) (hrange : mg "range" = none) (TB : TabB base mg cc Pt) (hmT : (Pt, bmQ) ∈ T) (huT : ∀ p ∈ T, p.1 = Pt → p.2 = bmQ)
    (A1 : At P w K mg base CX0 2 "_law_next" ["source", "many"] spNext f1 fd1) (A2 : At P w K mg base CX0 3 "_law_pick" ["source", "some"] (spPick K) f2 fd2) (A3 : At P w K mg base CX0 1 "_law_parts_for" ["many", "rows", "shared"] (spPartsFor K) f3 fd3) :
    FnOk P w K mg base CX0 4 fa (PySem.W.fnOf "_law_bed_more" "_law_bed_more" (defArgs d_law_bed_more) (defBody d_law_bed_more) (defScope d_law_bed_more) .none kV doc pm an (.ref cc) ct) ["source", "world"] (spMore04 K T) := by
  refine fn_of lk hcd scBm (fun vs H Q E h => ?_) (fun A outer s H vs Q E hr h => ?_)
  · obtain ⟨_, _, _, rfl, _⟩ := h
    rfl
  · obtain ⟨p, t0, W, rfl, hp, hW, g, hT, q⟩ := h
    have r1 : Room 1 _ := hr.mono (by decide)
    have r2 : Room 2 _ := hr.mono (by decide)
    refine ⟨_, PSs.nox (pss_cons (ps_asg (pv 1) (pg_tup (by rfl) (pgs_cons (pg_name (i := 2) scBm.nd rfl (.inl rfl)) (pgs_cons (pg_name (i := 3) scBm.nd rfl (.inr rfl)) (pgs_cons (pg_name (i := 4) scBm.nd rfl (.inl rfl)) pgs_nil)))))
      (pss_cons (ps_setLc (i := 5) (own := [("place", 6)]) (g := gName 6) (by rfl) scBm.nd rfl rfl (sw_true rfl rfl rfl (by decide +kernel)) (pi_range1 (by rfl) hrange (pa_cons (pe_op op_sub (pv 2) pe_int) pa_nil)) (blkOk_by (own := [("place", 6)]) (N := bmN) (sc := defScope d_law_bed_more) (by decide +kernel)) (fun _ _ _ _ _ => pg_name (i := 6) scBm.nd rfl (.inr rfl))
          (fun _ _ _ _ _ => pts_one (pt_cmpR op_lt (pe_callB (show CallR _ (.builtin "len") (rLenS K) from call_len_seq) (by rfl) Y.len PySem.boot_len (pa_cons
            (pe_lc (own := [("one", 7)]) (g := gName 7) (by rfl) scBm.nd (show PI _ _ _ (iList K (tVar 3)) from pi_list (pv 3)) (blkOk_by (own := [("one", 7)]) (N := bmN) (by rfl)) (fun _ _ _ _ _ => pg_name (i := 7) scBm.nd rfl (.inl rfl))
              (fun _ _ _ _ _ => pts_one (pt_cmpR op_eq (pe_ix (show IxR _ (rIxT K) from ix_tup) (pv 7) pe_int (fun _ _ => rfl)) (pv 6) (nomark _))) (fun _ _ _ _ _ => pv 7)) pa_nil)) pe_int (nomark _))) (fun _ _ _ _ _ => pv 6))
      (pss_cons (ps_if (PW.pt (pw_or (pt_cmpR (op_eqD hr.units) (pv 5) (pe_lst pa_nil) (nomark _)) (pw_or1 (pt_cmpR op_eq (pe_callB call_len_seq (by rfl) Y.len PySem.boot_len (pa_cons (pv 3) pa_nil)) pe_int (nomark _))))) (pss_one (ps_ret (pv 1))) pss_nil)
      (pss_cons (ps_set (i := 6) scBm.nd rfl (Or.inl rfl) (pe_call A2.G hr rfl A2.m A2.k A2.b .nil pass0 (pa_cons (pv 0) (pa_cons (pv 5) pa_nil))))
      (pss_cons (ps_set (i := 8) scBm.nd rfl (Or.inl rfl) (pe_tup (pa_cons (pv 6) (pa_cons (pe_op op_add (pe_op op_add (pv 6) pe_int) (pe_call A1.G r2 rfl A1.m A1.k A1.b .nil pass0 (pa_cons (pv 0) (pa_cons (pe_op op_sub (pe_op op_sub (pv 2) pe_int) (pv 6)) pa_nil))))
          (pa_cons (pe_tup (pa_cons pe_int (pa_cons pe_int pa_nil))) (pa_cons (pe_tup (pa_cons (pe_op op_add pe_int (pe_call A1.G r2 rfl A1.m A1.k A1.b .nil pass0 (pa_cons (pv 0) (pa_cons pe_int pa_nil)))) (pa_cons pe_int pa_nil))) pa_nil))))))
      (pss_cons (ps_set (i := 9) scBm.nd rfl (Or.inl rfl) (pe_sortK (a := "one") (T := T) hr (by rfl) Y.sorted (pe_op op_catS (pv 3) (pe_lst (pa_cons (pv 8) pa_nil))) (lamK_by (sc := defScope d_law_bed_more) (by decide +kernel)) TB rfl hmT huT rfl (fun _ _ _ _ _ _ => rfl)))
      (pss_one (ps_ret (pe_tup (pa_cons (pv 2) (pa_cons (pv 9) (pa_cons (pe_call A3.G r1 rfl A3.m A3.k A3.b .nil pass0 (pa_cons (pv 2) (pa_cons (pv 9) (pa_cons (pv 4) pa_nil)))) pa_nil)))))))))))), ?_⟩
    obtain ⟨rl, sl, h0, ⟨ts, hts, hA⟩, hP⟩ := id hW
    have few := g.few
    have m1 := g.m1
    have m8 := g.m8
    obtain ⟨l, el1, el2, hl⟩ := ab_of hA
    have ll : l.length = W.beds.length := by rw [← el2, List.length_map]
    have hts0 := hts
    have hts : SqL K H rl (l.map fun x => V.ref x.1) := by
      rw [← el1, List.map_map] at hts
      exact hts
    have eqts : (l.map fun x => V.ref x.1) = ts.map V.ref := by rw [← el1, List.map_map]; rfl
    have lm : (l.map fun x => V.ref x.1).length = l.length := List.length_map ..
    have two : ∀ s, (l.map fun x => x.2.s).count s ≤ 2 := fun s => by
      have := g.two s
      unfold starts at this
      rw [← el2, List.map_map] at this
      exact this
    have gbl : ∀ x ∈ l, GoodBed W.many x.2 := fun x hx => g.bed _ (by rw [← el2]; exact List.mem_map_of_mem hx)
    refine ⟨_, rfl, t0, _, rfl, h0, rfl, _, _, rfl, _, _, rfl, _, _, rfl, rfl, ?_⟩
    refine ⟨_, rfl, _, _, rfl, rfl, _, rfl, by omega, by omega, fun D hD => ?_⟩
    have nD := hp.ne hD
    refine lc_range (lo := 0) (n := ((W.many : Int) - 1).toNat) (fun i N => ∃ zs : List Nat, N D = some (.lst (zs.map natV)) ∧ zs.length ≤ i ∧ (∀ z ∈ zs, z + 1 < W.many ∧ (l.map fun x => x.2.s).count z < 2) ∧ Same H N) ⟨[], upd_same, Nat.le_refl _, (fun z h => nomatch h), same1 hD⟩ ?_ ?_
    · rintro i N hi ⟨zs, eD, lz, hz, sN⟩
      have htsN := sN.seq hts
      refine ⟨rfl, _, rfl, rl, rfl, ⟨_, htsN⟩, fun B hB => ?_⟩
      refine lc_list (K := K) (a := rl) (xs := l.map fun x => V.ref x.1) (fun j M => ∃ qs : List Addr, M B = some (.lst (qs.map V.ref)) ∧ qs.length = ((l.take j).map fun x => x.2.s).count i ∧ Same N M) ⟨[], upd_same, rfl, same1 hB⟩ ?_ ?_ ?_
      · rintro j M _ ⟨_, _, _, sM⟩
        exact sM.seq htsN
      · rintro j z M hz' ⟨qs, eB, lq, sM⟩
        rw [List.getElem?_map] at hz'
        obtain ⟨⟨t', b'⟩, ht, rfl⟩ := Option.map_eq_some_iff.mp hz'
        have jl : j < l.length := (List.getElem?_eq_some_iff.mp ht).1
        obtain ⟨_, _, q1', _, _⟩ := (show RowAt K H t' b' from hl _ (List.mem_of_getElem? ht)).mono (sN.trans sM)
        have nxt : ((l.take (j + 1)).map fun x => x.2.s).count i = ((l.take j).map fun x => x.2.s).count i + if b'.s = i then 1 else 0 := by
          rw [List.take_add_one, ht, List.map_append, List.count_append]
          show _ + ([b'.s].count i) = _
          rw [List.count_cons, List.count_nil]
          by_cases c : b'.s = i
          · simp [c]
          · simp [c]
        refine ⟨rfl, _, rfl, t', _, _, _, rfl, rfl, q1', at_k (by decide) rfl, _, rfl, rfl, _, rfl, ?_⟩
        refine ite2 (fun h => ?_) (fun h => ?_)
        · have h : ((b'.s : Nat) : Int) = 0 + (i : Int) := V.int.inj (of_decide_eq_true h)
          refine ⟨_, rfl, _, eB, ?_, qs ++ [t'], by rw [List.map_append]; exact upd_same, ?_, fun a o ea => ?_⟩
          · rw [List.length_map, lq]
            refine Nat.lt_of_le_of_lt List.count_le_length ?_
            rw [List.length_map, List.length_take]
            exact Nat.lt_of_le_of_lt (Nat.min_le_left _ _) (Nat.lt_of_lt_of_le (show j < 12 by omega) (show 12 ≤ sizeLine by decide))
          · rw [List.length_append, lq, nxt, if_pos (by omega)]
            rfl
          · rw [upd_ne (ne_of_none ea hB)]
            exact sM _ _ ea
        · have h : ¬ ((b'.s : Nat) : Int) = 0 + (i : Int) := fun z => h (decide_eq_true (by rw [z]))
          refine ⟨qs, eB, ?_, sM⟩
          rw [lq, nxt, if_neg (by omega)]
          rfl
      · rintro M ⟨qs, eB, lq, sM⟩
        rw [List.length_map, List.take_length] at lq
        have eD2 := sM _ _ eD
        refine ⟨B, _, rfl, .inl (SqL.of eB), _, _, rfl, rfl, _, rfl, ?_⟩
        refine ite2 (fun h => ?_) (fun h => ?_)
        · have h : (((qs.map V.ref).length : Nat) : Int) < 2 := of_decide_eq_true h
          rw [List.length_map] at h
          refine ⟨_, rfl, _, eD2, ?_, zs ++ [i], ?_, by rw [List.length_append]; exact Nat.succ_le_succ lz, fun z hz' => ?_, fun a o ea => ?_⟩
          · rw [List.length_map]
            exact Nat.lt_of_le_of_lt lz (Nat.lt_of_lt_of_le (show i < 8 by omega) (show 8 ≤ sizeLine by decide))
          · rw [List.map_append, upd_same]
            show some (HO.lst (_ ++ [V.int (0 + (i : Int))])) = some (HO.lst (_ ++ [V.int (i : Int)]))
            rw [Int.zero_add]
          · rcases List.mem_append.mp hz' with e | e
            · exact hz z e
            · rw [List.mem_singleton.mp e]
              exact ⟨by omega, by omega⟩
          · rw [upd_ne (ne_of_none ea hD)]
            exact sM _ _ (sN _ _ ea)
        · exact ⟨zs, eD2, Nat.le_succ_of_le lz, hz, sN.trans sM⟩
    · rintro N ⟨zs, eD, lz, hz, sN⟩
      refine ⟨_, rfl, (by show 0 ≤ sizeLine; decide), fun E0 hE0 => ?_⟩
      have s1 := same1 (o := .lst []) hE0
      have eE : (upd N E0 (.lst []) : Hp) E0 = some (.lst []) := upd_same
      generalize upd N E0 (.lst []) = N1 at *
      have eD1 := s1 _ _ eD
      have sH1 := sN.trans s1
      have eq0 : PyData.eqv (.list ((zs.map fun n : Nat => (n : Int)).map PyData.int)) (.list (([] : List Int).map PyData.int)) = decide (zs = []) := by
        rw [show PyData.eqv (.list ((zs.map fun n : Nat => (n : Int)).map PyData.int)) (.list (([] : List Int).map PyData.int)) = PyData.eqvAll ((zs.map fun n : Nat => (n : Int)).map PyData.int) (([] : List Int).map PyData.int) from by simp only [PyData.eqv], eqvL_ints]
        exact decide_eq_decide.mpr (by simp)
      have eD2 := eD1
      rw [natV_map] at eD2
      have htsN := sH1.seq hts
      have w1 := hp.same sH1
      refine ⟨_, _, .lst (SqL.of eD2) (dps_ints _), .lst (SqL.of (xs := ([] : List Int).map V.int) eE) (dps_ints _), shaped_of (can_ints _) (Nat.le_trans (dep_ints _) (by decide)), shaped_of (can_ints _) (Nat.le_trans (dep_ints _) (by decide)), _, rfl, ?_⟩
      rw [eq0]
      have same : ∀ N', Same H N' → Q (.ref t0) N' := fun N' s => q N' t0 W (butx_but (same_but s)) (hp.same s) (hT.ext s) (hW.mono s) g
      by_cases cz : zs = []
      · rw [decide_eq_true cz]
        exact iteT ⟨_, rfl, same N1 sH1⟩
      · rw [decide_eq_false cz]
        refine iteF ?_
        refine ⟨_, rfl, rl, _, rfl, .inl htsN, rfl, _, rfl, ?_⟩
        refine ite2 (fun _ => ⟨_, rfl, same N1 sH1⟩) (fun h => ?_)
        have h : ¬ (((l.map fun x => V.ref x.1).length : Nat) : Int) = 12 := fun z => h (decide_eq_true (by rw [z]))
        rw [lm] at h
        have z0 : 0 < zs.length := by
          cases zs with
          | nil => exact absurd rfl cz
          | cons a r => simp
        refine ⟨_, rfl, _, rfl, p, D, false, zs.map natV, rfl, w1, SqL.of eD1, fun H' b' => SqL.of (b' _ _ nD eD1), by rw [List.length_map]; exact z0, by rw [List.length_map]; omega, fun H2 x b2 w2 hx => ?_⟩
        obtain ⟨z, hzm, rfl⟩ := List.mem_map.mp hx
        obtain ⟨zm, zc⟩ := hz z hzm
        have bH2 : But p H H2 := (same_but sH1).trans b2
        refine ⟨_, rfl, _, rfl, _, _, rfl, rfl, _, rfl, _, rfl, _, _, rfl, rfl, _, rfl, _, _, rfl, rfl, p, _, rfl, w2, by omega, by omega, fun H3 d b3 w3 d0 d1 => ⟨_, _, rfl, rfl, (by show 2 ≤ sizeLine; decide), fun T1 hT1 => ?_⟩⟩
        have s4 := same1 (o := .tup [V.int 0, V.int 1]) hT1
        have eT1 : (upd H3 T1 (.tup [V.int 0, V.int 1]) : Hp) T1 = some (.tup (prV 0)) := upd_same
        generalize upd H3 T1 (.tup [V.int 0, V.int 1]) = H4 at *
        have w4 := w3.same s4
        refine ⟨_, rfl, p, 9, rfl, w4, by decide, by decide, fun H5 d2 b5 w5 d20 d21 => ⟨_, _, rfl, rfl, (by show 2 ≤ sizeLine; decide), fun T2 hT2 => ?_⟩⟩
        have s6 := same1 (o := .tup [V.int (1 + d2), V.int 1]) hT2
        have eT2 : (upd H5 T2 (.tup [V.int (1 + d2), V.int 1]) : Hp) T2 = some (.tup (prV ((1 + d2 : Int) : Rat))) := upd_same
        generalize upd H5 T2 (.tup [V.int (1 + d2), V.int 1]) = H6 at *
        refine ⟨(by show 4 ≤ sizeLine; decide), fun u hu => ?_⟩
        have e7 : (z : Int) + 1 + d = ((z + 1 + d.toNat : Nat) : Int) := by omega
        generalize hou : HO.tup [natV z, V.int ((z : Int) + 1 + d), V.ref T1, V.ref T2] = ou at *
        have s7 := same1 (o := ou) hu
        have eu : (upd H6 u ou : Hp) u = some (.tup [.int (z : Int), .int ((z + 1 + d.toNat : Nat) : Int), .ref T1, .ref T2]) := by
          rw [upd_same, ← hou, e7]
          rfl
        generalize upd H6 u ou = H7 at *
        clear hou hu
        have k57 := (b5.keep w4).trans (keep_same (s6.trans s7))
        have b7 : But p H H7 := bH2.trans (b3.trans ((same_but s4).trans (b5.trans (same_but (s6.trans s7)))))
        have w7 := w5.same (s6.trans s7)
        have k7 := b7.keep hp
        have hts7 : SqL K H7 rl (l.map fun x => V.ref x.1) := by
          rw [eqts]
          exact b7.seqR hp hts0
        have hP7 := hP.but b7 hp
        have hT7 := tabs_but hT b7 hp
        have pos : (0 : Rat) < ((1 + d2 : Int) : Rat) := by
          rw [Rat.lt_iff]
          show (0 : Int) * 1 < (1 + d2) * 1
          omega
        have szh : Sz 1500 (((1 + d2 : Int) : Rat)) := by
          refine ⟨?_, ?_⟩
          · show (1 + d2).natAbs < 2 ^ 1500
            exact lt_18' (by omega) (by omega)
          · show ((1 : Nat) : Int).natAbs < 2 ^ 1500
            exact lt_18' (by omega) (by omega)
        have szl : Sz 1500 (0 : Rat) := ⟨lt_18' (i := 0) (by omega) (by omega), lt_18' (i := 1) (by omega) (by omega)⟩
        obtain ⟨c, hc⟩ : ∃ c : Bed, c = ⟨z, z + 1 + d.toNat, 0, ((1 + d2 : Int) : Rat)⟩ := ⟨_, rfl⟩
        have gc : GoodBed W.many c := by
          rw [hc]
          exact ⟨by show z < z + 1 + d.toNat; omega, by show z + 1 + d.toNat < W.many; omega, pos, szl, szh⟩
        have hc7 : RowAt K H7 u c := by
          rw [hc]
          exact ⟨T1, T2, SqT.of eu, k57.tup (SqT.of eT1), SqT.of (s7 _ _ eT2)⟩
        have cs : c.s = z := by rw [hc]
        refine ⟨_, rfl, _, rfl, (by show 1 ≤ sizeLine; decide), fun L0 hL0 => ?_⟩
        have s8 := same1 (o := .lst [V.ref u]) hL0
        have eL0 : (upd H7 L0 (.lst [V.ref u]) : Hp) L0 = some (.lst [V.ref u]) := upd_same
        generalize upd H7 L0 (.lst [V.ref u]) = H8 at *
        have oth : (l.map fun x => V.ref x.1) ++ [V.ref u] = (l ++ [(u, c)]).map fun x => V.ref x.1 := by
          rw [List.map_append]
          rfl
        have lo_ : (l ++ [(u, c)]).length ≤ 12 := by
          rw [List.length_append]
          show l.length + 1 ≤ 12
          omega
        refine ⟨rl, L0, _, _, rfl, rfl, s8.seq hts7, SqL.of eL0, ?_, fun L4 hL4 => ?_⟩
        · rw [← List.length_append, oth, List.length_map]
          exact Nat.le_trans lo_ (by decide)
        rw [oth]
        have tw : ∀ s, ((l ++ [(u, c)]).map fun x => x.2.s).count s ≤ 2 := fun s => by
          rw [List.map_append, List.count_append]
          show _ + ([c.s].count s) ≤ 2
          rw [List.count_cons, List.count_nil]
          have := two s
          by_cases k : c.s = s
          · rw [if_pos (by simpa using k)]
            rw [← k, cs]
            omega
          · rw [if_neg (by simpa using k)]
            omega
        have mem : ∀ v ∈ l ++ [(u, c)], GoodBed W.many v.2 ∧ RowAt K H7 v.1 v.2 := fun v hv => by
          rcases List.mem_append.mp hv with e | e
          · exact ⟨gbl v e, k7.row (hl v e)⟩
          · rw [List.mem_singleton.mp e]
            exact ⟨gc, hc7⟩
        generalize l ++ [(u, c)] = o at *
        have s9 := same1 (o := .lst (o.map fun x => V.ref x.1)) hL4
        have eL4 : (upd H8 L4 (.lst (o.map fun x => V.ref x.1)) : Hp) L4 = some (.lst (o.map fun x => V.ref x.1)) := upd_same
        generalize upd H8 L4 (.lst (o.map fun x => V.ref x.1)) = H9 at *
        have s79 := s8.trans s9
        have rg : RowsG W.many ((o.mergeSort byS).map Prod.snd) := RowsG.sort lo_ (fun v hv => (mem v hv).1) tw
        refine ⟨L4, o.map abB, rfl, by rw [List.map_map]; exact SqL.of eL4, hT7.ext s79, ab_alike, ab_sortable, ab_depth, fun Ha hE hTa => ⟨fun v hv => ?_, fun dd hd => ?_⟩⟩
        · obtain ⟨⟨t', b'⟩, hy, rfl⟩ := List.mem_map.mp hv
          obtain ⟨_, _, q1', _, _⟩ := ((mem _ hy).2).mono s79
          exact krun_int (lamK_by (sc := defScope d_law_bed_more) (by decide +kernel)) (by decide) (exn_tup hE q1') (at_k (by decide) rfl)
        · rw [ab_sort]
          have pm := ab_perm o
          have e12 : ((o.mergeSort byS).map Prod.snd).length ≤ 12 := rg.few
          have memS : ∀ v ∈ o.mergeSort byS, RowAt K Ha v.1 v.2 := fun v hv => exn_row hE (((mem v (pm.mem_iff.mp hv)).2).mono s79)
          generalize o.mergeSort byS = os at *
          have sb := same1 (o := .lst (os.map fun x => V.ref x.1)) hd
          have ed : (upd Ha dd (.lst (os.map fun x => V.ref x.1)) : Hp) dd = some (.lst (os.map fun x => V.ref x.1)) := upd_same
          have hTb := hTa.ext sb
          generalize upd Ha dd (.lst (os.map fun x => V.ref x.1)) = Hb at *
          have xb : ExtN H7 Hb := (ExtN.of s79).trans (hE.trans (ExtN.of sb))
          have hR : RowsAt K Hb dd (os.map Prod.snd) := ⟨os.map Prod.fst, SqL.of (by rw [List.map_map]; exact ed), ab_all2 fun v hv => (memS v hv).mono sb⟩
          refine ⟨_, rfl, _, rfl, _, rfl, _, rfl, _, rfl, W.many, dd, sl, os.map Prod.snd, W.parts, rfl, hR, exn_wparts xb hP7, m8, e12, good_self g, fun Hc r qss sc nr hq lq gq => ⟨(by show 3 ≤ sizeLine; decide), fun u' hu' => ?_⟩⟩
          have sd := same1 (o := .tup [V.int (W.many : Int), V.ref dd, V.ref r]) hu'
          exact q _ u' ⟨W.many, os.map Prod.snd, qss⟩ (((butx_but b7).ext xb).ext (ExtN.of (sc.trans sd))) ((exn_src xb w7).same (sc.trans sd)) (hTb.ext (sc.trans sd)) ⟨dd, r, SqT.of upd_same, hR.mono (sc.trans sd), hq.mono sd⟩ (rg.web m1 m8 lq gq)
end
end K04

namespace K04
open PySem PySem.Spec PyProof.Rows L2 LamX
/-! ### at most one change; cut; put beside -/
/-- x == [] of a list -/
def rEq0 (K : PySem.W.Frag) : R2 := fun x y H Q => ∃ a b xs, x = .ref a ∧ y = .ref b ∧ SqL K H a xs ∧ SqL K H b [] ∧ Q (.bl xs.isEmpty) H
theorem op_eq0 {X : Cx} (hr : Room 0 X.A) : OpR X (compareOp .Eq) (rEq0 X.K) := by
  intro pins s σ H x y v u Q I rx ry hq
  obtain ⟨a, b, xs, rfl, rfl, ha, hb, q⟩ := hq
  cases rx
  cases ry
  obtain ⟨its, r, p, _⟩ := I.list ha
  obtain ⟨its2, r2, p2, _⟩ := I.list hb
  cases r2
  show wpAny (model X.prog X.w) X.A (richCompare .Eq (.ref a) (.ref b)) (EP X pins σ Q) X.xe s
  cases r with
  | nil => exact SeqAt.RcAt.lists p.isList p2.isList rfl hr.units0 (e := fun _ => true) (fun j h1 _ => absurd h1 (by simp)) X.prog X.w X.xe _ ⟨.bl true, H, I, rfl, q⟩
  | cons _ _ => exact SeqAt.RcAt.lists_lengths p.isList p2.isList (by simp) hr.units0 X.prog X.w X.xe _ ⟨.bl false, H, I, rfl, q⟩
def spChange04 (K : PySem.W.Frag) (T : List (Addr × Str)) : Sp := fun vs H Q _ => ∃ (p t : Addr) (W : WebV), vs = [.ref p, .ref t] ∧ SrcAt H p ∧ WorldAt K H t W ∧ WorldOk W ∧ Tabs T H ∧
  ∀ (H' : Hp) (u : Addr) (Z : WebV), ButX p H H' → SrcAt H' p → Tabs T H' → WorldAt K H' u Z → GoodWeb Z → Q (.ref u) H'
def spCutAt (K : PySem.W.Frag) : Sp := fun vs H Q _ => ∃ (t : Addr) (W : WebV) (n : Nat), vs = [.ref t, .int (n : Int)] ∧ WorldAt K H t W ∧ GoodWeb W ∧ n ≤ W.many ∧ ∀ (H' : Hp) (u : Addr), Same H H' → WorldAt K H' u (cutF W n) → Q (.ref u) H'
def spBeside (K : PySem.W.Frag) : Sp := fun vs H Q _ => ∃ (t s : Addr) (W Z : WebV), vs = [.ref t, .ref s] ∧ WorldAt K H t W ∧ WorldAt K H s Z ∧ W.many + Z.many ≤ 8 ∧ W.parts.length ≤ 8 ∧ Z.parts.length ≤ 8 ∧ W.beds.length + Z.beds.length ≤ 12 ∧ ∀ (H' : Hp) (u : Addr), Same H H' → WorldAt K H' u (joinW W Z) → Q (.ref u) H'
theorem more_web {W : WebV} (g : GoodWeb W) (h : W.many < 8) : GoodWeb ⟨W.many + 1, W.beds, W.parts ++ [[]]⟩ := by
  have pl := g.plen
  refine ⟨by show 1 ≤ W.many + 1; omega, by show W.many + 1 ≤ 8; omega, g.few, fun b hb => ?_, g.sorted, g.two, by show (W.parts ++ [[]]).length = W.many + 1; rw [List.length_append]; exact congrArg (· + 1) pl, fun i ps e => ?_⟩
  · have gb := g.bed b hb
    exact ⟨gb.up, Nat.lt_succ_of_lt gb.le, gb.lt, gb.slo, gb.shi⟩
  · have e : (W.parts ++ [[]])[i]? = some ps := e
    by_cases c : i < W.parts.length
    · rw [List.getElem?_append_left c] at e
      exact g.part i ps e
    · rw [List.getElem?_append_right (by omega)] at e
      have e2 := List.mem_of_getElem? e
      rw [List.mem_singleton.mp e2]
      show GoodParts ((W.beds.map Bed.s).count i) []
      rw [cnt_high g (by omega)]
      exact good_nil
section
variable {P : Program} {w : World} {K : PySem.W.Frag} {mg : Str → Option Value} {base : Heap}
abbrev chN : List Str := ["source", "world", "many", "rows", "shared", "kind"]
theorem scCh : FnScope chN ["source", "world"] (defScope d_law_changed) := ⟨rfl, rfl, rfl, by decide +kernel, rfl, by decide +kernel, by decide +kernel⟩
theorem ok_change04 {T : List (Addr × Str)} {f f1 f2 f3 f4 f5 C : Addr} {fd fd1 fd2 fd3 fd4 fd5 : FuncData} (F : Fun K "_law_changed" "_law_changed" d_law_changed f fd) (Y : TxtW mg C)
    (A1 : At P w K mg base CX0 2 "_law_next" ["source", "many"] spNext f1 fd1) (A2 : At P w K mg base CX0 4 "_law_parts_changed" ["source", "world"] (spParts04 K) f2 fd2) (A3 : At P w K mg base CX0 4 "_law_beds_exchanged" ["source", "world"] (spParts04 K) f3 fd3)
    (A4 : At P w K mg base CX0 4 "_law_bed_more" ["source", "world"] (spMore04 K T) f4 fd4) (A5 : At P w K mg base CX0 3 "_law_row_changed" ["source", "world", "at"] (spRowChanged K T) f5 fd5) : FnOk P w K mg base CX0 5 f fd ["source", "world"] (spChange04 K T) := by
  refine F.ok scCh (fun vs H Q E h => ?_) (fun cdv A outer s H vs Q E hr h => ?_)
  · obtain ⟨_, _, _, rfl, _⟩ := h
    rfl
  · obtain ⟨p, t0, W, rfl, hp, hW, ok, hT, q⟩ := h
    have r0 : Room 0 _ := hr.mono (by decide)
    have r2 : Room 2 _ := hr.mono (by decide)
    have r3 : Room 3 _ := hr.mono (by decide)
    refine ⟨_, pss_cons (ps_asg (pv 1) (pg_tup (by rfl) (pgs_cons (pg_name (i := 2) scCh.nd rfl (.inl rfl)) (pgs_cons (pg_name (i := 3) scCh.nd rfl (.inl rfl)) (pgs_cons (pg_name (i := 4) scCh.nd rfl (.inl rfl)) pgs_nil)))))
      (pss_cons (ps_set (i := 5) scCh.nd rfl (Or.inl rfl) (pe_call A1.G r2 rfl A1.m A1.k A1.b .nil pass0 (pa_cons (pv 0) (pa_cons pe_int pa_nil))))
      (pss_cons (ps_if (pt_cmpR op_eq (pv 5) pe_int (nomark _)) (pss_one (ps_ret (pv 1))) pss_nil)
      (C8.pss_cut (ps_if (PW.pt (pw_and (pt_cmpR op_eq (pv 5) pe_int (nomark _)) (pw_and1 (pt_cmpR op_lt (pv 2) pe_int (nomark _))))) (pss_one (ps_ret (pe_tup (pa_cons (pe_op op_add (pv 2) pe_int) (pa_cons (pv 3) (pa_cons (pe_op op_catS (pv 4) (pe_lst (pa_cons (pe_tup pa_nil) pa_nil))) pa_nil)))))) pss_nil)
      (pss_cons (ps_if (pt_cmpR op_eq (pv 5) pe_int (nomark _)) (pss_one (ps_ret (pe_call A2.G hr rfl A2.m A2.k A2.b .nil pass0 (pa_cons (pv 0) (pa_cons (pv 1) pa_nil))))) pss_nil)
      (pss_cons (ps_if (pt_cmpR op_eq (pv 5) pe_int (nomark _)) (pss_one (ps_ret (pe_call A3.G hr rfl A3.m A3.k A3.b .nil pass0 (pa_cons (pv 0) (pa_cons (pv 1) pa_nil))))) pss_nil)
      (pss_cons (ps_if (pt_cmpR op_eq (pv 5) pe_int (nomark _)) (pss_one (ps_ret (pe_call A4.G hr rfl A4.m A4.k A4.b .nil pass0 (pa_cons (pv 0) (pa_cons (pv 1) pa_nil))))) pss_nil)
      (pss_cons (ps_if (pt_cmpR (op_eq0 r0) (pv 3) (pe_lst pa_nil) (nomark _)) (pss_one (ps_ret (pv 1))) pss_nil)
      (pss_one (ps_ret (pe_call A5.G r3 rfl A5.m A5.k A5.b .nil pass0 (pa_cons (pv 0) (pa_cons (pv 1) (pa_cons (pe_call A1.G r2 rfl A1.m A1.k A1.b .nil pass0 (pa_cons (pv 0) (pa_cons (pe_callB call_len_seq (by rfl) Y.len PySem.boot_len (pa_cons (pv 3) pa_nil)) pa_nil))) pa_nil))))))))))))), ?_⟩
    obtain ⟨rl, sl, h0, ⟨ts, hts, hA⟩, ⟨us, hus, hU⟩⟩ := id hW
    have g := ok.good
    have few := g.few
    have plen := g.plen
    have m8 := g.m8
    have lts := hA.len
    have lus := hU.len
    refine ⟨_, rfl, t0, _, rfl, h0, rfl, _, _, rfl, _, _, rfl, _, _, rfl, rfl, ?_⟩
    refine ⟨_, rfl, p, 8, rfl, hp, by decide, by decide, fun H1 k b1 w1 k0 k1 => ?_⟩
    have hW1 := hW.but b1 hp
    have hT1 := tabs_but hT b1 hp
    have hts1 := b1.seqR hp hts
    have hus1 := b1.seqR hp hus
    have same : ∀ N', Same H1 N' → Q (.ref t0) N' := fun N' s => q N' t0 W (butx_but (b1.trans (same_but s))) (w1.same s) (hT1.ext s) (hW1.mono s) g
    refine ⟨_, rfl, rfl, _, rfl, ite2 (fun _ => ⟨_, rfl, same H1 (Same.refl _)⟩) (fun _ => ?_)⟩
    refine ⟨fun σ' N' => σ' = [some (.ref p), some (.ref t0), some (.int (W.many : Int)), some (.ref rl), some (.ref sl), some (.int k)] ∧ N' = H1, ?_, ?_⟩
    · refine ⟨_, rfl, rfl, _, rfl, ?_⟩
      refine ite2 (fun _ => ?_) (fun _ => ⟨rfl, rfl⟩)
      refine ⟨_, rfl, _, _, rfl, rfl, _, rfl, ?_⟩
      refine ite2 (fun h => ?_) (fun _ => ⟨rfl, rfl⟩)
      have h : (W.many : Int) < 8 := of_decide_eq_true h
      refine ⟨_, rfl, _, _, rfl, rfl, _, rfl, _, rfl, (by show 0 ≤ sizeLine; decide), fun T0 hT0 => ⟨(by show 1 ≤ sizeLine; decide), fun L0 hL0 => ?_⟩⟩
      have s2 := same1 (o := .tup []) hT0
      have eT0 : (upd H1 T0 (.tup []) : Hp) T0 = some (.tup []) := upd_same
      generalize upd H1 T0 (.tup []) = N1 at *
      have s3 := same1 (o := .lst [V.ref T0]) hL0
      have eL0 : (upd N1 L0 (.lst [V.ref T0]) : Hp) L0 = some (.lst ([T0].map V.ref)) := upd_same
      generalize upd N1 L0 (.lst [V.ref T0]) = N2 at *
      have s23 := s2.trans s3
      refine ⟨sl, L0, _, _, rfl, rfl, s23.seq hus1, SqL.of eL0, ?_, fun L1 hL1 => ?_⟩
      · rw [List.length_map, List.length_map]
        exact Nat.le_trans (show us.length + 1 ≤ 9 by omega) (show 9 ≤ sizeLine by decide)
      rw [← List.map_append]
      have s4 := same1 (o := .lst ((us ++ [T0]).map V.ref)) hL1
      have eL1 : (upd N2 L1 (.lst ((us ++ [T0]).map V.ref)) : Hp) L1 = some (.lst ((us ++ [T0]).map V.ref)) := upd_same
      generalize upd N2 L1 (.lst ((us ++ [T0]).map V.ref)) = N3 at *
      refine ⟨(by show 3 ≤ sizeLine; decide), fun u hu => ?_⟩
      have e1 : HO.tup [V.int ((W.many : Int) + 1), V.ref rl, V.ref L1] = .tup [.int ((W.many + 1 : Nat) : Int), .ref rl, .ref L1] := by rw [Int.natCast_add]; rfl
      show Q (.ref u) (upd N3 u (.tup [V.int ((W.many : Int) + 1), V.ref rl, V.ref L1]))
      rw [e1]
      have s5 := same1 (o := .tup [V.int ((W.many + 1 : Nat) : Int), V.ref rl, V.ref L1]) hu
      have s25 := s23.trans (s4.trans s5)
      refine q _ u ⟨W.many + 1, W.beds, W.parts ++ [[]]⟩ (butx_but (b1.trans (same_but s25))) (w1.same s25) (hT1.ext s25) ⟨rl, L1, SqT.of upd_same, ⟨ts, s25.seq hts1, hA.mono fun _ _ _ _ r => ((b1.keep hp).row r).mono s25⟩, us ++ [T0], SqL.of (s5 _ _ eL1), All2.app (hU.mono fun _ _ _ _ r => Same.tup s25 ((b1.keep hp).tup r)) (All2.snoc (as := []) (bs := []) .nil (SqT.of ((s3.trans (s4.trans s5)) _ _ eT0)))⟩ (more_web g (by omega))
    · rintro σ' N' ⟨rfl, rfl⟩
      have out : ∀ (H' : Hp) (u : Addr) (Z : WebV), But p N' H' → SrcAt H' p → WorldAt K H' u Z → GoodWeb Z → Q (.ref u) H' := fun H' u Z b' w' hZ gZ => q H' u Z (butx_but (b1.trans b')) w' (tabs_but hT1 b' w1) hZ gZ
      refine ⟨_, rfl, rfl, _, rfl, ite2 (fun _ => ?_) (fun _ => ?_)⟩
      · exact ⟨_, rfl, _, rfl, p, t0, W, rfl, w1, hW1, g, out⟩
      refine ⟨_, rfl, rfl, _, rfl, ite2 (fun _ => ?_) (fun _ => ?_)⟩
      · exact ⟨_, rfl, _, rfl, p, t0, W, rfl, w1, hW1, g, out⟩
      refine ⟨_, rfl, rfl, _, rfl, ite2 (fun _ => ?_) (fun _ => ?_)⟩
      · exact ⟨_, rfl, _, rfl, p, t0, W, rfl, w1, hW1, g, hT1, fun H' u Z b' w' t' hZ gZ => q H' u Z ((butx_but b1).trans b') w' t' hZ gZ⟩
      refine ⟨_, rfl, (by show 0 ≤ sizeLine; decide), fun E0 hE0 => ?_⟩
      have s2 := same1 (o := .lst []) hE0
      have eE : (upd N' E0 (.lst []) : Hp) E0 = some (.lst []) := upd_same
      generalize upd N' E0 (.lst []) = N1 at *
      refine ⟨rl, E0, _, rfl, rfl, s2.seq hts1, SqL.of eE, _, rfl, ?_⟩
      cases ts with
      | nil => exact iteT ⟨_, rfl, same N1 s2⟩
      | cons t ts =>
        refine iteF ?_
        have l0 : 0 < W.beds.length := by
          rw [List.length_cons] at lts
          omega
        have w2 := w1.same s2
        have hts2 := s2.seq hts1
        refine ⟨_, rfl, _, rfl, _, rfl, _, rfl, rl, _, rfl, .inl hts2, p, _, rfl, w2, by rw [List.length_map, lts]; omega, by rw [List.length_map, lts]; omega, fun N2 d b2 w3 d0 d1 => ?_⟩
        rw [List.length_map, lts] at d1
        obtain ⟨dn, rfl⟩ : ∃ n : Nat, d = (n : Int) := ⟨d.toNat, by omega⟩
        have b12 : But p N' N2 := (same_but s2).trans b2
        exact ⟨p, t0, W, dn, rfl, w3, hW1.but b12 w1, ok, by omega, tabs_but hT1 b12 w1, fun H' u Z b' w' t' hZ gZ => q H' u Z ((butx_but (b1.trans b12)).trans b') w' t' hZ gZ⟩
end
end K04

namespace K04
open PySem PySem.Spec PyProof.Rows L2 LamX
section
variable {P : Program} {w : World} {K : PySem.W.Frag} {mg : Str → Option Value} {base : Heap}
abbrev caN : List Str := ["world", "place", "many", "rows", "shared", "one"]
theorem scCa : FnScope caN ["world", "place"] (defScope d_law_cut_at) := ⟨rfl, rfl, rfl, by decide +kernel, rfl, by decide +kernel, by decide +kernel⟩
theorem ok_cutAt {f : Addr} {fd : FuncData} (F : Fun K "_law_cut_at" "_law_cut_at" d_law_cut_at f fd) : FnOk P w K mg base CX0 1 f fd ["world", "place"] (spCutAt K) := by
  refine F.ok scCa (fun vs H Q E h => ?_) (fun cdv A outer s H vs Q E hr h => ?_)
  · obtain ⟨_, _, _, rfl, _⟩ := h
    rfl
  · obtain ⟨t0, W, n, rfl, hW, g, hn, q⟩ := h
    refine ⟨_, pss_cons (ps_asg (pv 0) (pg_tup (by rfl) (pgs_cons (pg_name (i := 2) scCa.nd rfl (.inl rfl)) (pgs_cons (pg_name (i := 3) scCa.nd rfl (.inl rfl)) (pgs_cons (pg_name (i := 4) scCa.nd rfl (.inl rfl)) pgs_nil)))))
      (pss_one (ps_ret (pe_tup (pa_cons (pv 2) (pa_cons
        (pe_lc (own := [("one", 5)]) (g := gName 5) (by rfl) scCa.nd (pi_list (pv 3)) (blkOk_by (own := [("one", 5)]) (N := caN) (sc := defScope d_law_cut_at) (by decide +kernel)) (fun _ _ _ _ _ => pg_name (i := 5) scCa.nd rfl (.inl rfl))
          (fun _ _ _ _ _ => pts_one (pt_cmpR op_lt (pe_ix (show IxR _ (rIxT K) from ix_tup) (pv 5) pe_int (fun _ _ => rfl)) (pv 1) (nomark _))) (fun _ _ _ _ _ => pv 5))
        (pa_cons (pe_op op_cat (pe_slice sl_list (pv 4) po_none (po_some (pv 1))) (pe_op op_rep (pe_lst (pa_cons (pe_tup pa_nil) pa_nil)) (pe_op op_sub (pv 2) (pv 1)))) pa_nil)))))), ?_⟩
    obtain ⟨rl, sl, h0, ⟨ts, hts, hA⟩, ⟨us, hus, hU⟩⟩ := id hW
    have few := g.few
    have plen := g.plen
    have m8 := g.m8
    have lts := hA.len
    have lus := hU.len
    refine ⟨_, rfl, t0, _, rfl, h0, rfl, _, _, rfl, _, _, rfl, _, _, rfl, rfl, ?_⟩
    refine ⟨_, rfl, _, rfl, rl, rfl, ⟨_, hts⟩, fun D hD => ?_⟩
    refine lc_list (K := K) (a := rl) (xs := ts.map V.ref) (fun i N => ∃ zs : List Addr, N D = some (.lst (zs.map V.ref)) ∧ zs.length ≤ i ∧ All2 (RowAt K N) zs ((W.beds.take i).filter fun b => decide (b.s < n)) ∧ Same H N) ⟨[], upd_same, Nat.le_refl _, .nil, same1 hD⟩ ?_ ?_ ?_
    · rintro i N _ ⟨_, _, _, _, sN⟩
      exact sN.seq hts
    · rintro i x N hx ⟨zs, eD, lz, hzs, sN⟩
      rw [List.getElem?_map] at hx
      obtain ⟨t, ht, rfl⟩ := Option.map_eq_some_iff.mp hx
      have il : i < W.beds.length := by
        have := (List.getElem?_eq_some_iff.mp ht).1
        omega
      have hbed := (hA.all i t _ ht (List.getElem?_eq_getElem il)).mono sN
      obtain ⟨x, y, q1, hx1, hy1⟩ := id hbed
      refine ⟨rfl, _, rfl, t, _, _, _, rfl, rfl, q1, at_k (by decide) rfl, _, rfl, _, _, rfl, rfl, _, rfl, ?_⟩
      refine ite2 (fun h => ?_) (fun h => ?_)
      · have h : ((W.beds[i].s : Nat) : Int) < (n : Int) := of_decide_eq_true h
        have kp : KeepL N (upd N D (.lst (zs.map V.ref ++ [V.ref t]))) := keep_put eD
        refine ⟨_, rfl, _, eD, ?_, zs ++ [t], by rw [List.map_append]; exact upd_same, by rw [List.length_append]; exact Nat.succ_le_succ lz, ?_, fun a o ea => ?_⟩
        · rw [List.length_map]
          exact Nat.lt_of_le_of_lt lz (Nat.lt_of_lt_of_le (show i < 12 by omega) (show 12 ≤ sizeLine by decide))
        · rw [List.take_succ_eq_append_getElem il, List.filter_append, List.filter_cons, if_pos (decide_eq_true (by omega)), List.filter_nil]
          exact (hzs.mono fun _ _ _ _ r => kp.row r).snoc (kp.row hbed)
        · rw [upd_ne (ne_of_none ea hD)]
          exact sN _ _ ea
      · have h : ¬ ((W.beds[i].s : Nat) : Int) < (n : Int) := fun z => h (decide_eq_true z)
        refine ⟨zs, eD, Nat.le_succ_of_le lz, ?_, sN⟩
        rw [List.take_succ_eq_append_getElem il, List.filter_append, List.filter_cons, if_neg (by rw [decide_eq_false (show ¬ W.beds[i].s < n by omega)]; exact Bool.false_ne_true), List.filter_nil, List.append_nil]
        exact hzs
    · rintro N ⟨zs, eD, _, hzs, sN⟩
      rw [List.length_map, lts, List.take_length] at hzs
      refine ⟨_, rfl, _, rfl, _, rfl, sl, _, rfl, sN.seq hus, fun L1 hL1 => ?_⟩
      rw [cut_to, ← List.map_take]
      have s1 : Same N (upd N L1 (.lst ((us.take n).map V.ref))) := same1 hL1
      have eL1 : (upd N L1 (.lst ((us.take n).map V.ref)) : Hp) L1 = some (.lst ((us.take n).map V.ref)) := upd_same
      generalize upd N L1 (.lst ((us.take n).map V.ref)) = N1 at *
      refine ⟨(by show 0 ≤ sizeLine; decide), fun T hT => ⟨(by show 1 ≤ sizeLine; decide), fun L2 hL2 => ?_⟩⟩
      have s2 : Same N1 (upd N1 T (.tup [])) := same1 hT
      have eT : (upd N1 T (.tup []) : Hp) T = some (.tup []) := upd_same
      generalize upd N1 T (.tup []) = N2 at *
      have s3 : Same N2 (upd N2 L2 (.lst [.ref T])) := same1 hL2
      have eL2 : (upd N2 L2 (.lst [.ref T]) : Hp) L2 = some (.lst [.ref T]) := upd_same
      generalize upd N2 L2 (.lst [.ref T]) = N3 at *
      have s13 := s1.trans (s2.trans s3)
      have k1 : ((W.many : Int) - (n : Int)).toNat = W.many - n := by omega
      refine ⟨_, rfl, _, rfl, _, _, rfl, rfl, L2, _, _, rfl, rfl, eL2, by omega, by omega, ?_, fun L3 hL3 => ?_⟩
      · rw [k1]
        exact Nat.le_trans (show 1 * (W.many - n) ≤ 8 by omega) (show 8 ≤ sizeLine by decide)
      have rep : (List.replicate ((W.many : Int) - (n : Int)).toNat [V.ref T]).flatten = (List.replicate (W.many - n) T).map V.ref := by
        rw [k1, List.map_replicate]
        generalize W.many - n = j
        induction j with
        | zero => rfl
        | succ j ih => rw [List.replicate_succ, List.flatten_cons, ih, List.replicate_succ]; rfl
      rw [rep]
      have s4 : Same N3 (upd N3 L3 (.lst ((List.replicate (W.many - n) T).map V.ref))) := same1 hL3
      have eL3 : (upd N3 L3 (.lst ((List.replicate (W.many - n) T).map V.ref)) : Hp) L3 = some (.lst ((List.replicate (W.many - n) T).map V.ref)) := upd_same
      generalize upd N3 L3 (.lst ((List.replicate (W.many - n) T).map V.ref)) = N4 at *
      refine ⟨L1, L3, _, _, rfl, rfl, (s2.trans (s3.trans s4)) _ _ eL1, eL3, ?_, fun L4 hL4 => ?_⟩
      · rw [List.length_map, List.length_map, List.length_take, List.length_replicate]
        exact Nat.le_trans (show min n us.length + (W.many - n) ≤ 8 by omega) (show 8 ≤ sizeLine by decide)
      rw [← List.map_append]
      have s5 : Same N4 (upd N4 L4 (.lst ((us.take n ++ List.replicate (W.many - n) T).map V.ref))) := same1 hL4
      have eL4 : (upd N4 L4 (.lst ((us.take n ++ List.replicate (W.many - n) T).map V.ref)) : Hp) L4 = some (.lst ((us.take n ++ List.replicate (W.many - n) T).map V.ref)) := upd_same
      generalize upd N4 L4 (.lst ((us.take n ++ List.replicate (W.many - n) T).map V.ref)) = N5 at *
      refine ⟨(by show 3 ≤ sizeLine; decide), fun u hu => ?_⟩
      have s6 := same1 (o := .tup [V.int (W.many : Int), V.ref D, V.ref L4]) hu
      have s16 := s13.trans (s4.trans (s5.trans s6))
      refine q _ u (sN.trans s16) ⟨D, L4, SqT.of upd_same, ⟨zs, SqL.of (s16 _ _ eD), hzs.mono fun _ _ _ _ r => r.mono s16⟩, _, SqL.of (s6 _ _ eL4), ?_⟩
      refine All2.app ((hU.take n).mono fun _ _ _ _ r => Same.tup (sN.trans s16) r) ⟨by rw [List.length_replicate, List.length_replicate], fun i a b ha hb' => ?_⟩
      obtain rfl := List.eq_of_mem_replicate (List.mem_of_getElem? ha)
      obtain rfl := List.eq_of_mem_replicate (List.mem_of_getElem? hb')
      exact SqT.of ((s3.trans (s4.trans (s5.trans s6))) _ _ eT)
abbrev pbN : List Str := ["one", "other", "by", "shifted", "start", "finish", "low", "high"]
theorem scPbs : FnScope pbN ["one", "other"] (defScope d_law_put_beside) := ⟨rfl, rfl, rfl, by decide +kernel, rfl, by decide +kernel, by decide +kernel⟩
theorem ok_beside {f : Addr} {fd : FuncData} (F : Fun K "_law_put_beside" "_law_put_beside" d_law_put_beside f fd) : FnOk P w K mg base CX0 1 f fd ["one", "other"] (spBeside K) := by
  refine F.ok scPbs (fun vs H Q E h => ?_) (fun cdv A outer s H vs Q E hr h => ?_)
  · obtain ⟨_, _, _, _, rfl, _⟩ := h
    rfl
  · obtain ⟨t0, t1, W, Z, rfl, hW, hZ, m8, p8, q8, few, q⟩ := h
    refine ⟨_, pss_cons (ps_set (i := 2) scPbs.nd rfl (Or.inr rfl) (pe_ix ix_tup (pv 0) pe_int (fun _ _ => rfl)))
      (pss_cons (ps_setLc (i := 3) (own := [("start", 4), ("finish", 5), ("low", 6), ("high", 7)]) (g := gTup K 4 (gCons (gName 4) (gCons (gName 5) (gCons (gName 6) (gCons (gName 7) gNil))))) (by rfl) scPbs.nd rfl rfl (sw_true rfl rfl rfl (by decide +kernel)) (pi_list (pe_ix ix_tup (pv 1) pe_int (fun _ _ => rfl))) (blkOk_by (own := [("start", 4), ("finish", 5), ("low", 6), ("high", 7)]) (N := pbN) (sc := defScope d_law_put_beside) (by decide +kernel))
          (fun _ _ _ _ _ => pg_tup (by rfl) (pgs_cons (pg_name (i := 4) scPbs.nd rfl (.inl rfl)) (pgs_cons (pg_name (i := 5) scPbs.nd rfl (.inl rfl)) (pgs_cons (pg_name (i := 6) scPbs.nd rfl (.inl rfl)) (pgs_cons (pg_name (i := 7) scPbs.nd rfl (.inl rfl)) pgs_nil))))) (fun _ _ _ _ _ => pts_nil)
          (fun _ _ _ _ _ => pe_tup (pa_cons (pe_op op_add (pv 4) (pv 2)) (pa_cons (pe_op op_add (pv 5) (pv 2)) (pa_cons (pv 6) (pa_cons (pv 7) pa_nil))))))
      (pss_one (ps_ret (pe_tup (pa_cons (pe_op op_add (pv 2) (pe_ix ix_tup (pv 1) pe_int (fun _ _ => rfl))) (pa_cons (pe_op op_catS (pe_ix ix_tup (pv 0) pe_int (fun _ _ => rfl)) (pv 3)) (pa_cons (pe_op op_catS (pe_ix ix_tup (pv 0) pe_int (fun _ _ => rfl)) (pe_ix ix_tup (pv 1) pe_int (fun _ _ => rfl))) pa_nil))))))), ?_⟩
    obtain ⟨rl, sl, h0, ⟨ts, hts, hA⟩, ⟨us, hus, hU⟩⟩ := id hW
    obtain ⟨rl2, sl2, h02, ⟨ts2, hts2, hA2⟩, ⟨us2, hus2, hU2⟩⟩ := id hZ
    have lts := hA.len
    have lts2 := hA2.len
    have lus := hU.len
    have lus2 := hU2.len
    refine ⟨_, rfl, t0, _, _, _, rfl, rfl, h0, at_k (by decide) rfl, ?_⟩
    refine ⟨_, rfl, t1, _, _, _, rfl, rfl, h02, at_k (by decide) rfl, rl2, rfl, ⟨_, hts2⟩, fun D hD => ?_⟩
    refine lc_list (K := K) (a := rl2) (xs := ts2.map V.ref) (fun i N => ∃ zs : List Addr, N D = some (.lst (zs.map V.ref)) ∧ All2 (RowAt K N) zs ((Z.beds.take i).map (shB W.many)) ∧ Same H N) ⟨[], upd_same, .nil, same1 hD⟩ ?_ ?_ ?_
    · rintro i N _ ⟨_, _, _, sN⟩
      exact sN.seq hts2
    · rintro i x N hx ⟨zs, eD, hzs, sN⟩
      rw [List.getElem?_map] at hx
      obtain ⟨t, ht, rfl⟩ := Option.map_eq_some_iff.mp hx
      have il : i < Z.beds.length := by
        have := (List.getElem?_eq_some_iff.mp ht).1
        omega
      obtain ⟨x, y, q1, hx1, hy1⟩ := (hA2.all i t _ ht (List.getElem?_eq_getElem il)).mono sN
      generalize hbi : Z.beds[i] = bi at *
      refine ⟨t, _, rfl, q1, rfl, _, _, rfl, _, _, rfl, _, _, rfl, _, _, rfl, rfl, rfl, ?_⟩
      refine ⟨_, rfl, _, rfl, _, _, rfl, rfl, _, rfl, _, rfl, _, _, rfl, rfl, _, rfl, _, rfl, (by show 4 ≤ sizeLine; decide), fun u hu => ?_⟩
      have s3 : Same N (upd N u (.tup [.int ((bi.s : Int) + (W.many : Int)), .int ((bi.e : Int) + (W.many : Int)), .ref x, .ref y])) := same1 hu
      have eu : (upd N u (.tup [.int ((bi.s : Int) + (W.many : Int)), .int ((bi.e : Int) + (W.many : Int)), .ref x, .ref y]) : Hp) u = some (.tup [.int (((shB W.many bi).s : Nat) : Int), .int (((shB W.many bi).e : Nat) : Int), .ref x, .ref y]) := by
        rw [upd_same]
        show _ = some (HO.tup [.int ((bi.s + W.many : Nat) : Int), .int ((bi.e + W.many : Nat) : Int), .ref x, .ref y])
        rw [Int.natCast_add, Int.natCast_add]
      generalize upd N u (.tup [.int ((bi.s : Int) + (W.many : Int)), .int ((bi.e : Int) + (W.many : Int)), .ref x, .ref y]) = N2 at *
      have eD2 := s3 _ _ eD
      have kp : KeepL N2 (upd N2 D (.lst (zs.map V.ref ++ [V.ref u]))) := keep_put eD2
      refine ⟨_, eD2, ?_, zs ++ [u], by rw [List.map_append]; exact upd_same, ?_, fun a o ea => ?_⟩
      · rw [List.length_map, hzs.len, List.length_map, List.length_take]
        exact Nat.lt_of_le_of_lt (Nat.min_le_left _ _) (Nat.lt_of_lt_of_le (show i < 12 by omega) (show 12 ≤ sizeLine by decide))
      · rw [List.take_succ_eq_append_getElem il, List.map_append, hbi]
        exact (hzs.mono fun _ _ _ _ r => kp.row (r.mono s3)).snoc (kp.row ⟨x, y, SqT.of eu, Same.tup s3 hx1, Same.tup s3 hy1⟩)
      · rw [upd_ne (ne_of_none ea hD)]
        exact s3 _ _ (sN _ _ ea)
    · rintro N ⟨zs, eD, hzs, sN⟩
      rw [List.length_map, lts2, List.take_length] at hzs
      have h0N := Same.tup sN h0
      have h02N := Same.tup sN h02
      refine ⟨_, rfl, _, rfl, t1, _, _, _, rfl, rfl, h02N, at_k (by decide) rfl, _, _, rfl, rfl, ?_⟩
      refine ⟨_, rfl, t0, _, _, _, rfl, rfl, h0N, at_k (by decide) rfl, _, rfl, rl, D, _, _, rfl, rfl, sN.seq hts, SqL.of eD, ?_, fun L1 hL1 => ?_⟩
      · rw [List.length_map, List.length_map, lts, hzs.len, List.length_map]
        exact Nat.le_trans few (by decide)
      rw [← List.map_append]
      have s1 := same1 (o := .lst ((ts ++ zs).map V.ref)) hL1
      have eL1 : (upd N L1 (.lst ((ts ++ zs).map V.ref)) : Hp) L1 = some (.lst ((ts ++ zs).map V.ref)) := upd_same
      generalize upd N L1 (.lst ((ts ++ zs).map V.ref)) = N1 at *
      have sN1 := sN.trans s1
      refine ⟨_, rfl, t0, _, _, _, rfl, rfl, Same.tup s1 h0N, at_k (by decide) rfl, _, rfl, t1, _, _, _, rfl, rfl, Same.tup s1 h02N, at_k (by decide) rfl, sl, sl2, _, _, rfl, rfl, sN1.seq hus, sN1.seq hus2, ?_, fun L2 hL2 => ?_⟩
      · rw [List.length_map, List.length_map]
        exact Nat.le_trans (show us.length + us2.length ≤ 16 by omega) (show 16 ≤ sizeLine by decide)
      rw [← List.map_append]
      have s2 := same1 (o := .lst ((us ++ us2).map V.ref)) hL2
      have eL2 : (upd N1 L2 (.lst ((us ++ us2).map V.ref)) : Hp) L2 = some (.lst ((us ++ us2).map V.ref)) := upd_same
      generalize upd N1 L2 (.lst ((us ++ us2).map V.ref)) = N2 at *
      refine ⟨(by show 3 ≤ sizeLine; decide), fun u hu => ?_⟩
      have e1 : HO.tup [V.int ((W.many : Int) + (Z.many : Int)), V.ref L1, V.ref L2] = .tup [.int ((W.many + Z.many : Nat) : Int), .ref L1, .ref L2] := by rw [Int.natCast_add]
      show Q (.ref u) (upd N2 u (.tup [V.int ((W.many : Int) + (Z.many : Int)), V.ref L1, V.ref L2]))
      rw [e1]
      have s3 := same1 (o := .tup [V.int ((W.many + Z.many : Nat) : Int), V.ref L1, V.ref L2]) hu
      have s13 := s1.trans (s2.trans s3)
      have sA := sN.trans s13
      exact q _ u sA ⟨L1, L2, SqT.of upd_same, ⟨ts ++ zs, SqL.of ((s2.trans s3) _ _ eL1), All2.app (hA.mono fun _ _ _ _ r => r.mono sA) (hzs.mono fun _ _ _ _ r => r.mono s13)⟩, us ++ us2, SqL.of (s3 _ _ eL2), All2.app (hU.mono fun _ _ _ _ r => Same.tup sA r) (hU2.mono fun _ _ _ _ r => Same.tup sA r)⟩
end
end K04

namespace K04
open PySem PySem.Spec PyProof.Rows L2 LamX
/-! ### two webs, held against one another in all ways -/
def spTwo04 (K : PySem.W.Frag) (C CW : Addr) : Sp := fun vs H Q _ => ∃ (a b : Addr) (W Z : WebV) (due : Bool), vs = [.ref a, .ref b, .bl due] ∧ a ≠ b ∧ WebAt K C CW H a W ∧ WebAt K C CW H b Z ∧ due = decide (W = Z) ∧ ∀ H', Ext H H' → Q (.bl true) H'
theorem mon_webB {K : PySem.W.Frag} {C CW : Addr} : MonB (DOwnB CW (RWebB K C CW)) := by
  rintro x y r H H' e ⟨a, b, dx, dy, fs, gs, hx, hy, ne, h1, h2, W, Z, hW, hZ, hr⟩
  exact ⟨a, b, dx, dy, fs, gs, hx, hy, ne, e _ _ h1, e _ _ h2, W, Z, hW.mono e, hZ.mono e, hr⟩
theorem web_own {K : PySem.W.Frag} {C CW a b : Addr} {H : Hp} {W Z : WebV} (ne : a ≠ b) (hW : WebAt K C CW H a W) (hZ : WebAt K C CW H b Z) : DOwnB CW (RWebB K C CW) (.ref a) (.ref b) (decide (W = Z)) H := by
  obtain ⟨dx, _, _, e1, _⟩ := id hW
  obtain ⟨dy, _, _, e2, _⟩ := id hZ
  exact ⟨a, b, dx, dy, _, _, rfl, rfl, ne, e1, e2, W, Z, hW, hZ, rfl⟩
section
variable {P : Program} {w : World} {K : PySem.W.Frag} {mg : Str → Option Value} {base : Heap}
abbrev twN : List Str := ["one", "other", "due", "found"]
theorem scTw : FnScope twN ["one", "other", "due"] (defScope d_law_two_right) := ⟨rfl, rfl, rfl, by decide +kernel, rfl, by decide +kernel, by decide +kernel⟩
theorem ok_two04 {f fE C CW : Addr} {fd fdE : FuncData} (F : Fun K "_law_two_right" "_law_two_right" d_law_two_right f fd)
    (GE : FnOk P w K mg base CX0 4 fE fdE ["self", "other"] (spEqB (RWebB K C CW))) (bE : Binds K fdE ["self", "other"] []) (atE : PySem.W.findIn K (.ref CW) "__eq__" = some (some (.ref fE))) (isE : PySem.W.isFn K (.ref fE) = true)
    (hne : PySem.W.findIn K (.ref CW) "__ne__" = some (some (.builtin "object.__ne__"))) (hob : PySem.W.subIn K (.ref CW) (.type "object") = some true) : FnOk P w K mg base CX0 7 f fd ["one", "other", "due"] (spTwo04 K C CW) := by
  refine F.ok scTw (fun vs H Q E h => ?_) (fun cdv A outer s H vs Q E hr h => ?_)
  · obtain ⟨_, _, _, _, _, rfl, _⟩ := h
    rfl
  · obtain ⟨a, b, W, Z, due, rfl, ne, hW, hZ, ed, q⟩ := h
    have r4 : Room 4 _ := hr.mono (by decide)
    have r5 : Room 5 _ := hr.mono (by decide)
    have r1 : Room 1 _ := hr.mono (by decide)
    have O : OwnB (cxOf CX0 P w K mg base twN "_law_two_right" (defScope d_law_two_right) f cdv A outer s H E).nox 4 CW fE (RWebB K C CW) := ⟨⟨_, _, GE, bE⟩, atE, isE⟩
    refine ⟨_, pss_cons (ps_set (i := 3) scTw.nd rfl (Or.inl rfl) (pe_lst (pa_cons (pe_cmpR (op_eqB (rcB_own O) r4) (pv 0) (pv 1) (nomark _)) (pa_cons (pe_cmpR (op_eqB (rcB_own O) r4) (pv 1) (pv 0) (nomark _))
        (pa_cons (pe_not (pe_cmpR (op_neB O hr hne hob) (pv 0) (pv 1) (nomark _))) (pa_cons (pe_not (pe_cmpR (op_neB O hr hne hob) (pv 1) (pv 0) (nomark _)))
        (pa_cons (pe_cmpR (op_inB1 (eqB_own O) r5) (pv 0) (pe_lst (pa_cons (pv 1) pa_nil)) (by rfl)) (pa_cons (pe_cmpR (op_eqB (rcB_list mon_webB (eqB_own O)) r5) (pe_lst (pa_cons (pv 0) pa_nil)) (pe_lst (pa_cons (pv 1) pa_nil)) (nomark _)) pa_nil))))))))
      (pss_one (ps_ret (pe_cmpR (op_eqG (rcG_list mon_flat eqG_flat) r1) (pv 3) (pe_op op_rep (pe_lst (pa_cons (pv 2) pa_nil)) pe_int) (nomark _)))), ?_⟩
    have eZ : decide (Z = W) = decide (W = Z) := decide_eq_decide.mpr eq_comm
    refine ⟨_, rfl, _, rfl, _, web_own ne hW hZ, fun H1 x1 => ?_⟩
    have hW1 := hW.mono x1
    have hZ1 := hZ.mono x1
    refine ⟨_, rfl, _, rfl, _, web_own ne.symm hZ1 hW1, fun H2 x2 => ?_⟩
    rw [eZ]
    have hW2 := hW1.mono x2
    have hZ2 := hZ1.mono x2
    refine ⟨_, rfl, _, rfl, _, web_own ne hW2 hZ2, fun H3 x3 => ?_⟩
    rw [← ed]
    refine ⟨_, rfl, ?_⟩
    rw [Bool.not_not]
    have hW3 := hW2.mono x3
    have hZ3 := hZ2.mono x3
    refine ⟨_, rfl, _, rfl, _, web_own ne.symm hZ3 hW3, fun H4 x4 => ?_⟩
    rw [eZ, ← ed]
    refine ⟨_, rfl, ?_⟩
    rw [Bool.not_not]
    have hW4 := hW3.mono x4
    have hZ4 := hZ3.mono x4
    refine ⟨_, rfl, _, rfl, (by show 1 ≤ sizeLine; decide), fun L1 hL1 => ?_⟩
    have s5 : Ext H4 (upd H4 L1 (.lst [V.ref b])) := same1 hL1
    have e5 : (upd H4 L1 (.lst [V.ref b]) : Hp) L1 = some (.lst [V.ref b]) := upd_same
    generalize upd H4 L1 (.lst [V.ref b]) = H5 at *
    refine ⟨L1, _, _, rfl, e5, web_own ne.symm (hZ4.mono s5) (hW4.mono s5), fun H6 x6 => ?_⟩
    rw [eZ, ← ed]
    have hW6 := (hW4.mono s5).mono x6
    have hZ6 := (hZ4.mono s5).mono x6
    refine ⟨_, rfl, (by show 1 ≤ sizeLine; decide), fun L2 hL2 => ?_⟩
    have s7 : Ext H6 (upd H6 L2 (.lst [V.ref a])) := same1 hL2
    have e7 : (upd H6 L2 (.lst [V.ref a]) : Hp) L2 = some (.lst [V.ref a]) := upd_same
    generalize upd H6 L2 (.lst [V.ref a]) = H7 at *
    refine ⟨_, rfl, (by show 1 ≤ sizeLine; decide), fun L3 hL3 => ?_⟩
    have s8 : Ext H7 (upd H7 L3 (.lst [V.ref b])) := same1 hL3
    have e8 : (upd H7 L3 (.lst [V.ref b]) : Hp) L3 = some (.lst [V.ref b]) := upd_same
    generalize upd H7 L3 (.lst [V.ref b]) = H8 at *
    refine ⟨due, ⟨L2, L3, _, _, rfl, rfl, s8 _ _ e7, e8, .inr ⟨[due], .cons (by rw [ed]; exact web_own ne ((hW6.mono s7).mono s8) ((hZ6.mono s7).mono s8)) .nil, by simp⟩⟩, fun H9 x9 => ?_⟩
    refine ⟨(by show 6 ≤ sizeLine; decide), fun L hL => ?_⟩
    have s10 : Ext H9 (upd H9 L (.lst [V.bl due, V.bl due, V.bl due, V.bl due, V.bl due, V.bl due])) := same1 hL
    have e10 : (upd H9 L (.lst [V.bl due, V.bl due, V.bl due, V.bl due, V.bl due, V.bl due]) : Hp) L = some (.lst [V.bl due, V.bl due, V.bl due, V.bl due, V.bl due, V.bl due]) := upd_same
    generalize upd H9 L (.lst [V.bl due, V.bl due, V.bl due, V.bl due, V.bl due, V.bl due]) = H10 at *
    refine ⟨_, rfl, _, rfl, (by show 1 ≤ sizeLine; decide), fun M1 hM1 => ?_⟩
    have s11 : Ext H10 (upd H10 M1 (.lst [V.bl due])) := same1 hM1
    have e11 : (upd H10 M1 (.lst [V.bl due]) : Hp) M1 = some (.lst [V.bl due]) := upd_same
    generalize upd H10 M1 (.lst [V.bl due]) = H11 at *
    refine ⟨M1, _, _, rfl, rfl, e11, by decide, by decide, (by show 6 ≤ sizeLine; decide), fun M2 hM2 => ?_⟩
    have s12 : Ext H11 (upd H11 M2 (.lst (List.replicate (6 : Int).toNat [V.bl due]).flatten)) := same1 hM2
    have e12 : (upd H11 M2 (.lst (List.replicate (6 : Int).toNat [V.bl due]).flatten) : Hp) M2 = some (.lst [V.bl due, V.bl due, V.bl due, V.bl due, V.bl due, V.bl due]) := upd_same
    generalize upd H11 M2 (.lst (List.replicate (6 : Int).toNat [V.bl due]).flatten) = H12 at *
    have fl : ∀ H, DFlat (.bl due) (.bl due) H := fun H => ⟨rfl, rfl, by unfold eqV; simp⟩
    exact ⟨⟨L, M2, _, _, rfl, rfl, s12 _ _ (s11 _ _ e10), e12, .cons (fl _) (.cons (fl _) (.cons (fl _) (.cons (fl _) (.cons (fl _) (.cons (fl _) .nil)))))⟩, fun H13 x13 => q H13 (x1.trans (x2.trans (x3.trans (x4.trans (s5.trans (x6.trans (s7.trans (s8.trans (x9.trans (s10.trans (s11.trans (s12.trans x13))))))))))))⟩
end
end K04

namespace K04
open PySem PySem.Spec PyProof.Rows L2 LamX
/-! ### a world as data -/
def bD (b : Bed) : PyData := .tuple [.int (b.s : Int), .int (b.e : Int), .tuple ([b.lo.num, (b.lo.den : Int)].map PyData.int), .tuple ([b.hi.num, (b.hi.den : Int)].map PyData.int)]
def wD (W : WebV) : PyData := .tuple [.int (W.many : Int), .list (W.beds.map bD), .list (W.parts.map pnd)]
theorem dp_row {K : PySem.W.Frag} {H : Hp} {t : Addr} {b : Bed} (h : RowAt K H t b) : Dp K H (.ref t) (bD b) := by
  obtain ⟨x, y, a, hx, hy⟩ := h
  exact .tup a (.cons (.int _) (.cons (.int _) (.cons (.tup (ns_lo hx) (dps_ints _)) (.cons (.tup (ns_lo hy) (dps_ints _)) .nil))))
where
  ns_lo {K : PySem.W.Frag} {H : Hp} {x : Addr} {q : Rat} (h : PairAt K H x q) : SqT K H x ([q.num, (q.den : Int)].map V.int) := h
theorem dp_world {K : PySem.W.Frag} {H : Hp} {t : Addr} {W : WebV} (h : WorldAt K H t W) : Dp K H (.ref t) (wD W) := by
  obtain ⟨rl, sl, h0, ⟨ts, hts, hA⟩, ⟨us, hus, hU⟩⟩ := h
  exact .tup h0 (.cons (.int _) (.cons (.lst hts (dp_list (fun _ _ r => dp_row r) hA)) (.cons (.lst hus (dp_list (fun _ _ r => dp_part r) hU)) .nil)))
theorem can_bD : ∀ bs : List Bed, PyData.canLayAll0 (bs.map bD) = true
  | [] => by simp [PyData.canLayAll0]
  | b :: r => by
    have h1 := can_ints [b.lo.num, (b.lo.den : Int)]
    have h2 := can_ints [b.hi.num, (b.hi.den : Int)]
    simp only [List.map_cons, PyData.canLayAll0, bD, PyData.canLay0, can_bD r, Bool.and_true, Bool.true_and]
    simp only [List.map_cons, PyData.canLayAll0] at h1 h2
    simp [PyData.canLayAll0, PyData.canLay0]
theorem dep_bD : ∀ bs : List Bed, PyData.depthAll (bs.map bD) ≤ 3
  | [] => by simp [PyData.depthAll]
  | b :: r => by
    have h := dep_bD r
    have h1 := dep_ints [b.lo.num, (b.lo.den : Int)]
    have h2 := dep_ints [b.hi.num, (b.hi.den : Int)]
    simp only [List.map_cons, PyData.depthAll, PyData.depth, bD, List.map_nil] at h1 h2 ⊢
    omega
theorem shaped_wD (W : WebV) : SeqAt.shaped (wD W) = true := by
  refine shaped_ofT ?_ ?_
  · simp [PyData.canLayAll0, PyData.canLay0, can_bD, can_pnd]
  · have h1 := dep_bD W.beds
    have h2 := dep_pnd W.parts
    simp only [PyData.depthAll, PyData.depth]
    omega
theorem eqv_int (a b : Int) : PyData.eqv (.int a) (.int b) = decide (a = b) := by
  simp only [PyData.eqv]
  exact Bool.beq_eq_decide_eq a b
theorem eqv_pair (p q : Rat) : PyData.eqv (.tuple ([p.num, (p.den : Int)].map PyData.int)) (.tuple ([q.num, (q.den : Int)].map PyData.int)) = decide (p = q) := by
  rw [show PyData.eqv (.tuple ([p.num, (p.den : Int)].map PyData.int)) (.tuple ([q.num, (q.den : Int)].map PyData.int)) = PyData.eqvAll ([p.num, (p.den : Int)].map PyData.int) ([q.num, (q.den : Int)].map PyData.int) from by simp only [PyData.eqv], eqvL_ints, ← rat_eq, ← Bool.decide_and]
  exact decide_eq_decide.mpr (by simp)
theorem eqv_bD (b c : Bed) : PyData.eqv (bD b) (bD c) = decide (b = c) := by
  obtain ⟨b1, b2, b3, b4⟩ := b
  obtain ⟨c1, c2, c3, c4⟩ := c
  unfold bD
  rw [show ∀ x1 x2 x3 x4 y1 y2 y3 y4 : PyData, PyData.eqv (.tuple [x1, x2, x3, x4]) (.tuple [y1, y2, y3, y4]) = (PyData.eqv x1 y1 && (PyData.eqv x2 y2 && (PyData.eqv x3 y3 && PyData.eqv x4 y4))) from fun _ _ _ _ _ _ _ _ => by simp [PyData.eqv, PyData.eqvAll]]
  rw [eqv_int, eqv_int, eqv_pair, eqv_pair, ← Bool.decide_and, ← Bool.decide_and, ← Bool.decide_and]
  refine decide_eq_decide.mpr ?_
  rw [Bed.mk.injEq]
  show (b1 : Int) = (c1 : Int) ∧ (b2 : Int) = (c2 : Int) ∧ b3 = c3 ∧ b4 = c4 ↔ _
  exact ⟨fun ⟨a, b, c, d⟩ => ⟨by omega, by omega, c, d⟩, fun ⟨a, b, c, d⟩ => ⟨by omega, by omega, c, d⟩⟩
theorem eqv_wD (W Z : WebV) : PyData.eqv (wD W) (wD Z) = decide (W = Z) := by
  obtain ⟨m1, bs1, ps1⟩ := W
  obtain ⟨m2, bs2, ps2⟩ := Z
  unfold wD
  rw [show ∀ x1 x2 x3 y1 y2 y3 : PyData, PyData.eqv (.tuple [x1, x2, x3]) (.tuple [y1, y2, y3]) = (PyData.eqv x1 y1 && (PyData.eqv x2 y2 && PyData.eqv x3 y3)) from fun _ _ _ _ _ _ => by simp [PyData.eqv, PyData.eqvAll]]
  rw [eqv_int, show ∀ l m : List PyData, PyData.eqv (.list l) (.list m) = PyData.eqvAll l m from fun _ _ => by simp only [PyData.eqv], show ∀ l m : List PyData, PyData.eqv (.list l) (.list m) = PyData.eqvAll l m from fun _ _ => by simp only [PyData.eqv], eqvL_map eqv_bD, eqvL_map eqv_pnd, ← Bool.decide_and, ← Bool.decide_and]
  refine decide_eq_decide.mpr ?_
  rw [WebV.mk.injEq]
  show (m1 : Int) = (m2 : Int) ∧ bs1 = bs2 ∧ ps1 = ps2 ↔ _
  exact ⟨fun ⟨a, b, c⟩ => ⟨by omega, b, c⟩, fun ⟨a, b, c⟩ => ⟨by omega, b, c⟩⟩
end K04

namespace K04
open PySem PySem.Spec PyProof.Rows L2 LamX
/-! ### a world and another one -/
theorem kb_joined {K : PySem.W.Frag} {kV doc pm ct : Value} {an : Option Addr} {cc : Addr} : KBn K (PySem.W.fnOf "joined" "joined" (defArgs d_joined) (defBody d_joined) (defScope d_joined) .none kV doc pm an (.ref cc) ct) ["one", "other", "pipes"] 2 ["pipes"] (fun us ws => us ++ ws) (fun vs zs => vs ++ zs) :=
  ⟨fun _ us ws _ l1 l2 => .of_eq (match us, ws, l1, l2 with | [_, _], [_], _, _ => rfl), fun r1 r2 => r1.append r2⟩
def spWorldRight (K : PySem.W.Frag) (T : List (Addr × Str)) : Sp := fun vs H Q _ => ∃ (p t s : Addr) (W Z : WebV), vs = [.ref p, .ref t, .ref s] ∧ SrcAt H p ∧ WorldAt K H t W ∧ WorldAt K H s Z ∧ GoodWeb W ∧ GoodWeb Z ∧ Tabs T H ∧ ∀ H', ButX p H H' → SrcAt H' p → Tabs T H' → Q (.bl true) H'
theorem exn_world {K : PySem.W.Frag} {H H' : Hp} {t : Addr} {W : WebV} (k : ExtN H H') (h : WorldAt K H t W) : WorldAt K H' t W := by
  obtain ⟨rl, sl, u, ⟨ts, v, w⟩, x⟩ := h
  exact ⟨rl, sl, exn_tup k u, ⟨ts, exn_seq k v, w.mono fun _ _ _ _ r => exn_row k r⟩, exn_wparts k x⟩
section
variable {P : Program} {w : World} {K : PySem.W.Frag} {mg : Str → Option Value} {base : Heap}
abbrev wrN : List Str := ["source", "world", "other", "first", "second", "place", "lakes", "mine", "both", "due"]
theorem scWr : FnScope wrN ["source", "world", "other"] (defScope d_law_world_right) := ⟨rfl, rfl, rfl, by decide +kernel, rfl, by decide +kernel, by decide +kernel⟩
theorem ok_worldRight {T : List (Addr × Str)} {f f1 f2 f3 f4 f5 f6 fJ C CW : Addr} {fd fd1 fd2 fd3 fd4 fd5 fd6 fdJ : FuncData} (F : Fun K "_law_world_right" "_law_world_right" d_law_world_right f fd) (Y : TxtW mg C)
    (AM : At P w K mg base CX0 7 "_law_made" ["source", "world"] (spMade04 K C CW) f1 fd1) (AT : At P w K mg base CX0 7 "_law_two_right" ["one", "other", "due"] (spTwo04 K C CW) f2 fd2) (A1 : At P w K mg base CX0 2 "_law_next" ["source", "many"] spNext f3 fd3)
    (AC : At P w K mg base CX0 7 "cut" ["web", "place"] (spCutF K C CW) f4 fd4) (AK : At P w K mg base CX0 1 "_law_cut_at" ["world", "place"] (spCutAt K) f5 fd5) (AB : At P w K mg base CX0 1 "_law_put_beside" ["one", "other"] (spBeside K) f6 fd6)
    (GJ : FnOk P w K mg base CX0 7 fJ fdJ ["one", "other", "pipes"] (spJoin0 K C CW T)) (mJ : mg "joined" = some (.ref fJ)) (kJ : PySem.W.keepIn K (.ref fJ) = true) (bJ : KBn K fdJ ["one", "other", "pipes"] 2 ["pipes"] (fun us ws => us ++ ws) (fun vs zs => vs ++ zs)) :
    FnOk P w K mg base CX0 8 f fd ["source", "world", "other"] (spWorldRight K T) := by
  refine F.ok scWr (fun vs H Q E h => ?_) (fun cdv A outer s H vs Q E hr h => ?_)
  · obtain ⟨_, _, _, _, _, rfl, _⟩ := h
    rfl
  · obtain ⟨p, t0, t1, W, Z, rfl, hp, hW, hZ, g, gz, hT, q⟩ := h
    have r1 : Room 1 _ := hr.mono (by decide)
    have r2 : Room 2 _ := hr.mono (by decide)
    refine ⟨_, pss_cons (ps_par (i := 3) (j := 4) rfl scWr.nd rfl rfl (by decide) rfl rfl (pa_cons (pe_call AM.G hr rfl AM.m AM.k AM.b .nil pass0 (pa_cons (pv 0) (pa_cons (pv 1) pa_nil))) (pa_cons (pe_call AM.G hr rfl AM.m AM.k AM.b .nil pass0 (pa_cons (pv 0) (pa_cons (pv 2) pa_nil))) pa_nil)) (by rfl))
      (pss_cons (ps_if (pt_not (pt_val (pe_call AT.G hr rfl AT.m AT.k AT.b .nil pass0 (pa_cons (pv 3) (pa_cons (pv 4) (pa_cons (pe_cmpR (op_eqD hr.units) (pv 1) (pv 2) (nomark _)) pa_nil)))))) (pss_one (ps_ret pe_bl)) pss_nil)
      (pss_cons (ps_set (i := 5) scWr.nd rfl (Or.inl rfl) (pe_call A1.G r2 rfl A1.m A1.k A1.b .nil pass0 (pa_cons (pv 0) (pa_cons (pe_op op_add (pe_ix ix_tup (pv 1) pe_int (fun _ _ => rfl)) pe_int) pa_nil))))
      (pss_cons (ps_par (i := 6) (j := 7) rfl scWr.nd rfl rfl (by decide) rfl rfl (pa_cons (pe_call AC.G hr rfl AC.m AC.k AC.b .nil pass0 (pa_cons (pv 3) (pa_cons (pv 5) pa_nil))) (pa_cons (pe_call AK.G r1 rfl AK.m AK.k AK.b .nil pass0 (pa_cons (pv 1) (pa_cons (pv 5) pa_nil))) pa_nil)) (by rfl))
      (pss_cons (ps_if (PW.pt (pw_or (pt_not (pt_val (pe_call AT.G hr rfl AT.m AT.k AT.b .nil pass0 (pa_cons (pv 6) (pa_cons (pe_call AM.G hr rfl AM.m AM.k AM.b .nil pass0 (pa_cons (pv 0) (pa_cons (pv 7) pa_nil))) (pa_cons pe_bl pa_nil))))))
          (pw_or1 (pt_not (pt_val (pe_call AT.G hr rfl AT.m AT.k AT.b .nil pass0 (pa_cons (pv 6) (pa_cons (pv 4) (pa_cons (pe_cmpR (op_eqD hr.units) (pv 7) (pv 2) (nomark _)) pa_nil))))))))) (pss_one (ps_ret pe_bl)) pss_nil)
      (C8.pss_cut (ps_if (PW.pt (pw_or (pt_cmpR op_gt (pe_op op_add (pe_ix ix_tup (pv 1) pe_int (fun _ _ => rfl)) (pe_ix ix_tup (pv 2) pe_int (fun _ _ => rfl))) pe_int (nomark _))
          (pw_or1 (pt_cmpR op_gt (pe_op op_add (pe_callB call_len_seq (by rfl) Y.len PySem.boot_len (pa_cons (pe_ix ix_tup (pv 1) pe_int (fun _ _ => rfl)) pa_nil)) (pe_callB call_len_seq (by rfl) Y.len PySem.boot_len (pa_cons (pe_ix ix_tup (pv 2) pe_int (fun _ _ => rfl)) pa_nil))) pe_int (nomark _))))) (pss_one (ps_ret pe_bl)) pss_nil)
      (pss_cons (ps_set (i := 8) scWr.nd rfl (Or.inl rfl) (pe_callN GJ hr rfl mJ kJ bJ pass0 (pa_cons (pv 3) (pa_cons (pv 4) pa_nil)) (pk_cons (pe_lst pa_nil) pk_nil)))
      (pss_cons (ps_if (pt_not (pt_val (pe_call AT.G hr rfl AT.m AT.k AT.b .nil pass0 (pa_cons (pv 8) (pa_cons (pe_call AM.G hr rfl AM.m AM.k AM.b .nil pass0 (pa_cons (pv 0) (pa_cons (pe_call AB.G r1 rfl AB.m AB.k AB.b .nil pass0 (pa_cons (pv 1) (pa_cons (pv 2) pa_nil))) pa_nil))) (pa_cons pe_bl pa_nil)))))) (pss_one (ps_ret pe_bl)) pss_nil)
      (pss_cons (ps_set (i := 9) scWr.nd rfl (Or.inl rfl) (pe_cmpR (op_eqD hr.units) (pe_call AB.G r1 rfl AB.m AB.k AB.b .nil pass0 (pa_cons (pv 1) (pa_cons (pv 2) pa_nil))) (pe_call AB.G r1 rfl AB.m AB.k AB.b .nil pass0 (pa_cons (pv 2) (pa_cons (pv 1) pa_nil))) (nomark _)))
      (pss_one (ps_ret (pe_call AT.G hr rfl AT.m AT.k AT.b .nil pass0 (pa_cons (pv 8) (pa_cons (pe_callN GJ hr rfl mJ kJ bJ pass0 (pa_cons (pv 4) (pa_cons (pv 3) pa_nil)) (pk_cons (pe_lst pa_nil) pk_nil)) (pa_cons (pv 9) pa_nil)))))))))))))), ?_⟩
    refine ⟨_, rfl, _, rfl, p, t0, W, rfl, hp, hW, g, fun H1 a b1 w1 na ha => ?_⟩
    have hZ1 := hZ.but b1 hp
    have hW1 := hW.but b1 hp
    refine ⟨_, rfl, _, rfl, p, t1, Z, rfl, w1, hZ1, gz, fun H2 b b2 w2 nb hb => ⟨_, _, rfl, ?_⟩⟩
    have b12 : But p H H2 := b1.trans b2
    have hW2 := hW1.but b2 w1
    have hZ2 := hZ1.but b2 w1
    have ha2 := ha.but b2 w1
    have ab : a ≠ b := fun z => by
      obtain ⟨_, _, _, e, _⟩ := id ha
      rw [z, nb] at e
      cases e
    have few := g.few
    have fewz := gz.few
    have plen := g.plen
    have plenz := gz.plen
    have m8 := g.m8
    have m8z := gz.m8
    refine ⟨_, rfl, _, rfl, _, rfl, _, rfl, _, _, dp_world hW2, dp_world hZ2, shaped_wD _, shaped_wD _, a, b, W, Z, _, rfl, ab, ha2, hb, eqv_wD W Z, fun H3 x3 => ⟨true, rfl, iteF ?_⟩⟩
    have w3 := w2.same x3
    have hW3 := hW2.mono x3
    obtain ⟨rl3, sl3, h03, _⟩ := id hW3
    refine ⟨_, rfl, _, rfl, t0, _, _, _, rfl, rfl, h03, at_k (by decide) rfl, _, _, rfl, rfl, p, _, rfl, w3, by omega, by omega, fun H4 d b4 w4 d0 d1 => ?_⟩
    obtain ⟨n, rfl⟩ : ∃ n : Nat, d = (n : Int) := ⟨d.toNat, by omega⟩
    have hn : n ≤ W.many := by omega
    have b24 : But p H2 H4 := (same_but x3).trans b4
    have ha4 := ha2.but b24 w2
    have hb4 := hb.but b24 w2
    have hW4 := hW2.but b24 w2
    have hZ4 := hZ2.but b24 w2
    refine ⟨_, rfl, _, rfl, a, W, n, rfl, ha4, hn, fun H5 c s5 nc hc => ?_⟩
    refine ⟨_, rfl, _, rfl, t0, W, n, rfl, hW4.mono s5, g, hn, fun H6 m s6 hm => ⟨_, _, rfl, ?_⟩⟩
    have s46 := s5.trans s6
    have w6 := w4.same s46
    have hc6 := hc.mono s6
    have gc := cutF_good g hn
    have ca : ∀ {z : Addr} {V' : WebV}, WebAt K C CW H4 z V' → c ≠ z := fun {z V'} hz e => by
      obtain ⟨_, _, _, e1, _⟩ := hz
      rw [← e, nc] at e1
      cases e1
    refine ⟨_, rfl, _, rfl, _, rfl, p, m, cutF W n, rfl, w6, hm, gc, fun H7 d' b7 w7 nd hd => ?_⟩
    have hc7 := hc6.but b7 w6
    have cd : c ≠ d' := fun z => by
      obtain ⟨_, _, _, e, _⟩ := id hc6
      rw [z, nd] at e
      cases e
    refine ⟨c, d', _, _, true, rfl, cd, hc7, hd, (decide_eq_true rfl).symm, fun H8 x8 => ⟨true, rfl, iteF ?_⟩⟩
    have b68 : But p H6 H8 := b7.trans (same_but x8)
    have b48 : But p H4 H8 := (same_but s46).trans b68
    have w8 := w7.same x8
    have hm8 := hm.but b68 w6
    have hZ8 := hZ4.but b48 w4
    have hc8 := hc6.but b68 w6
    have hb8 := hb4.but b48 w4
    refine ⟨_, rfl, _, rfl, _, rfl, _, rfl, _, _, dp_world hm8, dp_world hZ8, shaped_wD _, shaped_wD _, c, b, _, _, _, rfl, ca hb4, hc8, hb8, eqv_wD _ _, fun H9 x9 => ⟨true, rfl, iteF ?_⟩⟩
    have b49 : But p H4 H9 := b48.trans (same_but x9)
    have b09 : But p H H9 := b12.trans (b24.trans b49)
    have w9 := w8.same x9
    have hW9 := hW4.but b49 w4
    have hZ9 := hZ4.but b49 w4
    have ha9 := ha4.but b49 w4
    have hb9 := hb4.but b49 w4
    have hT9 := tabs_but hT b09 hp
    obtain ⟨rl, sl, h0, ⟨ts, hts, hA⟩, _⟩ := id hW9
    obtain ⟨rl2, sl2, h02, ⟨ts2, hts2, hA2⟩, _⟩ := id hZ9
    have lts := hA.len
    have lts2 := hA2.len
    refine ⟨fun σ' N' => σ' = [some (.ref p), some (.ref t0), some (.ref t1), some (.ref a), some (.ref b), some (.int (n : Int)), some (.ref c), some (.ref m), none, none] ∧ N' = H9 ∧ W.many + Z.many ≤ 8 ∧ W.beds.length + Z.beds.length ≤ 12, ?_, ?_⟩
    · refine ⟨_, rfl, t0, _, _, _, rfl, rfl, h0, at_k (by decide) rfl, _, rfl, t1, _, _, _, rfl, rfl, h02, at_k (by decide) rfl, _, _, rfl, rfl, _, _, rfl, rfl, _, rfl, ?_⟩
      refine ite2 (fun _ => q H9 (butx_but b09) w9 hT9) (fun h => ?_)
      have h : ¬ (W.many : Int) + (Z.many : Int) > 8 := fun z => h (decide_eq_true z)
      refine ⟨_, rfl, t0, _, _, _, rfl, rfl, h0, at_k (by decide) rfl, rl, _, rfl, .inl hts, _, rfl, t1, _, _, _, rfl, rfl, h02, at_k (by decide) rfl, rl2, _, rfl, .inl hts2, _, _, rfl, rfl, _, _, rfl, rfl, _, rfl, ?_⟩
      refine ite2 (fun _ => q H9 (butx_but b09) w9 hT9) (fun h2 => ?_)
      have h2 : ¬ (((ts.map V.ref).length : Nat) : Int) + (((ts2.map V.ref).length : Nat) : Int) > 12 := fun z => h2 (decide_eq_true z)
      rw [List.length_map, List.length_map, lts, lts2] at h2
      exact ⟨rfl, rfl, by omega, by omega⟩
    · rintro σ' N' ⟨rfl, rfl, m88, f12⟩
      have p8 : W.parts.length ≤ 8 := by omega
      have p8z : Z.parts.length ≤ 8 := by omega
      refine ⟨_, rfl, _, rfl, (by show 0 ≤ sizeLine; decide), fun L hL => ?_⟩
      have s10 := same1 (o := .lst []) hL
      have eL : (upd N' L (.lst []) : Hp) L = some (.lst []) := upd_same
      have hT10 := hT9.ext s10
      generalize upd N' L (.lst []) = H10 at *
      refine ⟨rfl, rfl, a, b, L, W, Z, rfl, ha9.mono s10, hb9.mono s10, eL, m88, f12, hT10, fun H11 u x11 T11 nu hu => ?_⟩
      have x9b : ExtN N' H11 := (ExtN.of s10).trans x11
      have w11 := exn_src x9b w9
      have hW11 := exn_world x9b hW9
      have hZ11 := exn_world x9b hZ9
      have ha11 := exn_web x9b ha9
      have hb11 := exn_web x9b hb9
      have gj := joinW_good g gz m88 f12
      refine ⟨_, rfl, _, rfl, _, rfl, _, rfl, t0, t1, W, Z, rfl, hW11, hZ11, m88, p8, p8z, f12, fun H12 v s12 hv => ?_⟩
      have w12 := w11.same s12
      have hu12 := hu.mono s12
      refine ⟨p, v, joinW W Z, rfl, w12, hv, gj, fun H13 e b13 w13 ne he => ?_⟩
      have hu13 := hu12.but b13 w12
      have ue : u ≠ e := fun z => by
        obtain ⟨_, _, _, e1, _⟩ := id hu12
        rw [z, ne] at e1
        cases e1
      refine ⟨u, e, _, _, true, rfl, ue, hu13, he, (decide_eq_true rfl).symm, fun H14 x14 => ⟨true, rfl, iteF ?_⟩⟩
      have b14 : But p H11 H14 := (same_but s12).trans (b13.trans (same_but x14))
      have w14 := w13.same x14
      have hW14 := hW11.but b14 w11
      have hZ14 := hZ11.but b14 w11
      have hT14 := tabs_but T11 b14 w11
      have ha14 := ha11.but b14 w11
      have hb14 := hb11.but b14 w11
      have hu14 := hu13.mono x14
      refine ⟨_, rfl, _, rfl, t0, t1, W, Z, rfl, hW14, hZ14, m88, p8, p8z, f12, fun H15 v1 s15 hv1 => ?_⟩
      refine ⟨_, rfl, _, rfl, t1, t0, Z, W, rfl, hZ14.mono s15, hW14.mono s15, by omega, p8z, p8, by omega, fun H16 v2 s16 hv2 => ?_⟩
      refine ⟨_, _, dp_world (hv1.mono s16), dp_world hv2, shaped_wD _, shaped_wD _, ?_⟩
      have s46 := s15.trans s16
      refine ⟨_, rfl, _, rfl, _, rfl, (by show 0 ≤ sizeLine; decide), fun L2 hL2 => ?_⟩
      have s17 := same1 (o := .lst []) hL2
      have eL2 : (upd H16 L2 (.lst []) : Hp) L2 = some (.lst []) := upd_same
      have s47 := s46.trans s17
      generalize upd H16 L2 (.lst []) = H17 at *
      refine ⟨rfl, rfl, b, a, L2, Z, W, rfl, hb14.mono s47, ha14.mono s47, eL2, by omega, by omega, hT14.ext s47, fun H18 u2 x18 T18 nu2 hu2 => ?_⟩
      have hu17 := hu14.mono s47
      have uu : u ≠ u2 := fun z => by
        obtain ⟨_, _, _, e1, _⟩ := id hu17
        obtain ⟨y, hy⟩ := nu2 _ (by rw [← z]; exact e1)
        cases hy
      have w18 := exn_src x18 (w14.same s47)
      refine ⟨_, rfl, u, u2, joinW W Z, joinW Z W, _, rfl, uu, exn_web x18 hu17, hu2, eqv_wD _ _, fun H19 x19 => ?_⟩
      exact q H19 ((((butx_but b09).ext x9b).but b14).ext ((ExtN.of s47).trans (x18.trans (ExtN.of x19)))) (w18.same x19) (T18.ext x19)
end
end K04

namespace K04
open PySem PySem.Spec PyProof.Rows L2 LamX
/-! ### the law: webs with one change -/
def tabs3 (Pt Pu Pv : Addr) : List (Addr × Str) := [(Pt, joQ), (Pu, rcQ), (Pv, bmQ)]
def spLaw (K : PySem.W.Frag) (Pt Pu Pv : Addr) : Sp := fun vs H Q _ => ∃ (a : Addr) (ns : List Int), vs = [.ref a] ∧ SqL K H a (ns.map V.int) ∧ ns.length ≤ 63 ∧ Tabs (tabs3 Pt Pu Pv) H ∧ ∀ H', Q (.bl true) H'
theorem law_told {K : PySem.W.Frag} {Pt Pu Pv a : Addr} {H : Hp} {ns : List Int} (hl : ns.length ≤ 63) (hT : H Pt = some (.tbl #[])) (hU : H Pu = some (.tbl #[])) (hV : H Pv = some (.tbl #[])) (hS : SqL K H a (ns.map V.int)) : spLaw K Pt Pu Pv [.ref a] H (fun v _ => v = .bl true) fun _ _ _ => False :=
  ⟨a, ns, rfl, hS, hl, fun p hp => by
    unfold tabs3 at hp
    simp only [List.mem_cons, List.not_mem_nil, or_false] at hp
    rcases hp with rfl | rfl | rfl
    · exact TabS.nil hT
    · exact TabS.nil hU
    · exact TabS.nil hV, fun _ => rfl⟩
theorem ButX.tup {K : PySem.W.Frag} {p a : Addr} {H H' : Hp} {xs : List V} (k : ButX p H H') (s : SrcAt H p) (h : SqT K H a xs) : SqT K H' a xs := by
  obtain ⟨_, _, _, ep⟩ := s
  have go : ∀ o, H a = some o → (∀ x, o ≠ .tbl x) → (∀ xs, o ≠ .lst xs) → H' a = some o := fun o e t l => k a o (fun z => by rw [z, ep] at e; exact l _ (Option.some.inj e).symm) e t
  rcases h with (h | ⟨o, h⟩) | h
  · exact .inl (.inl (go _ h (fun _ z => nomatch z) (fun _ z => nomatch z)))
  · exact .inl (.inr ⟨o, go _ h (fun _ z => nomatch z) (fun _ z => nomatch z)⟩)
  · exact .inr h
theorem ButX.seqR {K : PySem.W.Frag} {p a : Addr} {H H' : Hp} {ts : List Addr} (k : ButX p H H') (s : SrcAt H p) (h : SqL K H a (ts.map V.ref)) : SqL K H' a (ts.map V.ref) := by
  obtain ⟨_, _, _, ep⟩ := s
  rcases h with (h | ⟨o, h⟩) | h
  · refine .inl (.inl (k a _ (fun z => ?_) h (fun _ z => nomatch z)))
    rw [z, ep] at h
    cases ts with
    | nil => cases h
    | cons t r => cases h
  · refine .inl (.inr ⟨o, k a _ (fun z => ?_) h (fun _ z => nomatch z)⟩)
    rw [z, ep] at h
    cases h
  · exact .inr h
theorem ButX.world {K : PySem.W.Frag} {p t : Addr} {H H' : Hp} {W : WebV} (k : ButX p H H') (s : SrcAt H p) (h : WorldAt K H t W) : WorldAt K H' t W := by
  obtain ⟨rl, sl, u, ⟨ts, v, w⟩, ⟨us, x, y⟩⟩ := h
  refine ⟨rl, sl, k.tup s u, ⟨ts, k.seqR s v, w.mono fun _ _ _ _ r => ?_⟩, us, k.seqR s x, y.mono fun _ _ _ _ r => k.tup s r⟩
  obtain ⟨a, b, r1, r2, r3⟩ := r
  exact ⟨a, b, k.tup s r1, k.tup s r2, k.tup s r3⟩
section
variable {P : Program} {w : World} {K : PySem.W.Frag} {mg : Str → Option Value} {base : Heap}
abbrev lawN : List Str := ["script", "k", "source", "world", "lap"]
theorem scLaw : FnScope lawN ["script"] (defScope d_law) := ⟨rfl, rfl, rfl, by decide +kernel, rfl, by decide +kernel, by decide +kernel⟩
theorem ok_law {f f1 f2 f3 f4 f5 C Pt Pu Pv : Addr} {fd fd1 fd2 fd3 fd4 fd5 : FuncData} (F : Fun K "law" "law" d_law f fd) (Y : TxtW mg C) (hrange : mg "range" = none) (hmin : mg "min" = none) (hmax : mg "max" = none)
    (A1 : At P w K mg base CX0 2 "_law_source" ["script", "k"] (spSource K) f1 fd1) (A2 : At P w K mg base CX0 5 "_law_world" ["source", "most_places"] (spWorld K) f2 fd2) (A3 : At P w K mg base CX0 2 "_law_next" ["source", "many"] spNext f3 fd3)
    (A4 : At P w K mg base CX0 5 "_law_changed" ["source", "world"] (spChange04 K (tabs3 Pt Pu Pv)) f4 fd4) (A5 : At P w K mg base CX0 8 "_law_world_right" ["source", "world", "other"] (spWorldRight K (tabs3 Pt Pu Pv)) f5 fd5) : FnOk P w K mg base CX0 9 f fd ["script"] (spLaw K Pt Pu Pv) := by
  refine F.ok scLaw (fun vs H Q E h => ?_) (fun cdv A outer s H vs Q E hr h => ?_)
  · obtain ⟨_, _, rfl, _⟩ := h
    rfl
  · obtain ⟨a, ns, rfl, hS, hl, hT, q⟩ := h
    generalize tabs3 Pt Pu Pv = T at *
    have r2 : Room 2 _ := hr.mono (by decide)
    have r5 : Room 5 _ := hr.mono (by decide)
    refine ⟨_, pss_cons (ps_for PassesOwn.never rfl (pi_range1 (by rfl) hrange (pa_cons (pe_callB (call_max2 rfl) (by rfl) hmax (by decide +kernel) (pa_cons pe_int (pa_cons (pe_callB (call_min2 rfl) (by rfl) hmin (by decide +kernel) (pa_cons pe_int (pa_cons (pe_callB call_len_seq (by rfl) Y.len PySem.boot_len (pa_cons (pv 0) pa_nil)) pa_nil))) pa_nil))) pa_nil)) (pg_name (i := 1) scLaw.nd rfl (.inl rfl))
        (pss_cons (ps_set (i := 2) scLaw.nd rfl (Or.inl rfl) (pe_call A1.G r2 rfl A1.m A1.k A1.b .nil pass0 (pa_cons (pv 0) (pa_cons (pv 1) pa_nil))))
        (pss_cons (ps_set (i := 3) scLaw.nd rfl (Or.inl rfl) (pe_call A2.G r5 rfl A2.m A2.k A2.b .nil pass0 (pa_cons (pv 2) (pa_cons (pe_ix ix_list (pe_lst (pa_cons pe_int (pa_cons pe_int pa_nil))) (pe_call A3.G r2 rfl A3.m A3.k A3.b .nil pass0 (pa_cons (pv 2) (pa_cons pe_int pa_nil))) (fun _ _ => rfl)) pa_nil))))
        (pss_one (ps_for PassesOwn.never rfl (pi_range1 (by rfl) hrange (pa_cons pe_int pa_nil)) (pg_name (i := 4) scLaw.nd rfl (.inl rfl))
          (pss_one (ps_if (pt_not (pt_val (pe_call A5.G hr rfl A5.m A5.k A5.b .nil pass0 (pa_cons (pv 2) (pa_cons (pv 3) (pa_cons (pe_call A4.G r5 rfl A4.m A4.k A4.b .nil pass0 (pa_cons (pv 2) (pa_cons (pv 3) pa_nil))) pa_nil)))))) (pss_one (ps_ret pe_bl)) pss_nil)))))))
      (pss_one (ps_ret pe_bl)), ?_⟩
    refine ⟨_, rfl, a, _, rfl, .inl hS, _, _, rfl, _, _, rfl, _, rfl, ?_⟩
    refine ⟨by split <;> (try split) <;> omega, by split <;> (try split) <;> omega, ?_⟩
    refine for_range (lo := 0) (n := _) (fun k σ N => ∃ (v1 v2 v3 v4 : Option V), σ = [some (.ref a), v1, v2, v3, v4] ∧ ExtN H N ∧ Tabs T N) ⟨none, none, none, none, rfl, ExtN.of (Same.refl H), hT⟩ ?_ ?_
    · rintro k σ N hk ⟨v1, v2, v3, v4, rfl, xN, tN⟩
      refine ⟨_, rfl, _, rfl, a, ns, _, rfl, exn_seq xN hS, by omega, fun p x y z np => ?_⟩
      have s0 : Same N (upd N p (.lst [.int x, .int y, .int z])) := same1 np
      have w0 : SrcAt (upd N p (.lst [.int x, .int y, .int z])) p := ⟨_, _, _, upd_same⟩
      generalize upd N p (.lst [.int x, .int y, .int z]) = N0 at *
      have t0 := tN.ext s0
      refine ⟨_, rfl, (by show 2 ≤ sizeLine; decide), fun L hL => ?_⟩
      have nL := w0.ne hL
      have sL := same1 (o := .lst [.int 8, .int 4]) hL
      have wL : SrcAt (upd N0 L (.lst [.int 8, .int 4])) p := w0.put nL
      have eL : (upd N0 L (.lst [.int 8, .int 4]) : Hp) L = some (.lst [.int 8, .int 4]) := upd_same
      generalize upd N0 L (.lst [.int 8, .int 4]) = N1 at *
      refine ⟨_, rfl, p, 2, rfl, wL, by decide, by decide, fun N2 d b2 w2 d0 d1 => ?_⟩
      obtain ⟨c, hc, c1, c8⟩ : ∃ c : Nat, atI [V.int 8, V.int 4] d = some (V.int (c : Int)) ∧ 1 ≤ c ∧ c ≤ 8 := by
        have h : d = 0 ∨ d = 1 := by omega
        rcases h with h | h <;> rw [h]
        · exact ⟨8, at_k (by decide) rfl, by decide, by decide⟩
        · exact ⟨4, at_k (by decide) rfl, by decide, by decide⟩
      refine ⟨L, _, _, _, rfl, rfl, SqL.of (b2 _ _ nL eL), hc, p, c, rfl, w2, c1, c8, fun N3 t W b3 w3 hW ok le => ?_⟩
      have g := ok.good
      have b03 : But p N0 N3 := (same_but sL).trans (b2.trans b3)
      have t3 := tabs_but t0 b03 w0
      refine ⟨_, rfl, by decide, by decide, ?_⟩
      refine for_range (lo := 0) (n := (6 : Int).toNat) (fun l σ M => ∃ (v4 : Option V), σ = [some (.ref a), some (.int (0 + (k : Int))), some (.ref p), some (.ref t), v4] ∧ SrcAt M p ∧ Tabs T M ∧ WorldAt K M t W ∧ ButX p N0 M) ⟨v4, rfl, w3, t3, hW, butx_but b03⟩ ?_ ?_
      · rintro l σ M hl' ⟨v4, rfl, wM, tM, hM, xM⟩
        refine ⟨_, rfl, _, rfl, _, rfl, _, rfl, p, t, W, rfl, wM, hM, ok, tM, fun M2 u Z x2 w4 t4 hu gZ => ?_⟩
        refine ⟨p, t, u, W, Z, rfl, w4, x2.world wM hM, hu, g, gZ, t4, fun M3 x5 w5 t5 => ⟨true, rfl, iteF ?_⟩⟩
        exact ⟨_, rfl, w5, t5, x5.world w4 (x2.world wM hM), xM.trans (x2.trans x5)⟩
      · rintro σ M ⟨v4, rfl, wM, tM, hM, xM⟩
        refine ⟨_, _, _, _, rfl, fun b o e tt => ?_, tM⟩
        have e1 := xN b o e tt
        exact xM b o (fun z => by rw [z, np] at e1; cases e1) (s0 _ _ e1) tt
    · rintro σ N ⟨v1, v2, v3, v4, rfl, _, _⟩
      exact q _
end
end K04

namespace K04
open PySem PySem.Spec PyProof.Rows L2
theorem exm_own {K : PySem.W.Frag} {S : Addr} (h1 : PySem.W.subIn K (.ref S) (.type "BaseException") = some true) (h2 : PySem.W.isClsIn K S = true) (h3 : PySem.W.typeIn K (.ref S) = some (.type "type")) (h4 : PySem.W.subIn K (.ref S) (.ref S) = some true) :
    PySem.W.exmOne K (.ref S) (.ref S) = some true := by
  have a : (PySem.W.subIn K (.ref S) (.type "BaseException") == some true) = true := by rw [h1] <;> rfl
  have b : ((PySem.W.clsIn K S).isSome && PySem.W.typeIn K (.ref S) == some (.type "type")) = true := by
    rw [show (PySem.W.clsIn K S).isSome = true from h2, h3] <;> rfl
  show (if (PySem.W.subIn K (.ref S) (.type "BaseException") == some true) = true then (if ((PySem.W.clsIn K S).isSome && PySem.W.typeIn K (.ref S) == some (.type "type")) = true then PySem.W.subIn K (.ref S) (.ref S) else none) else none) = some true
  rw [if_pos a, if_pos b]
  exact h4
end K04

namespace K04
open PySem PySem.Spec PyProof.Rows L2 LamX
theorem all_mk {P : Program} {w : World} {K : PySem.W.Frag} {h : Heap} {mg : Str → Option Value} {fa : Addr} (X : K.In h) (G : h.Ns mainGlobals mg) (hfa : mg "law" = some (.ref fa))
    {tk_MOST_PLACES : Tok}
    {tk_MOST_BEDS : Tok}
    {tk_MOST_BEDS_OF_A_PLACE : Tok}
    {tk_MOST_OF_A_PART : Tok}
    {cRillError : Addr}
    {cNoShare : Addr}
    {cShare : Addr}
    {f_Share_init : Addr} {od_Share_init an_Share_init : Option Addr} {sl_Share_init : Array (Option Value)} {oc_Share_init kV_Share_init dc_Share_init pm_Share_init ct_Share_init : Value}
    {cd_Share_init : Value}
    {TD_Share_init : Addr} {ocTD_Share_init : Value} {odTD_Share_init : Option Addr} {nTD_Share_init : Nat} {slTD_Share_init : Array (Option Value)} {tkTD_Share_init : Tok}
    {f_Share_eq : Addr} {od_Share_eq an_Share_eq : Option Addr} {sl_Share_eq : Array (Option Value)} {oc_Share_eq kV_Share_eq dc_Share_eq pm_Share_eq ct_Share_eq : Value}
    {cd_Share_eq : Value}
    {cWeb : Addr}
    {f_Web_init : Addr} {od_Web_init an_Web_init : Option Addr} {sl_Web_init : Array (Option Value)} {oc_Web_init kV_Web_init dc_Web_init pm_Web_init ct_Web_init : Value}
    {cd_Web_init : Value}
    {f_Web_eq : Addr} {od_Web_eq an_Web_eq : Option Addr} {sl_Web_eq : Array (Option Value)} {oc_Web_eq kV_Web_eq dc_Web_eq pm_Web_eq ct_Web_eq : Value}
    {cd_Web_eq : Value}
    {f_is_whole : Addr} {od_is_whole an_is_whole : Option Addr} {sl_is_whole : Array (Option Value)} {oc_is_whole kV_is_whole dc_is_whole pm_is_whole ct_is_whole : Value}
    {cd_is_whole : Value}
    {f_is_between : Addr} {od_is_between an_is_between : Option Addr} {sl_is_between : Array (Option Value)} {oc_is_between kV_is_between dc_is_between pm_is_between ct_is_between : Value}
    {cd_is_between : Value}
    {f_less : Addr} {od_less an_less : Option Addr} {sl_less : Array (Option Value)} {oc_less kV_less dc_less pm_less ct_less : Value}
    {cd_less : Value}
    {f_are_beds : Addr} {od_are_beds an_are_beds : Option Addr} {sl_are_beds : Array (Option Value)} {oc_are_beds kV_are_beds dc_are_beds pm_are_beds ct_are_beds : Value}
    {cd_are_beds : Value}
    {f_is_a_bed : Addr} {od_is_a_bed an_is_a_bed : Option Addr} {sl_is_a_bed : Array (Option Value)} {oc_is_a_bed kV_is_a_bed dc_is_a_bed pm_is_a_bed ct_is_a_bed : Value}
    {cd_is_a_bed : Value}
    {f_are_parts : Addr} {od_are_parts an_are_parts : Option Addr} {sl_are_parts : Array (Option Value)} {oc_are_parts kV_are_parts dc_are_parts pm_are_parts ct_are_parts : Value}
    {cd_are_parts : Value}
    {f_are_parts_of_one : Addr} {od_are_parts_of_one an_are_parts_of_one : Option Addr} {sl_are_parts_of_one : Array (Option Value)} {oc_are_parts_of_one kV_are_parts_of_one dc_are_parts_of_one pm_are_parts_of_one ct_are_parts_of_one : Value}
    {cd_are_parts_of_one : Value}
    {f_is_place : Addr} {od_is_place an_is_place : Option Addr} {sl_is_place : Array (Option Value)} {oc_is_place kV_is_place dc_is_place pm_is_place ct_is_place : Value}
    {cd_is_place : Value}
    {f_beds_from : Addr} {od_beds_from an_beds_from : Option Addr} {sl_beds_from : Array (Option Value)} {oc_beds_from kV_beds_from dc_beds_from pm_beds_from ct_beds_from : Value}
    {cd_beds_from : Value}
    {f_cut : Addr} {od_cut an_cut : Option Addr} {sl_cut : Array (Option Value)} {oc_cut kV_cut dc_cut pm_cut ct_cut : Value}
    {cd_cut : Value}
    {cc Pt : Addr}
    {f_joined : Addr} {od_joined an_joined : Option Addr} {sl_joined : Array (Option Value)} {oc_joined kV_joined dc_joined pm_joined ct_joined : Value}
    {dcC : Option Addr} {vcC : Array Value} {scC : Array (Option Value)}
    {f_are_pipes : Addr} {od_are_pipes an_are_pipes : Option Addr} {sl_are_pipes : Array (Option Value)} {oc_are_pipes kV_are_pipes dc_are_pipes pm_are_pipes ct_are_pipes : Value}
    {cd_are_pipes : Value}
    {f_is_pipe : Addr} {od_is_pipe an_is_pipe : Option Addr} {sl_is_pipe : Array (Option Value)} {oc_is_pipe kV_is_pipe dc_is_pipe pm_is_pipe ct_is_pipe : Value}
    {cd_is_pipe : Value}
    {f_law_cell_at : Addr} {od_law_cell_at an_law_cell_at : Option Addr} {sl_law_cell_at : Array (Option Value)} {oc_law_cell_at kV_law_cell_at dc_law_cell_at pm_law_cell_at ct_law_cell_at : Value}
    {cd_law_cell_at : Value}
    {f_law_mixed : Addr} {od_law_mixed an_law_mixed : Option Addr} {sl_law_mixed : Array (Option Value)} {oc_law_mixed kV_law_mixed dc_law_mixed pm_law_mixed ct_law_mixed : Value}
    {cd_law_mixed : Value}
    {f_law_source : Addr} {od_law_source an_law_source : Option Addr} {sl_law_source : Array (Option Value)} {oc_law_source kV_law_source dc_law_source pm_law_source ct_law_source : Value}
    {cd_law_source : Value}
    {f_law_next : Addr} {od_law_next an_law_next : Option Addr} {sl_law_next : Array (Option Value)} {oc_law_next kV_law_next dc_law_next pm_law_next ct_law_next : Value}
    {cd_law_next : Value}
    {f_law_pick : Addr} {od_law_pick an_law_pick : Option Addr} {sl_law_pick : Array (Option Value)} {oc_law_pick kV_law_pick dc_law_pick pm_law_pick ct_law_pick : Value}
    {cd_law_pick : Value}
    {f_law_lowered : Addr} {od_law_lowered an_law_lowered : Option Addr} {sl_law_lowered : Array (Option Value)} {oc_law_lowered kV_law_lowered dc_law_lowered pm_law_lowered ct_law_lowered : Value}
    {cd_law_lowered : Value}
    {f_law_sum : Addr} {od_law_sum an_law_sum : Option Addr} {sl_law_sum : Array (Option Value)} {oc_law_sum kV_law_sum dc_law_sum pm_law_sum ct_law_sum : Value}
    {cd_law_sum : Value}
    {f_law_mark : Addr} {od_law_mark an_law_mark : Option Addr} {sl_law_mark : Array (Option Value)} {oc_law_mark kV_law_mark dc_law_mark pm_law_mark ct_law_mark : Value}
    {cd_law_mark : Value}
    {f_law_beds_of : Addr} {od_law_beds_of an_law_beds_of : Option Addr} {sl_law_beds_of : Array (Option Value)} {oc_law_beds_of kV_law_beds_of dc_law_beds_of pm_law_beds_of ct_law_beds_of : Value}
    {cd_law_beds_of : Value}
    {f_law_world : Addr} {od_law_world an_law_world : Option Addr} {sl_law_world : Array (Option Value)} {oc_law_world kV_law_world dc_law_world pm_law_world ct_law_world : Value}
    {cd_law_world : Value}
    {f_law_made : Addr} {od_law_made an_law_made : Option Addr} {sl_law_made : Array (Option Value)} {oc_law_made kV_law_made dc_law_made pm_law_made ct_law_made : Value}
    {cd_law_made : Value}
    {f_law_parts_for : Addr} {od_law_parts_for an_law_parts_for : Option Addr} {sl_law_parts_for : Array (Option Value)} {oc_law_parts_for kV_law_parts_for dc_law_parts_for pm_law_parts_for ct_law_parts_for : Value}
    {cd_law_parts_for : Value}
    {cc2 Pt2 : Addr}
    {f_law_row_changed : Addr} {od_law_row_changed an_law_row_changed : Option Addr} {sl_law_row_changed : Array (Option Value)} {oc_law_row_changed kV_law_row_changed dc_law_row_changed pm_law_row_changed ct_law_row_changed : Value}
    {dcC2 : Option Addr} {vcC2 : Array Value} {scC2 : Array (Option Value)}
    {f_law_parts_changed : Addr} {od_law_parts_changed an_law_parts_changed : Option Addr} {sl_law_parts_changed : Array (Option Value)} {oc_law_parts_changed kV_law_parts_changed dc_law_parts_changed pm_law_parts_changed ct_law_parts_changed : Value}
    {cd_law_parts_changed : Value}
    {f_law_beds_exchanged : Addr} {od_law_beds_exchanged an_law_beds_exchanged : Option Addr} {sl_law_beds_exchanged : Array (Option Value)} {oc_law_beds_exchanged kV_law_beds_exchanged dc_law_beds_exchanged pm_law_beds_exchanged ct_law_beds_exchanged : Value}
    {cd_law_beds_exchanged : Value}
    {cc3 Pt3 : Addr}
    {f_law_bed_more : Addr} {od_law_bed_more an_law_bed_more : Option Addr} {sl_law_bed_more : Array (Option Value)} {oc_law_bed_more kV_law_bed_more dc_law_bed_more pm_law_bed_more ct_law_bed_more : Value}
    {dcC3 : Option Addr} {vcC3 : Array Value} {scC3 : Array (Option Value)}
    {f_law_changed : Addr} {od_law_changed an_law_changed : Option Addr} {sl_law_changed : Array (Option Value)} {oc_law_changed kV_law_changed dc_law_changed pm_law_changed ct_law_changed : Value}
    {cd_law_changed : Value}
    {f_law_cut_at : Addr} {od_law_cut_at an_law_cut_at : Option Addr} {sl_law_cut_at : Array (Option Value)} {oc_law_cut_at kV_law_cut_at dc_law_cut_at pm_law_cut_at ct_law_cut_at : Value}
    {cd_law_cut_at : Value}
    {f_law_put_beside : Addr} {od_law_put_beside an_law_put_beside : Option Addr} {sl_law_put_beside : Array (Option Value)} {oc_law_put_beside kV_law_put_beside dc_law_put_beside pm_law_put_beside ct_law_put_beside : Value}
    {cd_law_put_beside : Value}
    {f_law_two_right : Addr} {od_law_two_right an_law_two_right : Option Addr} {sl_law_two_right : Array (Option Value)} {oc_law_two_right kV_law_two_right dc_law_two_right pm_law_two_right ct_law_two_right : Value}
    {cd_law_two_right : Value}
    {f_law_world_right : Addr} {od_law_world_right an_law_world_right : Option Addr} {sl_law_world_right : Array (Option Value)} {oc_law_world_right kV_law_world_right dc_law_world_right pm_law_world_right ct_law_world_right : Value}
    {cd_law_world_right : Value}
    {f_law : Addr} {od_law an_law : Option Addr} {sl_law : Array (Option Value)} {oc_law kV_law dc_law pm_law ct_law : Value}
    {cd_law : Value}
    (z_ValueError : PySem.W.nsIn K mainGlobals "ValueError" = some none)
    (z_abs : PySem.W.nsIn K mainGlobals "abs" = some none)
    (z_all : PySem.W.nsIn K mainGlobals "all" = some none)
    (z_any : PySem.W.nsIn K mainGlobals "any" = some none)
    (z_bool : PySem.W.nsIn K mainGlobals "bool" = some none)
    (z_enumerate : PySem.W.nsIn K mainGlobals "enumerate" = some none)
    (z_int : PySem.W.nsIn K mainGlobals "int" = some none)
    (z_isinstance : PySem.W.nsIn K mainGlobals "isinstance" = some none)
    (z_len : PySem.W.nsIn K mainGlobals "len" = some none)
    (z_list : PySem.W.nsIn K mainGlobals "list" = some none)
    (z_max : PySem.W.nsIn K mainGlobals "max" = some none)
    (z_min : PySem.W.nsIn K mainGlobals "min" = some none)
    (z_range : PySem.W.nsIn K mainGlobals "range" = some none)
    (z_set : PySem.W.nsIn K mainGlobals "set" = some none)
    (z_sorted : PySem.W.nsIn K mainGlobals "sorted" = some none)
    (z_sum : PySem.W.nsIn K mainGlobals "sum" = some none)
    (z_super : PySem.W.nsIn K mainGlobals "super" = some none)
    (z_tuple : PySem.W.nsIn K mainGlobals "tuple" = some none)
    (i_gcd : PySem.W.nsIn K mainGlobals "gcd" = some (some (.builtin "math.gcd")))
    (g_MOST_PLACES : PySem.W.nsIn K mainGlobals "MOST_PLACES" = some (some (.int 8 tk_MOST_PLACES)))
    (g_MOST_BEDS : PySem.W.nsIn K mainGlobals "MOST_BEDS" = some (some (.int 12 tk_MOST_BEDS)))
    (g_MOST_BEDS_OF_A_PLACE : PySem.W.nsIn K mainGlobals "MOST_BEDS_OF_A_PLACE" = some (some (.int 2 tk_MOST_BEDS_OF_A_PLACE)))
    (g_MOST_OF_A_PART : PySem.W.nsIn K mainGlobals "MOST_OF_A_PART" = some (some (.int 9 tk_MOST_OF_A_PART)))
    (acRillError : PySem.W.nsIn K mainGlobals "RillError" = some (some (.ref cRillError)))
    (xcRillError : PySem.W.excIn K cRillError [.type "ValueError", .type "Exception", .type "BaseException", .type "object"] "ValueError.__new__" = true)
    (kcRillError : PySem.W.keepIn K (.ref cRillError) = true)
    (bcRillError : PySem.W.subIn K (.ref cRillError) (.type "BaseException") = some true)
    (tcRillError : PySem.W.typeIn K (.ref cRillError) = some (.type "type"))
    (icRillError : PySem.W.isClsIn K cRillError = true)
    (scRillError : PySem.W.subIn K (.ref cRillError) (.ref cRillError) = some true)
    (acNoShare : PySem.W.nsIn K mainGlobals "NoShare" = some (some (.ref cNoShare)))
    (xcNoShare : PySem.W.excIn K cNoShare [.type "ValueError", .type "Exception", .type "BaseException", .type "object"] "ValueError.__new__" = true)
    (kcNoShare : PySem.W.keepIn K (.ref cNoShare) = true)
    (bcNoShare : PySem.W.subIn K (.ref cNoShare) (.type "BaseException") = some true)
    (tcNoShare : PySem.W.typeIn K (.ref cNoShare) = some (.type "type"))
    (icNoShare : PySem.W.isClsIn K cNoShare = true)
    (scNoShare : PySem.W.subIn K (.ref cNoShare) (.ref cNoShare) = some true)
    (acShare : PySem.W.nsIn K mainGlobals "Share" = some (some (.ref cShare)))
    (pgcShare : PySem.W.plainGet K cShare Str.empty = true)
    (hdcShare : PySem.W.hasDictIn K cShare = true)
    (pocShare : PySem.W.plainOver K cShare = true)
    (sacShare : PySem.W.findIn K (.ref cShare) "__setattr__" = some (some (.builtin "object.__setattr__")))
    (mkcShare : PySem.W.makesIn K cShare = true)
    (kccShare : PySem.W.keepIn K (.ref cShare) = true)
    (ncShare_bottom : PySem.W.findIn K (.ref cShare) "bottom" = some none)
    (ncShare_top : PySem.W.findIn K (.ref cShare) "top" = some none)
    (gccShare : PySem.W.findIn K (.ref cShare) "__class__" = some (some (.builtin "object.__class__")))
    (gmcShare : PySem.W.mroIn K cShare (.type "object") = some true)
    (mecShare : PySem.W.kitOne K (.ref cShare) (.ref cShare) = some true)
    (mcShare_tuple : PySem.W.kitOne K (.type "tuple") (.ref cShare) = some false)
    (ucShare_tuple : PySem.W.kitOne K (.ref cShare) (.type "tuple") = some false)
    (mcShare_int : PySem.W.kitOne K (.type "int") (.ref cShare) = some false)
    (ucShare_int : PySem.W.kitOne K (.ref cShare) (.type "int") = some false)
    (mcShare_NoneType : PySem.W.kitOne K (.type "NoneType") (.ref cShare) = some false)
    (mcShare_list : PySem.W.kitOne K (.type "list") (.ref cShare) = some false)
    (ucShare_list : PySem.W.kitOne K (.ref cShare) (.type "list") = some false)
    (mcShare_str : PySem.W.kitOne K (.type "str") (.ref cShare) = some false)
    (mcShare_bool : PySem.W.kitOne K (.type "bool") (.ref cShare) = some false)
    (ucShare_bool : PySem.W.kitOne K (.ref cShare) (.type "bool") = some false)
    (mcShare_dict : PySem.W.kitOne K (.type "dict") (.ref cShare) = some false)
    (ecShare : PySem.W.findIn K (.ref cShare) "__ne__" = some (some (.builtin "object.__ne__")))
    (ocShare : PySem.W.subIn K (.ref cShare) (.type "object") = some true)
    (wcShare_tuple : PySem.W.subIn K (.ref cShare) (.type "tuple") = some false)
    (ycShare_tuple : PySem.W.subIn K (.type "tuple") (.ref cShare) = some false)
    (wcShare_int : PySem.W.subIn K (.ref cShare) (.type "int") = some false)
    (ycShare_int : PySem.W.subIn K (.type "int") (.ref cShare) = some false)
    (wcShare_NoneType : PySem.W.subIn K (.ref cShare) (.type "NoneType") = some false)
    (ycShare_NoneType : PySem.W.subIn K (.type "NoneType") (.ref cShare) = some false)
    (wcShare_list : PySem.W.subIn K (.ref cShare) (.type "list") = some false)
    (ycShare_list : PySem.W.subIn K (.type "list") (.ref cShare) = some false)
    (wcShare_str : PySem.W.subIn K (.ref cShare) (.type "str") = some false)
    (ycShare_str : PySem.W.subIn K (.type "str") (.ref cShare) = some false)
    (wcShare_bool : PySem.W.subIn K (.ref cShare) (.type "bool") = some false)
    (ycShare_bool : PySem.W.subIn K (.type "bool") (.ref cShare) = some false)
    (wcShare_dict : PySem.W.subIn K (.ref cShare) (.type "dict") = some false)
    (ycShare_dict : PySem.W.subIn K (.type "dict") (.ref cShare) = some false)
    (a_Share_init : PySem.W.findIn K (.ref cShare) "__init__" = some (some (.ref f_Share_init)))
    (i_Share_init : PySem.W.isFn K (.ref f_Share_init) = true)
    (l_Share_init : K.lookup f_Share_init = some ⟨oc_Share_init, od_Share_init, .func (PySem.W.fnOf "__init__" "Share.__init__" (defArgs d_Share_init) (defBody d_Share_init) (defScope d_Share_init) (.ref TD_Share_init) kV_Share_init dc_Share_init pm_Share_init an_Share_init cd_Share_init ct_Share_init), sl_Share_init⟩)
    (c_Share_init : PySem.W.codeIn K cd_Share_init "Share.__init__" = true)
    (k_Share_init : PySem.W.keepIn K (.ref f_Share_init) = true)
    (lTD_Share_init : K.lookup TD_Share_init = some ⟨ocTD_Share_init, odTD_Share_init, .seq [Value.int 1 tkTD_Share_init].toArray nTD_Share_init, slTD_Share_init⟩)
    (a_Share_eq : PySem.W.findIn K (.ref cShare) "__eq__" = some (some (.ref f_Share_eq)))
    (i_Share_eq : PySem.W.isFn K (.ref f_Share_eq) = true)
    (l_Share_eq : K.lookup f_Share_eq = some ⟨oc_Share_eq, od_Share_eq, .func (PySem.W.fnOf "__eq__" "Share.__eq__" (defArgs d_Share_eq) (defBody d_Share_eq) (defScope d_Share_eq) .none kV_Share_eq dc_Share_eq pm_Share_eq an_Share_eq cd_Share_eq ct_Share_eq), sl_Share_eq⟩)
    (c_Share_eq : PySem.W.codeIn K cd_Share_eq "Share.__eq__" = true)
    (k_Share_eq : PySem.W.keepIn K (.ref f_Share_eq) = true)
    (acWeb : PySem.W.nsIn K mainGlobals "Web" = some (some (.ref cWeb)))
    (pgcWeb : PySem.W.plainGet K cWeb Str.empty = true)
    (hdcWeb : PySem.W.hasDictIn K cWeb = true)
    (pocWeb : PySem.W.plainOver K cWeb = true)
    (sacWeb : PySem.W.findIn K (.ref cWeb) "__setattr__" = some (some (.builtin "object.__setattr__")))
    (mkcWeb : PySem.W.makesIn K cWeb = true)
    (kccWeb : PySem.W.keepIn K (.ref cWeb) = true)
    (ncWeb_beds : PySem.W.findIn K (.ref cWeb) "beds" = some none)
    (ncWeb_many : PySem.W.findIn K (.ref cWeb) "many" = some none)
    (ncWeb_parts : PySem.W.findIn K (.ref cWeb) "parts" = some none)
    (gccWeb : PySem.W.findIn K (.ref cWeb) "__class__" = some (some (.builtin "object.__class__")))
    (gmcWeb : PySem.W.mroIn K cWeb (.type "object") = some true)
    (mecWeb : PySem.W.kitOne K (.ref cWeb) (.ref cWeb) = some true)
    (mcWeb_tuple : PySem.W.kitOne K (.type "tuple") (.ref cWeb) = some false)
    (ucWeb_tuple : PySem.W.kitOne K (.ref cWeb) (.type "tuple") = some false)
    (mcWeb_int : PySem.W.kitOne K (.type "int") (.ref cWeb) = some false)
    (ucWeb_int : PySem.W.kitOne K (.ref cWeb) (.type "int") = some false)
    (mcWeb_NoneType : PySem.W.kitOne K (.type "NoneType") (.ref cWeb) = some false)
    (mcWeb_list : PySem.W.kitOne K (.type "list") (.ref cWeb) = some false)
    (ucWeb_list : PySem.W.kitOne K (.ref cWeb) (.type "list") = some false)
    (mcWeb_str : PySem.W.kitOne K (.type "str") (.ref cWeb) = some false)
    (mcWeb_bool : PySem.W.kitOne K (.type "bool") (.ref cWeb) = some false)
    (ucWeb_bool : PySem.W.kitOne K (.ref cWeb) (.type "bool") = some false)
    (mcWeb_dict : PySem.W.kitOne K (.type "dict") (.ref cWeb) = some false)
    (ecWeb : PySem.W.findIn K (.ref cWeb) "__ne__" = some (some (.builtin "object.__ne__")))
    (ocWeb : PySem.W.subIn K (.ref cWeb) (.type "object") = some true)
    (wcWeb_tuple : PySem.W.subIn K (.ref cWeb) (.type "tuple") = some false)
    (ycWeb_tuple : PySem.W.subIn K (.type "tuple") (.ref cWeb) = some false)
    (wcWeb_int : PySem.W.subIn K (.ref cWeb) (.type "int") = some false)
    (ycWeb_int : PySem.W.subIn K (.type "int") (.ref cWeb) = some false)
    (wcWeb_NoneType : PySem.W.subIn K (.ref cWeb) (.type "NoneType") = some false)
    (ycWeb_NoneType : PySem.W.subIn K (.type "NoneType") (.ref cWeb) = some false)
    (wcWeb_list : PySem.W.subIn K (.ref cWeb) (.type "list") = some false)
    (ycWeb_list : PySem.W.subIn K (.type "list") (.ref cWeb) = some false)
    (wcWeb_str : PySem.W.subIn K (.ref cWeb) (.type "str") = some false)
    (ycWeb_str : PySem.W.subIn K (.type "str") (.ref cWeb) = some false)
    (wcWeb_bool : PySem.W.subIn K (.ref cWeb) (.type "bool") = some false)
    (ycWeb_bool : PySem.W.subIn K (.type "bool") (.ref cWeb) = some false)
    (wcWeb_dict : PySem.W.subIn K (.ref cWeb) (.type "dict") = some false)
    (ycWeb_dict : PySem.W.subIn K (.type "dict") (.ref cWeb) = some false)
    (a_Web_init : PySem.W.findIn K (.ref cWeb) "__init__" = some (some (.ref f_Web_init)))
    (i_Web_init : PySem.W.isFn K (.ref f_Web_init) = true)
    (l_Web_init : K.lookup f_Web_init = some ⟨oc_Web_init, od_Web_init, .func (PySem.W.fnOf "__init__" "Web.__init__" (defArgs d_Web_init) (defBody d_Web_init) (defScope d_Web_init) .none kV_Web_init dc_Web_init pm_Web_init an_Web_init cd_Web_init ct_Web_init), sl_Web_init⟩)
    (c_Web_init : PySem.W.codeIn K cd_Web_init "Web.__init__" = true)
    (k_Web_init : PySem.W.keepIn K (.ref f_Web_init) = true)
    (a_Web_eq : PySem.W.findIn K (.ref cWeb) "__eq__" = some (some (.ref f_Web_eq)))
    (i_Web_eq : PySem.W.isFn K (.ref f_Web_eq) = true)
    (l_Web_eq : K.lookup f_Web_eq = some ⟨oc_Web_eq, od_Web_eq, .func (PySem.W.fnOf "__eq__" "Web.__eq__" (defArgs d_Web_eq) (defBody d_Web_eq) (defScope d_Web_eq) .none kV_Web_eq dc_Web_eq pm_Web_eq an_Web_eq cd_Web_eq ct_Web_eq), sl_Web_eq⟩)
    (c_Web_eq : PySem.W.codeIn K cd_Web_eq "Web.__eq__" = true)
    (k_Web_eq : PySem.W.keepIn K (.ref f_Web_eq) = true)
    (jShare_Web : PySem.W.kitOne K (.ref cShare) (.ref cWeb) = some false)
    (vShare_Web : PySem.W.subIn K (.ref cShare) (.ref cWeb) = some false)
    (jWeb_Share : PySem.W.kitOne K (.ref cWeb) (.ref cShare) = some false)
    (vWeb_Share : PySem.W.subIn K (.ref cWeb) (.ref cShare) = some false)
    (a_is_whole : PySem.W.nsIn K mainGlobals "is_whole" = some (some (.ref f_is_whole)))
    (l_is_whole : K.lookup f_is_whole = some ⟨oc_is_whole, od_is_whole, .func (PySem.W.fnOf "is_whole" "is_whole" (defArgs d_is_whole) (defBody d_is_whole) (defScope d_is_whole) .none kV_is_whole dc_is_whole pm_is_whole an_is_whole cd_is_whole ct_is_whole), sl_is_whole⟩)
    (c_is_whole : PySem.W.codeIn K cd_is_whole "is_whole" = true)
    (k_is_whole : PySem.W.keepIn K (.ref f_is_whole) = true)
    (a_is_between : PySem.W.nsIn K mainGlobals "is_between" = some (some (.ref f_is_between)))
    (l_is_between : K.lookup f_is_between = some ⟨oc_is_between, od_is_between, .func (PySem.W.fnOf "is_between" "is_between" (defArgs d_is_between) (defBody d_is_between) (defScope d_is_between) .none kV_is_between dc_is_between pm_is_between an_is_between cd_is_between ct_is_between), sl_is_between⟩)
    (c_is_between : PySem.W.codeIn K cd_is_between "is_between" = true)
    (k_is_between : PySem.W.keepIn K (.ref f_is_between) = true)
    (a_less : PySem.W.nsIn K mainGlobals "less" = some (some (.ref f_less)))
    (l_less : K.lookup f_less = some ⟨oc_less, od_less, .func (PySem.W.fnOf "less" "less" (defArgs d_less) (defBody d_less) (defScope d_less) .none kV_less dc_less pm_less an_less cd_less ct_less), sl_less⟩)
    (c_less : PySem.W.codeIn K cd_less "less" = true)
    (k_less : PySem.W.keepIn K (.ref f_less) = true)
    (a_are_beds : PySem.W.nsIn K mainGlobals "are_beds" = some (some (.ref f_are_beds)))
    (l_are_beds : K.lookup f_are_beds = some ⟨oc_are_beds, od_are_beds, .func (PySem.W.fnOf "are_beds" "are_beds" (defArgs d_are_beds) (defBody d_are_beds) (defScope d_are_beds) .none kV_are_beds dc_are_beds pm_are_beds an_are_beds cd_are_beds ct_are_beds), sl_are_beds⟩)
    (c_are_beds : PySem.W.codeIn K cd_are_beds "are_beds" = true)
    (k_are_beds : PySem.W.keepIn K (.ref f_are_beds) = true)
    (a_is_a_bed : PySem.W.nsIn K mainGlobals "is_a_bed" = some (some (.ref f_is_a_bed)))
    (l_is_a_bed : K.lookup f_is_a_bed = some ⟨oc_is_a_bed, od_is_a_bed, .func (PySem.W.fnOf "is_a_bed" "is_a_bed" (defArgs d_is_a_bed) (defBody d_is_a_bed) (defScope d_is_a_bed) .none kV_is_a_bed dc_is_a_bed pm_is_a_bed an_is_a_bed cd_is_a_bed ct_is_a_bed), sl_is_a_bed⟩)
    (c_is_a_bed : PySem.W.codeIn K cd_is_a_bed "is_a_bed" = true)
    (k_is_a_bed : PySem.W.keepIn K (.ref f_is_a_bed) = true)
    (a_are_parts : PySem.W.nsIn K mainGlobals "are_parts" = some (some (.ref f_are_parts)))
    (l_are_parts : K.lookup f_are_parts = some ⟨oc_are_parts, od_are_parts, .func (PySem.W.fnOf "are_parts" "are_parts" (defArgs d_are_parts) (defBody d_are_parts) (defScope d_are_parts) .none kV_are_parts dc_are_parts pm_are_parts an_are_parts cd_are_parts ct_are_parts), sl_are_parts⟩)
    (c_are_parts : PySem.W.codeIn K cd_are_parts "are_parts" = true)
    (k_are_parts : PySem.W.keepIn K (.ref f_are_parts) = true)
    (a_are_parts_of_one : PySem.W.nsIn K mainGlobals "are_parts_of_one" = some (some (.ref f_are_parts_of_one)))
    (l_are_parts_of_one : K.lookup f_are_parts_of_one = some ⟨oc_are_parts_of_one, od_are_parts_of_one, .func (PySem.W.fnOf "are_parts_of_one" "are_parts_of_one" (defArgs d_are_parts_of_one) (defBody d_are_parts_of_one) (defScope d_are_parts_of_one) .none kV_are_parts_of_one dc_are_parts_of_one pm_are_parts_of_one an_are_parts_of_one cd_are_parts_of_one ct_are_parts_of_one), sl_are_parts_of_one⟩)
    (c_are_parts_of_one : PySem.W.codeIn K cd_are_parts_of_one "are_parts_of_one" = true)
    (k_are_parts_of_one : PySem.W.keepIn K (.ref f_are_parts_of_one) = true)
    (a_is_place : PySem.W.nsIn K mainGlobals "is_place" = some (some (.ref f_is_place)))
    (l_is_place : K.lookup f_is_place = some ⟨oc_is_place, od_is_place, .func (PySem.W.fnOf "is_place" "is_place" (defArgs d_is_place) (defBody d_is_place) (defScope d_is_place) .none kV_is_place dc_is_place pm_is_place an_is_place cd_is_place ct_is_place), sl_is_place⟩)
    (c_is_place : PySem.W.codeIn K cd_is_place "is_place" = true)
    (k_is_place : PySem.W.keepIn K (.ref f_is_place) = true)
    (a_beds_from : PySem.W.nsIn K mainGlobals "beds_from" = some (some (.ref f_beds_from)))
    (l_beds_from : K.lookup f_beds_from = some ⟨oc_beds_from, od_beds_from, .func (PySem.W.fnOf "beds_from" "beds_from" (defArgs d_beds_from) (defBody d_beds_from) (defScope d_beds_from) .none kV_beds_from dc_beds_from pm_beds_from an_beds_from cd_beds_from ct_beds_from), sl_beds_from⟩)
    (c_beds_from : PySem.W.codeIn K cd_beds_from "beds_from" = true)
    (k_beds_from : PySem.W.keepIn K (.ref f_beds_from) = true)
    (a_cut : PySem.W.nsIn K mainGlobals "cut" = some (some (.ref f_cut)))
    (l_cut : K.lookup f_cut = some ⟨oc_cut, od_cut, .func (PySem.W.fnOf "cut" "cut" (defArgs d_cut) (defBody d_cut) (defScope d_cut) .none kV_cut dc_cut pm_cut an_cut cd_cut ct_cut), sl_cut⟩)
    (c_cut : PySem.W.codeIn K cd_cut "cut" = true)
    (k_cut : PySem.W.keepIn K (.ref f_cut) = true)
    (a_joined : PySem.W.nsIn K mainGlobals "joined" = some (some (.ref f_joined)))
    (l_joined : K.lookup f_joined = some ⟨oc_joined, od_joined, .func (PySem.W.fnOf "joined" "joined" (defArgs d_joined) (defBody d_joined) (defScope d_joined) .none kV_joined dc_joined pm_joined an_joined (.ref cc) ct_joined), sl_joined⟩)
    (c_joined : PySem.W.codeIn K (.ref cc) "joined" = true)
    (k_joined : PySem.W.keepIn K (.ref f_joined) = true)
    (lC : K.lookup cc = some ⟨.type "code", dcC, .fields vcC, scC⟩)
    (vC : vcC[11]? = some (.ref Pt))
    (hC : PySem.W.codeHdIn K cc Pt = true)
    (nP : K.lookup Pt = none)
    (tP : h.get? Pt = some { cls := .none, data := .fields #[] })
    (a_are_pipes : PySem.W.nsIn K mainGlobals "are_pipes" = some (some (.ref f_are_pipes)))
    (l_are_pipes : K.lookup f_are_pipes = some ⟨oc_are_pipes, od_are_pipes, .func (PySem.W.fnOf "are_pipes" "are_pipes" (defArgs d_are_pipes) (defBody d_are_pipes) (defScope d_are_pipes) .none kV_are_pipes dc_are_pipes pm_are_pipes an_are_pipes cd_are_pipes ct_are_pipes), sl_are_pipes⟩)
    (c_are_pipes : PySem.W.codeIn K cd_are_pipes "are_pipes" = true)
    (k_are_pipes : PySem.W.keepIn K (.ref f_are_pipes) = true)
    (a_is_pipe : PySem.W.nsIn K mainGlobals "is_pipe" = some (some (.ref f_is_pipe)))
    (l_is_pipe : K.lookup f_is_pipe = some ⟨oc_is_pipe, od_is_pipe, .func (PySem.W.fnOf "is_pipe" "is_pipe" (defArgs d_is_pipe) (defBody d_is_pipe) (defScope d_is_pipe) .none kV_is_pipe dc_is_pipe pm_is_pipe an_is_pipe cd_is_pipe ct_is_pipe), sl_is_pipe⟩)
    (c_is_pipe : PySem.W.codeIn K cd_is_pipe "is_pipe" = true)
    (k_is_pipe : PySem.W.keepIn K (.ref f_is_pipe) = true)
    (a_law_cell_at : PySem.W.nsIn K mainGlobals "_law_cell_at" = some (some (.ref f_law_cell_at)))
    (l_law_cell_at : K.lookup f_law_cell_at = some ⟨oc_law_cell_at, od_law_cell_at, .func (PySem.W.fnOf "_law_cell_at" "_law_cell_at" (defArgs d_law_cell_at) (defBody d_law_cell_at) (defScope d_law_cell_at) .none kV_law_cell_at dc_law_cell_at pm_law_cell_at an_law_cell_at cd_law_cell_at ct_law_cell_at), sl_law_cell_at⟩)
    (c_law_cell_at : PySem.W.codeIn K cd_law_cell_at "_law_cell_at" = true)
    (k_law_cell_at : PySem.W.keepIn K (.ref f_law_cell_at) = true)
    (a_law_mixed : PySem.W.nsIn K mainGlobals "_law_mixed" = some (some (.ref f_law_mixed)))
    (l_law_mixed : K.lookup f_law_mixed = some ⟨oc_law_mixed, od_law_mixed, .func (PySem.W.fnOf "_law_mixed" "_law_mixed" (defArgs d_law_mixed) (defBody d_law_mixed) (defScope d_law_mixed) .none kV_law_mixed dc_law_mixed pm_law_mixed an_law_mixed cd_law_mixed ct_law_mixed), sl_law_mixed⟩)
    (c_law_mixed : PySem.W.codeIn K cd_law_mixed "_law_mixed" = true)
    (k_law_mixed : PySem.W.keepIn K (.ref f_law_mixed) = true)
    (a_law_source : PySem.W.nsIn K mainGlobals "_law_source" = some (some (.ref f_law_source)))
    (l_law_source : K.lookup f_law_source = some ⟨oc_law_source, od_law_source, .func (PySem.W.fnOf "_law_source" "_law_source" (defArgs d_law_source) (defBody d_law_source) (defScope d_law_source) .none kV_law_source dc_law_source pm_law_source an_law_source cd_law_source ct_law_source), sl_law_source⟩)
    (c_law_source : PySem.W.codeIn K cd_law_source "_law_source" = true)
    (k_law_source : PySem.W.keepIn K (.ref f_law_source) = true)
    (a_law_next : PySem.W.nsIn K mainGlobals "_law_next" = some (some (.ref f_law_next)))
    (l_law_next : K.lookup f_law_next = some ⟨oc_law_next, od_law_next, .func (PySem.W.fnOf "_law_next" "_law_next" (defArgs d_law_next) (defBody d_law_next) (defScope d_law_next) .none kV_law_next dc_law_next pm_law_next an_law_next cd_law_next ct_law_next), sl_law_next⟩)
    (c_law_next : PySem.W.codeIn K cd_law_next "_law_next" = true)
    (k_law_next : PySem.W.keepIn K (.ref f_law_next) = true)
    (a_law_pick : PySem.W.nsIn K mainGlobals "_law_pick" = some (some (.ref f_law_pick)))
    (l_law_pick : K.lookup f_law_pick = some ⟨oc_law_pick, od_law_pick, .func (PySem.W.fnOf "_law_pick" "_law_pick" (defArgs d_law_pick) (defBody d_law_pick) (defScope d_law_pick) .none kV_law_pick dc_law_pick pm_law_pick an_law_pick cd_law_pick ct_law_pick), sl_law_pick⟩)
    (c_law_pick : PySem.W.codeIn K cd_law_pick "_law_pick" = true)
    (k_law_pick : PySem.W.keepIn K (.ref f_law_pick) = true)
    (a_law_lowered : PySem.W.nsIn K mainGlobals "_law_lowered" = some (some (.ref f_law_lowered)))
    (l_law_lowered : K.lookup f_law_lowered = some ⟨oc_law_lowered, od_law_lowered, .func (PySem.W.fnOf "_law_lowered" "_law_lowered" (defArgs d_law_lowered) (defBody d_law_lowered) (defScope d_law_lowered) .none kV_law_lowered dc_law_lowered pm_law_lowered an_law_lowered cd_law_lowered ct_law_lowered), sl_law_lowered⟩)
    (c_law_lowered : PySem.W.codeIn K cd_law_lowered "_law_lowered" = true)
    (k_law_lowered : PySem.W.keepIn K (.ref f_law_lowered) = true)
    (a_law_sum : PySem.W.nsIn K mainGlobals "_law_sum" = some (some (.ref f_law_sum)))
    (l_law_sum : K.lookup f_law_sum = some ⟨oc_law_sum, od_law_sum, .func (PySem.W.fnOf "_law_sum" "_law_sum" (defArgs d_law_sum) (defBody d_law_sum) (defScope d_law_sum) .none kV_law_sum dc_law_sum pm_law_sum an_law_sum cd_law_sum ct_law_sum), sl_law_sum⟩)
    (c_law_sum : PySem.W.codeIn K cd_law_sum "_law_sum" = true)
    (k_law_sum : PySem.W.keepIn K (.ref f_law_sum) = true)
    (a_law_mark : PySem.W.nsIn K mainGlobals "_law_mark" = some (some (.ref f_law_mark)))
    (l_law_mark : K.lookup f_law_mark = some ⟨oc_law_mark, od_law_mark, .func (PySem.W.fnOf "_law_mark" "_law_mark" (defArgs d_law_mark) (defBody d_law_mark) (defScope d_law_mark) .none kV_law_mark dc_law_mark pm_law_mark an_law_mark cd_law_mark ct_law_mark), sl_law_mark⟩)
    (c_law_mark : PySem.W.codeIn K cd_law_mark "_law_mark" = true)
    (k_law_mark : PySem.W.keepIn K (.ref f_law_mark) = true)
    (a_law_beds_of : PySem.W.nsIn K mainGlobals "_law_beds_of" = some (some (.ref f_law_beds_of)))
    (l_law_beds_of : K.lookup f_law_beds_of = some ⟨oc_law_beds_of, od_law_beds_of, .func (PySem.W.fnOf "_law_beds_of" "_law_beds_of" (defArgs d_law_beds_of) (defBody d_law_beds_of) (defScope d_law_beds_of) .none kV_law_beds_of dc_law_beds_of pm_law_beds_of an_law_beds_of cd_law_beds_of ct_law_beds_of), sl_law_beds_of⟩)
    (c_law_beds_of : PySem.W.codeIn K cd_law_beds_of "_law_beds_of" = true)
    (k_law_beds_of : PySem.W.keepIn K (.ref f_law_beds_of) = true)
    (a_law_world : PySem.W.nsIn K mainGlobals "_law_world" = some (some (.ref f_law_world)))
    (l_law_world : K.lookup f_law_world = some ⟨oc_law_world, od_law_world, .func (PySem.W.fnOf "_law_world" "_law_world" (defArgs d_law_world) (defBody d_law_world) (defScope d_law_world) .none kV_law_world dc_law_world pm_law_world an_law_world cd_law_world ct_law_world), sl_law_world⟩)
    (c_law_world : PySem.W.codeIn K cd_law_world "_law_world" = true)
    (k_law_world : PySem.W.keepIn K (.ref f_law_world) = true)
    (a_law_made : PySem.W.nsIn K mainGlobals "_law_made" = some (some (.ref f_law_made)))
    (l_law_made : K.lookup f_law_made = some ⟨oc_law_made, od_law_made, .func (PySem.W.fnOf "_law_made" "_law_made" (defArgs d_law_made) (defBody d_law_made) (defScope d_law_made) .none kV_law_made dc_law_made pm_law_made an_law_made cd_law_made ct_law_made), sl_law_made⟩)
    (c_law_made : PySem.W.codeIn K cd_law_made "_law_made" = true)
    (k_law_made : PySem.W.keepIn K (.ref f_law_made) = true)
    (a_law_parts_for : PySem.W.nsIn K mainGlobals "_law_parts_for" = some (some (.ref f_law_parts_for)))
    (l_law_parts_for : K.lookup f_law_parts_for = some ⟨oc_law_parts_for, od_law_parts_for, .func (PySem.W.fnOf "_law_parts_for" "_law_parts_for" (defArgs d_law_parts_for) (defBody d_law_parts_for) (defScope d_law_parts_for) .none kV_law_parts_for dc_law_parts_for pm_law_parts_for an_law_parts_for cd_law_parts_for ct_law_parts_for), sl_law_parts_for⟩)
    (c_law_parts_for : PySem.W.codeIn K cd_law_parts_for "_law_parts_for" = true)
    (k_law_parts_for : PySem.W.keepIn K (.ref f_law_parts_for) = true)
    (a_law_row_changed : PySem.W.nsIn K mainGlobals "_law_row_changed" = some (some (.ref f_law_row_changed)))
    (l_law_row_changed : K.lookup f_law_row_changed = some ⟨oc_law_row_changed, od_law_row_changed, .func (PySem.W.fnOf "_law_row_changed" "_law_row_changed" (defArgs d_law_row_changed) (defBody d_law_row_changed) (defScope d_law_row_changed) .none kV_law_row_changed dc_law_row_changed pm_law_row_changed an_law_row_changed (.ref cc2) ct_law_row_changed), sl_law_row_changed⟩)
    (c_law_row_changed : PySem.W.codeIn K (.ref cc2) "_law_row_changed" = true)
    (k_law_row_changed : PySem.W.keepIn K (.ref f_law_row_changed) = true)
    (lC2 : K.lookup cc2 = some ⟨.type "code", dcC2, .fields vcC2, scC2⟩)
    (vC2 : vcC2[11]? = some (.ref Pt2))
    (hC2 : PySem.W.codeHdIn K cc2 Pt2 = true)
    (nP2 : K.lookup Pt2 = none)
    (tP2 : h.get? Pt2 = some { cls := .none, data := .fields #[] })
    (nePt : Pt ≠ Pt2)
    (a_law_parts_changed : PySem.W.nsIn K mainGlobals "_law_parts_changed" = some (some (.ref f_law_parts_changed)))
    (l_law_parts_changed : K.lookup f_law_parts_changed = some ⟨oc_law_parts_changed, od_law_parts_changed, .func (PySem.W.fnOf "_law_parts_changed" "_law_parts_changed" (defArgs d_law_parts_changed) (defBody d_law_parts_changed) (defScope d_law_parts_changed) .none kV_law_parts_changed dc_law_parts_changed pm_law_parts_changed an_law_parts_changed cd_law_parts_changed ct_law_parts_changed), sl_law_parts_changed⟩)
    (c_law_parts_changed : PySem.W.codeIn K cd_law_parts_changed "_law_parts_changed" = true)
    (k_law_parts_changed : PySem.W.keepIn K (.ref f_law_parts_changed) = true)
    (a_law_beds_exchanged : PySem.W.nsIn K mainGlobals "_law_beds_exchanged" = some (some (.ref f_law_beds_exchanged)))
    (l_law_beds_exchanged : K.lookup f_law_beds_exchanged = some ⟨oc_law_beds_exchanged, od_law_beds_exchanged, .func (PySem.W.fnOf "_law_beds_exchanged" "_law_beds_exchanged" (defArgs d_law_beds_exchanged) (defBody d_law_beds_exchanged) (defScope d_law_beds_exchanged) .none kV_law_beds_exchanged dc_law_beds_exchanged pm_law_beds_exchanged an_law_beds_exchanged cd_law_beds_exchanged ct_law_beds_exchanged), sl_law_beds_exchanged⟩)
    (c_law_beds_exchanged : PySem.W.codeIn K cd_law_beds_exchanged "_law_beds_exchanged" = true)
    (k_law_beds_exchanged : PySem.W.keepIn K (.ref f_law_beds_exchanged) = true)
    (a_law_bed_more : PySem.W.nsIn K mainGlobals "_law_bed_more" = some (some (.ref f_law_bed_more)))
    (l_law_bed_more : K.lookup f_law_bed_more = some ⟨oc_law_bed_more, od_law_bed_more, .func (PySem.W.fnOf "_law_bed_more" "_law_bed_more" (defArgs d_law_bed_more) (defBody d_law_bed_more) (defScope d_law_bed_more) .none kV_law_bed_more dc_law_bed_more pm_law_bed_more an_law_bed_more (.ref cc3) ct_law_bed_more), sl_law_bed_more⟩)
    (c_law_bed_more : PySem.W.codeIn K (.ref cc3) "_law_bed_more" = true)
    (k_law_bed_more : PySem.W.keepIn K (.ref f_law_bed_more) = true)
    (lC3 : K.lookup cc3 = some ⟨.type "code", dcC3, .fields vcC3, scC3⟩)
    (vC3 : vcC3[11]? = some (.ref Pt3))
    (hC3 : PySem.W.codeHdIn K cc3 Pt3 = true)
    (nP3 : K.lookup Pt3 = none)
    (tP3 : h.get? Pt3 = some { cls := .none, data := .fields #[] })
    (nePt13 : Pt ≠ Pt3)
    (nePt23 : Pt2 ≠ Pt3)
    (a_law_changed : PySem.W.nsIn K mainGlobals "_law_changed" = some (some (.ref f_law_changed)))
    (l_law_changed : K.lookup f_law_changed = some ⟨oc_law_changed, od_law_changed, .func (PySem.W.fnOf "_law_changed" "_law_changed" (defArgs d_law_changed) (defBody d_law_changed) (defScope d_law_changed) .none kV_law_changed dc_law_changed pm_law_changed an_law_changed cd_law_changed ct_law_changed), sl_law_changed⟩)
    (c_law_changed : PySem.W.codeIn K cd_law_changed "_law_changed" = true)
    (k_law_changed : PySem.W.keepIn K (.ref f_law_changed) = true)
    (a_law_cut_at : PySem.W.nsIn K mainGlobals "_law_cut_at" = some (some (.ref f_law_cut_at)))
    (l_law_cut_at : K.lookup f_law_cut_at = some ⟨oc_law_cut_at, od_law_cut_at, .func (PySem.W.fnOf "_law_cut_at" "_law_cut_at" (defArgs d_law_cut_at) (defBody d_law_cut_at) (defScope d_law_cut_at) .none kV_law_cut_at dc_law_cut_at pm_law_cut_at an_law_cut_at cd_law_cut_at ct_law_cut_at), sl_law_cut_at⟩)
    (c_law_cut_at : PySem.W.codeIn K cd_law_cut_at "_law_cut_at" = true)
    (k_law_cut_at : PySem.W.keepIn K (.ref f_law_cut_at) = true)
    (a_law_put_beside : PySem.W.nsIn K mainGlobals "_law_put_beside" = some (some (.ref f_law_put_beside)))
    (l_law_put_beside : K.lookup f_law_put_beside = some ⟨oc_law_put_beside, od_law_put_beside, .func (PySem.W.fnOf "_law_put_beside" "_law_put_beside" (defArgs d_law_put_beside) (defBody d_law_put_beside) (defScope d_law_put_beside) .none kV_law_put_beside dc_law_put_beside pm_law_put_beside an_law_put_beside cd_law_put_beside ct_law_put_beside), sl_law_put_beside⟩)
    (c_law_put_beside : PySem.W.codeIn K cd_law_put_beside "_law_put_beside" = true)
    (k_law_put_beside : PySem.W.keepIn K (.ref f_law_put_beside) = true)
    (a_law_two_right : PySem.W.nsIn K mainGlobals "_law_two_right" = some (some (.ref f_law_two_right)))
    (l_law_two_right : K.lookup f_law_two_right = some ⟨oc_law_two_right, od_law_two_right, .func (PySem.W.fnOf "_law_two_right" "_law_two_right" (defArgs d_law_two_right) (defBody d_law_two_right) (defScope d_law_two_right) .none kV_law_two_right dc_law_two_right pm_law_two_right an_law_two_right cd_law_two_right ct_law_two_right), sl_law_two_right⟩)
    (c_law_two_right : PySem.W.codeIn K cd_law_two_right "_law_two_right" = true)
    (k_law_two_right : PySem.W.keepIn K (.ref f_law_two_right) = true)
    (a_law_world_right : PySem.W.nsIn K mainGlobals "_law_world_right" = some (some (.ref f_law_world_right)))
    (l_law_world_right : K.lookup f_law_world_right = some ⟨oc_law_world_right, od_law_world_right, .func (PySem.W.fnOf "_law_world_right" "_law_world_right" (defArgs d_law_world_right) (defBody d_law_world_right) (defScope d_law_world_right) .none kV_law_world_right dc_law_world_right pm_law_world_right an_law_world_right cd_law_world_right ct_law_world_right), sl_law_world_right⟩)
    (c_law_world_right : PySem.W.codeIn K cd_law_world_right "_law_world_right" = true)
    (k_law_world_right : PySem.W.keepIn K (.ref f_law_world_right) = true)
    (a_law : PySem.W.nsIn K mainGlobals "law" = some (some (.ref f_law)))
    (l_law : K.lookup f_law = some ⟨oc_law, od_law, .func (PySem.W.fnOf "law" "law" (defArgs d_law) (defBody d_law) (defScope d_law) .none kV_law dc_law pm_law an_law cd_law ct_law), sl_law⟩)
    (c_law : PySem.W.codeIn K cd_law "law" = true)
    (k_law : PySem.W.keepIn K (.ref f_law) = true)
    (gs : PySem.W.specialIn K (.builtin "object.__class__") "__get__" = some (some (.builtin "getset_descriptor.__get__")))
    (gt : PySem.W.takesIn K (.builtin "object.__class__") = some true)
    : ∃ (fd : FuncData) (cc Pt cc2 Pt2 cc3 Pt3 : Addr), h.get? Pt = some { cls := .none, data := .fields #[] } ∧ K.lookup Pt = none ∧ PySem.W.CodeHd h cc Pt ∧ h.get? Pt2 = some { cls := .none, data := .fields #[] } ∧ K.lookup Pt2 = none ∧ PySem.W.CodeHd h cc2 Pt2 ∧ h.get? Pt3 = some { cls := .none, data := .fields #[] } ∧ K.lookup Pt3 = none ∧ PySem.W.CodeHd h cc3 Pt3 ∧ (∀ (s : Shared) (v : Value), BindsTo s fd ⟨[v], []⟩ [("script", v)]) ∧ ∀ base : Heap, K.In base → base.Ns mainGlobals mg → TabB base mg cc Pt → TabB base mg cc2 Pt2 → TabB base mg cc3 Pt3 → FnOk P w K mg base CX0 9 fa fd ["script"] (spLaw K Pt Pt2 Pt3) := by
  have e := hfa.symm.trans (PySem.W.mg_of X G a_law)
  cases e
  have z_ValueError := PySem.W.mg_none_of X G z_ValueError
  have z_abs := PySem.W.mg_none_of X G z_abs
  have z_all := PySem.W.mg_none_of X G z_all
  have z_any := PySem.W.mg_none_of X G z_any
  have z_bool := PySem.W.mg_none_of X G z_bool
  have z_enumerate := PySem.W.mg_none_of X G z_enumerate
  have z_int := PySem.W.mg_none_of X G z_int
  have z_isinstance := PySem.W.mg_none_of X G z_isinstance
  have z_len := PySem.W.mg_none_of X G z_len
  have z_list := PySem.W.mg_none_of X G z_list
  have z_max := PySem.W.mg_none_of X G z_max
  have z_min := PySem.W.mg_none_of X G z_min
  have z_range := PySem.W.mg_none_of X G z_range
  have z_set := PySem.W.mg_none_of X G z_set
  have z_sorted := PySem.W.mg_none_of X G z_sorted
  have z_sum := PySem.W.mg_none_of X G z_sum
  have z_super := PySem.W.mg_none_of X G z_super
  have z_tuple := PySem.W.mg_none_of X G z_tuple
  have i_gcd := PySem.W.mg_of X G i_gcd
  have g_MOST_PLACES := PySem.W.mg_of X G g_MOST_PLACES
  have g_MOST_BEDS := PySem.W.mg_of X G g_MOST_BEDS
  have g_MOST_BEDS_OF_A_PLACE := PySem.W.mg_of X G g_MOST_BEDS_OF_A_PLACE
  have g_MOST_OF_A_PART := PySem.W.mg_of X G g_MOST_OF_A_PART
  have mcRillError := PySem.W.mg_of X G acRillError
  have mcNoShare := PySem.W.mg_of X G acNoShare
  have mcShare := PySem.W.mg_of X G acShare
  have mcWeb := PySem.W.mg_of X G acWeb
  have F_Share_init : FunD K "__init__" "Share.__init__" (defArgs d_Share_init) (defBody d_Share_init) (defScope d_Share_init) [.int 1] [] f_Share_init _ := ⟨⟨_, _, _, _, _, _, _, _, _, _, rfl, l_Share_init, c_Share_init, .inr ⟨(fun z => nomatch z), TD_Share_init, _, [Value.int 1 tkTD_Share_init], nTD_Share_init, rfl, lTD_Share_init, rfl, .cons ⟨tkTD_Share_init, rfl⟩ .nil⟩, .inl rfl⟩, k_Share_init⟩
  obtain ⟨ds_Share_init3, rd_Share_init3, b_Share_init3⟩ := FunD.binds1 (ps := ["self", "top", "bottom"]) F_Share_init 3 1 (fun z => nomatch z) rfl (fun T kV doc pm an cdv ct us its hu hi => match us, its, hu, hi with | [_, _, _], [_], _, _ => ⟨_, rfl, rfl⟩)
  obtain ⟨ds_Share_init2, rd_Share_init2, b_Share_init2⟩ := FunD.binds1 (ps := ["self", "top", "bottom"]) F_Share_init 2 0 (fun z => nomatch z) rfl (fun T kV doc pm an cdv ct us its hu hi => match us, its, hu, hi with | [_, _], [_], _, _ => ⟨_, rfl, rfl⟩)
  cases rd_Share_init3
  obtain ⟨u0_Share_init, rfl⟩ : ∃ u0, ds_Share_init2 = [u0] := by
    cases rd_Share_init2 with
    | cons r1 rn =>
      cases rn
      exact ⟨_, rfl⟩
  have F_Share_eq := fun_mk (st := d_Share_eq) l_Share_eq c_Share_eq k_Share_eq
  have b_Share_eq := F_Share_eq.binds (ps := ["self", "other"]) fun _ _ _ _ _ _ us hl => match us, hl with | [_, _], _ => rfl
  have F_Web_init := fun_mk (st := d_Web_init) l_Web_init c_Web_init k_Web_init
  have b_Web_init := F_Web_init.binds (ps := ["self", "many", "beds", "parts"]) fun _ _ _ _ _ _ us hl => match us, hl with | [_, _, _, _], _ => rfl
  have F_Web_eq := fun_mk (st := d_Web_eq) l_Web_eq c_Web_eq k_Web_eq
  have b_Web_eq := F_Web_eq.binds (ps := ["self", "other"]) fun _ _ _ _ _ _ us hl => match us, hl with | [_, _], _ => rfl
  have F_is_whole := fun_mk (st := d_is_whole) l_is_whole c_is_whole k_is_whole
  have m_is_whole := PySem.W.mg_of X G a_is_whole
  have b_is_whole := F_is_whole.binds (ps := ["thing"]) fun _ _ _ _ _ _ us hl => match us, hl with | [_], _ => rfl
  have F_is_between := fun_mk (st := d_is_between) l_is_between c_is_between k_is_between
  have m_is_between := PySem.W.mg_of X G a_is_between
  have b_is_between := F_is_between.binds (ps := ["thing", "least", "most"]) fun _ _ _ _ _ _ us hl => match us, hl with | [_, _, _], _ => rfl
  have F_less := fun_mk (st := d_less) l_less c_less k_less
  have m_less := PySem.W.mg_of X G a_less
  have b_less := F_less.binds (ps := ["one", "other"]) fun _ _ _ _ _ _ us hl => match us, hl with | [_, _], _ => rfl
  have F_are_beds := fun_mk (st := d_are_beds) l_are_beds c_are_beds k_are_beds
  have m_are_beds := PySem.W.mg_of X G a_are_beds
  have b_are_beds := F_are_beds.binds (ps := ["things", "many"]) fun _ _ _ _ _ _ us hl => match us, hl with | [_, _], _ => rfl
  have F_is_a_bed := fun_mk (st := d_is_a_bed) l_is_a_bed c_is_a_bed k_is_a_bed
  have m_is_a_bed := PySem.W.mg_of X G a_is_a_bed
  have b_is_a_bed := F_is_a_bed.binds (ps := ["thing", "many"]) fun _ _ _ _ _ _ us hl => match us, hl with | [_, _], _ => rfl
  have F_are_parts := fun_mk (st := d_are_parts) l_are_parts c_are_parts k_are_parts
  have m_are_parts := PySem.W.mg_of X G a_are_parts
  have b_are_parts := F_are_parts.binds (ps := ["things", "many", "beds"]) fun _ _ _ _ _ _ us hl => match us, hl with | [_, _, _], _ => rfl
  have F_are_parts_of_one := fun_mk (st := d_are_parts_of_one) l_are_parts_of_one c_are_parts_of_one k_are_parts_of_one
  have m_are_parts_of_one := PySem.W.mg_of X G a_are_parts_of_one
  have b_are_parts_of_one := F_are_parts_of_one.binds (ps := ["thing", "many"]) fun _ _ _ _ _ _ us hl => match us, hl with | [_, _], _ => rfl
  have F_is_place := fun_mk (st := d_is_place) l_is_place c_is_place k_is_place
  have m_is_place := PySem.W.mg_of X G a_is_place
  have b_is_place := F_is_place.binds (ps := ["web", "thing"]) fun _ _ _ _ _ _ us hl => match us, hl with | [_, _], _ => rfl
  have F_beds_from := fun_mk (st := d_beds_from) l_beds_from c_beds_from k_beds_from
  have m_beds_from := PySem.W.mg_of X G a_beds_from
  have b_beds_from := F_beds_from.binds (ps := ["web", "place"]) fun _ _ _ _ _ _ us hl => match us, hl with | [_, _], _ => rfl
  have F_cut := fun_mk (st := d_cut) l_cut c_cut k_cut
  have m_cut := PySem.W.mg_of X G a_cut
  have b_cut := F_cut.binds (ps := ["web", "place"]) fun _ _ _ _ _ _ us hl => match us, hl with | [_, _], _ => rfl
  have F_joined := fun_mk (st := d_joined) l_joined c_joined k_joined
  have m_joined := PySem.W.mg_of X G a_joined
  have F_are_pipes := fun_mk (st := d_are_pipes) l_are_pipes c_are_pipes k_are_pipes
  have m_are_pipes := PySem.W.mg_of X G a_are_pipes
  have b_are_pipes := F_are_pipes.binds (ps := ["one", "other", "things"]) fun _ _ _ _ _ _ us hl => match us, hl with | [_, _, _], _ => rfl
  have F_is_pipe := fun_mk (st := d_is_pipe) l_is_pipe c_is_pipe k_is_pipe
  have m_is_pipe := PySem.W.mg_of X G a_is_pipe
  have b_is_pipe := F_is_pipe.binds (ps := ["one", "other", "thing"]) fun _ _ _ _ _ _ us hl => match us, hl with | [_, _, _], _ => rfl
  have F_law_cell_at := fun_mk (st := d_law_cell_at) l_law_cell_at c_law_cell_at k_law_cell_at
  have m_law_cell_at := PySem.W.mg_of X G a_law_cell_at
  have b_law_cell_at := F_law_cell_at.binds (ps := ["script", "k"]) fun _ _ _ _ _ _ us hl => match us, hl with | [_, _], _ => rfl
  have F_law_mixed := fun_mk (st := d_law_mixed) l_law_mixed c_law_mixed k_law_mixed
  have m_law_mixed := PySem.W.mg_of X G a_law_mixed
  have b_law_mixed := F_law_mixed.binds (ps := ["cell", "k"]) fun _ _ _ _ _ _ us hl => match us, hl with | [_, _], _ => rfl
  have F_law_source := fun_mk (st := d_law_source) l_law_source c_law_source k_law_source
  have m_law_source := PySem.W.mg_of X G a_law_source
  have b_law_source := F_law_source.binds (ps := ["script", "k"]) fun _ _ _ _ _ _ us hl => match us, hl with | [_, _], _ => rfl
  have F_law_next := fun_mk (st := d_law_next) l_law_next c_law_next k_law_next
  have m_law_next := PySem.W.mg_of X G a_law_next
  have b_law_next := F_law_next.binds (ps := ["source", "many"]) fun _ _ _ _ _ _ us hl => match us, hl with | [_, _], _ => rfl
  have F_law_pick := fun_mk (st := d_law_pick) l_law_pick c_law_pick k_law_pick
  have m_law_pick := PySem.W.mg_of X G a_law_pick
  have b_law_pick := F_law_pick.binds (ps := ["source", "some"]) fun _ _ _ _ _ _ us hl => match us, hl with | [_, _], _ => rfl
  have F_law_lowered := fun_mk (st := d_law_lowered) l_law_lowered c_law_lowered k_law_lowered
  have m_law_lowered := PySem.W.mg_of X G a_law_lowered
  have b_law_lowered := F_law_lowered.binds (ps := ["one", "other"]) fun _ _ _ _ _ _ us hl => match us, hl with | [_, _], _ => rfl
  have F_law_sum := fun_mk (st := d_law_sum) l_law_sum c_law_sum k_law_sum
  have m_law_sum := PySem.W.mg_of X G a_law_sum
  have b_law_sum := F_law_sum.binds (ps := ["one", "other"]) fun _ _ _ _ _ _ us hl => match us, hl with | [_, _], _ => rfl
  have F_law_mark := fun_mk (st := d_law_mark) l_law_mark c_law_mark k_law_mark
  have m_law_mark := PySem.W.mg_of X G a_law_mark
  have b_law_mark := F_law_mark.binds (ps := ["source"]) fun _ _ _ _ _ _ us hl => match us, hl with | [_], _ => rfl
  have F_law_beds_of := fun_mk (st := d_law_beds_of) l_law_beds_of c_law_beds_of k_law_beds_of
  have m_law_beds_of := PySem.W.mg_of X G a_law_beds_of
  have b_law_beds_of := F_law_beds_of.binds (ps := ["source", "many"]) fun _ _ _ _ _ _ us hl => match us, hl with | [_, _], _ => rfl
  have F_law_world := fun_mk (st := d_law_world) l_law_world c_law_world k_law_world
  have m_law_world := PySem.W.mg_of X G a_law_world
  have b_law_world := F_law_world.binds (ps := ["source", "most_places"]) fun _ _ _ _ _ _ us hl => match us, hl with | [_, _], _ => rfl
  have F_law_made := fun_mk (st := d_law_made) l_law_made c_law_made k_law_made
  have m_law_made := PySem.W.mg_of X G a_law_made
  have b_law_made := F_law_made.binds (ps := ["source", "world"]) fun _ _ _ _ _ _ us hl => match us, hl with | [_, _], _ => rfl
  have F_law_parts_for := fun_mk (st := d_law_parts_for) l_law_parts_for c_law_parts_for k_law_parts_for
  have m_law_parts_for := PySem.W.mg_of X G a_law_parts_for
  have b_law_parts_for := F_law_parts_for.binds (ps := ["many", "rows", "shared"]) fun _ _ _ _ _ _ us hl => match us, hl with | [_, _, _], _ => rfl
  have F_law_row_changed := fun_mk (st := d_law_row_changed) l_law_row_changed c_law_row_changed k_law_row_changed
  have m_law_row_changed := PySem.W.mg_of X G a_law_row_changed
  have b_law_row_changed := F_law_row_changed.binds (ps := ["source", "world", "at"]) fun _ _ _ _ _ _ us hl => match us, hl with | [_, _, _], _ => rfl
  have F_law_parts_changed := fun_mk (st := d_law_parts_changed) l_law_parts_changed c_law_parts_changed k_law_parts_changed
  have m_law_parts_changed := PySem.W.mg_of X G a_law_parts_changed
  have b_law_parts_changed := F_law_parts_changed.binds (ps := ["source", "world"]) fun _ _ _ _ _ _ us hl => match us, hl with | [_, _], _ => rfl
  have F_law_beds_exchanged := fun_mk (st := d_law_beds_exchanged) l_law_beds_exchanged c_law_beds_exchanged k_law_beds_exchanged
  have m_law_beds_exchanged := PySem.W.mg_of X G a_law_beds_exchanged
  have b_law_beds_exchanged := F_law_beds_exchanged.binds (ps := ["source", "world"]) fun _ _ _ _ _ _ us hl => match us, hl with | [_, _], _ => rfl
  have F_law_bed_more := fun_mk (st := d_law_bed_more) l_law_bed_more c_law_bed_more k_law_bed_more
  have m_law_bed_more := PySem.W.mg_of X G a_law_bed_more
  have b_law_bed_more := F_law_bed_more.binds (ps := ["source", "world"]) fun _ _ _ _ _ _ us hl => match us, hl with | [_, _], _ => rfl
  have F_law_changed := fun_mk (st := d_law_changed) l_law_changed c_law_changed k_law_changed
  have m_law_changed := PySem.W.mg_of X G a_law_changed
  have b_law_changed := F_law_changed.binds (ps := ["source", "world"]) fun _ _ _ _ _ _ us hl => match us, hl with | [_, _], _ => rfl
  have F_law_cut_at := fun_mk (st := d_law_cut_at) l_law_cut_at c_law_cut_at k_law_cut_at
  have m_law_cut_at := PySem.W.mg_of X G a_law_cut_at
  have b_law_cut_at := F_law_cut_at.binds (ps := ["world", "place"]) fun _ _ _ _ _ _ us hl => match us, hl with | [_, _], _ => rfl
  have F_law_put_beside := fun_mk (st := d_law_put_beside) l_law_put_beside c_law_put_beside k_law_put_beside
  have m_law_put_beside := PySem.W.mg_of X G a_law_put_beside
  have b_law_put_beside := F_law_put_beside.binds (ps := ["one", "other"]) fun _ _ _ _ _ _ us hl => match us, hl with | [_, _], _ => rfl
  have F_law_two_right := fun_mk (st := d_law_two_right) l_law_two_right c_law_two_right k_law_two_right
  have m_law_two_right := PySem.W.mg_of X G a_law_two_right
  have b_law_two_right := F_law_two_right.binds (ps := ["one", "other", "due"]) fun _ _ _ _ _ _ us hl => match us, hl with | [_, _, _], _ => rfl
  have F_law_world_right := fun_mk (st := d_law_world_right) l_law_world_right c_law_world_right k_law_world_right
  have m_law_world_right := PySem.W.mg_of X G a_law_world_right
  have b_law_world_right := F_law_world_right.binds (ps := ["source", "world", "other"]) fun _ _ _ _ _ _ us hl => match us, hl with | [_, _, _], _ => rfl
  have F_law := fun_mk (st := d_law) l_law c_law k_law
  have m_law := PySem.W.mg_of X G a_law
  refine ⟨PySem.W.fnOf "law" "law" (defArgs d_law) (defBody d_law) (defScope d_law) .none kV_law dc_law pm_law an_law cd_law ct_law, cc, Pt, cc2, Pt2, cc3, Pt3, tP, nP, PySem.W.codeHd_of_K X hC, tP2, nP2, PySem.W.codeHd_of_K X hC2, tP3, nP3, PySem.W.codeHd_of_K X hC3, fun s v => .of_eq rfl, fun base _ _ TB TB2 TB3 => ?_⟩
  have T : Txt K mg cShare cNoShare := ⟨⟨pgcShare, hdcShare, pocShare, sacShare⟩, ncShare_top, ncShare_bottom, mcShare, i_gcd, z_isinstance, z_int, z_bool, mcNoShare, xcNoShare, kcNoShare, bcNoShare, tcNoShare, exm_own bcNoShare icNoShare tcNoShare scNoShare⟩
  have Y : TxtW mg cShare := ⟨z_isinstance, z_tuple, z_list, z_len, z_all, z_any, z_sorted, z_enumerate, mcShare⟩
  have clW : L2.Cls K cWeb := ⟨pgcWeb, hdcWeb, pocWeb, sacWeb⟩
  have TW : CrsW K cWeb := ⟨clW, ncWeb_many, ncWeb_beds, ncWeb_parts⟩
  have IsSh := isShT T gccShare gs gt gmcShare
  have IsW : ∀ H p dx fs, H p = some (.ins cWeb dx fs) → TyX K H (.ref p) (.ref cWeb) := fun H p dx fs e => .base (.ins e clW gccWeb gs gt gmcWeb)
  have M : Mk K cShare f_Share_init := ⟨mkcShare, a_Share_init, i_Share_init, kccShare⟩
  have MW : Mk K cWeb f_Web_init := ⟨mkcWeb, a_Web_init, i_Web_init, kccWeb⟩
  have ne : cShare ≠ cWeb := fun z => by
    have j := jShare_Web
    rw [← z, mecShare] at j
    cases j
  have TI : TxtI K cShare := ⟨gccShare, gs, gt, gmcShare, mecShare, mcShare_tuple, mcShare_int, mcShare_NoneType⟩
  have G_is_whole := ok_whole (P := P) (w := w) (mg := mg) (base := base) F_is_whole T
  have GI := ok_init (P := P) (w := w) (mg := mg) (base := base) F_Share_init T G_is_whole m_is_whole k_is_whole b_is_whole
  have G_is_between := ok_betweenI (P := P) (w := w) (mg := mg) (base := base) F_is_between ⟨G_is_whole, m_is_whole, k_is_whole, b_is_whole⟩
  have G_less := ok_lessQ (P := P) (w := w) (mg := mg) (base := base) F_less T
  have G_is_a_bed := ok_bedG (P := P) (w := w) (mg := mg) (base := base) F_is_a_bed T Y IsSh mecShare ⟨G_is_between, m_is_between, k_is_between, b_is_between⟩ ⟨G_less, m_less, k_less, b_less⟩
  have G_are_beds := ok_bedsG (P := P) (w := w) (mg := mg) (base := base) F_are_beds Y g_MOST_BEDS g_MOST_BEDS_OF_A_PLACE ⟨G_is_a_bed, m_is_a_bed, k_is_a_bed, b_is_a_bed⟩
  have G_are_parts_of_one := ok_part1 (P := P) (w := w) (mg := mg) (base := base) F_are_parts_of_one Y g_MOST_OF_A_PART ⟨G_is_between, m_is_between, k_is_between, b_is_between⟩
  have G_are_parts := ok_partsG (P := P) (w := w) (mg := mg) (base := base) F_are_parts Y ⟨G_are_parts_of_one, m_are_parts_of_one, k_are_parts_of_one, b_are_parts_of_one⟩
  have GWf := ok_winitF (P := P) (w := w) (mg := mg) (base := base) F_Web_init TW ne Y g_MOST_PLACES ⟨G_is_between, m_is_between, k_is_between, b_is_between⟩ ⟨G_are_beds, m_are_beds, k_are_beds, b_are_beds⟩ ⟨G_are_parts, m_are_parts, k_are_parts, b_are_parts⟩
  have GWi := ok_winit (P := P) (w := w) (mg := mg) (base := base) F_Web_init TW ne Y g_MOST_PLACES ⟨G_is_between, m_is_between, k_is_between, b_is_between⟩ ⟨G_are_beds, m_are_beds, k_are_beds, b_are_beds⟩ ⟨G_are_parts, m_are_parts, k_are_parts, b_are_parts⟩
  have GSe := ok_eq (P := P) (w := w) (mg := mg) (base := base) F_Share_eq T TI
  have B : TxtB mg := ⟨z_int, z_len, z_abs⟩
  have G_law_cell_at := ok_cell (P := P) (w := w) (mg := mg) (base := base) F_law_cell_at B
  have G_law_mixed := ok_mixed (P := P) (w := w) (mg := mg) (base := base) F_law_mixed 
  have G_law_source := ok_source (P := P) (w := w) (mg := mg) (base := base) F_law_source B ⟨G_law_cell_at, m_law_cell_at, k_law_cell_at, b_law_cell_at⟩ ⟨G_law_mixed, m_law_mixed, k_law_mixed, b_law_mixed⟩
  have G_law_next := ok_next (P := P) (w := w) (mg := mg) (base := base) F_law_next ⟨G_law_mixed, m_law_mixed, k_law_mixed, b_law_mixed⟩
  have G_law_pick := ok_pick (P := P) (w := w) (mg := mg) (base := base) F_law_pick B ⟨G_law_next, m_law_next, k_law_next, b_law_next⟩
  have G_law_lowered := ok_lowQ (P := P) (w := w) (mg := mg) (base := base) F_law_lowered B
  have G_law_sum := ok_lsum (K := K) (P := P) (w := w) (mg := mg) (base := base) F_law_sum ⟨G_law_lowered, m_law_lowered, k_law_lowered, b_law_lowered⟩
  have G_law_mark := ok_mark (P := P) (w := w) (mg := mg) (base := base) F_law_mark ⟨G_law_next, m_law_next, k_law_next, b_law_next⟩ ⟨G_law_lowered, m_law_lowered, k_law_lowered, b_law_lowered⟩
  have G_law_beds_of := ok_bedsOf (P := P) (w := w) (mg := mg) (base := base) F_law_beds_of B z_range z_min ⟨G_law_next, m_law_next, k_law_next, b_law_next⟩ ⟨G_law_mark, m_law_mark, k_law_mark, b_law_mark⟩ ⟨G_law_sum, m_law_sum, k_law_sum, b_law_sum⟩
  have G_law_world := ok_world (P := P) (w := w) (mg := mg) (base := base) F_law_world Y z_range z_sum ⟨G_law_next, m_law_next, k_law_next, b_law_next⟩ ⟨G_law_beds_of, m_law_beds_of, k_law_beds_of, b_law_beds_of⟩
  have GWe := ok_webeqB (P := P) (w := w) (mg := mg) (base := base) F_Web_eq TW Y mcWeb IsW mecWeb GSe a_Share_eq i_Share_eq b_Share_eq
  have G_cut := ok_cutF (P := P) (w := w) (mg := mg) (base := base) F_cut TW mcWeb ⟨G_is_between, m_is_between, k_is_between, b_is_between⟩ MW GWf b_Web_init
  have G_are_pipes := ok_arePipes0 (P := P) (w := w) (mg := mg) (base := base) F_are_pipes Y z_set m_is_pipe k_is_pipe b_is_pipe
  have G_joined := ok_join0 (T := tabs3 Pt Pt2 Pt3) (P := P) (w := w) (mg := mg) (base := base) l_joined c_joined TW T Y mcWeb g_MOST_PLACES g_MOST_BEDS TB (by simp [tabs3]) (fun p hp e => by
    unfold tabs3 at hp
    simp only [List.mem_cons, List.not_mem_nil, or_false] at hp
    rcases hp with rfl | rfl | rfl
    · exact rfl
    · exact absurd e (nePt.symm)
    · exact absurd e (nePt13.symm)) ⟨G_are_pipes, m_are_pipes, k_are_pipes, b_are_pipes⟩ M GI b_Share_init2 rd_Share_init2 MW GWf b_Web_init
  have G_law_made := ok_made04 (P := P) (w := w) (mg := mg) (base := base) F_law_made T Y mcWeb ⟨G_law_next, m_law_next, k_law_next, b_law_next⟩ M GI b_Share_init3 MW GWi b_Web_init
  have G_law_parts_for := ok_partsFor (P := P) (w := w) (mg := mg) (base := base) F_law_parts_for Y z_range
  have G_law_row_changed := ok_rowChanged (T := tabs3 Pt Pt2 Pt3) (P := P) (w := w) (mg := mg) (base := base) l_law_row_changed c_law_row_changed Y z_max TB2 (by simp [tabs3]) (fun p hp e => by
    unfold tabs3 at hp
    simp only [List.mem_cons, List.not_mem_nil, or_false] at hp
    rcases hp with rfl | rfl | rfl
    · exact absurd e (nePt)
    · exact rfl
    · exact absurd e (nePt23.symm)) ⟨G_law_next, m_law_next, k_law_next, b_law_next⟩ ⟨G_law_sum, m_law_sum, k_law_sum, b_law_sum⟩ ⟨G_law_parts_for, m_law_parts_for, k_law_parts_for, b_law_parts_for⟩
  have G_law_parts_changed := ok_parts04 (P := P) (w := w) (mg := mg) (base := base) F_law_parts_changed Y z_range z_sum ⟨G_law_next, m_law_next, k_law_next, b_law_next⟩ ⟨G_law_pick, m_law_pick, k_law_pick, b_law_pick⟩
  have G_law_beds_exchanged := ok_beds04 (P := P) (w := w) (mg := mg) (base := base) F_law_beds_exchanged Y z_range ⟨G_law_pick, m_law_pick, k_law_pick, b_law_pick⟩
  have G_law_bed_more := ok_more04 (T := tabs3 Pt Pt2 Pt3) (P := P) (w := w) (mg := mg) (base := base) l_law_bed_more c_law_bed_more Y z_range TB3 (by simp [tabs3]) (fun p hp e => by
    unfold tabs3 at hp
    simp only [List.mem_cons, List.not_mem_nil, or_false] at hp
    rcases hp with rfl | rfl | rfl
    · exact absurd e (nePt13)
    · exact absurd e (nePt23)
    · exact rfl) ⟨G_law_next, m_law_next, k_law_next, b_law_next⟩ ⟨G_law_pick, m_law_pick, k_law_pick, b_law_pick⟩ ⟨G_law_parts_for, m_law_parts_for, k_law_parts_for, b_law_parts_for⟩
  have G_law_changed := ok_change04 (P := P) (w := w) (mg := mg) (base := base) F_law_changed Y ⟨G_law_next, m_law_next, k_law_next, b_law_next⟩ ⟨G_law_parts_changed, m_law_parts_changed, k_law_parts_changed, b_law_parts_changed⟩ ⟨G_law_beds_exchanged, m_law_beds_exchanged, k_law_beds_exchanged, b_law_beds_exchanged⟩ ⟨G_law_bed_more, m_law_bed_more, k_law_bed_more, b_law_bed_more⟩ ⟨G_law_row_changed, m_law_row_changed, k_law_row_changed, b_law_row_changed⟩
  have G_law_cut_at := ok_cutAt (P := P) (w := w) (mg := mg) (base := base) F_law_cut_at 
  have G_law_put_beside := ok_beside (P := P) (w := w) (mg := mg) (base := base) F_law_put_beside 
  have G_law_two_right := ok_two04 (P := P) (w := w) (mg := mg) (base := base) F_law_two_right GWe b_Web_eq a_Web_eq i_Web_eq ecWeb ocWeb
  have G_law_world_right := ok_worldRight (P := P) (w := w) (mg := mg) (base := base) F_law_world_right Y ⟨G_law_made, m_law_made, k_law_made, b_law_made⟩ ⟨G_law_two_right, m_law_two_right, k_law_two_right, b_law_two_right⟩ ⟨G_law_next, m_law_next, k_law_next, b_law_next⟩ ⟨G_cut, m_cut, k_cut, b_cut⟩ ⟨G_law_cut_at, m_law_cut_at, k_law_cut_at, b_law_cut_at⟩ ⟨G_law_put_beside, m_law_put_beside, k_law_put_beside, b_law_put_beside⟩ G_joined m_joined k_joined kb_joined
  exact ok_law F_law Y z_range z_min z_max ⟨G_law_source, m_law_source, k_law_source, b_law_source⟩ ⟨G_law_world, m_law_world, k_law_world, b_law_world⟩ ⟨G_law_next, m_law_next, k_law_next, b_law_next⟩ ⟨G_law_changed, m_law_changed, k_law_changed, b_law_changed⟩ ⟨G_law_world_right, m_law_world_right, k_law_world_right, b_law_world_right⟩
theorem walk {l : PySem.W.OpenLaw} {q : Program} {loose : List Str} {XP : (Str → Option Value) → Heap → Prop} {YP : World → Heap → Prop} {d : DefRec} {K : Params → PySem.W.Frag} (hn : l.most = some 63) (hdf : d.params.defaults = [])
    (hY : ∀ (w : World) (h : Heap), YP w h → (K w.params).In h)
    (F : ∀ (w : World) (mg : Str → Option Value) (fa : Addr) (h : Heap), YP w h → (K w.params).In h → h.Ns mainGlobals mg → mg d.name = some (.ref fa) →
      ∃ (fd : FuncData) (cc Pt cc2 Pt2 cc3 Pt3 : Addr), h.get? Pt = some { cls := .none, data := .fields #[] } ∧ (K w.params).lookup Pt = none ∧ PySem.W.CodeHd h cc Pt ∧ h.get? Pt2 = some { cls := .none, data := .fields #[] } ∧ (K w.params).lookup Pt2 = none ∧ PySem.W.CodeHd h cc2 Pt2 ∧ h.get? Pt3 = some { cls := .none, data := .fields #[] } ∧ (K w.params).lookup Pt3 = none ∧ PySem.W.CodeHd h cc3 Pt3 ∧ (∀ (s : Shared) (v : Value), BindsTo s fd ⟨[v], []⟩ [("script", v)]) ∧ ∀ base : Heap, (K w.params).In base → base.Ns mainGlobals mg → TabB base mg cc Pt → TabB base mg cc2 Pt2 → TabB base mg cc3 Pt3 → FnOk l.prog w (K w.params) mg base CX0 9 fa fd ["script"] (spLaw (K w.params) Pt Pt2 Pt3)) :
    PySem.W.WalkO q loose XP YP l.row.toRowW d [] (fun f vs => PySem.call f vs) := by
  refine walk_ofTs (n := 63) (k := 9) (x := "script") (CX := fun _ => CX0) hn (by decide) hdf ⟨rfl, by decide, by decide⟩ hY (fun w mg fa h Y KX G hm => ?_) (fun _ _ _ _ _ z => z)
  obtain ⟨fd, cc, Pt, cc2, Pt2, cc3, Pt3, t1, t2, t3, u1, u2, u3, v1, v2, v3, hb, hF⟩ := F w mg fa h Y KX G hm
  have all : ∀ {Pr : Addr × Addr → Prop}, Pr (cc, Pt) → Pr (cc2, Pt2) → Pr (cc3, Pt3) → ∀ p ∈ [(cc, Pt), (cc2, Pt2), (cc3, Pt3)], Pr p := fun a b c p hp => by
    simp only [List.mem_cons, List.not_mem_nil, or_false] at hp
    rcases hp with rfl | rfl | rfl
    · exact a
    · exact b
    · exact c
  have m1 : (cc, Pt) ∈ [(cc, Pt), (cc2, Pt2), (cc3, Pt3)] := by simp
  have m2 : (cc2, Pt2) ∈ [(cc, Pt), (cc2, Pt2), (cc3, Pt3)] := by simp
  have m3 : (cc3, Pt3) ∈ [(cc, Pt), (cc2, Pt2), (cc3, Pt3)] := by simp
  refine ⟨fd, [(cc, Pt), (cc2, Pt2), (cc3, Pt3)], spLaw (K w.params) Pt Pt2 Pt3, all t1 u1 v1, all t2 u2 v2, all t3 u3 v3, hb, fun H a ns hl _ hT hS => ?_, fun base KB GB TB => hF base KB GB (TB _ m1) (TB _ m2) (TB _ m3)⟩
  exact law_told hl (hT _ m1) (hT _ m2) (hT _ m3) hS
end K04

open PySem PySem.W PyProof.Rows in
set_option maxRecDepth 100000 in
set_option maxHeartbeats 0 in
theorem PySem.Challenge.cw_rillweb_k04_webs_with_one_change_holds : PySem.Challenge.rw_rillweb_k04_webs_with_one_change.Holds := by
  w_on; o_law; k_head; (case hw => w_witness2)
  k_fill
  refine K04.walk (l := PySem.Challenge.rw_rillweb_k04_webs_with_one_change) rfl rfl (fun w h Y => PySem.W.km_in_of Y) ?F
  case F =>
    intro w mg fa h Y KX G hmg
    refine' K04.all_mk KX G hmg ?z_ValueError ?z_abs ?z_all ?z_any ?z_bool ?z_enumerate ?z_int ?z_isinstance ?z_len ?z_list ?z_max ?z_min ?z_range ?z_set ?z_sorted ?z_sum ?z_super ?z_tuple ?i_gcd ?g_MOST_PLACES ?g_MOST_BEDS ?g_MOST_BEDS_OF_A_PLACE ?g_MOST_OF_A_PART ?acRillError ?xcRillError ?kcRillError ?bcRillError ?tcRillError ?icRillError ?scRillError ?acNoShare ?xcNoShare ?kcNoShare ?bcNoShare ?tcNoShare ?icNoShare ?scNoShare ?acShare ?pgcShare ?hdcShare ?pocShare ?sacShare ?mkcShare ?kccShare ?ncShare_bottom ?ncShare_top ?gccShare ?gmcShare ?mecShare ?mcShare_tuple ?ucShare_tuple ?mcShare_int ?ucShare_int ?mcShare_NoneType ?mcShare_list ?ucShare_list ?mcShare_str ?mcShare_bool ?ucShare_bool ?mcShare_dict ?ecShare ?ocShare ?wcShare_tuple ?ycShare_tuple ?wcShare_int ?ycShare_int ?wcShare_NoneType ?ycShare_NoneType ?wcShare_list ?ycShare_list ?wcShare_str ?ycShare_str ?wcShare_bool ?ycShare_bool ?wcShare_dict ?ycShare_dict ?a_Share_init ?i_Share_init ?l_Share_init ?c_Share_init ?k_Share_init ?lTD_Share_init ?a_Share_eq ?i_Share_eq ?l_Share_eq ?c_Share_eq ?k_Share_eq ?acWeb ?pgcWeb ?hdcWeb ?pocWeb ?sacWeb ?mkcWeb ?kccWeb ?ncWeb_beds ?ncWeb_many ?ncWeb_parts ?gccWeb ?gmcWeb ?mecWeb ?mcWeb_tuple ?ucWeb_tuple ?mcWeb_int ?ucWeb_int ?mcWeb_NoneType ?mcWeb_list ?ucWeb_list ?mcWeb_str ?mcWeb_bool ?ucWeb_bool ?mcWeb_dict ?ecWeb ?ocWeb ?wcWeb_tuple ?ycWeb_tuple ?wcWeb_int ?ycWeb_int ?wcWeb_NoneType ?ycWeb_NoneType ?wcWeb_list ?ycWeb_list ?wcWeb_str ?ycWeb_str ?wcWeb_bool ?ycWeb_bool ?wcWeb_dict ?ycWeb_dict ?a_Web_init ?i_Web_init ?l_Web_init ?c_Web_init ?k_Web_init ?a_Web_eq ?i_Web_eq ?l_Web_eq ?c_Web_eq ?k_Web_eq ?jShare_Web ?vShare_Web ?jWeb_Share ?vWeb_Share ?a_is_whole ?l_is_whole ?c_is_whole ?k_is_whole ?a_is_between ?l_is_between ?c_is_between ?k_is_between ?a_less ?l_less ?c_less ?k_less ?a_are_beds ?l_are_beds ?c_are_beds ?k_are_beds ?a_is_a_bed ?l_is_a_bed ?c_is_a_bed ?k_is_a_bed ?a_are_parts ?l_are_parts ?c_are_parts ?k_are_parts ?a_are_parts_of_one ?l_are_parts_of_one ?c_are_parts_of_one ?k_are_parts_of_one ?a_is_place ?l_is_place ?c_is_place ?k_is_place ?a_beds_from ?l_beds_from ?c_beds_from ?k_beds_from ?a_cut ?l_cut ?c_cut ?k_cut ?a_joined ?l_joined ?c_joined ?k_joined ?lC ?vC ?hC ?nP ?tP ?a_are_pipes ?l_are_pipes ?c_are_pipes ?k_are_pipes ?a_is_pipe ?l_is_pipe ?c_is_pipe ?k_is_pipe ?a_law_cell_at ?l_law_cell_at ?c_law_cell_at ?k_law_cell_at ?a_law_mixed ?l_law_mixed ?c_law_mixed ?k_law_mixed ?a_law_source ?l_law_source ?c_law_source ?k_law_source ?a_law_next ?l_law_next ?c_law_next ?k_law_next ?a_law_pick ?l_law_pick ?c_law_pick ?k_law_pick ?a_law_lowered ?l_law_lowered ?c_law_lowered ?k_law_lowered ?a_law_sum ?l_law_sum ?c_law_sum ?k_law_sum ?a_law_mark ?l_law_mark ?c_law_mark ?k_law_mark ?a_law_beds_of ?l_law_beds_of ?c_law_beds_of ?k_law_beds_of ?a_law_world ?l_law_world ?c_law_world ?k_law_world ?a_law_made ?l_law_made ?c_law_made ?k_law_made ?a_law_parts_for ?l_law_parts_for ?c_law_parts_for ?k_law_parts_for ?a_law_row_changed ?l_law_row_changed ?c_law_row_changed ?k_law_row_changed ?lC2 ?vC2 ?hC2 ?nP2 ?tP2 ?nePt ?a_law_parts_changed ?l_law_parts_changed ?c_law_parts_changed ?k_law_parts_changed ?a_law_beds_exchanged ?l_law_beds_exchanged ?c_law_beds_exchanged ?k_law_beds_exchanged ?a_law_bed_more ?l_law_bed_more ?c_law_bed_more ?k_law_bed_more ?lC3 ?vC3 ?hC3 ?nP3 ?tP3 ?nePt13 ?nePt23 ?a_law_changed ?l_law_changed ?c_law_changed ?k_law_changed ?a_law_cut_at ?l_law_cut_at ?c_law_cut_at ?k_law_cut_at ?a_law_put_beside ?l_law_put_beside ?c_law_put_beside ?k_law_put_beside ?a_law_two_right ?l_law_two_right ?c_law_two_right ?k_law_two_right ?a_law_world_right ?l_law_world_right ?c_law_world_right ?k_law_world_right ?a_law ?l_law ?c_law ?k_law ?gs ?gt
    (case z_ValueError => k_is)
    (case z_abs => k_is)
    (case z_all => k_is)
    (case z_any => k_is)
    (case z_bool => k_is)
    (case z_enumerate => k_is)
    (case z_int => k_is)
    (case z_isinstance => k_is)
    (case z_len => k_is)
    (case z_list => k_is)
    (case z_max => k_is)
    (case z_min => k_is)
    (case z_range => k_is)
    (case z_set => k_is)
    (case z_sorted => k_is)
    (case z_sum => k_is)
    (case z_super => k_is)
    (case z_tuple => k_is)
    (case i_gcd => k_is)
    (case g_MOST_PLACES => k_is)
    (case g_MOST_BEDS => k_is)
    (case g_MOST_BEDS_OF_A_PLACE => k_is)
    (case g_MOST_OF_A_PART => k_is)
    (case acRillError => k_is)
    (case xcRillError => k_exc)
    (case kcRillError => k_is)
    (case bcRillError => k_is)
    (case tcRillError => k_is)
    (case icRillError => k_is)
    (case scRillError => first | rfl | k_is)
    (case acNoShare => k_is)
    (case xcNoShare => k_exc)
    (case kcNoShare => k_is)
    (case bcNoShare => k_is)
    (case tcNoShare => k_is)
    (case icNoShare => k_is)
    (case scNoShare => first | rfl | k_is)
    (case acShare => k_is)
    (case pgcShare => k_is)
    (case hdcShare => k_is)
    (case pocShare => k_is)
    (case sacShare => k_is)
    (case mkcShare => k_is)
    (case kccShare => k_is)
    (case ncShare_bottom => k_is)
    (case ncShare_top => k_is)
    (case gccShare => k_is)
    (case gmcShare => k_is)
    (case mecShare => first | rfl | k_is)
    (case mcShare_tuple => first | rfl | k_is)
    (case ucShare_tuple => first | rfl | k_is)
    (case mcShare_int => first | rfl | k_is)
    (case ucShare_int => first | rfl | k_is)
    (case mcShare_NoneType => first | rfl | k_is)
    (case mcShare_list => first | rfl | k_is)
    (case ucShare_list => first | rfl | k_is)
    (case mcShare_str => first | rfl | k_is)
    (case mcShare_bool => first | rfl | k_is)
    (case ucShare_bool => first | rfl | k_is)
    (case mcShare_dict => first | rfl | k_is)
    (case ecShare => k_is)
    (case ocShare => first | rfl | k_is)
    (case wcShare_tuple => first | rfl | k_is)
    (case ycShare_tuple => first | rfl | k_is)
    (case wcShare_int => first | rfl | k_is)
    (case ycShare_int => first | rfl | k_is)
    (case wcShare_NoneType => first | rfl | k_is)
    (case ycShare_NoneType => first | rfl | k_is)
    (case wcShare_list => first | rfl | k_is)
    (case ycShare_list => first | rfl | k_is)
    (case wcShare_str => first | rfl | k_is)
    (case ycShare_str => first | rfl | k_is)
    (case wcShare_bool => first | rfl | k_is)
    (case ycShare_bool => first | rfl | k_is)
    (case wcShare_dict => first | rfl | k_is)
    (case ycShare_dict => first | rfl | k_is)
    (case a_Share_init => k_is)
    (case i_Share_init => k_is)
    (case l_Share_init => k_is)
    (case c_Share_init => k_is)
    (case k_Share_init => k_is)
    (case lTD_Share_init => k_is)
    (case a_Share_eq => k_is)
    (case i_Share_eq => k_is)
    (case l_Share_eq => k_is)
    (case c_Share_eq => k_is)
    (case k_Share_eq => k_is)
    (case acWeb => k_is)
    (case pgcWeb => k_is)
    (case hdcWeb => k_is)
    (case pocWeb => k_is)
    (case sacWeb => k_is)
    (case mkcWeb => k_is)
    (case kccWeb => k_is)
    (case ncWeb_beds => k_is)
    (case ncWeb_many => k_is)
    (case ncWeb_parts => k_is)
    (case gccWeb => k_is)
    (case gmcWeb => k_is)
    (case mecWeb => first | rfl | k_is)
    (case mcWeb_tuple => first | rfl | k_is)
    (case ucWeb_tuple => first | rfl | k_is)
    (case mcWeb_int => first | rfl | k_is)
    (case ucWeb_int => first | rfl | k_is)
    (case mcWeb_NoneType => first | rfl | k_is)
    (case mcWeb_list => first | rfl | k_is)
    (case ucWeb_list => first | rfl | k_is)
    (case mcWeb_str => first | rfl | k_is)
    (case mcWeb_bool => first | rfl | k_is)
    (case ucWeb_bool => first | rfl | k_is)
    (case mcWeb_dict => first | rfl | k_is)
    (case ecWeb => k_is)
    (case ocWeb => first | rfl | k_is)
    (case wcWeb_tuple => first | rfl | k_is)
    (case ycWeb_tuple => first | rfl | k_is)
    (case wcWeb_int => first | rfl | k_is)
    (case ycWeb_int => first | rfl | k_is)
    (case wcWeb_NoneType => first | rfl | k_is)
    (case ycWeb_NoneType => first | rfl | k_is)
    (case wcWeb_list => first | rfl | k_is)
    (case ycWeb_list => first | rfl | k_is)
    (case wcWeb_str => first | rfl | k_is)
    (case ycWeb_str => first | rfl | k_is)
    (case wcWeb_bool => first | rfl | k_is)
    (case ycWeb_bool => first | rfl | k_is)
    (case wcWeb_dict => first | rfl | k_is)
    (case ycWeb_dict => first | rfl | k_is)
    (case a_Web_init => k_is)
    (case i_Web_init => k_is)
    (case l_Web_init => k_is)
    (case c_Web_init => k_is)
    (case k_Web_init => k_is)
    (case a_Web_eq => k_is)
    (case i_Web_eq => k_is)
    (case l_Web_eq => k_is)
    (case c_Web_eq => k_is)
    (case k_Web_eq => k_is)
    (case jShare_Web => first | rfl | k_is)
    (case vShare_Web => first | rfl | k_is)
    (case jWeb_Share => first | rfl | k_is)
    (case vWeb_Share => first | rfl | k_is)
    (case a_is_whole => k_is)
    (case l_is_whole => k_is)
    (case c_is_whole => k_is)
    (case k_is_whole => k_is)
    (case a_is_between => k_is)
    (case l_is_between => k_is)
    (case c_is_between => k_is)
    (case k_is_between => k_is)
    (case a_less => k_is)
    (case l_less => k_is)
    (case c_less => k_is)
    (case k_less => k_is)
    (case a_are_beds => k_is)
    (case l_are_beds => k_is)
    (case c_are_beds => k_is)
    (case k_are_beds => k_is)
    (case a_is_a_bed => k_is)
    (case l_is_a_bed => k_is)
    (case c_is_a_bed => k_is)
    (case k_is_a_bed => k_is)
    (case a_are_parts => k_is)
    (case l_are_parts => k_is)
    (case c_are_parts => k_is)
    (case k_are_parts => k_is)
    (case a_are_parts_of_one => k_is)
    (case l_are_parts_of_one => k_is)
    (case c_are_parts_of_one => k_is)
    (case k_are_parts_of_one => k_is)
    (case a_is_place => k_is)
    (case l_is_place => k_is)
    (case c_is_place => k_is)
    (case k_is_place => k_is)
    (case a_beds_from => k_is)
    (case l_beds_from => k_is)
    (case c_beds_from => k_is)
    (case k_beds_from => k_is)
    (case a_cut => k_is)
    (case l_cut => k_is)
    (case c_cut => k_is)
    (case k_cut => k_is)
    (case a_joined => k_is)
    (case l_joined => k_is)
    (case c_joined => k_is)
    (case k_joined => k_is)
    (case lC => k_is)
    (case vC => rfl)
    (case hC => kernel_rfl)
    (case nP => first | rfl | decide +kernel | kernel_rfl)
    (case tP => exact PySem.W.km_tabs_of Y _ (by first | decide | k_mem | simp))
    (case a_are_pipes => k_is)
    (case l_are_pipes => k_is)
    (case c_are_pipes => k_is)
    (case k_are_pipes => k_is)
    (case a_is_pipe => k_is)
    (case l_is_pipe => k_is)
    (case c_is_pipe => k_is)
    (case k_is_pipe => k_is)
    (case a_law_cell_at => k_is)
    (case l_law_cell_at => k_is)
    (case c_law_cell_at => k_is)
    (case k_law_cell_at => k_is)
    (case a_law_mixed => k_is)
    (case l_law_mixed => k_is)
    (case c_law_mixed => k_is)
    (case k_law_mixed => k_is)
    (case a_law_source => k_is)
    (case l_law_source => k_is)
    (case c_law_source => k_is)
    (case k_law_source => k_is)
    (case a_law_next => k_is)
    (case l_law_next => k_is)
    (case c_law_next => k_is)
    (case k_law_next => k_is)
    (case a_law_pick => k_is)
    (case l_law_pick => k_is)
    (case c_law_pick => k_is)
    (case k_law_pick => k_is)
    (case a_law_lowered => k_is)
    (case l_law_lowered => k_is)
    (case c_law_lowered => k_is)
    (case k_law_lowered => k_is)
    (case a_law_sum => k_is)
    (case l_law_sum => k_is)
    (case c_law_sum => k_is)
    (case k_law_sum => k_is)
    (case a_law_mark => k_is)
    (case l_law_mark => k_is)
    (case c_law_mark => k_is)
    (case k_law_mark => k_is)
    (case a_law_beds_of => k_is)
    (case l_law_beds_of => k_is)
    (case c_law_beds_of => k_is)
    (case k_law_beds_of => k_is)
    (case a_law_world => k_is)
    (case l_law_world => k_is)
    (case c_law_world => k_is)
    (case k_law_world => k_is)
    (case a_law_made => k_is)
    (case l_law_made => k_is)
    (case c_law_made => k_is)
    (case k_law_made => k_is)
    (case a_law_parts_for => k_is)
    (case l_law_parts_for => k_is)
    (case c_law_parts_for => k_is)
    (case k_law_parts_for => k_is)
    (case a_law_row_changed => k_is)
    (case l_law_row_changed => k_is)
    (case c_law_row_changed => k_is)
    (case k_law_row_changed => k_is)
    (case lC2 => k_is)
    (case vC2 => rfl)
    (case hC2 => kernel_rfl)
    (case nP2 => first | rfl | decide +kernel | kernel_rfl)
    (case tP2 => exact PySem.W.km_tabs_of Y _ (by first | decide | k_mem | simp))
    (case nePt => decide)
    (case a_law_parts_changed => k_is)
    (case l_law_parts_changed => k_is)
    (case c_law_parts_changed => k_is)
    (case k_law_parts_changed => k_is)
    (case a_law_beds_exchanged => k_is)
    (case l_law_beds_exchanged => k_is)
    (case c_law_beds_exchanged => k_is)
    (case k_law_beds_exchanged => k_is)
    (case a_law_bed_more => k_is)
    (case l_law_bed_more => k_is)
    (case c_law_bed_more => k_is)
    (case k_law_bed_more => k_is)
    (case lC3 => k_is)
    (case vC3 => rfl)
    (case hC3 => kernel_rfl)
    (case nP3 => first | rfl | decide +kernel | kernel_rfl)
    (case tP3 => exact PySem.W.km_tabs_of Y _ (by first | decide | k_mem | simp))
    (case nePt13 => decide)
    (case nePt23 => decide)
    (case a_law_changed => k_is)
    (case l_law_changed => k_is)
    (case c_law_changed => k_is)
    (case k_law_changed => k_is)
    (case a_law_cut_at => k_is)
    (case l_law_cut_at => k_is)
    (case c_law_cut_at => k_is)
    (case k_law_cut_at => k_is)
    (case a_law_put_beside => k_is)
    (case l_law_put_beside => k_is)
    (case c_law_put_beside => k_is)
    (case k_law_put_beside => k_is)
    (case a_law_two_right => k_is)
    (case l_law_two_right => k_is)
    (case c_law_two_right => k_is)
    (case k_law_two_right => k_is)
    (case a_law_world_right => k_is)
    (case l_law_world_right => k_is)
    (case c_law_world_right => k_is)
    (case k_law_world_right => k_is)
    (case a_law => k_is)
    (case l_law => k_is)
    (case c_law => k_is)
    (case k_law => k_is)
    (case gs => first | rfl | k_is)
    (case gt => first | rfl | k_is)
