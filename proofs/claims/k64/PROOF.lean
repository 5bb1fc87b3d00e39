import PyProof.Rows.All
import Wide.All
import OpenK.AllK
import Wide.FinOn
import HandS.ForMost
import HandS.Walk
import HandS.ForExc
import HandS.ExcInit
import HandS.ExcIs
import HandS.ExcValue
import HandS.Wide
import HandS.Gcd
import HandS.IsInst
import HandS.Defaults
import HandS.Codes
import HandS.OwnEq
import HandS.Lambda
import KE.KExcIs
import KE.GoesMore
import HandS.Style
import HandS.TryMany
import HandS.EndTab
import HandS.SetFor
import HandS.SortInts
import KE.KSortedM
import HandS.SetFor
import HandS.SortInts
import KE.KSortedM
import HandS.Strs
import HandS.Flow
import HandS.Zip
import KE.GoesZip
import KE.GoesEnum
import KE.KTupSum
import HandS.Defaults
import HandS.TupAny
import HandS.OwnEq
import HandS.Deep
import KE.SortKeyHeap
import HandS.Nested
import KE.SortData
import HandS.Sort
import KE.KSortKey
import HandS.TupSets
import HandS.Conv
import PySem.Challenge.RW_rillweb_k64_whole_mornings_by_any_amount
set_option Elab.async false
set_option linter.all false
set_option maxRecDepth 100000
set_option maxHeartbeats 2000000
set_option exponentiation.threshold 20000
namespace K64
open PySem PySem.Spec PyProof.Rows L2
def top (i : Nat) : Stmt := PySem.Challenge.pw_rillweb_k64_whole_mornings_by_any_amount.main.body.getD i (.Pass ⟨0, 0, 0, 0⟩)
abbrev d_NoWeb_init : Stmt := inClass (top 4) 0
abbrev d_NoPlace_init : Stmt := inClass (top 7) 0
abbrev d_is_whole : Stmt := top 9
abbrev d_is_between : Stmt := top 10
abbrev d_Share_init : Stmt := inClass (top 12) 0
abbrev d_Share_eq : Stmt := inClass (top 12) 1
abbrev d_times : Stmt := top 13
abbrev d_over : Stmt := top 14
abbrev d_less : Stmt := top 15
abbrev d_total : Stmt := top 16
abbrev d_Web_init : Stmt := inClass (top 22) 0
abbrev d_Web_eq : Stmt := inClass (top 22) 1
abbrev d_are_beds : Stmt := top 23
abbrev d_is_a_bed : Stmt := top 24
abbrev d_are_parts : Stmt := top 25
abbrev d_are_parts_of_one : Stmt := top 26
abbrev d_is_place : Stmt := top 27
abbrev d_beds_from : Stmt := top 28
abbrev d_are_depths : Stmt := top 29
abbrev d_is_rain : Stmt := top 30
abbrev d_parts_borne : Stmt := top 31
abbrev d_move_of : Stmt := top 32
abbrev d_check_depths : Stmt := top 33
abbrev d_check_rain : Stmt := top 34
abbrev d_check_place : Stmt := top 35
abbrev d_gaps_of : Stmt := top 36
abbrev d_leads_of : Stmt := top 37
abbrev d_flow_of : Stmt := top 38
abbrev d_moves_of : Stmt := top 39
abbrev d_all_amounts : Stmt := top 41
abbrev d_stretch_or_none : Stmt := top 42
abbrev d_part_above : Stmt := top 43
abbrev d_part_below : Stmt := top 44
abbrev d_part_moving : Stmt := top 45
abbrev d_parts_by_moves : Stmt := top 46
abbrev d_flow_from : Stmt := top 47
abbrev d_all_leads : Stmt := top 49
abbrev d_led_back : Stmt := top 50
abbrev d_before : Stmt := top 51
abbrev d_rains_between : Stmt := top 52
abbrev d_before_any : Stmt := top 53
abbrev d_law_cell_at : Stmt := top 55
abbrev d_law_well : Stmt := top 56
abbrev d_law_draw : Stmt := top 57
abbrev d_law_one : Stmt := top 58
abbrev d_law_low : Stmt := top 59
abbrev d_law_plus : Stmt := top 60
abbrev d_law_by : Stmt := top 61
abbrev d_law_under : Stmt := top 62
abbrev d_law_share : Stmt := top 63
abbrev d_law_unit : Stmt := top 64
abbrev d_law_bed : Stmt := top 65
abbrev d_law_spec : Stmt := top 66
abbrev d_law_web : Stmt := top 67
abbrev d_law_depths : Stmt := top 68
abbrev d_law_fallen : Stmt := top 69
abbrev d_law_ranked : Stmt := top 70
abbrev d_law_move : Stmt := top 71
abbrev d_law_day : Stmt := top 72
abbrev d_law_at : Stmt := top 73
abbrev d_law_marked : Stmt := top 74
abbrev d_law_points : Stmt := top 75
abbrev d_law_samples : Stmt := top 76
abbrev d_law_pair : Stmt := top 77
abbrev d_law_is_in : Stmt := top 78
abbrev d_law_is_stretch : Stmt := top 79
abbrev d_law_neighbours : Stmt := top 80
abbrev d_law_rows : Stmt := top 81
abbrev d_law_bears : Stmt := top 82
abbrev d_law_elders : Stmt := top 83
abbrev d_law_leading : Stmt := top 84
abbrev d_law_told_right : Stmt := top 85
abbrev d_law_right : Stmt := top 86
abbrev d_law : Stmt := top 87
end K64
namespace K64
/-- the common part of two whole numbers, with the sign of the second -/
def sg (a b : Int) : Int := if b < 0 then -((Nat.gcd a.natAbs b.natAbs : Nat) : Int) else ((Nat.gcd a.natAbs b.natAbs : Nat) : Int)
/-- the top and the bottom in lowest terms -/
def lowT (a b : Int) : Int := a.fdiv (sg a b)
def lowB (a b : Int) : Int := b.fdiv (sg a b)

theorem gcd_pos {a b : Int} (hb : b ≠ 0) : 0 < Nat.gcd a.natAbs b.natAbs := Nat.gcd_pos_of_pos_right _ (by omega)
theorem sg_ne {a b : Int} (hb : b ≠ 0) : sg a b ≠ 0 := by
  have := gcd_pos (a := a) hb
  unfold sg
  split <;> omega
theorem sg_dvd_left (a b : Int) : sg a b ∣ a := by
  have h : ((Nat.gcd a.natAbs b.natAbs : Nat) : Int) ∣ a := Int.ofNat_dvd_left.mpr (Nat.gcd_dvd_left _ _)
  unfold sg
  split
  · exact Int.neg_dvd.mpr h
  · exact h
theorem sg_dvd_right (a b : Int) : sg a b ∣ b := by
  have h : ((Nat.gcd a.natAbs b.natAbs : Nat) : Int) ∣ b := Int.ofNat_dvd_left.mpr (Nat.gcd_dvd_right _ _)
  unfold sg
  split
  · exact Int.neg_dvd.mpr h
  · exact h
theorem lowT_mul (a b : Int) : lowT a b * sg a b = a := Int.fdiv_mul_cancel (sg_dvd_left a b)
theorem lowB_mul (a b : Int) : lowB a b * sg a b = b := Int.fdiv_mul_cancel (sg_dvd_right a b)
theorem lowB_pos {a b : Int} (hb : b ≠ 0) : 0 < lowB a b := by
  have h := lowB_mul a b
  have hg := gcd_pos (a := a) hb
  have hs : (0 < b ∧ 0 < sg a b) ∨ (b < 0 ∧ sg a b < 0) := by
    unfold sg
    split <;> omega
  rcases hs with ⟨h1, h2⟩ | ⟨h1, h2⟩
  · rcases Int.lt_trichotomy (lowB a b) 0 with h3 | h3 | h3
    · have := Int.mul_neg_of_neg_of_pos h3 h2
      omega
    · rw [h3] at h; omega
    · exact h3
  · rcases Int.lt_trichotomy (lowB a b) 0 with h3 | h3 | h3
    · have := Int.mul_pos_of_neg_of_neg h3 h2
      omega
    · rw [h3] at h; omega
    · exact h3
theorem sg_abs (a b : Int) : (sg a b).natAbs = Nat.gcd a.natAbs b.natAbs := by
  unfold sg
  split <;> omega
theorem low_coprime {a b : Int} (hb : b ≠ 0) : Nat.gcd (lowT a b).natAbs (lowB a b).natAbs = 1 := by
  have h1 : (lowT a b).natAbs * (sg a b).natAbs = a.natAbs := by rw [← Int.natAbs_mul, lowT_mul]
  have h2 : (lowB a b).natAbs * (sg a b).natAbs = b.natAbs := by rw [← Int.natAbs_mul, lowB_mul]
  have hg := gcd_pos (a := a) hb
  have h3 : Nat.gcd ((lowT a b).natAbs * (sg a b).natAbs) ((lowB a b).natAbs * (sg a b).natAbs) = (sg a b).natAbs := by
    rw [h1, h2, sg_abs]
  rw [Nat.gcd_mul_right] at h3
  rw [sg_abs] at h3
  exact Nat.eq_of_mul_eq_mul_right hg (by rw [h3, Nat.one_mul])
theorem same_of {t b t' b' : Int} (hb : 0 < b) (hb' : 0 < b') (h : t * b' = t' * b) (c : Nat.gcd t.natAbs b.natAbs = 1) (c' : Nat.gcd t'.natAbs b'.natAbs = 1) : t = t' ∧ b = b' := by
  have e : t.natAbs * b'.natAbs = t'.natAbs * b.natAbs := by rw [← Int.natAbs_mul, ← Int.natAbs_mul, h]
  have d1 : b.natAbs ∣ b'.natAbs := by
    have : b.natAbs ∣ t.natAbs * b'.natAbs := ⟨t'.natAbs, by rw [e, Nat.mul_comm]⟩
    exact Nat.Coprime.dvd_of_dvd_mul_left (by rw [Nat.Coprime, Nat.gcd_comm]; exact c) this
  have d2 : b'.natAbs ∣ b.natAbs := by
    have : b'.natAbs ∣ t'.natAbs * b.natAbs := ⟨t.natAbs, by rw [← e, Nat.mul_comm]⟩
    exact Nat.Coprime.dvd_of_dvd_mul_left (by rw [Nat.Coprime, Nat.gcd_comm]; exact c') this
  have eb : b = b' := by
    have := Nat.dvd_antisymm d1 d2
    omega
  refine ⟨?_, eb⟩
  rw [← eb] at h
  exact Int.eq_of_mul_eq_mul_right (by omega) h
/-- fractions of one number have one form -/
theorem low_eq {p q p' q' : Int} (hq : q ≠ 0) (hq' : q' ≠ 0) (h : p * q' = p' * q) : lowT p q = lowT p' q' ∧ lowB p q = lowB p' q' := by
  refine same_of (lowB_pos hq) (lowB_pos hq') ?_ (low_coprime hq) (low_coprime hq')
  have h1 := lowT_mul p q
  have h2 := lowB_mul p q
  have h3 := lowT_mul p' q'
  have h4 := lowB_mul p' q'
  have g1 := sg_ne (a := p) hq
  have g2 := sg_ne (a := p') hq'
  have e : (lowT p q * lowB p' q') * (sg p q * sg p' q') = (lowT p' q' * lowB p q) * (sg p q * sg p' q') := by
    have e1 : (lowT p q * lowB p' q') * (sg p q * sg p' q') = (lowT p q * sg p q) * (lowB p' q' * sg p' q') := by grind
    have e2 : (lowT p' q' * lowB p q) * (sg p q * sg p' q') = (lowT p' q' * sg p' q') * (lowB p q * sg p q) := by grind
    rw [e1, e2, h1, h2, h3, h4, h]
  exact Int.eq_of_mul_eq_mul_right (Int.mul_ne_zero g1 g2) e
theorem low_iff {p q p' q' : Int} (hq : q ≠ 0) (hq' : q' ≠ 0) : (lowT p q = lowT p' q' ∧ lowB p q = lowB p' q') ↔ p * q' = p' * q := by
  refine ⟨fun ⟨h1, h2⟩ => ?_, low_eq hq hq'⟩
  have e1 := lowT_mul p q
  have e2 := lowB_mul p q
  have e3 := lowT_mul p' q'
  have e4 := lowB_mul p' q'
  rw [h1] at e1
  rw [h2] at e2
  rw [← e1, ← e2]
  rw [show p' * (lowB p' q' * sg p q) = (p' * lowB p' q') * sg p q by grind]
  have e5 : lowT p' q' * q' = p' * lowB p' q' := by
    calc lowT p' q' * q' = lowT p' q' * (lowB p' q' * sg p' q') := by rw [e4]
      _ = (lowT p' q' * sg p' q') * lowB p' q' := by grind
      _ = p' * lowB p' q' := by rw [e3]
  rw [← e5]
  grind
/-- already in lowest terms -/
theorem low_self {t b : Int} (hb : 0 < b) (c : Nat.gcd t.natAbs b.natAbs = 1) : lowT t b = t ∧ lowB t b = b :=
  same_of (lowB_pos (by omega)) hb (by
    have h1 := lowT_mul t b
    have h2 := lowB_mul t b
    have g := sg_ne (a := t) (b := b) (by omega)
    have e : (lowT t b * b) * sg t b = (t * lowB t b) * sg t b := by
      calc (lowT t b * b) * sg t b = (lowT t b * sg t b) * b := by grind
        _ = t * b := by rw [h1]
        _ = t * (lowB t b * sg t b) := by rw [h2]
        _ = (t * lowB t b) * sg t b := by grind
    exact Int.eq_of_mul_eq_mul_right g e) (low_coprime (by omega)) c
/-- what is cross-multiplied by lowest terms -/
theorem low_cross {p q : Int} : lowT p q * q = p * lowB p q := by
  have h1 := lowT_mul p q
  have h2 := lowB_mul p q
  calc lowT p q * q = lowT p q * (lowB p q * sg p q) := by rw [h2]
    _ = (lowT p q * sg p q) * lowB p q := by grind
    _ = p * lowB p q := by rw [h1]
/-- order -/
theorem lt_mul_pos {x y k : Int} (hk : 0 < k) : x * k < y * k ↔ x < y := ⟨fun h => Int.lt_of_mul_lt_mul_right h (Int.le_of_lt hk), fun h => Int.mul_lt_mul_of_pos_right h hk⟩
theorem less_low {p q p' q' : Int} (hq : 0 < q) (hq' : 0 < q') : lowT p q * lowB p' q' < lowT p' q' * lowB p q ↔ p * q' < p' * q := by
  have b1 := lowB_pos (a := p) (b := q) (by omega)
  have b2 := lowB_pos (a := p') (b := q') (by omega)
  have c1 := low_cross (p := p) (q := q)
  have c2 := low_cross (p := p') (q := q')
  have hk : 0 < q * q' := Int.mul_pos hq hq'
  have hl : 0 < lowB p q * lowB p' q' := Int.mul_pos b1 b2
  rw [← lt_mul_pos hk, ← lt_mul_pos (x := p * q') hl]
  have e1 : lowT p q * lowB p' q' * (q * q') = p * q' * (lowB p q * lowB p' q') := by
    calc lowT p q * lowB p' q' * (q * q') = (lowT p q * q) * (lowB p' q' * q') := by grind
      _ = (p * lowB p q) * (lowB p' q' * q') := by rw [c1]
      _ = p * q' * (lowB p q * lowB p' q') := by grind
  have e2 : lowT p' q' * lowB p q * (q * q') = p' * q * (lowB p q * lowB p' q') := by
    calc lowT p' q' * lowB p q * (q * q') = (lowT p' q' * q') * (lowB p q * q) := by grind
      _ = (p' * lowB p' q') * (lowB p q * q) := by rw [c2]
      _ = p' * q * (lowB p q * lowB p' q') := by grind
  rw [e1, e2]
theorem lowT_neg {p q : Int} (hq : q ≠ 0) : lowT p q < 0 ↔ p * q < 0 := by
  have b := lowB_pos (a := p) hq
  have h1 := lowT_mul p q
  have h2 := lowB_mul p q
  have g := sg_ne (a := p) hq
  have hs : 0 < sg p q * sg p q := by
    rcases Int.lt_or_gt_of_ne g with h | h
    · exact Int.mul_pos_of_neg_of_neg h h
    · exact Int.mul_pos h h
  have e : p * q = lowT p q * (lowB p q * (sg p q * sg p q)) := by
    calc p * q = (lowT p q * sg p q) * (lowB p q * sg p q) := by rw [h1, h2]
      _ = _ := by grind
  have hk := Int.mul_pos b hs
  have := lt_mul_pos (x := lowT p q) (y := 0) hk
  rw [Int.zero_mul] at this
  rw [e]
  exact this.symm
theorem lowT_pos {p q : Int} (hq : q ≠ 0) : 0 < lowT p q ↔ 0 < p * q := by
  have b := lowB_pos (a := p) hq
  have h1 := lowT_mul p q
  have h2 := lowB_mul p q
  have g := sg_ne (a := p) hq
  have hs : 0 < sg p q * sg p q := by
    rcases Int.lt_or_gt_of_ne g with h | h
    · exact Int.mul_pos_of_neg_of_neg h h
    · exact Int.mul_pos h h
  have e : p * q = lowT p q * (lowB p q * (sg p q * sg p q)) := by
    calc p * q = (lowT p q * sg p q) * (lowB p q * sg p q) := by rw [h1, h2]
      _ = _ := by grind
  have hk := Int.mul_pos b hs
  have := lt_mul_pos (x := 0) (y := lowT p q) hk
  rw [Int.zero_mul] at this
  rw [e]
  exact this.symm

/-! what the law puts beside what the program tells -/
section
variable {a b c d : Int}
theorem val_plus (hb : b ≠ 0) (hd : d ≠ 0) : lowT (lowT a b * lowB c d + lowT c d * lowB a b) (lowB a b * lowB c d) = lowT (a * d + c * b) (b * d) ∧
    lowB (lowT a b * lowB c d + lowT c d * lowB a b) (lowB a b * lowB c d) = lowB (a * d + c * b) (b * d) := by
  have b1 := lowB_pos (a := a) hb
  have b2 := lowB_pos (a := c) hd
  have c1 := low_cross (p := a) (q := b)
  have c2 := low_cross (p := c) (q := d)
  refine low_eq (Int.mul_ne_zero (by omega) (by omega)) (Int.mul_ne_zero hb hd) ?_
  generalize lowT a b = x at *
  generalize lowB a b = y at *
  generalize lowT c d = z at *
  generalize lowB c d = w at *
  grind
theorem val_minus (hb : b ≠ 0) (hd : d ≠ 0) : lowT (lowT a b * lowB c d - lowT c d * lowB a b) (lowB a b * lowB c d) = lowT (a * d - c * b) (b * d) ∧
    lowB (lowT a b * lowB c d - lowT c d * lowB a b) (lowB a b * lowB c d) = lowB (a * d - c * b) (b * d) := by
  have b1 := lowB_pos (a := a) hb
  have b2 := lowB_pos (a := c) hd
  have c1 := low_cross (p := a) (q := b)
  have c2 := low_cross (p := c) (q := d)
  refine low_eq (Int.mul_ne_zero (by omega) (by omega)) (Int.mul_ne_zero hb hd) ?_
  generalize lowT a b = x at *
  generalize lowB a b = y at *
  generalize lowT c d = z at *
  generalize lowB c d = w at *
  grind
theorem val_times (hb : b ≠ 0) (hd : d ≠ 0) : lowT (lowT a b * lowT c d) (lowB a b * lowB c d) = lowT (a * c) (b * d) ∧
    lowB (lowT a b * lowT c d) (lowB a b * lowB c d) = lowB (a * c) (b * d) := by
  have b1 := lowB_pos (a := a) hb
  have b2 := lowB_pos (a := c) hd
  have c1 := low_cross (p := a) (q := b)
  have c2 := low_cross (p := c) (q := d)
  refine low_eq (Int.mul_ne_zero (by omega) (by omega)) (Int.mul_ne_zero hb hd) ?_
  generalize lowT a b = x at *
  generalize lowB a b = y at *
  generalize lowT c d = z at *
  generalize lowB c d = w at *
  grind
theorem lowT_zero (hd : d ≠ 0) : lowT c d = 0 ↔ c = 0 := by
  have h := lowT_mul c d
  have g := sg_ne (a := c) hd
  constructor
  · intro e
    rw [e, Int.zero_mul] at h
    exact h.symm
  · intro e
    rw [e] at h ⊢
    rw [e] at g
    rcases Int.mul_eq_zero.mp h with z | z
    · exact z
    · exact absurd z g
theorem val_over (hb : b ≠ 0) (hd : d ≠ 0) (hc : c ≠ 0) : lowT (lowT a b * lowB c d) (lowB a b * lowT c d) = lowT (a * d) (b * c) ∧
    lowB (lowT a b * lowB c d) (lowB a b * lowT c d) = lowB (a * d) (b * c) := by
  have b1 := lowB_pos (a := a) hb
  have t2 : lowT c d ≠ 0 := fun e => hc ((lowT_zero hd).mp e)
  have c1 := low_cross (p := a) (q := b)
  have c2 := low_cross (p := c) (q := d)
  refine low_eq (Int.mul_ne_zero (by omega) t2) (Int.mul_ne_zero hb hc) ?_
  generalize lowT a b = x at *
  generalize lowB a b = y at *
  generalize lowT c d = z at *
  generalize lowB c d = w at *
  grind
theorem num_less (hb : b ≠ 0) (hd : d ≠ 0) : ((a * d - c * b) * (b * d) < 0 ↔ lowT a b * lowB c d < lowT c d * lowB a b) ∧ (0 < (a * d - c * b) * (b * d) ↔ lowT c d * lowB a b < lowT a b * lowB c d) := by
  have h := val_minus (a := a) (c := c) hb hd
  have b1 := lowB_pos (a := a) hb
  have b2 := lowB_pos (a := c) hd
  have hk : 0 < lowB a b * lowB c d := Int.mul_pos b1 b2
  have k1 := lowT_neg (p := a * d - c * b) (q := b * d) (Int.mul_ne_zero hb hd)
  have k2 := lowT_pos (p := a * d - c * b) (q := b * d) (Int.mul_ne_zero hb hd)
  have k3 := lowT_neg (p := lowT a b * lowB c d - lowT c d * lowB a b) (q := lowB a b * lowB c d) (by omega)
  have k4 := lowT_pos (p := lowT a b * lowB c d - lowT c d * lowB a b) (q := lowB a b * lowB c d) (by omega)
  have m1 := lt_mul_pos (x := lowT a b * lowB c d - lowT c d * lowB a b) (y := 0) hk
  have m2 := lt_mul_pos (x := 0) (y := lowT a b * lowB c d - lowT c d * lowB a b) hk
  rw [Int.zero_mul] at m1 m2
  rw [← k1, ← k2, ← h.1, k3, k4, m1, m2]
  omega
theorem val_less (hb : b ≠ 0) (hd : d ≠ 0) : (lowT (a * d - c * b) (b * d) < 0 ↔ lowT a b * lowB c d < lowT c d * lowB a b) ∧ (0 < lowT (a * d - c * b) (b * d) ↔ lowT c d * lowB a b < lowT a b * lowB c d) := by
  have k1 := lowT_neg (p := a * d - c * b) (q := b * d) (Int.mul_ne_zero hb hd)
  have k2 := lowT_pos (p := a * d - c * b) (q := b * d) (Int.mul_ne_zero hb hd)
  have := num_less (a := a) (c := c) hb hd
  rw [k1, k2]
  exact this
end
section
variable {t1 b1 t2 b2 t3 b3 : Int}
theorem ord_plus (h1 : 0 < b1) (h2 : 0 < b2) (h3 : 0 < b3) :
    lowT (t1 * b3 + t3 * b1) (b1 * b3) * lowB (t2 * b3 + t3 * b2) (b2 * b3) < lowT (t2 * b3 + t3 * b2) (b2 * b3) * lowB (t1 * b3 + t3 * b1) (b1 * b3) ↔ t1 * b2 < t2 * b1 := by
  rw [less_low (Int.mul_pos h1 h3) (Int.mul_pos h2 h3)]
  have hk : 0 < b3 * b3 := Int.mul_pos h3 h3
  rw [← lt_mul_pos (x := t1 * b2) hk]
  have e : (t1 * b3 + t3 * b1) * (b2 * b3) - t1 * b2 * (b3 * b3) = (t2 * b3 + t3 * b2) * (b1 * b3) - t2 * b1 * (b3 * b3) := by grind
  omega
theorem ord_times (h1 : 0 < b1) (h2 : 0 < b2) (h3 : 0 < b3) (ht : 0 < t3) :
    lowT (t1 * t3) (b1 * b3) * lowB (t2 * t3) (b2 * b3) < lowT (t2 * t3) (b2 * b3) * lowB (t1 * t3) (b1 * b3) ↔ t1 * b2 < t2 * b1 := by
  rw [less_low (Int.mul_pos h1 h3) (Int.mul_pos h2 h3)]
  have hk : 0 < t3 * b3 := Int.mul_pos ht h3
  rw [← lt_mul_pos (x := t1 * b2) hk]
  have e1 : t1 * t3 * (b2 * b3) = t1 * b2 * (t3 * b3) := by grind
  have e2 : t2 * t3 * (b1 * b3) = t2 * b1 * (t3 * b3) := by grind
  rw [e1, e2]
theorem ord_turned (h1 : 0 < b1) (h2 : 0 < b2) (h3 : 0 < b3) (ht : t3 < 0) :
    lowT (t2 * t3) (b2 * b3) * lowB (t1 * t3) (b1 * b3) < lowT (t1 * t3) (b1 * b3) * lowB (t2 * t3) (b2 * b3) ↔ t1 * b2 < t2 * b1 := by
  rw [less_low (Int.mul_pos h2 h3) (Int.mul_pos h1 h3)]
  have hk : 0 < (-t3) * b3 := Int.mul_pos (by omega) h3
  rw [← lt_mul_pos (x := t1 * b2) hk]
  have e1 : t2 * t3 * (b1 * b3) = -(t2 * b1 * (-t3 * b3)) := by grind
  have e2 : t1 * t3 * (b2 * b3) = -(t1 * b2 * (-t3 * b3)) := by grind
  rw [e1, e2]
  omega
theorem ord_none (h1 : 0 < b1) (h2 : 0 < b2) (h3 : 0 < b3) (ht : t3 = 0) : lowT (t1 * t3) (b1 * b3) = lowT (t2 * t3) (b2 * b3) ∧ lowB (t1 * t3) (b1 * b3) = lowB (t2 * t3) (b2 * b3) := by
  subst ht
  refine low_eq ?_ ?_ (by simp)
  · have := Int.mul_pos h1 h3
    omega
  · have := Int.mul_pos h2 h3
    omega
end
theorem lowT_one (a : Int) : lowT a 1 = a := by
  have h := lowT_mul a 1
  have e : sg a 1 = 1 := by unfold sg; simp
  rw [e] at h
  omega
theorem lowB_one (a : Int) : lowB a 1 = 1 := by
  have h := lowB_mul a 1
  have e : sg a 1 = 1 := by unfold sg; simp
  rw [e] at h
  omega
/-! sizes -/
theorem lowT_le {a b : Int} (hb : b ≠ 0) : (lowT a b).natAbs ≤ a.natAbs := by
  have h : (lowT a b).natAbs * (sg a b).natAbs = a.natAbs := by rw [← Int.natAbs_mul, lowT_mul]
  have g : 0 < (sg a b).natAbs := by have := sg_ne (a := a) hb; omega
  exact Nat.le_trans (Nat.le_mul_of_pos_right _ g) (Nat.le_of_eq h)
theorem lowB_le {a b : Int} (hb : b ≠ 0) : (lowB a b).natAbs ≤ b.natAbs := by
  have h : (lowB a b).natAbs * (sg a b).natAbs = b.natAbs := by rw [← Int.natAbs_mul, lowB_mul]
  have g : 0 < (sg a b).natAbs := by have := sg_ne (a := a) hb; omega
  exact Nat.le_trans (Nat.le_mul_of_pos_right _ g) (Nat.le_of_eq h)
theorem sg_le {a b : Int} (hb : b ≠ 0) : (sg a b).natAbs ≤ b.natAbs := by
  rw [sg_abs]
  exact Nat.le_of_dvd (by omega) (Nat.gcd_dvd_right _ _)
end K64
namespace K64
open PySem PySem.Spec PyProof.Rows L2
abbrev sWhole : Stmt := d_is_whole
abbrev sInit : Stmt := d_Share_init
abbrev sEq : Stmt := d_Share_eq
/-! ### a share on the heap -/
theorem tb_ : ¬ (("top" : Str) = "bottom") := by decide +kernel
theorem bt_ : ¬ (("bottom" : Str) = "top") := by decide +kernel
def shf (t b : Int) : List (Str × V) := putF "bottom" (.int b) (putF "top" (.int t) [])
theorem shf_top (t b : Int) : (shf t b).lookup ("top" : Str) = some (.int t) := by
  unfold shf
  rw [lookup_putF, if_neg tb_, lookup_putF, if_pos rfl]
theorem shf_bottom (t b : Int) : (shf t b).lookup ("bottom" : Str) = some (.int b) := by
  unfold shf
  rw [lookup_putF, if_pos rfl]
/-- a share t over b stands at p -/
def ShAt (C : Addr) (H : Hp) (p : Addr) (t b : Int) : Prop := ∃ dx, H p = some (.ins C dx (shf t b))
theorem ShAt.mono {C : Addr} {H H' : Hp} {p : Addr} {t b : Int} (h : ShAt C H p t b) (s : Same H H') : ShAt C H' p t b := by
  obtain ⟨dx, e⟩ := h
  exact ⟨dx, s _ _ e⟩
/-- what the top says of the program's own names -/
structure Txt (K : PySem.W.Frag) (mg : Str → Option Value) (C CN : Addr) : Prop where
  cl : Cls K C
  nT : NoAttr K C "top"
  nB : NoAttr K C "bottom"
  mgC : mg "Share" = some (.ref C)
  gcd : mg "gcd" = some (.builtin "math.gcd")
  isi : mg "isinstance" = none
  int : mg "int" = none
  bool : mg "bool" = none
  gN : mg "NoShare" = some (.ref CN)
  xN : PySem.W.excIn K CN [.type "ValueError", .type "Exception", .type "BaseException", .type "object"] "ValueError.__new__" = true
  kN : PySem.W.keepIn K (.ref CN) = true
  bN : PySem.W.subIn K (.ref CN) (.type "BaseException") = some true
  tN : PySem.W.typeIn K (.ref CN) = some (.type "type")
  eN : PySem.W.exmOne K (.ref CN) (.ref CN) = some true
/-! ### // by a divisor of either sign -/
def CDivX (_ j : Int) : Prop := j ≠ 0 ∧ j.natAbs.log2 < 9000
section
variable {X : Cx}
theorem op_fdivX : OpR X (binaryOp .FloorDiv) (rI CDivX fun i j => .int (i.fdiv j)) := opI fun i j _ _ _ _ _ hc q => floordiv_int hc.1 q (.inl (PyProof.noPylong_of_log2 hc.2))
end
theorem big_div {i j : Int} {b : Nat} (h : j ≠ 0) (hb : j.natAbs < 2 ^ b) (h0 : 0 < b) (h9 : b ≤ 9000) : CDivX i j := ⟨h, Nat.lt_of_lt_of_le (PySem.Flt.log2_lt_of h0 hb) h9⟩
theorem add_lt {i j : Int} {a : Nat} (hi : i.natAbs < 2 ^ a) (hj : j.natAbs < 2 ^ a) : (i + j).natAbs < 2 ^ (a + 1) := by
  have e : 2 ^ (a + 1) = 2 ^ a * 2 := Nat.pow_succ ..
  omega
theorem sub_lt {i j : Int} {a : Nat} (hi : i.natAbs < 2 ^ a) (hj : j.natAbs < 2 ^ a) : (i - j).natAbs < 2 ^ (a + 1) := by
  have e : 2 ^ (a + 1) = 2 ^ a * 2 := Nat.pow_succ ..
  omega
theorem pow_le {i : Int} {a b : Nat} (h : i.natAbs < 2 ^ a) (hab : a ≤ b) : i.natAbs < 2 ^ b := Nat.lt_of_lt_of_le h (Nat.pow_le_pow_right (by omega) hab)
/-! ### promises -/
def spWhole : Sp := fun vs H Q _ => ∃ i : Int, vs = [.int i] ∧ Q (.bl true) H
def spInit (C CN : Addr) : Sp := fun vs H Q E => ∃ (p dx : Addr) (t b : Int), vs = [.ref p, .int t, .int b] ∧ H p = some (.ins C dx []) ∧ t.natAbs < 2 ^ 4000 ∧ b.natAbs < 2 ^ 4000 ∧
  (b = 0 → E (.ref CN) none H) ∧ (b ≠ 0 → ∀ H' : Hp, H' p = some (.ins C dx (shf (lowT t b) (lowB t b))) → (∀ a, a ≠ p → H' a = H a) → Q .non H')
section
variable {P : Program} {w : World} {K : PySem.W.Frag} {mg : Str → Option Value} {base : Heap}
theorem scWhole : FnScope ["thing"] ["thing"] (defScope sWhole) := ⟨rfl, rfl, rfl, by decide +kernel, rfl, by decide +kernel, by decide +kernel⟩
theorem ok_whole {f C CN : Addr} {fd : FuncData} (F : Fun K "is_whole" "is_whole" sWhole f fd) (T : Txt K mg C CN) : FnOk P w K mg base CX0 1 f fd ["thing"] spWhole := by
  refine F.ok scWhole (fun vs H Q E h => ?_) (fun cdv A outer s H vs Q E hr h => ?_)
  · obtain ⟨i, rfl, _⟩ := h
    rfl
  · obtain ⟨i, rfl, k⟩ := h
    refine ⟨_, pss_one (ps_ret (pe_and (pe_callB call_isi (by rfl) T.isi (by decide +kernel) (pa_cons (pv 0) (pa_cons (pe_bltn (v := .ty "int") (by rfl) T.int (by decide +kernel) rfl) pa_nil)))
      (pe_one (pe_not (pe_callB call_isi (by rfl) T.isi (by decide +kernel) (pa_cons (pv 0) (pa_cons (pe_bltn (v := .ty "bool") (by rfl) T.bool (by decide +kernel) rfl) pa_nil))))))), ?_⟩
    refine ⟨_, rfl, _, _, _, _, true, rfl, ClsV.ty _, TyX.base (TyOf.int _), kit_ty (by decide +kernel), true, rfl, iteT ?_⟩
    exact ⟨_, rfl, _, _, _, _, false, rfl, ClsV.ty _, TyX.base (TyOf.int _), kit_ty (by decide +kernel), false, rfl, k⟩

theorem scInit : FnScope ["self", "top", "bottom", "common"] ["self", "top", "bottom"] (defScope sInit) := ⟨rfl, rfl, rfl, by decide +kernel, rfl, by decide +kernel, by decide +kernel⟩
theorem ok_init {f fW C CN : Addr} {fd fdW : FuncData} (F : FunD K "__init__" "Share.__init__" (defArgs sInit) (defBody sInit) (defScope sInit) [.int 1] [] f fd) (T : Txt K mg C CN)
    (GW : FnOk P w K mg base CX0 1 fW fdW ["thing"] spWhole) (mW : mg "is_whole" = some (.ref fW)) (kW : PySem.W.keepIn K (.ref fW) = true) (bW : Binds K fdW ["thing"] []) :
    FnOk P w K mg base (L2.CX P w) 2 f fd ["self", "top", "bottom"] (spInit C CN) := by
  refine FunD.ok (N := ["self", "top", "bottom", "common"]) F scInit (fun vs H Q E h => ?_) (fun cdv A outer s H vs Q E hr h => ?_)
  · obtain ⟨p, dx, t, b, rfl, _⟩ := h
    rfl
  · obtain ⟨p, dx, t, b, rfl, hp, st, sb, ke, kq⟩ := h
    refine ⟨_, pss_cons (ps_if (PW.pt (pw_or (pt_not (pt_val (pe_call GW hr rfl mW kW bW .nil pass0 (pa_cons (pv 1) pa_nil)))) (pw_or (pt_not (pt_val (pe_call GW hr rfl mW kW bW .nil pass0 (pa_cons (pv 2) pa_nil)))) (pw_or1 (pt_cmpR op_eq (pv 2) pe_int (nomark _))))))
        (pss_one (ps_raise rfl (takes_of rfl rfl rfl rfl) (pmk_own PySem.F.excBase_ValueError T.xN T.gN T.kN (raises_own T.bN T.tN) (by exact rfl)))) pss_nil)
      (pss_cons (ps_set (i := 3) scInit.nd rfl (Or.inl rfl) (pe_callBfun cr_gcd rfl T.gcd (pa_cons (pv 1) (pa_cons (pv 2) pa_nil))))
      (pss_cons (ps_if (pt_cmpR op_lt (pv 2) pe_int (nomark _)) (pss_one (ps_set (i := 3) scInit.nd rfl (Or.inl rfl) (pe_un un_neg (pv 3)))) pss_nil)
      (pss_cons (ps_fld (pv 0) (pe_op op_fdivX (pv 1) (pv 3)) rfl)
      (pss_one (ps_fld (pv 0) (pe_op op_fdivX (pv 2) (pv 3)) rfl))))), ?_⟩
    refine ⟨_, rfl, t, rfl, true, rfl, iteF ?_⟩
    refine ⟨_, rfl, b, rfl, true, rfl, iteF ?_⟩
    refine ⟨_, rfl, rfl, _, rfl, ?_⟩
    refine ite2 (fun h0 => ?_) (fun h0 => ?_)
    · exact ke (by simpa using h0)
    · have hb : b ≠ 0 := fun e => h0 (by rw [e]; exact decide_eq_true rfl)
      have gs : (sg t b).natAbs < 2 ^ 4000 := Nat.lt_of_le_of_lt (sg_le hb) sb
      refine ⟨_, rfl, _, rfl, t, b, rfl, ?_⟩
      refine ⟨_, rfl, _, _, rfl, rfl, _, rfl, ?_⟩
      refine ite2 (fun hn => ?_) (fun hn => ?_)
      · have hn : b < 0 := of_decide_eq_true hn
        have e : -((Nat.gcd t.natAbs b.natAbs : Nat) : Int) = sg t b := by unfold sg; rw [if_pos hn]
        have g0 : -((Nat.gcd t.natAbs b.natAbs : Nat) : Int) ≠ 0 := by rw [e]; exact sg_ne hb
        have gd : ∀ i : Int, CDivX i (-((Nat.gcd t.natAbs b.natAbs : Nat) : Int)) := fun i => big_div (b := 4000) g0 (by rw [e]; exact gs) (by decide) (by decide)
        refine ⟨_, rfl, _, rfl, ?_⟩
        refine ⟨_, rfl, _, rfl, _, _, rfl, rfl, gd _, _, rfl, p, C, dx, _, rfl, hp, T.cl, T.nT, (by show 0 < 1000; decide), ?_⟩
        refine ⟨_, rfl, _, rfl, _, _, rfl, rfl, gd _, _, rfl, p, C, dx, _, rfl, upd_same, T.cl, T.nB, (by show 1 < 1000; decide), ?_⟩
        refine kq hb _ (Eq.trans upd_same ?_) (fun a ha => by rw [upd_ne ha, upd_ne ha])
        rw [e]
        rfl
      · have hn : ¬ b < 0 := fun q => hn (decide_eq_true q)
        have e : ((Nat.gcd t.natAbs b.natAbs : Nat) : Int) = sg t b := by unfold sg; rw [if_neg hn]
        have g0 : ((Nat.gcd t.natAbs b.natAbs : Nat) : Int) ≠ 0 := by rw [e]; exact sg_ne hb
        have gd : ∀ i : Int, CDivX i ((Nat.gcd t.natAbs b.natAbs : Nat) : Int) := fun i => big_div (b := 4000) g0 (by rw [e]; exact gs) (by decide) (by decide)
        refine ⟨_, rfl, _, rfl, _, _, rfl, rfl, gd _, _, rfl, p, C, dx, _, rfl, hp, T.cl, T.nT, (by show 0 < 1000; decide), ?_⟩
        refine ⟨_, rfl, _, rfl, _, _, rfl, rfl, gd _, _, rfl, p, C, dx, _, rfl, upd_same, T.cl, T.nB, (by show 1 < 1000; decide), ?_⟩
        refine kq hb _ (Eq.trans upd_same ?_) (fun a ha => by rw [upd_ne ha, upd_ne ha])
        rw [e]
        rfl

/-- what is made stands beside what stood -/
theorem made_same {H H' : Hp} {x dx C : Addr} {o : HO} (nx : H x = none) (nd : H dx = none) (k : ∀ a, a ≠ x → H' a = (upd (upd H dx (.own x)) x o) a) : Same H H' := fun a u e => by
  have a1 : a ≠ x := fun z => by rw [z, nx] at e; cases e
  have a2 : a ≠ dx := fun z => by rw [z, nd] at e; cases e
  rw [k a a1, upd_ne a1, upd_ne a2]
  exact e
end
end K64

namespace K64
open PySem PySem.Spec PyProof.Rows L2
/-! ### a share as the number that it stands for -/
theorem rat_frac (q : Rat) : (q.num : Rat) / ((q.den : Int) : Rat) = q := by
  have h := Rat.num_divInt_den q
  rw [Rat.divInt_eq_div] at h
  exact h
theorem icast_ne {b : Int} (h : b ≠ 0) : (b : Rat) ≠ 0 := fun z => h (Rat.intCast_inj.mp (by rw [z]; rfl))
theorem den_pos (q : Rat) : (0 : Int) < (q.den : Int) := by
  have := q.den_nz
  omega
theorem low_rat {t b : Int} (hb : b ≠ 0) : lowT t b = ((t : Rat) / (b : Rat)).num ∧ lowB t b = ((((t : Rat) / (b : Rat)).den : Nat) : Int) := by
  have hq := rat_frac ((t : Rat) / (b : Rat))
  have hd := den_pos ((t : Rat) / (b : Rat))
  have hc := ((t : Rat) / (b : Rat)).reduced
  generalize hx : (t : Rat) / (b : Rat) = q at *
  refine same_of (lowB_pos hb) hd ?_ (low_coprime hb) hc
  have nb := icast_ne hb
  have nd := icast_ne (show ((q.den : Nat) : Int) ≠ 0 by omega)
  have cross : t * (q.den : Int) = q.num * b := by
    refine Rat.intCast_inj.mp ?_
    rw [Rat.intCast_mul, Rat.intCast_mul]
    have e : (t : Rat) / (b : Rat) = (q.num : Rat) / ((q.den : Int) : Rat) := by rw [hx, hq]
    grind
  have h1 := lowT_mul t b
  have h2 := lowB_mul t b
  have g := sg_ne (a := t) hb
  refine Int.eq_of_mul_eq_mul_right g ?_
  calc lowT t b * (q.den : Int) * sg t b = (lowT t b * sg t b) * (q.den : Int) := by rw [Int.mul_assoc, Int.mul_comm (q.den : Int), ← Int.mul_assoc]
    _ = t * (q.den : Int) := by rw [h1]
    _ = q.num * b := cross
    _ = q.num * (lowB t b * sg t b) := by rw [h2]
    _ = q.num * lowB t b * sg t b := by rw [Int.mul_assoc]
/-- the share of q stands at p -/
def ShQ (C : Addr) (H : Hp) (p : Addr) (q : Rat) : Prop := ShAt C H p q.num (q.den : Int)
theorem ShQ.mono {C : Addr} {H H' : Hp} {p : Addr} {q : Rat} (h : ShQ C H p q) (s : Same H H') : ShQ C H' p q := ShAt.mono h s
theorem shq_low {C : Addr} {H : Hp} {p : Addr} {t b : Int} (hb : b ≠ 0) (h : ShAt C H p (lowT t b) (lowB t b)) : ShQ C H p ((t : Rat) / (b : Rat)) := by
  unfold ShQ
  rw [← (low_rat hb).1, ← (low_rat hb).2]
  exact h
/-- below 2 ^ k, both top and bottom -/
def Sz (k : Nat) (q : Rat) : Prop := q.num.natAbs < 2 ^ k ∧ ((q.den : Nat) : Int).natAbs < 2 ^ k
theorem Sz.up {j k : Nat} {q : Rat} (h : Sz j q) (e : j ≤ k) : Sz k q := ⟨pow_le h.1 e, pow_le h.2 e⟩
theorem sz_div {k : Nat} {t b : Int} (hb : b ≠ 0) (ht : t.natAbs < 2 ^ k) (hk : b.natAbs < 2 ^ k) : Sz k ((t : Rat) / (b : Rat)) := by
  unfold Sz
  rw [← (low_rat hb).1, ← (low_rat hb).2]
  exact ⟨Nat.lt_of_le_of_lt (lowT_le hb) ht, Nat.lt_of_le_of_lt (lowB_le hb) hk⟩
theorem mul_lt {i j : Int} {a b : Nat} (ha : i.natAbs < 2 ^ a) (hb : j.natAbs < 2 ^ b) : (i * j).natAbs < 2 ^ (a + b) := by
  rw [Int.natAbs_mul, Nat.pow_add]
  exact Nat.mul_lt_mul_of_lt_of_lt ha hb
theorem rat_mul (x y : Rat) : ((x.num * y.num : Int) : Rat) / (((x.den : Int) * (y.den : Int) : Int) : Rat) = x * y := by
  have a := rat_frac x
  have b := rat_frac y
  have n1 := icast_ne (show ((x.den : Nat) : Int) ≠ 0 from by have := den_pos x; omega)
  have n2 := icast_ne (show ((y.den : Nat) : Int) ≠ 0 from by have := den_pos y; omega)
  rw [Rat.intCast_mul, Rat.intCast_mul]
  generalize hx : (x.num : Rat) = xn at *
  generalize hy : (y.num : Rat) = yn at *
  generalize ((x.den : Int) : Rat) = xd at *
  generalize ((y.den : Int) : Rat) = yd at *
  subst a b
  grind
theorem rat_add (x y : Rat) : ((x.num * (y.den : Int) + y.num * (x.den : Int) : Int) : Rat) / (((x.den : Int) * (y.den : Int) : Int) : Rat) = x + y := by
  have a := rat_frac x
  have b := rat_frac y
  have n1 := icast_ne (show ((x.den : Nat) : Int) ≠ 0 from by have := den_pos x; omega)
  have n2 := icast_ne (show ((y.den : Nat) : Int) ≠ 0 from by have := den_pos y; omega)
  rw [Rat.intCast_mul, Rat.intCast_add, Rat.intCast_mul, Rat.intCast_mul]
  generalize hx : (x.num : Rat) = xn at *
  generalize hy : (y.num : Rat) = yn at *
  generalize ((x.den : Int) : Rat) = xd at *
  generalize ((y.den : Int) : Rat) = yd at *
  subst a b
  grind
theorem rat_sub (x y : Rat) : ((x.num * (y.den : Int) - y.num * (x.den : Int) : Int) : Rat) / (((x.den : Int) * (y.den : Int) : Int) : Rat) = x - y := by
  have a := rat_frac x
  have b := rat_frac y
  have n1 := icast_ne (show ((x.den : Nat) : Int) ≠ 0 from by have := den_pos x; omega)
  have n2 := icast_ne (show ((y.den : Nat) : Int) ≠ 0 from by have := den_pos y; omega)
  rw [Rat.intCast_mul, Rat.intCast_sub, Rat.intCast_mul, Rat.intCast_mul]
  generalize hx : (x.num : Rat) = xn at *
  generalize hy : (y.num : Rat) = yn at *
  generalize ((x.den : Int) : Rat) = xd at *
  generalize ((y.den : Int) : Rat) = yd at *
  subst a b
  grind
theorem sz_mul {a b : Nat} {x y : Rat} (hx : Sz a x) (hy : Sz b y) : Sz (a + b) (x * y) := by
  rw [← rat_mul]
  exact sz_div (Int.mul_ne_zero (by have := den_pos x; omega) (by have := den_pos y; omega)) (mul_lt hx.1 hy.1) (mul_lt hx.2 hy.2)
theorem sz_add {a b : Nat} {x y : Rat} (hx : Sz a x) (hy : Sz b y) : Sz (a + b + 1) (x + y) := by
  rw [← rat_add]
  refine sz_div (Int.mul_ne_zero (by have := den_pos x; omega) (by have := den_pos y; omega)) (add_lt (mul_lt hx.1 hy.2) ?_) (pow_le (mul_lt hx.2 hy.2) (by omega))
  rw [Nat.add_comm]
  exact mul_lt hy.1 hx.2
theorem sz_sub {a b : Nat} {x y : Rat} (hx : Sz a x) (hy : Sz b y) : Sz (a + b + 1) (x - y) := by
  rw [← rat_sub]
  refine sz_div (Int.mul_ne_zero (by have := den_pos x; omega) (by have := den_pos y; omega)) (sub_lt (mul_lt hx.1 hy.2) ?_) (pow_le (mul_lt hx.2 hy.2) (by omega))
  rw [Nat.add_comm]
  exact mul_lt hy.1 hx.2
theorem rat_lt (x y : Rat) : decide (x.num * (y.den : Int) < y.num * (x.den : Int)) = decide (x < y) := decide_eq_decide.mpr (Rat.lt_iff x y).symm
theorem rat_eq (x y : Rat) : (decide (x.num = y.num) && decide ((x.den : Int) = (y.den : Int))) = decide (x = y) := by
  rw [← Bool.decide_and]
  refine decide_eq_decide.mpr ⟨fun h => Rat.ext h.1 (by have := h.2; omega), fun h => by rw [h]; exact ⟨rfl, rfl⟩⟩
end K64

namespace K64
open PySem PySem.Spec PyProof.Rows L2
/-! ### two lists side by side -/
structure All2 {α β : Type} (R : α → β → Prop) (as : List α) (bs : List β) : Prop where
  len : as.length = bs.length
  all : ∀ (i : Nat) (a : α) (b : β), as[i]? = some a → bs[i]? = some b → R a b
theorem All2.nil {α β : Type} {R : α → β → Prop} : All2 R [] [] := ⟨rfl, fun i a b h _ => by simp at h⟩
theorem All2.mono {α β : Type} {R S : α → β → Prop} {as : List α} {bs : List β} (h : All2 R as bs) (f : ∀ a b, a ∈ as → b ∈ bs → R a b → S a b) : All2 S as bs :=
  ⟨h.len, fun i a b ha hb => f a b (List.mem_of_getElem? ha) (List.mem_of_getElem? hb) (h.all i a b ha hb)⟩
theorem All2.snoc {α β : Type} {R : α → β → Prop} {as : List α} {bs : List β} {a : α} {b : β} (h : All2 R as bs) (r : R a b) : All2 R (as ++ [a]) (bs ++ [b]) := by
  refine ⟨by rw [List.length_append, List.length_append, h.len]; rfl, fun i x y hx hy => ?_⟩
  by_cases c : i < as.length
  · rw [List.getElem?_append_left c] at hx
    rw [List.getElem?_append_left (by rw [← h.len]; exact c)] at hy
    exact h.all i x y hx hy
  · rw [List.getElem?_append_right (by omega)] at hx
    rw [List.getElem?_append_right (by rw [← h.len]; omega)] at hy
    have c0 : i - as.length = 0 := by
      have := (List.getElem?_eq_some_iff.mp hx).1
      simp at this
      omega
    rw [← h.len, c0] at hy
    rw [c0] at hx
    have e1 : a = x := by simpa using hx
    have e2 : b = y := by simpa using hy
    subst e1 e2
    exact r
theorem All2.one {α β : Type} {R : α → β → Prop} {a : α} {b : β} (r : R a b) : All2 R [a] [b] := All2.nil.snoc r
theorem All2.two {α β : Type} {R : α → β → Prop} {a a' : α} {b b' : β} (r : R a b) (r' : R a' b') : All2 R [a, a'] [b, b'] := (All2.one r).snoc r'
theorem All2.take {α β : Type} {R : α → β → Prop} {as : List α} {bs : List β} (h : All2 R as bs) (n : Nat) : All2 R (as.take n) (bs.take n) :=
  ⟨by rw [List.length_take, List.length_take, h.len], fun i a b ha hb => by
    rw [List.getElem?_take] at ha hb
    split at ha
    · rename_i c
      rw [if_pos c] at hb
      exact h.all i a b ha hb
    · cases ha⟩
theorem All2.rev {α β : Type} {R : α → β → Prop} {as : List α} {bs : List β} (h : All2 R as bs) : All2 R as.reverse bs.reverse :=
  ⟨by rw [List.length_reverse, List.length_reverse, h.len], fun i a b ha hb => by
    have hi : i < as.length := by
      have := (List.getElem?_eq_some_iff.mp ha).1
      simpa using this
    rw [List.getElem?_reverse hi] at ha
    rw [List.getElem?_reverse (by rw [← h.len]; exact hi), ← h.len] at hb
    exact h.all _ a b ha hb⟩
theorem same1 {H : Hp} {p : Addr} {o : HO} (h : H p = none) : Same H (upd H p o) := fun b u e => by rw [upd_ne (ne_of_none e h)]; exact e
theorem Same.tup {K : PySem.W.Frag} {H H' : Hp} {a : Addr} {xs : List V} (e : Same H H') (h : SqT K H a xs) : SqT K H' a xs := SqT.ext h e
theorem at_k {xs : List V} {k : Int} {v : V} (h0 : 0 ≤ k) (h : xs[k.toNat]? = some v) : atI xs k = some v := by
  have e := atI_nat h
  rw [Int.toNat_of_nonneg h0] at e
  exact e
/-- a def at hand: its promise, its name, how it is called -/
structure At (P : Program) (w : World) (K : PySem.W.Frag) (mg : Str → Option Value) (base : Heap) (CX : CXT) (k : Nat) (x : Str) (ps : List Str) (sp : Sp) (f : Addr) (fd : FuncData) : Prop where
  G : FnOk P w K mg base CX k f fd ps sp
  m : mg x = some (.ref f)
  k : PySem.W.keepIn K (.ref f) = true
  b : Binds K fd ps []
end K64

namespace K64
open PySem PySem.Spec PyProof.Rows L2
/-! ### lcm of great numbers, and what comes together -/
theorem sum_le : ∀ (l : List Int) (B : Nat), (∀ x ∈ l, x.natAbs ≤ B) → l.sum.natAbs ≤ l.length * B
  | [], B, _ => by simp
  | a :: l, B, h => by
    have h1 := h a (by simp)
    have h2 := sum_le l B (fun x hx => h x (by simp [hx]))
    rw [List.sum_cons, List.length_cons, Nat.succ_mul]
    have := Int.natAbs_add_le a l.sum
    omega
section
variable {X : Cx}
def rLcmW : List V → Hp → VK → Prop := fun xs H Q => ∃ a b : Int, xs = [.int a, .int b] ∧ a.natAbs < 2 ^ 4000 ∧ b.natAbs < 2 ^ 4000 ∧ Q (.int ((Nat.lcm a.natAbs b.natAbs : Nat) : Int)) H
theorem log_le {n k : Nat} (h0 : 0 < k) (h : n < 2 ^ k) : n.log2 < k := PySem.Flt.log2_lt_of h0 h
theorem cr_lcmW : CallR X (.builtin "math.lcm") rLcmW := by
  intro pins s σ H vs us Q I r h
  obtain ⟨a, b, rfl, ha, hb, q⟩ := h
  obtain ⟨t, u, rfl⟩ := Vals.int2 r
  have l1 : (max 1 a.natAbs).log2 < 4000 := log_le (by decide) (by have : 1 < 2 ^ 4000 := Nat.one_lt_two_pow (by decide); omega)
  have l2 : (max a.natAbs b.natAbs).log2 < 4000 := log_le (by decide) (by omega)
  have sz : ((((Nat.lcm 1 a.natAbs).lcm b.natAbs : Nat) : Int)).natAbs.log2 < bitsLine := by
    rw [PySem.W.mc_lcm_one, Int.natAbs_natCast]
    have m : a.natAbs.lcm b.natAbs < 2 ^ 8000 := by
      refine Nat.lt_of_le_of_lt (PySem.W.mc_lcm_le _ _) ?_
      rw [show 8000 = 4000 + 4000 from rfl, Nat.pow_add]
      exact Nat.mul_lt_mul_of_lt_of_lt ha hb
    exact Nat.lt_of_lt_of_le (log_le (by decide) m) (by decide)
  refine call_function_meets PySem.W.MGF.kind_lcm PySem.W.MGF.plain_lcm PySem.W.MGF.entry_lcm (PySem.W.MGF.args_lcm _ _) (PySem.W.mg_run_lcm a t b u (by omega) (by omega) sz).meets ?_
  rw [PySem.W.mc_lcm_one]
  exact ⟨.int _, H, I.tok _, ⟨_, rfl⟩, q⟩
end
/-- a list of shares at ps -/
def ShQs (C : Addr) (H : Hp) (ps : List Addr) (ws : List Rat) : Prop := All2 (ShQ C H) ps ws
theorem ShQs.mono {C : Addr} {H H' : Hp} {ps : List Addr} {ws : List Rat} (h : ShQs C H ps ws) (s : Same H H') : ShQs C H' ps ws := All2.mono h fun _ _ _ _ r => r.mono s
/-- what is small enough to be added: all bottoms go into M -/
structure Tots (ws : List Rat) (M : Nat) : Prop where
  pos : 0 < M
  lt : M < 2 ^ 2000
  den : ∀ q ∈ ws, q.den ∣ M
  num : ∀ q ∈ ws, q.num.natAbs < 2 ^ 1500
  few : ws.length ≤ 100
def lcmQ (ws : List Rat) : Nat := ws.foldl (fun m q => Nat.lcm m q.den) 1
theorem lcmQ_next {ws : List Rat} {i : Nat} {q : Rat} (h : ws[i]? = some q) : lcmQ (ws.take (i + 1)) = Nat.lcm (lcmQ (ws.take i)) q.den := by
  obtain ⟨hi, e⟩ := List.getElem?_eq_some_iff.mp h
  unfold lcmQ
  rw [List.take_succ_eq_append_getElem hi, List.foldl_append, e]
  rfl
theorem lcmQ_dvd {ws : List Rat} {M : Nat} (h : Tots ws M) : ∀ i, i ≤ ws.length → lcmQ (ws.take i) ∣ M
  | 0, _ => by
    rw [List.take_zero]
    exact Nat.one_dvd _
  | i + 1, hi => by
    have hx : ws[i]? = some ws[i] := List.getElem?_eq_getElem (by omega)
    rw [lcmQ_next hx]
    exact Nat.lcm_dvd (lcmQ_dvd h i (by omega)) (h.den _ (List.getElem_mem _))
theorem lcmQ_all {ws : List Rat} : ∀ i, i ≤ ws.length → ∀ q ∈ ws.take i, q.den ∣ lcmQ (ws.take i)
  | 0, _, q, hq => by simp at hq
  | i + 1, hi, q, hq => by
    have hx : ws[i]? = some ws[i] := List.getElem?_eq_getElem (by omega)
    rw [lcmQ_next hx]
    rw [List.take_succ_eq_append_getElem (by omega)] at hq
    rcases List.mem_append.mp hq with z | z
    · exact Nat.dvd_trans (lcmQ_all i (by omega) q z) (Nat.dvd_lcm_left _ _)
    · rw [List.mem_singleton.mp z]
      exact Nat.dvd_lcm_right _ _
theorem lcmQ_lt {ws : List Rat} {M : Nat} (h : Tots ws M) {i : Nat} (hi : i ≤ ws.length) : 0 < lcmQ (ws.take i) ∧ lcmQ (ws.take i) < 2 ^ 2000 := by
  have d := lcmQ_dvd h i hi
  exact ⟨Nat.pos_of_dvd_of_pos d h.pos, Nat.lt_of_le_of_lt (Nat.le_of_dvd h.pos d) h.lt⟩
/-- by a common bottom -/
def numS (ws : List Rat) (D : Nat) : Int := (ws.map fun q => q.num * ((D : Int) / (q.den : Int))).sum
theorem numS_is {D : Nat} (hD : 0 < D) : ∀ ws : List Rat, (∀ q ∈ ws, q.den ∣ D) → ((numS ws D : Int) : Rat) / ((D : Int) : Rat) = ws.sum
  | [], _ => by
    show ((0 : Int) : Rat) / _ = (0 : Rat)
    rw [show ((0 : Int) : Rat) = 0 from rfl]
    grind
  | q :: r, h => by
    have ih := numS_is hD r (fun x hx => h x (by simp [hx]))
    obtain ⟨k, hk⟩ := h q (by simp)
    have hd := den_pos q
    have nd := icast_ne (show ((q.den : Nat) : Int) ≠ 0 by omega)
    have nD := icast_ne (show ((D : Nat) : Int) ≠ 0 by omega)
    have fr := rat_frac q
    have e : ((D : Int) / (q.den : Int)) = (k : Int) := by
      rw [hk, Int.natCast_mul, Int.mul_ediv_cancel_left _ (by omega)]
    have eD : ((D : Int) : Rat) = ((q.den : Int) : Rat) * ((k : Int) : Rat) := by rw [← Rat.intCast_mul, ← Int.natCast_mul, ← hk]
    show (((q.num * ((D : Int) / (q.den : Int)) + numS r D : Int)) : Rat) / ((D : Int) : Rat) = q + r.sum
    rw [e, Rat.intCast_add, Rat.intCast_mul, ← ih]
    generalize hq : (q.num : Rat) = a at *
    generalize ((q.den : Int) : Rat) = b at *
    generalize ((k : Int) : Rat) = c at *
    generalize ((numS r D : Int) : Rat) = s at *
    rw [eD] at nD ⊢
    rw [← fr]
    grind
theorem numS_lt {ws : List Rat} {M : Nat} (h : Tots ws M) {D : Nat} (hD : D < 2 ^ 2000) : (numS ws D).natAbs < 2 ^ 4000 := by
  have a := sum_le (ws.map fun q => q.num * ((D : Int) / (q.den : Int))) (2 ^ 3500) (fun y hy => by
    obtain ⟨q, hq, rfl⟩ := List.mem_map.mp hy
    have t := h.num q hq
    have d := den_pos q
    have e : ((D : Int) / (q.den : Int)).natAbs ≤ D := by
      have q0 : 0 ≤ (D : Int) / (q.den : Int) := Int.ediv_nonneg (by omega) (by omega)
      have q1 : (D : Int) / (q.den : Int) ≤ (D : Int) := Int.ediv_le_self _ (by omega)
      omega
    rw [Int.natAbs_mul, show (2 : Nat) ^ 3500 = 2 ^ 1500 * 2 ^ 2000 from by rw [← Nat.pow_add]]
    exact Nat.mul_le_mul (Nat.le_of_lt t) (Nat.le_trans e (Nat.le_of_lt hD)))
  rw [List.length_map] at a
  have c : ws.length * 2 ^ 3500 ≤ 2 ^ 7 * 2 ^ 3500 := Nat.mul_le_mul_right _ (Nat.le_trans h.few (by decide))
  rw [← Nat.pow_add] at c
  exact Nat.lt_of_le_of_lt (Nat.le_trans a c) (Nat.pow_lt_pow_right (by decide) (by decide))
def spTotalQ (K : PySem.W.Frag) (C : Addr) : Sp := fun vs H Q _ => ∃ (a : Addr) (ps : List Addr) (ws : List Rat) (M : Nat), vs = [.ref a] ∧ SqL K H a (ps.map V.ref) ∧ ShQs C H ps ws ∧ Tots ws M ∧
  ∀ (H' : Hp) (p : Addr), Same H H' → ShQ C H' p ws.sum → Q (.ref p) H'
section
variable {P : Program} {w : World} {K : PySem.W.Frag} {mg : Str → Option Value} {base : Heap}
abbrev totalQN : List Str := ["shares", "bottom", "share"]
theorem scTotalQ : FnScope totalQN ["shares"] (defScope d_total) := ⟨rfl, rfl, rfl, by decide +kernel, rfl, by decide +kernel, by decide +kernel⟩
theorem ok_totalQ {f fI C CN : Addr} {fd fdI : FuncData} (F : Fun K "total" "total" d_total f fd) (T : Txt K mg C CN) (hlen : mg "len" = none) (hsum : mg "sum" = none) (hlcm : mg "lcm" = some (.builtin "math.lcm"))
    (M : Mk K C fI) (GI : FnOk P w K mg base (L2.CX P w) 2 fI fdI ["self", "top", "bottom"] (spInit C CN)) (bI : Binds K fdI ["self", "top", "bottom"] []) :
    FnOk P w K mg base CX0 4 f fd ["shares"] (spTotalQ K C) := by
  refine F.ok scTotalQ (fun vs H Q E h => ?_) (fun cdv A outer s H vs Q E hr h => ?_)
  · obtain ⟨a, _, _, _, rfl, _⟩ := h
    rfl
  · obtain ⟨a, ps, ws, m, rfl, ha, hw, sm, kq⟩ := h
    refine ⟨_, pss_cons (ps_if (pt_cmpR op_eq (pe_callB call_len_seq (by rfl) hlen PySem.boot_len (pa_cons (pv 0) pa_nil)) pe_int (nomark _)) (pss_one (ps_ret (pe_ix ix_seq (pv 0) pe_int (fun _ _ => rfl)))) pss_nil)
      (pss_cons (ps_set (i := 1) scTotalQ.nd rfl (Or.inr rfl) pe_int)
      (pss_cons (ps_for PassesOwn.never rfl (pi_list (pv 0)) (pg_name (i := 2) scTotalQ.nd rfl (.inl rfl)) (pss_one (ps_set (i := 1) scTotalQ.nd rfl (Or.inr rfl) (pe_callBfun cr_lcmW rfl hlcm (pa_cons (pv 1) (pa_cons (pe_fld (pv 2) rfl) pa_nil))))))
      (pss_one (ps_ret (pe_make M GI hr rfl T.mgC bI .nil passL (pa_cons (pe_callB (cr_sum rfl) (by rfl) hsum (by decide +kernel) (pa_cons
          (pe_lc (own := [("share", 2)]) (g := gName 2) (te := tOp (rI CMulW fun i j => .int (i * j)) (tFld K (tVar 2) "top") (tOp (rI CDivW fun i j => .int (i / j)) (tVar 1) (tFld K (tVar 2) "bottom"))) (by rfl) scTotalQ.nd (pi_list (pv 0)) (blkOk_by (own := [("share", 2)]) (N := totalQN) (sc := defScope d_total) (by decide +kernel)) (fun _ _ _ _ _ => pg_name (i := 2) scTotalQ.nd rfl (.inl rfl)) (fun _ _ _ _ _ => pts_nil)
            (fun _ _ _ _ _ => pe_op op_mulW (pe_fld (pv 2) rfl) (pe_op op_fdivW (pv 1) (pe_fld (pv 2) rfl)))) pa_nil)) (pa_cons (pv 1) pa_nil))))))), ?_⟩
    have lp : (ps.map V.ref).length = ws.length := by rw [List.length_map]; exact hw.len
    have dl : ∀ q ∈ ws, q.den < 2 ^ 2000 := fun q hq => Nat.lt_of_le_of_lt (Nat.le_of_dvd sm.pos (sm.den q hq)) sm.lt
    refine ⟨_, rfl, a, _, rfl, .inl ha, rfl, _, rfl, ?_⟩
    rw [lp]
    refine ite2 (fun h => ?_) (fun h => ?_)
    · have h : ws.length = 1 := by
        have h := of_decide_eq_true h
        injection h with h
        omega
      obtain ⟨x, rfl⟩ : ∃ x, ws = [x] := List.length_eq_one_iff.mp h
      obtain ⟨p, rfl⟩ : ∃ p, ps = [p] := List.length_eq_one_iff.mp hw.len
      have hs := hw.all 0 p x rfl rfl
      refine ⟨_, rfl, .inl ⟨a, _, _, _, rfl, rfl, ha, at_k (by decide) rfl, kq H p (Same.refl H) ?_⟩⟩
      rw [show [x].sum = x from by simp [List.sum_cons]; exact Rat.add_zero x]
      exact hs
    · refine ⟨_, rfl, a, rfl, ⟨_, ha⟩, ?_⟩
      refine for_list (K := K) (a := a) (xs := ps.map V.ref) (fun i σ G => (∃ v2, σ = [some (.ref a), some (.int (lcmQ (ws.take i) : Nat)), v2]) ∧ G = H) ⟨⟨none, rfl⟩, rfl⟩ ?_ ?_ ?_
      · rintro i σ G _ ⟨_, rfl⟩
        exact ha
      · rintro i x σ G hx ⟨⟨v2, rfl⟩, rfl⟩
        rw [List.getElem?_map] at hx
        obtain ⟨p, hp, rfl⟩ := Option.map_eq_some_iff.mp hx
        have il : i < ws.length := by
          have := (List.getElem?_eq_some_iff.mp hp).1
          have := hw.len
          omega
        have hy : ws[i]? = some ws[i] := List.getElem?_eq_getElem il
        obtain ⟨dx, e⟩ := hw.all i p _ hp hy
        have l1 := lcmQ_lt sm (i := i) (by omega)
        have d2 := dl _ (List.getElem_mem il)
        refine ⟨_, rfl, _, rfl, p, C, dx, _, _, rfl, e, T.cl, T.nB, shf_bottom .., _, _, rfl, Nat.lt_trans (by rw [Int.natAbs_natCast]; exact l1.2) (Nat.pow_lt_pow_right (by decide) (by decide)), Nat.lt_trans (by rw [Int.natAbs_natCast]; exact d2) (Nat.pow_lt_pow_right (by decide) (by decide)), ?_⟩
        refine ⟨⟨some (.ref p), ?_⟩, rfl⟩
        rw [lcmQ_next hy, Int.natAbs_natCast, Int.natAbs_natCast]
        rfl
      · rintro σ G ⟨⟨v2, rfl⟩, rfl⟩
        rw [lp, List.take_length]
        have l1 := lcmQ_lt sm (i := ws.length) (Nat.le_refl _)
        have la := lcmQ_all (ws := ws) ws.length (Nat.le_refl _)
        rw [List.take_length] at l1 la
        refine ⟨_, rfl, a, rfl, ⟨_, ha⟩, fun D hD => ?_⟩
        refine lc_list (K := K) (a := a) (xs := ps.map V.ref) (fun i N => N D = some (.lst (((ws.take i).map fun q => q.num * ((lcmQ ws : Nat) / (q.den : Int) : Int)).map V.int)) ∧ Same G N) ⟨upd_same, same1 hD⟩ ?_ ?_ ?_
        · rintro i N _ ⟨_, sN⟩
          exact sN.seq ha
        · rintro i x N hx ⟨eN, sN⟩
          rw [List.getElem?_map] at hx
          obtain ⟨p, hp, rfl⟩ := Option.map_eq_some_iff.mp hx
          have il : i < ws.length := by
            have := (List.getElem?_eq_some_iff.mp hp).1
            have := hw.len
            omega
          have hy : ws[i]? = some ws[i] := List.getElem?_eq_getElem il
          obtain ⟨dx, e⟩ := (hw.mono sN).all i p _ hp hy
          have hm := List.getElem_mem il
          have d2 := dl _ hm
          have tn := sm.num _ hm
          have d0 := den_pos ws[i]
          have q0 : 0 ≤ ((lcmQ ws : Nat) : Int) / (ws[i].den : Int) := Int.ediv_nonneg (by omega) (by omega)
          have q1 : ((lcmQ ws : Nat) : Int) / (ws[i].den : Int) ≤ ((lcmQ ws : Nat) : Int) := Int.ediv_le_self _ (by omega)
          have q2 : (((lcmQ ws : Nat) : Int) / (ws[i].den : Int)).natAbs < 2 ^ 2000 := Nat.lt_of_le_of_lt (by omega) l1.2
          refine ⟨rfl, ?_⟩
          refine ⟨_, rfl, p, C, dx, _, _, rfl, e, T.cl, T.nT, shf_top .., _, rfl, _, rfl, p, C, dx, _, _, rfl, e, T.cl, T.nB, shf_bottom .., _, _, rfl, rfl, wide_div (b := 2000) d0 (by rw [Int.natAbs_natCast]; exact d2) (by decide) (by decide), _, _, rfl, rfl, wide_mul tn q2 (by decide) (by decide) (by decide), _, eN, (by rw [List.length_map, List.length_map, List.length_take]; exact Nat.lt_of_le_of_lt (Nat.min_le_left _ _) (Nat.lt_of_lt_of_le il (Nat.le_trans sm.few (show 100 ≤ sizeLine by decide)))), ?_, fun b o eb => ?_⟩
          · rw [List.take_succ_eq_append_getElem il, List.map_append, List.map_append, upd_same]
            rfl
          · rw [upd_ne (ne_of_none eb hD)]
            exact sN _ _ eb
        · rintro N ⟨eN, sN⟩
          rw [lp, List.take_length] at eN
          refine ⟨D, _, rfl, SqL.of eN, _, rfl, ?_⟩
          intro p dp np ndp nex
          have nb : ((lcmQ ws : Nat) : Int) ≠ 0 := by have := l1.1; omega
          refine ⟨p, dp, _, _, rfl, upd_same, numS_lt sm l1.2, Nat.lt_trans (by rw [Int.natAbs_natCast]; exact l1.2) (Nat.pow_lt_pow_right (by decide) (by decide)), fun z => absurd z nb, fun _ H' e ka => ⟨rfl, ?_⟩⟩
          refine kq H' p (sN.trans (made_same (C := C) np ndp ka)) ?_
          rw [← numS_is l1.1 ws la]
          exact shq_low nb ⟨dp, e⟩
end
end K64

namespace K64
open PySem PySem.Spec PyProof.Rows L2
/-! ### times -/
/-- a new share out of two -/
def spTwoQ (C : Addr) (f : Rat → Rat → Rat) : Sp := fun vs H Q _ => ∃ (x y : Addr) (p q : Rat), vs = [.ref x, .ref y] ∧ ShQ C H x p ∧ ShQ C H y q ∧ Sz 1500 p ∧ Sz 1500 q ∧ ∀ (H' : Hp) (r : Addr), Same H H' → H r = none → ShQ C H' r (f p q) → Q (.ref r) H'
section
variable {P : Program} {w : World} {K : PySem.W.Frag} {mg : Str → Option Value} {base : Heap}
theorem scTimesQ : FnScope ["one", "other"] ["one", "other"] (defScope d_times) := ⟨rfl, rfl, rfl, by decide +kernel, rfl, by decide +kernel, by decide +kernel⟩
theorem ok_timesQ {f fI C CN : Addr} {fd fdI : FuncData} (F : Fun K "times" "times" d_times f fd) (T : Txt K mg C CN) (M : Mk K C fI) (GI : FnOk P w K mg base (L2.CX P w) 2 fI fdI ["self", "top", "bottom"] (spInit C CN)) (bI : Binds K fdI ["self", "top", "bottom"] []) :
    FnOk P w K mg base CX0 4 f fd ["one", "other"] (spTwoQ C fun p q => p * q) := by
  refine F.ok scTimesQ (fun vs H Q E h => ?_) (fun cdv A outer s H vs Q E hr h => ?_)
  · obtain ⟨x, y, p, q, rfl, _⟩ := h
    rfl
  · obtain ⟨x, y, p, q, rfl, ⟨dx, hx⟩, ⟨dy, hy⟩, s1, s2, k⟩ := h
    refine ⟨_, pss_one (ps_ret (pe_make M GI hr rfl T.mgC bI .nil passL (pa_cons (pe_op op_mulW (pe_fld (pv 0) rfl) (pe_fld (pv 1) rfl)) (pa_cons (pe_op op_mulW (pe_fld (pv 0) rfl) (pe_fld (pv 1) rfl)) pa_nil)))), ?_⟩
    refine ⟨_, rfl, x, C, dx, _, _, rfl, hx, T.cl, T.nT, shf_top .., _, rfl, y, C, dy, _, _, rfl, hy, T.cl, T.nT, shf_top .., _, _, rfl, rfl, wide_mul s1.1 s2.1 (by decide) (by decide) (by decide), ?_⟩
    refine ⟨_, rfl, x, C, dx, _, _, rfl, hx, T.cl, T.nB, shf_bottom .., _, rfl, y, C, dy, _, _, rfl, hy, T.cl, T.nB, shf_bottom .., _, _, rfl, rfl, wide_mul s1.2 s2.2 (by decide) (by decide) (by decide), ?_⟩
    intro r dr np ndp nex
    have nz : (p.den : Int) * (q.den : Int) ≠ 0 := Int.mul_ne_zero (by have := den_pos p; omega) (by have := den_pos q; omega)
    refine ⟨r, dr, _, _, rfl, upd_same, pow_le (mul_lt s1.1 s2.1) (by decide), pow_le (mul_lt s1.2 s2.2) (by decide), fun z => absurd z nz, fun _ H' e ka => ⟨rfl, ?_⟩⟩
    refine k H' r (made_same (C := C) np ndp ka) np ?_
    show ShQ C H' r (p * q)
    rw [← rat_mul]
    exact shq_low nz ⟨dr, e⟩
end
end K64

namespace K64
open PySem PySem.Spec PyProof.Rows L2
/-! ### less -/
def spLessQ (C : Addr) : Sp := fun vs H Q _ => ∃ (x y : Addr) (p q : Rat), vs = [.ref x, .ref y] ∧ ShQ C H x p ∧ ShQ C H y q ∧ Sz 1500 p ∧ Sz 1500 q ∧ Q (.bl (decide (p < q))) H
section
variable {P : Program} {w : World} {K : PySem.W.Frag} {mg : Str → Option Value} {base : Heap}
theorem scLessQ : FnScope ["one", "other"] ["one", "other"] (defScope d_less) := ⟨rfl, rfl, rfl, by decide +kernel, rfl, by decide +kernel, by decide +kernel⟩
theorem ok_lessQ {f C CN : Addr} {fd : FuncData} (F : Fun K "less" "less" d_less f fd) (T : Txt K mg C CN) : FnOk P w K mg base CX0 1 f fd ["one", "other"] (spLessQ C) := by
  refine F.ok scLessQ (fun vs H Q E h => ?_) (fun cdv A outer s H vs Q E hr h => ?_)
  · obtain ⟨x, y, p, q, rfl, _⟩ := h
    rfl
  · obtain ⟨x, y, p, q, rfl, ⟨dx, hx⟩, ⟨dy, hy⟩, s1, s2, k⟩ := h
    refine ⟨_, pss_one (ps_ret (pe_cmpR op_lt (pe_op op_mulW (pe_fld (pv 0) rfl) (pe_fld (pv 1) rfl)) (pe_op op_mulW (pe_fld (pv 1) rfl) (pe_fld (pv 0) rfl)) (nomark _))), ?_⟩
    refine ⟨_, rfl, x, C, dx, _, _, rfl, hx, T.cl, T.nT, shf_top .., _, rfl, y, C, dy, _, _, rfl, hy, T.cl, T.nB, shf_bottom .., _, _, rfl, rfl, wide_mul s1.1 s2.2 (by decide) (by decide) (by decide), ?_⟩
    refine ⟨_, rfl, y, C, dy, _, _, rfl, hy, T.cl, T.nT, shf_top .., _, rfl, x, C, dx, _, _, rfl, hx, T.cl, T.nB, shf_bottom .., _, _, rfl, rfl, wide_mul s2.1 s1.2 (by decide) (by decide) (by decide), _, _, rfl, rfl, ?_⟩
    show Q (.bl (decide (p.num * (q.den : Int) < q.num * (p.den : Int)))) H
    rw [rat_lt]
    exact k
end
end K64

namespace K64
open PySem PySem.Spec PyProof.Rows L2
theorem ty_tup {K : PySem.W.Frag} {H : Hp} {a : Addr} {xs : List V} (h : SqT K H a xs) : TyX K H (.ref a) (.type "tuple") := by
  rcases h with (h | ⟨o, h⟩) | ⟨o, its, n, hk, hc, _⟩
  · exact .base (.tup h)
  · exact .fTuple h
  · exact .kTuple hk hc
theorem ty_lst {K : PySem.W.Frag} {H : Hp} {a : Addr} {xs : List V} (h : SqL K H a xs) : TyX K H (.ref a) (.type "list") := by
  rcases h with (h | ⟨o, h⟩) | ⟨o, its, n, hk, hc, _⟩
  · exact .base (.lst h)
  · exact .base (.frz h)
  · exact .kList hk hc
end K64

namespace K64
open PySem PySem.Spec PyProof.Rows L2
/-! ### webs -/
structure Bed where
  s : Nat
  e : Nat
  lo : Rat
  hi : Rat
structure WebV where
  many : Nat
  beds : List Bed
  parts : List (List Nat)
def starts (W : WebV) : List Nat := W.beds.map Bed.s
structure GoodBed (many : Nat) (b : Bed) : Prop where
  up : b.s < b.e
  le : b.e < many
  lt : b.lo < b.hi
  slo : Sz 1500 b.lo
  shi : Sz 1500 b.hi
/-- parts of a place at which n beds begin -/
structure GoodParts (n : Nat) (ps : List Nat) : Prop where
  len : ps.length = n
  le : ∀ p ∈ ps, p ≤ 9
  few : ps.length ≤ 12
  some_ : n = 0 ∨ ∃ p ∈ ps, p ≠ 0
structure GoodWeb (W : WebV) : Prop where
  m1 : 1 ≤ W.many
  m8 : W.many ≤ 8
  few : W.beds.length ≤ 12
  bed : ∀ b ∈ W.beds, GoodBed W.many b
  sorted : (starts W).Pairwise (· ≤ ·)
  two : ∀ s, (starts W).count s ≤ 2
  plen : W.parts.length = W.many
  part : ∀ (i : Nat) (ps : List Nat), W.parts[i]? = some ps → GoodParts ((starts W).count i) ps
def BedAt (K : PySem.W.Frag) (C : Addr) (H : Hp) (t : Addr) (b : Bed) : Prop := ∃ x y, SqT K H t [.int (b.s : Int), .int (b.e : Int), .ref x, .ref y] ∧ ShQ C H x b.lo ∧ ShQ C H y b.hi
theorem BedAt.mono {K : PySem.W.Frag} {C : Addr} {H H' : Hp} {t : Addr} {b : Bed} (h : BedAt K C H t b) (s : Same H H') : BedAt K C H' t b := by
  obtain ⟨x, y, a, u, v⟩ := h
  exact ⟨x, y, Same.tup s a, u.mono s, v.mono s⟩
def natV (n : Nat) : V := .int (n : Int)
def PartsAt (K : PySem.W.Frag) (H : Hp) (t : Addr) (ps : List Nat) : Prop := SqT K H t (ps.map natV)
/-- the builtins that a web's program asks -/
structure TxtW (mg : Str → Option Value) (C : Addr) : Prop where
  isi : mg "isinstance" = none
  tuple : mg "tuple" = none
  list : mg "list" = none
  len : mg "len" = none
  all : mg "all" = none
  any : mg "any" = none
  sorted : mg "sorted" = none
  enumerate : mg "enumerate" = none
  sh : mg "Share" = some (.ref C)
def spBetweenI : Sp := fun vs H Q _ => ∃ i a b : Int, vs = [.int i, .int a, .int b] ∧ Q (.bl (decide (a ≤ i) && decide (i ≤ b))) H
def spBedG (K : PySem.W.Frag) (C : Addr) : Sp := fun vs H Q _ => ∃ (t : Addr) (many : Nat) (b : Bed), vs = [.ref t, .int (many : Int)] ∧ BedAt K C H t b ∧ GoodBed many b ∧ Q (.bl true) H
section
variable {P : Program} {w : World} {K : PySem.W.Frag} {mg : Str → Option Value} {base : Heap}
theorem scBetweenI : FnScope ["thing", "least", "most"] ["thing", "least", "most"] (defScope d_is_between) := ⟨rfl, rfl, rfl, by decide +kernel, rfl, by decide +kernel, by decide +kernel⟩
theorem ok_betweenI {f f1 : Addr} {fd fd1 : FuncData} (F : Fun K "is_between" "is_between" d_is_between f fd) (A1 : At P w K mg base CX0 1 "is_whole" ["thing"] spWhole f1 fd1) :
    FnOk P w K mg base CX0 2 f fd ["thing", "least", "most"] spBetweenI := by
  refine F.ok scBetweenI (fun vs H Q E h => ?_) (fun cdv A outer s H vs Q E hr h => ?_)
  · obtain ⟨_, _, _, rfl, _⟩ := h
    rfl
  · obtain ⟨i, a, b, rfl, q⟩ := h
    refine ⟨_, pss_one (ps_ret (pe_and (pe_call A1.G hr rfl A1.m A1.k A1.b .nil pass0 (pa_cons (pv 0) pa_nil)) (pe_one (pe_chain op_le op_le (pv 1) (pv 0) (pv 2))))), ?_⟩
    refine ⟨_, rfl, i, rfl, true, rfl, iteT ⟨_, rfl, _, rfl, _, _, rfl, rfl, _, rfl, ?_⟩⟩
    refine ite2 (fun h => ?_) (fun h => ?_)
    · refine ⟨_, rfl, _, _, rfl, rfl, ?_⟩
      rw [h] at q
      exact q
    · rw [show decide (a ≤ i) = false from by simpa using h] at q
      exact q
theorem scBedG : FnScope ["thing", "many", "start", "finish", "low", "high"] ["thing", "many"] (defScope d_is_a_bed) := ⟨rfl, rfl, rfl, by decide +kernel, rfl, by decide +kernel, by decide +kernel⟩
theorem ok_bedG {f f1 f2 C CN : Addr} {fd fd1 fd2 : FuncData} (F : Fun K "is_a_bed" "is_a_bed" d_is_a_bed f fd) (T : Txt K mg C CN) (Y : TxtW mg C) (IsSh : ∀ H p q, ShQ C H p q → TyX K H (.ref p) (.ref C)) (me : PySem.W.kitOne K (.ref C) (.ref C) = some true)
    (A1 : At P w K mg base CX0 2 "is_between" ["thing", "least", "most"] spBetweenI f1 fd1) (A2 : At P w K mg base CX0 1 "less" ["one", "other"] (spLessQ C) f2 fd2) :
    FnOk P w K mg base CX0 3 f fd ["thing", "many"] (spBedG K C) := by
  refine F.ok scBedG (fun vs H Q E h => ?_) (fun cdv A outer s H vs Q E hr h => ?_)
  · obtain ⟨_, _, _, rfl, _⟩ := h
    rfl
  · obtain ⟨t, many, b, rfl, ⟨x, y, ht, hx, hy⟩, g, q⟩ := h
    have r1 : Room 1 _ := hr.mono (by decide)
    refine ⟨_, pss_cons (ps_if (PW.pt (pw_or (pt_not (pt_val (pe_callB call_isi (by rfl) Y.isi (by decide +kernel) (pa_cons (pv 0) (pa_cons (pe_bltn (v := .ty "tuple") (by rfl) Y.tuple (by decide +kernel) rfl) pa_nil)))))
          (pw_or1 (pt_cmpR op_ne (pe_callB call_len_seq (by rfl) Y.len PySem.boot_len (pa_cons (pv 0) pa_nil)) pe_int (nomark _))))) (pss_one (ps_ret pe_bl)) pss_nil)
      (pss_cons (ps_asg (pv 0) (pg_tup (by rfl) (pgs_cons (pg_name (i := 2) scBedG.nd rfl (.inl rfl)) (pgs_cons (pg_name (i := 3) scBedG.nd rfl (.inl rfl)) (pgs_cons (pg_name (i := 4) scBedG.nd rfl (.inl rfl)) (pgs_cons (pg_name (i := 5) scBedG.nd rfl (.inl rfl)) pgs_nil))))))
      (pss_cons (ps_if (PW.pt (pw_or (pt_not (pt_val (pe_call A1.G hr rfl A1.m A1.k A1.b .nil pass0 (pa_cons (pv 2) (pa_cons pe_int (pa_cons (pe_op op_sub (pv 1) pe_int) pa_nil))))))
          (pw_or1 (pt_not (pt_val (pe_call A1.G hr rfl A1.m A1.k A1.b .nil pass0 (pa_cons (pv 3) (pa_cons (pe_op op_add (pv 2) pe_int) (pa_cons (pe_op op_sub (pv 1) pe_int) pa_nil))))))))) (pss_one (ps_ret pe_bl)) pss_nil)
      (pss_one (ps_ret (pe_and (pe_callB call_isi (by rfl) Y.isi (by decide +kernel) (pa_cons (pv 4) (pa_cons (pe_glob (v := .ref C) rfl Y.sh rfl) pa_nil))) (pe_and (pe_callB call_isi (by rfl) Y.isi (by decide +kernel) (pa_cons (pv 5) (pa_cons (pe_glob (v := .ref C) rfl Y.sh rfl) pa_nil)))
        (pe_one (pe_call A2.G r1 rfl A2.m A2.k A2.b .nil pass0 (pa_cons (pv 4) (pa_cons (pv 5) pa_nil)))))))))), ?_⟩
    have g1 := g.up
    have g2 := g.le
    refine ⟨_, rfl, _, _, _, _, true, rfl, ClsV.ty _, ty_tup ht, kit_ty (by decide +kernel), true, rfl, iteF ?_⟩
    refine ⟨_, rfl, t, _, rfl, .inr ht, rfl, _, rfl, iteF ?_⟩
    refine ⟨_, rfl, t, _, rfl, ht, rfl, _, _, rfl, _, _, rfl, _, _, rfl, _, _, rfl, rfl, ?_⟩
    refine ⟨_, rfl, _, rfl, _, _, rfl, rfl, _, _, _, rfl, _, rfl, ?_⟩
    rw [decide_eq_true (show (0 : Int) ≤ (b.s : Int) by omega), decide_eq_true (show (b.s : Int) ≤ (many : Int) - 1 by omega)]
    refine iteF ?_
    refine ⟨_, rfl, _, rfl, _, _, rfl, rfl, _, rfl, _, _, rfl, rfl, _, _, _, rfl, _, rfl, ?_⟩
    rw [decide_eq_true (show (b.s : Int) + 1 ≤ (b.e : Int) by omega), decide_eq_true (show (b.e : Int) ≤ (many : Int) - 1 by omega)]
    refine iteF ?_
    refine ⟨_, rfl, _, _, _, _, true, rfl, ClsV.own C, IsSh _ _ _ hx, me, true, rfl, iteT ?_⟩
    refine ⟨_, rfl, _, _, _, _, true, rfl, ClsV.own C, IsSh _ _ _ hy, me, true, rfl, iteT ?_⟩
    refine ⟨_, rfl, _, rfl, x, y, _, _, rfl, hx, hy, g.slo, g.shi, ?_⟩
    rw [decide_eq_true g.lt]
    exact q
end
end K64

namespace K64
open PySem PySem.Spec PyProof.Rows L2
def WBeds (K : PySem.W.Frag) (C : Addr) (H : Hp) (l : Addr) (bs : List Bed) : Prop := ∃ ts : List Addr, SqL K H l (ts.map V.ref) ∧ All2 (BedAt K C H) ts bs
theorem WBeds.mono {K : PySem.W.Frag} {C : Addr} {H H' : Hp} {l : Addr} {bs : List Bed} (h : WBeds K C H l bs) (s : Same H H') : WBeds K C H' l bs := by
  obtain ⟨ts, a, b⟩ := h
  exact ⟨ts, s.seq a, b.mono fun _ _ _ _ r => r.mono s⟩
def WParts (K : PySem.W.Frag) (H : Hp) (l : Addr) (pss : List (List Nat)) : Prop := ∃ ts : List Addr, SqL K H l (ts.map V.ref) ∧ All2 (PartsAt K H) ts pss
theorem WParts.mono {K : PySem.W.Frag} {H H' : Hp} {l : Addr} {pss : List (List Nat)} (h : WParts K H l pss) (s : Same H H') : WParts K H' l pss := by
  obtain ⟨ts, a, b⟩ := h
  exact ⟨ts, s.seq a, b.mono fun _ _ _ _ r => Same.tup s r⟩
structure GoodBeds (many : Nat) (bs : List Bed) : Prop where
  few : bs.length ≤ 12
  bed : ∀ b ∈ bs, GoodBed many b
  sorted : (bs.map Bed.s).Pairwise (· ≤ ·)
  two : ∀ s, (bs.map Bed.s).count s ≤ 2
def intsOf (bs : List Bed) : List Int := bs.map fun b => (b.s : Int)
theorem intsOf_map (bs : List Bed) : intsOf bs = (bs.map Bed.s).map fun n : Nat => (n : Int) := by
  unfold intsOf
  rw [List.map_map]
  rfl
theorem count_cast (ns : List Nat) (k : Nat) : (ns.map fun n : Nat => (n : Int)).count (k : Int) = ns.count k := by
  induction ns with
  | nil => rfl
  | cons a r ih =>
    rw [List.map_cons, List.count_cons, List.count_cons, ih]
    have e : ((a : Int) == (k : Int)) = (a == k) := by
      by_cases h : a = k
      · subst h
        simp
      · rw [beq_eq_false_iff_ne.mpr h, beq_eq_false_iff_ne.mpr (by omega)]
    rw [e]
theorem sorted_cast {ns : List Nat} (h : ns.Pairwise (· ≤ ·)) : (ns.map fun n : Nat => (n : Int)).Pairwise (· ≤ ·) := by
  rw [List.pairwise_map]
  exact h.imp fun h => by omega
theorem dps_ints {K : PySem.W.Frag} {H : Hp} : ∀ ns : List Int, DpAll K H (ns.map V.int) (ns.map PyData.int)
  | [] => .nil
  | n :: r => .cons (.int n) (dps_ints r)
theorem eqv_ints (ns : List Int) : PyData.eqv (.list (ns.map PyData.int)) (.list (ns.map PyData.int)) = true := by
  refine SeqAt.eqv_refl _ ?_
  have h := PySem.W.shaped_ints ns
  unfold SeqAt.shaped at h
  rw [Bool.and_eq_true] at h
  exact h.1
theorem all_true (n : Nat) : (List.replicate n true).all id = true := by simp
def spBedsG (K : PySem.W.Frag) (C : Addr) : Sp := fun vs H Q _ => ∃ (l : Addr) (many : Nat) (bs : List Bed), vs = [.ref l, .int (many : Int)] ∧ WBeds K C H l bs ∧ GoodBeds many bs ∧ ∀ H', Same H H' → Q (.bl true) H'
def spPart1G (K : PySem.W.Frag) : Sp := fun vs H Q _ => ∃ (t : Addr) (n : Nat) (ps : List Nat), vs = [.ref t, .int (n : Int)] ∧ PartsAt K H t ps ∧ GoodParts n ps ∧ ∀ H', Same H H' → Q (.bl true) H'
theorem isShT {K : PySem.W.Frag} {mg : Str → Option Value} {C CN : Addr} (T : Txt K mg C CN) (ha : PySem.W.findIn K (.ref C) "__class__" = some (some (.builtin "object.__class__"))) (hn : PySem.W.specialIn K (.builtin "object.__class__") "__get__" = some (some (.builtin "getset_descriptor.__get__")))
    (htk : PySem.W.takesIn K (.builtin "object.__class__") = some true) (hm : PySem.W.mroIn K C (.type "object") = some true) : ∀ H p q, ShQ C H p q → TyX K H (.ref p) (.ref C) := fun H p q ⟨dx, e⟩ => .base (.ins e T.cl ha hn htk hm)
section
variable {P : Program} {w : World} {K : PySem.W.Frag} {mg : Str → Option Value} {base : Heap}
abbrev bedsN : List Str := ["things", "many", "thing", "starts", "bed", "start"]
theorem scBedsG : FnScope bedsN ["things", "many"] (defScope d_are_beds) := ⟨rfl, rfl, rfl, by decide +kernel, rfl, by decide +kernel, by decide +kernel⟩
theorem ok_bedsG {f f1 C : Addr} {fd fd1 : FuncData} {tk1 tk2 : Tok} (F : Fun K "are_beds" "are_beds" d_are_beds f fd) (Y : TxtW mg C) (g1 : mg "MOST_BEDS" = some (.int 12 tk1)) (g2 : mg "MOST_BEDS_OF_A_PLACE" = some (.int 2 tk2))
    (A1 : At P w K mg base CX0 3 "is_a_bed" ["thing", "many"] (spBedG K C) f1 fd1) : FnOk P w K mg base CX0 4 f fd ["things", "many"] (spBedsG K C) := by
  refine F.ok scBedsG (fun vs H Q E h => ?_) (fun cdv A outer s H vs Q E hr h => ?_)
  · obtain ⟨_, _, _, rfl, _⟩ := h
    rfl
  · obtain ⟨l, many, bs, rfl, ⟨ts, hl, hts⟩, g, q⟩ := h
    refine ⟨_, pss_cons (ps_if (PW.pt (pw_or (pt_not (pt_val (pe_callB call_isi (by rfl) Y.isi (by decide +kernel) (pa_cons (pv 0) (pa_cons (pe_bltn (v := .ty "list") (by rfl) Y.list (by decide +kernel) rfl) pa_nil)))))
          (pw_or1 (pt_cmpR op_gt (pe_callB call_len_seq (by rfl) Y.len PySem.boot_len (pa_cons (pv 0) pa_nil)) (pe_glob (v := .int 12) rfl g1 ⟨tk1, rfl⟩) (nomark _))))) (pss_one (ps_ret pe_bl)) pss_nil)
      (pss_cons (ps_if (pt_not (pt_val (pe_callB (cr_all rfl) (by rfl) Y.all (by decide +kernel) (pa_cons
        (pe_lc (own := [("thing", 2)]) (g := gName 2) (by rfl) scBedsG.nd (pi_list (pv 0)) (blkOk_by (own := [("thing", 2)]) (N := bedsN) (sc := defScope d_are_beds) (by decide +kernel)) (fun _ _ _ _ _ => pg_name (i := 2) scBedsG.nd rfl (.inl rfl)) (fun _ _ _ _ _ => pts_nil)
          (fun _ _ _ _ _ => pe_call A1.G hr rfl A1.m A1.k A1.b .nil pass0 (pa_cons (pv 2) (pa_cons (pv 1) pa_nil)))) pa_nil)))) (pss_one (ps_ret pe_bl)) pss_nil)
      (pss_cons (ps_set (i := 3) scBedsG.nd rfl (Or.inr rfl) (pe_lc (own := [("bed", 4)]) (g := gName 4) (by rfl) scBedsG.nd (pi_list (pv 0)) (blkOk_by (own := [("bed", 4)]) (N := bedsN) (sc := defScope d_are_beds) (by decide +kernel)) (fun _ _ _ _ _ => pg_name (i := 4) scBedsG.nd rfl (.inl rfl)) (fun _ _ _ _ _ => pts_nil)
          (fun _ _ _ _ _ => pe_ix (show IxR _ (rIxT K) from ix_tup) (pv 4) pe_int (fun _ _ => rfl))))
      (pss_one (ps_ret (pe_and (pe_cmpR (op_eqD hr.units) (pv 3) (pe_callB cr_sorted (by rfl) Y.sorted (by decide +kernel) (pa_cons (pv 3) pa_nil)) (nomark _))
        (pe_one (pe_callB (cr_all rfl) (by rfl) Y.all (by decide +kernel) (pa_cons
          (pe_lc (own := [("start", 5)]) (g := gName 5) (by rfl) scBedsG.nd (pi_list (pv 3)) (blkOk_by (own := [("start", 5)]) (N := bedsN) (sc := defScope d_are_beds) (by decide +kernel)) (fun _ _ _ _ _ => pg_name (i := 5) scBedsG.nd rfl (.inl rfl)) (fun _ _ _ _ _ => pts_nil)
            (fun _ _ _ _ _ => pe_cmpR op_le (show PE _ _ (tBM K "list" (rCntI K) (tVar 3) (tCons (tVar 5) tNil)) from pe_bm PySem.F.plainAttrs_list PySem.F.slot_list_count PySem.F.type_list_count mt_lcount (pv 3) (pa_cons (pv 5) pa_nil)) (pe_glob (v := .int 2) rfl g2 ⟨tk2, rfl⟩) (nomark _))) pa_nil)))))))), ?_⟩
    have few := g.few
    have lt : ts.length = bs.length := hts.len
    have lp : (ts.map V.ref).length = bs.length := by rw [List.length_map, lt]
    refine ⟨_, rfl, _, _, _, _, true, rfl, ClsV.ty _, ty_lst hl, kit_ty (by decide +kernel), true, rfl, iteF ?_⟩
    refine ⟨_, rfl, l, _, rfl, .inl hl, _, _, rfl, rfl, _, rfl, ?_⟩
    rw [lp, decide_eq_false (show ¬ (12 : Int) < (bs.length : Int) by omega)]
    refine iteF ?_
    refine ⟨_, rfl, l, rfl, ⟨_, hl⟩, fun D hD => ?_⟩
    refine lc_list (K := K) (a := l) (xs := ts.map V.ref) (fun i M => M D = some (.lst ((List.replicate i true).map V.bl)) ∧ Same H M) ⟨upd_same, same1 hD⟩ ?_ ?_ ?_
    · rintro i M _ ⟨_, sm⟩
      exact sm.seq hl
    · rintro i x M hx ⟨eD, sm⟩
      rw [List.getElem?_map] at hx
      obtain ⟨t, ht, rfl⟩ := Option.map_eq_some_iff.mp hx
      have il : i < bs.length := by
        have := (List.getElem?_eq_some_iff.mp ht).1
        omega
      have hb : bs[i]? = some bs[i] := List.getElem?_eq_getElem il
      refine ⟨rfl, ?_⟩
      refine ⟨_, rfl, _, rfl, t, many, bs[i], rfl, (hts.all i t _ ht hb).mono sm, g.bed _ (List.getElem_mem il), ?_⟩
      refine ⟨_, eD, (by rw [List.length_map, List.length_replicate]; exact Nat.lt_of_lt_of_le il (Nat.le_trans few (show 12 ≤ sizeLine by decide))), ?_, fun b o e => ?_⟩
      · rw [List.replicate_succ', List.map_append]
        exact upd_same
      · rw [upd_ne (ne_of_none e hD)]
        exact sm _ _ e
    · rintro M ⟨eD, sm⟩
      refine ⟨D, _, rfl, SqL.of eD, ?_⟩
      rw [all_true]
      refine ⟨true, rfl, iteF ?_⟩
      have hlM := sm.seq hl
      refine ⟨_, rfl, l, rfl, ⟨_, hlM⟩, fun S hS => ?_⟩
      refine lc_list (K := K) (a := l) (xs := ts.map V.ref) (fun i N => N S = some (.lst ((intsOf (bs.take i)).map V.int)) ∧ Same M N) ⟨upd_same, same1 hS⟩ ?_ ?_ ?_
      · rintro i N _ ⟨_, sN⟩
        exact sN.seq hlM
      · rintro i x N hx ⟨eS, sN⟩
        rw [List.getElem?_map] at hx
        obtain ⟨t, ht, rfl⟩ := Option.map_eq_some_iff.mp hx
        have il : i < bs.length := by
          have := (List.getElem?_eq_some_iff.mp ht).1
          omega
        have hb : bs[i]? = some bs[i] := List.getElem?_eq_getElem il
        obtain ⟨_, _, q1, _, _⟩ := (hts.all i t _ ht hb).mono (sm.trans sN)
        refine ⟨rfl, ?_⟩
        refine ⟨_, rfl, t, _, _, _, rfl, rfl, q1, at_k (by decide) rfl, ?_⟩
        refine ⟨_, eS, ?_, ?_, fun b o e => ?_⟩
        · unfold intsOf
          rw [List.length_map, List.length_map, List.length_take]
          exact Nat.lt_of_le_of_lt (Nat.min_le_left _ _) (Nat.lt_of_lt_of_le il (Nat.le_trans few (show 12 ≤ sizeLine by decide)))
        · unfold intsOf
          rw [List.take_succ_eq_append_getElem il, List.map_append, List.map_append]
          exact upd_same
        · rw [upd_ne (ne_of_none e hS)]
          exact sN _ _ e
      · rintro N ⟨eS, sN⟩
        rw [lp, List.take_length] at eS
        have li : (intsOf bs).length ≤ 12 := by
          unfold intsOf
          rw [List.length_map]
          exact few
        have so : (intsOf bs).Pairwise (· ≤ ·) := by
          rw [intsOf_map]
          exact sorted_cast g.sorted
        refine ⟨_, rfl, _, rfl, S, _, rfl, SqL.of eS, by omega, fun ns' p pm ri hp => ?_⟩
        have en : ns' = intsOf bs := PySem.W.ksm_same pm ri so
        subst en
        have s3 : Same N (upd N p (.lst ((intsOf bs).map V.int))) := same1 hp
        refine ⟨_, _, .lst (SqL.of (s3 _ _ eS)) (dps_ints _), .lst (SqL.of upd_same) (dps_ints _), PySem.W.shaped_ints _, PySem.W.shaped_ints _, ?_⟩
        rw [eqv_ints]
        refine ⟨true, rfl, iteT ?_⟩
        generalize upd N p (.lst ((intsOf bs).map V.int)) = N3 at *
        have eS3 := s3 _ _ eS
        refine ⟨_, rfl, S, rfl, ⟨_, SqL.of eS3⟩, fun E2 hE2 => ?_⟩
        refine lc_list (K := K) (a := S) (xs := (intsOf bs).map V.int) (fun i M' => M' E2 = some (.lst ((List.replicate i true).map V.bl)) ∧ Same N3 M') ⟨upd_same, same1 hE2⟩ ?_ ?_ ?_
        · rintro i M' _ ⟨_, s4⟩
          exact SqL.of (s4 _ _ eS3)
        · rintro i x M' hx ⟨eE, s4⟩
          rw [List.getElem?_map] at hx
          obtain ⟨k, hk, rfl⟩ := Option.map_eq_some_iff.mp hx
          have ki : i < (intsOf bs).length := (List.getElem?_eq_some_iff.mp hk).1
          have c2 : (intsOf bs).count k ≤ 2 := by
            rw [intsOf_map] at hk ⊢
            rw [List.getElem?_map] at hk
            obtain ⟨n, _, rfl⟩ := Option.map_eq_some_iff.mp hk
            rw [count_cast]
            exact g.two n
          refine ⟨rfl, ?_⟩
          refine ⟨_, rfl, .inl ⟨rfl, _, SqL.of (s4 _ _ eS3)⟩, _, rfl, S, _, k, rfl, rfl, SqL.of (s4 _ _ eS3), _, _, rfl, rfl, ?_⟩
          have de : decide (((List.count k (intsOf bs) : Nat) : Int) ≤ 2) = true := decide_eq_true (by omega)
          refine ⟨_, eE, (by rw [List.length_map, List.length_replicate]; exact Nat.lt_of_lt_of_le ki (Nat.le_trans li (show 12 ≤ sizeLine by decide))), ?_, fun b o e => ?_⟩
          · refine Eq.trans upd_same ?_
            show some (HO.lst (_ ++ [V.bl (decide (((List.count k (intsOf bs) : Nat) : Int) ≤ 2))])) = _
            rw [de, List.replicate_succ', List.map_append]
            rfl
          · rw [upd_ne (ne_of_none e hE2)]
            exact s4 _ _ e
        · rintro M' ⟨eE, s4⟩
          refine ⟨E2, _, rfl, SqL.of eE, ?_⟩
          rw [all_true]
          exact q _ (sm.trans (sN.trans (s3.trans s4)))
end
end K64

namespace K64
open PySem PySem.Spec PyProof.Rows L2
structure CrsW (K : PySem.W.Frag) (CW : Addr) : Prop where
  cl : L2.Cls K CW
  nm : NoAttr K CW "many"
  nb : NoAttr K CW "beds"
  np : NoAttr K CW "parts"
def webF (m : Int) (b p : Addr) : List (Str × V) := putF "parts" (.ref p) (putF "beds" (.ref b) (putF "many" (.int m) []))
theorem webF_many (m : Int) (b p : Addr) : (webF m b p).lookup ("many" : Str) = some (.int m) := by
  unfold webF
  rw [lookup_putF, if_neg (by decide +kernel), lookup_putF, if_neg (by decide +kernel), lookup_putF, if_pos rfl]
theorem webF_beds (m : Int) (b p : Addr) : (webF m b p).lookup ("beds" : Str) = some (.ref b) := by
  unfold webF
  rw [lookup_putF, if_neg (by decide +kernel), lookup_putF, if_pos rfl]
theorem webF_parts (m : Int) (b p : Addr) : (webF m b p).lookup ("parts" : Str) = some (.ref p) := by
  unfold webF
  rw [lookup_putF, if_pos rfl]
/-- lists of a web's own -/
def WBedsT (K : PySem.W.Frag) (C : Addr) (H : Hp) (l : Addr) (bs : List Bed) : Prop := ∃ ts : List Addr, H l = some (.lst (ts.map V.ref)) ∧ All2 (BedAt K C H) ts bs
theorem WBedsT.mono {K : PySem.W.Frag} {C : Addr} {H H' : Hp} {l : Addr} {bs : List Bed} (h : WBedsT K C H l bs) (s : Same H H') : WBedsT K C H' l bs := by
  obtain ⟨ts, a, b⟩ := h
  exact ⟨ts, s _ _ a, b.mono fun _ _ _ _ r => r.mono s⟩
theorem WBedsT.old {K : PySem.W.Frag} {C : Addr} {H : Hp} {l : Addr} {bs : List Bed} (h : WBedsT K C H l bs) : WBeds K C H l bs := by
  obtain ⟨ts, a, b⟩ := h
  exact ⟨ts, SqL.of a, b⟩
def WPartsT (K : PySem.W.Frag) (H : Hp) (l : Addr) (pss : List (List Nat)) : Prop := ∃ ts : List Addr, H l = some (.lst (ts.map V.ref)) ∧ All2 (PartsAt K H) ts pss
theorem WPartsT.mono {K : PySem.W.Frag} {H H' : Hp} {l : Addr} {pss : List (List Nat)} (h : WPartsT K H l pss) (s : Same H H') : WPartsT K H' l pss := by
  obtain ⟨ts, a, b⟩ := h
  exact ⟨ts, s _ _ a, b.mono fun _ _ _ _ r => Same.tup s r⟩
theorem WPartsT.old {K : PySem.W.Frag} {H : Hp} {l : Addr} {pss : List (List Nat)} (h : WPartsT K H l pss) : WParts K H l pss := by
  obtain ⟨ts, a, b⟩ := h
  exact ⟨ts, SqL.of a, b⟩
/-- a web at w -/
def WebAt (K : PySem.W.Frag) (C CW : Addr) (H : Hp) (w : Addr) (W : WebV) : Prop := ∃ dx b p, H w = some (.ins CW dx (webF (W.many : Int) b p)) ∧ WBedsT K C H b W.beds ∧ WPartsT K H p W.parts ∧ GoodWeb W
theorem WebAt.mono {K : PySem.W.Frag} {C CW : Addr} {H H' : Hp} {w : Addr} {W : WebV} (h : WebAt K C CW H w W) (s : Same H H') : WebAt K C CW H' w W := by
  obtain ⟨dx, b, p, e, u, v, g⟩ := h
  exact ⟨dx, b, p, s _ _ e, u.mono s, v.mono s, g⟩
theorem WebAt.old {K : PySem.W.Frag} {C CW : Addr} {H : Hp} {w : Addr} {W : WebV} (h : WebAt K C CW H w W) : ∃ dx b p, H w = some (.ins CW dx (webF (W.many : Int) b p)) ∧ WBeds K C H b W.beds ∧ WParts K H p W.parts ∧ GoodWeb W := by
  obtain ⟨dx, b, p, e, u, v, g⟩ := h
  exact ⟨dx, b, p, e, u.old, v.old, g⟩
/-- what is no object still being made stays -/
def Keep2 (H H' : Hp) : Prop := ∀ b o, H b = some o → (∀ C d, o ≠ .ins C d []) → H' b = some o
theorem Keep2.tup {K : PySem.W.Frag} {H H' : Hp} {a : Addr} {xs : List V} (k : Keep2 H H') (h : SqT K H a xs) : SqT K H' a xs :=
  h.elim (fun h => .inl (h.elim (fun h => .inl (k _ _ h (fun _ _ z => nomatch z))) fun ⟨o, h⟩ => .inr ⟨o, k _ _ h (fun _ _ z => nomatch z)⟩)) fun h => .inr h
theorem Keep2.seq {K : PySem.W.Frag} {H H' : Hp} {a : Addr} {xs : List V} (k : Keep2 H H') (h : SqL K H a xs) : SqL K H' a xs :=
  h.elim (fun h => .inl (h.elim (fun h => .inl (k _ _ h (fun _ _ z => nomatch z))) fun ⟨o, h⟩ => .inr ⟨o, k _ _ h (fun _ _ z => nomatch z)⟩)) fun h => .inr h
theorem Keep2.sh {C : Addr} {H H' : Hp} {p : Addr} {q : Rat} (k : Keep2 H H') (h : ShQ C H p q) : ShQ C H' p q := by
  obtain ⟨dx, e⟩ := h
  refine ⟨dx, k _ _ e (fun C' d z => ?_)⟩
  injection z with _ _ z
  have t := shf_top q.num (q.den : Int)
  rw [z] at t
  cases t
theorem Keep2.bed {K : PySem.W.Frag} {C : Addr} {H H' : Hp} {t : Addr} {b : Bed} (k : Keep2 H H') (h : BedAt K C H t b) : BedAt K C H' t b := by
  obtain ⟨x, y, a, u, v⟩ := h
  exact ⟨x, y, k.tup a, k.sh u, k.sh v⟩
theorem keep2_ins {H : Hp} {p CC dx : Addr} {o : HO} (h : H p = some (.ins CC dx [])) : Keep2 H (upd H p o) := fun b u e n => by
  rw [upd_ne (fun z => by rw [z, h] at e; exact n _ _ (Option.some.inj e).symm)]
  exact e
/-- but x, an object of the class at CW, all stays -/
structure Wo (CW x : Addr) (H H' : Hp) : Prop where
  at_ : ∃ dx fs, H x = some (.ins CW dx fs)
  keep : ∀ a o, a ≠ x → H a = some o → H' a = some o
theorem Wo.of {CW x : Addr} {H H' : Hp} (k : Wo CW x H H') {a : Addr} {o : HO} (e : H a = some o) (n : ∀ dx fs, o ≠ .ins CW dx fs) : H' a = some o := by
  obtain ⟨dx, fs, ex⟩ := k.at_
  exact k.keep a o (fun z => by rw [z, ex] at e; exact n _ _ (Option.some.inj e).symm) e
theorem Wo.tup {K : PySem.W.Frag} {CW x : Addr} {H H' : Hp} {a : Addr} {xs : List V} (k : Wo CW x H H') (h : SqT K H a xs) : SqT K H' a xs :=
  h.elim (fun h => .inl (h.elim (fun h => .inl (k.of h (fun _ _ z => nomatch z))) fun ⟨o, h⟩ => .inr ⟨o, k.of h (fun _ _ z => nomatch z)⟩)) fun h => .inr h
theorem Wo.seq {K : PySem.W.Frag} {CW x : Addr} {H H' : Hp} {a : Addr} {xs : List V} (k : Wo CW x H H') (h : SqL K H a xs) : SqL K H' a xs :=
  h.elim (fun h => .inl (h.elim (fun h => .inl (k.of h (fun _ _ z => nomatch z))) fun ⟨o, h⟩ => .inr ⟨o, k.of h (fun _ _ z => nomatch z)⟩)) fun h => .inr h
theorem Wo.sh {C CW x : Addr} {H H' : Hp} {p : Addr} {q : Rat} (k : Wo CW x H H') (ne : C ≠ CW) (h : ShQ C H p q) : ShQ C H' p q := by
  obtain ⟨dx, e⟩ := h
  refine ⟨dx, k.of e (fun d fs z => ?_)⟩
  injection z with z
  exact ne z
theorem Wo.bed {K : PySem.W.Frag} {C CW x : Addr} {H H' : Hp} {t : Addr} {b : Bed} (k : Wo CW x H H') (ne : C ≠ CW) (h : BedAt K C H t b) : BedAt K C H' t b := by
  obtain ⟨y, z, a, u, v⟩ := h
  exact ⟨y, z, k.tup a, k.sh ne u, k.sh ne v⟩
def spPartsG (K : PySem.W.Frag) (C : Addr) : Sp := fun vs H Q _ => ∃ (l b : Addr) (W : WebV), vs = [.ref l, .int (W.many : Int), .ref b] ∧ WParts K H l W.parts ∧ WBeds K C H b W.beds ∧ GoodWeb W ∧ ∀ H', Same H H' → Q (.bl true) H'
def spWInit (K : PySem.W.Frag) (C CW : Addr) : Sp := fun vs H Q _ => ∃ (w dx b p : Addr) (W : WebV), vs = [.ref w, .int (W.many : Int), .ref b, .ref p] ∧ H w = some (.ins CW dx []) ∧ WBeds K C H b W.beds ∧ WParts K H p W.parts ∧ GoodWeb W ∧
  ∀ H', WebAt K C CW H' w W → (∀ a o, a ≠ w → H a = some o → H' a = some o) → Q .non H'
/-- as spWInit; nothing that it holds is a list that was there -/
def KeepW (H H' : Hp) : Prop := ∀ b o, H b = some o → (∀ xs, o ≠ .lst xs) → H' b = some o
theorem KeepW.tup {K : PySem.W.Frag} {H H' : Hp} {a : Addr} {xs : List V} (k : KeepW H H') (h : SqT K H a xs) : SqT K H' a xs :=
  h.elim (fun h => .inl (h.elim (fun h => .inl (k _ _ h (fun _ z => nomatch z))) fun ⟨o, h⟩ => .inr ⟨o, k _ _ h (fun _ z => nomatch z)⟩)) fun h => .inr h
theorem KeepW.bed {K : PySem.W.Frag} {C : Addr} {H H' : Hp} {t : Addr} {b : Bed} (k : KeepW H H') (h : BedAt K C H t b) : BedAt K C H' t b := by
  obtain ⟨x, y, a, ⟨d1, u⟩, ⟨d2, v⟩⟩ := h
  exact ⟨x, y, k.tup a, ⟨d1, k _ _ u (fun _ z => nomatch z)⟩, ⟨d2, k _ _ v (fun _ z => nomatch z)⟩⟩
theorem keepw_put {H : Hp} {D : Addr} {xs : List V} {o : HO} (e : H D = some (.lst xs)) : KeepW H (upd H D o) := fun b u eb n => by
  rw [upd_ne (fun z => by rw [z, e] at eb; exact n _ (Option.some.inj eb).symm)]
  exact eb
def FreeOf (K : PySem.W.Frag) (C CW : Addr) (H H' : Hp) (w : Addr) (W : WebV) : Prop := ∀ (D : Addr) (xs : List V), H D = some (.lst xs) → ∀ ys : List V, WebAt K C CW (upd H' D (.lst ys)) w W
def spWInitF (K : PySem.W.Frag) (C CW : Addr) : Sp := fun vs H Q _ => ∃ (w dx b p : Addr) (W : WebV), vs = [.ref w, .int (W.many : Int), .ref b, .ref p] ∧ H w = some (.ins CW dx []) ∧ WBeds K C H b W.beds ∧ WParts K H p W.parts ∧ GoodWeb W ∧
  ∀ H', WebAt K C CW H' w W → FreeOf K C CW H H' w W → (∀ a o, a ≠ w → H a = some o → H' a = some o) → Q .non H'
theorem fn_weaken {P : Program} {w : World} {K : PySem.W.Frag} {mg : Str → Option Value} {base : Heap} {CX : CXT} {k : Nat} {f : Addr} {fd : FuncData} {ps : List Str} {sp sp' : Sp} (h : FnOk P w K mg base CX k f fd ps sp) (i : ∀ vs H Q E, sp' vs H Q E → sp vs H Q E) : FnOk P w K mg base CX k f fd ps sp' :=
  ⟨fun vs H Q E x => h.len vs H Q E (i vs H Q E x), fun A outer s H args us vs Q E room env binds rel wish => h.run A outer s H args us vs Q E room env binds rel (i vs H Q E wish)⟩
section
variable {P : Program} {w : World} {K : PySem.W.Frag} {mg : Str → Option Value} {base : Heap}
theorem scPart1 : FnScope ["thing", "many", "part"] ["thing", "many"] (defScope d_are_parts_of_one) := ⟨rfl, rfl, rfl, by decide +kernel, rfl, by decide +kernel, by decide +kernel⟩
theorem ok_part1 {f f1 C : Addr} {fd fd1 : FuncData} {tk : Tok} (F : Fun K "are_parts_of_one" "are_parts_of_one" d_are_parts_of_one f fd) (Y : TxtW mg C) (g1 : mg "MOST_OF_A_PART" = some (.int 9 tk))
    (A1 : At P w K mg base CX0 2 "is_between" ["thing", "least", "most"] spBetweenI f1 fd1) : FnOk P w K mg base CX0 3 f fd ["thing", "many"] (spPart1G K) := by
  refine F.ok scPart1 (fun vs H Q E h => ?_) (fun cdv A outer s H vs Q E hr h => ?_)
  · obtain ⟨_, _, _, rfl, _⟩ := h
    rfl
  · obtain ⟨t, n, ps, rfl, ht, g, q⟩ := h
    refine ⟨_, pss_cons (ps_if (PW.pt (pw_or (pt_not (pt_val (pe_callB call_isi (by rfl) Y.isi (by decide +kernel) (pa_cons (pv 0) (pa_cons (pe_bltn (v := .ty "tuple") (by rfl) Y.tuple (by decide +kernel) rfl) pa_nil)))))
          (pw_or1 (pt_cmpR op_ne (pe_callB call_len_seq (by rfl) Y.len PySem.boot_len (pa_cons (pv 0) pa_nil)) (pv 1) (nomark _))))) (pss_one (ps_ret pe_bl)) pss_nil)
      (pss_cons (ps_if (pt_not (pt_val (pe_callB (cr_all rfl) (by rfl) Y.all (by decide +kernel) (pa_cons
        (pe_lc (own := [("part", 2)]) (g := gName 2) (by rfl) scPart1.nd (pi_tup (pv 0)) (blkOk_by (own := [("part", 2)]) (N := ["thing", "many", "part"]) (sc := defScope d_are_parts_of_one) (by decide +kernel)) (fun _ _ _ _ _ => pg_name (i := 2) scPart1.nd rfl (.inl rfl)) (fun _ _ _ _ _ => pts_nil)
          (fun _ _ _ _ _ => pe_call A1.G hr rfl A1.m A1.k A1.b .nil pass0 (pa_cons (pv 2) (pa_cons pe_int (pa_cons (pe_glob (v := .int 9) rfl g1 ⟨tk, rfl⟩) pa_nil))))) pa_nil)))) (pss_one (ps_ret pe_bl)) pss_nil)
      (pss_one (ps_ret (pe_or (pe_cmpR op_eq (pv 1) pe_int (nomark _)) (pe_one (pe_callB (cr_any rfl) (by rfl) Y.any (by decide +kernel) (pa_cons
        (pe_lc (own := [("part", 2)]) (g := gName 2) (by rfl) scPart1.nd (pi_tup (pv 0)) (blkOk_by (own := [("part", 2)]) (N := ["thing", "many", "part"]) (sc := defScope d_are_parts_of_one) (by decide +kernel)) (fun _ _ _ _ _ => pg_name (i := 2) scPart1.nd rfl (.inl rfl)) (fun _ _ _ _ _ => pts_nil)
          (fun _ _ _ _ _ => pe_cmpR op_ne (pv 2) pe_int (nomark _))) pa_nil))))))), ?_⟩
    have lp : (ps.map natV).length = n := by rw [List.length_map, g.len]
    have few := g.few
    refine ⟨_, rfl, _, _, _, _, true, rfl, ClsV.ty _, ty_tup ht, kit_ty (by decide +kernel), true, rfl, iteF ?_⟩
    refine ⟨_, rfl, t, _, rfl, .inr ht, _, rfl, rfl, _, rfl, iteNS (by rw [lp]) ?_⟩
    refine ⟨_, rfl, t, rfl, ⟨_, ht⟩, fun D hD => ?_⟩
    refine lc_tup (K := K) (a := t) (xs := ps.map natV) (fun i M => M D = some (.lst ((List.replicate i true).map V.bl)) ∧ Same H M) ⟨upd_same, same1 hD⟩ ?_ ?_ ?_
    · rintro i M _ ⟨_, sm⟩
      exact Same.tup sm ht
    · rintro i x M hx ⟨eD, sm⟩
      rw [List.getElem?_map] at hx
      obtain ⟨k, hk, rfl⟩ := Option.map_eq_some_iff.mp hx
      have ki : i < ps.length := (List.getElem?_eq_some_iff.mp hk).1
      have k9 := g.le k (List.mem_of_getElem? hk)
      refine ⟨rfl, ?_⟩
      have de : (decide ((0 : Int) ≤ (k : Int)) && decide ((k : Int) ≤ 9)) = true := by
        rw [decide_eq_true (show (0 : Int) ≤ (k : Int) by omega), decide_eq_true (show (k : Int) ≤ 9 by omega)]
        rfl
      refine ⟨_, rfl, (k : Int), 0, 9, rfl, _, eD, (by rw [List.length_map, List.length_replicate]; exact Nat.lt_of_lt_of_le ki (Nat.le_trans few (show 12 ≤ sizeLine by decide))), ?_, fun b o e => ?_⟩
      · refine Eq.trans upd_same ?_
        rw [de, List.replicate_succ', List.map_append]
        rfl
      · rw [upd_ne (ne_of_none e hD)]
        exact sm _ _ e
    · rintro M ⟨eD, sm⟩
      refine ⟨D, _, rfl, SqL.of eD, ?_⟩
      rw [all_true]
      refine ⟨true, rfl, iteF ?_⟩
      refine ⟨_, rfl, rfl, _, rfl, ite2 (fun _ => q _ sm) (fun hn => ?_)⟩
      have tM := Same.tup sm ht
      refine ⟨_, rfl, t, rfl, ⟨_, tM⟩, fun D2 hD2 => ?_⟩
      refine lc_tup (K := K) (a := t) (xs := ps.map natV) (fun i N => N D2 = some (.lst (((ps.take i).map fun k => !decide (k = 0)).map V.bl)) ∧ Same M N) ⟨upd_same, same1 hD2⟩ ?_ ?_ ?_
      · rintro i N _ ⟨_, sN⟩
        exact Same.tup sN tM
      · rintro i x N hx ⟨eD2, sN⟩
        rw [List.getElem?_map] at hx
        obtain ⟨k, hk, rfl⟩ := Option.map_eq_some_iff.mp hx
        have ki : i < ps.length := (List.getElem?_eq_some_iff.mp hk).1
        refine ⟨rfl, ?_⟩
        refine ⟨_, rfl, rfl, _, eD2, (by rw [List.length_map, List.length_map, List.length_take]; exact Nat.lt_of_le_of_lt (Nat.min_le_left _ _) (Nat.lt_of_lt_of_le ki (Nat.le_trans few (show 12 ≤ sizeLine by decide)))), ?_, fun b o e => ?_⟩
        · have ek : ps[i] = k := Option.some.inj ((List.getElem?_eq_getElem ki).symm.trans hk)
          have ed : decide (natV k = V.int 0) = decide (k = 0) := decide_eq_decide.mpr ⟨fun z => by
            have z : ((k : Nat) : Int) = 0 := V.int.inj z
            omega, fun z => by rw [z]; rfl⟩
          refine Eq.trans upd_same ?_
          rw [List.take_succ_eq_append_getElem ki, List.map_append, List.map_append, ek, ed]
          rfl
        · rw [upd_ne (ne_of_none e hD2)]
          exact sN _ _ e
      · rintro N ⟨eD2, sN⟩
        rw [List.length_map, List.take_length] at eD2
        refine ⟨D2, _, rfl, SqL.of eD2, ?_⟩
        have ha : ((ps.map fun k => !decide (k = 0)).any id) = true := by
          rcases g.some_ with z | ⟨k, hk, k0⟩
          · exact absurd (decide_eq_true (by rw [z]; rfl)) hn
          · rw [List.any_eq_true]
            exact ⟨true, List.mem_map.mpr ⟨k, hk, by simp [k0]⟩, rfl⟩
        rw [ha]
        exact q _ (sm.trans sN)
abbrev partsN : List Str := ["things", "many", "beds", "starts", "bed", "place", "thing"]
theorem scParts : FnScope partsN ["things", "many", "beds"] (defScope d_are_parts) := ⟨rfl, rfl, rfl, by decide +kernel, rfl, by decide +kernel, by decide +kernel⟩
theorem ok_partsG {f f1 C : Addr} {fd fd1 : FuncData} (F : Fun K "are_parts" "are_parts" d_are_parts f fd) (Y : TxtW mg C)
    (A1 : At P w K mg base CX0 3 "are_parts_of_one" ["thing", "many"] (spPart1G K) f1 fd1) : FnOk P w K mg base CX0 4 f fd ["things", "many", "beds"] (spPartsG K C) := by
  refine F.ok scParts (fun vs H Q E h => ?_) (fun cdv A outer s H vs Q E hr h => ?_)
  · obtain ⟨_, _, _, rfl, _⟩ := h
    rfl
  · obtain ⟨l, b, W, rfl, ⟨ts, hl, hts⟩, ⟨us, hb, hus⟩, g, q⟩ := h
    refine ⟨_, pss_cons (ps_if (PW.pt (pw_or (pt_not (pt_val (pe_callB call_isi (by rfl) Y.isi (by decide +kernel) (pa_cons (pv 0) (pa_cons (pe_bltn (v := .ty "list") (by rfl) Y.list (by decide +kernel) rfl) pa_nil)))))
          (pw_or1 (pt_cmpR op_ne (pe_callB call_len_seq (by rfl) Y.len PySem.boot_len (pa_cons (pv 0) pa_nil)) (pv 1) (nomark _))))) (pss_one (ps_ret pe_bl)) pss_nil)
      (pss_cons (ps_set (i := 3) scParts.nd rfl (Or.inr rfl) (pe_lc (own := [("bed", 4)]) (g := gName 4) (by rfl) scParts.nd (pi_list (pv 2)) (blkOk_by (own := [("bed", 4)]) (N := partsN) (sc := defScope d_are_parts) (by decide +kernel)) (fun _ _ _ _ _ => pg_name (i := 4) scParts.nd rfl (.inl rfl)) (fun _ _ _ _ _ => pts_nil)
          (fun _ _ _ _ _ => pe_ix (show IxR _ (rIxT K) from ix_tup) (pv 4) pe_int (fun _ _ => rfl))))
      (pss_one (ps_ret (pe_callB (cr_all rfl) (by rfl) Y.all (by decide +kernel) (pa_cons
          (pe_lc (own := [("place", 5), ("thing", 6)]) (g := gTup K 2 (gCons (gName 5) (gCons (gName 6) gNil))) (by rfl) scParts.nd (pi_enum (by rfl) Y.enumerate (pa_cons (pv 0) pa_nil)) (blkOk_by (own := [("place", 5), ("thing", 6)]) (N := partsN) (sc := defScope d_are_parts) (by decide +kernel))
            (fun _ _ _ _ _ => pg_tup (by rfl) (pgs_cons (pg_name (i := 5) scParts.nd rfl (.inl rfl)) (pgs_cons (pg_name (i := 6) scParts.nd rfl (.inl rfl)) pgs_nil))) (fun _ _ _ _ _ => pts_nil)
            (fun _ _ _ _ _ => pe_call A1.G hr rfl A1.m A1.k A1.b .nil pass0 (pa_cons (pv 6) (pa_cons (show PE _ _ (tBM K "list" (rCntI K) (tVar 3) (tCons (tVar 5) tNil)) from pe_bm PySem.F.plainAttrs_list PySem.F.slot_list_count PySem.F.type_list_count mt_lcount (pv 3) (pa_cons (pv 5) pa_nil)) pa_nil)))) pa_nil)))))
      , ?_⟩
    have m8 := g.m8
    have pl := g.plen
    have lt : ts.length = W.parts.length := hts.len
    have lu : us.length = W.beds.length := hus.len
    have few := g.few
    refine ⟨_, rfl, _, _, _, _, true, rfl, ClsV.ty _, ty_lst hl, kit_ty (by decide +kernel), true, rfl, iteF ?_⟩
    refine ⟨_, rfl, l, _, rfl, .inl hl, _, rfl, rfl, _, rfl, iteNS (by rw [List.length_map, lt, pl]) ?_⟩
    refine ⟨_, rfl, b, rfl, ⟨_, hb⟩, fun S hS => ?_⟩
    refine lc_list (K := K) (a := b) (xs := us.map V.ref) (fun i N => N S = some (.lst ((intsOf (W.beds.take i)).map V.int)) ∧ Same H N) ⟨upd_same, same1 hS⟩ ?_ ?_ ?_
    · rintro i N _ ⟨_, sN⟩
      exact sN.seq hb
    · rintro i x N hx ⟨eS, sN⟩
      rw [List.getElem?_map] at hx
      obtain ⟨t, ht, rfl⟩ := Option.map_eq_some_iff.mp hx
      have il : i < W.beds.length := by
        have := (List.getElem?_eq_some_iff.mp ht).1
        omega
      have hbi : W.beds[i]? = some W.beds[i] := List.getElem?_eq_getElem il
      obtain ⟨_, _, q1, _, _⟩ := (hus.all i t _ ht hbi).mono sN
      refine ⟨rfl, ?_⟩
      refine ⟨_, rfl, t, _, _, _, rfl, rfl, q1, at_k (by decide) rfl, ?_⟩
      refine ⟨_, eS, ?_, ?_, fun a o e => ?_⟩
      · unfold intsOf
        rw [List.length_map, List.length_map, List.length_take]
        exact Nat.lt_of_le_of_lt (Nat.min_le_left _ _) (Nat.lt_of_lt_of_le il (Nat.le_trans few (show 12 ≤ sizeLine by decide)))
      · unfold intsOf
        rw [List.take_succ_eq_append_getElem il, List.map_append, List.map_append]
        exact upd_same
      · rw [upd_ne (ne_of_none e hS)]
        exact sN _ _ e
    · rintro N ⟨eS, sN⟩
      rw [List.length_map, lu, List.take_length] at eS
      have hlN := sN.seq hl
      refine ⟨_, rfl, l, _, rfl, hlN, fun D hD => ?_⟩
      refine lc_it (walk_enum (K := K) (a := l) (xs := ts.map V.ref)) (fun i M => M D = some (.lst ((List.replicate i true).map V.bl)) ∧ Same N M) ⟨upd_same, same1 hD⟩ ?_ ?_ ?_
      · rintro i M _ ⟨_, sM⟩
        exact sM.seq hlN
      · rintro i x M M' hi ⟨eD, sM⟩ ⟨T, x1, x2, rfl, hT, rfl, e1, e2⟩
        obtain rfl := Option.some.inj e1
        have e2 : (ts.map V.ref)[i]? = some x2 := e2
        rw [List.getElem?_map] at e2
        obtain ⟨t, ht, rfl⟩ := Option.map_eq_some_iff.mp e2
        have il : i < W.parts.length := by
          have := (List.getElem?_eq_some_iff.mp ht).1
          omega
        have hpi : W.parts[i]? = some W.parts[i] := List.getElem?_eq_getElem il
        have s3 : Same M (upd M T (.tup [.int (i : Nat), .ref t])) := same1 hT
        refine ⟨T, _, rfl, SqT.of upd_same, rfl, _, _, rfl, _, _, rfl, rfl, rfl, ?_⟩
        generalize upd M T (.tup [.int (i : Nat), .ref t]) = M3 at *
        have sNM := sM.trans s3
        have eS3 := sNM _ _ eS
        refine ⟨_, rfl, _, rfl, .inl ⟨rfl, _, SqL.of eS3⟩, _, rfl, S, _, (i : Int), rfl, rfl, SqL.of eS3, ?_⟩
        refine ⟨t, (intsOf W.beds).count (i : Int), W.parts[i], rfl, Same.tup (sN.trans sNM) (hts.all i t _ ht hpi), ?_, fun M4 s4 => ?_⟩
        · rw [intsOf_map, count_cast]
          exact g.part i _ hpi
        · have s34 := s3.trans s4
          refine ⟨_, s34 _ _ eD, (by rw [List.length_map, List.length_replicate]; exact Nat.lt_of_lt_of_le il (Nat.le_trans (show W.parts.length ≤ 8 by omega) (show 8 ≤ sizeLine by decide))), ?_, fun a o e => ?_⟩
          · rw [List.replicate_succ', List.map_append]
            exact upd_same
          · rw [upd_ne (ne_of_none e hD)]
            exact s34 _ _ (sM _ _ e)
      · rintro M ⟨eD, sM⟩
        refine ⟨D, _, rfl, SqL.of eD, ?_⟩
        rw [all_true]
        exact q _ (sN.trans sM)
theorem scWInit : FnScope ["self", "many", "beds", "parts"] ["self", "many", "beds", "parts"] (defScope d_Web_init) := ⟨rfl, rfl, rfl, by decide +kernel, rfl, by decide +kernel, by decide +kernel⟩
theorem ok_winitF {f f1 f2 f3 C CW : Addr} {fd fd1 fd2 fd3 : FuncData} {tk : Tok} (F : Fun K "__init__" "Web.__init__" d_Web_init f fd) (TW : CrsW K CW) (ne : C ≠ CW) (Y : TxtW mg C) (g1 : mg "MOST_PLACES" = some (.int 8 tk))
    (A1 : At P w K mg base CX0 2 "is_between" ["thing", "least", "most"] spBetweenI f1 fd1) (A2 : At P w K mg base CX0 4 "are_beds" ["things", "many"] (spBedsG K C) f2 fd2) (A3 : At P w K mg base CX0 4 "are_parts" ["things", "many", "beds"] (spPartsG K C) f3 fd3) :
    FnOk P w K mg base CX0 5 f fd ["self", "many", "beds", "parts"] (spWInitF K C CW) := by
  refine F.ok scWInit (fun vs H Q E h => ?_) (fun cdv A outer s H vs Q E hr h => ?_)
  · obtain ⟨_, _, _, _, _, rfl, _⟩ := h
    rfl
  · obtain ⟨x, dx, b, p, W, rfl, hx, hb, hp, g, q⟩ := h
    have r2 : Room 2 _ := hr.mono (by decide)
    refine ⟨_, pss_cons (ps_if (pt_not (pt_val (pe_call A1.G r2 rfl A1.m A1.k A1.b .nil pass0 (pa_cons (pv 1) (pa_cons pe_int (pa_cons (pe_glob (v := .int 8) rfl g1 ⟨tk, rfl⟩) pa_nil)))))) (pss_one ps_never) pss_nil)
      (pss_cons (ps_if (pt_not (pt_val (pe_call A2.G hr rfl A2.m A2.k A2.b .nil pass0 (pa_cons (pv 2) (pa_cons (pv 1) pa_nil))))) (pss_one ps_never) pss_nil)
      (pss_cons (ps_if (pt_not (pt_val (pe_call A3.G hr rfl A3.m A3.k A3.b .nil pass0 (pa_cons (pv 3) (pa_cons (pv 1) (pa_cons (pv 2) pa_nil)))))) (pss_one ps_never) pss_nil)
      (pss_cons (ps_fld (pv 0) (pv 1) rfl)
      (pss_cons (ps_fld (pv 0) (pe_callTy call_list_of (by rfl) Y.list (by decide +kernel) (pa_cons (pv 2) pa_nil)) rfl)
      (pss_one (ps_fld (pv 0) (pe_callTy call_list_of (by rfl) Y.list (by decide +kernel) (pa_cons (pv 3) pa_nil)) rfl)))))), ?_⟩
    have m1 := g.m1
    have m8 := g.m8
    refine ⟨_, rfl, (W.many : Int), 1, 8, rfl, ?_⟩
    rw [decide_eq_true (show (1 : Int) ≤ (W.many : Int) by omega), decide_eq_true (show (W.many : Int) ≤ 8 by omega)]
    refine ⟨true, rfl, iteF ?_⟩
    refine ⟨_, rfl, _, rfl, b, W.many, W.beds, rfl, hb, ⟨g.few, g.bed, g.sorted, g.two⟩, fun H1 s1 => ⟨true, rfl, iteF ?_⟩⟩
    refine ⟨_, rfl, _, rfl, _, rfl, p, b, W, rfl, hp.mono s1, hb.mono s1, g, fun H2 s2 => ⟨true, rfl, iteF ?_⟩⟩
    have s12 := s1.trans s2
    have hx2 := s12 _ _ hx
    obtain ⟨us, ub, uall⟩ := hb.mono s12
    obtain ⟨ts, tb, tall⟩ := hp.mono s12
    refine ⟨_, rfl, _, rfl, x, CW, dx, _, rfl, hx2, TW.cl, TW.nm, (by show 0 < 1000; decide), ?_⟩
    have kx : Keep2 H2 (upd H2 x (.ins CW dx (putF "many" (.int (W.many : Int)) []))) := keep2_ins hx2
    have e1 : (upd H2 x (.ins CW dx (putF "many" (.int (W.many : Int)) [])) : Hp) x = some (.ins CW dx (putF "many" (.int (W.many : Int)) [])) := upd_same
    have o1 : ∀ a o, a ≠ x → H2 a = some o → upd H2 x (.ins CW dx (putF "many" (.int (W.many : Int)) [])) a = some o := fun a o n e => by rw [upd_ne n]; exact e
    generalize upd H2 x (.ins CW dx (putF "many" (.int (W.many : Int)) [])) = H3 at *
    have ub3 := kx.seq ub
    have tb3 := kx.seq tb
    have ua3 := uall.mono fun a c _ _ r => kx.bed r
    have ta3 := tall.mono fun a c _ _ r => (kx.tup r : PartsAt K H3 a c)
    refine ⟨_, rfl, b, _, rfl, .inl ub3, fun lb hlb => ?_⟩
    have s4 : Same H3 (upd H3 lb (.lst (us.map V.ref))) := same1 hlb
    have eb : (upd H3 lb (.lst (us.map V.ref)) : Hp) lb = some (.lst (us.map V.ref)) := upd_same
    have e4 := s4 _ _ e1
    generalize upd H3 lb (.lst (us.map V.ref)) = H4 at *
    refine ⟨_, rfl, x, CW, dx, _, rfl, e4, TW.cl, TW.nb, (by show 1 < 1000; decide), ?_⟩
    have nbx : lb ≠ x := fun z => by rw [z, e4] at eb; cases eb
    have k5 : ∀ a o, a ≠ x → H4 a = some o → upd H4 x (.ins CW dx (putF "beds" (.ref lb) (putF "many" (.int (W.many : Int)) []))) a = some o := fun a o n e => by rw [upd_ne n]; exact e
    have e5 : (upd H4 x (.ins CW dx (putF "beds" (.ref lb) (putF "many" (.int (W.many : Int)) []))) : Hp) x = some (.ins CW dx (putF "beds" (.ref lb) (putF "many" (.int (W.many : Int)) []))) := upd_same
    generalize upd H4 x (.ins CW dx (putF "beds" (.ref lb) (putF "many" (.int (W.many : Int)) []))) = H5 at *
    have w45 : Wo CW x H4 H5 := ⟨⟨_, _, e4⟩, k5⟩
    have tb5 := w45.seq (s4.seq tb3)
    have ua5 := ua3.mono fun a c _ _ r => w45.bed ne (r.mono s4)
    have ta5 := ta3.mono fun a c _ _ r => (w45.tup (Same.tup s4 r) : PartsAt K H5 a c)
    refine ⟨_, rfl, p, _, rfl, .inl tb5, fun lp hlp => ?_⟩
    have s6 : Same H5 (upd H5 lp (.lst (ts.map V.ref))) := same1 hlp
    have ep : (upd H5 lp (.lst (ts.map V.ref)) : Hp) lp = some (.lst (ts.map V.ref)) := upd_same
    have e6 := s6 _ _ e5
    have eb6 := s6 _ _ (k5 _ _ nbx eb)
    generalize upd H5 lp (.lst (ts.map V.ref)) = H6 at *
    refine ⟨_, rfl, x, CW, dx, _, rfl, e6, TW.cl, TW.np, (by show 2 < 1000; decide), ?_⟩
    have npx : lp ≠ x := fun z => by rw [z, e6] at ep; cases ep
    have k7 : ∀ a o, a ≠ x → H6 a = some o → upd H6 x (.ins CW dx (webF (W.many : Int) lb lp)) a = some o := fun a o n e => by rw [upd_ne n]; exact e
    have w67 : Wo CW x H6 (upd H6 x (.ins CW dx (webF (W.many : Int) lb lp))) := ⟨⟨_, _, e6⟩, k7⟩
    have hub : All2 (BedAt K C (upd H6 x (.ins CW dx (webF (W.many : Int) lb lp)))) us W.beds := ua5.mono fun a c _ _ r => w67.bed ne (r.mono s6)
    have htp : All2 (PartsAt K (upd H6 x (.ins CW dx (webF (W.many : Int) lb lp)))) ts W.parts := ta5.mono fun a c _ _ r => w67.tup (Same.tup s6 r)
    refine q _ ⟨dx, lb, lp, upd_same, ⟨us, k7 _ _ nbx eb6, hub⟩, ⟨ts, k7 _ _ npx ep, htp⟩, g⟩ (fun D xs hD ys => ?_) (fun a o n e => ?_)
    · have nDx : D ≠ x := fun z => by rw [z, hx] at hD; cases hD
      have e2 := s12 _ _ hD
      have e3 := o1 _ _ nDx e2
      have e4 := s4 _ _ e3
      have e5 := k5 _ _ nDx e4
      have nl : lb ≠ D := fun z => by rw [z] at hlb; rw [e3] at hlb; cases hlb
      have np : lp ≠ D := fun z => by rw [z] at hlp; rw [e5] at hlp; cases hlp
      have kp : KeepW (upd H6 x (.ins CW dx (webF (W.many : Int) lb lp))) (upd (upd H6 x (.ins CW dx (webF (W.many : Int) lb lp))) D (.lst ys)) := keepw_put (k7 _ _ nDx (s6 _ _ e5))
      exact ⟨dx, lb, lp, by rw [upd_ne (Ne.symm nDx)]; exact upd_same, ⟨us, by rw [upd_ne nl]; exact k7 _ _ nbx eb6, hub.mono fun a c _ _ r => kp.bed r⟩, ⟨ts, by rw [upd_ne np]; exact k7 _ _ npx ep, htp.mono fun a c _ _ r => (kp.tup r : PartsAt K _ a c)⟩, g⟩
    · exact k7 _ _ n (s6 _ _ (k5 _ _ n (s4 _ _ (o1 _ _ n (s12 _ _ e)))))
theorem ok_winit {f f1 f2 f3 C CW : Addr} {fd fd1 fd2 fd3 : FuncData} {tk : Tok} (F : Fun K "__init__" "Web.__init__" d_Web_init f fd) (TW : CrsW K CW) (ne : C ≠ CW) (Y : TxtW mg C) (g1 : mg "MOST_PLACES" = some (.int 8 tk))
    (A1 : At P w K mg base CX0 2 "is_between" ["thing", "least", "most"] spBetweenI f1 fd1) (A2 : At P w K mg base CX0 4 "are_beds" ["things", "many"] (spBedsG K C) f2 fd2) (A3 : At P w K mg base CX0 4 "are_parts" ["things", "many", "beds"] (spPartsG K C) f3 fd3) :
    FnOk P w K mg base CX0 5 f fd ["self", "many", "beds", "parts"] (spWInit K C CW) :=
  fn_weaken (ok_winitF F TW ne Y g1 A1 A2 A3) fun vs H Q E ⟨w, dx, b, p, W, e, e1, e2, e3, g, q⟩ => ⟨w, dx, b, p, W, e, e1, e2, e3, g, fun H' h _ k => q H' h k⟩
end
end K64

namespace K64
open PySem PySem.Spec PyProof.Rows L2
/-! ### zip of lists and tuples, in any order -/
/-- a tuple (true) or a list (false) to be read -/
def SqK (K : PySem.W.Frag) : Bool → Hp → Addr → List V → Prop
  | true, H, a, xs => SqT K H a xs
  | false, H, a, xs => SqL K H a xs
def HeapK : Bool → Heap → Addr → Array Value → Prop
  | true, h, a, its => h.IsTuple a its
  | false, h, a, its => h.IsList a its
def IterK : Bool → Heap → Addr → Addr → Nat → Prop
  | true, h, it, a, i => h.IsTupleIter it a i
  | false, h, it, a, i => h.IsListIter it a i
def iterO : Bool → Addr → Obj
  | true, a => { cls := .type "tuple_iterator", data := .fields #[.ref a, .int 0 0] }
  | false, a => { cls := .type "list_iterator", data := .fields #[.ref a, .int 0 0] }
theorem beginsK (k : Bool) (a : Addr) (its : Array Value) : Begins (.ref a) (iterO k a) (fun h => HeapK k h a its) := by
  cases k
  · exact begins_list a its
  · exact begins_tuple a its
theorem drawsK {P : Program} {w : World} {A : Around} (k : Bool) (hh : A.handled = none) (it a : Addr) (ne : a ≠ it) (its : Array Value) :
    Draws P w A it [it, a] its.size (fun i v => its[i]? = some v) (fun i h => IterK k h it a i ∧ HeapK k h a its) := by
  cases k
  · exact Draws.list hh it a ne its
  · exact Draws.tuple hh it a ne its
theorem IterK.obj {k : Bool} {h : Heap} {it a : Addr} {i : Nat} (e : IterK k h it a i) : ∃ o, h.get? it = some o ∧ o.data = .fields #[.ref a, .int i 0] := by
  cases k <;> (obtain ⟨o, x, _, y⟩ := e; exact ⟨o, x, y⟩)
theorem IterK.at_ {k : Bool} {h h' : Heap} {it a : Addr} {i : Nat} (e : IterK k h it a i) (f : ∀ o, h.get? it = some o → h'.get? it = some o) : IterK k h' it a i := by
  cases k
  · exact Heap.IsListIter.at e f
  · exact Heap.IsTupleIter.at e f
theorem IterK.new {k : Bool} {h : Heap} {it a : Addr} (e : h.get? it = some (iterO k a)) : IterK k h it a 0 := by
  cases k <;> exact ⟨_, e, rfl, rfl⟩
theorem SqK.ext {K : PySem.W.Frag} {k : Bool} {H H' : Hp} {a : Addr} {xs : List V} (h : SqK K k H a xs) (s : Same H H') : SqK K k H' a xs := by
  cases k
  · exact s.seq h
  · exact Same.tup s h
section
variable {X : Cx} {pins : List (Addr × Obj)} {σ : L2.St} {H : Hp} {s : Shared}
theorem inv_sqK (I : Inv X pins σ H s) {k : Bool} {a : Addr} {xs : List V} (h : SqK X.K k H a xs) : ∃ its, Vals xs its ∧ HeapK k s.heap a its.toArray ∧ a < s.heap.objs.size := by
  cases k
  · obtain ⟨its, rv, p, _⟩ := I.list h
    exact ⟨its, rv, p.isList, p.lt⟩
  · obtain ⟨its, rv, p, _⟩ := I.tuple h
    obtain ⟨o, e, _⟩ := id p
    exact ⟨its, rv, p, Heap.lt_size e⟩
theorem inv_injK (I : Inv X pins σ H s) {k : Bool} {a : Addr} {xs ys : List V} (h : SqK X.K k H a xs) (g : SqK X.K k H a ys) : xs = ys := by
  cases k
  · exact I.list_inj h g
  · exact I.tuple_inj h g
end
def ItzG (K : PySem.W.Frag) (j k : Bool) (a b : Addr) : It where
  go i H := ∃ (xs ys : List V) (x y : V), SqK K j H a xs ∧ SqK K k H b ys ∧ xs[i]? = some x ∧ ys[i]? = some y
  yld i H v H' := ∃ (t : Addr) (x y : V), v = .ref t ∧ H t = none ∧ H' = upd H t (.tup [x, y]) ∧ (∀ us, SqK K j H a us → us[i]? = some x) ∧ (∀ us, SqK K k H b us → us[i]? = some y)
  stop i H := ∃ xs ys : List V, SqK K j H a xs ∧ SqK K k H b ys ∧ i ≤ xs.length ∧ i ≤ ys.length ∧ (i = xs.length ∨ i = ys.length)
def ZipAt (j k : Bool) (a b z TI TO i1 i2 : Addr) (i : Nat) (h : Heap) : Prop :=
  IsZip h z TI TO .none ∧ IsTupOf2 h TI (.ref i1) (.ref i2) ∧ (∃ u v, IsTupOf2 h TO u v) ∧ IterK j h i1 a i ∧ IterK k h i2 b i
theorem zg_turn {P : Program} {w : World} {K : PySem.W.Frag} {elts : List Expr} {kk : Nat} {tp : Pos} {j k : Bool} {a b z TI TO i1 i2 : Addr} (S : ZipSep2 z TI TO i1 i2 [i1, a] [i2, b]) (n1 : a ≠ i1) (n2 : b ≠ i2) :
    Turn P w K (.Tuple elts kk tp) (ItzG K j k a b) [z, TI, TO, i1, i2] z (ZipAt j k a b z TI TO i1 i2) where
  mem := List.mem_cons_self ..
  obj i h := by
    rintro ⟨e1, e2, ⟨u, v, e3⟩, e4, e5⟩ c hc
    obtain ⟨o4, g4, d4⟩ := e4.obj
    obtain ⟨o5, g5, d5⟩ := e5.obj
    have q : c = z ∨ c = TI ∨ c = TO ∨ c = i1 ∨ c = i2 := by simpa using hc
    rcases q with q | q | q | q | q <;> rw [q]
    · exact ⟨_, e1, fun v q => nomatch q⟩
    · exact ⟨_, e2, fun v q => nomatch q⟩
    · exact ⟨_, e3, fun v q => nomatch q⟩
    · exact ⟨o4, g4, fun v q => by rw [d4] at q; cases q⟩
    · exact ⟨o5, g5, fun v q => by rw [d5] at q; cases q⟩
  keep i h h' := by
    rintro ⟨e1, e2, ⟨u, v, e3⟩, e4, e5⟩ f
    exact ⟨f z (by simp) _ e1, f TI (by simp) _ e2, ⟨u, v, f TO (by simp) _ e3⟩, e4.at_ fun o q => f i1 (by simp) o q, e5.at_ fun o q => f i2 (by simp) o q⟩
  item := by
    intro X hP hw hK hc i pins s σ H E I hf st hg
    subst hP hw hK
    obtain ⟨e1, e2, ⟨u0, v0, e3⟩, e4, e5⟩ := st
    obtain ⟨xs, ys, x, y, qx, qy, hx, hy⟩ := hg
    obtain ⟨its, rv, p, _⟩ := inv_sqK I qx
    obtain ⟨its2, rv2, p2, _⟩ := inv_sqK I qy
    obtain ⟨u, hu, ru⟩ := rv.get hx
    obtain ⟨u2, hu2, ru2⟩ := rv2.get hy
    have l1 : i < its.toArray.size := by
      have := (List.getElem?_eq_some_iff.mp hu).1
      simpa using this
    have l2 : i < its2.toArray.size := by
      have := (List.getElem?_eq_some_iff.mp hu2).1
      simpa using this
    have zl : z < s.heap.objs.size := Heap.lt_size e1
    have hd : X.A.in1.handled = none := I.ok.hd hc
    have zi1 : z ≠ i1 := fun q => S.zf1 (by rw [q]; simp)
    have zi2 : z ≠ i2 := fun q => S.zf2 (by rw [q]; simp)
    have o4 := e4.obj
    have o5 := e5.obj
    refine wpAny_pyNext_zipD2_item S (drawsK j hd i1 a n1 its.toArray) (drawsK k hd i2 b n2 its2.toArray) e1 e2 e3 ⟨e4, p⟩ ⟨e5, p2⟩ l1 l2 fun y1 y2 h' tk hy1 hy2 zo to s1 s2 hT hsz hk => ?_
    have g1 : y1 = u := by
      have hy1 : its.toArray[i]? = some y1 := hy1
      have hy1 : its[i]? = some y1 := by simpa using hy1
      rw [hu] at hy1
      exact (Option.some.inj hy1).symm
    have g2 : y2 = u2 := by
      have hy2 : its2.toArray[i]? = some y2 := hy2
      have hy2 : its2[i]? = some y2 := by simpa using hy2
      rw [hu2] at hy2
      exact (Option.some.inj hy2).symm
    subst g1 g2
    refine ⟨_, rfl, wpAny_letOwnedTupleGo_zip (s := { s with heap := h', toks := tk }) zo fun h2 z2 sb => ?_⟩
    have t2 : h2.get? s.heap.objs.size = some { cls := .type "tuple", data := .seq #[y1, y2] } := (sb.2 _ (Nat.ne_of_gt zl)).trans hT
    have nw : ObjOk X.prog X.w (upd H s.heap.objs.size (.tup [x, y])) h2 s.heap.objs.size (.tup [x, y]) :=
      ⟨(by show 2 ≤ sizeLine; decide), [y1, y2], .cons ru (.cons ru2 .nil), ⟨_, t2, rfl, _, rfl⟩⟩
    have I2 : Inv X pins σ (upd H s.heap.objs.size (.tup [x, y])) { s with heap := h2, toks := tk } := by
      refine I.turnedNew (ch := [z, TI, TO, i1, i2]) (fun c oc hb q => ?_) hf (Nat.le_refl _) nw
      have c1 : c ≠ z := fun q => hb (by simp [q])
      exact (sb.2 c c1).trans (hk c oc c1 (fun q => hb (by simp [q])) (fun q => hb (by simp [q])) (fun q => hb (by simp [q])) q)
    refine ⟨.ref s.heap.objs.size, _, I2, rfl, ⟨_, x, y, rfl, I.hok.fresh (Nat.le_refl _), rfl, fun us hq => ?_, fun us hq => ?_⟩, ⟨z2, ?_, ⟨y1, y2, ?_⟩, ?_, ?_⟩, fun c hcm => ?_⟩
    · rw [inv_injK I hq qx]
      exact hx
    · rw [inv_injK I hq qy]
      exact hy
    · exact (sb.2 _ S.TIz).trans (hk _ _ S.TIz S.TITO S.TIi1 S.TIi2 e2)
    · exact (sb.2 _ S.TOz).trans to
    · exact s1.1.at_ fun o q => (sb.2 _ (Ne.symm zi1)).trans q
    · exact s2.1.at_ fun o q => (sb.2 _ (Ne.symm zi2)).trans q
    · have lt : c < s.heap.objs.size := by
        have q : c = z ∨ c = TI ∨ c = TO ∨ c = i1 ∨ c = i2 := by simpa using hcm
        rcases q with q | q | q | q | q <;> rw [q]
        · exact zl
        · exact Heap.lt_size e2
        · exact Heap.lt_size e3
        · obtain ⟨_, q, _⟩ := o4
          exact Heap.lt_size q
        · obtain ⟨_, q, _⟩ := o5
          exact Heap.lt_size q
      rw [upd_ne (Nat.ne_of_lt lt)]
      exact (hf c hcm).1
  done := by
    intro X hP hw hK hc i pins s σ H E I hf st hg
    subst hP hw hK
    obtain ⟨e1, e2, ⟨u0, v0, e3⟩, e4, e5⟩ := st
    obtain ⟨xs, ys, qx, qy, h1, h2, he⟩ := hg
    obtain ⟨its, rv, p, _⟩ := inv_sqK I qx
    obtain ⟨its2, rv2, p2, _⟩ := inv_sqK I qy
    have a1 : its.toArray.size = xs.length := by
      have := rv.length
      simp
      omega
    have a2 : its2.toArray.size = ys.length := by
      have := rv2.length
      simp
      omega
    have hd : X.A.in1.handled = none := I.ok.hd hc
    refine wpAny_pyNext_zipD2_end S (drawsK j hd i1 a n1 its.toArray) (drawsK k hd i2 b n2 its2.toArray) e1 e2 e3 ⟨e4, p⟩ ⟨e5, p2⟩ (by omega) (by omega) (by omega) fun h' tk hk => ?_
    refine ⟨rfl, I.turnedL (t' := tk) (ch := [z, TI, TO, i1, i2]) (fun c o hb q => ?_) hf⟩
    exact hk c o (fun q => hb (by simp [q])) (fun q => hb (by simp [q])) (fun q => hb (by simp [q])) (fun q => hb (by simp [q])) q
  self _ i s Q E st h := wpAny_pyIter_zip st.1 h
def iZipG (K : PySem.W.Frag) (j k : Bool) (ta : TA) : TI := fun σ H R => ta σ H fun vs H1 => ∃ a b xs ys, vs = [.ref a, .ref b] ∧ SqK K j H1 a xs ∧ SqK K k H1 b ys ∧ R (ItzG K j k a b) H1
theorem pi_zipG {X : Cx} (j k : Bool) {e e2 : Expr} {ta : TA} {p pos tp : Pos} {elts : List Expr} {kk : Nat} (hg : Gl X "zip") (hm : X.mg "zip" = none) (ha : PA X [e, e2] ta)
    (hs : starEach [e, e2] X.env = (false, eval e X.env) :: starEach [e2] X.env := by rfl) (hpl : (backTo pos (starEach [e2] X.env)).any (·.1) = false := by rfl) :
    PI X (.Tuple elts kk tp) (.Call (.Name "zip" p) [e, e2] [] pos) (iZipG X.K j k ta) := by
  constructor
  intro pins s σ H R I h
  refine Call_ (ld_blt I hg hm PyProof.Rows.boot_zip (PyProof.Rows.callWith_type1 (thn (ha.run pos pins s σ H _ I h) fun us s1 ⟨vs, H1, I1, r1, q1⟩ => ?_) hs hpl))
  obtain ⟨a, b, xs, ys, ex, qx, qy, q⟩ := q1
  subst ex
  rcases r1 with _ | ⟨r, rr⟩
  rcases rr with _ | ⟨r', rr⟩
  cases rr
  cases r
  cases r'
  obtain ⟨its, rv, p1, la⟩ := inv_sqK I1 qx
  obtain ⟨its2, rv2, p2, lb⟩ := inv_sqK I1 qy
  refine zip_begins2 (beginsK j a its.toArray) (beginsK k b its2.toArray) p1 p2 fun h' hz hTI hTO h1 h2 hsz hk => wpAny_pyIter_zip hz ?_
  have I2 : Inv X pins σ H1 { s1 with heap := h' } := I1.kept (t' := s1.toks) hk
  have S := zip_sep2 (N := s1.heap.objs.size) (fp1 := [a]) (fp2 := [b]) (fun c hc => by rw [List.mem_singleton.mp hc]; exact la) (fun c hc => by rw [List.mem_singleton.mp hc]; exact lb)
  have nb : b ≠ s1.heap.objs.size + 1 := Nat.ne_of_lt (Nat.lt_succ_of_lt lb)
  refine ⟨s1.heap.objs.size + 4, [s1.heap.objs.size + 4, s1.heap.objs.size + 2, s1.heap.objs.size + 3, s1.heap.objs.size, s1.heap.objs.size + 1], _, _, H1, rfl, I2, zg_turn (j := j) (k := k) S (Nat.ne_of_lt la) nb, ⟨hz, hTI, ⟨_, _, hTO⟩, .new h1, .new h2⟩, fun c hcm => ?_, q⟩
  have e : c = s1.heap.objs.size + 4 ∨ c = s1.heap.objs.size + 2 ∨ c = s1.heap.objs.size + 3 ∨ c = s1.heap.objs.size ∨ c = s1.heap.objs.size + 1 := by simpa using hcm
  have le : s1.heap.objs.size ≤ c := by
    rcases e with z | z | z | z | z <;> rw [z]
    · exact Nat.le_add_right _ _
    · exact Nat.le_add_right _ _
    · exact Nat.le_add_right _ _
    · exact Nat.le_refl _
    · exact Nat.le_add_right _ _
  exact I1.fpOk le (I1.hok.fresh le)
theorem walk_zipG {K : PySem.W.Frag} {j k : Bool} {a b : Addr} {xs ys : List V} {n : Nat} (hn : n = min xs.length ys.length) : Walk (ItzG K j k a b) n (fun H => SqK K j H a xs ∧ SqK K k H b ys) (YPair (fun i => xs[i]?) (fun i => ys[i]?)) := by
  subst hn
  refine ⟨fun i H hi q => ?_, fun H q => ?_, fun i H v H' _ q y => ?_⟩
  · have h1 : i < xs.length := by omega
    have h2 : i < ys.length := by omega
    exact ⟨xs, ys, xs[i], ys[i], q.1, q.2, by simp [h1], by simp [h2]⟩
  · exact ⟨xs, ys, q.1, q.2, by omega, by omega, by omega⟩
  · obtain ⟨t, x, z, h1, h2, h3, h4, h5⟩ := y
    exact ⟨t, x, z, h1, h2, h3, h4 xs q.1, h5 ys q.2⟩
end K64

namespace K64
open PySem PySem.Spec PyProof.Rows L2
/-! ### what a day does, as plain functions -/
def fromB (bs : List Bed) (p : Nat) : List Nat := (List.range bs.length).filter fun k => decide ((bs[k]?).map Bed.s = some p)
def gap1 (ds : List Int) : List Nat → Int
  | [i, j] => (ds[i]?).getD 0 - (ds[j]?).getD 0
  | _ => 0
def gapsV (W : WebV) (ds : List Int) : List Int := (List.range W.many).map fun p => gap1 ds (fromB W.beds p)
def leadsV (gs : List Int) : List Bool := gs.map fun g => decide (0 ≤ g)
def ratI (n : Nat) : Rat := ((n : Int) : Rat)
def partV (ps : List Nat) (am : Rat) (a : Nat) : Rat := am * (ratI a / ratI ps.sum)
def bornV (ps : List Nat) (am : Rat) (first : Bool) : List Rat := if first = true then ps.map (partV ps am) else (ps.map (partV ps am)).reverse
def intoV (bs : List Bed) (bears : List Rat) (p : Nat) : List Rat := ((bears.zip bs).filter fun x => decide (x.2.e = p)).map Prod.fst
def amL (W : WebV) (rain : List Rat) (bears : List Rat) (p : Nat) : List Rat := (rain[p]?).getD 0 :: intoV W.beds bears p
def flowV (W : WebV) (leads : List Bool) (rain : List Rat) : Nat → List Rat × List Rat
  | 0 => ([], [])
  | p + 1 => ((flowV W leads rain p).1 ++ [(amL W rain (flowV W leads rain p).2 p).sum],
      (flowV W leads rain p).2 ++ bornV ((W.parts[p]?).getD []) (amL W rain (flowV W leads rain p).2 p).sum ((leads[p]?).getD true))
def mvV (b : Bed) (q : Rat) : Int := if b.hi ≤ q then 1 else if b.lo < q then 0 else -1
def movesV (bs : List Bed) (qs : List Rat) : List Int := (bs.zip qs).map fun x => mvV x.1 x.2
/-- how many beds begin ahead of a place -/
def cntB (l : List Nat) (p : Nat) : Nat := (l.filter fun s => decide (s < p)).length
theorem cntB_zero (l : List Nat) : cntB l 0 = 0 := by
  unfold cntB
  simp
theorem cntB_succ (l : List Nat) (p : Nat) : cntB l (p + 1) = cntB l p + l.count p := by
  induction l with
  | nil => rfl
  | cons a r ih =>
    unfold cntB at *
    rw [List.filter_cons, List.filter_cons, List.count_cons]
    by_cases h1 : a < p
    · rw [if_pos (by simp; omega), if_pos (by simp [h1]), List.length_cons, List.length_cons, ih, if_neg (by simp; omega)]
      omega
    · by_cases h2 : a = p
      · rw [if_pos (by simp; omega), if_neg (by simp; omega), List.length_cons, ih, if_pos (by simp [h2])]
        omega
      · rw [if_neg (by simp; omega), if_neg (by simp; omega), ih, if_neg (by simp [h2])]
        omega
theorem cntB_le (l : List Nat) (p : Nat) : cntB l p ≤ l.length := List.length_filter_le _ _
theorem cntB_all {l : List Nat} {p : Nat} (h : ∀ s ∈ l, s < p) : cntB l p = l.length := by
  unfold cntB
  rw [List.filter_eq_self.mpr (fun s hs => by simp [h s hs])]
/-- of starts in order the ones ahead of a place stand first -/
theorem cntB_lt : ∀ {l : List Nat} {p k : Nat} {s : Nat}, l.Pairwise (· ≤ ·) → l[k]? = some s → (k < cntB l p ↔ s < p)
  | [], p, k, s, _, h => by simp at h
  | a :: r, p, 0, s, hs, h => by
    have e : a = s := by simpa using h
    subst e
    unfold cntB
    rw [List.filter_cons]
    by_cases c : a < p
    · rw [if_pos (by simp [c])]
      simp [c]
    · rw [if_neg (by simp [c])]
      have z : r.filter (fun s => decide (s < p)) = [] := by
        rw [List.filter_eq_nil_iff]
        intro x hx
        have := List.rel_of_pairwise_cons hs hx
        simp
        omega
      rw [z]
      simp [c]
  | a :: r, p, k + 1, s, hs, h => by
    have h : r[k]? = some s := by simpa using h
    have ih := cntB_lt (p := p) (List.Pairwise.of_cons hs) h
    have le : a ≤ s := List.rel_of_pairwise_cons hs (List.mem_of_getElem? h)
    unfold cntB at *
    rw [List.filter_cons]
    by_cases c : a < p
    · rw [if_pos (by simp [c]), List.length_cons]
      omega
    · rw [if_neg (by simp [c])]
      have z : r.filter (fun s => decide (s < p)) = [] := by
        rw [List.filter_eq_nil_iff]
        intro x hx
        have := List.rel_of_pairwise_cons hs hx
        simp
        omega
      rw [z]
      simp
      omega
theorem born_len (ps : List Nat) (am : Rat) (first : Bool) : (bornV ps am first).length = ps.length := by
  unfold bornV
  split <;> simp
theorem flow_len1 (W : WebV) (leads : List Bool) (rain : List Rat) : ∀ p, (flowV W leads rain p).1.length = p
  | 0 => rfl
  | p + 1 => by
    show ((flowV W leads rain p).1 ++ [_]).length = p + 1
    rw [List.length_append, flow_len1 W leads rain p]
    rfl
theorem parts_at {W : WebV} (g : GoodWeb W) {p : Nat} (h : p < W.many) : ∃ ps, W.parts[p]? = some ps ∧ GoodParts ((starts W).count p) ps := by
  have hp := g.plen
  exact ⟨_, List.getElem?_eq_getElem (by omega), g.part p _ (List.getElem?_eq_getElem (by omega))⟩
theorem flow_len2 {W : WebV} (g : GoodWeb W) (leads : List Bool) (rain : List Rat) : ∀ p, p ≤ W.many → (flowV W leads rain p).2.length = cntB (starts W) p
  | 0, _ => (cntB_zero _).symm
  | p + 1, h => by
    obtain ⟨ps, e, gp⟩ := parts_at g (p := p) (by omega)
    show ((flowV W leads rain p).2 ++ bornV _ _ _).length = _
    rw [List.length_append, flow_len2 g leads rain p (by omega), born_len, cntB_succ, e]
    show _ + ps.length = _
    rw [gp.len]
theorem starts_len (W : WebV) : (starts W).length = W.beds.length := List.length_map ..
theorem flow_few {W : WebV} (g : GoodWeb W) (leads : List Bool) (rain : List Rat) {p : Nat} (h : p ≤ W.many) : (flowV W leads rain p).2.length ≤ W.beds.length := by
  rw [flow_len2 g leads rain p h, ← starts_len]
  exact cntB_le _ _
theorem flow_all {W : WebV} (g : GoodWeb W) (leads : List Bool) (rain : List Rat) : (flowV W leads rain W.many).2.length = W.beds.length := by
  rw [flow_len2 g leads rain _ (Nat.le_refl _), ← starts_len]
  refine cntB_all fun s hs => ?_
  obtain ⟨b, hb, rfl⟩ := List.mem_map.mp hs
  have := g.bed b hb
  have h1 := this.up
  have h2 := this.le
  omega
/-! ### sizes -/
/-- a whole number, below 2 ^ k, over M -/
def Lim (M k : Nat) (q : Rat) : Prop := ∃ n : Int, q = (n : Rat) / ((M : Int) : Rat) ∧ n.natAbs < 2 ^ k
theorem Lim.up {M k k' : Nat} {q : Rat} (h : Lim M k q) (e : k ≤ k') : Lim M k' q := by
  obtain ⟨n, a, b⟩ := h
  exact ⟨n, a, pow_le b e⟩
theorem Lim.den {M k : Nat} {q : Rat} (h : Lim M k q) (m : 0 < M) : q.den ∣ M := by
  obtain ⟨n, a, b⟩ := h
  have e := (low_rat (t := n) (b := (M : Int)) (by omega)).2
  rw [← a] at e
  have d : lowB n (M : Int) ∣ (M : Int) := ⟨sg n M, (lowB_mul n (M : Int)).symm⟩
  rw [e] at d
  exact Int.natCast_dvd_natCast.mp d
theorem Lim.num {M k : Nat} {q : Rat} (h : Lim M k q) (m : 0 < M) : q.num.natAbs < 2 ^ k := by
  obtain ⟨n, a, b⟩ := h
  have e := (low_rat (t := n) (b := (M : Int)) (by omega)).1
  rw [← a] at e
  rw [← e]
  exact Nat.lt_of_le_of_lt (lowT_le (by omega)) b
theorem Lim.sz {M k j : Nat} {q : Rat} (h : Lim M k q) (m : 0 < M) (hm : M < 2 ^ j) (hk : k ≤ j) : Sz j q := by
  refine ⟨pow_le (h.num m) hk, ?_⟩
  have := Nat.le_of_dvd m (h.den m)
  rw [Int.natAbs_natCast]
  omega
theorem lim_zero {M k : Nat} : Lim M k 0 := ⟨0, by rw [show ((0 : Int) : Rat) = 0 from rfl]; grind, by simp; exact Nat.two_pow_pos k⟩
theorem Lim.mul {M k L j : Nat} {q : Rat} (h : Lim M k q) (l0 : 0 < L) (hl : L ≤ 2 ^ j) : Lim (M * L) (k + j) q := by
  obtain ⟨n, a, b⟩ := h
  refine ⟨n * L, ?_, ?_⟩
  · have nl := icast_ne (show ((L : Nat) : Int) ≠ 0 by omega)
    rw [a, Int.natCast_mul, Rat.intCast_mul, Rat.intCast_mul]
    generalize ((n : Int) : Rat) = x at *
    generalize ((L : Int) : Rat) = y at *
    generalize ((M : Int) : Rat) = z at *
    by_cases hz : z = 0
    · rw [hz]
      grind
    · grind
  · rw [Int.natAbs_mul, Int.natAbs_natCast, Nat.pow_add]
    exact Nat.mul_lt_mul_of_lt_of_le b hl (Nat.two_pow_pos j)
theorem lim_sum {M k : Nat} : ∀ {l : List Rat}, (∀ q ∈ l, Lim M k q) → ∃ n : Int, l.sum = (n : Rat) / ((M : Int) : Rat) ∧ n.natAbs ≤ l.length * 2 ^ k
  | [], _ => ⟨0, by rw [show ((0 : Int) : Rat) = 0 from rfl]; show (0 : Rat) = _; grind, by simp⟩
  | q :: r, h => by
    obtain ⟨n, a, b⟩ := h q (by simp)
    obtain ⟨m, c, d⟩ := lim_sum (fun x hx => h x (by simp [hx]) : ∀ x ∈ r, Lim M k x)
    refine ⟨n + m, ?_, ?_⟩
    · rw [List.sum_cons, a, c, Rat.intCast_add]
      generalize ((M : Int) : Rat) = z
      by_cases hz : z = 0
      · rw [hz]
        grind
      · grind
    · rw [List.length_cons, Nat.succ_mul]
      have := Int.natAbs_add_le n m
      omega
theorem Lim.sum {M k : Nat} {l : List Rat} (h : ∀ q ∈ l, Lim M k q) (few : l.length ≤ 15) : Lim M (k + 4) l.sum := by
  obtain ⟨n, a, b⟩ := lim_sum h
  refine ⟨n, a, Nat.lt_of_le_of_lt b ?_⟩
  rw [Nat.pow_add]
  have := Nat.two_pow_pos k
  have : l.length * 2 ^ k ≤ 15 * 2 ^ k := Nat.mul_le_mul_right _ few
  omega
abbrev LL : Nat := 12252240
theorem LL_dvd {S : Nat} (h1 : 1 ≤ S) (h2 : S ≤ 18) : S ∣ LL := by
  have : S = 1 ∨ S = 2 ∨ S = 3 ∨ S = 4 ∨ S = 5 ∨ S = 6 ∨ S = 7 ∨ S = 8 ∨ S = 9 ∨ S = 10 ∨ S = 11 ∨ S = 12 ∨ S = 13 ∨ S = 14 ∨ S = 15 ∨ S = 16 ∨ S = 17 ∨ S = 18 := by omega
  rcases this with h | h | h | h | h | h | h | h | h | h | h | h | h | h | h | h | h | h <;> subst h <;> decide
theorem LL_pos : 0 < LL := by decide
theorem LL_lt : LL ≤ 2 ^ 24 := by decide
theorem Lim.part {M k S a : Nat} {q : Rat} (h : Lim M k q) (h1 : 1 ≤ S) (h2 : S ≤ 18) (ha : a ≤ S) : Lim (M * LL) (k + 24) (q * (ratI a / ratI S)) := by
  obtain ⟨n, e, b⟩ := h
  obtain ⟨c, hc⟩ := LL_dvd h1 h2
  refine ⟨n * (a * c : Nat), ?_, ?_⟩
  · have ns := icast_ne (show ((S : Nat) : Int) ≠ 0 by omega)
    have nc := icast_ne (show ((c : Nat) : Int) ≠ 0 from by
      intro z
      have : c = 0 := by omega
      rw [this, Nat.mul_zero] at hc
      exact absurd hc (by decide))
    unfold ratI
    rw [e, hc, Int.natCast_mul, Int.natCast_mul, Int.natCast_mul, Rat.intCast_mul, Rat.intCast_mul, Rat.intCast_mul, Rat.intCast_mul]
    generalize ((n : Int) : Rat) = x at *
    generalize ((S : Int) : Rat) = y at *
    generalize ((M : Int) : Rat) = z at *
    generalize ((c : Int) : Rat) = u at *
    generalize ((a : Int) : Rat) = v at *
    by_cases hz : z = 0
    · rw [hz]
      grind
    · grind
  · rw [Int.natAbs_mul, Int.natAbs_natCast, Nat.pow_add]
    refine Nat.mul_lt_mul_of_lt_of_le b ?_ (Nat.two_pow_pos 24)
    have : a * c ≤ S * c := Nat.mul_le_mul_right _ ha
    rw [← hc] at this
    exact Nat.le_trans this LL_lt
structure RainOk (W : WebV) (R k0 : Nat) (rain : List Rat) : Prop where
  len : rain.length = W.many
  lim : ∀ q ∈ rain, Lim R k0 q
  nn : ∀ q ∈ rain, 0 ≤ q
  r0 : 0 < R
  rlt : R < 2 ^ 900
  k : k0 ≤ 900
theorem sum_nat_le : ∀ (l : List Nat), (∀ p ∈ l, p ≤ 9) → l.sum ≤ 9 * l.length
  | [], _ => by simp
  | a :: r, h => by
    have h1 := h a (by simp)
    have h2 := sum_nat_le r (fun x hx => h x (by simp [hx]))
    rw [List.sum_cons, List.length_cons]
    omega
theorem sum_nat_mem : ∀ {l : List Nat} {p : Nat}, p ∈ l → p ≤ l.sum
  | a :: r, p, h => by
    rw [List.sum_cons]
    rcases List.mem_cons.mp h with z | z
    · omega
    · have := sum_nat_mem z
      omega
theorem parts_sum {W : WebV} (g : GoodWeb W) {i n : Nat} {ps : List Nat} (hn : n = (starts W).count i) (h : GoodParts n ps) {a : Nat} (ha : a ∈ ps) : 1 ≤ ps.sum ∧ ps.sum ≤ 18 ∧ a ≤ ps.sum := by
  have h2 := g.two i
  have hl := h.len
  have h3 := sum_nat_le ps h.le
  have h4 := sum_nat_mem ha
  refine ⟨?_, by omega, h4⟩
  rcases h.some_ with z | ⟨p, hp, p0⟩
  · have := List.length_pos_of_mem ha
    omega
  · have := sum_nat_mem hp
    omega
theorem LLp_pos (p : Nat) : 0 < LL ^ p := Nat.pow_pos LL_pos
theorem LLp_le (p : Nat) : LL ^ p ≤ 2 ^ (24 * p) := by
  rw [Nat.pow_mul]
  exact Nat.pow_le_pow_left LL_lt p
theorem into_mem {bs : List Bed} {bears : List Rat} {p : Nat} {q : Rat} (h : q ∈ intoV bs bears p) : q ∈ bears := by
  unfold intoV at h
  obtain ⟨x, hx, rfl⟩ := List.mem_map.mp h
  exact (List.of_mem_zip (List.mem_filter.mp hx).1).1
theorem into_len (bs : List Bed) (bears : List Rat) (p : Nat) : (intoV bs bears p).length ≤ bs.length := by
  unfold intoV
  rw [List.length_map]
  refine Nat.le_trans (List.length_filter_le _ _) ?_
  rw [List.length_zip]
  omega
theorem getD_mem {α : Type} {l : List α} {i : Nat} {d : α} (h : i < l.length) : (l[i]?).getD d ∈ l := by
  rw [List.getElem?_eq_getElem h]
  exact List.getElem_mem h
theorem flow_lim {W : WebV} {R k0 : Nat} {rain : List Rat} (g : GoodWeb W) (leads : List Bool) (r : RainOk W R k0 rain) : ∀ p, p ≤ W.many →
    (∀ q ∈ (flowV W leads rain p).1, Lim (R * LL ^ p) (k0 + 40 * p) q) ∧ (∀ q ∈ (flowV W leads rain p).2, Lim (R * LL ^ p) (k0 + 40 * p) q) ∧
    (p < W.many → (∀ q ∈ amL W rain (flowV W leads rain p).2 p, Lim (R * LL ^ p) (k0 + 40 * p) q) ∧ Lim (R * LL ^ p) (k0 + 40 * p + 4) (amL W rain (flowV W leads rain p).2 p).sum)
  | p, hp => by
    have base : (∀ q ∈ (flowV W leads rain p).1, Lim (R * LL ^ p) (k0 + 40 * p) q) ∧ (∀ q ∈ (flowV W leads rain p).2, Lim (R * LL ^ p) (k0 + 40 * p) q) := by
      match p, hp with
      | 0, _ => exact ⟨(fun q h => nomatch h), (fun q h => nomatch h)⟩
      | p + 1, hp =>
        obtain ⟨h1, h2, h3⟩ := flow_lim g leads r p (by omega)
        obtain ⟨h4, h5⟩ := h3 (by omega)
        obtain ⟨ps, e, gp⟩ := parts_at g (p := p) (by omega)
        have up : ∀ q, Lim (R * LL ^ p) (k0 + 40 * p + 4) q → Lim (R * LL ^ (p + 1)) (k0 + 40 * (p + 1)) q := fun q h => by
          rw [Nat.pow_succ, ← Nat.mul_assoc]
          exact (h.mul LL_pos LL_lt).up (by omega)
        refine ⟨fun q hq => ?_, fun q hq => ?_⟩
        · rcases List.mem_append.mp (show q ∈ (flowV W leads rain p).1 ++ [_] from hq) with z | z
          · exact up q ((h1 q z).up (by omega))
          · rw [List.mem_singleton.mp z]
            exact up _ h5
        · rcases List.mem_append.mp (show q ∈ (flowV W leads rain p).2 ++ bornV _ _ _ from hq) with z | z
          · exact up q ((h2 q z).up (by omega))
          · rw [e] at z
            have z : q ∈ ps.map (partV ps (amL W rain (flowV W leads rain p).2 p).sum) := by
              have z : q ∈ bornV ps _ _ := z
              unfold bornV at z
              split at z
              · exact z
              · exact List.mem_reverse.mp z
            obtain ⟨a, ha, rfl⟩ := List.mem_map.mp z
            obtain ⟨s1, s2, s3⟩ := parts_sum g rfl gp ha
            rw [Nat.pow_succ, ← Nat.mul_assoc]
            exact (h5.part s1 s2 s3).up (by omega)
    refine ⟨base.1, base.2, fun hlt => ?_⟩
    have h4 : ∀ q ∈ amL W rain (flowV W leads rain p).2 p, Lim (R * LL ^ p) (k0 + 40 * p) q := fun q hq => by
      rcases List.mem_cons.mp (show q ∈ _ :: intoV _ _ _ from hq) with z | z
      · rw [z]
        exact ((r.lim _ (getD_mem (by rw [r.len]; exact hlt))).mul (LLp_pos p) (LLp_le p)).up (by omega)
      · exact base.2 q (into_mem z)
    refine ⟨h4, Lim.sum h4 ?_⟩
    have := into_len W.beds (flowV W leads rain p).2 p
    have := g.few
    show (_ :: intoV _ _ _).length ≤ 15
    rw [List.length_cons]
    omega
theorem RLL_pos {W : WebV} {R k0 : Nat} {rain : List Rat} (r : RainOk W R k0 rain) (p : Nat) : 0 < R * LL ^ p := Nat.mul_pos r.r0 (LLp_pos p)
theorem RLL_lt {W : WebV} {R k0 : Nat} {rain : List Rat} (r : RainOk W R k0 rain) {p : Nat} (h : p ≤ 8) : R * LL ^ p < 2 ^ 1100 := by
  have : R * LL ^ p < 2 ^ 900 * 2 ^ 200 := by
    refine Nat.mul_lt_mul_of_lt_of_le r.rlt (Nat.le_trans (LLp_le p) (Nat.pow_le_pow_right (by decide) (by omega))) (Nat.two_pow_pos 200)
  rwa [← Nat.pow_add] at this
theorem flow_tots {W : WebV} {R k0 : Nat} {rain : List Rat} (g : GoodWeb W) (leads : List Bool) (r : RainOk W R k0 rain) {p : Nat} (h : p < W.many) : Tots (amL W rain (flowV W leads rain p).2 p) (R * LL ^ p) := by
  have h8 := g.m8
  have hk := r.k
  obtain ⟨_, _, h3⟩ := flow_lim g leads r p (by omega)
  obtain ⟨h4, _⟩ := h3 h
  refine ⟨RLL_pos r p, Nat.lt_trans (RLL_lt r (by omega)) (Nat.pow_lt_pow_right (by decide) (by decide)), fun q hq => (h4 q hq).den (RLL_pos r p), fun q hq => pow_le ((h4 q hq).num (RLL_pos r p)) (by omega), ?_⟩
  have := into_len W.beds (flowV W leads rain p).2 p
  have := g.few
  show (_ :: intoV _ _ _).length ≤ 100
  rw [List.length_cons]
  omega
theorem flow_szA {W : WebV} {R k0 : Nat} {rain : List Rat} (g : GoodWeb W) (leads : List Bool) (r : RainOk W R k0 rain) {p : Nat} (h : p < W.many) : Sz 1500 (amL W rain (flowV W leads rain p).2 p).sum := by
  have h8 := g.m8
  have hk := r.k
  obtain ⟨_, _, h3⟩ := flow_lim g leads r p (by omega)
  obtain ⟨_, h5⟩ := h3 h
  exact h5.sz (RLL_pos r p) (Nat.lt_trans (RLL_lt r (by omega)) (Nat.pow_lt_pow_right (by decide) (by decide))) (by omega)
theorem flow_szB {W : WebV} {R k0 : Nat} {rain : List Rat} (g : GoodWeb W) (leads : List Bool) (r : RainOk W R k0 rain) {p : Nat} (h : p ≤ W.many) : (∀ q ∈ (flowV W leads rain p).1, Sz 1500 q) ∧ ∀ q ∈ (flowV W leads rain p).2, Sz 1500 q := by
  have h8 := g.m8
  have hk := r.k
  obtain ⟨h1, h2, _⟩ := flow_lim g leads r p (by omega)
  exact ⟨fun q hq => (h1 q hq).sz (RLL_pos r p) (Nat.lt_trans (RLL_lt r (by omega)) (Nat.pow_lt_pow_right (by decide) (by decide))) (by omega),
    fun q hq => (h2 q hq).sz (RLL_pos r p) (Nat.lt_trans (RLL_lt r (by omega)) (Nat.pow_lt_pow_right (by decide) (by decide))) (by omega)⟩
end K64

namespace K64
open PySem PySem.Spec PyProof.Rows L2
/-! ### tuple(..) of a list or a tuple -/
def rTupO (K : PySem.W.Frag) : List V → Hp → VK → Prop := fun xs H Q => ∃ p ys, xs = [.ref p] ∧ ((SqL K H p ys ∧ ∀ l, H l = none → Q (.ref l) (upd H l (.tup ys))) ∨ (SqT K H p ys ∧ Q (.ref p) H))
theorem cr_tup {X : Cx} {K : PySem.W.Frag} (e : X.K = K) : CallR X (.type "tuple") (rTupO K) := by
  subst e
  exact call_tuple_of
end K64

namespace K64
open PySem PySem.Spec PyProof.Rows L2
/-! ### beds of a place, gaps, leads -/
theorem fromB_lt {bs : List Bed} {p k : Nat} (h : k ∈ fromB bs p) : k < bs.length := List.mem_range.mp (List.mem_filter.mp h).1
theorem fromB_len {bs : List Bed} {p : Nat} : (fromB bs p).length ≤ bs.length := by
  have := List.length_filter_le (fun k => decide ((bs[k]?).map Bed.s = some p)) (List.range bs.length)
  rw [List.length_range] at this
  exact this
def spFromB (K : PySem.W.Frag) (C CW : Addr) : Sp := fun vs H Q _ => ∃ (w : Addr) (W : WebV) (p : Nat), vs = [.ref w, .int (p : Int)] ∧ WebAt K C CW H w W ∧
  ∀ (H' : Hp) (l : Addr), Same H H' → H l = none → H' l = some (.lst ((fromB W.beds p).map natV)) → Q (.ref l) H'
def spGaps (K : PySem.W.Frag) (C CW : Addr) : Sp := fun vs H Q _ => ∃ (w d : Addr) (W : WebV) (ds : List Int), vs = [.ref w, .ref d] ∧ WebAt K C CW H w W ∧ SqT K H d (ds.map V.int) ∧ ds.length = W.beds.length ∧
  ∀ (H' : Hp) (t : Addr), Same H H' → H' t = some (.tup ((gapsV W ds).map V.int)) → Q (.ref t) H'
def spLeads (K : PySem.W.Frag) : Sp := fun vs H Q _ => ∃ (t : Addr) (gs : List Int), vs = [.ref t] ∧ SqT K H t (gs.map V.int) ∧ gs.length ≤ 100 ∧
  ∀ (H' : Hp) (u : Addr), Same H H' → H' u = some (.tup ((leadsV gs).map V.bl)) → Q (.ref u) H'
section
variable {P : Program} {w : World} {K : PySem.W.Frag} {mg : Str → Option Value} {base : Heap}
abbrev fromN : List Str := ["web", "place", "number", "bed"]
theorem scFromB : FnScope fromN ["web", "place"] (defScope d_beds_from) := ⟨rfl, rfl, rfl, by decide +kernel, rfl, by decide +kernel, by decide +kernel⟩
theorem ok_fromB {f C CW : Addr} {fd : FuncData} (F : Fun K "beds_from" "beds_from" d_beds_from f fd) (TW : CrsW K CW) (Y : TxtW mg C) : FnOk P w K mg base CX0 1 f fd ["web", "place"] (spFromB K C CW) := by
  refine F.ok scFromB (fun vs H Q E h => ?_) (fun cdv A outer s H vs Q E hr h => ?_)
  · obtain ⟨_, _, _, rfl, _⟩ := h
    rfl
  · obtain ⟨w0, W, p, rfl, hw, q⟩ := h
    obtain ⟨dx, b, pp, e, ⟨ts, hb, hts⟩, _, g⟩ := hw.old
    refine ⟨_, pss_one (ps_ret (pe_lc (own := [("number", 2), ("bed", 3)]) (g := gTup K 2 (gCons (gName 2) (gCons (gName 3) gNil))) (by rfl) scFromB.nd (pi_enum (by rfl) Y.enumerate (pa_cons (pe_fld (pv 0) rfl) pa_nil)) (blkOk_by (own := [("number", 2), ("bed", 3)]) (N := fromN) (sc := defScope d_beds_from) (by decide +kernel))
        (fun _ _ _ _ _ => pg_tup (by rfl) (pgs_cons (pg_name (i := 2) scFromB.nd rfl (.inl rfl)) (pgs_cons (pg_name (i := 3) scFromB.nd rfl (.inl rfl)) pgs_nil)))
        (fun _ _ _ _ _ => pts_one (pt_cmpR op_eq (pe_ix (show IxR _ (rIxT K) from ix_tup) (pv 3) pe_int (fun _ _ => rfl)) (pv 1) (nomark _))) (fun _ _ _ _ _ => pv 2))), ?_⟩
    have few := g.few
    have lt : ts.length = W.beds.length := hts.len
    refine ⟨_, rfl, w0, CW, dx, _, _, rfl, e, TW.cl, TW.nb, webF_beds .., b, _, rfl, hb, fun D hD => ?_⟩
    refine lc_it (walk_enum (K := K) (a := b) (xs := ts.map V.ref)) (fun i N => N D = some (.lst (((List.range i).filter fun k => decide ((W.beds[k]?).map Bed.s = some p)).map natV)) ∧ Same H N) ⟨upd_same, same1 hD⟩ ?_ ?_ ?_
    · rintro i N _ ⟨_, sN⟩
      exact sN.seq hb
    · rintro i x N N' hi ⟨eD, sN⟩ ⟨T, x1, x2, rfl, hT, rfl, e1, e2⟩
      obtain rfl := Option.some.inj e1
      have e2 : (ts.map V.ref)[i]? = some x2 := e2
      rw [List.getElem?_map] at e2
      obtain ⟨t, ht, rfl⟩ := Option.map_eq_some_iff.mp e2
      have il : i < W.beds.length := by
        have := (List.getElem?_eq_some_iff.mp ht).1
        omega
      have hbi : W.beds[i]? = some W.beds[i] := List.getElem?_eq_getElem il
      have s3 : Same N (upd N T (.tup [.int (i : Nat), .ref t])) := same1 hT
      refine ⟨T, _, rfl, SqT.of upd_same, rfl, _, _, rfl, _, _, rfl, rfl, rfl, ?_⟩
      generalize upd N T (.tup [.int (i : Nat), .ref t]) = N2 at *
      obtain ⟨_, _, q1, _, _⟩ := (hts.all i t _ ht hbi).mono (sN.trans s3)
      refine ⟨_, rfl, t, _, _, _, rfl, rfl, q1, at_k (by decide) rfl, _, rfl, rfl, _, rfl, ?_⟩
      have eD2 := s3 _ _ eD
      have sz : (((List.range i).filter fun k => decide ((W.beds[k]?).map Bed.s = some p)).map natV).length < sizeLine := by
        rw [List.length_map]
        refine Nat.lt_of_le_of_lt (List.length_filter_le _ _) ?_
        rw [List.length_range]
        exact Nat.lt_of_lt_of_le (show i < 12 by omega) (show 12 ≤ sizeLine by decide)
      refine ite2 (fun h => ?_) (fun h => ?_)
      · have h : (W.beds[i].s : Int) = (p : Int) := V.int.inj (of_decide_eq_true h)
        refine ⟨_, rfl, _, eD2, sz, ?_, fun a o ea => ?_⟩
        · rw [List.range_succ, List.filter_append, List.map_append, upd_same]
          have : (([i] : List Nat).filter fun k => decide ((W.beds[k]?).map Bed.s = some p)) = [i] := by
            rw [List.filter_cons, if_pos (by rw [hbi]; simp; omega)]
            rfl
          rw [this]
          rfl
        · rw [upd_ne (ne_of_none ea hD)]
          exact s3 _ _ (sN _ _ ea)
      · have h : ¬ (W.beds[i].s : Int) = (p : Int) := fun z => h (decide_eq_true (by rw [z]))
        refine ⟨?_, sN.trans s3⟩
        rw [List.range_succ, List.filter_append]
        have : (([i] : List Nat).filter fun k => decide ((W.beds[k]?).map Bed.s = some p)) = [] := by
          rw [List.filter_cons, if_neg (by rw [hbi]; simp; omega)]
          rfl
        rw [this, List.append_nil]
        exact eD2
    · rintro N ⟨eD, sN⟩
      rw [List.length_map, lt] at eD
      exact q N D sN hD eD
abbrev gapsN : List Str := ["web", "numbers", "gaps", "place", "here"]
theorem scGaps : FnScope gapsN ["web", "numbers"] (defScope d_gaps_of) := ⟨rfl, rfl, rfl, by decide +kernel, rfl, by decide +kernel, by decide +kernel⟩
theorem ok_gaps {f f1 C CW : Addr} {fd fd1 : FuncData} (F : Fun K "gaps_of" "gaps_of" d_gaps_of f fd) (TW : CrsW K CW) (Y : TxtW mg C) (hrange : mg "range" = none)
    (A1 : At P w K mg base CX0 1 "beds_from" ["web", "place"] (spFromB K C CW) f1 fd1) : FnOk P w K mg base CX0 2 f fd ["web", "numbers"] (spGaps K C CW) := by
  refine F.ok scGaps (fun vs H Q E h => ?_) (fun cdv A outer s H vs Q E hr h => ?_)
  · obtain ⟨_, _, _, _, rfl, _⟩ := h
    rfl
  · obtain ⟨w0, d, W, ds, rfl, hw, hd, ld, q⟩ := h
    refine ⟨_, pss_cons (ps_set (i := 2) scGaps.nd rfl (Or.inl rfl) (pe_lst pa_nil))
      (pss_cons (ps_for PassesOwn.never rfl (pi_range1 (by rfl) hrange (pa_cons (pe_fld (pv 0) rfl) pa_nil)) (pg_name (i := 3) scGaps.nd rfl (.inl rfl))
        (pss_cons (ps_set (i := 4) scGaps.nd rfl (Or.inl rfl) (pe_call A1.G hr rfl A1.m A1.k A1.b .nil pass0 (pa_cons (pv 0) (pa_cons (pv 3) pa_nil))))
        (pss_one (ps_expr (pe_bm PySem.F.plainAttrs_list PySem.F.slot_list_append PySem.F.type_list_append mt_append (pv 2) (pa_cons (pe_ifExp (pt_cmpR op_eq (pe_callB call_len_seq (by rfl) Y.len PySem.boot_len (pa_cons (pv 4) pa_nil)) pe_int (nomark _))
          (pe_op op_sub (pe_ix ix_tup (pv 1) (pe_ix ix_list (pv 4) pe_int (fun _ _ => rfl)) (fun _ _ => rfl)) (pe_ix ix_tup (pv 1) (pe_ix ix_list (pv 4) pe_int (fun _ _ => rfl)) (fun _ _ => rfl))) pe_int) pa_nil))))))
      (pss_one (ps_ret (pe_callTy (cr_tup (K := K) rfl) (by rfl) Y.tuple (by decide +kernel) (pa_cons (pv 2) pa_nil))))), ?_⟩
    have hw0 := hw
    obtain ⟨dx, b, pp, e, _, _, g⟩ := hw0
    have m8 := g.m8
    have few := g.few
    refine ⟨(by show 0 ≤ sizeLine; decide), fun D hD => ?_⟩
    have s0 : Same H (upd H D (.lst [])) := same1 hD
    have eD : (upd H D (.lst []) : Hp) D = some (.lst []) := upd_same
    generalize upd H D (.lst []) = H0 at *
    refine ⟨_, rfl, w0, CW, dx, _, _, rfl, s0 _ _ e, TW.cl, TW.nm, webF_many .., _, rfl, by omega, by omega, ?_⟩
    refine for_range (lo := 0) (n := W.many) (fun i σ N => (∃ v3 v4, σ = [some (.ref w0), some (.ref d), some (.ref D), v3, v4]) ∧ N D = some (.lst (((List.range i).map fun p => gap1 ds (fromB W.beds p)).map V.int)) ∧ Same H N) ⟨⟨none, none, rfl⟩, eD, s0⟩ ?_ ?_
    · rintro i σ N hi ⟨⟨v3, v4, rfl⟩, eN, sN⟩
      refine ⟨_, rfl, _, rfl, w0, W, i, ?_, hw.mono sN, fun N2 l s2 nl el => ?_⟩
      · rw [Int.zero_add]
        rfl
      have eN2 := s2 _ _ eN
      have nD : D ≠ l := fun z => by rw [z, nl] at eN; cases eN
      refine ⟨_, rfl, .inl ⟨rfl, _, SqL.of eN2⟩, _, rfl, l, _, rfl, .inl (SqL.of el), rfl, _, rfl, ?_⟩
      have fin : ∀ x : Int, gap1 ds (fromB W.beds i) = x → ∃ lp xs v, V.ref D = .ref lp ∧ [V.int x] = [v] ∧ N2 lp = some (.lst xs) ∧ xs.length < sizeLine ∧ ((∃ v3 v4, [some (V.ref w0), some (V.ref d), some (V.ref D), some (V.int (0 + (i : Int))), some (V.ref l)] = [some (.ref w0), some (.ref d), some (.ref D), v3, v4]) ∧ upd N2 lp (.lst (xs ++ [v])) D = some (.lst (((List.range (i + 1)).map fun p => gap1 ds (fromB W.beds p)).map V.int)) ∧ Same H (upd N2 lp (.lst (xs ++ [v])))) := fun x hx => by
        refine ⟨D, _, _, rfl, rfl, eN2, ?_, ⟨_, _, rfl⟩, ?_, fun a o ea => ?_⟩
        · rw [List.length_map, List.length_map, List.length_range]
          exact Nat.lt_of_lt_of_le (show i < 8 by omega) (show 8 ≤ sizeLine by decide)
        · rw [List.range_succ, List.map_append, List.map_append, upd_same]
          show some (HO.lst (_ ++ [V.int x])) = some (HO.lst (_ ++ [V.int (gap1 ds (fromB W.beds i))]))
          rw [hx]
        · rw [upd_ne (ne_of_none ea hD)]
          exact s2 _ _ (sN _ _ ea)
      refine ite2 (fun h => ?_) (fun h => ?_)
      · have h : (((fromB W.beds i).map natV).length : Int) = 2 := V.int.inj (of_decide_eq_true h)
        rw [List.length_map] at h
        obtain ⟨x, y, hxy⟩ : ∃ x y, fromB W.beds i = [x, y] := by
          match hf : fromB W.beds i, h with
          | [x, y], _ => exact ⟨x, y, rfl⟩
          | [], h => simp at h
          | [_], h => simp at h
          | _ :: _ :: _ :: _, h => simp at h; omega
        have hx : x < ds.length := by rw [ld]; exact fromB_lt (p := i) (by rw [hxy]; simp)
        have hy : y < ds.length := by rw [ld]; exact fromB_lt (p := i) (by rw [hxy]; simp)
        rw [hxy] at el
        have hdN := Same.tup (sN.trans s2) hd
        refine ⟨_, rfl, _, rfl, l, _, _, _, rfl, rfl, SqL.of el, at_k (by decide) rfl, d, _, _, _, rfl, rfl, hdN, atI_nat (v := .int ds[x]) (by rw [List.getElem?_map, List.getElem?_eq_getElem hx]; rfl), ?_⟩
        refine ⟨_, rfl, _, rfl, l, _, _, _, rfl, rfl, SqL.of el, at_k (by decide) rfl, d, _, _, _, rfl, rfl, hdN, atI_nat (v := .int ds[y]) (by rw [List.getElem?_map, List.getElem?_eq_getElem hy]; rfl), _, _, rfl, rfl, ?_⟩
        refine fin _ ?_
        rw [hxy]
        show (ds[x]?).getD 0 - (ds[y]?).getD 0 = _
        rw [List.getElem?_eq_getElem hx, List.getElem?_eq_getElem hy]
        rfl
      · refine fin _ ?_
        have h : ¬ (fromB W.beds i).length = 2 := fun z => h (decide_eq_true (by rw [List.length_map, z]; rfl))
        match hf : fromB W.beds i, h with
        | [x, y], h => exact absurd rfl h
        | [], h => rfl
        | [_], h => rfl
        | _ :: _ :: _ :: _, h => rfl
    · rintro σ N ⟨⟨v3, v4, rfl⟩, eN, sN⟩
      refine ⟨_, rfl, D, _, rfl, .inl ⟨SqL.of eN, fun u hu => ?_⟩⟩
      exact q _ u (sN.trans (same1 hu)) upd_same
theorem scLeads : FnScope ["gaps", "gap"] ["gaps"] (defScope d_leads_of) := ⟨rfl, rfl, rfl, by decide +kernel, rfl, by decide +kernel, by decide +kernel⟩
theorem ok_leads {f C : Addr} {fd : FuncData} (F : Fun K "leads_of" "leads_of" d_leads_of f fd) (Y : TxtW mg C) : FnOk P w K mg base CX0 1 f fd ["gaps"] (spLeads K) := by
  refine F.ok scLeads (fun vs H Q E h => ?_) (fun cdv A outer s H vs Q E hr h => ?_)
  · obtain ⟨_, _, rfl, _⟩ := h
    rfl
  · obtain ⟨t, gs, rfl, ht, few, q⟩ := h
    refine ⟨_, pss_one (ps_ret (pe_callTy (cr_tup (K := K) rfl) (by rfl) Y.tuple (by decide +kernel) (pa_cons
      (pe_lc (own := [("gap", 1)]) (g := gName 1) (by rfl) scLeads.nd (pi_tup (pv 0)) (blkOk_by (own := [("gap", 1)]) (N := ["gaps", "gap"]) (sc := defScope d_leads_of) (by decide +kernel)) (fun _ _ _ _ _ => pg_name (i := 1) scLeads.nd rfl (.inl rfl)) (fun _ _ _ _ _ => pts_nil)
        (fun _ _ _ _ _ => pe_cmpR op_ge (pv 1) pe_int (nomark _))) pa_nil))), ?_⟩
    refine ⟨_, rfl, t, rfl, ⟨_, ht⟩, fun D hD => ?_⟩
    refine lc_tup (K := K) (a := t) (xs := gs.map V.int) (fun i M => M D = some (.lst ((leadsV (gs.take i)).map V.bl)) ∧ Same H M) ⟨upd_same, same1 hD⟩ ?_ ?_ ?_
    · rintro i M _ ⟨_, sm⟩
      exact Same.tup sm ht
    · rintro i x M hx ⟨eD, sm⟩
      rw [List.getElem?_map] at hx
      obtain ⟨k, hk, rfl⟩ := Option.map_eq_some_iff.mp hx
      have ki : i < gs.length := (List.getElem?_eq_some_iff.mp hk).1
      have ek : gs[i] = k := Option.some.inj ((List.getElem?_eq_getElem ki).symm.trans hk)
      refine ⟨rfl, ?_⟩
      refine ⟨_, rfl, _, _, rfl, rfl, _, eD, ?_, ?_, fun b o e => ?_⟩
      · unfold leadsV
        rw [List.length_map, List.length_map, List.length_take]
        exact Nat.lt_of_le_of_lt (Nat.min_le_left _ _) (Nat.lt_of_lt_of_le ki (Nat.le_trans few (show 100 ≤ sizeLine by decide)))
      · refine Eq.trans upd_same ?_
        unfold leadsV
        rw [List.take_succ_eq_append_getElem ki, List.map_append, List.map_append, ek]
        rfl
      · rw [upd_ne (ne_of_none e hD)]
        exact sm _ _ e
    · rintro M ⟨eD, sm⟩
      rw [List.length_map, List.take_length] at eD
      refine ⟨D, _, rfl, .inl ⟨SqL.of eD, fun u hu => ?_⟩⟩
      exact q _ u (sm.trans (same1 hu)) upd_same
end
end K64

namespace K64
open PySem PySem.Spec PyProof.Rows L2
/-! ### sum(t) of a tuple of ints -/
def rSumT (K : PySem.W.Frag) : List V → Hp → VK → Prop := fun vs H Q => ∃ (a : Addr) (ns : List Int), vs = [V.ref a] ∧ SqT K H a (ns.map V.int) ∧ Q (.int ns.sum) H
theorem cr_sumT {X : Cx} (hc : X.calm = true) : CallR X (.builtin "sum") (rSumT X.K) := by
  intro pins s σ H vs us Q I r h
  obtain ⟨a, ns, rfl, hs, q⟩ := h
  obtain ⟨its, rv, ht, hz⟩ := I.tuple hs
  rw [Vals.ref1 r]
  have hi : IntsAre its ns := ints_of_vals rv
  have ht : s.heap.IsTuple a its.toArray := ht
  obtain ⟨xs, hx⟩ := hi.allInts.items
  have hn : numsOf its.toArray.toList = ns := by rw [show its.toArray.toList = its from rfl, hi.numsOf]
  rw [hx] at ht hn
  rw [nums_intItems] at hn
  refine PySem.W.ktm_sumG (I.ok.hd hc) ht fun h' tk t' hk => ?_
  rw [preSum_eq, List.take_of_length_le (by simp), hn]
  exact ⟨.int _, H, I.kept hk, ⟨_, rfl⟩, q⟩
end K64

namespace K64
open PySem PySem.Spec PyProof.Rows L2
/-! ### depths and rains that are ones, what beds of a place bear, how they move -/
def RainAt (C : Addr) (K : PySem.W.Frag) (H : Hp) (t : Addr) (qs : List Rat) : Prop := ∃ ps : List Addr, SqT K H t (ps.map V.ref) ∧ ShQs C H ps qs
theorem RainAt.mono {C : Addr} {K : PySem.W.Frag} {H H' : Hp} {t : Addr} {qs : List Rat} (h : RainAt C K H t qs) (s : Same H H') : RainAt C K H' t qs := by
  obtain ⟨ps, a, b⟩ := h
  exact ⟨ps, Same.tup s a, ShQs.mono b s⟩
/-- shares in a list of our own -/
def ShL (C : Addr) (H : Hp) (l : Addr) (qs : List Rat) : Prop := ∃ ps : List Addr, H l = some (.lst (ps.map V.ref)) ∧ ShQs C H ps qs
theorem ShL.mono {C : Addr} {H H' : Hp} {l : Addr} {qs : List Rat} (h : ShL C H l qs) (s : Same H H') : ShL C H' l qs := by
  obtain ⟨ps, a, b⟩ := h
  exact ⟨ps, s _ _ a, ShQs.mono b s⟩
def spDepthsG (K : PySem.W.Frag) (C CW : Addr) : Sp := fun vs H Q _ => ∃ (w d : Addr) (W : WebV) (ds : List Int), vs = [.ref w, .ref d] ∧ WebAt K C CW H w W ∧ SqT K H d (ds.map V.int) ∧ ds.length = W.beds.length ∧ ∀ H', Same H H' → Q (.bl true) H'
def spRainG (K : PySem.W.Frag) (C CW : Addr) : Sp := fun vs H Q _ => ∃ (w t : Addr) (W : WebV) (qs : List Rat), vs = [.ref w, .ref t] ∧ WebAt K C CW H w W ∧ RainAt C K H t qs ∧ qs.length = W.many ∧ (∀ q ∈ qs, 0 ≤ q) ∧ ∀ H', Same H H' → Q (.bl true) H'
def spCheckD (K : PySem.W.Frag) (C CW : Addr) : Sp := fun vs H Q _ => ∃ (w d : Addr) (W : WebV) (ds : List Int), vs = [.ref w, .ref d] ∧ WebAt K C CW H w W ∧ SqT K H d (ds.map V.int) ∧ ds.length = W.beds.length ∧ ∀ H', Same H H' → Q .non H'
def spCheckR (K : PySem.W.Frag) (C CW : Addr) : Sp := fun vs H Q _ => ∃ (w t : Addr) (W : WebV) (qs : List Rat), vs = [.ref w, .ref t] ∧ WebAt K C CW H w W ∧ RainAt C K H t qs ∧ qs.length = W.many ∧ (∀ q ∈ qs, 0 ≤ q) ∧ ∀ H', Same H H' → Q .non H'
def spBorneP (K : PySem.W.Frag) (C : Addr) : Sp := fun vs H Q _ => ∃ (t s : Addr) (ps : List Nat) (am : Rat) (b : Bool), vs = [.ref t, .ref s, .bl b] ∧ PartsAt K H t ps ∧ ShQ C H s am ∧ Sz 1500 am ∧ (∀ a ∈ ps, 1 ≤ ps.sum) ∧ ps.sum ≤ 18 ∧ ps.length ≤ 12 ∧
  ∀ (H' : Hp) (l : Addr), Same H H' → H l = none → ShL C H' l (bornV ps am b) → Q (.ref l) H'
def spMove (K : PySem.W.Frag) (C : Addr) : Sp := fun vs H Q _ => ∃ (t s : Addr) (b : Bed) (q : Rat), vs = [.ref t, .ref s] ∧ BedAt K C H t b ∧ ShQ C H s q ∧ Sz 1500 b.lo ∧ Sz 1500 b.hi ∧ Sz 1500 q ∧ Q (.int (mvV b q)) H
def spMoves (K : PySem.W.Frag) (C CW : Addr) : Sp := fun vs H Q _ => ∃ (w l : Addr) (W : WebV) (ps : List Addr) (qs : List Rat), vs = [.ref w, .ref l] ∧ WebAt K C CW H w W ∧ SqL K H l (ps.map V.ref) ∧ ShQs C H ps qs ∧ (∀ q ∈ qs, Sz 1500 q) ∧
  ∀ (H' : Hp) (r : Addr), Same H H' → H r = none → H' r = some (.lst ((movesV W.beds qs).map V.int)) → Q (.ref r) H'
theorem sum_cast : ∀ ps : List Nat, (ps.map fun n : Nat => (n : Int)).sum = ((ps.sum : Nat) : Int)
  | [] => rfl
  | a :: r => by
    rw [List.map_cons, List.sum_cons, sum_cast r, List.sum_cons]
    omega
theorem natV_map (ps : List Nat) : ps.map natV = (ps.map fun n : Nat => (n : Int)).map V.int := by
  rw [List.map_map]
  rfl
theorem num_nn {q : Rat} (h : 0 ≤ q) : (0 : Int) ≤ q.num := Rat.num_nonneg.mpr h
theorem lt_18 {n : Int} (h0 : 0 ≤ n) (h : n ≤ 18) : n.natAbs < 2 ^ 1500 := Nat.lt_of_lt_of_le (show n.natAbs < 2 ^ 5 by omega) (Nat.pow_le_pow_right (by decide) (by decide))
section
variable {P : Program} {w : World} {K : PySem.W.Frag} {mg : Str → Option Value} {base : Heap}
theorem scAreD : FnScope ["web", "thing", "depth"] ["web", "thing"] (defScope d_are_depths) := ⟨rfl, rfl, rfl, by decide +kernel, rfl, by decide +kernel, by decide +kernel⟩
theorem ok_areD {f f1 C CW : Addr} {fd fd1 : FuncData} (F : Fun K "are_depths" "are_depths" d_are_depths f fd) (TW : CrsW K CW) (Y : TxtW mg C)
    (A1 : At P w K mg base CX0 1 "is_whole" ["thing"] spWhole f1 fd1) : FnOk P w K mg base CX0 2 f fd ["web", "thing"] (spDepthsG K C CW) := by
  refine F.ok scAreD (fun vs H Q E h => ?_) (fun cdv A outer s H vs Q E hr h => ?_)
  · obtain ⟨_, _, _, _, rfl, _⟩ := h
    rfl
  · obtain ⟨w0, d, W, ds, rfl, hw, hd, ld, q⟩ := h
    refine ⟨_, pss_one (ps_ret (pe_and (pe_callB call_isi (by rfl) Y.isi (by decide +kernel) (pa_cons (pv 1) (pa_cons (pe_bltn (v := .ty "tuple") (by rfl) Y.tuple (by decide +kernel) rfl) pa_nil)))
      (pe_and (pe_cmpR op_eq (pe_callB call_len_seq (by rfl) Y.len PySem.boot_len (pa_cons (pv 1) pa_nil)) (pe_callB call_len_seq (by rfl) Y.len PySem.boot_len (pa_cons (pe_fld (pv 0) rfl) pa_nil)) (nomark _))
      (pe_one (pe_callB (cr_all rfl) (by rfl) Y.all (by decide +kernel) (pa_cons
        (pe_lc (own := [("depth", 2)]) (g := gName 2) (by rfl) scAreD.nd (pi_tup (pv 1)) (blkOk_by (own := [("depth", 2)]) (N := ["web", "thing", "depth"]) (sc := defScope d_are_depths) (by decide +kernel)) (fun _ _ _ _ _ => pg_name (i := 2) scAreD.nd rfl (.inl rfl)) (fun _ _ _ _ _ => pts_nil)
          (fun _ _ _ _ _ => pe_call A1.G hr rfl A1.m A1.k A1.b .nil pass0 (pa_cons (pv 2) pa_nil))) pa_nil)))))), ?_⟩
    obtain ⟨dx, b, pp, e, ⟨ts, hb, hts⟩, _, g⟩ := hw.old
    have few := g.few
    refine ⟨_, rfl, _, _, _, _, true, rfl, ClsV.ty _, ty_tup hd, kit_ty (by decide +kernel), true, rfl, iteT ?_⟩
    refine ⟨_, rfl, d, _, rfl, .inr hd, _, rfl, w0, CW, dx, _, _, rfl, e, TW.cl, TW.nb, webF_beds .., b, _, rfl, .inl hb, rfl, _, rfl, ?_⟩
    refine ite2 (fun _ => ?_) (fun hn => absurd (decide_eq_true (by rw [List.length_map, List.length_map, ld, hts.len])) hn)
    refine ⟨_, rfl, d, rfl, ⟨_, hd⟩, fun D hD => ?_⟩
    refine lc_tup (K := K) (a := d) (xs := ds.map V.int) (fun i M => M D = some (.lst ((List.replicate i true).map V.bl)) ∧ Same H M) ⟨upd_same, same1 hD⟩ ?_ ?_ ?_
    · rintro i M _ ⟨_, sm⟩
      exact Same.tup sm hd
    · rintro i x M hx ⟨eD, sm⟩
      rw [List.getElem?_map] at hx
      obtain ⟨k, hk, rfl⟩ := Option.map_eq_some_iff.mp hx
      have ki : i < ds.length := (List.getElem?_eq_some_iff.mp hk).1
      refine ⟨rfl, _, rfl, k, rfl, _, eD, (by rw [List.length_map, List.length_replicate]; exact Nat.lt_of_lt_of_le (show i < 12 by omega) (show 12 ≤ sizeLine by decide)), ?_, fun b o e => ?_⟩
      · rw [List.replicate_succ', List.map_append]
        exact upd_same
      · rw [upd_ne (ne_of_none e hD)]
        exact sm _ _ e
    · rintro M ⟨eD, sm⟩
      refine ⟨D, _, rfl, SqL.of eD, ?_⟩
      rw [all_true]
      exact q _ sm
theorem scIsR : FnScope ["web", "thing", "share"] ["web", "thing"] (defScope d_is_rain) := ⟨rfl, rfl, rfl, by decide +kernel, rfl, by decide +kernel, by decide +kernel⟩
theorem ok_isR {f C CW CN : Addr} {fd : FuncData} (F : Fun K "is_rain" "is_rain" d_is_rain f fd) (TW : CrsW K CW) (T : Txt K mg C CN) (Y : TxtW mg C) (IsSh : ∀ H p q, ShQ C H p q → TyX K H (.ref p) (.ref C)) (me : PySem.W.kitOne K (.ref C) (.ref C) = some true) :
    FnOk P w K mg base CX0 1 f fd ["web", "thing"] (spRainG K C CW) := by
  refine F.ok scIsR (fun vs H Q E h => ?_) (fun cdv A outer s H vs Q E hr h => ?_)
  · obtain ⟨_, _, _, _, rfl, _⟩ := h
    rfl
  · obtain ⟨w0, t, W, qs, rfl, hw, ⟨ps, ht, hps⟩, lq, nn, q⟩ := h
    refine ⟨_, pss_cons (ps_if (PW.pt (pw_or (pt_not (pt_val (pe_callB call_isi (by rfl) Y.isi (by decide +kernel) (pa_cons (pv 1) (pa_cons (pe_bltn (v := .ty "tuple") (by rfl) Y.tuple (by decide +kernel) rfl) pa_nil)))))
          (pw_or1 (pt_cmpR op_ne (pe_callB call_len_seq (by rfl) Y.len PySem.boot_len (pa_cons (pv 1) pa_nil)) (pe_fld (pv 0) rfl) (nomark _))))) (pss_one (ps_ret pe_bl)) pss_nil)
      (pss_one (ps_ret (pe_callB (cr_all rfl) (by rfl) Y.all (by decide +kernel) (pa_cons
        (pe_lc (own := [("share", 2)]) (g := gName 2) (by rfl) scIsR.nd (pi_tup (pv 1)) (blkOk_by (own := [("share", 2)]) (N := ["web", "thing", "share"]) (sc := defScope d_is_rain) (by decide +kernel)) (fun _ _ _ _ _ => pg_name (i := 2) scIsR.nd rfl (.inl rfl)) (fun _ _ _ _ _ => pts_nil)
          (fun _ _ _ _ _ => pe_and (pe_callB (show CallR _ (.builtin "isinstance") (rIsi K) from call_isi) (by rfl) Y.isi (by decide +kernel) (pa_cons (pv 2) (pa_cons (pe_glob (v := .ref C) rfl Y.sh rfl) pa_nil))) (pe_one (pe_cmpR op_ge (show PE _ _ (tFld K (tVar 2) "top") from pe_fld (pv 2) rfl) pe_int (nomark _))))) pa_nil)))), ?_⟩
    obtain ⟨dx, b, pp, e, _, _, g⟩ := hw
    have m8 := g.m8
    have lp : (ps.map V.ref).length = W.many := by rw [List.length_map, hps.len, lq]
    refine ⟨_, rfl, _, _, _, _, true, rfl, ClsV.ty _, ty_tup ht, kit_ty (by decide +kernel), true, rfl, iteF ?_⟩
    refine ⟨_, rfl, t, _, rfl, .inr ht, _, rfl, w0, CW, dx, _, _, rfl, e, TW.cl, TW.nm, webF_many .., rfl, _, rfl, iteNS (by rw [lp]) ?_⟩
    refine ⟨_, rfl, t, rfl, ⟨_, ht⟩, fun D hD => ?_⟩
    refine lc_tup (K := K) (a := t) (xs := ps.map V.ref) (fun i M => M D = some (.lst ((List.replicate i true).map V.bl)) ∧ Same H M) ⟨upd_same, same1 hD⟩ ?_ ?_ ?_
    · rintro i M _ ⟨_, sm⟩
      exact Same.tup sm ht
    · rintro i x M hx ⟨eD, sm⟩
      rw [List.getElem?_map] at hx
      obtain ⟨p, hp, rfl⟩ := Option.map_eq_some_iff.mp hx
      have il : i < qs.length := by
        have := (List.getElem?_eq_some_iff.mp hp).1
        have h2 := hps.len
        omega
      have hq : qs[i]? = some qs[i] := List.getElem?_eq_getElem il
      have hs := (hps.all i p _ hp hq).mono sm
      have n0 := num_nn (nn _ (List.getElem_mem il))
      have hs2 := hs
      obtain ⟨dp, ep⟩ := hs2
      refine ⟨rfl, ?_⟩
      refine ⟨_, rfl, _, _, _, _, true, rfl, ClsV.own C, IsSh _ _ _ hs, me, true, rfl, iteT ?_⟩
      refine ⟨_, rfl, p, C, dp, _, _, rfl, ep, T.cl, T.nT, shf_top .., _, _, rfl, rfl, _, eD, (by rw [List.length_map, List.length_replicate]; exact Nat.lt_of_lt_of_le (show i < 8 by omega) (show 8 ≤ sizeLine by decide)), ?_, fun b o e => ?_⟩
      · refine Eq.trans upd_same ?_
        show some (HO.lst (_ ++ [V.bl (decide ((0 : Int) ≤ qs[i].num))])) = _
        rw [decide_eq_true n0, List.replicate_succ', List.map_append]
        rfl
      · rw [upd_ne (ne_of_none e hD)]
        exact sm _ _ e
    · rintro M ⟨eD, sm⟩
      refine ⟨D, _, rfl, SqL.of eD, ?_⟩
      rw [all_true]
      exact q _ sm
theorem scCheckD : FnScope ["web", "thing"] ["web", "thing"] (defScope d_check_depths) := ⟨rfl, rfl, rfl, by decide +kernel, rfl, by decide +kernel, by decide +kernel⟩
theorem ok_checkD {f f1 C CW : Addr} {fd fd1 : FuncData} (F : Fun K "check_depths" "check_depths" d_check_depths f fd)
    (A1 : At P w K mg base CX0 2 "are_depths" ["web", "thing"] (spDepthsG K C CW) f1 fd1) : FnOk P w K mg base CX0 3 f fd ["web", "thing"] (spCheckD K C CW) := by
  refine F.ok scCheckD (fun vs H Q E h => ?_) (fun cdv A outer s H vs Q E hr h => ?_)
  · obtain ⟨_, _, _, _, rfl, _⟩ := h
    rfl
  · obtain ⟨w0, d, W, ds, rfl, hw, hd, ld, q⟩ := h
    refine ⟨_, pss_one (ps_if (pt_not (pt_val (pe_call A1.G hr rfl A1.m A1.k A1.b .nil pass0 (pa_cons (pv 0) (pa_cons (pv 1) pa_nil))))) (pss_one ps_never) pss_nil), ?_⟩
    exact ⟨_, rfl, _, rfl, w0, d, W, ds, rfl, hw, hd, ld, fun H1 s1 => ⟨true, rfl, iteF (q H1 s1)⟩⟩
theorem scCheckR : FnScope ["web", "thing"] ["web", "thing"] (defScope d_check_rain) := ⟨rfl, rfl, rfl, by decide +kernel, rfl, by decide +kernel, by decide +kernel⟩
theorem ok_checkR {f f1 C CW : Addr} {fd fd1 : FuncData} (F : Fun K "check_rain" "check_rain" d_check_rain f fd)
    (A1 : At P w K mg base CX0 1 "is_rain" ["web", "thing"] (spRainG K C CW) f1 fd1) : FnOk P w K mg base CX0 2 f fd ["web", "thing"] (spCheckR K C CW) := by
  refine F.ok scCheckR (fun vs H Q E h => ?_) (fun cdv A outer s H vs Q E hr h => ?_)
  · obtain ⟨_, _, _, _, rfl, _⟩ := h
    rfl
  · obtain ⟨w0, t, W, qs, rfl, hw, ht, lq, nn, q⟩ := h
    refine ⟨_, pss_one (ps_if (pt_not (pt_val (pe_call A1.G hr rfl A1.m A1.k A1.b .nil pass0 (pa_cons (pv 0) (pa_cons (pv 1) pa_nil))))) (pss_one ps_never) pss_nil), ?_⟩
    exact ⟨_, rfl, _, rfl, w0, t, W, qs, rfl, hw, ht, lq, nn, fun H1 s1 => ⟨true, rfl, iteF (q H1 s1)⟩⟩
theorem scMove : FnScope ["bed", "share", "_", "low", "high"] ["bed", "share"] (defScope d_move_of) := ⟨rfl, rfl, rfl, by decide +kernel, rfl, by decide +kernel, by decide +kernel⟩
theorem ok_move {f f1 C : Addr} {fd fd1 : FuncData} (F : Fun K "move_of" "move_of" d_move_of f fd)
    (A1 : At P w K mg base CX0 1 "less" ["one", "other"] (spLessQ C) f1 fd1) : FnOk P w K mg base CX0 2 f fd ["bed", "share"] (spMove K C) := by
  refine F.ok scMove (fun vs H Q E h => ?_) (fun cdv A outer s H vs Q E hr h => ?_)
  · obtain ⟨_, _, _, _, rfl, _⟩ := h
    rfl
  · obtain ⟨t, s0, b, q, rfl, ⟨x, y, ht, hx, hy⟩, hs, slo, shi, sq, kq⟩ := h
    refine ⟨_, pss_cons (ps_asg (pv 0) (pg_tup (by rfl) (pgs_cons (pg_name (i := 2) scMove.nd rfl (.inl rfl)) (pgs_cons (pg_name (i := 2) scMove.nd rfl (.inl rfl)) (pgs_cons (pg_name (i := 3) scMove.nd rfl (.inl rfl)) (pgs_cons (pg_name (i := 4) scMove.nd rfl (.inl rfl)) pgs_nil))))))
      (pss_cons (ps_if (pt_not (pt_val (pe_call A1.G hr rfl A1.m A1.k A1.b .nil pass0 (pa_cons (pv 1) (pa_cons (pv 4) pa_nil))))) (pss_one (ps_ret pe_int)) pss_nil)
      (pss_one (ps_ret (pe_ifExp (pt_val (pe_call A1.G hr rfl A1.m A1.k A1.b .nil pass0 (pa_cons (pv 3) (pa_cons (pv 1) pa_nil)))) pe_int (pe_un un_neg pe_int))))), ?_⟩
    refine ⟨_, rfl, t, _, rfl, ht, rfl, _, _, rfl, _, _, rfl, _, _, rfl, _, _, rfl, rfl, ?_⟩
    refine ⟨_, rfl, _, rfl, s0, y, q, b.hi, rfl, hs, hy, sq, shi, _, rfl, ?_⟩
    by_cases c1 : q < b.hi
    · rw [decide_eq_true c1]
      refine iteF ?_
      refine ⟨_, rfl, _, rfl, x, s0, b.lo, q, rfl, hx, hs, slo, sq, _, rfl, ?_⟩
      have n1 : ¬ b.hi ≤ q := Rat.not_le.mpr c1
      by_cases c2 : b.lo < q
      · rw [decide_eq_true c2]
        refine iteT ?_
        have e : mvV b q = 0 := by unfold mvV; rw [if_neg n1, if_pos c2]
        rw [e] at kq
        exact kq
      · rw [decide_eq_false c2]
        refine iteF ?_
        have e : mvV b q = -1 := by unfold mvV; rw [if_neg n1, if_neg c2]
        rw [e] at kq
        exact ⟨_, rfl, kq⟩
    · rw [decide_eq_false c1]
      refine iteT ?_
      have e : mvV b q = 1 := by unfold mvV; rw [if_pos (Rat.not_lt.mp c1)]
      rw [e] at kq
      exact kq
theorem scMoves : FnScope ["web", "bears", "bed", "share"] ["web", "bears"] (defScope d_moves_of) := ⟨rfl, rfl, rfl, by decide +kernel, rfl, by decide +kernel, by decide +kernel⟩
theorem ok_moves {f f1 C CW : Addr} {fd fd1 : FuncData} (F : Fun K "moves_of" "moves_of" d_moves_of f fd) (TW : CrsW K CW) (hzip : mg "zip" = none)
    (A1 : At P w K mg base CX0 2 "move_of" ["bed", "share"] (spMove K C) f1 fd1) : FnOk P w K mg base CX0 3 f fd ["web", "bears"] (spMoves K C CW) := by
  refine F.ok scMoves (fun vs H Q E h => ?_) (fun cdv A outer s H vs Q E hr h => ?_)
  · obtain ⟨_, _, _, _, _, rfl, _⟩ := h
    rfl
  · obtain ⟨w0, l, W, ps, qs, rfl, hw, hl, hps, sz, q⟩ := h
    refine ⟨_, pss_one (ps_ret (pe_lc (own := [("bed", 2), ("share", 3)]) (g := gTup K 2 (gCons (gName 2) (gCons (gName 3) gNil))) (by rfl) scMoves.nd (pi_zip (by rfl) hzip (pa_cons (pe_fld (pv 0) rfl) (pa_cons (pv 1) pa_nil))) (blkOk_by (own := [("bed", 2), ("share", 3)]) (N := ["web", "bears", "bed", "share"]) (sc := defScope d_moves_of) (by decide +kernel))
        (fun _ _ _ _ _ => pg_tup (by rfl) (pgs_cons (pg_name (i := 2) scMoves.nd rfl (.inl rfl)) (pgs_cons (pg_name (i := 3) scMoves.nd rfl (.inl rfl)) pgs_nil))) (fun _ _ _ _ _ => pts_nil)
        (fun _ _ _ _ _ => pe_call A1.G hr rfl A1.m A1.k A1.b .nil pass0 (pa_cons (pv 2) (pa_cons (pv 3) pa_nil))))), ?_⟩
    obtain ⟨dx, b, pp, e, ⟨ts, hb, hts⟩, _, g⟩ := hw.old
    have few := g.few
    have lt : ts.length = W.beds.length := hts.len
    have lp : ps.length = qs.length := hps.len
    refine ⟨_, rfl, w0, CW, dx, _, _, rfl, e, TW.cl, TW.nb, webF_beds .., _, rfl, b, l, _, _, rfl, hb, hl, fun D hD => ?_⟩
    refine lc_it (walk_zip (K := K) (a := b) (b := l) (xs := ts.map V.ref) (ys := ps.map V.ref) rfl) (fun i N => N D = some (.lst ((((W.beds.zip qs).take i).map fun x => mvV x.1 x.2).map V.int)) ∧ Same H N) ⟨upd_same, same1 hD⟩ ?_ ?_ ?_
    · rintro i N _ ⟨_, sN⟩
      exact ⟨sN.seq hb, sN.seq hl⟩
    · rintro i x N N' hi ⟨eD, sN⟩ ⟨T, x1, x2, rfl, hT, rfl, e1, e2⟩
      have e1 : (ts.map V.ref)[i]? = some x1 := e1
      have e2 : (ps.map V.ref)[i]? = some x2 := e2
      rw [List.getElem?_map] at e1 e2
      obtain ⟨t, ht, rfl⟩ := Option.map_eq_some_iff.mp e1
      obtain ⟨p, hp, rfl⟩ := Option.map_eq_some_iff.mp e2
      have il : i < W.beds.length := by
        have := (List.getElem?_eq_some_iff.mp ht).1
        omega
      have iq : i < qs.length := by
        have := (List.getElem?_eq_some_iff.mp hp).1
        omega
      have hbi : W.beds[i]? = some W.beds[i] := List.getElem?_eq_getElem il
      have hqi : qs[i]? = some qs[i] := List.getElem?_eq_getElem iq
      have s3 : Same N (upd N T (.tup [.ref t, .ref p])) := same1 hT
      refine ⟨T, _, rfl, SqT.of upd_same, rfl, _, _, rfl, _, _, rfl, rfl, rfl, ?_⟩
      generalize upd N T (.tup [.ref t, .ref p]) = N2 at *
      have s2 := sN.trans s3
      have gb := g.bed _ (List.getElem_mem il)
      have iz : i < (W.beds.zip qs).length := by rw [List.length_zip]; omega
      refine ⟨_, rfl, _, rfl, t, p, W.beds[i], qs[i], rfl, (hts.all i t _ ht hbi).mono s2, (hps.all i p _ hp hqi).mono s2, gb.slo, gb.shi, sz _ (List.getElem_mem iq), ?_⟩
      refine ⟨_, s3 _ _ eD, ?_, ?_, fun a o ea => ?_⟩
      · rw [List.length_map, List.length_map, List.length_take]
        exact Nat.lt_of_le_of_lt (Nat.min_le_left _ _) (Nat.lt_of_lt_of_le (show i < 12 by omega) (show 12 ≤ sizeLine by decide))
      · rw [List.take_succ_eq_append_getElem iz, List.map_append, List.map_append, upd_same, List.getElem_zip]
        rfl
      · rw [upd_ne (ne_of_none ea hD)]
        exact s3 _ _ (sN _ _ ea)
    · rintro N ⟨eD, sN⟩
      rw [List.length_map, List.length_map, lt, lp, List.take_of_length_le (by rw [List.length_zip]; omega)] at eD
      exact q N D sN hD eD
abbrev pbN : List Str := ["parts", "amount", "ahead_is_first", "whole", "shares", "part"]
theorem scPB : FnScope pbN ["parts", "amount", "ahead_is_first"] (defScope d_parts_borne) := ⟨rfl, rfl, rfl, by decide +kernel, rfl, by decide +kernel, by decide +kernel⟩
theorem ok_pb {f f1 fI C CN : Addr} {fd fd1 fdI : FuncData} (F : Fun K "parts_borne" "parts_borne" d_parts_borne f fd) (T : Txt K mg C CN) (hsum : mg "sum" = none)
    (M : Mk K C fI) (GI : FnOk P w K mg base (L2.CX P w) 2 fI fdI ["self", "top", "bottom"] (spInit C CN)) (bI : Binds K fdI ["self", "top", "bottom"] [])
    (A1 : At P w K mg base CX0 4 "times" ["one", "other"] (spTwoQ C fun p q => p * q) f1 fd1) : FnOk P w K mg base CX0 5 f fd ["parts", "amount", "ahead_is_first"] (spBorneP K C) := by
  refine F.ok scPB (fun vs H Q E h => ?_) (fun cdv A outer s H vs Q E hr h => ?_)
  · obtain ⟨_, _, _, _, _, rfl, _⟩ := h
    rfl
  · obtain ⟨t, s0, ps, am, b, rfl, ht, hs, sA, s1, s18, few, q⟩ := h
    have r3 : Room 3 _ := hr.mono (by decide)
    refine ⟨_, pss_cons (ps_set (i := 3) scPB.nd rfl (Or.inr rfl) (pe_callB (cr_sumT rfl) (by rfl) hsum (by decide +kernel) (pa_cons (pv 0) pa_nil)))
      (pss_cons (ps_setLc (i := 4) (own := [("part", 5)]) (g := gName 5) (by rfl) scPB.nd rfl rfl (sw_true rfl rfl rfl (by decide +kernel)) (pi_tup (pv 0)) (blkOk_by (own := [("part", 5)]) (N := pbN) (sc := defScope d_parts_borne) (by decide +kernel)) (fun _ _ _ _ _ => pg_name (i := 5) scPB.nd rfl (.inl rfl)) (fun _ _ _ _ _ => pts_nil)
          (fun _ _ _ _ _ => pe_call A1.G hr rfl A1.m A1.k A1.b .nil pass0 (pa_cons (pv 1) (pa_cons (pe_make M GI r3 rfl T.mgC bI .nil passL (pa_cons (pv 5) (pa_cons (pv 3) pa_nil))) pa_nil))))
      (pss_one (ps_ret (pe_ifExp (pt_val (pv 2)) (pv 4) (pe_revL (pv 4)))))), ?_⟩
    refine ⟨_, rfl, t, ps.map (fun n : Nat => (n : Int)), rfl, (by rw [← natV_map]; exact ht), ?_⟩
    rw [sum_cast]
    refine ⟨_, rfl, t, rfl, ⟨_, ht⟩, fun D hD => ?_⟩
    refine lc_tup (K := K) (a := t) (xs := ps.map natV) (fun i N => ∃ us : List Addr, N D = some (.lst (us.map V.ref)) ∧ ShQs C N us ((ps.take i).map (partV ps am)) ∧ Same H N) ⟨[], upd_same, .nil, same1 hD⟩ ?_ ?_ ?_
    · rintro i N _ ⟨_, _, _, sN⟩
      exact Same.tup sN ht
    · rintro i x N hx ⟨us, eD, hus, sN⟩
      rw [List.getElem?_map] at hx
      obtain ⟨k, hk, rfl⟩ := Option.map_eq_some_iff.mp hx
      have ki : i < ps.length := (List.getElem?_eq_some_iff.mp hk).1
      have ek : ps[i] = k := Option.some.inj ((List.getElem?_eq_getElem ki).symm.trans hk)
      have km := List.mem_of_getElem? hk
      have w1 := s1 k km
      have kle := sum_nat_mem km
      refine ⟨rfl, _, rfl, _, rfl, _, rfl, fun p dp np nd nex => ?_⟩
      have nz : ((ps.sum : Nat) : Int) ≠ 0 := by omega
      have z1 : ((k : Nat) : Int).natAbs < 2 ^ 1500 := lt_18 (by omega) (by omega)
      have z2 : ((ps.sum : Nat) : Int).natAbs < 2 ^ 1500 := lt_18 (by omega) (by omega)
      refine ⟨p, dp, _, _, rfl, upd_same, pow_le z1 (by decide), pow_le z2 (by decide), fun z => absurd z nz, fun _ N1 e1 ka => ⟨rfl, ?_⟩⟩
      have m1 : Same N N1 := made_same (C := C) np nd ka
      have hp : ShQ C N1 p (ratI k / ratI ps.sum) := shq_low nz ⟨dp, e1⟩
      refine ⟨s0, p, am, _, rfl, hs.mono (sN.trans m1), hp, sA, sz_div nz z1 z2, fun N2 r m2 nr hr2 => ?_⟩
      have m12 := m1.trans m2
      have eD2 := m12 _ _ eD
      refine ⟨_, eD2, ?_, us ++ [r], by rw [List.map_append]; exact upd_same, ?_, fun a o ea => ?_⟩
      · rw [List.length_map, hus.len, List.length_map, List.length_take]
        exact Nat.lt_of_le_of_lt (Nat.min_le_left _ _) (Nat.lt_of_lt_of_le (show i < 12 by omega) (show 12 ≤ sizeLine by decide))
      · rw [List.take_succ_eq_append_getElem ki, List.map_append, ek]
        have kk : ∀ {a : Addr} {q : Rat}, ShQ C N2 a q → ShQ C (upd N2 D (.lst (us.map V.ref ++ [.ref r]))) a q := fun {a q} ⟨d0, z⟩ => ⟨d0, by rw [upd_ne (fun y => by rw [y, eD2] at z; cases z)]; exact z⟩
        exact (All2.mono hus fun a q _ _ z => kk (ShQ.mono z m12)).snoc (kk hr2)
      · rw [upd_ne (ne_of_none ea hD)]
        exact m12 _ _ (sN _ _ ea)
    · rintro N ⟨us, eD, hus, sN⟩
      rw [List.length_map, List.take_length] at hus
      refine ⟨_, rfl, b, rfl, ?_⟩
      cases b with
      | true =>
        refine iteT ⟨_, rfl, q N D sN hD ⟨us, eD, ?_⟩⟩
        exact hus
      | false =>
        refine iteF ⟨_, rfl, D, _, rfl, SqL.of eD, fun r nr => ?_⟩
        have m2 : Same N (upd N r (.lst (us.map V.ref).reverse)) := same1 nr
        refine q _ r (sN.trans m2) ?_ ⟨us.reverse, by rw [List.map_reverse]; exact upd_same, (ShQs.mono hus m2).rev⟩
        cases e : H r with
        | none => rfl
        | some o =>
          have := sN _ _ e
          rw [nr] at this
          cases this
end
end K64

namespace K64
open PySem PySem.Spec PyProof.Rows L2
/-! ### what the waters of a day do -/
def spFlow (K : PySem.W.Frag) (C CW : Addr) : Sp := fun vs H Q _ => ∃ (w t r : Addr) (W : WebV) (leads : List Bool) (rain : List Rat) (R k0 : Nat), vs = [.ref w, .ref t, .ref r] ∧ WebAt K C CW H w W ∧ SqT K H t (leads.map V.bl) ∧ leads.length = W.many ∧ RainAt C K H r rain ∧ RainOk W R k0 rain ∧
  ∀ (H' : Hp) (u wl bl : Addr), Same H H' → H' u = some (.tup [.ref wl, .ref bl]) → H wl = none → H bl = none → wl ≠ bl → ShL C H' wl (flowV W leads rain W.many).1 → ShL C H' bl (flowV W leads rain W.many).2 → Q (.ref u) H'
/-- all but the list at D stays, which is a list -/
theorem ShQs.put {C : Addr} {H : Hp} {D : Addr} {xs ys : List V} {us : List Addr} {qs : List Rat} (e : H D = some (.lst xs)) (h : ShQs C H us qs) : ShQs C (upd H D (.lst ys)) us qs :=
  All2.mono h fun a q _ _ ⟨d0, z⟩ => ⟨d0, by rw [upd_ne (fun y => by rw [y, e] at z; cases z)]; exact z⟩
theorem ShQ.put {C : Addr} {H : Hp} {D : Addr} {xs ys : List V} {a : Addr} {q : Rat} (e : H D = some (.lst xs)) (h : ShQ C H a q) : ShQ C (upd H D (.lst ys)) a q := by
  obtain ⟨d0, z⟩ := h
  exact ⟨d0, by rw [upd_ne (fun y => by rw [y, e] at z; cases z)]; exact z⟩
theorem All2.app {α β : Type} {R : α → β → Prop} {as as' : List α} {bs bs' : List β} (h : All2 R as bs) (g : All2 R as' bs') : All2 R (as ++ as') (bs ++ bs') := by
  refine ⟨by rw [List.length_append, List.length_append, h.len, g.len], fun i x y hx hy => ?_⟩
  by_cases c : i < as.length
  · rw [List.getElem?_append_left c] at hx
    rw [List.getElem?_append_left (by rw [← h.len]; exact c)] at hy
    exact h.all i x y hx hy
  · rw [List.getElem?_append_right (by omega)] at hx
    rw [List.getElem?_append_right (by rw [← h.len]; omega), ← h.len] at hy
    exact g.all _ x y hx hy
theorem into_take {bs : List Bed} {bears : List Rat} {p i : Nat} (h : i < (bears.zip bs).length) :
    ((((bears.zip bs).take (i + 1)).filter fun x => decide (x.2.e = p)).map Prod.fst) = ((((bears.zip bs).take i).filter fun x => decide (x.2.e = p)).map Prod.fst) ++ (if ((bears.zip bs)[i]).2.e = p then [((bears.zip bs)[i]).1] else []) := by
  rw [List.take_succ_eq_append_getElem h, List.filter_append, List.map_append]
  by_cases c : ((bears.zip bs)[i]).2.e = p
  · rw [if_pos c, List.filter_cons, if_pos (by simp only [decide_eq_true_eq]; exact c)]
    rfl
  · rw [if_neg c, List.filter_cons, if_neg (by simp only [decide_eq_true_eq]; exact c)]
    rfl
section
variable {P : Program} {w : World} {K : PySem.W.Frag} {mg : Str → Option Value} {base : Heap}
abbrev flowN : List Str := ["web", "leads", "rain", "waters", "bears", "place", "amount", "share", "bed"]
theorem scFlow : FnScope flowN ["web", "leads", "rain"] (defScope d_flow_of) := ⟨rfl, rfl, rfl, by decide +kernel, rfl, by decide +kernel, by decide +kernel⟩
theorem ok_flow {f f1 f2 C CW : Addr} {fd fd1 fd2 : FuncData} (F : Fun K "flow_of" "flow_of" d_flow_of f fd) (TW : CrsW K CW) (hzip : mg "zip" = none) (hrange : mg "range" = none)
    (A1 : At P w K mg base CX0 4 "total" ["shares"] (spTotalQ K C) f1 fd1) (A2 : At P w K mg base CX0 5 "parts_borne" ["parts", "amount", "ahead_is_first"] (spBorneP K C) f2 fd2) : FnOk P w K mg base CX0 6 f fd ["web", "leads", "rain"] (spFlow K C CW) := by
  refine F.ok scFlow (fun vs H Q E h => ?_) (fun cdv A outer s H vs Q E hr h => ?_)
  · obtain ⟨_, _, _, _, _, _, _, _, rfl, _⟩ := h
    rfl
  · obtain ⟨w0, t, r, W, leads, rain, R, k0, rfl, hw, ht, lt, hrn, ro, q⟩ := h
    have r4 : Room 4 _ := hr.mono (by decide)
    refine ⟨_, pss_cons (ps_set (i := 3) scFlow.nd rfl (Or.inl rfl) (pe_lst pa_nil))
      (pss_cons (ps_set (i := 4) scFlow.nd rfl (Or.inl rfl) (pe_lst pa_nil))
      (pss_cons (ps_for PassesOwn.never rfl (pi_range1 (by rfl) hrange (pa_cons (pe_fld (pv 0) rfl) pa_nil)) (pg_name (i := 5) scFlow.nd rfl (.inr rfl))
        (pss_cons (ps_set (i := 6) scFlow.nd rfl (Or.inl rfl) (pe_call A1.G r4 rfl A1.m A1.k A1.b .nil pass0 (pa_cons (pe_op op_cat (pe_lst (pa_cons (pe_ix ix_tup (pv 2) (pv 5) (fun _ _ => rfl)) pa_nil))
          (pe_lc (own := [("share", 7), ("bed", 8)]) (g := gTup K 2 (gCons (gName 7) (gCons (gName 8) gNil))) (by rfl) scFlow.nd (pi_zip (by rfl) hzip (pa_cons (pv 4) (pa_cons (pe_fld (pv 0) rfl) pa_nil))) (blkOk_by (own := [("share", 7), ("bed", 8)]) (N := flowN) (sc := defScope d_flow_of) (by decide +kernel))
            (fun _ _ _ _ _ => pg_tup (by rfl) (pgs_cons (pg_name (i := 7) scFlow.nd rfl (.inl rfl)) (pgs_cons (pg_name (i := 8) scFlow.nd rfl (.inl rfl)) pgs_nil)))
            (fun _ _ _ _ _ => pts_one (pt_cmpR op_eq (pe_ix (show IxR _ (rIxT K) from ix_tup) (pv 8) pe_int (fun _ _ => rfl)) (pv 5) (nomark _))) (fun _ _ _ _ _ => pv 7))) pa_nil)))
        (pss_cons (ps_expr (pe_bm PySem.F.plainAttrs_list PySem.F.slot_list_append PySem.F.type_list_append mt_append (pv 3) (pa_cons (pv 6) pa_nil)))
        (pss_one (ps_set (i := 4) scFlow.nd rfl (Or.inl rfl) (pe_op op_cat (pv 4) (pe_call A2.G hr rfl A2.m A2.k A2.b .nil pass0 (pa_cons (pe_ix ix_list (pe_fld (pv 0) rfl) (pv 5) (fun _ _ => rfl)) (pa_cons (pv 6) (pa_cons (pe_ix ix_tup (pv 1) (pv 5) (fun _ _ => rfl)) pa_nil))))))))))
      (pss_one (ps_ret (pe_tup (pa_cons (pv 3) (pa_cons (pv 4) pa_nil))))))), ?_⟩
    obtain ⟨dx, b, pp, e, ⟨ts, hb, hts⟩, ⟨us, hp, hus⟩, g⟩ := hw.old
    obtain ⟨rs, hr0, hrs⟩ := hrn
    have m8 := g.m8
    have few := g.few
    have lts : ts.length = W.beds.length := hts.len
    have lrs : rs.length = rain.length := hrs.len
    have lrn := ro.len
    have lus : us.length = W.parts.length := hus.len
    have lpt := g.plen
    refine ⟨(by show 0 ≤ sizeLine; decide), fun wl hwl => ?_⟩
    have s0 : Same H (upd H wl (.lst [])) := same1 hwl
    have ew : (upd H wl (.lst []) : Hp) wl = some (.lst []) := upd_same
    generalize upd H wl (.lst []) = H0 at *
    refine ⟨(by show 0 ≤ sizeLine; decide), fun bl hbl => ?_⟩
    have s1 : Same H0 (upd H0 bl (.lst [])) := same1 hbl
    have eb : (upd H0 bl (.lst []) : Hp) bl = some (.lst []) := upd_same
    have ew := s1 _ _ ew
    have nwb : wl ≠ bl := fun z => by rw [z] at hwl ew; rename_i ew0; rw [z, hbl] at ew0; cases ew0
    have hbl0 : H bl = none := by
      cases c : H bl with
      | none => rfl
      | some o =>
        have := s0 _ _ c
        rw [hbl] at this
        cases this
    have s01 := s0.trans s1
    generalize upd H0 bl (.lst []) = H1 at *
    refine ⟨_, rfl, w0, CW, dx, _, _, rfl, s01 _ _ e, TW.cl, TW.nm, webF_many .., _, rfl, by omega, by omega, ?_⟩
    refine for_range (lo := 0) (n := W.many) (fun i σ N => ∃ (v5 v6 : Option V) (bl : Addr) (as bs : List Addr), σ = [some (.ref w0), some (.ref t), some (.ref r), some (.ref wl), some (.ref bl), v5, v6, none, none] ∧
      N wl = some (.lst (as.map V.ref)) ∧ ShQs C N as (flowV W leads rain i).1 ∧ N bl = some (.lst (bs.map V.ref)) ∧ ShQs C N bs (flowV W leads rain i).2 ∧ wl ≠ bl ∧ H bl = none ∧ Same H N)
      ⟨none, none, bl, [], [], rfl, ew, .nil, eb, .nil, nwb, hbl0, s01⟩ ?_ ?_
    · rintro i σ N hi ⟨v5, v6, B, as, bs, rfl, eW, hA, eB, hB, nWB, hB0, sN⟩
      have hrN := Same.tup sN hr0
      have il : i < rs.length := by omega
      have iq : i < rain.length := by omega
      refine ⟨_, rfl, _, rfl, r, _, _, .ref rs[i], rfl, (by rw [Int.zero_add]), hrN, atI_nat (by rw [List.getElem?_map, List.getElem?_eq_getElem il]; rfl), ?_⟩
      refine ⟨(by show 1 ≤ sizeLine; decide), fun L hL => ?_⟩
      have s2 : Same N (upd N L (.lst [V.ref rs[i]])) := same1 hL
      have eL : (upd N L (.lst [V.ref rs[i]]) : Hp) L = some (.lst [V.ref rs[i]]) := upd_same
      generalize upd N L (.lst [V.ref rs[i]]) = N2 at *
      have sN2 := sN.trans s2
      have eB2 := s2 _ _ eB
      refine ⟨_, rfl, _, rfl, w0, CW, dx, _, _, rfl, sN2 _ _ e, TW.cl, TW.nb, webF_beds .., B, b, _, _, rfl, SqL.of eB2, sN2.seq hb, fun D hD => ?_⟩
      have lbs : bs.length = (flowV W leads rain i).2.length := hB.len
      refine lc_it (walk_zip (K := K) (a := B) (b := b) (xs := bs.map V.ref) (ys := ts.map V.ref) rfl) (fun j M => ∃ qs : List Addr, M D = some (.lst (qs.map V.ref)) ∧ ShQs C M qs (((((flowV W leads rain i).2.zip W.beds).take j).filter fun x => decide (x.2.e = i)).map Prod.fst) ∧ Same N2 M) ⟨[], upd_same, .nil, same1 hD⟩ ?_ ?_ ?_
      · rintro j M _ ⟨_, _, _, sM⟩
        exact ⟨SqL.of (sM _ _ eB2), (sN2.trans sM).seq hb⟩
      · rintro j x M M' hj ⟨qs, eD, hqs, sM⟩ ⟨T, x1, x2, rfl, hT, rfl, e1, e2⟩
        have e1 : (bs.map V.ref)[j]? = some x1 := e1
        have e2 : (ts.map V.ref)[j]? = some x2 := e2
        rw [List.getElem?_map] at e1 e2
        obtain ⟨c, hc, rfl⟩ := Option.map_eq_some_iff.mp e1
        obtain ⟨d, hd, rfl⟩ := Option.map_eq_some_iff.mp e2
        have jl : j < W.beds.length := by
          have := (List.getElem?_eq_some_iff.mp hd).1
          omega
        have jq : j < (flowV W leads rain i).2.length := by
          have := (List.getElem?_eq_some_iff.mp hc).1
          omega
        have jz : j < ((flowV W leads rain i).2.zip W.beds).length := by rw [List.length_zip]; omega
        have s3 : Same M (upd M T (.tup [.ref c, .ref d])) := same1 hT
        refine ⟨T, _, rfl, SqT.of upd_same, rfl, _, _, rfl, _, _, rfl, rfl, rfl, ?_⟩
        generalize upd M T (.tup [.ref c, .ref d]) = M2 at *
        have s23 := sM.trans s3
        have hcs : ShQ C M2 c ((flowV W leads rain i).2[j]) := ((ShQs.mono hB s2).mono s23).all j c _ hc (List.getElem?_eq_getElem jq)
        obtain ⟨_, _, q1, _, _⟩ := (hts.all j d _ hd (List.getElem?_eq_getElem jl)).mono (sN2.trans s23)
        refine ⟨_, rfl, d, _, _, _, rfl, rfl, q1, at_k (by decide) rfl, _, rfl, rfl, _, rfl, ?_⟩
        have eD2 := s3 _ _ eD
        have hq2 := ShQs.mono hqs s3
        have nxt := into_take (p := i) jz
        rw [List.getElem_zip] at nxt
        have sz : (qs.map V.ref).length < sizeLine := by
          rw [List.length_map, hqs.len, List.length_map]
          refine Nat.lt_of_le_of_lt (List.length_filter_le _ _) ?_
          rw [List.length_take]
          exact Nat.lt_of_le_of_lt (Nat.min_le_left _ _) (Nat.lt_of_lt_of_le (show j < 12 by omega) (show 12 ≤ sizeLine by decide))
        refine ite2 (fun h => ?_) (fun h => ?_)
        · have h : ((W.beds[j].e : Nat) : Int) = 0 + (i : Int) := V.int.inj (of_decide_eq_true h)
          refine ⟨_, rfl, _, eD2, sz, qs ++ [c], by rw [List.map_append]; exact upd_same, ?_, fun a o ea => ?_⟩
          · rw [nxt, if_pos (by show W.beds[j].e = i; omega)]
            exact All2.snoc (hq2.put eD2) (hcs.put eD2)
          · rw [upd_ne (ne_of_none ea hD)]
            exact s23 _ _ ea
        · have h : ¬ ((W.beds[j].e : Nat) : Int) = 0 + (i : Int) := fun z => h (decide_eq_true (by rw [z]))
          refine ⟨qs, eD2, ?_, s23⟩
          rw [nxt, if_neg (by show ¬ W.beds[j].e = i; omega), List.append_nil]
          exact hq2
      · rintro M ⟨qs, eD, hqs, sM⟩
        have eI : (((((flowV W leads rain i).2.zip W.beds).take (min (bs.map V.ref).length (ts.map V.ref).length)).filter fun x => decide (x.2.e = i)).map Prod.fst) = intoV W.beds (flowV W leads rain i).2 i := by
          rw [List.take_of_length_le (by rw [List.length_zip, List.length_map, List.length_map]; omega)]
          rfl
        rw [eI] at hqs
        have lq := hqs.len
        have li := into_len W.beds (flowV W leads rain i).2 i
        have eL2 := sM _ _ eL
        refine ⟨L, D, _, _, rfl, rfl, eL2, eD, (by rw [List.length_map]; exact Nat.le_trans (show 1 + qs.length ≤ 13 by omega) (show 13 ≤ sizeLine by decide)), fun G hG => ?_⟩
        have s4 : Same M (upd M G (.lst ([V.ref rs[i]] ++ qs.map V.ref))) := same1 hG
        have eG : (upd M G (.lst ([V.ref rs[i]] ++ qs.map V.ref)) : Hp) G = some (.lst ([V.ref rs[i]] ++ qs.map V.ref)) := upd_same
        generalize upd M G (.lst ([V.ref rs[i]] ++ qs.map V.ref)) = M4 at *
        have s24 := sM.trans s4
        have sH4 := sN2.trans s24
        have hw4 : ShQs C M4 (rs[i] :: qs) (amL W rain (flowV W leads rain i).2 i) := by
          have h1 : ShQ C M4 rs[i] ((rain[i]?).getD 0) := by
            rw [List.getElem?_eq_getElem iq]
            exact (hrs.mono sH4).all i _ _ (List.getElem?_eq_getElem il) (List.getElem?_eq_getElem iq)
          exact All2.app (All2.one h1) (ShQs.mono hqs s4)
        refine ⟨G, rs[i] :: qs, _, _, rfl, SqL.of eG, hw4, flow_tots g leads ro hi, fun M5 p s5 hp5 => ?_⟩
        have sN5 : Same N M5 := s2.trans (s24.trans s5)
        have eW5 := sN5 _ _ eW
        have eB5 := sN5 _ _ eB
        refine ⟨_, rfl, .inl ⟨rfl, _, SqL.of eW5⟩, _, rfl, wl, _, _, rfl, rfl, eW5, ?_, ?_⟩
        · rw [List.length_map, hA.len, flow_len1]
          exact Nat.lt_of_lt_of_le (show i < 8 by omega) (show 8 ≤ sizeLine by decide)
        have sH6 : Same H (upd M5 wl (.lst (as.map V.ref ++ [.ref p]))) := fun a o ea => by
          rw [upd_ne (ne_of_none ea hwl)]
          exact (sN.trans sN5) _ _ ea
        have hA6 : ShQs C (upd M5 wl (.lst (as.map V.ref ++ [.ref p]))) (as ++ [p]) (flowV W leads rain (i + 1)).1 := All2.snoc ((ShQs.mono hA sN5).put eW5) (hp5.put eW5)
        have hB6 := (ShQs.mono hB sN5).put (ys := as.map V.ref ++ [.ref p]) eW5
        have hp6 := hp5.put (ys := as.map V.ref ++ [.ref p]) eW5
        have eW6 : (upd M5 wl (.lst (as.map V.ref ++ [.ref p])) : Hp) wl = some (.lst (as.map V.ref ++ [.ref p])) := upd_same
        have eB6 : (upd M5 wl (.lst (as.map V.ref ++ [.ref p])) : Hp) B = some (.lst (bs.map V.ref)) := by
          rw [upd_ne (Ne.symm nWB)]
          exact eB5
        generalize upd M5 wl (.lst (as.map V.ref ++ [.ref p])) = M6 at *
        have iu : i < us.length := by omega
        have ip : i < W.parts.length := by omega
        have it : i < leads.length := by omega
        have gp := g.part i _ (List.getElem?_eq_getElem ip)
        have gs : ∀ a ∈ W.parts[i], 1 ≤ W.parts[i].sum ∧ W.parts[i].sum ≤ 18 ∧ a ≤ W.parts[i].sum := fun a ha => parts_sum g rfl gp ha
        have g18 : W.parts[i].sum ≤ 18 := by
          have h2 := g.two i
          have hl := gp.len
          have h3 := sum_nat_le W.parts[i] gp.le
          omega
        refine ⟨_, rfl, _, rfl, w0, CW, dx, _, _, rfl, sH6 _ _ e, TW.cl, TW.np, webF_parts .., _, rfl, pp, _, _, .ref us[i], rfl, (by rw [Int.zero_add]), sH6.seq hp, atI_nat (by rw [List.getElem?_map, List.getElem?_eq_getElem iu]; rfl), _, rfl, _, rfl, _, rfl, t, _, _, .bl leads[i], rfl, (by rw [Int.zero_add]), Same.tup sH6 ht, atI_nat (by rw [List.getElem?_map, List.getElem?_eq_getElem it]; rfl), ?_⟩
        refine ⟨us[i], p, W.parts[i], _, leads[i], rfl, Same.tup sH6 (hus.all i _ _ (List.getElem?_eq_getElem iu) (List.getElem?_eq_getElem ip)), hp6, flow_szA g leads ro hi, fun a ha => (gs a ha).1, g18, gp.few, fun M7 l s7 nl ⟨vs7, el7, hv7⟩ => ?_⟩
        have lB : (bs.map V.ref).length ≤ 12 := by
          have := flow_few g leads rain (p := i) (by omega)
          rw [List.length_map]
          omega
        have lv : (vs7.map V.ref).length ≤ 12 := by
          have h1 := hv7.len
          rw [born_len] at h1
          have := gp.few
          rw [List.length_map]
          omega
        refine ⟨B, l, _, _, rfl, rfl, s7 _ _ eB6, el7, Nat.le_trans (show _ ≤ 24 by omega) (show 24 ≤ sizeLine by decide), fun S hS => ?_⟩
        have s8 : Same M7 (upd M7 S (.lst (bs.map V.ref ++ vs7.map V.ref))) := same1 hS
        have s78 := s7.trans s8
        refine ⟨_, _, S, as ++ [p], bs ++ vs7, rfl, by rw [List.map_append]; exact s8 _ _ (s7 _ _ eW6), ShQs.mono hA6 s78, by rw [List.map_append]; exact upd_same, ?_, fun z => ?_, ?_, sH6.trans s78⟩
        · show ShQs C _ _ ((flowV W leads rain i).2 ++ bornV ((W.parts[i]?).getD []) _ ((leads[i]?).getD true))
          rw [List.getElem?_eq_getElem ip, List.getElem?_eq_getElem it]
          exact All2.app (ShQs.mono hB6 s78) (ShQs.mono hv7 s8)
        · have := s7 _ _ eW6
          rw [z, hS] at this
          cases this
        · cases c : H S with
          | none => rfl
          | some o =>
            have := s7 _ _ (sH6 _ _ c)
            rw [hS] at this
            cases this
    · rintro σ N ⟨v5, v6, B, as, bs, rfl, eW, hA, eB, hB, nWB, hB0, sN⟩
      refine ⟨_, rfl, _, rfl, (by show 2 ≤ sizeLine; decide), fun u hu => ?_⟩
      have s2 : Same N (upd N u (.tup [.ref wl, .ref B])) := same1 hu
      exact q _ u wl B (sN.trans s2) upd_same hwl hB0 nWB ⟨as, s2 _ _ eW, ShQs.mono hA s2⟩ ⟨bs, s2 _ _ eB, ShQs.mono hB s2⟩
end
end K64

namespace K64
open PySem PySem.Spec PyProof.Rows L2
/-! ### a day -/
def dayV (W : WebV) (ds : List Int) (rain : List Rat) : List Rat × List Rat := flowV W (leadsV (gapsV W ds)) rain W.many
def addV (ds ms : List Int) : List Int := (ds.zip ms).map fun x => x.1 + x.2
def stepV (W : WebV) (ds : List Int) (rain : List Rat) : List Int := addV ds (movesV W.beds (dayV W ds rain).2)
/-- what a day is asked of -/
structure DayAsk (K : PySem.W.Frag) (C CW : Addr) (H : Hp) (w d r : Addr) (W : WebV) (ds : List Int) (rain : List Rat) (R k0 : Nat) : Prop where
  web : WebAt K C CW H w W
  dep : SqT K H d (ds.map V.int)
  len : ds.length = W.beds.length
  fall : RainAt C K H r rain
  ok : RainOk W R k0 rain
/-- a def of two parameters and one by its name -/
theorem kbn_rain {K : PySem.W.Frag} {x qual : Str} {st : Stmt} {f : Addr} {fd : FuncData} (F : Fun K x qual st f fd) {ps ks : List Str}
    (h : ∀ (kV doc pm : Value) (an : Option Addr) (cdv ct : Value) (us ws : List Value), us.length = 2 → ws.length = ks.length → bindArgs (PySem.W.fnOf x qual (defArgs st) (defBody st) (defScope st) .none kV doc pm an cdv ct) ⟨us, ks.zip ws⟩ = pure (ps.zip (us ++ ws))) :
    KBn K fd ps 2 ks (fun us ws => us ++ ws) (fun vs zs => vs ++ zs) := by
  obtain ⟨oc, od, kV, doc, pm, an, cdv, ct, osl, rfl, lk, hcd⟩ := F.ex
  exact ⟨fun s us ws _ l1 l2 => .of_eq (h kV doc pm an cdv ct us ws l1 l2), fun r1 r2 => r1.append r2⟩
theorem gaps_len (W : WebV) (ds : List Int) : (gapsV W ds).length = W.many := by
  unfold gapsV
  rw [List.length_map, List.length_range]
theorem leads_len (gs : List Int) : (leadsV gs).length = gs.length := List.length_map ..
end K64

namespace K64
open PySem PySem.Spec PyProof.Rows L2
/-! ### the law's draws -/
/-- the builtins that the law asks by name -/
structure TxtB (mg : Str → Option Value) : Prop where
  int : mg "int" = none
  len : mg "len" = none
  abs : mg "abs" = none
/-- all but p stays -/
def But (p : Addr) (H H' : Hp) : Prop := ∀ b o, b ≠ p → H b = some o → H' b = some o
/-- a list of three numbers to draw from -/
def SrcAt (H : Hp) (p : Addr) : Prop := ∃ x y z : Int, H p = some (.lst [.int x, .int y, .int z])
theorem But.trans {p : Addr} {H H1 H2 : Hp} (a : But p H H1) (b : But p H1 H2) : But p H H2 := fun c o h e => b c o h (a c o h e)
theorem same_but {p : Addr} {H H' : Hp} (s : Same H H') : But p H H' := fun b o _ e => s b o e
theorem But.refl (p : Addr) (H : Hp) : But p H H := fun _ _ _ e => e
theorem SrcAt.same {H H' : Hp} {p : Addr} (h : SrcAt H p) (s : Same H H') : SrcAt H' p := by
  obtain ⟨x, y, z, e⟩ := h
  exact ⟨x, y, z, s _ _ e⟩
theorem SrcAt.ne {H : Hp} {p q : Addr} (h : SrcAt H p) (e : H q = none) : q ≠ p := fun z => by
  obtain ⟨_, _, _, e2⟩ := h
  rw [z, e2] at e
  cases e
theorem SrcAt.put {H : Hp} {p D : Addr} {o : HO} (h : SrcAt H p) (n : D ≠ p) : SrcAt (upd H D o) p := by
  obtain ⟨x, y, z, e⟩ := h
  exact ⟨x, y, z, by rw [upd_ne (Ne.symm n)]; exact e⟩
theorem But.none {p : Addr} {H H' : Hp} {q : Addr} (b : But p H H') (s : SrcAt H p) (e : H' q = .none) (s' : SrcAt H' p) : H q = .none := by
  cases c : H q with
  | none => rfl
  | some o =>
    have := b q o (s'.ne e) c
    rw [e] at this
    cases this
/-- what is no list stays -/
theorem But.nt {p : Addr} {H H' : Hp} (k : But p H H') (s : SrcAt H p) {b : Addr} {o : HO} (e : H b = some o) (n : ∀ xs, o ≠ .lst xs) : H' b = some o :=
  k b o (fun z => by
    obtain ⟨_, _, _, e2⟩ := s
    rw [z, e2] at e
    exact n _ (Option.some.inj e).symm) e
theorem But.tup {K : PySem.W.Frag} {p : Addr} {H H' : Hp} (k : But p H H') (s : SrcAt H p) {a : Addr} {xs : List V} (h : SqT K H a xs) : SqT K H' a xs :=
  h.elim (fun h => .inl (h.elim (fun h => .inl (k.nt s h (fun _ z => nomatch z))) fun ⟨o, h⟩ => .inr ⟨o, k.nt s h (fun _ z => nomatch z)⟩)) fun h => .inr h
/-- a list of objects -/
theorem But.seqR {K : PySem.W.Frag} {p : Addr} {H H' : Hp} (k : But p H H') (s : SrcAt H p) {a : Addr} {ts : List Addr} (h : SqL K H a (ts.map V.ref)) : SqL K H' a (ts.map V.ref) :=
  h.elim (fun h => .inl (h.elim (fun h => .inl (k _ _ (fun z => by
    obtain ⟨_, _, _, e2⟩ := s
    rw [z, e2] at h
    cases ts with
    | nil => cases h
    | cons t r => cases h) h)) fun ⟨o, h⟩ => .inr ⟨o, k.nt s h (fun _ z => nomatch z)⟩)) fun h => .inr h
/-- any list but this one -/
theorem But.seqN {K : PySem.W.Frag} {p : Addr} {H H' : Hp} (k : But p H H') (s : SrcAt H p) {a : Addr} {xs : List V} (h : SqL K H a xs) (n : a ≠ p) : SqL K H' a xs :=
  h.elim (fun h => .inl (h.elim (fun h => .inl (k _ _ n h)) fun ⟨o, h⟩ => .inr ⟨o, k.nt s h (fun _ z => nomatch z)⟩)) fun h => .inr h
def spCell (K : PySem.W.Frag) : Sp := fun vs H Q _ => ∃ (a : Addr) (ns : List Int) (k : Int), vs = [.ref a, .int k] ∧ SqL K H a (ns.map V.int) ∧ 0 ≤ k ∧ ∀ c : Int, Q (.int c) H
section
variable {P : Program} {w : World} {K : PySem.W.Frag} {mg : Str → Option Value} {base : Heap}
theorem scCell : FnScope ["script", "k"] ["script", "k"] (defScope d_law_cell_at) := ⟨rfl, rfl, rfl, by decide +kernel, rfl, by decide +kernel, by decide +kernel⟩
theorem ok_cell {f : Addr} {fd : FuncData} (F : Fun K "_law_cell_at" "_law_cell_at" d_law_cell_at f fd) (B : TxtB mg) : FnOk P w K mg base CX0 1 f fd ["script", "k"] (spCell K) := by
  refine F.ok scCell (fun vs H Q E h => ?_) (fun cdv A outer s H vs Q E hr h => ?_)
  · obtain ⟨_, _, _, rfl, _⟩ := h
    rfl
  · obtain ⟨a, ns, k, rfl, ha, k0, q⟩ := h
    refine ⟨_, pss_cons (ps_if (pt_cmpR op_lt (pv 1) (pe_callB call_len_seq (by rfl) B.len PySem.boot_len (pa_cons (pv 0) pa_nil)) (nomark _)) (pss_one (ps_ret (pe_ix ix_list (pv 0) (pv 1) (fun _ _ => rfl)))) pss_nil)
      (pss_one (ps_ret pe_int)), ?_⟩
    refine ⟨_, rfl, _, rfl, a, _, rfl, .inl ha, _, _, rfl, rfl, _, rfl, ?_⟩
    refine ite2 (fun h => ?_) (fun _ => q 0)
    have h : k < ((ns.map V.int).length : Int) := of_decide_eq_true h
    rw [List.length_map] at h
    have hk : k.toNat < ns.length := by omega
    exact ⟨_, rfl, _, rfl, a, _, _, _, rfl, rfl, ha, at_k k0 (by rw [List.getElem?_map, List.getElem?_eq_getElem hk]; rfl), q _⟩
end
end K64

namespace K64
open PySem PySem.Spec PyProof.Rows L2
/-! ### the law's draws: any digit -/
/-- a well that may be drawn from z times so far -/
def WellAt (H : Hp) (p : Addr) (z : Int) : Prop := ∃ x y : Int, H p = some (.lst [.int x, .int y, .int z]) ∧ 0 ≤ y ∧ y < 2 ^ 31
def spWell : Sp := fun vs H Q _ => ∃ c : Int, vs = [.int c] ∧ ∀ (p : Addr) (x y : Int), H p = none → 0 ≤ y → y < 2 ^ 31 → Q (.ref p) (upd H p (.lst [.int x, .int y, .int 0]))
def spDraw : Sp := fun vs H Q _ => ∃ (p : Addr) (m z : Int), vs = [.ref p, .int m] ∧ WellAt H p z ∧ 0 < m ∧ m < 2 ^ 62 ∧ 0 ≤ z ∧ z < 2 ^ 30 ∧
  ∀ (H' : Hp) (d z' : Int), But p H H' → WellAt H' p z' → 0 ≤ z' → z' ≤ z + 1 → 0 ≤ d → d < m → Q (.int d) H'
def spOne (K : PySem.W.Frag) : Sp := fun vs H Q _ => ∃ (p l : Addr) (xs : List V) (z : Int), vs = [.ref p, .ref l] ∧ WellAt H p z ∧ 0 ≤ z ∧ z < 2 ^ 30 ∧ H l = some (.lst xs) ∧ l ≠ p ∧ 0 < xs.length ∧ xs.length < 1000 ∧
  ∀ (H' : Hp) (z' : Int) (x : V), But p H H' → WellAt H' p z' → 0 ≤ z' → z' ≤ z + 1 → x ∈ xs → Q x H'
theorem prime_of {z : Int} : ∃ v : Int, atI [V.int 2147483647, V.int 2147483629, V.int 2147483587, V.int 2147483579, V.int 2147483563, V.int 2147483549, V.int 2147483543] (z % 7) = some (V.int v) ∧ 0 < v ∧ v < 2 ^ 31 := by
  have h : z % 7 = 0 ∨ z % 7 = 1 ∨ z % 7 = 2 ∨ z % 7 = 3 ∨ z % 7 = 4 ∨ z % 7 = 5 ∨ z % 7 = 6 := by omega
  rcases h with h | h | h | h | h | h | h <;> rw [h]
  · exact ⟨_, at_k (by decide) rfl, by decide, by decide⟩
  · exact ⟨_, at_k (by decide) rfl, by decide, by decide⟩
  · exact ⟨_, at_k (by decide) rfl, by decide, by decide⟩
  · exact ⟨_, at_k (by decide) rfl, by decide, by decide⟩
  · exact ⟨_, at_k (by decide) rfl, by decide, by decide⟩
  · exact ⟨_, at_k (by decide) rfl, by decide, by decide⟩
  · exact ⟨_, at_k (by decide) rfl, by decide, by decide⟩
section
variable {P : Program} {w : World} {K : PySem.W.Frag} {mg : Str → Option Value} {base : Heap}
theorem scWell : FnScope ["cell"] ["cell"] (defScope d_law_well) := ⟨rfl, rfl, rfl, by decide +kernel, rfl, by decide +kernel, by decide +kernel⟩
theorem ok_well {f : Addr} {fd : FuncData} (F : Fun K "_law_well" "_law_well" d_law_well f fd) (B : TxtB mg) : FnOk P w K mg base CX0 1 f fd ["cell"] spWell := by
  refine F.ok scWell (fun vs H Q E h => ?_) (fun cdv A outer s H vs Q E hr h => ?_)
  · obtain ⟨c, rfl, _⟩ := h
    rfl
  · obtain ⟨c, rfl, kq⟩ := h
    refine ⟨_, pss_one (ps_ret (pe_lst (pa_cons (pe_op op_mul (pv 0) (pe_callTy call_int1 (by rfl) B.int (by decide +kernel) (pa_cons (pe_cmpR op_ge (pv 0) (pe_op op_pow pe_int pe_int) (nomark _)) pa_nil)))
      (pa_cons (pe_op op_mod (pv 0) pe_int) (pa_cons pe_int pa_nil))))), ?_⟩
    refine ⟨_, rfl, _, rfl, _, _, rfl, rfl, ⟨by decide, by decide, by decide⟩, _, _, rfl, rfl, .inr ⟨_, rfl, ?_⟩⟩
    refine ⟨_, _, rfl, rfl, .inr (by split <;> decide), _, rfl, _, _, rfl, rfl, (by show (0 : Int) < 2147483647; decide), (by show 3 ≤ sizeLine; decide), fun p hp => ?_⟩
    exact kq p _ _ hp (Int.emod_nonneg _ (by decide)) (Int.lt_of_lt_of_le (Int.emod_lt_of_pos _ (by decide)) (by decide))
theorem scDraw : FnScope ["well", "many", "digit", "prime", "number"] ["well", "many"] (defScope d_law_draw) := ⟨rfl, rfl, rfl, by decide +kernel, rfl, by decide +kernel, by decide +kernel⟩
theorem ok_draw {f : Addr} {fd : FuncData} (F : Fun K "_law_draw" "_law_draw" d_law_draw f fd) : FnOk P w K mg base CX0 1 f fd ["well", "many"] spDraw := by
  refine F.ok scDraw (fun vs H Q E h => ?_) (fun cdv A outer s H vs Q E hr h => ?_)
  · obtain ⟨p, m, z, rfl, _⟩ := h
    rfl
  · obtain ⟨p, m, z, rfl, ⟨x, y, hp, y0, y1⟩, m0, m1, z0, z1, kq⟩ := h
    refine ⟨_, pss_cons (ps_if (pt_cmpR op_gt (pe_ix ix_list (pv 0) pe_int (fun _ _ => rfl)) pe_int (nomark _))
        (pss_cons (ps_set (i := 2) scDraw.nd rfl (Or.inl rfl) (pe_op op_mod (pe_ix ix_list (pv 0) pe_int (fun _ _ => rfl)) (pv 1)))
        (pss_cons (ps_asg (pe_op op_fdivW (pe_ix ix_list (pv 0) pe_int (fun _ _ => rfl)) (pv 1)) (pg_sub (pv 0) pe_int set_list))
        (pss_one (ps_ret (pv 2))))) pss_nil)
      (pss_cons (ps_asg (pe_op op_add (pe_ix ix_list (pv 0) pe_int (fun _ _ => rfl)) pe_int) (pg_sub (pv 0) pe_int set_list))
      (pss_cons (ps_set (i := 3) scDraw.nd rfl (Or.inl rfl) (pe_ix ix_list (pe_lst (pa_cons pe_int (pa_cons pe_int (pa_cons pe_int (pa_cons pe_int (pa_cons pe_int (pa_cons pe_int (pa_cons pe_int pa_nil)))))))) (pe_op op_mod (pe_ix ix_list (pv 0) pe_int (fun _ _ => rfl)) pe_int) (fun _ _ => rfl)))
      (pss_cons (ps_set (i := 4) scDraw.nd rfl (Or.inl rfl) (pe_op op_mod (pe_op op_pow (pe_op op_add (pe_op op_add (pe_ix ix_list (pv 0) pe_int (fun _ _ => rfl)) (pe_op op_mul pe_int (pe_ix ix_list (pv 0) pe_int (fun _ _ => rfl)))) pe_int) pe_int) (pv 3)))
      (pss_cons (ps_set (i := 4) scDraw.nd rfl (Or.inl rfl) (pe_op op_mod (pe_op op_mul (pe_op op_add (pv 4) (pe_ix ix_list (pv 0) pe_int (fun _ _ => rfl))) (pe_op op_add (pe_op op_fdiv (pv 4) pe_int) pe_int)) (pv 3)))
      (pss_one (ps_ret (pe_op op_mod (pe_op op_fdiv (pv 4) pe_int) (pv 1)))))))), ?_⟩
    refine ⟨_, rfl, p, _, _, _, rfl, rfl, SqL.of hp, at_k (by decide) rfl, _, _, rfl, rfl, _, rfl, ?_⟩
    refine ite2 (fun h => ?_) (fun h => ?_)
    · refine ⟨_, rfl, p, _, _, _, rfl, rfl, SqL.of hp, at_k (by decide) rfl, _, rfl, _, _, rfl, rfl, m0, ?_⟩
      refine ⟨_, rfl, p, _, _, _, rfl, rfl, SqL.of hp, at_k (by decide) rfl, _, rfl, _, _, rfl, rfl, wide_div (b := 62) m0 (by omega) (by decide) (by decide), ?_⟩
      refine ⟨_, rfl, p, _, _, 0, rfl, rfl, hp, rfl, ?_⟩
      exact ⟨_, rfl, kq _ _ _ (fun b o hb e => by rw [upd_ne hb]; exact e) ⟨_, _, upd_same, y0, y1⟩ z0 (by omega) (Int.emod_nonneg _ (by omega)) (Int.emod_lt_of_pos _ m0)⟩
    · refine ⟨_, rfl, p, _, _, _, rfl, rfl, SqL.of hp, at_k (by decide) rfl, _, _, rfl, rfl, ?_⟩
      refine ⟨_, rfl, p, _, _, 2, rfl, rfl, hp, rfl, ?_⟩
      obtain ⟨v, hv, v0, v1⟩ := prime_of (z := z + 1)
      refine ⟨(by show 7 ≤ sizeLine; decide), fun q hq => ?_⟩
      have hqp : p ≠ q := fun e => by rw [← e, upd_same] at hq; cases hq
      have hw : upd (upd H p (.lst [.int x, .int y, .int (z + 1)])) q (.lst [V.int 2147483647, V.int 2147483629, V.int 2147483587, V.int 2147483579, V.int 2147483563, V.int 2147483549, V.int 2147483543]) p = some (.lst [.int x, .int y, .int (z + 1)]) := by rw [upd_ne hqp, upd_same]
      refine ⟨_, rfl, p, _, _, _, rfl, rfl, SqL.of hw, at_k (by decide) rfl, _, _, rfl, rfl, (by show (0 : Int) < 7; decide), ?_⟩
      refine ⟨q, _, _, _, rfl, rfl, SqL.of upd_same, hv, ?_⟩
      refine ⟨_, rfl, p, _, _, _, rfl, rfl, SqL.of hw, at_k (by decide) rfl, _, rfl, p, _, _, _, rfl, rfl, SqL.of hw, at_k (by decide) rfl, _, _, rfl, rfl, .inl ⟨by decide, by decide⟩, _, _, rfl, rfl, _, _, rfl, rfl, _, _, rfl, rfl,
        ⟨by decide, by decide, by omega⟩, _, rfl, _, _, rfl, rfl, v0, ?_⟩
      have n0 := Int.emod_nonneg ((y + 7919 * (z + 1) + 1) ^ (5 : Int).toNat) (show v ≠ 0 by omega)
      have n1 := Int.emod_lt_of_pos ((y + 7919 * (z + 1) + 1) ^ (5 : Int).toNat) v0
      refine ⟨_, rfl, _, rfl, p, _, _, _, rfl, rfl, SqL.of hw, at_k (by decide) rfl, _, _, rfl, rfl, _, rfl, _, _, rfl, rfl, ⟨by decide, by decide⟩, _, _, rfl, rfl, _, _, rfl, rfl, .inl ⟨by omega, by omega⟩, _, rfl, _, _, rfl, rfl, v0, ?_⟩
      refine ⟨_, rfl, _, _, rfl, rfl, ⟨by decide, by decide⟩, _, rfl, _, _, rfl, rfl, m0, ?_⟩
      refine kq _ _ _ (fun b o hb e => ?_) ⟨_, _, hw, y0, y1⟩ (by omega) (by omega) (Int.emod_nonneg _ (by omega)) (Int.emod_lt_of_pos _ m0)
      have e1 : upd H p (.lst [.int x, .int y, .int (z + 1)]) b = some o := by rw [upd_ne hb]; exact e
      rw [upd_ne (ne_of_none e1 hq)]
      exact e1
theorem scOne : FnScope ["well", "some"] ["well", "some"] (defScope d_law_one) := ⟨rfl, rfl, rfl, by decide +kernel, rfl, by decide +kernel, by decide +kernel⟩
theorem ok_one {f fD : Addr} {fd fdD : FuncData} (F : Fun K "_law_one" "_law_one" d_law_one f fd) (B : TxtB mg) (GD : FnOk P w K mg base CX0 1 fD fdD ["well", "many"] spDraw) (mD : mg "_law_draw" = some (.ref fD)) (kD : PySem.W.keepIn K (.ref fD) = true) (bD : Binds K fdD ["well", "many"] []) :
    FnOk P w K mg base CX0 2 f fd ["well", "some"] (spOne K) := by
  refine F.ok scOne (fun vs H Q E h => ?_) (fun cdv A outer s H vs Q E hr h => ?_)
  · obtain ⟨p, l, xs, z, rfl, _⟩ := h
    rfl
  · obtain ⟨p, l, xs, z, rfl, hp, z0, z1, hl, ne, l0, l1, kq⟩ := h
    refine ⟨_, pss_one (ps_ret (pe_ix ix_list (pv 1) (pe_call GD hr rfl mD kD bD .nil pass0 (pa_cons (pv 0) (pa_cons (pe_callB call_len_seq (by rfl) B.len PySem.boot_len (pa_cons (pv 1) pa_nil)) pa_nil))) (fun _ _ => rfl))), ?_⟩
    refine ⟨_, rfl, _, rfl, _, rfl, l, xs, rfl, .inl (SqL.of hl), ?_⟩
    refine ⟨p, _, z, rfl, hp, (by omega), (by omega), z0, z1, fun H' d z' bt hp' z0' z1' d0 d1 => ?_⟩
    have hd : d.toNat < xs.length := by omega
    refine ⟨l, xs, _, xs[d.toNat], rfl, rfl, SqL.of (bt l _ ne hl), at_k d0 (by simp [hd]), ?_⟩
    exact kq H' z' _ bt hp' z0' z1' (List.getElem_mem hd)
end
end K64

namespace K64
open PySem PySem.Spec PyProof.Rows L2
/-! ### the law's fractions -/
def prV (x : Rat) : List V := [.int x.num, .int ((x.den : Nat) : Int)]
def PairAt (K : PySem.W.Frag) (H : Hp) (q : Addr) (x : Rat) : Prop := SqT K H q (prV x)
theorem PairAt.mono {K : PySem.W.Frag} {H H' : Hp} {q : Addr} {x : Rat} (h : PairAt K H q x) (s : Same H H') : PairAt K H' q x := Same.tup s h
def spLowQ : Sp := fun vs H Q _ => ∃ a b : Int, vs = [.int a, .int b] ∧ b ≠ 0 ∧ a.natAbs < 2 ^ 4000 ∧ b.natAbs < 2 ^ 4000 ∧ ∀ p : Addr, H p = none → Q (.ref p) (upd H p (.tup (prV ((a : Rat) / (b : Rat)))))
def spTwoP (K : PySem.W.Frag) (f : Rat → Rat → Rat) : Sp := fun vs H Q _ => ∃ (x y : Addr) (p q : Rat), vs = [.ref x, .ref y] ∧ PairAt K H x p ∧ PairAt K H y q ∧ Sz 1500 p ∧ Sz 1500 q ∧
  ∀ r : Addr, H r = none → Q (.ref r) (upd H r (.tup (prV (f p q))))
def spMark : Sp := fun vs H Q _ => ∃ p : Addr, vs = [.ref p] ∧ SrcAt H p ∧ ∀ (H' : Hp) (q : Addr) (x : Rat), But p H H' → SrcAt H' p → H q = none → H' q = some (.tup (prV x)) → Lim 42 11 x → Q (.ref q) H'
theorem low_pr {a b : Int} (hb : b ≠ 0) : [V.int (lowT a b), V.int (lowB a b)] = prV ((a : Rat) / (b : Rat)) := by
  rw [(low_rat hb).1, (low_rat hb).2]
  rfl
theorem lim_frac {n d M c k : Nat} {m : Int} (hm : m.natAbs = n) (hc : M = d * c) (d0 : d ≠ 0) (c0 : c ≠ 0) (hk : n * c < 2 ^ k) : Lim M k ((m : Rat) / (((d : Nat) : Int) : Rat)) := by
  refine ⟨m * (c : Int), ?_, ?_⟩
  · have nd := icast_ne (show ((d : Nat) : Int) ≠ 0 by omega)
    have nc := icast_ne (show ((c : Nat) : Int) ≠ 0 by omega)
    rw [hc, Int.natCast_mul, Rat.intCast_mul, Rat.intCast_mul]
    generalize ((m : Int) : Rat) = x at *
    generalize ((d : Int) : Rat) = y at *
    generalize ((c : Int) : Rat) = z at *
    grind
  · rw [Int.natAbs_mul, Int.natAbs_natCast, hm]
    exact hk
end K64

namespace K64
open PySem PySem.Spec PyProof.Rows L2
/-! ### in lowest terms, by the law -/
def spLow : Sp := fun vs H Q _ => ∃ a b : Int, vs = [.int a, .int b] ∧ b ≠ 0 ∧ a.natAbs < 2 ^ 4000 ∧ b.natAbs < 2 ^ 4000 ∧
  ∀ p : Addr, H p = none → Q (.ref p) (upd H p (.tup [.int (lowT a b), .int (lowB a b)]))
def leftOf : L2.St → Nat
  | [_, _, _, some (.int l)] => l.toNat
  | _ => 0
theorem absV (i : Int) : (if i < 0 then -i else i) = ((i.natAbs : Nat) : Int) := by split <;> omega
section
variable {P : Program} {w : World} {K : PySem.W.Frag} {mg : Str → Option Value} {base : Heap}
theorem scLow : FnScope ["top", "bottom", "one", "other"] ["top", "bottom"] (defScope d_law_low) := ⟨rfl, rfl, rfl, by decide +kernel, rfl, by decide +kernel, by decide +kernel⟩
theorem ok_low {f : Addr} {fd : FuncData} (F : Fun K "_law_low" "_law_low" d_law_low f fd) (B : TxtB mg) : FnOk P w K mg base CX0 1 f fd ["top", "bottom"] spLow := by
  refine F.ok scLow (fun vs H Q E h => ?_) (fun cdv A outer s H vs Q E hr h => ?_)
  · obtain ⟨a, b, rfl, _⟩ := h
    rfl
  · obtain ⟨a, b, rfl, hb, sa, sb, kq⟩ := h
    refine ⟨_, pss_cons (ps_par (i := 2) (j := 3) rfl scLow.nd rfl rfl (by decide) rfl rfl (pa_cons (pe_callB call_abs (by rfl) B.abs (by decide +kernel) (pa_cons (pv 0) pa_nil)) (pa_cons (pe_callB call_abs (by rfl) B.abs (by decide +kernel) (pa_cons (pv 1) pa_nil)) pa_nil)) (by rfl))
      (pss_cons (ps_while PassesOwn.never (pt_cmpR op_gt (pv 3) pe_int (nomark _)) (pss_one (ps_par (i := 2) (j := 3) rfl scLow.nd rfl rfl (by decide) rfl rfl (pa_cons (pv 3) (pa_cons (pe_op op_mod (pv 2) (pv 3)) pa_nil)) (by rfl))))
      (pss_cons (ps_if (pt_cmpR op_lt (pv 1) pe_int (nomark _)) (pss_one (ps_set (i := 2) scLow.nd rfl (Or.inl rfl) (pe_op op_sub pe_int (pv 2)))) pss_nil)
      (pss_one (ps_ret (pe_tup (pa_cons (pe_op op_fdivX (pv 0) (pv 2)) (pa_cons (pe_op op_fdivX (pv 1) (pv 2)) pa_nil))))))), ?_⟩
    refine ⟨_, rfl, a, rfl, _, rfl, b, rfl, _, _, rfl, ?_⟩
    rw [absV, absV]
    refine while_by (fun σ H' => H' = H ∧ ∃ g l : Nat, σ = [some (.int a), some (.int b), some (.int (g : Int)), some (.int (l : Int))] ∧ Nat.gcd g l = Nat.gcd a.natAbs b.natAbs) (fun σ _ => leftOf σ) ⟨rfl, _, _, rfl, rfl⟩ ?_ ?_
    · rintro σ H' ⟨rfl, g, l, rfl, hg⟩
      refine ⟨_, rfl, _, _, rfl, rfl, _, rfl, ?_⟩
      by_cases hl : l = 0
      · subst hl
        rw [show decide ((0 : Int) < ((0 : Nat) : Int)) = false from by simp]
        refine iteF ?_
        have ge : g = Nat.gcd a.natAbs b.natAbs := by rw [← hg, Nat.gcd_zero_right]
        refine ⟨_, rfl, _, _, rfl, rfl, _, rfl, ?_⟩
        have gs : (sg a b).natAbs < 2 ^ 4000 := Nat.lt_of_le_of_lt (sg_le hb) sb
        refine ite2 (fun hn => ?_) (fun hn => ?_)
        · have hn : b < 0 := of_decide_eq_true hn
          have e : 0 - (g : Int) = sg a b := by unfold sg; rw [if_pos hn, ge]; omega
          have g0 : 0 - (g : Int) ≠ 0 := by rw [e]; exact sg_ne hb
          have gd : ∀ i : Int, CDivX i (0 - (g : Int)) := fun i => big_div (b := 4000) g0 (by rw [e]; exact gs) (by decide) (by decide)
          refine ⟨_, rfl, _, _, rfl, rfl, ?_⟩
          refine ⟨_, rfl, _, rfl, _, _, rfl, rfl, gd _, _, rfl, _, rfl, _, _, rfl, rfl, gd _, (by show 2 ≤ sizeLine; decide), fun p hp => ?_⟩
          have z := kq p hp
          unfold lowT lowB at z
          rw [← e] at z
          exact z
        · have hn : ¬ b < 0 := fun q => hn (decide_eq_true q)
          have e : (g : Int) = sg a b := by unfold sg; rw [if_neg hn, ge]
          have g0 : (g : Int) ≠ 0 := by rw [e]; exact sg_ne hb
          have gd : ∀ i : Int, CDivX i (g : Int) := fun i => big_div (b := 4000) g0 (by rw [e]; exact gs) (by decide) (by decide)
          refine ⟨_, rfl, _, rfl, _, _, rfl, rfl, gd _, _, rfl, _, rfl, _, _, rfl, rfl, gd _, (by show 2 ≤ sizeLine; decide), fun p hp => ?_⟩
          have z := kq p hp
          unfold lowT lowB at z
          rw [← e] at z
          exact z
      · rw [show decide ((0 : Int) < (l : Int)) = true from decide_eq_true (by omega)]
        refine iteT ?_
        refine ⟨_, rfl, _, rfl, _, rfl, _, _, rfl, rfl, (by show (0 : Int) < (l : Int); omega), _, _, rfl, ⟨rfl, l, g % l, ?_, ?_⟩, ?_⟩
        · show [some (V.int a), some (V.int b), some (V.int (l : Int)), some (V.int ((g : Int) % (l : Int)))] = _
          rw [Int.natCast_emod]
        · rw [← hg, Nat.gcd_comm g l, Nat.gcd_rec l g, Nat.gcd_comm]
        · show ((g : Int) % (l : Int)).toNat < ((l : Int)).toNat
          have h1 : (g : Int) % (l : Int) = ((g % l : Nat) : Int) := (Int.natCast_emod g l).symm
          rw [h1, Int.toNat_natCast, Int.toNat_natCast]
          exact Nat.mod_lt _ (by omega)
    · intro σ H' Q1 Q2 m h
      obtain ⟨v, e, i, j, e1, e2, k, ek, q⟩ := h
      exact ⟨v, e, i, j, e1, e2, k, ek, m _ _ q⟩
end
end K64

namespace K64
open PySem PySem.Spec PyProof.Rows L2
/-! ### what stays where lists alone change -/
def KeepL (H H' : Hp) : Prop := ∀ b o, H b = some o → (∀ xs, o ≠ .lst xs) → H' b = some o
theorem But.keep {p : Addr} {H H' : Hp} (k : But p H H') (s : SrcAt H p) : KeepL H H' := fun _ _ e n => k.nt s e n
theorem keep_same {H H' : Hp} (s : Same H H') : KeepL H H' := fun b o e _ => s b o e
theorem keep_put {H : Hp} {D : Addr} {xs : List V} {o : HO} (e : H D = some (.lst xs)) : KeepL H (upd H D o) := fun b u eb n => by
  rw [upd_ne (fun z => by rw [z, e] at eb; exact n _ (Option.some.inj eb).symm)]
  exact eb
theorem KeepL.trans {H H1 H2 : Hp} (a : KeepL H H1) (b : KeepL H1 H2) : KeepL H H2 := fun c o e n => b c o (a c o e n) n
theorem KeepL.tup {K : PySem.W.Frag} {H H' : Hp} {a : Addr} {xs : List V} (k : KeepL H H') (h : SqT K H a xs) : SqT K H' a xs :=
  h.elim (fun h => .inl (h.elim (fun h => .inl (k _ _ h (fun _ z => nomatch z))) fun ⟨o, h⟩ => .inr ⟨o, k _ _ h (fun _ z => nomatch z)⟩)) fun h => .inr h
theorem KeepL.sh {C : Addr} {H H' : Hp} {a : Addr} {q : Rat} (k : KeepL H H') (h : ShQ C H a q) : ShQ C H' a q := by
  obtain ⟨dx, e⟩ := h
  exact ⟨dx, k _ _ e (fun _ z => nomatch z)⟩
def RowAt (K : PySem.W.Frag) (H : Hp) (t : Addr) (b : Bed) : Prop := ∃ x y, SqT K H t [.int (b.s : Int), .int (b.e : Int), .ref x, .ref y] ∧ PairAt K H x b.lo ∧ PairAt K H y b.hi
theorem KeepL.row {K : PySem.W.Frag} {H H' : Hp} {a : Addr} {b : Bed} (k : KeepL H H') (h : RowAt K H a b) : RowAt K H' a b := by
  obtain ⟨x, y, u, v, w⟩ := h
  exact ⟨x, y, k.tup u, k.tup v, k.tup w⟩
theorem RowAt.mono {K : PySem.W.Frag} {H H' : Hp} {a : Addr} {b : Bed} (h : RowAt K H a b) (s : Same H H') : RowAt K H' a b := (keep_same s).row h
/-- rows of beds in a list of our own -/
def RowsAt (K : PySem.W.Frag) (H : Hp) (l : Addr) (bs : List Bed) : Prop := ∃ ts : List Addr, SqL K H l (ts.map V.ref) ∧ All2 (RowAt K H) ts bs
theorem RowsAt.mono {K : PySem.W.Frag} {H H' : Hp} {a : Addr} {bs : List Bed} (h : RowsAt K H a bs) (s : Same H H') : RowsAt K H' a bs := by
  obtain ⟨ts, u, v⟩ := h
  exact ⟨ts, s.seq u, v.mono fun _ _ _ _ r => r.mono s⟩
theorem RowsAt.but {K : PySem.W.Frag} {H H' : Hp} {p a : Addr} {bs : List Bed} (h : RowsAt K H a bs) (k : But p H H') (s : SrcAt H p) : RowsAt K H' a bs := by
  obtain ⟨ts, u, v⟩ := h
  exact ⟨ts, k.seqR s u, v.mono fun _ _ _ _ r => (k.keep s).row r⟩
theorem WParts.but {K : PySem.W.Frag} {H H' : Hp} {p a : Addr} {pss : List (List Nat)} (h : WParts K H a pss) (k : But p H H') (s : SrcAt H p) : WParts K H' a pss := by
  obtain ⟨ts, u, v⟩ := h
  exact ⟨ts, k.seqR s u, v.mono fun _ _ _ _ r => (k.keep s).tup r⟩
theorem WBeds.but {K : PySem.W.Frag} {C : Addr} {H H' : Hp} {p a : Addr} {bs : List Bed} (h : WBeds K C H a bs) (k : But p H H') (s : SrcAt H p) : WBeds K C H' a bs := by
  obtain ⟨ts, u, v⟩ := h
  refine ⟨ts, k.seqR s u, v.mono fun _ _ _ _ ⟨x, y, r1, r2, r3⟩ => ?_⟩
  have kk := k.keep s
  exact ⟨x, y, kk.tup r1, kk.sh r2, kk.sh r3⟩
theorem But.lstR {p : Addr} {H H' : Hp} (k : But p H H') (s : SrcAt H p) {a : Addr} {ts : List Addr} (h : H a = some (.lst (ts.map V.ref))) : H' a = some (.lst (ts.map V.ref)) :=
  k _ _ (fun z => by
    obtain ⟨_, _, _, e2⟩ := s
    rw [z, e2] at h
    cases ts with
    | nil => cases h
    | cons t r => cases h) h
theorem WebAt.but {K : PySem.W.Frag} {C CW : Addr} {H H' : Hp} {p w : Addr} {W : WebV} (h : WebAt K C CW H w W) (k : But p H H') (s : SrcAt H p) : WebAt K C CW H' w W := by
  obtain ⟨dx, b, pp, e, ⟨ts, u, u2⟩, ⟨us, v, v2⟩, g⟩ := h
  have kk := k.keep s
  refine ⟨dx, b, pp, k.nt s e (fun _ z => nomatch z), ⟨ts, k.lstR s u, u2.mono fun _ _ _ _ ⟨x, y, r1, r2, r3⟩ => ⟨x, y, kk.tup r1, kk.sh r2, kk.sh r3⟩⟩, ⟨us, k.lstR s v, v2.mono fun _ _ _ _ r => kk.tup r⟩, g⟩
/-- a bed as the law draws it -/
theorem Lim.add {M j k n : Nat} {x y : Rat} (hx : Lim M j x) (hy : Lim M k y) (h1 : j < n) (h2 : k < n) : Lim M n (x + y) := by
  obtain ⟨a, e1, l1⟩ := hx
  obtain ⟨b, e2, l2⟩ := hy
  refine ⟨a + b, ?_, ?_⟩
  · rw [e1, e2, Rat.intCast_add]
    generalize ((M : Int) : Rat) = z
    by_cases hz : z = 0
    · rw [hz]
      grind
    · grind
  · have p1 := pow_le l1 (show j ≤ n - 1 by omega)
    have p2 := pow_le l2 (show k ≤ n - 1 by omega)
    have := add_lt p1 p2
    rwa [show n - 1 + 1 = n from by omega] at this
theorem Lim.neg {M k : Nat} {x : Rat} (h : Lim M k x) : Lim M k (-x) := by
  obtain ⟨a, e, l⟩ := h
  refine ⟨-a, ?_, by omega⟩
  rw [e, Rat.intCast_neg]
  generalize ((M : Int) : Rat) = z
  by_cases hz : z = 0
  · rw [hz]
    grind
  · grind
end K64

namespace K64
open PySem PySem.Spec PyProof.Rows L2
/-! ### a web of the law's, and the program's of it -/
def WorldAt (K : PySem.W.Frag) (H : Hp) (t : Addr) (W : WebV) : Prop := ∃ rl sl, SqT K H t [.int (W.many : Int), .ref rl, .ref sl] ∧ RowsAt K H rl W.beds ∧ WParts K H sl W.parts
theorem WorldAt.mono {K : PySem.W.Frag} {H H' : Hp} {t : Addr} {W : WebV} (h : WorldAt K H t W) (s : Same H H') : WorldAt K H' t W := by
  obtain ⟨rl, sl, u, v, w⟩ := h
  exact ⟨rl, sl, Same.tup s u, v.mono s, w.mono s⟩
theorem WorldAt.but {K : PySem.W.Frag} {H H' : Hp} {p t : Addr} {W : WebV} (h : WorldAt K H t W) (k : But p H H') (s : SrcAt H p) : WorldAt K H' t W := by
  obtain ⟨rl, sl, u, v, w⟩ := h
  exact ⟨rl, sl, (k.keep s).tup u, v.but k s, w.but k s⟩
theorem sum_some : ∀ {ps : List Nat}, ps.sum ≠ 0 → ∃ p ∈ ps, p ≠ 0
  | [], h => absurd rfl h
  | a :: r, h => by
    by_cases c : a = 0
    · subst c
      rw [List.sum_cons, Nat.zero_add] at h
      obtain ⟨p, hp, p0⟩ := sum_some h
      exact ⟨p, List.mem_cons_of_mem _ hp, p0⟩
    · exact ⟨a, List.mem_cons_self .., c⟩
end K64

namespace K64
open PySem PySem.Spec PyProof.Rows L2
def PairsL (K : PySem.W.Frag) (H : Hp) (l : Addr) (qs : List Rat) : Prop := ∃ ts : List Addr, SqL K H l (ts.map V.ref) ∧ All2 (PairAt K H) ts qs
theorem PairsL.mono {K : PySem.W.Frag} {H H' : Hp} {a : Addr} {bs : List Rat} (h : PairsL K H a bs) (s : Same H H') : PairsL K H' a bs := by
  obtain ⟨ts, u, v⟩ := h
  exact ⟨ts, s.seq u, v.mono fun _ _ _ _ r => Same.tup s r⟩
theorem PairsL.but {K : PySem.W.Frag} {H H' : Hp} {p a : Addr} {bs : List Rat} (h : PairsL K H a bs) (k : But p H H') (s : SrcAt H p) : PairsL K H' a bs := by
  obtain ⟨ts, u, v⟩ := h
  exact ⟨ts, k.seqR s u, v.mono fun _ _ _ _ r => (k.keep s).tup r⟩
theorem sz_int {n : Nat} {k : Nat} (h : n < 2 ^ k) (e : k ≤ 4000) : n < 2 ^ 4000 := Nat.lt_of_lt_of_le h (Nat.pow_le_pow_right (by decide) e)
/-- a share of a pair -/
theorem shq_pr {C : Addr} {H : Hp} {p : Addr} {x : Rat} (h : ShAt C H p (lowT x.num (x.den : Int)) (lowB x.num (x.den : Int))) : ShQ C H p x := by
  have z := shq_low (t := x.num) (b := (x.den : Int)) (by have := den_pos x; omega) h
  rw [rat_frac] at z
  exact z
end K64

namespace K64
open PySem PySem.Spec PyProof.Rows L2
/-! ### the law's draws and fractions -/
def WellN (H : Hp) (p : Addr) (n : Nat) : Prop := ∃ z : Int, WellAt H p z ∧ 0 ≤ z ∧ z ≤ (n : Int)
theorem WellN.src {H : Hp} {p : Addr} {n : Nat} (h : WellN H p n) : SrcAt H p := by
  obtain ⟨z, ⟨x, y, e, _⟩, _⟩ := h
  exact ⟨x, y, z, e⟩
theorem WellN.le {H : Hp} {p : Addr} {n m : Nat} (h : WellN H p n) (e : n ≤ m) : WellN H p m := by
  obtain ⟨z, w, a, b⟩ := h
  exact ⟨z, w, a, by omega⟩
theorem WellN.same {H H' : Hp} {p : Addr} {n : Nat} (h : WellN H p n) (s : Same H H') : WellN H' p n := by
  obtain ⟨z, ⟨x, y, e, b, c⟩, d⟩ := h
  exact ⟨z, ⟨x, y, s _ _ e, b, c⟩, d⟩
theorem WellN.ne {H : Hp} {p q : Addr} {n : Nat} (h : WellN H p n) (e : H q = none) : q ≠ p := h.src.ne e
theorem WellN.put {H : Hp} {p D : Addr} {o : HO} {n : Nat} (h : WellN H p n) (ne : D ≠ p) : WellN (upd H D o) p n := by
  obtain ⟨z, ⟨x, y, e, b, c⟩, d⟩ := h
  exact ⟨z, ⟨x, y, by rw [upd_ne (Ne.symm ne)]; exact e, b, c⟩, d⟩
def spWellN : Sp := fun vs H Q _ => ∃ c : Int, vs = [.int c] ∧ ∀ (H' : Hp) (p : Addr), Same H H' → H p = none → WellN H' p 0 → Q (.ref p) H'
def spDrawN : Sp := fun vs H Q _ => ∃ (p : Addr) (m : Int) (n : Nat), vs = [.ref p, .int m] ∧ WellN H p n ∧ n < 2 ^ 29 ∧ 0 < m ∧ m < 2 ^ 62 ∧
  ∀ (H' : Hp) (d : Int), But p H H' → WellN H' p (n + 1) → 0 ≤ d → d < m → Q (.int d) H'
def spOneN : Sp := fun vs H Q _ => ∃ (p l : Addr) (xs : List V) (n : Nat), vs = [.ref p, .ref l] ∧ WellN H p n ∧ n < 2 ^ 29 ∧ H l = some (.lst xs) ∧ l ≠ p ∧ 0 < xs.length ∧ xs.length < 1000 ∧
  ∀ (H' : Hp) (x : V), But p H H' → WellN H' p (n + 1) → x ∈ xs → Q x H'
def spLessP (K : PySem.W.Frag) : Sp := fun vs H Q _ => ∃ (x y : Addr) (p q : Rat), vs = [.ref x, .ref y] ∧ PairAt K H x p ∧ PairAt K H y q ∧ Sz 1500 p ∧ Sz 1500 q ∧ Q (.bl (decide (p < q))) H
def spShareP (K : PySem.W.Frag) (C : Addr) : Sp := fun vs H Q _ => ∃ (x : Addr) (q : Rat), vs = [.ref x] ∧ PairAt K H x q ∧ Sz 1500 q ∧ ∀ (H' : Hp) (s : Addr), Same H H' → ShQ C H' s q → Q (.ref s) H'
section
variable {P : Program} {w : World} {K : PySem.W.Frag} {mg : Str → Option Value} {base : Heap}
theorem ok_wellN {f : Addr} {fd : FuncData} (F : Fun K "_law_well" "_law_well" d_law_well f fd) (B : TxtB mg) : FnOk P w K mg base CX0 1 f fd ["cell"] spWellN :=
  fn_weaken (ok_well F B) fun vs H Q E ⟨c, e, q⟩ => ⟨c, e, fun p x y hp y0 y1 => q _ p (same1 hp) hp ⟨0, ⟨x, y, upd_same, y0, y1⟩, by decide, by decide⟩⟩
theorem ok_drawN {f : Addr} {fd : FuncData} (F : Fun K "_law_draw" "_law_draw" d_law_draw f fd) : FnOk P w K mg base CX0 1 f fd ["well", "many"] spDrawN :=
  fn_weaken (ok_draw F) fun vs H Q E ⟨p, m, n, e, ⟨z, hw, z0, z1⟩, n1, m0, m1, q⟩ => ⟨p, m, z, e, hw, m0, m1, z0, by omega, fun H' d z' b w' a0 a1 d0 d1 => q H' d b ⟨z', w', a0, by omega⟩ d0 d1⟩
theorem ok_oneN {f fD : Addr} {fd fdD : FuncData} (F : Fun K "_law_one" "_law_one" d_law_one f fd) (B : TxtB mg) (GD : FnOk P w K mg base CX0 1 fD fdD ["well", "many"] spDraw) (mD : mg "_law_draw" = some (.ref fD)) (kD : PySem.W.keepIn K (.ref fD) = true) (bD : Binds K fdD ["well", "many"] []) :
    FnOk P w K mg base CX0 2 f fd ["well", "some"] spOneN :=
  fn_weaken (ok_one F B GD mD kD bD) fun vs H Q E ⟨p, l, xs, n, e, ⟨z, hw, z0, z1⟩, n1, hl, nl, l0, l1, q⟩ => ⟨p, l, xs, z, e, hw, z0, by omega, hl, nl, l0, l1, fun H' z' x b w' a0 a1 hx => q H' x b ⟨z', w', a0, by omega⟩ hx⟩
theorem ok_lowQ {f : Addr} {fd : FuncData} (F : Fun K "_law_low" "_law_low" d_law_low f fd) (B : TxtB mg) : FnOk P w K mg base CX0 1 f fd ["top", "bottom"] spLowQ :=
  fn_weaken (ok_low F B) fun vs H Q E ⟨a, b, e, nb, la, lb, q⟩ => ⟨a, b, e, nb, la, lb, fun p hp => by rw [low_pr nb]; exact q p hp⟩
theorem scLSum : FnScope ["one", "other"] ["one", "other"] (defScope d_law_plus) := ⟨rfl, rfl, rfl, by decide +kernel, rfl, by decide +kernel, by decide +kernel⟩
theorem ok_lsum {f f1 : Addr} {fd fd1 : FuncData} (F : Fun K "_law_plus" "_law_plus" d_law_plus f fd) (A1 : At P w K mg base CX0 1 "_law_low" ["top", "bottom"] spLowQ f1 fd1) : FnOk P w K mg base CX0 2 f fd ["one", "other"] (spTwoP K fun p q => p + q) := by
  refine F.ok scLSum (fun vs H Q E h => ?_) (fun cdv A outer s H vs Q E hr h => ?_)
  · obtain ⟨_, _, _, _, rfl, _⟩ := h
    rfl
  · obtain ⟨x, y, p, q, rfl, hx, hy, s1, s2, kq⟩ := h
    refine ⟨_, pss_one (ps_ret (pe_call A1.G hr rfl A1.m A1.k A1.b .nil pass0 (pa_cons (pe_op op_add (pe_op op_mulW (pe_ix ix_tup (pv 0) pe_int (fun _ _ => rfl)) (pe_ix ix_tup (pv 1) pe_int (fun _ _ => rfl))) (pe_op op_mulW (pe_ix ix_tup (pv 1) pe_int (fun _ _ => rfl)) (pe_ix ix_tup (pv 0) pe_int (fun _ _ => rfl))))
      (pa_cons (pe_op op_mulW (pe_ix ix_tup (pv 0) pe_int (fun _ _ => rfl)) (pe_ix ix_tup (pv 1) pe_int (fun _ _ => rfl))) pa_nil)))), ?_⟩
    have x0 : atI (prV p) 0 = some (.int p.num) := at_k (by decide) rfl
    have x1 : atI (prV p) 1 = some (.int ((p.den : Nat) : Int)) := at_k (by decide) rfl
    have y0 : atI (prV q) 0 = some (.int q.num) := at_k (by decide) rfl
    have y1 : atI (prV q) 1 = some (.int ((q.den : Nat) : Int)) := at_k (by decide) rfl
    refine ⟨_, rfl, x, _, _, _, rfl, rfl, hx, x0, _, rfl, y, _, _, _, rfl, rfl, hy, y1, _, _, rfl, rfl, wide_mul s1.1 s2.2 (by decide) (by decide) (by decide), _, rfl, y, _, _, _, rfl, rfl, hy, y0, _, rfl, x, _, _, _, rfl, rfl, hx, x1, _, _, rfl, rfl, wide_mul s2.1 s1.2 (by decide) (by decide) (by decide), _, _, rfl, rfl, ?_⟩
    refine ⟨_, rfl, x, _, _, _, rfl, rfl, hx, x1, _, rfl, y, _, _, _, rfl, rfl, hy, y1, _, _, rfl, rfl, wide_mul s1.2 s2.2 (by decide) (by decide) (by decide), ?_⟩
    have nz : (p.den : Int) * (q.den : Int) ≠ 0 := Int.mul_ne_zero (by have := den_pos p; omega) (by have := den_pos q; omega)
    refine ⟨_, _, rfl, nz, pow_le (add_lt (mul_lt s1.1 s2.2) (mul_lt s2.1 s1.2)) (by decide), pow_le (mul_lt s1.2 s2.2) (by decide), fun r nr => ?_⟩
    rw [rat_add]
    exact kq r nr
theorem scLProd : FnScope ["one", "other"] ["one", "other"] (defScope d_law_by) := ⟨rfl, rfl, rfl, by decide +kernel, rfl, by decide +kernel, by decide +kernel⟩
theorem ok_lprod {f f1 : Addr} {fd fd1 : FuncData} (F : Fun K "_law_by" "_law_by" d_law_by f fd) (A1 : At P w K mg base CX0 1 "_law_low" ["top", "bottom"] spLowQ f1 fd1) : FnOk P w K mg base CX0 2 f fd ["one", "other"] (spTwoP K fun p q => p * q) := by
  refine F.ok scLProd (fun vs H Q E h => ?_) (fun cdv A outer s H vs Q E hr h => ?_)
  · obtain ⟨_, _, _, _, rfl, _⟩ := h
    rfl
  · obtain ⟨x, y, p, q, rfl, hx, hy, s1, s2, kq⟩ := h
    refine ⟨_, pss_one (ps_ret (pe_call A1.G hr rfl A1.m A1.k A1.b .nil pass0 (pa_cons (pe_op op_mulW (pe_ix ix_tup (pv 0) pe_int (fun _ _ => rfl)) (pe_ix ix_tup (pv 1) pe_int (fun _ _ => rfl)))
      (pa_cons (pe_op op_mulW (pe_ix ix_tup (pv 0) pe_int (fun _ _ => rfl)) (pe_ix ix_tup (pv 1) pe_int (fun _ _ => rfl))) pa_nil)))), ?_⟩
    have x0 : atI (prV p) 0 = some (.int p.num) := at_k (by decide) rfl
    have x1 : atI (prV p) 1 = some (.int ((p.den : Nat) : Int)) := at_k (by decide) rfl
    have y0 : atI (prV q) 0 = some (.int q.num) := at_k (by decide) rfl
    have y1 : atI (prV q) 1 = some (.int ((q.den : Nat) : Int)) := at_k (by decide) rfl
    refine ⟨_, rfl, x, _, _, _, rfl, rfl, hx, x0, _, rfl, y, _, _, _, rfl, rfl, hy, y0, _, _, rfl, rfl, wide_mul s1.1 s2.1 (by decide) (by decide) (by decide), ?_⟩
    refine ⟨_, rfl, x, _, _, _, rfl, rfl, hx, x1, _, rfl, y, _, _, _, rfl, rfl, hy, y1, _, _, rfl, rfl, wide_mul s1.2 s2.2 (by decide) (by decide) (by decide), ?_⟩
    have nz : (p.den : Int) * (q.den : Int) ≠ 0 := Int.mul_ne_zero (by have := den_pos p; omega) (by have := den_pos q; omega)
    refine ⟨_, _, rfl, nz, pow_le (mul_lt s1.1 s2.1) (by decide), pow_le (mul_lt s1.2 s2.2) (by decide), fun r nr => ?_⟩
    rw [rat_mul]
    exact kq r nr
theorem scLs : FnScope ["one", "other"] ["one", "other"] (defScope d_law_under) := ⟨rfl, rfl, rfl, by decide +kernel, rfl, by decide +kernel, by decide +kernel⟩
theorem ok_lessP {f : Addr} {fd : FuncData} (F : Fun K "_law_under" "_law_under" d_law_under f fd) : FnOk P w K mg base CX0 1 f fd ["one", "other"] (spLessP K) := by
  refine F.ok scLs (fun vs H Q E h => ?_) (fun cdv A outer s H vs Q E hr h => ?_)
  · obtain ⟨_, _, _, _, rfl, _⟩ := h
    rfl
  · obtain ⟨x, y, p, q, rfl, hx, hy, s1, s2, kq⟩ := h
    refine ⟨_, pss_one (ps_ret (pe_cmpR op_lt (pe_op op_mulW (pe_ix ix_tup (pv 0) pe_int (fun _ _ => rfl)) (pe_ix ix_tup (pv 1) pe_int (fun _ _ => rfl))) (pe_op op_mulW (pe_ix ix_tup (pv 1) pe_int (fun _ _ => rfl)) (pe_ix ix_tup (pv 0) pe_int (fun _ _ => rfl))) (nomark _))), ?_⟩
    have x0 : atI (prV p) 0 = some (.int p.num) := at_k (by decide) rfl
    have x1 : atI (prV p) 1 = some (.int ((p.den : Nat) : Int)) := at_k (by decide) rfl
    have y0 : atI (prV q) 0 = some (.int q.num) := at_k (by decide) rfl
    have y1 : atI (prV q) 1 = some (.int ((q.den : Nat) : Int)) := at_k (by decide) rfl
    refine ⟨_, rfl, x, _, _, _, rfl, rfl, hx, x0, _, rfl, y, _, _, _, rfl, rfl, hy, y1, _, _, rfl, rfl, wide_mul s1.1 s2.2 (by decide) (by decide) (by decide), _, rfl, y, _, _, _, rfl, rfl, hy, y0, _, rfl, x, _, _, _, rfl, rfl, hx, x1, _, _, rfl, rfl, wide_mul s2.1 s1.2 (by decide) (by decide) (by decide), _, _, rfl, rfl, ?_⟩
    show Q (.bl (decide (p.num * (q.den : Int) < q.num * (p.den : Int)))) H
    rw [rat_lt]
    exact kq
theorem scShr : FnScope ["pair"] ["pair"] (defScope d_law_share) := ⟨rfl, rfl, rfl, by decide +kernel, rfl, by decide +kernel, by decide +kernel⟩
theorem ok_shareP {f fI C CN : Addr} {fd fdI : FuncData} (F : Fun K "_law_share" "_law_share" d_law_share f fd) (T : Txt K mg C CN)
    (M : Mk K C fI) (GI : FnOk P w K mg base (L2.CX P w) 2 fI fdI ["self", "top", "bottom"] (spInit C CN)) (bI : Binds K fdI ["self", "top", "bottom"] []) : FnOk P w K mg base CX0 4 f fd ["pair"] (spShareP K C) := by
  refine F.ok scShr (fun vs H Q E h => ?_) (fun cdv A outer s H vs Q E hr h => ?_)
  · obtain ⟨_, _, rfl, _⟩ := h
    rfl
  · obtain ⟨x, q, rfl, hx, sq, kq⟩ := h
    refine ⟨_, pss_one (ps_ret (pe_make M GI hr rfl T.mgC bI .nil passL (pa_cons (pe_ix ix_tup (pv 0) pe_int (fun _ _ => rfl)) (pa_cons (pe_ix ix_tup (pv 0) pe_int (fun _ _ => rfl)) pa_nil)))), ?_⟩
    refine ⟨_, rfl, x, _, _, _, rfl, rfl, hx, at_k (by decide) rfl, _, rfl, x, _, _, _, rfl, rfl, hx, at_k (by decide) rfl, fun y dy ny ndy ney => ?_⟩
    have nz : ((q.den : Nat) : Int) ≠ 0 := by have := den_pos q; omega
    exact ⟨y, dy, _, _, rfl, upd_same, pow_le sq.1 (by decide), pow_le sq.2 (by decide), fun z => absurd z nz, fun _ L ey ka => ⟨rfl, kq L y (made_same (C := C) ny ndy ka) (shq_pr ⟨dy, ey⟩)⟩⟩
end
end K64

namespace K64
open PySem PySem.Spec PyProof.Rows L2
/-! ### sorted of a list of tuples of ints -/
def refP (p : Addr × List Int) : V := .ref p.1
def encP (p : Addr × List Int) : PyData := .tuple (p.2.map PyData.int)
theorem vals_refP : ∀ {ps : List (Addr × List Int)} {us : List Value}, Vals (ps.map refP) us → us = ps.map fun p => Value.ref p.1
  | [], _, h => by
    cases h
    rfl
  | p :: r, _, h => by
    cases h with
    | cons a b =>
      rw [List.map_cons, ← vals_refP b]
      congr 1
theorem refP_vals : ∀ ps : List (Addr × List Int), Vals (ps.map refP) (ps.map fun p => Value.ref p.1)
  | [] => .nil
  | p :: r => .cons rfl (refP_vals r)
theorem each_refP {R : Value → Addr × List Int → Prop} : ∀ {ps : List (Addr × List Int)}, (∀ p ∈ ps, R (.ref p.1) p) → PySem.W.EachIs R (ps.map fun p => Value.ref p.1) ps
  | [], _ => .nil
  | p :: r, h => .cons (h p (List.mem_cons_self ..)) (each_refP fun q hq => h q (List.mem_cons_of_mem _ hq))
theorem each_refs : ∀ {us : List Value} {ps : List (Addr × List Int)}, PySem.W.EachIs (fun v (p : Addr × List Int) => v = Value.ref p.1) us ps → us = ps.map fun p => Value.ref p.1
  | _, _, .nil => rfl
  | _, _, .cons a b => by rw [List.map_cons, ← each_refs b, a]
theorem dataLe_tup (a b : Addr × List Int) : PySem.W.dataLe false encP a b = !decide (b.2 < a.2) := by
  rw [PySem.W.dataLe_eq]
  show (!PySem.W.dataLt (encP b) (encP a)) = _
  congr 1
  rw [← PySem.W.dataLt_ints]
  exact PySem.W.dataLt_tuple _ _
theorem total_tup : PySem.W.TotalLe (PySem.W.dataLe false encP) := PySem.W.sortLe_total _ _ _
def rSortTI (K : PySem.W.Frag) : List V → Hp → VK → Prop := fun vs H Q => ∃ (a : Addr) (ps : List (Addr × List Int)) (d : Nat), vs = [.ref a] ∧ SqL K H a (ps.map refP) ∧ (∀ p ∈ ps, SqT K H p.1 (p.2.map V.int)) ∧ (∀ p ∈ ps, p.2.length = d) ∧ (d = 0 → ps.length ≤ 1) ∧
  ∀ (qs : List (Addr × List Int)) (b : Addr), qs.Perm ps → (qs.map Prod.snd).Pairwise (fun x y => ¬ y < x) → H b = none → Q (.ref b) (upd H b (.lst (qs.map refP)))
section
variable {X : Cx}
theorem cr_sortTI (hu : X.A.units + 64 < cLine) : CallR X (.builtin "sorted") (rSortTI X.K) := by
  intro pins s σ H vs us Q I r h
  obtain ⟨a, ps, d, rfl, hs, hx, hd, h0, q⟩ := h
  obtain ⟨its, rv, hl, hz⟩ := I.list hs
  rw [Vals.ref1 r]
  have lz : ps.length ≤ sizeLine := by
    rw [List.length_map] at hz
    exact hz
  obtain rfl := vals_refP rv
  have done : ∀ (qs : List (Addr × List Int)) (out : Array Value), out.toList = (qs.map fun p => Value.ref p.1) → qs.Perm ps → (qs.map Prod.snd).Pairwise (fun x y => ¬ y < x) → EP X pins σ Q (.ref (s.heap.objs.size + 1)) { s with heap := sortedAll s.heap (ps.map fun p => Value.ref p.1) out } := fun qs out eo hp hw => by
    obtain ⟨ep, he'⟩ := PyProof.Rows.sortedAll_at s.heap (ps.map fun p => Value.ref p.1) out
    refine ⟨.ref _, upd H (s.heap.objs.size + 1) (.lst (qs.map refP)), I.laid (t' := s.toks) (fun _ _ => PyProof.Rows.sortedAll_old) (Nat.le_succ _) ⟨?_, out.toList, ep, ?_, he'⟩, rfl, q _ _ hp hw (I.hok.fresh (Nat.le_succ _))⟩
    · rw [List.length_map, hp.length_eq]
      exact lz
    · rw [eo]
      exact refP_vals qs
  by_cases c : ps.length ≤ 1
  · refine Srt.sorted_any hl.isList (by rw [List.length_map]; exact lz) (fun h2 => absurd h2 (by rw [List.length_map]; omega)) fun out hp => ?_
    refine done ps out.toArray ?_ (List.Perm.refl _) ?_
    · match ps, c, hp with
      | [], _, hp => exact List.perm_nil.mp hp
      | [p], _, hp => exact List.perm_singleton.mp hp
    · match ps, c with
      | [], _ => exact .nil
      | [p], _ => exact List.pairwise_singleton _ _
  · have d1 : 1 ≤ d := by
      by_cases z : d = 0
      · exact absurd (h0 z) c
      · omega
    refine PySem.W.sorted_data (R := fun v (p : Addr × List Int) => v = Value.ref p.1) (enc := encP) (bs := ps) (vs := ps.map fun p => Value.ref p.1) hl.isList (each_refP fun p hp => rfl) (each_refP fun p hp => Dp.reads I _ (.ref p.1) _ (.tup (hx p hp) (dps_ints _)) rfl)
      (PySem.W.AllAlike.of fun b b' => ?_) (.inl fun e he => ?_) lz (fun b hb => ?_) fun out hlo eo => ?_
    · show PySem.W.alike (.tuple _) (.tuple _) = true
      rw [PySem.W.alike]
      exact PySem.W.alike_ints _ _
    · obtain ⟨b, hb, rfl⟩ := List.mem_map.mp he
      have := hd b hb
      unfold encP
      match hb2 : b.2, this with
      | [], z => simp at z; omega
      | x :: r, _ => exact ⟨_, _, rfl⟩
    · have : (encP b).depth ≤ 1 := by
        unfold encP
        rw [PyData.depth, PySem.W.depth_ints]
        decide
      omega
    · have hp : (ps.mergeSort (PySem.W.dataLe false encP)).Perm ps := List.mergeSort_perm ..
      refine done _ out.toArray (each_refs eo) hp ?_
      rw [List.pairwise_map]
      refine (PySem.W.sort_pairwise total_tup ps).imp fun {x y} e => ?_
      rw [dataLe_tup] at e
      intro z
      rw [decide_eq_true z] at e
      cases e
end
end K64

namespace K64
open PySem PySem.Spec PyProof.Rows L2
/-! ### what the waters of a day are told by -/
def gQ (l : List Rat) (i : Nat) : Rat := (l[i]?).getD 0
def sumN (n : Nat) (f : Nat → Rat) : Rat := ((List.range n).map f).sum
def eB (W : WebV) (k : Nat) : Nat := ((W.beds[k]?).map Bed.e).getD 0
def sB (W : WebV) (k : Nat) : Nat := ((W.beds[k]?).map Bed.s).getD 0
theorem sumQ_app (l m : List Rat) : (l ++ m).sum = l.sum + m.sum := by
  induction l with
  | nil => rw [List.nil_append, List.sum_nil, Rat.zero_add]
  | cons a r ih => rw [List.cons_append, List.sum_cons, List.sum_cons, ih, Rat.add_assoc]
theorem sumQ_one (a : Rat) : [a].sum = a := by
  rw [List.sum_cons, List.sum_nil, Rat.add_zero]
theorem sumN_zero (f : Nat → Rat) : sumN 0 f = 0 := rfl
theorem sumN_succ (n : Nat) (f : Nat → Rat) : sumN (n + 1) f = sumN n f + f n := by
  unfold sumN
  rw [List.range_succ, List.map_append, sumQ_app, List.map_cons, List.map_nil, sumQ_one]
theorem sumN_congr {n : Nat} {f g : Nat → Rat} (h : ∀ k, k < n → f k = g k) : sumN n f = sumN n g := by
  unfold sumN
  rw [List.map_congr_left fun k hk => h k (List.mem_range.mp hk)]
theorem sumN_more {f : Nat → Rat} {m : Nat} : ∀ {n : Nat}, m ≤ n → (∀ k, m ≤ k → k < n → f k = 0) → sumN n f = sumN m f
  | 0, h, _ => by
    have : m = 0 := by omega
    rw [this]
  | n + 1, h, z => by
    by_cases c : m = n + 1
    · rw [c]
    · rw [sumN_succ, z n (by omega) (by omega), Rat.add_zero]
      exact sumN_more (by omega) fun k h1 h2 => z k h1 (by omega)
theorem sumN_at {f g : Nat → Rat} {v : Rat} {k0 : Nat} : ∀ {n : Nat}, k0 < n → (∀ k, k < n → k ≠ k0 → g k = f k) → g k0 = f k0 + v → sumN n g = sumN n f + v
  | 0, h, _, _ => by omega
  | n + 1, h, e, e0 => by
    rw [sumN_succ, sumN_succ]
    by_cases c : k0 = n
    · subst c
      rw [e0, sumN_congr (f := g) (g := f) fun k hk => e k (by omega) (by omega)]
      grind
    · rw [sumN_at (n := n) (by omega) (fun k h1 h2 => e k (by omega) h2) e0, e n (by omega) (fun z => c z.symm)]
      grind
theorem into_sum (W : WebV) (bears : List Rat) (p : Nat) (h : bears.length ≤ W.beds.length) : (intoV W.beds bears p).sum = sumN bears.length fun k => if eB W k = p then gQ bears k else 0 := by
  have step : ∀ i, i ≤ bears.length → ((((bears.zip W.beds).take i).filter fun x => decide (x.2.e = p)).map Prod.fst).sum = sumN i fun k => if eB W k = p then gQ bears k else 0 := by
    intro i
    induction i with
    | zero => intro _; rfl
    | succ i ih =>
      intro hi
      have il : i < bears.length := hi
      have ib : i < W.beds.length := by omega
      have iz : i < (bears.zip W.beds).length := by rw [List.length_zip]; omega
      rw [into_take iz, sumQ_app, ih (by omega), sumN_succ, List.getElem_zip]
      have e1 : eB W i = W.beds[i].e := by
        unfold eB
        rw [List.getElem?_eq_getElem ib]
        rfl
      have e2 : gQ bears i = bears[i] := by
        unfold gQ
        rw [List.getElem?_eq_getElem il]
        rfl
      rw [e1, e2]
      by_cases c : W.beds[i].e = p
      · rw [if_pos c, if_pos c, sumQ_one]
      · rw [if_neg c, if_neg c, List.sum_nil]
  have := step bears.length (Nat.le_refl _)
  rw [List.take_of_length_le (by rw [List.length_zip]; omega)] at this
  exact this
/-- what is told of a place stays -/
theorem flow_pre {W : WebV} (leads : List Bool) (rain : List Rat) : ∀ {p q : Nat}, p ≤ q → (∃ l, (flowV W leads rain q).1 = (flowV W leads rain p).1 ++ l) ∧ ∃ l, (flowV W leads rain q).2 = (flowV W leads rain p).2 ++ l
  | p, 0, h => by
    have : p = 0 := by omega
    subst this
    exact ⟨⟨[], rfl⟩, ⟨[], rfl⟩⟩
  | p, q + 1, h => by
    by_cases c : p = q + 1
    · subst c
      exact ⟨⟨[], (List.append_nil _).symm⟩, ⟨[], (List.append_nil _).symm⟩⟩
    · obtain ⟨⟨l, e1⟩, ⟨m, e2⟩⟩ := flow_pre (W := W) leads rain (p := p) (q := q) (by omega)
      refine ⟨⟨l ++ [(amL W rain (flowV W leads rain q).2 q).sum], ?_⟩, ⟨m ++ bornV ((W.parts[q]?).getD []) (amL W rain (flowV W leads rain q).2 q).sum ((leads[q]?).getD true), ?_⟩⟩
      · show (flowV W leads rain q).1 ++ _ = _
        rw [e1, List.append_assoc]
      · show (flowV W leads rain q).2 ++ _ = _
        rw [e2, List.append_assoc]
theorem gQ_app1 {l m : List Rat} {i : Nat} (h : i < l.length) : gQ (l ++ m) i = gQ l i := by
  unfold gQ
  rw [List.getElem?_append_left h]
theorem gQ_app2 {l m : List Rat} {i : Nat} : gQ (l ++ m) (l.length + i) = gQ m i := by
  unfold gQ
  rw [List.getElem?_append_right (by omega), show l.length + i - l.length = i from by omega]
def partsAt (W : WebV) (p : Nat) : List Nat := (W.parts[p]?).getD []
def leadAt (leads : List Bool) (p : Nat) : Bool := (leads[p]?).getD true
/-- the waters of places and what beds bear, by which beds are first -/
structure IsFlow (W : WebV) (leads : List Bool) (rain ws bs : List Rat) : Prop where
  lw : ws.length = W.many
  lb : bs.length = W.beds.length
  water : ∀ p, p < W.many → gQ ws p = gQ rain p + sumN W.beds.length fun k => if eB W k = p then gQ bs k else 0
  bear : ∀ p r, p < W.many → r < (starts W).count p → gQ bs (cntB (starts W) p + r) = gQ (bornV (partsAt W p) (gQ ws p) (leadAt leads p)) r
theorem sB_at {W : WebV} {k : Nat} (h : k < W.beds.length) : (starts W)[k]? = some (sB W k) ∧ W.beds[k]? = some W.beds[k] ∧ sB W k = W.beds[k].s ∧ eB W k = W.beds[k].e := by
  have e := List.getElem?_eq_getElem h
  unfold starts sB eB
  rw [List.getElem?_map, e]
  exact ⟨rfl, rfl, rfl, rfl⟩
theorem sB_lt {W : WebV} (g : GoodWeb W) {k : Nat} (h : k < W.beds.length) : sB W k < eB W k ∧ eB W k < W.many := by
  obtain ⟨_, _, e1, e2⟩ := sB_at h
  have gb := g.bed _ (List.getElem_mem h)
  rw [e1, e2]
  exact ⟨gb.up, gb.le⟩
theorem sB_cnt {W : WebV} (g : GoodWeb W) {k p : Nat} (h : k < W.beds.length) : k < cntB (starts W) p ↔ sB W k < p := cntB_lt g.sorted (sB_at h).1
/-- a bed is one of its place's -/
theorem sB_block {W : WebV} (g : GoodWeb W) {k : Nat} (h : k < W.beds.length) : ∃ r, k = cntB (starts W) (sB W k) + r ∧ r < (starts W).count (sB W k) := by
  have a := sB_cnt g h (p := sB W k)
  have b := sB_cnt g h (p := sB W k + 1)
  rw [cntB_succ] at b
  exact ⟨k - cntB (starts W) (sB W k), by omega, by omega⟩
theorem block_sB {W : WebV} (g : GoodWeb W) {p r : Nat} (h : r < (starts W).count p) : cntB (starts W) p + r < W.beds.length ∧ sB W (cntB (starts W) p + r) = p := by
  have l := cntB_le (starts W) (p + 1)
  rw [cntB_succ, starts_len] at l
  have kl : cntB (starts W) p + r < W.beds.length := by omega
  have a := sB_cnt g kl (p := p)
  have b := sB_cnt g kl (p := p + 1)
  rw [cntB_succ] at b
  exact ⟨kl, by omega⟩
theorem flow_is {W : WebV} (g : GoodWeb W) (leads : List Bool) (rain : List Rat) : IsFlow W leads rain (flowV W leads rain W.many).1 (flowV W leads rain W.many).2 := by
  have wat : ∀ p, p < W.many → gQ (flowV W leads rain W.many).1 p = (amL W rain (flowV W leads rain p).2 p).sum := fun p hp => by
    obtain ⟨⟨l, e⟩, _⟩ := flow_pre (W := W) leads rain (p := p + 1) (q := W.many) (by omega)
    rw [e]
    have l1 := flow_len1 W leads rain p
    rw [gQ_app1 (by rw [flow_len1]; omega)]
    show gQ ((flowV W leads rain p).1 ++ [_]) p = _
    have := gQ_app2 (l := (flowV W leads rain p).1) (m := [(amL W rain (flowV W leads rain p).2 p).sum]) (i := 0)
    rw [l1, Nat.add_zero] at this
    rw [this]
    rfl
  refine ⟨flow_len1 .., flow_all g leads rain, fun p hp => ?_, fun p r hp hr => ?_⟩
  · rw [wat p hp]
    show ((rain[p]?).getD 0 :: intoV W.beds (flowV W leads rain p).2 p).sum = _
    have l2 := flow_len2 g leads rain p (by omega)
    have le := cntB_le (starts W) p
    rw [starts_len] at le
    rw [List.sum_cons, into_sum W _ p (by rw [l2]; exact le), l2]
    show gQ rain p + _ = _
    congr 1
    obtain ⟨_, ⟨l, e⟩⟩ := flow_pre (W := W) leads rain (p := p) (q := W.many) (by omega)
    rw [sumN_more (m := cntB (starts W) p) (n := W.beds.length) (f := fun k => if eB W k = p then gQ (flowV W leads rain W.many).2 k else 0) le fun k h1 h2 => ?_]
    · refine sumN_congr fun k hk => ?_
      rw [e, gQ_app1 (by rw [l2]; exact hk)]
    · have a := sB_cnt g h2 (p := p)
      have b := (sB_lt g h2).1
      rw [if_neg (by omega)]
  · obtain ⟨_, ⟨l, e⟩⟩ := flow_pre (W := W) leads rain (p := p + 1) (q := W.many) (by omega)
    have l2 := flow_len2 g leads rain p (by omega)
    have l3 := flow_len2 g leads rain (p + 1) (by omega)
    rw [cntB_succ] at l3
    rw [wat p hp, e, gQ_app1 (by rw [l3]; omega)]
    show gQ ((flowV W leads rain p).2 ++ bornV _ _ _) _ = _
    rw [← l2, gQ_app2]
    rfl
theorem gQ_ext {l m : List Rat} (h : l.length = m.length) (e : ∀ i, i < l.length → gQ l i = gQ m i) : l = m := by
  refine List.ext_getElem h fun i h1 h2 => ?_
  have := e i h1
  unfold gQ at this
  rw [List.getElem?_eq_getElem h1, List.getElem?_eq_getElem h2] at this
  exact this
/-- they are told by this alone -/
theorem flow_one {W : WebV} (g : GoodWeb W) {leads : List Bool} {rain ws bs ws' bs' : List Rat} (h : IsFlow W leads rain ws bs) (h' : IsFlow W leads rain ws' bs') : ws = ws' ∧ bs = bs' := by
  have both : ∀ p, p ≤ W.many → (∀ q, q < p → gQ ws q = gQ ws' q) ∧ ∀ k, k < W.beds.length → sB W k < p → gQ bs k = gQ bs' k := by
    intro p
    induction p with
    | zero => exact fun _ => ⟨fun q hq => by omega, fun k _ hk => by omega⟩
    | succ p ih =>
      intro hp
      obtain ⟨i1, i2⟩ := ih (by omega)
      have wp : gQ ws p = gQ ws' p := by
        rw [h.water p (by omega), h'.water p (by omega)]
        congr 1
        refine sumN_congr fun k hk => ?_
        by_cases c : eB W k = p
        · rw [if_pos c, if_pos c]
          have := (sB_lt g hk).1
          exact i2 k hk (by omega)
        · rw [if_neg c, if_neg c]
      refine ⟨fun q hq => ?_, fun k hk hs => ?_⟩
      · by_cases c : q = p
        · rw [c]
          exact wp
        · exact i1 q (by omega)
      · by_cases c : sB W k = p
        · obtain ⟨r, e, hr⟩ := sB_block g hk
          rw [c] at e hr
          rw [e, h.bear p r (by omega) hr, h'.bear p r (by omega) hr, wp]
        · exact i2 k hk (by omega)
  obtain ⟨b1, b2⟩ := both W.many (Nat.le_refl _)
  exact ⟨gQ_ext (by rw [h.lw, h'.lw]) fun i hi => b1 i (by rw [h.lw] at hi; exact hi), gQ_ext (by rw [h.lb, h'.lb]) fun i hi => b2 i (by rw [h.lb] at hi; exact hi) (by
    rw [h.lb] at hi
    have := sB_lt g hi
    omega)⟩
/-! the beds of a place stand one behind the other -/
theorem range_cut {n c d : Nat} (h1 : c ≤ d) (h2 : d ≤ n) : (List.range n).filter (fun k => decide (c ≤ k ∧ k < d)) = List.range' c (d - c) := by
  induction n with
  | zero =>
    have : d - c = 0 := by omega
    rw [this]
    rfl
  | succ n ih =>
    rw [List.range_succ, List.filter_append]
    by_cases e : d = n + 1
    · subst e
      have pre : ∀ m, m ≤ n → (List.range m).filter (fun k => decide (c ≤ k ∧ k < n + 1)) = List.range' c (m - c) := by
        intro m
        induction m with
        | zero =>
          intro _
          rw [Nat.zero_sub]
          rfl
        | succ m ihm =>
          intro hm
          rw [List.range_succ, List.filter_append, ihm (by omega)]
          by_cases z : c ≤ m
          · rw [List.filter_cons, if_pos (by simp; omega), show m + 1 - c = (m - c) + 1 from by omega, List.range'_concat, show c + 1 * (m - c) = m from by omega]
            rfl
          · rw [List.filter_cons, if_neg (by simp; omega), show m + 1 - c = 0 from by omega, show m - c = 0 from by omega]
            rfl
      rw [pre n (Nat.le_refl _)]
      by_cases z : c ≤ n
      · rw [List.filter_cons, if_pos (by simp; omega), show n + 1 - c = (n - c) + 1 from by omega, List.range'_concat, show c + 1 * (n - c) = n from by omega]
        rfl
      · rw [List.filter_cons, if_neg (by simp; omega), show n + 1 - c = 0 from by omega, show n - c = 0 from by omega]
        rfl
    · rw [ih (by omega), List.filter_cons, if_neg (by simp; omega)]
      exact List.append_nil _
theorem fromB_is {W : WebV} (g : GoodWeb W) (p : Nat) : fromB W.beds p = List.range' (cntB (starts W) p) ((starts W).count p) := by
  have l := cntB_le (starts W) (p + 1)
  rw [cntB_succ, starts_len] at l
  have := range_cut (n := W.beds.length) (c := cntB (starts W) p) (d := cntB (starts W) p + (starts W).count p) (by omega) l
  rw [show cntB (starts W) p + (starts W).count p - cntB (starts W) p = (starts W).count p from by omega] at this
  rw [← this]
  unfold fromB
  refine List.filter_congr fun k hk => decide_eq_decide.mpr ?_
  have hk := List.mem_range.mp hk
  obtain ⟨_, e, es, _⟩ := sB_at hk
  have a := sB_cnt g hk (p := p)
  have b := sB_cnt g hk (p := p + 1)
  rw [cntB_succ] at b
  rw [e]
  constructor
  · intro z
    have z : W.beds[k].s = p := Option.some.inj z
    rw [es] at a b
    omega
  · intro z
    rw [es] at a b
    show some W.beds[k].s = some p
    congr 1
    omega
end K64

namespace K64
open PySem PySem.Spec PyProof.Rows L2
/-! ### sums -/
theorem sumN_add (f g : Nat → Rat) : ∀ n, sumN n (fun k => f k + g k) = sumN n f + sumN n g
  | 0 => by rw [sumN_zero, sumN_zero, sumN_zero, Rat.add_zero]
  | n + 1 => by
    rw [sumN_succ, sumN_succ, sumN_succ, sumN_add f g n]
    grind
theorem sumN_nil {f : Nat → Rat} {n : Nat} (h : ∀ k, k < n → f k = 0) : sumN n f = 0 := by
  have := sumN_more (f := f) (m := 0) (n := n) (Nat.zero_le _) fun k _ hk => h k hk
  rw [this, sumN_zero]
theorem sumN_swap (f : Nat → Nat → Rat) (m : Nat) : ∀ n, sumN n (fun p => sumN m (fun k => f p k)) = sumN m (fun k => sumN n (fun p => f p k))
  | 0 => by
    rw [sumN_zero]
    exact (sumN_nil fun k _ => sumN_zero _).symm
  | n + 1 => by
    rw [sumN_succ, sumN_swap f m n, ← sumN_add]
    exact sumN_congr fun k _ => (sumN_succ n _).symm
theorem sumN_pick {e n : Nat} (h : e < n) (v : Rat) : sumN n (fun p => if e = p then v else 0) = v := by
  have := sumN_at (f := fun _ => 0) (g := fun p => if e = p then v else 0) (v := v) (k0 := e) (n := n) h (fun k _ ne => if_neg fun z => ne z.symm) (by rw [if_pos rfl, Rat.zero_add])
  rw [this, sumN_nil (fun _ _ => rfl), Rat.zero_add]
theorem day_is {W : WebV} (g : GoodWeb W) (ds : List Int) (r : List Rat) : IsFlow W (leadsV (gapsV W ds)) r (dayV W ds r).1 (dayV W ds r).2 := flow_is g _ r
end K64

namespace K64
open PySem PySem.Spec PyProof.Rows L2
theorem lead_is {W : WebV} {ds : List Int} {i : Nat} (h : i < W.many) : leadAt (leadsV (gapsV W ds)) i = decide (0 ≤ gap1 ds (fromB W.beds i)) := by
  unfold leadAt leadsV gapsV
  rw [List.getElem?_map, List.getElem?_map, List.getElem?_range h]
  rfl
theorem step_at {bs : List Bed} {ds : List Int} {qs : List Rat} {k : Nat} (h1 : k < ds.length) (h2 : k < bs.length) (h3 : k < qs.length) : (addV ds (movesV bs qs))[k]? = some (ds[k] + mvV bs[k] qs[k]) := by
  unfold addV movesV
  rw [List.getElem?_map, List.getElem?_eq_getElem (by rw [List.length_zip, List.length_map, List.length_zip]; omega), List.getElem_zip, List.getElem_map, List.getElem_zip]
  rfl
end K64

namespace K64
open PySem PySem.Spec PyProof.Rows L2
/-! ### led back: the mathematics -/
def kindsV (ps : List Nat) : List Bool := if ps.length = 2 then [false, true] else [true]
def nextL (f : List (List Bool)) (ps : List Nat) : List (List Bool) := f.flatMap fun l => (kindsV ps).map fun k => l ++ [k]
def allL (pss : List (List Nat)) : List (List Bool) := pss.foldl nextL [[]]
def AllK : List Bool → List (List Nat) → Prop
  | [], [] => True
  | k :: t, ps :: pss => k ∈ kindsV ps ∧ AllK t pss
  | _, _ => False
theorem mem_foldL : ∀ (pss : List (List Nat)) (f : List (List Bool)) (l : List Bool), l ∈ pss.foldl nextL f ↔ ∃ l0 ∈ f, ∃ t, l = l0 ++ t ∧ AllK t pss
  | [], f, l => by
    constructor
    · intro h
      exact ⟨l, h, [], (List.append_nil l).symm, True.intro⟩
    · rintro ⟨l0, h, t, rfl, k⟩
      match t, k with
      | [], _ =>
        rw [List.append_nil]
        exact h
  | ps :: pss, f, l => by
    rw [List.foldl_cons, mem_foldL pss]
    constructor
    · rintro ⟨l0, h, t, rfl, k⟩
      obtain ⟨l1, h1, h2⟩ := List.mem_flatMap.mp h
      obtain ⟨b, hb, rfl⟩ := List.mem_map.mp h2
      exact ⟨l1, h1, b :: t, by rw [List.append_assoc]; rfl, hb, k⟩
    · rintro ⟨l0, h, t, rfl, k⟩
      match t, k with
      | b :: t, ⟨hb, k⟩ => exact ⟨l0 ++ [b], List.mem_flatMap.mpr ⟨l0, h, List.mem_map.mpr ⟨b, hb, rfl⟩⟩, t, by rw [List.append_assoc]; rfl, k⟩
theorem mem_allL {pss : List (List Nat)} {l : List Bool} : l ∈ allL pss ↔ AllK l pss := by
  unfold allL
  rw [mem_foldL]
  constructor
  · rintro ⟨l0, h, t, rfl, k⟩
    rw [List.mem_singleton.mp h]
    exact k
  · exact fun h => ⟨[], List.mem_singleton.mpr rfl, l, rfl, h⟩
theorem allK_len : ∀ {l : List Bool} {pss : List (List Nat)}, AllK l pss → l.length = pss.length
  | [], [], _ => rfl
  | k :: t, ps :: pss, h => by rw [List.length_cons, List.length_cons, allK_len h.2]
theorem allK_of : ∀ {l : List Bool} {pss : List (List Nat)}, l.length = pss.length → (∀ (i : Nat) (ps : List Nat), pss[i]? = some ps → ps.length ≠ 2 → l[i]? = some true) → AllK l pss
  | [], [], _, _ => True.intro
  | [], _ :: _, h, _ => by simp at h
  | _ :: _, [], h, _ => by simp at h
  | k :: t, ps :: pss, h, a => by
    refine ⟨?_, allK_of (by simpa using h) fun i qs e n => by simpa using a (i + 1) qs (by simpa using e) n⟩
    unfold kindsV
    by_cases c : ps.length = 2
    · rw [if_pos c]
      cases k <;> simp
    · rw [if_neg c]
      have := a 0 ps rfl c
      simp at this
      simp [this]
theorem nodup_next {f : List (List Bool)} {ps : List Nat} (h : f.Pairwise (· ≠ ·)) : (nextL f ps).Pairwise (· ≠ ·) := by
  unfold nextL
  rw [List.pairwise_flatMap]
  refine ⟨fun l _ => ?_, h.imp fun {a b} ne x hx y hy e => ?_⟩
  · rw [List.pairwise_map]
    unfold kindsV
    split
    · refine List.pairwise_cons.mpr ⟨fun b hb => ?_, List.pairwise_singleton _ _⟩
      rw [List.mem_singleton.mp hb]
      intro e
      have := List.append_cancel_left e
      simp at this
    · exact List.pairwise_singleton _ _
  · obtain ⟨k, _, rfl⟩ := List.mem_map.mp hx
    obtain ⟨k', _, rfl⟩ := List.mem_map.mp hy
    exact ne (List.append_inj_left' e rfl)
theorem nodup_fold : ∀ (pss : List (List Nat)) {f : List (List Bool)}, f.Pairwise (· ≠ ·) → (pss.foldl nextL f).Pairwise (· ≠ ·)
  | [], _, h => h
  | ps :: pss, _, h => nodup_fold pss (nodup_next h)
theorem nodup_allL (pss : List (List Nat)) : (allL pss).Pairwise (· ≠ ·) := nodup_fold pss (List.pairwise_singleton _ _)
theorem len_next (ps : List Nat) : ∀ f : List (List Bool), (nextL f ps).length = f.length * (kindsV ps).length
  | [] => by simp [nextL]
  | a :: r => by
    have := len_next ps r
    unfold nextL at *
    rw [List.flatMap_cons, List.length_append, this, List.length_map, List.length_cons, Nat.add_mul, Nat.one_mul, Nat.add_comm]
theorem kinds_len (ps : List Nat) : (kindsV ps).length ≤ 2 := by
  unfold kindsV
  split <;> decide
theorem len_fold : ∀ (pss : List (List Nat)) (f : List (List Bool)), (pss.foldl nextL f).length ≤ f.length * 2 ^ pss.length
  | [], f => by simp
  | ps :: pss, f => by
    rw [List.foldl_cons, List.length_cons, Nat.pow_succ, Nat.mul_comm (2 ^ pss.length) 2, ← Nat.mul_assoc]
    refine Nat.le_trans (len_fold pss _) (Nat.mul_le_mul_right _ ?_)
    rw [len_next]
    exact Nat.mul_le_mul_left _ (kinds_len ps)
theorem len_allL (pss : List (List Nat)) : (allL pss).length ≤ 2 ^ pss.length := by
  have := len_fold pss [[]]
  rw [List.length_singleton, Nat.one_mul] at this
  exact this
theorem one_fold : ∀ (pss : List (List Nat)) (f : List (List Bool)), (∀ ps ∈ pss, ps.length ≠ 2) → (pss.foldl nextL f).length = f.length
  | [], _, _ => rfl
  | ps :: pss, f, h => by
    rw [List.foldl_cons, one_fold pss _ fun q hq => h q (List.mem_cons_of_mem _ hq), len_next]
    unfold kindsV
    rw [if_neg (h ps (List.mem_cons_self ..))]
    exact Nat.mul_one _
theorem allL_succ {pss : List (List Nat)} {i : Nat} (h : i < pss.length) : allL (pss.take (i + 1)) = nextL (allL (pss.take i)) pss[i] := by
  unfold allL
  rw [List.take_succ_eq_append_getElem h, List.foldl_append]
  rfl
def subD (ds ms : List Int) : List Int := (ds.zip ms).map fun x => x.1 - x.2
theorem subD_len (ds ms : List Int) : (subD ds ms).length = min ds.length ms.length := by
  unfold subD
  rw [List.length_map, List.length_zip]
theorem add_subD : ∀ {ds ms : List Int}, ds.length = ms.length → addV (subD ds ms) ms = ds
  | [], [], _ => rfl
  | [], _ :: _, h => by simp at h
  | _ :: _, [], h => by simp at h
  | d :: ds, m :: ms, h => by
    have ih := add_subD (ds := ds) (ms := ms) (by simpa using h)
    unfold addV subD at *
    simp only [List.zip_cons_cons, List.map_cons, ih, List.cons.injEq, and_true]
    omega
theorem sub_addV : ∀ {es ms : List Int}, es.length = ms.length → subD (addV es ms) ms = es
  | [], [], _ => rfl
  | [], _ :: _, h => by simp at h
  | _ :: _, [], h => by simp at h
  | d :: ds, m :: ms, h => by
    have ih := sub_addV (es := ds) (ms := ms) (by simpa using h)
    unfold addV subD at *
    simp only [List.zip_cons_cons, List.map_cons, ih, List.cons.injEq, and_true]
    omega
def movB (W : WebV) (ls : List Bool) (rain : List Rat) : List Int := movesV W.beds (flowV W ls rain W.many).2
def ledV (W : WebV) (ds : List Int) (ls : List Bool) (ms : List Int) : Option (List Int) := if leadsV (gapsV W (subD ds ms)) = ls then some (subD ds ms) else none
def foundV (W : WebV) (ds : List Int) (rain : List Rat) : List (List Int) := (allL W.parts).filterMap fun ls => ledV W ds ls (movB W ls rain)
theorem movB_len {W : WebV} (g : GoodWeb W) (ls : List Bool) (rain : List Rat) : (movB W ls rain).length = W.beds.length := by
  have h : (flowV W ls rain W.many).2.length = W.beds.length := flow_all g ls rain
  unfold movB movesV
  rw [List.length_map, List.length_zip, h]
  omega
theorem step_movB (W : WebV) (e : List Int) (rain : List Rat) : stepV W e rain = addV e (movB W (leadsV (gapsV W e)) rain) := rfl
theorem leads_all {W : WebV} (g : GoodWeb W) (e : List Int) : leadsV (gapsV W e) ∈ allL W.parts := by
  rw [mem_allL]
  refine allK_of (by rw [leads_len, gaps_len, g.plen]) fun i ps hp n2 => ?_
  have hi : i < W.many := by
    have := (List.getElem?_eq_some_iff.mp hp).1
    have := g.plen
    omega
  have gp := (g.part i ps hp).len
  have fb := fromB_is g i
  unfold leadsV gapsV
  rw [List.getElem?_map, List.getElem?_map, List.getElem?_range hi]
  show some (decide (0 ≤ gap1 e (fromB W.beds i))) = some true
  have two := g.two i
  rw [fb]
  have : (starts W).count i = 0 ∨ (starts W).count i = 1 := by omega
  rcases this with z | z <;> rw [z] <;> rfl
theorem mem_found {W : WebV} (g : GoodWeb W) {ds : List Int} (ld : ds.length = W.beds.length) {rain : List Rat} {e : List Int} : e ∈ foundV W ds rain ↔ e.length = W.beds.length ∧ stepV W e rain = ds := by
  unfold foundV
  rw [List.mem_filterMap]
  constructor
  · rintro ⟨ls, _, h⟩
    unfold ledV at h
    split at h
    · obtain rfl := Option.some.inj h
      have lm := movB_len g ls rain
      refine ⟨by rw [subD_len]; omega, ?_⟩
      rw [step_movB]
      rename_i hl
      rw [hl]
      exact add_subD (by omega)
    · cases h
  · rintro ⟨le, rfl⟩
    have lm := movB_len g (leadsV (gapsV W e)) rain
    refine ⟨leadsV (gapsV W e), leads_all g e, ?_⟩
    unfold ledV
    rw [step_movB, sub_addV (by omega), if_pos rfl]
theorem nodup_found (W : WebV) (ds : List Int) (rain : List Rat) : (foundV W ds rain).Pairwise (· ≠ ·) := by
  unfold foundV
  rw [List.pairwise_filterMap]
  refine (nodup_allL W.parts).imp fun {a b} ne x hx y hy e => ?_
  unfold ledV at hx hy
  split at hx
  · split at hy
    · rename_i h1 h2
      have := Option.some.inj hx
      have := Option.some.inj hy
      apply ne
      rw [← h1, ← h2]
      simp_all
    · cases hy
  · cases hx
theorem found_few {W : WebV} (g : GoodWeb W) (ds : List Int) (rain : List Rat) : (foundV W ds rain).length ≤ 256 := by
  unfold foundV
  refine Nat.le_trans (List.length_filterMap_le ..) (Nat.le_trans (len_allL _) ?_)
  rw [g.plen]
  exact Nat.le_trans (Nat.pow_le_pow_right (by decide) g.m8) (by decide)
theorem found_none {W : WebV} (g : GoodWeb W) (ds : List Int) (rain : List Rat) (h : W.beds.length = 0) : (foundV W ds rain).length ≤ 1 := by
  unfold foundV
  refine Nat.le_trans (List.length_filterMap_le ..) ?_
  unfold allL
  rw [one_fold W.parts [[]] fun ps hp => ?_]
  · exact Nat.le_refl _
  · obtain ⟨i, hi⟩ := List.mem_iff_getElem?.mp hp
    have gl := (g.part i ps hi).len
    have sn : starts W = [] := by
      unfold starts
      rw [List.map_eq_nil_iff]
      exact List.length_eq_zero_iff.mp h
    rw [sn] at gl
    rw [gl]
    rw [List.count_nil]
    decide
end K64

namespace K64
open PySem PySem.Spec PyProof.Rows L2
/-! ### led back: the program -/
section
variable {J : It} {n : Nat} {G : Hp → Prop} {Y : Nat → Hp → V → Hp → Prop}
/-- a walk, whatever is done in a turn -/
theorem wk_it (w : Walk J n G Y) {Bd : (Hp → Prop) → V → Hp → Prop} {H0 : Hp} {Qd : Hp → Prop} (Pv : Nat → Hp → Prop) (h0 : Pv 0 H0) (hG : ∀ i H, i ≤ n → Pv i H → G H) (hs : ∀ i x H H', i < n → Pv i H → Y i H x H' → Bd (Pv (i + 1)) x H') (hd : ∀ H, Pv n H → Qd H) :
    ∃ W : Nat → Nat → Hp → Prop, (∃ m, W 0 m H0) ∧ ∀ i m H, W i m H → (J.stop i H ∧ Qd H) ∨ (J.go i H ∧ ∃ Nx : Hp → Prop, (∀ H', Nx H' → ∃ m', m' < m ∧ W (i + 1) m' H') ∧ ∀ x H', J.yld i H x H' → Bd Nx x H') := by
  refine ⟨fun i m H => m = n - i ∧ i ≤ n ∧ Pv i H, ⟨n, by simp, Nat.zero_le _, h0⟩, ?_⟩
  rintro i m H ⟨rfl, hi, p⟩
  have q := hG i H hi p
  by_cases hlt : i < n
  · exact .inr ⟨w.goes i H hlt q, Pv (i + 1), fun H' p' => ⟨n - (i + 1), by omega, rfl, hlt, p'⟩, fun x H' y => hs i x H H' hlt p (w.yields i H x H' hlt q y)⟩
  · have e : i = n := by omega
    subst e
    exact .inl ⟨w.stops H q, hd H p⟩
end
def LdsAt (K : PySem.W.Frag) (H : Hp) (a : Addr) (l : List Bool) : Prop := SqT K H a (l.map V.bl)
def spAllL (K : PySem.W.Frag) (C CW : Addr) : Sp := fun vs H Q _ => ∃ (w : Addr) (W : WebV), vs = [.ref w] ∧ WebAt K C CW H w W ∧ ∀ (H' : Hp) (l : Addr) (ts : List Addr), Same H H' → H l = none → H' l = some (.lst (ts.map V.ref)) → All2 (LdsAt K H') ts (allL W.parts) → Q (.ref l) H'
def spLedB (K : PySem.W.Frag) (C CW : Addr) : Sp := fun vs H Q _ => ∃ (w d t l : Addr) (W : WebV) (ds : List Int) (ls : List Bool) (ms : List Int), vs = [.ref w, .ref d, .ref t, .ref l] ∧ WebAt K C CW H w W ∧ SqT K H d (ds.map V.int) ∧ ds.length = W.beds.length ∧ LdsAt K H t ls ∧ ls.length = W.many ∧
  SqL K H l (ms.map V.int) ∧ ms.length = W.beds.length ∧ (∀ e, ledV W ds ls ms = some e → ∀ (H' : Hp) (u : Addr), Same H H' → SqT K H' u (e.map V.int) → Q (.ref u) H') ∧ (ledV W ds ls ms = none → ∀ H', Same H H' → Q .non H')
theorem all2_flat {α β : Type} {R : α → β → Prop} : ∀ {as bs : List α} {xs ys : List β}, All2 R as xs → All2 R bs ys → All2 R (as ++ bs) (xs ++ ys) := fun h1 h2 => All2.app h1 h2
theorem eqv_bools : ∀ l m : List Bool, PyData.eqvAll (l.map PyData.bool) (m.map PyData.bool) = decide (l = m)
  | [], [] => by simp [PyData.eqvAll]
  | [], _ :: _ => by simp [PyData.eqvAll]
  | _ :: _, [] => by simp [PyData.eqvAll]
  | a :: l, b :: m => by
    have := eqv_bools l m
    simp only [List.map_cons, PyData.eqvAll, PyData.eqv, this]
    cases a <;> cases b <;> simp
theorem can_bools : ∀ ns : List Bool, PyData.canLayAll0 (ns.map PyData.bool) = true
  | [] => by simp [PyData.canLayAll0]
  | n :: r => by simp [PyData.canLayAll0, PyData.canLay0, can_bools r]
theorem dep_bools : ∀ ns : List Bool, PyData.depthAll (ns.map PyData.bool) ≤ 1
  | [] => by simp [PyData.depthAll]
  | n :: r => by
    have := dep_bools r
    simp only [List.map_cons, PyData.depthAll, PyData.depth]
    omega
theorem dp_bools {K : PySem.W.Frag} {H : Hp} : ∀ l : List Bool, DpAll K H (l.map V.bl) (l.map PyData.bool)
  | [] => .nil
  | b :: r => .cons (.bl b) (dp_bools r)
theorem shaped_bools (l : List Bool) : SeqAt.shaped (.tuple (l.map PyData.bool)) = true := by
  have h1 := can_bools l
  have h2 := dep_bools l
  have h3 : PyData.depth (.tuple (l.map PyData.bool)) ≤ 64 := by simp only [PyData.depth]; omega
  show (PyData.canLay0 (.tuple _) && decide (PyData.depth (.tuple _) ≤ 64)) = true
  rw [Bool.and_eq_true]
  exact ⟨by simp only [PyData.canLay0]; exact h1, decide_eq_true h3⟩
section
variable {P : Program} {w : World} {K : PySem.W.Frag} {mg : Str → Option Value} {base : Heap}
abbrev alN : List Str := ["web", "found", "parts", "kinds", "leads", "kind"]
theorem scAl : FnScope alN ["web"] (defScope d_all_leads) := ⟨rfl, rfl, rfl, by decide +kernel, rfl, by decide +kernel, by decide +kernel⟩
theorem ok_allL {f C CW : Addr} {fd : FuncData} (F : Fun K "all_leads" "all_leads" d_all_leads f fd) (TW : CrsW K CW) (Y : TxtW mg C) : FnOk P w K mg base CX0 1 f fd ["web"] (spAllL K C CW) := by
  refine F.ok scAl (fun vs H Q E h => ?_) (fun cdv A outer s H vs Q E hr h => ?_)
  · obtain ⟨_, _, rfl, _⟩ := h
    rfl
  · obtain ⟨w0, W, rfl, hw, q⟩ := h
    refine ⟨_, pss_cons (ps_set (i := 1) scAl.nd rfl (Or.inl rfl) (pe_lst (pa_cons (pe_tup pa_nil) pa_nil)))
      (pss_cons (ps_for PassesOwn.never rfl (pi_list (pe_fld (pv 0) rfl)) (pg_name (i := 2) scAl.nd rfl (.inl rfl))
        (C8.pss_cut (ps_set (i := 3) scAl.nd rfl (Or.inr rfl) (pe_ifExp (pt_cmpR op_eq (pe_callB call_len_seq (by rfl) Y.len PySem.boot_len (pa_cons (pv 2) pa_nil)) pe_int (nomark _)) (pe_tup (pa_cons pe_bl (pa_cons pe_bl pa_nil))) (pe_tup (pa_cons pe_bl pa_nil))))
        (pss_one (ps_setLc2 (i := 1) (own := [("leads", 4), ("kind", 5)]) (vs1 := [5]) (g := gName 4) (g1 := gName 5) (by rfl) scAl.nd rfl rfl (sw_true rfl rfl rfl (by decide +kernel)) (pi_list (pv 1)) (blkOk_by (own := [("leads", 4), ("kind", 5)]) (N := alN) (sc := defScope d_all_leads) (by decide +kernel)) (by decide)
            (fun _ _ _ _ _ => pg_name (i := 4) scAl.nd rfl (.inl rfl)) (fun _ _ _ _ _ => pts_nil) (fun _ _ _ _ _ => (show PI _ _ _ (iTup K (tVar 3)) from pi_tup (pv 3))) (fun _ _ _ _ _ => pg_name (i := 5) scAl.nd rfl (.inl rfl)) (fun _ _ _ _ _ => pts_nil)
            (fun _ _ _ _ _ => pe_op (show OpR _ _ (rCatA K) from op_catA) (pv 4) (pe_tup (pa_cons (pv 5) pa_nil)))))))
      (pss_one (ps_ret (pv 1)))), ?_⟩
    obtain ⟨dx, bl, pl, ew, _, ⟨us, hp, hus⟩, g⟩ := id hw
    have m8 := g.m8
    have lp := g.plen
    have lus := hus.len
    refine ⟨(by show 0 ≤ sizeLine; decide), fun T0 hT0 => ⟨(by show 1 ≤ sizeLine; decide), fun L0 hL0 => ?_⟩⟩
    have s1 : Same H (upd H T0 (.tup [])) := same1 hT0
    have eT0 : (upd H T0 (.tup []) : Hp) T0 = some (.tup []) := upd_same
    have n0 : H L0 = none := by
      cases c : H L0 with
      | none => rfl
      | some o =>
        have := s1 _ _ c
        rw [hL0] at this
        cases this
    generalize upd H T0 (.tup []) = H1 at *
    have s2 : Same H1 (upd H1 L0 (.lst [.ref T0])) := same1 hL0
    have eL0 : (upd H1 L0 (.lst [.ref T0]) : Hp) L0 = some (.lst ([T0].map V.ref)) := upd_same
    generalize upd H1 L0 (.lst [.ref T0]) = H2 at *
    have s12 := s1.trans s2
    refine ⟨_, rfl, w0, CW, dx, _, _, rfl, s12 _ _ ew, TW.cl, TW.np, webF_parts .., pl, rfl, ⟨_, SqL.of (s12 _ _ hp)⟩, ?_⟩
    refine for_list (K := K) (a := pl) (xs := us.map V.ref) (fun i σ N => ∃ (v2 v3 : Option V) (l : Addr) (ts : List Addr), σ = [some (.ref w0), some (.ref l), v2, v3, none, none] ∧ H l = none ∧ N l = some (.lst (ts.map V.ref)) ∧ All2 (LdsAt K N) ts (allL (W.parts.take i)) ∧ Same H N)
      ⟨none, none, L0, [T0], rfl, n0, eL0, ⟨rfl, fun i a b ha hb => ?_⟩, s12⟩ ?_ ?_ ?_
    · match i, ha, hb with
      | 0, ha, hb =>
        have ha : some T0 = some a := ha
        have hb : some ([] : List Bool) = some b := hb
        obtain rfl := Option.some.inj ha
        obtain rfl := Option.some.inj hb
        exact SqT.of (s2 _ _ eT0)
      | i + 1, ha, _ => simp at ha
    · rintro i σ N _ ⟨_, _, _, _, rfl, _, _, _, sN⟩
      exact SqL.of (sN _ _ hp)
    · rintro i x σ N hx ⟨v2, v3, l, ts, rfl, nl, el, ht, sN⟩
      rw [List.getElem?_map] at hx
      obtain ⟨u, hu, rfl⟩ := Option.map_eq_some_iff.mp hx
      have il : i < W.parts.length := by
        have := (List.getElem?_eq_some_iff.mp hu).1
        omega
      have hpu : SqT K N u (W.parts[i].map natV) := Same.tup sN (hus.all i u _ hu (List.getElem?_eq_getElem il))
      have lts := ht.len
      have few : (allL (W.parts.take i)).length ≤ 128 := by
        refine Nat.le_trans (len_allL _) ?_
        rw [List.length_take]
        exact Nat.le_trans (Nat.pow_le_pow_right (by decide) (show min i W.parts.length ≤ 7 by omega)) (by decide)
      have sz : 1000 ≤ sizeLine := by decide
      refine ⟨fun σ' N' => ∃ kt : Addr, σ' = [some (.ref w0), some (.ref l), some (.ref u), some (.ref kt), none, none] ∧ N' kt = some (.tup ((kindsV W.parts[i]).map V.bl)) ∧ Same N N', ?_, ?_⟩
      · refine ⟨_, rfl, u, _, rfl, .inr hpu, rfl, _, rfl, ?_⟩
        rw [List.length_map]
        refine ite2 (fun h => ?_) (fun h => ?_)
        · have h : W.parts[i].length = 2 := by
            have := V.int.inj (of_decide_eq_true h)
            omega
          have e : kindsV W.parts[i] = [false, true] := if_pos h
          exact ⟨(by show 2 ≤ sizeLine; decide), fun kt hkt => ⟨kt, rfl, by rw [e]; exact upd_same, same1 hkt⟩⟩
        · have h : W.parts[i].length ≠ 2 := fun z => h (decide_eq_true (by rw [z]; rfl))
          have e : kindsV W.parts[i] = [true] := if_neg h
          exact ⟨(by show 1 ≤ sizeLine; decide), fun kt hkt => ⟨kt, rfl, by rw [e]; exact upd_same, same1 hkt⟩⟩
      rintro σ' N1 ⟨kt, rfl, ekt, s3⟩
      have el1 := s3 _ _ el
      have ht1 : All2 (LdsAt K N1) ts (allL (W.parts.take i)) := ht.mono fun _ _ _ _ r => Same.tup s3 r
      refine ⟨_, rfl, l, rfl, ⟨_, SqL.of el1⟩, fun D hD => ?_⟩
      have nD : H D = none := by
        cases c : H D with
        | none => rfl
        | some o =>
          have := s3 _ _ (sN _ _ c)
          rw [hD] at this
          cases this
      have klen := kinds_len W.parts[i]
      refine wk_it (walk_list (K := K) (a := l) (xs := ts.map V.ref)) (fun j M => ∃ rs : List Addr, M D = some (.lst (rs.map V.ref)) ∧ All2 (LdsAt K M) rs (nextL ((allL (W.parts.take i)).take j) W.parts[i]) ∧ Same N1 M) ⟨[], upd_same, .nil, same1 hD⟩ ?_ ?_ ?_
      · rintro j M _ ⟨_, _, _, sM⟩
        exact SqL.of (sM _ _ el1)
      · rintro j x M0 M hj ⟨rs, eD, hrs, sM⟩ ⟨rfl, hxj⟩
        have hxj : (ts.map V.ref)[j]? = some x := hxj
        rw [List.getElem?_map] at hxj
        obtain ⟨t, htj, rfl⟩ := Option.map_eq_some_iff.mp hxj
        have jl : j < (allL (W.parts.take i)).length := by
          have := (List.getElem?_eq_some_iff.mp htj).1
          omega
        have hlt := ht1.all j t _ htj (List.getElem?_eq_getElem jl)
        generalize hb : (allL (W.parts.take i))[j] = bs at *
        have lbs : bs.length ≤ 8 := by
          have m : bs ∈ allL (W.parts.take i) := by
            rw [← hb]
            exact List.getElem_mem jl
          have := allK_len (mem_allL.mp m)
          rw [List.length_take] at this
          omega
        have tk : nextL ((allL (W.parts.take i)).take (j + 1)) W.parts[i] = nextL ((allL (W.parts.take i)).take j) W.parts[i] ++ (kindsV W.parts[i]).map fun k => bs ++ [k] := by
          unfold nextL
          rw [List.take_succ_eq_append_getElem jl, List.flatMap_append, hb, List.flatMap_singleton]
        have rl : rs.length ≤ 256 := by
          rw [hrs.len, len_next, List.length_take]
          exact Nat.le_trans (Nat.mul_le_mul (show _ ≤ 128 by omega) klen) (by decide)
        refine ⟨rfl, ?_⟩
        refine ⟨_, rfl, kt, rfl, ⟨_, SqT.of (sM _ _ ekt)⟩, ?_⟩
        refine wk_it (walk_tup (K := K) (a := kt) (xs := (kindsV W.parts[i]).map V.bl)) (fun m Z => ∃ rs2 : List Addr, Z D = some (.lst ((rs ++ rs2).map V.ref)) ∧ All2 (LdsAt K Z) (rs ++ rs2) (nextL ((allL (W.parts.take i)).take j) W.parts[i] ++ (((kindsV W.parts[i]).take m).map fun k => bs ++ [k])) ∧ rs2.length ≤ m ∧ Same N1 Z) ⟨[], by rw [List.append_nil]; exact eD, by rw [List.append_nil, List.take_zero, List.map_nil, List.append_nil]; exact hrs, Nat.le_refl _, sM⟩ ?_ ?_ ?_
        · rintro m Z _ ⟨_, _, _, _, sZ⟩
          exact SqT.of (sZ _ _ ekt)
        · rintro m y Z0 Z hm ⟨rs2, eZ, hrs2, l2, sZ⟩ ⟨rfl, hy⟩
          have hy : ((kindsV W.parts[i]).map V.bl)[m]? = some y := hy
          rw [List.getElem?_map] at hy
          obtain ⟨kd, hkd, rfl⟩ := Option.map_eq_some_iff.mp hy
          have ml : m < (kindsV W.parts[i]).length := (List.getElem?_eq_some_iff.mp hkd).1
          have ekd : (kindsV W.parts[i])[m] = kd := by
            rw [List.getElem?_eq_getElem ml] at hkd
            exact Option.some.inj hkd
          refine ⟨rfl, ?_⟩
          refine ⟨_, rfl, _, rfl, (by show 1 ≤ sizeLine; decide), fun O hO => ?_⟩
          have u1 : Same Z (upd Z O (.tup [.bl kd])) := same1 hO
          have eO : (upd Z O (.tup [.bl kd]) : Hp) O = some (.tup [.bl kd]) := upd_same
          generalize upd Z O (.tup [.bl kd]) = Z1 at *
          have hlt1 : SqT K Z1 t (bs.map V.bl) := Same.tup (sZ.trans u1) hlt
          have fin : ∀ (Z2 : Hp) (r : Addr), Same Z1 Z2 → SqT K Z2 r ((bs ++ [kd]).map V.bl) → ∃ acc, Z2 D = some (.lst acc) ∧ acc.length < sizeLine ∧ ∃ rs3 : List Addr, (upd Z2 D (.lst (acc ++ [V.ref r]))) D = some (.lst ((rs ++ rs3).map V.ref)) ∧ All2 (LdsAt K (upd Z2 D (.lst (acc ++ [V.ref r])))) (rs ++ rs3) (nextL ((allL (W.parts.take i)).take j) W.parts[i] ++ (((kindsV W.parts[i]).take (m + 1)).map fun k => bs ++ [k])) ∧ rs3.length ≤ m + 1 ∧ Same N1 (upd Z2 D (.lst (acc ++ [V.ref r]))) := fun Z2 r u2 hr2 => by
            have eD2 := u2 _ _ (u1 _ _ eZ)
            have kp : KeepL Z2 (upd Z2 D (.lst ((rs ++ rs2).map V.ref ++ [V.ref r]))) := keep_put eD2
            refine ⟨_, eD2, ?_, rs2 ++ [r], by rw [upd_same, ← List.append_assoc, List.map_append (l₁ := rs ++ rs2)]; rfl, ?_, by rw [List.length_append]; exact Nat.succ_le_succ l2, fun c o ec => ?_⟩
            · rw [List.length_map, List.length_append]
              omega
            · have e : ((kindsV W.parts[i]).take (m + 1)).map (fun k => bs ++ [k]) = ((kindsV W.parts[i]).take m).map (fun k => bs ++ [k]) ++ [bs ++ [kd]] := by
                rw [List.take_succ_eq_append_getElem ml, List.map_append, ekd]
                rfl
              rw [e, ← List.append_assoc, ← List.append_assoc]
              exact (hrs2.mono fun _ _ _ _ x => kp.tup (Same.tup (u1.trans u2) x)).snoc (kp.tup hr2)
            · rw [upd_ne (ne_of_none ec hD)]
              exact u2 _ _ (u1 _ _ (sZ _ _ ec))
          refine ⟨t, O, _, _, rfl, rfl, hlt1, SqT.of eO, ?_, fun z => ?_, (fun _ z => nomatch z), fun _ _ r hr2 => ?_⟩
          · rw [List.length_map]
            exact Nat.le_trans (show bs.length + 1 ≤ 9 by omega) (by decide)
          · have z : bs = [] := List.map_eq_nil_iff.mp z
            refine fin Z1 O (Same.refl _) ?_
            rw [z]
            exact SqT.of eO
          · refine fin _ r (same1 hr2) (SqT.of ?_)
            rw [List.map_append]
            exact upd_same
        · rintro Z ⟨rs2, eZ, hrs2, _, sZ⟩
          refine ⟨rs ++ rs2, eZ, ?_, sZ⟩
          rw [tk]
          rw [List.length_map, List.take_length] at hrs2
          exact hrs2
      · rintro M ⟨rs, eD, hrs, sM⟩
        refine ⟨_, _, D, rs, rfl, nD, eD, ?_, sN.trans (s3.trans sM)⟩
        rw [allL_succ il]
        rw [List.length_map, lts, List.take_length] at hrs
        exact hrs
    · rintro σ N ⟨v2, v3, l, ts, rfl, nl, el, ht, sN⟩
      rw [List.length_map, lus, List.take_length] at ht
      exact ⟨_, rfl, q N l ts sN nl el ht⟩
abbrev lbN : List Str := ["web", "depths", "leads", "moves", "earlier", "depth", "move"]
theorem scLb : FnScope lbN ["web", "depths", "leads", "moves"] (defScope d_led_back) := ⟨rfl, rfl, rfl, by decide +kernel, rfl, by decide +kernel, by decide +kernel⟩
theorem ok_ledB {f f1 f2 C CW : Addr} {fd fd1 fd2 : FuncData} (F : Fun K "led_back" "led_back" d_led_back f fd) (Y : TxtW mg C) (hzip : mg "zip" = none)
    (A1 : At P w K mg base CX0 2 "gaps_of" ["web", "numbers"] (spGaps K C CW) f1 fd1) (A2 : At P w K mg base CX0 1 "leads_of" ["gaps"] (spLeads K) f2 fd2) : FnOk P w K mg base CX0 3 f fd ["web", "depths", "leads", "moves"] (spLedB K C CW) := by
  refine F.ok scLb (fun vs H Q E h => ?_) (fun cdv A outer s H vs Q E hr h => ?_)
  · obtain ⟨_, _, _, _, _, _, _, _, rfl, _⟩ := h
    rfl
  · obtain ⟨w0, d, t, l, W, ds, ls, ms, rfl, hw, hd, ld, ht, lls, hl, lm, yes, no⟩ := h
    have r1 : Room 1 _ := hr.mono (by decide)
    refine ⟨_, pss_cons (ps_set (i := 4) scLb.nd rfl (Or.inl rfl) (pe_callTy (cr_tup (K := K) rfl) (by rfl) Y.tuple (by decide +kernel) (pa_cons
        (pe_lc (own := [("depth", 5), ("move", 6)]) (g := gTup K 2 (gCons (gName 5) (gCons (gName 6) gNil))) (by rfl) scLb.nd (pi_zipG true false (by rfl) hzip (pa_cons (pv 1) (pa_cons (pv 3) pa_nil))) (blkOk_by (own := [("depth", 5), ("move", 6)]) (N := lbN) (sc := defScope d_led_back) (by decide +kernel))
          (fun _ _ _ _ _ => pg_tup (by rfl) (pgs_cons (pg_name (i := 5) scLb.nd rfl (.inl rfl)) (pgs_cons (pg_name (i := 6) scLb.nd rfl (.inl rfl)) pgs_nil))) (fun _ _ _ _ _ => pts_nil)
          (fun _ _ _ _ _ => pe_op op_sub (pv 5) (pv 6))) pa_nil)))
      (pss_one (ps_ret (pe_ifExp (pt_cmpR (op_eqD hr.units) (pe_call A2.G r1 rfl A2.m A2.k A2.b .nil pass0 (pa_cons (pe_call A1.G hr rfl A1.m A1.k A1.b .nil pass0 (pa_cons (pv 0) (pa_cons (pv 4) pa_nil))) pa_nil)) (pv 2) (nomark _)) (pv 4) pe_non))), ?_⟩
    obtain ⟨_, _, _, _, _, _, g⟩ := id hw
    have few := g.few
    have m8 := g.m8
    refine ⟨_, rfl, _, rfl, d, l, _, _, rfl, hd, hl, fun D hD => ?_⟩
    refine lc_it (walk_zipG (K := K) (j := true) (k := false) (a := d) (b := l) (xs := ds.map V.int) (ys := ms.map V.int) rfl) (fun i N => N D = some (.lst (((subD ds ms).take i).map V.int)) ∧ Same H N) ⟨upd_same, same1 hD⟩ ?_ ?_ ?_
    · rintro i N _ ⟨_, sN⟩
      exact ⟨Same.tup sN hd, sN.seq hl⟩
    · rintro i x N N' hi ⟨eD, sN⟩ ⟨T1, x1, x2, rfl, hT, rfl, e1, e2⟩
      have e1 : (ds.map V.int)[i]? = some x1 := e1
      have e2 : (ms.map V.int)[i]? = some x2 := e2
      rw [List.getElem?_map] at e1 e2
      obtain ⟨n1, h1, rfl⟩ := Option.map_eq_some_iff.mp e1
      obtain ⟨n2, h2, rfl⟩ := Option.map_eq_some_iff.mp e2
      have i1 : i < ds.length := (List.getElem?_eq_some_iff.mp h1).1
      have i3 : i < (subD ds ms).length := by rw [subD_len]; omega
      have s3 : Same N (upd N T1 (.tup [.int n1, .int n2])) := same1 hT
      refine ⟨T1, _, rfl, SqT.of upd_same, rfl, _, _, rfl, _, _, rfl, rfl, rfl, ?_⟩
      generalize upd N T1 (.tup [.int n1, .int n2]) = N2 at *
      refine ⟨_, rfl, _, rfl, _, _, rfl, rfl, ?_⟩
      refine ⟨_, s3 _ _ eD, ?_, ?_, fun c o ec => ?_⟩
      · rw [List.length_map, List.length_take]
        exact Nat.lt_of_le_of_lt (Nat.min_le_left _ _) (Nat.lt_of_lt_of_le (show i < 12 by omega) (show 12 ≤ sizeLine by decide))
      · have e : (subD ds ms)[i] = n1 - n2 := by
          have : (subD ds ms)[i]? = some (n1 - n2) := by
            unfold subD
            rw [List.getElem?_map, List.getElem?_eq_getElem (by rw [List.length_zip]; omega), List.getElem_zip]
            rw [List.getElem?_eq_getElem i1] at h1
            rw [List.getElem?_eq_getElem (show i < ms.length by omega)] at h2
            rw [Option.some.inj h1, Option.some.inj h2]
            rfl
          rw [List.getElem?_eq_getElem i3] at this
          exact Option.some.inj this
        rw [List.take_succ_eq_append_getElem i3, e, List.map_append]
        exact upd_same
      · rw [upd_ne (ne_of_none ec hD)]
        exact s3 _ _ (sN _ _ ec)
    rintro N ⟨eD, sN⟩
    have lsub : (subD ds ms).length = W.beds.length := by rw [subD_len]; omega
    rw [List.take_of_length_le (by rw [lsub, List.length_map, List.length_map]; omega)] at eD
    refine ⟨D, _, rfl, .inl ⟨SqL.of eD, fun u hu => ?_⟩⟩
    have s1 : Same N (upd N u (.tup ((subD ds ms).map V.int))) := same1 hu
    have eu : (upd N u (.tup ((subD ds ms).map V.int)) : Hp) u = some (.tup ((subD ds ms).map V.int)) := upd_same
    generalize upd N u (.tup ((subD ds ms).map V.int)) = N1 at *
    have n1 := sN.trans s1
    refine ⟨_, rfl, _, rfl, w0, u, W, subD ds ms, rfl, hw.mono n1, SqT.of eu, lsub, fun N2 gp s2 eg => ?_⟩
    refine ⟨gp, gapsV W (subD ds ms), rfl, SqT.of eg, by rw [gaps_len]; omega, fun N3 lp s3 el => ?_⟩
    have n3 := n1.trans (s2.trans s3)
    refine ⟨_, rfl, .tuple ((leadsV (gapsV W (subD ds ms))).map PyData.bool), .tuple (ls.map PyData.bool), .tup (SqT.of el) (dp_bools _), .tup (Same.tup n3 ht) (dp_bools _), shaped_bools _, shaped_bools _, ?_⟩
    rw [show PyData.eqv (.tuple ((leadsV (gapsV W (subD ds ms))).map PyData.bool)) (.tuple (ls.map PyData.bool)) = decide (leadsV (gapsV W (subD ds ms)) = ls) from by rw [PyData.eqv]; exact eqv_bools _ _]
    refine ⟨_, rfl, ite2 (fun h => ?_) (fun h => ?_)⟩
    · have h : leadsV (gapsV W (subD ds ms)) = ls := of_decide_eq_true h
      exact ⟨_, rfl, yes _ (if_pos h) N3 u n3 (SqT.of ((s2.trans s3) _ _ eu))⟩
    · have h : ¬ leadsV (gapsV W (subD ds ms)) = ls := fun z => h (decide_eq_true z)
      exact no (if_neg h) N3 n3
end
end K64

namespace K64
open PySem PySem.Spec PyProof.Rows L2
/-! ### before -/
def BefAt (K : PySem.W.Frag) (H : Hp) (l : Addr) (es : List (List Int)) : Prop := ∃ ps : List (Addr × List Int), H l = some (.lst (ps.map refP)) ∧ (∀ p ∈ ps, SqT K H p.1 (p.2.map V.int)) ∧ ps.map Prod.snd = es
def spBefore (K : PySem.W.Frag) (C CW : Addr) : Sp := fun vs H Q _ => ∃ (w d r : Addr) (W : WebV) (ds : List Int) (rain : List Rat) (R k0 : Nat), vs = [.ref w, .ref d, .ref r] ∧ DayAsk K C CW H w d r W ds rain R k0 ∧
  ∀ (H' : Hp) (l : Addr) (es : List (List Int)), Same H H' → H l = none → BefAt K H' l es → es.Perm (foundV W ds rain) → es.Pairwise (fun x y => ¬ y < x) → Q (.ref l) H'
theorem keep_but {p : Addr} {H H' : Hp} {xs : List V} (e : H p = some (.lst xs)) (b : But p H H') : KeepL H H' := fun c o ec n => b c o (fun z => by rw [z, e] at ec; exact n _ (Option.some.inj ec).symm) ec
section
variable {P : Program} {w : World} {K : PySem.W.Frag} {mg : Str → Option Value} {base : Heap}
abbrev bfN : List Str := ["web", "depths", "rain", "found", "leads", "earlier"]
theorem scBf : FnScope bfN ["web", "depths", "rain"] (defScope d_before) := ⟨rfl, rfl, rfl, by decide +kernel, rfl, by decide +kernel, by decide +kernel⟩
theorem ok_before {f f1 f2 f3 f4 f5 f6 C CW : Addr} {fd fd1 fd2 fd3 fd4 fd5 fd6 : FuncData} (F : Fun K "before" "before" d_before f fd) (Y : TxtW mg C)
    (A1 : At P w K mg base CX0 3 "check_depths" ["web", "thing"] (spCheckD K C CW) f1 fd1) (A2 : At P w K mg base CX0 2 "check_rain" ["web", "thing"] (spCheckR K C CW) f2 fd2)
    (A3 : At P w K mg base CX0 1 "all_leads" ["web"] (spAllL K C CW) f3 fd3) (A4 : At P w K mg base CX0 3 "led_back" ["web", "depths", "leads", "moves"] (spLedB K C CW) f4 fd4)
    (A5 : At P w K mg base CX0 3 "moves_of" ["web", "bears"] (spMoves K C CW) f5 fd5) (A6 : At P w K mg base CX0 6 "flow_of" ["web", "leads", "rain"] (spFlow K C CW) f6 fd6) :
    FnOk P w K mg base CX0 7 f fd ["web", "depths", "rain"] (spBefore K C CW) := by
  refine F.ok scBf (fun vs H Q E h => ?_) (fun cdv A outer s H vs Q E hr h => ?_)
  · obtain ⟨_, _, _, _, _, _, _, _, rfl, _⟩ := h
    rfl
  · obtain ⟨w0, d, r, W, ds, rain, R, k0, rfl, D, q⟩ := h
    have r1 : Room 1 _ := hr.mono (by decide)
    have r2 : Room 2 _ := hr.mono (by decide)
    have r3 : Room 3 _ := hr.mono (by decide)
    refine ⟨_, pss_cons (ps_expr (pe_call A1.G r3 rfl A1.m A1.k A1.b .nil pass0 (pa_cons (pv 0) (pa_cons (pv 1) pa_nil))))
      (pss_cons (ps_expr (pe_call A2.G r2 rfl A2.m A2.k A2.b .nil pass0 (pa_cons (pv 0) (pa_cons (pv 2) pa_nil))))
      (pss_cons (ps_set (i := 3) scBf.nd rfl (Or.inl rfl) (pe_lst pa_nil))
      (pss_cons (ps_for PassesOwn.never rfl (pi_list (pe_call A3.G r1 rfl A3.m A3.k A3.b .nil pass0 (pa_cons (pv 0) pa_nil))) (pg_name (i := 4) scBf.nd rfl (.inl rfl))
        (pss_cons (ps_set (i := 5) scBf.nd rfl (Or.inl rfl) (pe_call A4.G r3 rfl A4.m A4.k A4.b .nil pass0 (pa_cons (pv 0) (pa_cons (pv 1) (pa_cons (pv 4) (pa_cons
            (pe_call A5.G r3 rfl A5.m A5.k A5.b .nil pass0 (pa_cons (pv 0) (pa_cons (pe_ix ix_tup (pe_call A6.G hr rfl A6.m A6.k A6.b .nil pass0 (pa_cons (pv 0) (pa_cons (pv 4) (pa_cons (pv 2) pa_nil)))) pe_int (fun _ _ => rfl)) pa_nil))) pa_nil))))))
        (pss_one (ps_if (pt_cmp (pc_notN (pv 5))) (pss_one (ps_expr (pe_bm PySem.F.plainAttrs_list PySem.F.slot_list_append PySem.F.type_list_append mt_append (pv 3) (pa_cons (pv 5) pa_nil)))) pss_nil))))
      (pss_one (ps_ret (pe_callB (cr_sortTI hr.units) (by rfl) Y.sorted (by decide +kernel) (pa_cons (pv 3) pa_nil))))))), ?_⟩
    obtain ⟨_, _, _, _, _, _, g⟩ := id D.web
    have m8 := g.m8
    have few := g.few
    refine ⟨_, rfl, _, rfl, w0, d, W, ds, rfl, D.web, D.dep, D.len, fun H1 s1 => ?_⟩
    refine ⟨_, rfl, _, rfl, w0, r, W, rain, rfl, D.web.mono s1, D.fall.mono s1, D.ok.len, D.ok.nn, fun H2 s2 => ?_⟩
    have s12 := s1.trans s2
    refine ⟨(by show 0 ≤ sizeLine; decide), fun F0 hF0 => ?_⟩
    have nF : H F0 = none := by
      cases c : H F0 with
      | none => rfl
      | some o =>
        have := s12 _ _ c
        rw [hF0] at this
        cases this
    have s3 : Same H2 (upd H2 F0 (.lst [])) := same1 hF0
    have eF : (upd H2 F0 (.lst []) : Hp) F0 = some (.lst []) := upd_same
    generalize upd H2 F0 (.lst []) = H3 at *
    have s13 := s12.trans s3
    refine ⟨_, rfl, w0, W, rfl, D.web.mono s13, fun H4 l ts s4 nl el ht => ?_⟩
    have s14 := s13.trans s4
    have eF4 := s4 _ _ eF
    have nlF : l ≠ F0 := fun z => by rw [z, eF] at nl; cases nl
    have lts := ht.len
    refine ⟨l, rfl, ⟨_, SqL.of el⟩, ?_⟩
    refine for_list (K := K) (a := l) (xs := ts.map V.ref) (fun i σ N => ∃ (v4 v5 : Option V) (qs : List (Addr × List Int)), σ = [some (.ref w0), some (.ref d), some (.ref r), some (.ref F0), v4, v5] ∧ N F0 = some (.lst (qs.map refP)) ∧ (∀ p ∈ qs, SqT K N p.1 (p.2.map V.int)) ∧
        qs.map Prod.snd = ((allL W.parts).take i).filterMap (fun ls => ledV W ds ls (movB W ls rain)) ∧ But F0 H4 N) ⟨none, none, [], rfl, eF4, (fun p h => nomatch h), rfl, But.refl _ _⟩ ?_ ?_ ?_
    · rintro i σ N _ ⟨_, _, _, rfl, _, _, _, bN⟩
      exact SqL.of (bN _ _ nlF el)
    · rintro i x σ N hx ⟨v4, v5, qs, rfl, eN, hqs, eqs, bN⟩
      rw [List.getElem?_map] at hx
      obtain ⟨t, hti, rfl⟩ := Option.map_eq_some_iff.mp hx
      have il : i < (allL W.parts).length := by
        have := (List.getElem?_eq_some_iff.mp hti).1
        omega
      have sHN : Same H N := fun c o ec => bN c o (ne_of_none ec nF) (s14 _ _ ec)
      have hls : LdsAt K N t (allL W.parts)[i] := (keep_but eF4 bN).tup (ht.all i t _ hti (List.getElem?_eq_getElem il))
      have lls : (allL W.parts)[i].length = W.many := by
        rw [allK_len (mem_allL.mp (List.getElem_mem il)), g.plen]
      have tk := List.take_succ_eq_append_getElem il
      generalize (allL W.parts)[i] = ls at *
      have lfew : ((allL W.parts).take i).length ≤ 256 := by
        rw [List.length_take]
        refine Nat.le_trans (Nat.min_le_right _ _) (Nat.le_trans (len_allL _) ?_)
        rw [g.plen]
        exact Nat.le_trans (Nat.pow_le_pow_right (by decide) m8) (by decide)
      have lq : qs.length ≤ 256 := by
        have := congrArg List.length eqs
        rw [List.length_map] at this
        rw [this]
        exact Nat.le_trans (List.length_filterMap_le ..) lfew
      have DN := D.web.mono sHN
      refine ⟨_, rfl, _, rfl, _, rfl, _, rfl, _, rfl, _, rfl, _, rfl, w0, t, r, W, ls, rain, R, k0, rfl, DN, hls, lls, D.fall.mono sHN, D.ok, fun N2 u wl bl u2 eu nw nb ne sw sb => ?_⟩
      have sz := (flow_szB g ls D.ok (Nat.le_refl _)).2
      obtain ⟨ps, eps, hps⟩ := sb
      refine ⟨u, _, _, _, rfl, rfl, SqT.of eu, at_k (by decide) rfl, w0, bl, W, ps, _, rfl, DN.mono u2, SqL.of eps, hps, sz, fun N3 ml u3 _ em => ?_⟩
      have u23 := u2.trans u3
      refine ⟨w0, d, t, ml, W, ds, ls, movB W ls rain, rfl, DN.mono u23, Same.tup (sHN.trans u23) D.dep, D.len, Same.tup u23 hls, lls, SqL.of em, movB_len g ls rain, fun e he N4 v u4 hv => ?_, fun he N4 u4 => ?_⟩
      · have u24 := u23.trans u4
        have eN4 := u24 _ _ eN
        refine ⟨_, rfl, true, rfl, iteT ⟨_, rfl, .inl ⟨rfl, _, SqL.of eN4⟩, _, rfl, F0, _, _, rfl, rfl, eN4, ?_, _, _, qs ++ [(v, e)], rfl, by rw [List.map_append]; exact upd_same, fun p hp => ?_, ?_, fun c o nc ec => ?_⟩⟩
        · rw [List.length_map]
          exact Nat.lt_of_le_of_lt lq (by decide)
        · have kp : KeepL N4 (upd N4 F0 (.lst (qs.map refP ++ [V.ref v]))) := keep_put eN4
          rcases List.mem_append.mp hp with z | z
          · exact kp.tup (Same.tup u24 (hqs p z))
          · rw [List.mem_singleton.mp z]
            exact kp.tup hv
        · rw [tk, List.filterMap_append, List.map_append, eqs]
          congr 1
          rw [List.filterMap_cons, he]
          rfl
        · rw [upd_ne nc]
          exact u24 _ _ (bN c o nc ec)
      · have u24 := u23.trans u4
        refine ⟨_, rfl, false, rfl, iteF ⟨_, _, qs, rfl, u24 _ _ eN, fun p hp => Same.tup u24 (hqs p hp), ?_, fun c o nc ec => u24 _ _ (bN c o nc ec)⟩⟩
        rw [tk, List.filterMap_append, eqs, List.filterMap_cons, he, List.filterMap_nil, List.append_nil]
    · rintro σ N ⟨v4, v5, qs, rfl, eN, hqs, eqs, bN⟩
      rw [List.length_map, lts, List.take_length] at eqs
      have eqs : qs.map Prod.snd = foundV W ds rain := eqs
      have sHN : Same H N := fun c o ec => bN c o (ne_of_none ec nF) (s14 _ _ ec)
      refine ⟨_, rfl, F0, qs, W.beds.length, rfl, SqL.of eN, hqs, fun p hp => ?_, fun z => ?_, fun rs b hp hw hb => ?_⟩
      · have : p.2 ∈ foundV W ds rain := by
          rw [← eqs]
          exact List.mem_map_of_mem hp
        exact ((mem_found g D.len).mp this).1
      · have := found_none g ds rain z
        rw [← eqs, List.length_map] at this
        exact this
      · have nb : H b = none := by
          cases c : H b with
          | none => rfl
          | some o =>
            have := sHN _ _ c
            rw [hb] at this
            cases this
        have sb : Same N (upd N b (.lst (rs.map refP))) := same1 hb
        refine q _ b (rs.map Prod.snd) (sHN.trans sb) nb ⟨rs, upd_same, fun p hp' => Same.tup sb (hqs p (hp.mem_iff.mp hp')), rfl⟩ ?_ hw
        rw [← eqs]
        exact hp.map _
end
end K64

namespace K64
open PySem PySem.Spec PyProof.Rows L2
/-! ### the law's unit, its beds -/
theorem lim_frac2 {n d M c k : Nat} {m e : Int} (he : e = (d : Int)) (hm : m.natAbs = n) (hc : M = d * c) (d0 : d ≠ 0) (c0 : c ≠ 0) (hk : n * c < 2 ^ k) : Lim M k ((m : Rat) / (e : Rat)) := by
  rw [he]
  exact lim_frac hm hc d0 c0 hk
theorem frac_pos {a b : Int} (ha : 0 < a) (hb : 0 < b) : 0 < ((a : Rat) / (b : Rat)) := by
  have h1 : (0 : Rat) < (a : Rat) := by
    rw [show (0 : Rat) = ((0 : Int) : Rat) from rfl]
    exact Rat.intCast_lt_intCast.mpr ha
  have h2 : (0 : Rat) < (b : Rat) := by
    rw [show (0 : Rat) = ((0 : Int) : Rat) from rfl]
    exact Rat.intCast_lt_intCast.mpr hb
  rw [Rat.div_def]
  exact Rat.mul_pos h1 (Rat.inv_pos.mpr h2)
theorem frac_nn {a b : Int} (ha : 0 ≤ a) (hb : 0 < b) : 0 ≤ ((a : Rat) / (b : Rat)) := by
  by_cases z : a = 0
  · rw [z, Rat.div_def]
    show (0 : Rat) ≤ 0 * _
    rw [Rat.zero_mul]
    exact Rat.le_refl
  · exact Rat.le_of_lt (frac_pos (by omega) hb)
/-- a product of two fractions over numbers of ours -/
theorem Lim.prod {M k L j : Nat} {x y : Rat} (hx : Lim M k x) (hy : Lim L j y) (m0 : M ≠ 0) (l0 : L ≠ 0) : Lim (M * L) (k + j) (x * y) := by
  obtain ⟨a, e1, h1⟩ := hx
  obtain ⟨b, e2, h2⟩ := hy
  refine ⟨a * b, ?_, ?_⟩
  · rw [e1, e2, Int.natCast_mul, Rat.intCast_mul, Rat.intCast_mul]
    have nm := icast_ne (show ((M : Nat) : Int) ≠ 0 by omega)
    have nl := icast_ne (show ((L : Nat) : Int) ≠ 0 by omega)
    generalize ((M : Int) : Rat) = u at *
    generalize ((L : Int) : Rat) = v at *
    grind
  · rw [Int.natAbs_mul, Nat.pow_add]
    exact Nat.mul_lt_mul'' h1 h2
theorem small_sz {M k : Nat} {x : Rat} (h : Lim M k x) (m0 : 0 < M) (m1 : M < 2 ^ 1500) (k1 : k ≤ 1500) : Sz 1500 x := h.sz m0 m1 k1
def UnitOk (q : Rat) : Prop := Lim 21 40 q ∧ 0 < q
def spUnit (K : PySem.W.Frag) : Sp := fun vs H Q _ => ∃ (p : Addr) (n : Nat), vs = [.ref p] ∧ WellN H p n ∧ n < 2 ^ 28 ∧ ∀ (H' : Hp) (u : Addr) (q : Rat), But p H H' → WellN H' p (n + 1) → PairAt K H' u q → UnitOk q → Q (.ref u) H'
/-- marks over 42 -/
def LimB (b : Bed) : Prop := Lim 42 48 b.lo ∧ Lim 42 48 b.hi
def GoodBedL (many : Nat) (b : Bed) : Prop := GoodBed many b ∧ LimB b
def spBedL (K : PySem.W.Frag) : Sp := fun vs H Q _ => ∃ (p u : Addr) (spot many n : Nat) (uq : Rat), vs = [.ref p, .int (spot : Int), .int (many : Int), .ref u] ∧ WellN H p n ∧ n < 2 ^ 28 ∧ spot + 1 < many ∧ many ≤ 8 ∧ PairAt K H u uq ∧ UnitOk uq ∧
  ∀ (H' : Hp) (t : Addr) (b : Bed), But p H H' → WellN H' p (n + 5) → RowAt K H' t b → b.s = spot → GoodBedL many b → Q (.ref t) H'
theorem unit1 : [V.int 1, V.int 1] = prV (((1 : Int) : Rat) / ((1 : Int) : Rat)) ∧ UnitOk (((1 : Int) : Rat) / ((1 : Int) : Rat)) :=
  ⟨(show [V.int 1, V.int 1] = [V.int (lowT 1 1), V.int (lowB 1 1)] by rw [show lowT 1 1 = 1 by decide +kernel, show lowB 1 1 = 1 by decide +kernel]).trans (low_pr (by decide)), lim_frac2 (n := 1) (d := 1) (c := 21) rfl rfl rfl (by decide) (by decide) (by decide), frac_pos (by decide) (by decide)⟩
theorem unit3 : [V.int 1, V.int 3] = prV (((1 : Int) : Rat) / ((3 : Int) : Rat)) ∧ UnitOk (((1 : Int) : Rat) / ((3 : Int) : Rat)) :=
  ⟨(show [V.int 1, V.int 3] = [V.int (lowT 1 3), V.int (lowB 1 3)] by rw [show lowT 1 3 = 1 by decide +kernel, show lowB 1 3 = 3 by decide +kernel]).trans (low_pr (by decide)), lim_frac2 (n := 1) (d := 3) (c := 7) rfl rfl rfl (by decide) (by decide) (by decide), frac_pos (by decide) (by decide)⟩
theorem unit7 : [V.int (10 ^ (11 : Int).toNat), V.int 7] = prV (((10 ^ 11 : Int) : Rat) / ((7 : Int) : Rat)) ∧ UnitOk (((10 ^ 11 : Int) : Rat) / ((7 : Int) : Rat)) :=
  ⟨(show [V.int (10 ^ (11 : Int).toNat), V.int 7] = [V.int (lowT (10 ^ 11) 7), V.int (lowB (10 ^ 11) 7)] by rw [show lowT (10 ^ 11) 7 = 10 ^ 11 by decide +kernel, show lowB (10 ^ 11) 7 = 7 by decide +kernel]; rfl).trans (low_pr (by decide)), lim_frac2 (n := 10 ^ 11) (d := 7) (c := 3) rfl rfl rfl (by decide) (by decide) (by decide), frac_pos (by decide) (by decide)⟩
section
variable {P : Program} {w : World} {K : PySem.W.Frag} {mg : Str → Option Value} {base : Heap}
theorem scUn : FnScope ["well"] ["well"] (defScope d_law_unit) := ⟨rfl, rfl, rfl, by decide +kernel, rfl, by decide +kernel, by decide +kernel⟩
theorem ok_unit {f f1 : Addr} {fd fd1 : FuncData} (F : Fun K "_law_unit" "_law_unit" d_law_unit f fd) (A1 : At P w K mg base CX0 2 "_law_one" ["well", "some"] spOneN f1 fd1) : FnOk P w K mg base CX0 3 f fd ["well"] (spUnit K) := by
  refine F.ok scUn (fun vs H Q E h => ?_) (fun cdv A outer s H vs Q E hr h => ?_)
  · obtain ⟨_, _, rfl, _⟩ := h
    rfl
  · obtain ⟨p, n, rfl, hp, n1, q⟩ := h
    refine ⟨_, pss_one (ps_ret (pe_call A1.G hr rfl A1.m A1.k A1.b .nil pass0 (pa_cons (pv 0) (pa_cons (pe_lst (pa_cons (pe_tup (pa_cons pe_int (pa_cons pe_int pa_nil))) (pa_cons (pe_tup (pa_cons pe_int (pa_cons pe_int pa_nil))) (pa_cons (pe_tup (pa_cons pe_int (pa_cons pe_int pa_nil)))
        (pa_cons (pe_tup (pa_cons (pe_op op_pow pe_int pe_int) (pa_cons pe_int pa_nil))) pa_nil))))) pa_nil)))), ?_⟩
    refine ⟨_, rfl, (by show 2 ≤ sizeLine; decide), fun T1 h1 => ?_⟩
    have s1 : Same H (upd H T1 (.tup [.int 1, .int 1])) := same1 h1
    have e1 : (upd H T1 (.tup [.int 1, .int 1]) : Hp) T1 = some (.tup [.int 1, .int 1]) := upd_same
    generalize upd H T1 (.tup [.int 1, .int 1]) = H1 at *
    refine ⟨(by show 2 ≤ sizeLine; decide), fun T2 h2 => ?_⟩
    have s2 : Same H1 (upd H1 T2 (.tup [.int 1, .int 1])) := same1 h2
    have e2 : (upd H1 T2 (.tup [.int 1, .int 1]) : Hp) T2 = some (.tup [.int 1, .int 1]) := upd_same
    generalize upd H1 T2 (.tup [.int 1, .int 1]) = H2 at *
    refine ⟨(by show 2 ≤ sizeLine; decide), fun T3 h3 => ?_⟩
    have s3 : Same H2 (upd H2 T3 (.tup [.int 1, .int 3])) := same1 h3
    have e3 : (upd H2 T3 (.tup [.int 1, .int 3]) : Hp) T3 = some (.tup [.int 1, .int 3]) := upd_same
    generalize upd H2 T3 (.tup [.int 1, .int 3]) = H3 at *
    refine ⟨_, _, rfl, rfl, ⟨by decide, by decide, by decide⟩, (by show 2 ≤ sizeLine; decide), fun T4 h4 => ?_⟩
    generalize hv4 : HO.tup [V.int (10 ^ (11 : Int).toNat), V.int 7] = o4 at *
    have s4 : Same H3 (upd H3 T4 o4) := same1 h4
    have e4 : (upd H3 T4 o4 : Hp) T4 = some o4 := upd_same
    generalize upd H3 T4 o4 = H4 at *
    subst hv4
    refine ⟨(by show 4 ≤ sizeLine; decide), fun L hL => ?_⟩
    have s14 := s1.trans (s2.trans (s3.trans s4))
    have nL := (hp.same s14).ne hL
    have s5 : Same H4 (upd H4 L (.lst [.ref T1, .ref T2, .ref T3, .ref T4])) := same1 hL
    have eL : (upd H4 L (.lst [.ref T1, .ref T2, .ref T3, .ref T4]) : Hp) L = some (.lst [.ref T1, .ref T2, .ref T3, .ref T4]) := upd_same
    generalize upd H4 L (.lst [.ref T1, .ref T2, .ref T3, .ref T4]) = H5 at *
    have s15 := s14.trans s5
    have hp5 := hp.same s15
    have e1' := (s2.trans (s3.trans (s4.trans s5))) _ _ e1
    have e2' := (s3.trans (s4.trans s5)) _ _ e2
    have e3' := (s4.trans s5) _ _ e3
    have e4' := s5 _ _ e4
    refine ⟨p, L, _, n, rfl, hp5, by omega, eL, nL, (by show 0 < 4; decide), (by show 4 < 1000; decide), fun H' x b w' hx => ?_⟩
    have bb : But p H H' := (same_but s15).trans b
    have tup : ∀ {t : Addr} {xs : List V}, H5 t = some (.tup xs) → H' t = some (.tup xs) := fun {t xs} e => b.nt hp5.src e (fun _ z => nomatch z)
    simp only [List.mem_cons, List.not_mem_nil, or_false] at hx
    rcases hx with h | h | h | h <;> subst h
    · exact q H' T1 _ bb w' (SqT.of (by rw [tup e1', unit1.1])) unit1.2
    · exact q H' T2 _ bb w' (SqT.of (by rw [tup e2', unit1.1])) unit1.2
    · exact q H' T3 _ bb w' (SqT.of (by rw [tup e3', unit3.1])) unit3.2
    · refine q H' T4 _ bb w' (SqT.of ?_) unit7.2
      rw [tup e4', unit7.1]
abbrev bdN : List Str := ["well", "spot", "many", "unit", "foot", "low", "high"]
theorem scBd : FnScope bdN ["well", "spot", "many", "unit"] (defScope d_law_bed) := ⟨rfl, rfl, rfl, by decide +kernel, rfl, by decide +kernel, by decide +kernel⟩
theorem ok_bedL {f f1 f2 f3 f4 f5 : Addr} {fd fd1 fd2 fd3 fd4 fd5 : FuncData} (F : Fun K "_law_bed" "_law_bed" d_law_bed f fd) (A1 : At P w K mg base CX0 1 "_law_draw" ["well", "many"] spDrawN f1 fd1) (A2 : At P w K mg base CX0 2 "_law_one" ["well", "some"] spOneN f2 fd2)
    (A3 : At P w K mg base CX0 1 "_law_low" ["top", "bottom"] spLowQ f3 fd3) (A4 : At P w K mg base CX0 2 "_law_plus" ["one", "other"] (spTwoP K fun p q => p + q) f4 fd4) (A5 : At P w K mg base CX0 2 "_law_by" ["one", "other"] (spTwoP K fun p q => p * q) f5 fd5) :
    FnOk P w K mg base CX0 3 f fd ["well", "spot", "many", "unit"] (spBedL K) := by
  refine F.ok scBd (fun vs H Q E h => ?_) (fun cdv A outer s H vs Q E hr h => ?_)
  · obtain ⟨_, _, _, _, _, _, rfl, _⟩ := h
    rfl
  · obtain ⟨p, u, spot, many, n, uq, rfl, hp, n1, sm, m8, hu, uok, q⟩ := h
    have r1 : Room 1 _ := hr.mono (by decide)
    refine ⟨_, pss_cons (ps_set (i := 4) scBd.nd rfl (Or.inl rfl) (pe_op op_add (pe_op op_add (pv 1) pe_int) (pe_call A1.G r1 rfl A1.m A1.k A1.b .nil pass0 (pa_cons (pv 0) (pa_cons (pe_op op_sub (pe_op op_sub (pv 2) (pv 1)) pe_int) pa_nil)))))
      (pss_cons (ps_set (i := 5) scBd.nd rfl (Or.inl rfl) (pe_call A3.G r1 rfl A3.m A3.k A3.b .nil pass0 (pa_cons (pe_op op_sub (pe_call A1.G r1 rfl A1.m A1.k A1.b .nil pass0 (pa_cons (pv 0) (pa_cons pe_int pa_nil))) pe_int)
          (pa_cons (pe_call A2.G hr rfl A2.m A2.k A2.b .nil pass0 (pa_cons (pv 0) (pa_cons (pe_lst (pa_cons pe_int (pa_cons pe_int (pa_cons pe_int pa_nil)))) pa_nil))) pa_nil))))
      (pss_cons (ps_set (i := 6) scBd.nd rfl (Or.inl rfl) (pe_call A4.G hr rfl A4.m A4.k A4.b .nil pass0 (pa_cons (pv 5) (pa_cons (pe_call A3.G r1 rfl A3.m A3.k A3.b .nil pass0 (pa_cons (pe_op op_add pe_int (pe_call A1.G r1 rfl A1.m A1.k A1.b .nil pass0 (pa_cons (pv 0) (pa_cons pe_int pa_nil))))
          (pa_cons (pe_call A2.G hr rfl A2.m A2.k A2.b .nil pass0 (pa_cons (pv 0) (pa_cons (pe_lst (pa_cons pe_int (pa_cons pe_int (pa_cons pe_int pa_nil)))) pa_nil))) pa_nil))) pa_nil))))
      (pss_one (ps_ret (pe_tup (pa_cons (pv 1) (pa_cons (pv 4) (pa_cons (pe_call A5.G hr rfl A5.m A5.k A5.b .nil pass0 (pa_cons (pv 5) (pa_cons (pv 3) pa_nil))) (pa_cons (pe_call A5.G hr rfl A5.m A5.k A5.b .nil pass0 (pa_cons (pv 6) (pa_cons (pv 3) pa_nil))) pa_nil))))))))), ?_⟩
    have pick : ∀ {N N' : Hp} {L : Addr} {x : V} {m : Nat}, x ∈ [V.int 1, V.int 1, V.int 2] → ∃ e : Int, x = .int e ∧ (e = 1 ∨ e = 2) := fun {N N' L x m} hx => by
      simp only [List.mem_cons, List.not_mem_nil, or_false] at hx
      rcases hx with h | h | h
      · exact ⟨1, h, .inl rfl⟩
      · exact ⟨1, h, .inl rfl⟩
      · exact ⟨2, h, .inr rfl⟩
    have lim2 : ∀ {m e : Int}, m.natAbs ≤ 5 → (e = 1 ∨ e = 2) → Lim 2 4 ((m : Rat) / (e : Rat)) := fun {m e} hm he => by
      rcases he with h | h <;> subst h
      · exact lim_frac2 (n := m.natAbs) (d := 1) (c := 2) rfl rfl rfl (by decide) (by decide) (by omega)
      · exact lim_frac2 (n := m.natAbs) (d := 2) (c := 1) rfl rfl rfl (by decide) (by decide) (by omega)
    have big : ∀ {m : Int}, m.natAbs < 2 ^ 10 → m.natAbs < 2 ^ 4000 := fun {m} h => Nat.lt_of_lt_of_le h (Nat.pow_le_pow_right (by decide) (by decide))
    -- the foot
    refine ⟨_, rfl, _, _, rfl, rfl, _, rfl, _, rfl, _, rfl, _, _, rfl, rfl, _, _, rfl, rfl, p, _, n, rfl, hp, by omega, by omega, by omega, fun H1 d1 b1 w1 d10 d11 => ⟨_, _, rfl, rfl, ?_⟩⟩
    obtain ⟨ft, hft⟩ : ∃ ft : Nat, (spot : Int) + 1 + d1 = (ft : Int) := ⟨((spot : Int) + 1 + d1).toNat, by omega⟩
    show gName 4 (V.int ((spot : Int) + 1 + d1)) _ H1 _
    rw [hft]
    -- the lower mark
    refine ⟨_, rfl, p, 8, n + 1, rfl, w1, by omega, by decide, by decide, fun H2 d2 b2 w2 d20 d21 => ⟨_, _, rfl, rfl, ?_⟩⟩
    refine ⟨_, rfl, (by show 3 ≤ sizeLine; decide), fun L2 hL2 => ?_⟩
    have nL2 := w2.ne hL2
    have s2 : Same H2 (upd H2 L2 (.lst [.int 1, .int 1, .int 2])) := same1 hL2
    have eL2 : (upd H2 L2 (.lst [.int 1, .int 1, .int 2]) : Hp) L2 = some (.lst [.int 1, .int 1, .int 2]) := upd_same
    generalize upd H2 L2 (.lst [.int 1, .int 1, .int 2]) = H3 at *
    refine ⟨p, L2, _, n + 2, rfl, w2.same s2, by omega, eL2, nL2, (by show 0 < 3; decide), (by show 3 < 1000; decide), fun H4 x4 b4 w4 hx4 => ?_⟩
    obtain ⟨e4, rfl, he4⟩ := pick (N := H) (N' := H) (L := p) (m := 0) hx4
    refine ⟨_, e4, rfl, by omega, big (by omega), big (by omega), fun lo hlo => ?_⟩
    have l4 := lim2 (m := d2 - 2) (e := e4) (by omega) he4
    generalize ((d2 - 2 : Int) : Rat) / (e4 : Rat) = qlo at *
    have s5 : Same H4 (upd H4 lo (.tup (prV qlo))) := same1 hlo
    have elo : (upd H4 lo (.tup (prV qlo)) : Hp) lo = some (.tup (prV qlo)) := upd_same
    have w5 := w4.same s5
    generalize upd H4 lo (.tup (prV qlo)) = H5 at *
    -- the upper one
    refine ⟨_, rfl, _, rfl, p, 5, n + 3, rfl, w5, by omega, by decide, by decide, fun H6 d6 b6 w6 d60 d61 => ⟨_, _, rfl, rfl, ?_⟩⟩
    refine ⟨_, rfl, (by show 3 ≤ sizeLine; decide), fun L6 hL6 => ?_⟩
    have nL6 := w6.ne hL6
    have s6 : Same H6 (upd H6 L6 (.lst [.int 1, .int 1, .int 2])) := same1 hL6
    have eL6 : (upd H6 L6 (.lst [.int 1, .int 1, .int 2]) : Hp) L6 = some (.lst [.int 1, .int 1, .int 2]) := upd_same
    generalize upd H6 L6 (.lst [.int 1, .int 1, .int 2]) = H7 at *
    refine ⟨p, L6, _, n + 4, rfl, w6.same s6, by omega, eL6, nL6, (by show 0 < 3; decide), (by show 3 < 1000; decide), fun H8 x8 b8 w8 hx8 => ?_⟩
    obtain ⟨e8, rfl, he8⟩ := pick (N := H) (N' := H) (L := p) (m := 0) hx8
    refine ⟨_, e8, rfl, by omega, big (by omega), big (by omega), fun hi hhi => ?_⟩
    have l8 := lim2 (m := 1 + d6) (e := e8) (by omega) he8
    have p8 : 0 < ((1 + d6 : Int) : Rat) / (e8 : Rat) := frac_pos (by omega) (by omega)
    generalize ((1 + d6 : Int) : Rat) / (e8 : Rat) = qhi at *
    have s9 : Same H8 (upd H8 hi (.tup (prV qhi))) := same1 hhi
    have ehi : (upd H8 hi (.tup (prV qhi)) : Hp) hi = some (.tup (prV qhi)) := upd_same
    have w9 := w8.same s9
    generalize upd H8 hi (.tup (prV qhi)) = H9 at *
    have b59 : But p H5 H9 := b6.trans ((same_but s6).trans (b8.trans (same_but s9)))
    have elo9 : PairAt K H9 lo qlo := b59.tup w5.src (SqT.of elo)
    refine ⟨lo, hi, qlo, qhi, rfl, elo9, SqT.of ehi, small_sz l4 (by decide) (Nat.lt_of_lt_of_le (show 2 < 2 ^ 2 by decide) (Nat.pow_le_pow_right (by decide) (by decide))) (by decide), small_sz l8 (by decide) (Nat.lt_of_lt_of_le (show 2 < 2 ^ 2 by decide) (Nat.pow_le_pow_right (by decide) (by decide))) (by decide), fun hh hhh => ?_⟩
    have lh : Lim 2 5 (qlo + qhi) := l4.add l8 (by decide) (by decide)
    have lt : qlo < qlo + qhi := by grind
    generalize hoh : HO.tup (prV (qlo + qhi)) = oh at *
    have sA : Same H9 (upd H9 hh oh) := same1 hhh
    have ehh : (upd H9 hh oh : Hp) hh = some oh := upd_same
    have wA := w9.same sA
    generalize upd H9 hh oh = HA at *
    subst hoh
    generalize qlo + qhi = qh at *
    have bHA : But p H HA := b1.trans (b2.trans ((same_but s2).trans (b4.trans ((same_but s5).trans (b59.trans (same_but sA))))))
    have huA : PairAt K HA u uq := bHA.tup hp.src hu
    have szu : Sz 1500 uq := small_sz uok.1 (by decide) (Nat.lt_of_lt_of_le (show 21 < 2 ^ 5 by decide) (Nat.pow_le_pow_right (by decide) (by decide))) (by decide)
    have sz2 : ∀ {k : Nat} {x : Rat}, Lim 2 k x → k ≤ 1500 → Sz 1500 x := fun {k x} l h => small_sz l (by decide) (Nat.lt_of_lt_of_le (show 2 < 2 ^ 2 by decide) (Nat.pow_le_pow_right (by decide) (by decide))) h
    have sz42 : ∀ {k : Nat} {x : Rat}, Lim (2 * 21) k x → k ≤ 1500 → Sz 1500 x := fun {k x} l h => small_sz l (by decide) (Nat.lt_of_lt_of_le (show 2 * 21 < 2 ^ 6 by decide) (Nat.pow_le_pow_right (by decide) (by decide))) h
    refine ⟨_, rfl, _, rfl, _, rfl, _, rfl, lo, u, qlo, uq, rfl, PairAt.mono elo9 sA, huA, sz2 l4 (by decide), szu, fun r1 hr1 => ?_⟩
    generalize hor1 : HO.tup (prV (qlo * uq)) = or1 at *
    have sB : Same HA (upd HA r1 or1) := same1 hr1
    have er1 : (upd HA r1 or1 : Hp) r1 = some or1 := upd_same
    generalize upd HA r1 or1 = HB at *
    subst hor1
    refine ⟨_, rfl, _, rfl, hh, u, qh, uq, rfl, SqT.of (sB _ _ ehh), PairAt.mono huA sB, sz2 lh (by decide), szu, fun r2 hr2 => ?_⟩
    generalize hor2 : HO.tup (prV (qh * uq)) = or2 at *
    have sC : Same HB (upd HB r2 or2) := same1 hr2
    have er2 : (upd HB r2 or2 : Hp) r2 = some or2 := upd_same
    generalize upd HB r2 or2 = HC at *
    subst hor2
    refine ⟨(by show 4 ≤ sizeLine; decide), fun t ht => ?_⟩
    have sD : Same HC (upd HC t (.tup [.int (spot : Int), .int (ft : Int), .ref r1, .ref r2])) := same1 ht
    refine q _ t ⟨spot, ft, qlo * uq, qh * uq⟩ (bHA.trans (same_but (sB.trans (sC.trans sD)))) ((wA.same (sB.trans (sC.trans sD))).le (by omega)) ⟨r1, r2, SqT.of upd_same, SqT.of ((sC.trans sD) _ _ er1), SqT.of (sD _ _ er2)⟩ rfl ⟨⟨?_, ?_, ?_, sz42 (l4.prod uok.1 (by decide) (by decide)) (by decide), sz42 (lh.prod uok.1 (by decide) (by decide)) (by decide)⟩, (l4.prod uok.1 (by decide) (by decide)).up (by decide), (lh.prod uok.1 (by decide) (by decide)).up (by decide)⟩
    · show spot < ft
      omega
    · show ft < many
      omega
    · exact Rat.mul_lt_mul_of_pos_right lt uok.2
end
end K64

namespace K64
open PySem PySem.Spec PyProof.Rows L2
/-! ### the law's web, as it is told -/
structure SpOk (many cap i : Nat) (bs : List Bed) (pss : List (List Nat)) : Prop where
  few : bs.length ≤ cap
  bed : ∀ b ∈ bs, GoodBedL many b ∧ b.s < i
  sorted : (bs.map Bed.s).Pairwise (· ≤ ·)
  two : ∀ s, (bs.map Bed.s).count s ≤ 2
  plen : pss.length = i
  part : ∀ (j : Nat) (ps : List Nat), pss[j]? = some ps → GoodParts ((bs.map Bed.s).count j) ps
theorem SpOk.nil {many cap : Nat} : SpOk many cap 0 [] [] := ⟨Nat.zero_le _, (fun b h => nomatch h), .nil, fun s => by simp, rfl, fun j ps h => by simp at h⟩
theorem SpOk.next {many cap i : Nat} {bs nb : List Bed} {pss : List (List Nat)} {ps : List Nat} (h : SpOk many cap i bs pss) (hb : ∀ b ∈ nb, GoodBedL many b ∧ b.s = i) (f2 : nb.length ≤ 2) (fc : bs.length + nb.length ≤ cap) (gp : GoodParts nb.length ps) : SpOk many cap (i + 1) (bs ++ nb) (pss ++ [ps]) := by
  have hm : nb.map Bed.s = List.replicate nb.length i := by
    refine List.eq_replicate_iff.mpr ⟨List.length_map .., fun s hs => ?_⟩
    obtain ⟨b, hb', rfl⟩ := List.mem_map.mp hs
    exact (hb b hb').2
  have c0 : ∀ s, i ≤ s → (bs.map Bed.s).count s = 0 := fun s hs => List.count_eq_zero.mpr fun z => by
    obtain ⟨b, hb', rfl⟩ := List.mem_map.mp z
    have := (h.bed b hb').2
    omega
  refine ⟨by rw [List.length_append]; exact fc, fun b hb' => ?_, ?_, fun s => ?_, by rw [List.length_append, h.plen]; rfl, fun j q hq => ?_⟩
  · rcases List.mem_append.mp hb' with z | z
    · exact ⟨(h.bed b z).1, by have := (h.bed b z).2; omega⟩
    · exact ⟨(hb b z).1, by have := (hb b z).2; omega⟩
  · rw [List.map_append, hm]
    refine List.pairwise_append.mpr ⟨h.sorted, ?_, fun a ha c hc => ?_⟩
    · exact List.pairwise_replicate.mpr (.inr (Nat.le_refl _))
    · obtain ⟨b, hb', rfl⟩ := List.mem_map.mp ha
      have := (h.bed b hb').2
      have := List.eq_of_mem_replicate hc
      omega
  · rw [List.map_append, List.count_append, hm, List.count_replicate]
    by_cases z : i ≤ s
    · rw [c0 s z]
      split <;> omega
    · have := h.two s
      rw [if_neg (by simp; omega)]
      omega
  · rw [List.map_append, List.count_append, hm, List.count_replicate]
    have lp := h.plen
    by_cases z : j < i
    · rw [List.getElem?_append_left (by omega)] at hq
      rw [if_neg (by simp; omega), Nat.add_zero]
      exact h.part j q hq
    · rw [List.getElem?_append_right (by omega)] at hq
      have ej : j = i := by
        have := (List.getElem?_eq_some_iff.mp hq).1
        rw [List.length_singleton] at this
        omega
      rw [ej, lp, Nat.sub_self] at hq
      obtain rfl := Option.some.inj hq
      rw [ej, c0 i (Nat.le_refl _), if_pos (by simp), Nat.zero_add]
      exact gp
theorem SpOk.good {many cap : Nat} {bs : List Bed} {pss : List (List Nat)} (h : SpOk many cap many bs pss) (m1 : 1 ≤ many) (m8 : many ≤ 8) (c12 : cap ≤ 12) : GoodWeb ⟨many, bs, pss⟩ :=
  ⟨m1, m8, Nat.le_trans h.few c12, fun b hb => (h.bed b hb).1.1, h.sorted, h.two, h.plen, h.part⟩
def spSpecL (K : PySem.W.Frag) : Sp := fun vs H Q _ => ∃ (p u : Addr) (reach cap n : Nat) (uq : Rat), vs = [.ref p, .int (reach : Int), .int (cap : Int), .ref u] ∧ WellN H p n ∧ n < 2 ^ 27 ∧ 1 ≤ reach ∧ reach ≤ 8 ∧ cap ≤ 12 ∧ PairAt K H u uq ∧ UnitOk uq ∧
  ∀ (H' : Hp) (t : Addr) (W : WebV), But p H H' → WellN H' p (n + 200) → WorldAt K H' t W → GoodWeb W → (∀ b ∈ W.beds, LimB b) → W.many ≤ reach → W.beds.length ≤ cap → Q (.ref t) H'
section
variable {P : Program} {w : World} {K : PySem.W.Frag} {mg : Str → Option Value} {base : Heap}
abbrev spcN : List Str := ["well", "reach", "cap", "unit", "many", "beds", "parts", "spot", "few", "row", "k"]
theorem scSpc : FnScope spcN ["well", "reach", "cap", "unit"] (defScope d_law_spec) := ⟨rfl, rfl, rfl, by decide +kernel, rfl, by decide +kernel, by decide +kernel⟩
theorem ok_specL {f f1 f2 f3 C : Addr} {fd fd1 fd2 fd3 : FuncData} (F : Fun K "_law_spec" "_law_spec" d_law_spec f fd) (Y : TxtW mg C) (hrange : mg "range" = none) (hsum : mg "sum" = none)
    (A1 : At P w K mg base CX0 1 "_law_draw" ["well", "many"] spDrawN f1 fd1) (A2 : At P w K mg base CX0 2 "_law_one" ["well", "some"] spOneN f2 fd2) (A3 : At P w K mg base CX0 3 "_law_bed" ["well", "spot", "many", "unit"] (spBedL K) f3 fd3) :
    FnOk P w K mg base CX0 4 f fd ["well", "reach", "cap", "unit"] (spSpecL K) := by
  refine F.ok scSpc (fun vs H Q E h => ?_) (fun cdv A outer s H vs Q E hr h => ?_)
  · obtain ⟨_, _, _, _, _, _, rfl, _⟩ := h
    rfl
  · obtain ⟨p, u, reach, cap, n, uq, rfl, hp, n1, g1, g8, c12, hu, uok, q⟩ := h
    have r1 : Room 1 _ := hr.mono (by decide)
    have r2 : Room 2 _ := hr.mono (by decide)
    refine ⟨_, pss_cons (ps_set (i := 4) scSpc.nd rfl (Or.inr rfl) (pe_op op_add pe_int (pe_call A1.G r1 rfl A1.m A1.k A1.b .nil pass0 (pa_cons (pv 0) (pa_cons (pv 1) pa_nil)))))
      (pss_cons (ps_par (i := 5) (j := 6) rfl scSpc.nd rfl rfl (by decide) rfl rfl (pa_cons (pe_lst pa_nil) (pa_cons (pe_lst pa_nil) pa_nil)) (by rfl))
      (pss_cons (ps_for PassesOwn.never rfl (pi_range1 (by rfl) hrange (pa_cons (pv 4) pa_nil)) (pg_name (i := 7) scSpc.nd rfl (.inr rfl))
        (pss_cons (ps_set (i := 8) scSpc.nd rfl (Or.inl rfl) (pe_call A2.G r2 rfl A2.m A2.k A2.b .nil pass0 (pa_cons (pv 0) (pa_cons (pe_lst (pa_cons pe_int (pa_cons pe_int (pa_cons pe_int (pa_cons pe_int (pa_cons pe_int pa_nil)))))) pa_nil))))
        (C8.pss_cut (ps_if (PW.pt (pw_or (pt_cmpR op_eq (pv 7) (pe_op op_sub (pv 4) pe_int) (nomark _)) (pw_or1 (pt_cmpR op_gt (pe_op op_add (pe_callB call_len_seq (by rfl) Y.len PySem.boot_len (pa_cons (pv 5) pa_nil)) (pv 8)) (pv 2) (nomark _)))))
            (pss_one (ps_set (i := 8) scSpc.nd rfl (Or.inl rfl) pe_int)) pss_nil)
        (pss_cons (ps_set (i := 5) scSpc.nd rfl (Or.inl rfl) (pe_op op_cat (pv 5) (pe_lc (own := [("k", 10)]) (g := gName 10) (by rfl) scSpc.nd (pi_range1 (by rfl) hrange (pa_cons (pv 8) pa_nil)) (blkOk_by (own := [("k", 10)]) (N := spcN) (sc := defScope d_law_spec) (by decide +kernel))
            (fun _ _ _ _ _ => pg_name (i := 10) scSpc.nd rfl (.inl rfl)) (fun _ _ _ _ _ => pts_nil) (fun _ _ _ _ _ => pe_call A3.G hr rfl A3.m A3.k A3.b .nil pass0 (pa_cons (pv 0) (pa_cons (pv 7) (pa_cons (pv 4) (pa_cons (pv 3) pa_nil))))))))
        (pss_cons (ps_setLc (i := 9) (own := [("k", 10)]) (g := gName 10) (by rfl) scSpc.nd rfl rfl (sw_true rfl rfl rfl (by decide +kernel)) (pi_range1 (by rfl) hrange (pa_cons (pv 8) pa_nil)) (blkOk_by (own := [("k", 10)]) (N := spcN) (sc := defScope d_law_spec) (by decide +kernel))
            (fun _ _ _ _ _ => pg_name (i := 10) scSpc.nd rfl (.inl rfl)) (fun _ _ _ _ _ => pts_nil) (fun _ _ _ _ _ => pe_call A1.G r1 rfl A1.m A1.k A1.b .nil pass0 (pa_cons (pv 0) (pa_cons pe_int pa_nil))))
        (C8.pss_cut (ps_if (PW.pt (pw_and (pt_cmpR op_gt (pv 8) pe_int (nomark _)) (pw_and1 (pt_cmpR op_eq (pe_callB (cr_sum rfl) (by rfl) hsum (by decide +kernel) (pa_cons (pv 9) pa_nil)) pe_int (nomark _)))))
            (pss_one (ps_asg pe_int (pg_sub (pv 9) pe_int set_list))) pss_nil)
        (pss_one (ps_expr (pe_bm PySem.F.plainAttrs_list PySem.F.slot_list_append PySem.F.type_list_append mt_append (pv 6) (pa_cons (pe_callTy (cr_tup (K := K) rfl) (by rfl) Y.tuple (by decide +kernel) (pa_cons (pv 9) pa_nil)) pa_nil))))))))))
      (pss_one (ps_ret (pe_tup (pa_cons (pv 4) (pa_cons (pv 5) (pa_cons (pv 6) pa_nil)))))))), ?_⟩
    refine ⟨_, rfl, _, rfl, p, reach, n, rfl, hp, by omega, by omega, by omega, fun H1 d b1 w1 d0 d1 => ⟨_, _, rfl, rfl, ?_⟩⟩
    obtain ⟨mm, hmm⟩ : ∃ mm : Nat, 1 + d = (mm : Int) := ⟨(1 + d).toNat, by omega⟩
    show gName 4 (V.int (1 + d)) _ H1 _
    rw [hmm]
    refine ⟨(by show 0 ≤ sizeLine; decide), fun L0 hL0 => ?_⟩
    have nL0 := w1.ne hL0
    have s1 : Same H1 (upd H1 L0 (.lst [])) := same1 hL0
    have eL0 : (upd H1 L0 (.lst []) : Hp) L0 = some (.lst ([].map V.ref)) := upd_same
    generalize upd H1 L0 (.lst []) = H2 at *
    refine ⟨(by show 0 ≤ sizeLine; decide), fun S hS => ?_⟩
    have nS := (w1.same s1).ne hS
    have s2 : Same H2 (upd H2 S (.lst [])) := same1 hS
    have eS : (upd H2 S (.lst []) : Hp) S = some (.lst ([].map V.ref)) := upd_same
    have nLS : L0 ≠ S := fun z => by rw [← z, eL0] at hS; cases hS
    have eL02 := s2 _ _ eL0
    have hn2 : ∀ {a : Addr}, a ≠ p → H1 a = none → H a = none := fun {a} na h => by
      cases c : H a with
      | none => rfl
      | some o =>
        have := b1 a o na c
        rw [h] at this
        cases this
    have hS1 : H1 S = none := by
      cases c : H1 S with
      | none => rfl
      | some o =>
        have := s1 _ _ c
        rw [hS] at this
        cases this
    have w2 := (w1.same s1).same s2
    have b02 : But p H (upd H2 S (.lst [])) := b1.trans (same_but (s1.trans s2))
    generalize upd H2 S (.lst []) = H3 at *
    have hL0H := hn2 nL0 hL0
    have hSH := hn2 nS hS1
    refine ⟨_, _, rfl, ?_⟩
    refine ⟨_, rfl, _, rfl, by omega, by omega, ?_⟩
    refine for_range (lo := 0) (n := ((mm : Int)).toNat) (fun i σ N => ∃ (v7 v8 v9 : Option V) (l : Addr) (ts us : List Addr) (bs : List Bed) (pss : List (List Nat)), σ = [some (.ref p), some (.int (reach : Int)), some (.int (cap : Int)), some (.ref u), some (.int (mm : Int)), some (.ref l), some (.ref S), v7, v8, v9, none] ∧
        N l = some (.lst (ts.map V.ref)) ∧ All2 (RowAt K N) ts bs ∧ N S = some (.lst (us.map V.ref)) ∧ All2 (PartsAt K N) us pss ∧ l ≠ S ∧ SpOk mm cap i bs pss ∧ WellN N p (n + 1 + 20 * i) ∧ But p H N)
      ⟨none, none, none, L0, [], [], [], [], rfl, eL02, .nil, eS, .nil, nLS, .nil, w2, b02⟩ ?_ ?_
    · rintro i σ N hi ⟨v7, v8, v9, l, ts, us, bs, pss, rfl, el, hts, eS, hus, nlS, ok, wN, bN⟩
      have im : i < mm := by omega
      have npl : l ≠ p := fun z => by
        obtain ⟨x, y, z', e⟩ := wN.src
        rw [z, e] at el
        match ts with
        | [] => cases el
        | _ :: _ => cases el
      refine ⟨_, rfl, (by show 5 ≤ sizeLine; decide), fun L hL => ?_⟩
      have nL := wN.ne hL
      have s3 : Same N (upd N L (.lst [.int 2, .int 2, .int 2, .int 1, .int 0])) := same1 hL
      have eL : (upd N L (.lst [.int 2, .int 2, .int 2, .int 1, .int 0]) : Hp) L = some (.lst [.int 2, .int 2, .int 2, .int 1, .int 0]) := upd_same
      generalize upd N L (.lst [.int 2, .int 2, .int 2, .int 1, .int 0]) = N1 at *
      have w3 := wN.same s3
      refine ⟨p, L, _, _, rfl, w3, by omega, eL, nL, (by show 0 < 5; decide), (by show 5 < 1000; decide), fun N2 x b2 w2' hx => ?_⟩
      obtain ⟨f0, rfl, hf0⟩ : ∃ f : Nat, x = .int (f : Int) ∧ f ≤ 2 := by
        simp only [List.mem_cons, List.not_mem_nil, or_false] at hx
        rcases hx with h | h | h | h | h
        · exact ⟨2, h, by decide⟩
        · exact ⟨2, h, by decide⟩
        · exact ⟨2, h, by decide⟩
        · exact ⟨1, h, by decide⟩
        · exact ⟨0, h, by decide⟩
      have b12 : But p N N2 := (same_but s3).trans b2
      have el2 := b2.lstR w3.src (s3 _ _ el)
      refine ⟨fun σ' N' => ∃ f : Nat, σ' = [some (.ref p), some (.int (reach : Int)), some (.int (cap : Int)), some (.ref u), some (.int (mm : Int)), some (.ref l), some (.ref S), some (.int (0 + (i : Int))), some (.int (f : Int)), v9, none] ∧ N' = N2 ∧ f ≤ 2 ∧ bs.length + f ≤ cap ∧ (0 < f → i + 1 < mm), ?_, ?_⟩
      · have fb := ok.few
        refine ⟨_, rfl, _, rfl, _, _, rfl, rfl, rfl, _, rfl, ?_⟩
        refine ite2 (fun h => ⟨0, rfl, rfl, by decide, by omega, fun z => absurd z (by decide)⟩) (fun h => ?_)
        have h : ¬ (0 + (i : Int)) = (mm : Int) - 1 := fun z => h (decide_eq_true (by rw [z]))
        refine ⟨_, rfl, l, _, rfl, .inl (SqL.of el2), _, rfl, _, _, rfl, rfl, _, rfl, _, _, rfl, rfl, _, rfl, ?_⟩
        rw [List.length_map, hts.len]
        refine ite2 (fun h2 => ⟨0, rfl, rfl, by decide, by omega, fun z => absurd z (by decide)⟩) (fun h2 => ?_)
        have h2 : ¬ ((bs.length : Nat) : Int) + (f0 : Int) > (cap : Int) := fun z => h2 (decide_eq_true z)
        exact ⟨f0, rfl, rfl, hf0, by omega, fun _ => by omega⟩
      rintro σ' N2' ⟨f, rfl, eN', hf, hfc, hfm⟩
      obtain rfl := eN'.symm
      -- the beds
      refine ⟨_, rfl, _, rfl, _, rfl, by omega, by omega, fun D hD => ?_⟩
      have nD := w2'.ne hD
      refine lc_range (lo := 0) (n := ((f : Int)).toNat) (fun j M => ∃ (vs : List Addr) (nb : List Bed), M D = some (.lst (vs.map V.ref)) ∧ All2 (RowAt K M) vs nb ∧ nb.length = j ∧ (∀ b ∈ nb, GoodBedL mm b ∧ b.s = i) ∧ WellN M p (n + 1 + 20 * i + 1 + 5 * j) ∧ But p N2 M)
        ⟨[], [], upd_same, .nil, rfl, (fun b h => nomatch h), w2'.put nD, same_but (same1 hD)⟩ ?_ ?_
      · rintro j M hj ⟨vs, nb, eD, hvs, lnb, hnb, wM, bM⟩
        have jf : j < f := by omega
        have huM : PairAt K M u uq := ((bN.trans b12).trans bM).tup hp.src hu
        refine ⟨rfl, _, rfl, _, rfl, _, rfl, _, rfl, p, u, i, mm, _, uq, by rw [Int.zero_add]; rfl, wM, by omega, hfm (by omega), by omega, huM, uok, fun M' t b b' w' hr hs hg => ?_⟩
        have eD' := b'.lstR wM.src eD
        have kp : KeepL M' (upd M' D (.lst (vs.map V.ref ++ [V.ref t]))) := keep_put eD'
        refine ⟨_, eD', ?_, vs ++ [t], nb ++ [b], by rw [List.map_append]; exact upd_same, (hvs.mono fun _ _ _ _ r => kp.row ((b'.keep wM.src).row r)).snoc (kp.row hr), by rw [List.length_append, lnb]; rfl, fun c hc => ?_, (w'.put nD).le (by omega), fun c o nc ec => ?_⟩
        · rw [List.length_map, hvs.len, lnb]
          exact Nat.lt_of_lt_of_le (show j < 2 by omega) (show 2 ≤ sizeLine by decide)
        · rcases List.mem_append.mp hc with z | z
          · exact hnb c z
          · rw [List.mem_singleton.mp z]
            exact ⟨hg, hs⟩
        · rw [upd_ne (ne_of_none ec hD)]
          exact b' c o nc (bM c o nc ec)
      rintro M ⟨vs, nb, eD, hvs, lnb, hnb, wM, bM⟩
      have lnb : nb.length = f := by omega
      have elM := bM.lstR w2'.src el2
      refine ⟨l, D, _, _, rfl, rfl, elM, eD, ?_, fun L2 hL2 => ?_⟩
      · rw [List.length_map, List.length_map, hts.len, hvs.len]
        exact Nat.le_trans (show bs.length + nb.length ≤ 12 by omega) (show 12 ≤ sizeLine by decide)
      rw [← List.map_append]
      have nL2 := wM.ne hL2
      have s4 : Same M (upd M L2 (.lst ((ts ++ vs).map V.ref))) := same1 hL2
      have eL2 : (upd M L2 (.lst ((ts ++ vs).map V.ref)) : Hp) L2 = some (.lst ((ts ++ vs).map V.ref)) := upd_same
      have nL2S : L2 ≠ S := fun z => by
        have := bM.lstR w2'.src (b2.lstR w3.src (s3 _ _ eS))
        rw [z, this] at hL2
        cases hL2
      generalize upd M L2 (.lst ((ts ++ vs).map V.ref)) = M1 at *
      have w4 := wM.same s4
      have bNM1 : But p N M1 := b12.trans (bM.trans (same_but s4))
      -- the row
      refine ⟨_, rfl, _, rfl, by omega, by omega, fun R hR => ?_⟩
      have nR := w4.ne hR
      refine lc_range (lo := 0) (n := ((f : Int)).toNat) (fun j Z => ∃ rs : List Nat, Z R = some (.lst (rs.map natV)) ∧ rs.length = j ∧ (∀ r ∈ rs, r ≤ 9) ∧ WellN Z p (n + 1 + 20 * i + 11 + j) ∧ But p M1 Z ∧ (∀ c o, c ≠ p → c ≠ R → M1 c = some o → Z c = some o))
        ⟨[], upd_same, rfl, (fun r h => nomatch h), (w4.put nR).le (by omega), same_but (same1 hR), fun c o _ nc ec => by rw [upd_ne nc]; exact ec⟩ ?_ ?_
      · rintro j Z hj ⟨rs, eR, lrs, hrs, wZ, bZ, kZ⟩
        have jf : j < f := by omega
        refine ⟨rfl, _, rfl, p, 10, _, rfl, wZ, by omega, by decide, by decide, fun Z' dd b' w' dd0 dd1 => ?_⟩
        have eR' : Z' R = some (.lst (rs.map natV)) := b' R _ nR eR
        refine ⟨_, eR', ?_, rs ++ [dd.toNat], ?_, by rw [List.length_append, lrs]; rfl, fun r hr => ?_, (w'.put nR).le (by omega), fun c o nc ec => ?_, fun c o nc nc2 ec => ?_⟩
        · rw [List.length_map, lrs]
          exact Nat.lt_of_lt_of_le (show j < 2 by omega) (show 2 ≤ sizeLine by decide)
        · rw [upd_same, List.map_append]
          show some (HO.lst (_ ++ [V.int dd])) = some (HO.lst (_ ++ [V.int ((dd.toNat : Nat) : Int)]))
          rw [Int.toNat_of_nonneg dd0]
        · rcases List.mem_append.mp hr with z | z
          · exact hrs r z
          · rw [List.mem_singleton.mp z]
            omega
        · rw [upd_ne (ne_of_none ec hR)]
          exact b' c o nc (bZ c o nc ec)
        · rw [upd_ne nc2]
          exact b' c o nc (kZ c o nc nc2 ec)
      rintro Z ⟨rs, eR, lrs, hrs, wZ, bZ, kZ⟩
      have lrs : rs.length = f := by omega
      refine ⟨fun σ' N' => ∃ ps : List Nat, σ' = [some (.ref p), some (.int (reach : Int)), some (.int (cap : Int)), some (.ref u), some (.int (mm : Int)), some (.ref L2), some (.ref S), some (.int (0 + (i : Int))), some (.int (f : Int)), some (.ref R), none] ∧ N' R = some (.lst (ps.map natV)) ∧ GoodParts f ps ∧ WellN N' p (n + 1 + 20 * i + 11 + f) ∧ But p M1 N', ?_, ?_⟩
      · have good : ∀ h : f = 0 ∨ rs.sum ≠ 0, GoodParts f rs := fun h => ⟨lrs, hrs, by omega, h.imp id fun z => sum_some z⟩
        refine ⟨_, rfl, _, _, rfl, rfl, _, rfl, ?_⟩
        refine ite2 (fun h => ?_) (fun h => ⟨rs, rfl, eR, good (.inl ?_), by rw [← show ((f : Int)).toNat = f from Int.toNat_natCast f]; exact wZ, bZ⟩)
        · have h : (f : Int) > 0 := of_decide_eq_true h
          refine ⟨_, rfl, R, rs.map (fun n : Nat => (n : Int)), rfl, by rw [← natV_map]; exact SqL.of eR, ?_⟩
          rw [sum_cast]
          refine ⟨rfl, _, rfl, ?_⟩
          refine ite2 (fun h2 => ?_) (fun h2 => ⟨rs, rfl, eR, good (.inr fun z => h2 (decide_eq_true (by rw [z]; rfl))), by rw [← show ((f : Int)).toNat = f from Int.toNat_natCast f]; exact wZ, bZ⟩)
          refine ⟨_, rfl, R, _, _, 0, rfl, rfl, eR, ?_, rs.set 0 1, rfl, ?_, ⟨by rw [List.length_set]; exact lrs, fun r hr => ?_, by rw [List.length_set]; omega, .inr ⟨1, ?_, by decide⟩⟩, ?_, fun c o nc ec => ?_⟩
          · unfold ixN
            rw [if_pos (by decide), if_pos (by rw [List.length_map]; omega)]
            rfl
          · rw [upd_same, List.map_set]
            rfl
          · rcases List.mem_or_eq_of_mem_set hr with z | z
            · exact hrs r z
            · rw [z]
              decide
          · exact List.mem_set (show 0 < rs.length by omega) 1
          · rw [← show ((f : Int)).toNat = f from Int.toNat_natCast f]
            exact wZ.put nR
          · rw [upd_ne (ne_of_none ec hR)]
            exact bZ c o nc ec
        · have h : ¬ (f : Int) > 0 := fun z => h (decide_eq_true z)
          omega
      rintro σ'' Z2 ⟨ps, rfl, eR2, gp, wZ2, bZ2⟩
      have eSZ := bZ2.lstR w4.src (s4 _ _ (bM.lstR w2'.src (b2.lstR w3.src (s3 _ _ eS))))
      have eL2Z := bZ2.lstR w4.src eL2
      refine ⟨_, rfl, .inl ⟨rfl, _, SqL.of eSZ⟩, _, rfl, R, _, rfl, .inl ⟨SqL.of eR2, fun pt hpt => ?_⟩⟩
      have s5 : Same Z2 (upd Z2 pt (.tup (ps.map natV))) := same1 hpt
      have ept : (upd Z2 pt (.tup (ps.map natV)) : Hp) pt = some (.tup (ps.map natV)) := upd_same
      generalize upd Z2 pt (.tup (ps.map natV)) = Z3 at *
      have eSZ3 := s5 _ _ eSZ
      have lus := hus.len
      have lps := ok.plen
      have kp : KeepL Z3 (upd Z3 S (.lst (us.map V.ref ++ [V.ref pt]))) := keep_put eSZ3
      have bNZ3 : But p N Z3 := bNM1.trans (bZ2.trans (same_but s5))
      have k0 : KeepL N (upd Z3 S (.lst (us.map V.ref ++ [V.ref pt]))) := (bNZ3.keep wN.src).trans kp
      have kM : KeepL M (upd Z3 S (.lst (us.map V.ref ++ [V.ref pt]))) := ((keep_same s4).trans ((bZ2.trans (same_but s5)).keep w4.src)).trans kp
      refine ⟨S, _, _, rfl, rfl, eSZ3, ?_, _, _, _, L2, ts ++ vs, us ++ [pt], bs ++ nb, pss ++ [ps], rfl, ?_, All2.app (hts.mono fun _ _ _ _ r => k0.row r) (hvs.mono fun _ _ _ _ r => kM.row r), by rw [List.map_append]; exact upd_same, (hus.mono fun _ _ _ _ r => k0.tup r).snoc (kp.tup (SqT.of ept)), nL2S, ok.next hnb (by omega) (by omega) (by rw [lnb]; exact gp), ?_, fun c o nc ec => ?_⟩
      · rw [List.length_map]
        exact Nat.lt_of_lt_of_le (show us.length < 8 by omega) (show 8 ≤ sizeLine by decide)
      · rw [upd_ne nL2S]
        exact s5 _ _ eL2Z
      · exact ((wZ2.same s5).put nS).le (by omega)
      · rw [upd_ne (ne_of_none ec hSH)]
        exact bNZ3 c o nc (bN c o nc ec)
    · rintro σ N ⟨v7, v8, v9, l, ts, us, bs, pss, rfl, el, hts, eS, hus, nlS, ok, wN, bN⟩
      rw [Int.toNat_natCast] at ok wN
      refine ⟨_, rfl, _, rfl, _, rfl, (by show 3 ≤ sizeLine; decide), fun t ht => ?_⟩
      have s1 : Same N (upd N t (.tup [.int (mm : Int), .ref l, .ref S])) := same1 ht
      exact q _ t ⟨mm, bs, pss⟩ (bN.trans (same_but s1)) ((wN.same s1).le (by omega)) ⟨l, S, SqT.of upd_same, ⟨ts, SqL.of (s1 _ _ el), hts.mono fun _ _ _ _ r => r.mono s1⟩, ⟨us, SqL.of (s1 _ _ eS), hus.mono fun _ _ _ _ r => Same.tup s1 r⟩⟩ (ok.good (by omega) (by omega) c12) (fun b hb => (ok.bed b hb).1.2) (by show mm ≤ reach; omega) ok.few
end
end K64

namespace K64
open PySem PySem.Spec PyProof.Rows L2
/-! ### the program's web of it; depths; what falls -/
def PairsT (K : PySem.W.Frag) (H : Hp) (l : Addr) (qs : List Rat) : Prop := ∃ ts : List Addr, H l = some (.lst (ts.map V.ref)) ∧ All2 (PairAt K H) ts qs
theorem PairsT.old {K : PySem.W.Frag} {H : Hp} {l : Addr} {qs : List Rat} (h : PairsT K H l qs) : PairsL K H l qs := by
  obtain ⟨ts, u, v⟩ := h
  exact ⟨ts, SqL.of u, v⟩
theorem PairsT.mono {K : PySem.W.Frag} {H H' : Hp} {a : Addr} {bs : List Rat} (h : PairsT K H a bs) (s : Same H H') : PairsT K H' a bs := by
  obtain ⟨ts, u, v⟩ := h
  exact ⟨ts, s _ _ u, v.mono fun _ _ _ _ r => Same.tup s r⟩
theorem PairsT.put {K : PySem.W.Frag} {H : Hp} {D a : Addr} {xs : List V} {o : HO} {bs : List Rat} (h : PairsT K H a bs) (e : H D = some (.lst xs)) (n : a ≠ D) : PairsT K (upd H D o) a bs := by
  obtain ⟨ts, u, v⟩ := h
  exact ⟨ts, by rw [upd_ne n]; exact u, v.mono fun _ _ _ _ r => (keep_put e).tup r⟩
def spWebL (K : PySem.W.Frag) (C CW : Addr) : Sp := fun vs H Q _ => ∃ (t : Addr) (W : WebV), vs = [.ref t] ∧ WorldAt K H t W ∧ GoodWeb W ∧ ∀ (H' : Hp) (w : Addr), Same H H' → WebAt K C CW H' w W → Q (.ref w) H'
def spDepthsN (K : PySem.W.Frag) : Sp := fun vs H Q _ => ∃ (p t : Addr) (n : Nat) (W : WebV), vs = [.ref p, .ref t] ∧ WellN H p n ∧ n < 2 ^ 27 ∧ WorldAt K H t W ∧ GoodWeb W ∧
  ∀ (H' : Hp) (d : Addr) (ds : List Int), But p H H' → WellN H' p (n + 40) → SqT K H' d (ds.map V.int) → ds.length = W.beds.length → Q (.ref d) H'
def spFallenN (K : PySem.W.Frag) : Sp := fun vs H Q _ => ∃ (p t u : Addr) (n : Nat) (W : WebV) (uq : Rat), vs = [.ref p, .ref t, .ref u] ∧ WellN H p n ∧ n < 2 ^ 27 ∧ WorldAt K H t W ∧ GoodWeb W ∧ PairAt K H u uq ∧ UnitOk uq ∧
  ∀ (H' : Hp) (l : Addr) (qs : List Rat), But p H H' → H l = none → WellN H' p (n + 20) → PairsT K H' l qs → RainOk W 126 60 qs → Q (.ref l) H'
section
variable {P : Program} {w : World} {K : PySem.W.Frag} {mg : Str → Option Value} {base : Heap}
abbrev wbN : List Str := ["spec", "many", "beds", "parts", "start", "foot", "low", "high"]
theorem scWb : FnScope wbN ["spec"] (defScope d_law_web) := ⟨rfl, rfl, rfl, by decide +kernel, rfl, by decide +kernel, by decide +kernel⟩
theorem ok_webL {f f1 fW C CW : Addr} {fd fd1 fdW : FuncData} (F : Fun K "_law_web" "_law_web" d_law_web f fd) (Y : TxtW mg C) (hW : mg "Web" = some (.ref CW))
    (A1 : At P w K mg base CX0 4 "_law_share" ["pair"] (spShareP K C) f1 fd1)
    (MW : Mk K CW fW) (GW : FnOk P w K mg base CX0 5 fW fdW ["self", "many", "beds", "parts"] (spWInit K C CW)) (bW : Binds K fdW ["self", "many", "beds", "parts"] []) : FnOk P w K mg base CX0 7 f fd ["spec"] (spWebL K C CW) := by
  refine F.ok scWb (fun vs H Q E h => ?_) (fun cdv A outer s H vs Q E hr h => ?_)
  · obtain ⟨_, _, rfl, _⟩ := h
    rfl
  · obtain ⟨t0, W, rfl, ⟨rl, sl, h0, ⟨ts, hts, hA⟩, ⟨us, hus, hU⟩⟩, g, q⟩ := h
    have r4 : Room 4 _ := hr.mono (by decide)
    refine ⟨_, pss_cons (ps_asg (pv 0) (pg_tup (by rfl) (pgs_cons (pg_name (i := 1) scWb.nd rfl (.inl rfl)) (pgs_cons (pg_name (i := 2) scWb.nd rfl (.inl rfl)) (pgs_cons (pg_name (i := 3) scWb.nd rfl (.inl rfl)) pgs_nil)))))
      (pss_one (ps_ret (pe_make MW GW hr rfl hW bW .nil pass0 (pa_cons (pv 1) (pa_cons
        (pe_lc (own := [("start", 4), ("foot", 5), ("low", 6), ("high", 7)]) (g := gTup K 4 (gCons (gName 4) (gCons (gName 5) (gCons (gName 6) (gCons (gName 7) gNil))))) (by rfl) scWb.nd (pi_list (pv 2)) (blkOk_by (own := [("start", 4), ("foot", 5), ("low", 6), ("high", 7)]) (N := wbN) (sc := defScope d_law_web) (by decide +kernel))
          (fun _ _ _ _ _ => pg_tup (by rfl) (pgs_cons (pg_name (i := 4) scWb.nd rfl (.inl rfl)) (pgs_cons (pg_name (i := 5) scWb.nd rfl (.inl rfl)) (pgs_cons (pg_name (i := 6) scWb.nd rfl (.inl rfl)) (pgs_cons (pg_name (i := 7) scWb.nd rfl (.inl rfl)) pgs_nil))))) (fun _ _ _ _ _ => pts_nil)
          (fun _ _ _ _ _ => pe_tup (pa_cons (pv 4) (pa_cons (pv 5) (pa_cons (pe_call A1.G r4 rfl A1.m A1.k A1.b .nil pass0 (pa_cons (pv 6) pa_nil)) (pa_cons (pe_call A1.G r4 rfl A1.m A1.k A1.b .nil pass0 (pa_cons (pv 7) pa_nil)) pa_nil))))))
        (pa_cons (pe_callTy call_list_of (by rfl) Y.list (by decide +kernel) (pa_cons (pv 3) pa_nil)) pa_nil)))))), ?_⟩
    refine ⟨_, rfl, t0, _, rfl, h0, rfl, _, _, rfl, _, _, rfl, _, _, rfl, rfl, ?_⟩
    refine ⟨_, rfl, _, rfl, rl, rfl, ⟨_, hts⟩, fun F0 hF => ?_⟩
    have few := g.few
    refine lc_list (K := K) (a := rl) (xs := ts.map V.ref) (fun i N => ∃ vs : List Addr, N F0 = some (.lst (vs.map V.ref)) ∧ All2 (BedAt K C N) vs (W.beds.take i) ∧ Same H N) ⟨[], upd_same, .nil, same1 hF⟩ ?_ ?_ ?_
    · rintro i N _ ⟨_, _, _, sN⟩
      exact sN.seq hts
    · rintro i x N hx ⟨vs, eN, hV, sN⟩
      rw [List.getElem?_map] at hx
      obtain ⟨t, ht, rfl⟩ := Option.map_eq_some_iff.mp hx
      have il : i < W.beds.length := by
        have := (List.getElem?_eq_some_iff.mp ht).1
        have := hA.len
        omega
      have hbi : W.beds[i]? = some W.beds[i] := List.getElem?_eq_getElem il
      obtain ⟨x, y, q1, hx1, hy1⟩ := (hA.all i t _ ht hbi).mono sN
      have ob := g.bed _ (List.getElem_mem il)
      generalize hb : W.beds[i] = b at *
      refine ⟨t, _, rfl, q1, rfl, _, _, rfl, _, _, rfl, _, _, rfl, _, _, rfl, rfl, rfl, ?_⟩
      refine ⟨_, rfl, _, rfl, _, rfl, x, b.lo, rfl, hx1, ob.slo, fun N1 p1 m1 hp1 => ?_⟩
      refine ⟨_, rfl, y, b.hi, rfl, PairAt.mono hy1 m1, ob.shi, fun N2 p2 m2 hp2 => ?_⟩
      refine ⟨(by show 4 ≤ sizeLine; decide), fun u hu => ?_⟩
      have m3 : Same N2 (upd N2 u (.tup [.int (b.s : Int), .int (b.e : Int), .ref p1, .ref p2])) := same1 hu
      have eu : (upd N2 u (.tup [.int (b.s : Int), .int (b.e : Int), .ref p1, .ref p2]) : Hp) u = some (.tup [.int (b.s : Int), .int (b.e : Int), .ref p1, .ref p2]) := upd_same
      generalize upd N2 u (.tup [.int (b.s : Int), .int (b.e : Int), .ref p1, .ref p2]) = N3 at *
      have m13 := m1.trans (m2.trans m3)
      have eN3 := m13 _ _ eN
      have kp : KeepL N3 (upd N3 F0 (.lst (vs.map V.ref ++ [V.ref u]))) := keep_put eN3
      have kb : ∀ {a : Addr} {b : Bed}, BedAt K C N3 a b → BedAt K C (upd N3 F0 (.lst (vs.map V.ref ++ [V.ref u]))) a b := fun {a b} ⟨x, y, r1, r2, r3⟩ => ⟨x, y, kp.tup r1, kp.sh r2, kp.sh r3⟩
      refine ⟨_, eN3, ?_, vs ++ [u], by rw [List.map_append]; exact upd_same, ?_, fun a o ea => ?_⟩
      · rw [List.length_map, hV.len, List.length_take]
        exact Nat.lt_of_le_of_lt (Nat.min_le_left _ _) (Nat.lt_of_lt_of_le (show i < 12 by omega) (show 12 ≤ sizeLine by decide))
      · rw [List.take_succ_eq_append_getElem il, hb]
        exact (hV.mono fun _ _ _ _ r => kb (r.mono m13)).snoc (kb ⟨p1, p2, SqT.of eu, hp1.mono (m2.trans m3), hp2.mono m3⟩)
      · rw [upd_ne (ne_of_none ea hF)]
        exact m13 _ _ (sN _ _ ea)
    rintro N ⟨vs, eN, hV, sN⟩
    rw [List.length_map, hA.len, List.take_length] at hV
    refine ⟨_, rfl, sl, _, rfl, .inl (sN.seq hus), fun l2 hl2 => ?_⟩
    have s3 : Same N (upd N l2 (.lst (us.map V.ref))) := same1 hl2
    have e3 : (upd N l2 (.lst (us.map V.ref)) : Hp) l2 = some (.lst (us.map V.ref)) := upd_same
    generalize upd N l2 (.lst (us.map V.ref)) = N3 at *
    intro x dx nx ndx nex
    have s4 : Same N3 (upd (upd N3 dx (.own x)) x (.ins CW dx [])) := made_same (C := CW) nx ndx (fun a _ => rfl)
    have s34 := s3.trans s4
    refine ⟨x, dx, F0, l2, W, rfl, upd_same, ⟨vs, SqL.of (s34 _ _ eN), hV.mono fun _ _ _ _ r => r.mono s34⟩, ⟨us, SqL.of (s4 _ _ e3), hU.mono fun _ _ _ _ r => Same.tup (sN.trans s34) r⟩, g, fun H' hw kp => ⟨rfl, ?_⟩⟩
    exact q H' x (fun a o ea => kp a o (ne_of_none (s3 _ _ (sN _ _ ea)) nx) ((sN.trans s34) _ _ ea)) hw
abbrev dpN : List Str := ["well", "spec", "far", "bases", "spot", "brook"]
theorem scDp : FnScope dpN ["well", "spec"] (defScope d_law_depths) := ⟨rfl, rfl, rfl, by decide +kernel, rfl, by decide +kernel, by decide +kernel⟩
theorem ok_depthsN {f f1 f2 C : Addr} {fd fd1 fd2 : FuncData} (F : Fun K "_law_depths" "_law_depths" d_law_depths f fd) (Y : TxtW mg C) (hrange : mg "range" = none)
    (A1 : At P w K mg base CX0 1 "_law_draw" ["well", "many"] spDrawN f1 fd1) (A2 : At P w K mg base CX0 2 "_law_one" ["well", "some"] spOneN f2 fd2) : FnOk P w K mg base CX0 3 f fd ["well", "spec"] (spDepthsN K) := by
  refine F.ok scDp (fun vs H Q E h => ?_) (fun cdv A outer s H vs Q E hr h => ?_)
  · obtain ⟨_, _, _, _, rfl, _⟩ := h
    rfl
  · obtain ⟨p, t0, n, W, rfl, hp, n1, hW, g, q⟩ := h
    have r1 : Room 1 _ := hr.mono (by decide)
    refine ⟨_, pss_cons (ps_set (i := 2) scDp.nd rfl (Or.inr rfl) (pe_call A2.G hr rfl A2.m A2.k A2.b .nil pass0 (pa_cons (pv 0) (pa_cons (pe_lst (pa_cons pe_int (pa_cons pe_int (pa_cons (pe_op op_pow pe_int pe_int) (pa_cons (pe_op op_sub pe_int (pe_op op_pow pe_int pe_int)) pa_nil))))) pa_nil))))
      (pss_cons (ps_set (i := 3) scDp.nd rfl (Or.inr rfl) (pe_lc (own := [("spot", 4)]) (g := gName 4) (by rfl) scDp.nd (pi_range1 (by rfl) hrange (pa_cons (pe_ix ix_tup (pv 1) pe_int (fun _ _ => rfl)) pa_nil)) (blkOk_by (own := [("spot", 4)]) (N := dpN) (sc := defScope d_law_depths) (by decide +kernel))
          (fun _ _ _ _ _ => pg_name (i := 4) scDp.nd rfl (.inl rfl)) (fun _ _ _ _ _ => pts_nil)
          (fun _ _ _ _ _ => pe_op op_add (pe_op op_mulW (pv 2) (pe_call A1.G r1 rfl A1.m A1.k A1.b .nil pass0 (pa_cons (pv 0) (pa_cons pe_int pa_nil)))) (pe_call A1.G r1 rfl A1.m A1.k A1.b .nil pass0 (pa_cons (pv 0) (pa_cons pe_int pa_nil))))))
      (pss_one (ps_ret (pe_callTy (cr_tup (K := K) rfl) (by rfl) Y.tuple (by decide +kernel) (pa_cons
        (pe_lc (own := [("brook", 5)]) (g := gName 5) (by rfl) scDp.nd (pi_list (pe_ix ix_tup (pv 1) pe_int (fun _ _ => rfl))) (blkOk_by (own := [("brook", 5)]) (N := dpN) (sc := defScope d_law_depths) (by decide +kernel))
          (fun _ _ _ _ _ => pg_name (i := 5) scDp.nd rfl (.inl rfl)) (fun _ _ _ _ _ => pts_nil)
          (fun _ _ _ _ _ => pe_op op_sub (pe_op op_add (pe_ix (show IxR _ (rIxL K) from ix_list) (pv 3) (pe_ix (show IxR _ (rIxT K) from ix_tup) (pv 5) pe_int (fun _ _ => rfl)) (fun _ _ => rfl)) (pe_call A1.G r1 rfl A1.m A1.k A1.b .nil pass0 (pa_cons (pv 0) (pa_cons pe_int pa_nil)))) pe_int)) pa_nil))))), ?_⟩
    have few := g.few
    have m8 := g.m8
    refine ⟨_, rfl, _, _, rfl, rfl, ⟨by decide, by decide, by decide⟩, _, _, rfl, rfl, ⟨by decide, by decide, by decide⟩, _, _, rfl, rfl, (by show 4 ≤ sizeLine; decide), fun L hL => ?_⟩
    have nL := hp.ne hL
    generalize hol : HO.lst [V.int 0, V.int 0, V.int (10 ^ (12 : Int).toNat), V.int (0 - 10 ^ (30 : Int).toNat)] = ol at *
    have s1 : Same H (upd H L ol) := same1 hL
    have eL : (upd H L ol : Hp) L = some ol := upd_same
    generalize upd H L ol = H1 at *
    subst hol
    have hp1 := hp.same s1
    refine ⟨p, L, _, n, rfl, hp1, by omega, eL, nL, (by show 0 < 4; decide), (by show 4 < 1000; decide), fun H2 x b2 w2 hx => ?_⟩
    obtain ⟨far, rfl, hfar⟩ : ∃ far : Int, x = .int far ∧ far.natAbs < 2 ^ 1500 := by
      have up : ∀ k : Nat, k < 2 ^ 110 → k < 2 ^ 1500 := fun k h => Nat.lt_of_lt_of_le h (Nat.pow_le_pow_right (by decide) (by decide))
      simp only [List.mem_cons, List.not_mem_nil, or_false] at hx
      rcases hx with h | h | h | h
      · exact ⟨0, h, up _ (by decide)⟩
      · exact ⟨0, h, up _ (by decide)⟩
      · exact ⟨_, h, up _ (by decide)⟩
      · exact ⟨_, h, up _ (by decide)⟩
    have b02 : But p H H2 := (same_but s1).trans b2
    obtain ⟨rl, sl, h0, ⟨ts, hts, hA⟩, _⟩ := hW.but b02 hp.src
    refine ⟨_, rfl, t0, _, _, _, rfl, rfl, h0, at_k (by decide) rfl, _, rfl, by omega, by omega, fun D hD => ?_⟩
    have nD := w2.ne hD
    refine lc_range (lo := 0) (n := ((W.many : Int)).toNat) (fun i M => ∃ vs : List Int, M D = some (.lst (vs.map V.int)) ∧ vs.length = i ∧ WellN M p (n + 1 + 2 * i) ∧ But p H2 M) ⟨[], upd_same, rfl, w2.put nD, same_but (same1 hD)⟩ ?_ ?_
    · rintro i M hi ⟨vs, eD, lv, wM, bM⟩
      have im : i < 8 := by omega
      refine ⟨rfl, _, rfl, _, rfl, p, 3, _, rfl, wM, by omega, by decide, by decide, fun M1 d1 b1 w1 d10 d11 => ⟨_, _, rfl, rfl, ?_⟩⟩
      refine ⟨wide_mul hfar (show d1.natAbs < 2 ^ 1500 from Nat.lt_of_lt_of_le (show d1.natAbs < 2 ^ 2 by omega) (Nat.pow_le_pow_right (by decide) (by decide))) (by decide) (by decide) (by decide), ?_⟩
      refine ⟨_, rfl, p, 4, _, rfl, w1, by omega, by decide, by decide, fun M2 d2 b2' w2' d20 d21 => ⟨_, _, rfl, rfl, ?_⟩⟩
      have eD2 : M2 D = some (.lst (vs.map V.int)) := b2' D _ nD (b1 D _ nD eD)
      refine ⟨_, eD2, ?_, vs ++ [far * d1 + d2], by rw [List.map_append]; exact upd_same, by rw [List.length_append, lv]; rfl, (w2'.put nD).le (by omega), fun c o nc ec => ?_⟩
      · rw [List.length_map, lv]
        exact Nat.lt_of_lt_of_le im (show 8 ≤ sizeLine by decide)
      · rw [upd_ne (ne_of_none ec hD)]
        exact b2' c o nc (b1 c o nc (bM c o nc ec))
    rintro M ⟨vs, eD, lv, wM, bM⟩
    have lv : vs.length = W.many := by omega
    have h0M := (bM.keep w2.src).tup h0
    have htM := bM.seqR w2.src hts
    have hAM : All2 (RowAt K M) ts W.beds := hA.mono fun _ _ _ _ r => (bM.keep w2.src).row r
    refine ⟨_, rfl, t0, _, _, _, rfl, rfl, h0M, at_k (by decide) rfl, rl, rfl, ⟨_, htM⟩, fun E0 hE0 => ?_⟩
    have nE := wM.ne hE0
    refine lc_list (K := K) (a := rl) (xs := ts.map V.ref) (fun i Z => ∃ ds : List Int, Z E0 = some (.lst (ds.map V.int)) ∧ ds.length = i ∧ WellN Z p (n + 17 + i) ∧ But p M Z ∧ (∀ c o, c ≠ p → c ≠ E0 → M c = some o → Z c = some o)) ⟨[], upd_same, rfl, (wM.put nE).le (by omega), same_but (same1 hE0), fun c o _ nc ec => by rw [upd_ne nc]; exact ec⟩ ?_ ?_ ?_
    · rintro i Z _ ⟨_, _, _, _, bZ, _⟩
      exact bZ.seqR wM.src htM
    · rintro i x Z hx ⟨ds, eE, lds, wZ, bZ, kZ⟩
      rw [List.getElem?_map] at hx
      obtain ⟨t, ht, rfl⟩ := Option.map_eq_some_iff.mp hx
      have il : i < W.beds.length := by
        have := (List.getElem?_eq_some_iff.mp ht).1
        have := hA.len
        omega
      obtain ⟨_, _, q1, _, _⟩ := (bZ.keep wM.src).row (hAM.all i t _ ht (List.getElem?_eq_getElem il))
      have ob := g.bed _ (List.getElem_mem il)
      have hs : W.beds[i].s < vs.length := by
        have := ob.up
        have := ob.le
        omega
      have nDE : D ≠ E0 := fun z => by rw [z, hE0] at eD; cases eD
      have eDZ := kZ D _ nD nDE eD
      refine ⟨rfl, _, rfl, _, rfl, t, _, _, _, rfl, rfl, q1, at_k (by decide) rfl, D, _, _, .int vs[W.beds[i].s], rfl, rfl, SqL.of eDZ, atI_nat (by rw [List.getElem?_map, List.getElem?_eq_getElem hs]; rfl), ?_⟩
      refine ⟨_, rfl, p, 5, _, rfl, wZ, by omega, by decide, by decide, fun Z1 dd b1 w1 d10 d11 => ⟨_, _, rfl, rfl, _, _, rfl, rfl, ?_⟩⟩
      have eE1 : Z1 E0 = some (.lst (ds.map V.int)) := b1 E0 _ nE eE
      refine ⟨_, eE1, ?_, ds ++ [vs[W.beds[i].s] + dd - 2], by rw [List.map_append]; exact upd_same, by rw [List.length_append, lds]; rfl, (w1.put nE).le (by omega), fun c o nc ec => ?_, fun c o nc nc2 ec => ?_⟩
      · rw [List.length_map, lds]
        exact Nat.lt_of_lt_of_le (show i < 12 by omega) (show 12 ≤ sizeLine by decide)
      · rw [upd_ne (ne_of_none ec hE0)]
        exact b1 c o nc (bZ c o nc ec)
      · rw [upd_ne nc2]
        exact b1 c o nc (kZ c o nc nc2 ec)
    rintro Z ⟨ds, eE, lds, wZ, bZ, kZ⟩
    have lds : ds.length = W.beds.length := by
      rw [List.length_map, hA.len] at lds
      exact lds
    refine ⟨E0, _, rfl, .inl ⟨SqL.of eE, fun d hd => ?_⟩⟩
    exact q _ d ds (b02.trans (bM.trans (bZ.trans (same_but (same1 hd))))) ((wZ.same (same1 hd)).le (by rw [List.length_map, hA.len]; omega)) (SqT.of upd_same) lds
abbrev flnN : List Str := ["well", "spec", "unit", "spot"]
theorem scFln : FnScope flnN ["well", "spec", "unit"] (defScope d_law_fallen) := ⟨rfl, rfl, rfl, by decide +kernel, rfl, by decide +kernel, by decide +kernel⟩
theorem ok_fallenN {f f1 f2 f3 f5 : Addr} {fd fd1 fd2 fd3 fd5 : FuncData} (F : Fun K "_law_fallen" "_law_fallen" d_law_fallen f fd) (hrange : mg "range" = none)
    (A1 : At P w K mg base CX0 1 "_law_draw" ["well", "many"] spDrawN f1 fd1) (A2 : At P w K mg base CX0 2 "_law_one" ["well", "some"] spOneN f2 fd2)
    (A3 : At P w K mg base CX0 1 "_law_low" ["top", "bottom"] spLowQ f3 fd3) (A5 : At P w K mg base CX0 2 "_law_by" ["one", "other"] (spTwoP K fun p q => p * q) f5 fd5) : FnOk P w K mg base CX0 3 f fd ["well", "spec", "unit"] (spFallenN K) := by
  refine F.ok scFln (fun vs H Q E h => ?_) (fun cdv A outer s H vs Q E hr h => ?_)
  · obtain ⟨_, _, _, _, _, _, rfl, _⟩ := h
    rfl
  · obtain ⟨p, t0, u, n, W, uq, rfl, hp, n1, hW, g, hu, uok, q⟩ := h
    have r1 : Room 1 _ := hr.mono (by decide)
    refine ⟨_, pss_one (ps_ret (pe_lc (own := [("spot", 3)]) (g := gName 3) (by rfl) scFln.nd (pi_range1 (by rfl) hrange (pa_cons (pe_ix ix_tup (pv 1) pe_int (fun _ _ => rfl)) pa_nil)) (blkOk_by (own := [("spot", 3)]) (N := flnN) (sc := defScope d_law_fallen) (by decide +kernel))
          (fun _ _ _ _ _ => pg_name (i := 3) scFln.nd rfl (.inl rfl)) (fun _ _ _ _ _ => pts_nil)
          (fun _ _ _ _ _ => pe_call A5.G hr rfl A5.m A5.k A5.b .nil pass0 (pa_cons (pe_call A3.G r1 rfl A3.m A3.k A3.b .nil pass0 (pa_cons (pe_call A1.G r1 rfl A1.m A1.k A1.b .nil pass0 (pa_cons (pv 0) (pa_cons pe_int pa_nil)))
            (pa_cons (pe_call A2.G hr rfl A2.m A2.k A2.b .nil pass0 (pa_cons (pv 0) (pa_cons (pe_lst (pa_cons pe_int (pa_cons pe_int (pa_cons pe_int (pa_cons pe_int pa_nil))))) pa_nil))) pa_nil))) (pa_cons (pv 2) pa_nil))))), ?_⟩
    have m8 := g.m8
    obtain ⟨rl, sl, h0, _⟩ := id hW
    refine ⟨_, rfl, t0, _, _, _, rfl, rfl, h0, at_k (by decide) rfl, _, rfl, by omega, by omega, fun D hD => ?_⟩
    have nD := hp.ne hD
    have big : ∀ {m : Int}, m.natAbs < 2 ^ 10 → m.natAbs < 2 ^ 4000 := fun {m} h => Nat.lt_of_lt_of_le h (Nat.pow_le_pow_right (by decide) (by decide))
    refine lc_range (lo := 0) (n := ((W.many : Int)).toNat) (fun i M => ∃ (vs : List Addr) (qs : List Rat), M D = some (.lst (vs.map V.ref)) ∧ All2 (PairAt K M) vs qs ∧ qs.length = i ∧ (∀ x ∈ qs, Lim 126 60 x ∧ 0 ≤ x) ∧ WellN M p (n + 2 * i) ∧ But p H M) ⟨[], [], upd_same, .nil, rfl, (fun x h => nomatch h), hp.put nD, same_but (same1 hD)⟩ ?_ ?_
    · rintro i M hi ⟨vs, qs, eD, hvs, lq, hqs, wM, bM⟩
      have im : i < 8 := by omega
      refine ⟨rfl, _, rfl, p, 16, _, rfl, wM, by omega, by decide, by decide, fun M1 d1 b1 w1 d10 d11 => ?_⟩
      refine ⟨_, rfl, (by show 4 ≤ sizeLine; decide), fun L hL => ?_⟩
      have nL := w1.ne hL
      have s1 : Same M1 (upd M1 L (.lst [.int 1, .int 1, .int 2, .int 3])) := same1 hL
      have eL : (upd M1 L (.lst [.int 1, .int 1, .int 2, .int 3]) : Hp) L = some (.lst [.int 1, .int 1, .int 2, .int 3]) := upd_same
      generalize upd M1 L (.lst [.int 1, .int 1, .int 2, .int 3]) = M2 at *
      have w2 := w1.same s1
      refine ⟨p, L, _, _, rfl, w2, by omega, eL, nL, (by show 0 < 4; decide), (by show 4 < 1000; decide), fun M3 x b3 w3 hx => ?_⟩
      obtain ⟨e, rfl, he⟩ : ∃ e : Int, x = .int e ∧ (e = 1 ∨ e = 2 ∨ e = 3) := by
        simp only [List.mem_cons, List.not_mem_nil, or_false] at hx
        rcases hx with h | h | h | h
        · exact ⟨1, h, .inl rfl⟩
        · exact ⟨1, h, .inl rfl⟩
        · exact ⟨2, h, .inr (.inl rfl)⟩
        · exact ⟨3, h, .inr (.inr rfl)⟩
      refine ⟨_, e, rfl, by omega, big (by omega), big (by omega), fun a ha => ?_⟩
      have la : Lim 6 7 ((d1 : Rat) / (e : Rat)) := by
        rcases he with h | h | h <;> subst h
        · exact lim_frac2 (n := d1.natAbs) (d := 1) (c := 6) rfl rfl rfl (by decide) (by decide) (by omega)
        · exact lim_frac2 (n := d1.natAbs) (d := 2) (c := 3) rfl rfl rfl (by decide) (by decide) (by omega)
        · exact lim_frac2 (n := d1.natAbs) (d := 3) (c := 2) rfl rfl rfl (by decide) (by decide) (by omega)
      have na : 0 ≤ ((d1 : Rat) / (e : Rat)) := frac_nn d10 (by omega)
      generalize ((d1 : Rat) / (e : Rat)) = xa at *
      have s4 : Same M3 (upd M3 a (.tup (prV xa))) := same1 ha
      have ea : (upd M3 a (.tup (prV xa)) : Hp) a = some (.tup (prV xa)) := upd_same
      have w4 := w3.same s4
      generalize upd M3 a (.tup (prV xa)) = M4 at *
      have b4 : But p M M4 := b1.trans ((same_but s1).trans (b3.trans (same_but s4)))
      have huM : PairAt K M4 u uq := (bM.trans b4).tup hp.src hu
      refine ⟨_, rfl, a, u, xa, uq, rfl, SqT.of ea, huM, small_sz la (by decide) (Nat.lt_of_lt_of_le (show 6 < 2 ^ 3 by decide) (Nat.pow_le_pow_right (by decide) (by decide))) (by decide), small_sz uok.1 (by decide) (Nat.lt_of_lt_of_le (show 21 < 2 ^ 5 by decide) (Nat.pow_le_pow_right (by decide) (by decide))) (by decide), fun r hr' => ?_⟩
      generalize hor : HO.tup (prV (xa * uq)) = orr at *
      have s5 : Same M4 (upd M4 r orr) := same1 hr'
      have er : (upd M4 r orr : Hp) r = some orr := upd_same
      have w5 := w4.same s5
      generalize upd M4 r orr = M5 at *
      subst hor
      have eD5 := s5 _ _ (b4.lstR wM.src eD)
      have kp : KeepL M5 (upd M5 D (.lst (vs.map V.ref ++ [V.ref r]))) := keep_put eD5
      have b5 : But p M M5 := b4.trans (same_but s5)
      have lx : Lim 126 60 (xa * uq) := (la.prod uok.1 (by decide) (by decide)).up (by decide)
      have nx : 0 ≤ xa * uq := Rat.mul_nonneg na (Rat.le_of_lt uok.2)
      refine ⟨_, eD5, ?_, vs ++ [r], qs ++ [xa * uq], by rw [List.map_append]; exact upd_same, (hvs.mono fun _ _ _ _ z => kp.tup ((b5.keep wM.src).tup z)).snoc (kp.tup (SqT.of er)), by rw [List.length_append, lq]; rfl, fun z hz => ?_, (w5.put nD).le (by omega), fun c o nc ec => ?_⟩
      · rw [List.length_map, hvs.len, lq]
        exact Nat.lt_of_lt_of_le im (show 8 ≤ sizeLine by decide)
      · rcases List.mem_append.mp hz with z' | z'
        · exact hqs z z'
        · rw [List.mem_singleton.mp z']
          exact ⟨lx, nx⟩
      · rw [upd_ne (ne_of_none ec hD)]
        exact b5 c o nc (bM c o nc ec)
    rintro M ⟨vs, qs, eD, hvs, lq, hqs, wM, bM⟩
    exact q M D qs bM hD (wM.le (by omega)) ⟨vs, eD, hvs⟩ ⟨by omega, fun x hx => (hqs x hx).1, fun x hx => (hqs x hx).2, by decide, Nat.lt_of_lt_of_le (show 126 < 2 ^ 7 by decide) (Nat.pow_le_pow_right (by decide) (by decide)), by decide⟩
end
end K64

namespace K64
open PySem PySem.Spec PyProof.Rows L2
/-! ### zip of three, lists and tuples in any order -/
def ItzG3 (K : PySem.W.Frag) (j k m : Bool) (a b c : Addr) : It where
  go i H := ∃ (xs ys zs : List V) (x y z : V), SqK K j H a xs ∧ SqK K k H b ys ∧ SqK K m H c zs ∧ xs[i]? = some x ∧ ys[i]? = some y ∧ zs[i]? = some z
  yld i H v H' := ∃ (t : Addr) (x y z : V), v = .ref t ∧ H t = none ∧ H' = upd H t (.tup [x, y, z]) ∧ (∀ us, SqK K j H a us → us[i]? = some x) ∧ (∀ us, SqK K k H b us → us[i]? = some y) ∧ (∀ us, SqK K m H c us → us[i]? = some z)
  stop i H := ∃ xs ys zs : List V, SqK K j H a xs ∧ SqK K k H b ys ∧ SqK K m H c zs ∧ i ≤ xs.length ∧ i ≤ ys.length ∧ i ≤ zs.length ∧ (i = xs.length ∨ i = ys.length ∨ i = zs.length)
def ZipAt3 (j k m : Bool) (a b c z TI TO i1 i2 i3 : Addr) (i : Nat) (h : Heap) : Prop :=
  IsZip h z TI TO .none ∧ IsTupOf3 h TI (.ref i1) (.ref i2) (.ref i3) ∧ (∃ u v w, IsTupOf3 h TO u v w) ∧ IterK j h i1 a i ∧ IterK k h i2 b i ∧ IterK m h i3 c i
theorem zg3_turn {P : Program} {w : World} {K : PySem.W.Frag} {elts : List Expr} {kk : Nat} {tp : Pos} {j k m : Bool} {a b c z TI TO i1 i2 i3 : Addr} (S : ZipSep3 z TI TO i1 i2 i3 [i1, a] [i2, b] [i3, c]) (n1 : a ≠ i1) (n2 : b ≠ i2) (n3 : c ≠ i3) :
    Turn P w K (.Tuple elts kk tp) (ItzG3 K j k m a b c) [z, TI, TO, i1, i2, i3] z (ZipAt3 j k m a b c z TI TO i1 i2 i3) where
  mem := List.mem_cons_self ..
  obj i h := by
    rintro ⟨e1, e2, ⟨u, v, w, e3⟩, e4, e5, e6⟩ c' hc
    obtain ⟨o4, g4, d4⟩ := e4.obj
    obtain ⟨o5, g5, d5⟩ := e5.obj
    obtain ⟨o6, g6, d6⟩ := e6.obj
    have q : c' = z ∨ c' = TI ∨ c' = TO ∨ c' = i1 ∨ c' = i2 ∨ c' = i3 := by simpa using hc
    rcases q with q | q | q | q | q | q <;> rw [q]
    · exact ⟨_, e1, fun v q => nomatch q⟩
    · exact ⟨_, e2, fun v q => nomatch q⟩
    · exact ⟨_, e3, fun v q => nomatch q⟩
    · exact ⟨o4, g4, fun v q => by rw [d4] at q; cases q⟩
    · exact ⟨o5, g5, fun v q => by rw [d5] at q; cases q⟩
    · exact ⟨o6, g6, fun v q => by rw [d6] at q; cases q⟩
  keep i h h' := by
    rintro ⟨e1, e2, ⟨u, v, w, e3⟩, e4, e5, e6⟩ f
    exact ⟨f z (by simp) _ e1, f TI (by simp) _ e2, ⟨u, v, w, f TO (by simp) _ e3⟩, e4.at_ fun o q => f i1 (by simp) o q, e5.at_ fun o q => f i2 (by simp) o q, e6.at_ fun o q => f i3 (by simp) o q⟩
  item := by
    intro X hP hw hK hc i pins s σ H E I hf st hg
    subst hP hw hK
    obtain ⟨e1, e2, ⟨u0, v0, w0, e3⟩, e4, e5, e6⟩ := st
    obtain ⟨xs, ys, zs, x, y, z', qx, qy, qz, hx, hy, hz⟩ := hg
    obtain ⟨its, rv, p, _⟩ := inv_sqK I qx
    obtain ⟨its2, rv2, p2, _⟩ := inv_sqK I qy
    obtain ⟨its3, rv3, p3, _⟩ := inv_sqK I qz
    obtain ⟨u, hu, ru⟩ := rv.get hx
    obtain ⟨u2, hu2, ru2⟩ := rv2.get hy
    obtain ⟨u3, hu3, ru3⟩ := rv3.get hz
    have l1 : i < its.toArray.size := by
      have := (List.getElem?_eq_some_iff.mp hu).1
      simpa using this
    have l2 : i < its2.toArray.size := by
      have := (List.getElem?_eq_some_iff.mp hu2).1
      simpa using this
    have l3 : i < its3.toArray.size := by
      have := (List.getElem?_eq_some_iff.mp hu3).1
      simpa using this
    have zl : z < s.heap.objs.size := Heap.lt_size e1
    have hd : X.A.in1.handled = none := I.ok.hd hc
    have zi1 : z ≠ i1 := fun q => S.zf1 (by rw [q]; simp)
    have zi2 : z ≠ i2 := fun q => S.zf2 (by rw [q]; simp)
    have zi3 : z ≠ i3 := fun q => S.zf3 (by rw [q]; simp)
    have o4 := e4.obj
    have o5 := e5.obj
    have o6 := e6.obj
    refine wpAny_pyNext_zipD3_item S (drawsK j hd i1 a n1 its.toArray) (drawsK k hd i2 b n2 its2.toArray) (drawsK m hd i3 c n3 its3.toArray) e1 e2 e3 ⟨e4, p⟩ ⟨e5, p2⟩ ⟨e6, p3⟩ l1 l2 l3 fun y1 y2 y3 h' tk hy1 hy2 hy3 zo to s1 s2 s3 hT hsz hk => ?_
    have g1 : y1 = u := by
      have hy1 : its.toArray[i]? = some y1 := hy1
      have hy1 : its[i]? = some y1 := by simpa using hy1
      rw [hu] at hy1
      exact (Option.some.inj hy1).symm
    have g2 : y2 = u2 := by
      have hy2 : its2.toArray[i]? = some y2 := hy2
      have hy2 : its2[i]? = some y2 := by simpa using hy2
      rw [hu2] at hy2
      exact (Option.some.inj hy2).symm
    have g3 : y3 = u3 := by
      have hy3 : its3.toArray[i]? = some y3 := hy3
      have hy3 : its3[i]? = some y3 := by simpa using hy3
      rw [hu3] at hy3
      exact (Option.some.inj hy3).symm
    subst g1 g2 g3
    refine ⟨_, rfl, wpAny_letOwnedTupleGo_zip (s := { s with heap := h', toks := tk }) zo fun h2 z2 sb => ?_⟩
    have t2 : h2.get? s.heap.objs.size = some { cls := .type "tuple", data := .seq #[y1, y2, y3] } := (sb.2 _ (Nat.ne_of_gt zl)).trans hT
    have nw : ObjOk X.prog X.w (upd H s.heap.objs.size (.tup [x, y, z'])) h2 s.heap.objs.size (.tup [x, y, z']) :=
      ⟨(by show 3 ≤ sizeLine; decide), [y1, y2, y3], .cons ru (.cons ru2 (.cons ru3 .nil)), ⟨_, t2, rfl, _, rfl⟩⟩
    have I2 : Inv X pins σ (upd H s.heap.objs.size (.tup [x, y, z'])) { s with heap := h2, toks := tk } := by
      refine I.turnedNew (ch := [z, TI, TO, i1, i2, i3]) (fun c' oc hb q => ?_) hf (Nat.le_refl _) nw
      have c1 : c' ≠ z := fun q => hb (by simp [q])
      exact (sb.2 c' c1).trans (hk c' oc c1 (fun q => hb (by simp [q])) (fun q => hb (by simp [q])) (fun q => hb (by simp [q])) (fun q => hb (by simp [q])) q)
    refine ⟨.ref s.heap.objs.size, _, I2, rfl, ⟨_, x, y, z', rfl, I.hok.fresh (Nat.le_refl _), rfl, fun us hq => ?_, fun us hq => ?_, fun us hq => ?_⟩, ⟨z2, ?_, ⟨y1, y2, y3, ?_⟩, ?_, ?_, ?_⟩, fun c' hcm => ?_⟩
    · rw [inv_injK I hq qx]
      exact hx
    · rw [inv_injK I hq qy]
      exact hy
    · rw [inv_injK I hq qz]
      exact hz
    · exact (sb.2 _ S.TIz).trans (hk _ _ S.TIz S.TITO S.TIi1 S.TIi2 S.TIi3 e2)
    · exact (sb.2 _ S.TOz).trans to
    · exact s1.1.at_ fun o q => (sb.2 _ (Ne.symm zi1)).trans q
    · exact s2.1.at_ fun o q => (sb.2 _ (Ne.symm zi2)).trans q
    · exact s3.1.at_ fun o q => (sb.2 _ (Ne.symm zi3)).trans q
    · have lt : c' < s.heap.objs.size := by
        have q : c' = z ∨ c' = TI ∨ c' = TO ∨ c' = i1 ∨ c' = i2 ∨ c' = i3 := by simpa using hcm
        rcases q with q | q | q | q | q | q <;> rw [q]
        · exact zl
        · exact Heap.lt_size e2
        · exact Heap.lt_size e3
        · obtain ⟨_, q, _⟩ := o4
          exact Heap.lt_size q
        · obtain ⟨_, q, _⟩ := o5
          exact Heap.lt_size q
        · obtain ⟨_, q, _⟩ := o6
          exact Heap.lt_size q
      rw [upd_ne (Nat.ne_of_lt lt)]
      exact (hf c' hcm).1
  done := by
    intro X hP hw hK hc i pins s σ H E I hf st hg
    subst hP hw hK
    obtain ⟨e1, e2, ⟨u0, v0, w0, e3⟩, e4, e5, e6⟩ := st
    obtain ⟨xs, ys, zs, qx, qy, qz, h1, h2, h3, he⟩ := hg
    obtain ⟨its, rv, p, _⟩ := inv_sqK I qx
    obtain ⟨its2, rv2, p2, _⟩ := inv_sqK I qy
    obtain ⟨its3, rv3, p3, _⟩ := inv_sqK I qz
    have a1 : its.toArray.size = xs.length := by
      have := rv.length
      simp
      omega
    have a2 : its2.toArray.size = ys.length := by
      have := rv2.length
      simp
      omega
    have a3 : its3.toArray.size = zs.length := by
      have := rv3.length
      simp
      omega
    have hd : X.A.in1.handled = none := I.ok.hd hc
    refine wpAny_pyNext_zipD3_end S (drawsK j hd i1 a n1 its.toArray) (drawsK k hd i2 b n2 its2.toArray) (drawsK m hd i3 c n3 its3.toArray) e1 e2 e3 ⟨e4, p⟩ ⟨e5, p2⟩ ⟨e6, p3⟩ (by omega) (by omega) (by omega) (by omega) fun h' tk hk => ?_
    refine ⟨rfl, I.turnedL (t' := tk) (ch := [z, TI, TO, i1, i2, i3]) (fun c' o hb q => ?_) hf⟩
    exact hk c' o (fun q => hb (by simp [q])) (fun q => hb (by simp [q])) (fun q => hb (by simp [q])) (fun q => hb (by simp [q])) (fun q => hb (by simp [q])) q
  self _ i s Q E st h := wpAny_pyIter_zip st.1 h
def iZipG3 (K : PySem.W.Frag) (j k m : Bool) (ta : TA) : TI := fun σ H R => ta σ H fun vs H1 => ∃ a b c xs ys zs, vs = [.ref a, .ref b, .ref c] ∧ SqK K j H1 a xs ∧ SqK K k H1 b ys ∧ SqK K m H1 c zs ∧ R (ItzG3 K j k m a b c) H1
theorem pi_zipG3 {X : Cx} (j k m : Bool) {e e2 e3 : Expr} {ta : TA} {p pos tp : Pos} {elts : List Expr} {kk : Nat} (hg : Gl X "zip") (hm : X.mg "zip" = none) (ha : PA X [e, e2, e3] ta)
    (hs : starEach [e, e2, e3] X.env = (false, eval e X.env) :: starEach [e2, e3] X.env := by rfl) (hpl : (backTo pos (starEach [e2, e3] X.env)).any (·.1) = false := by rfl) :
    PI X (.Tuple elts kk tp) (.Call (.Name "zip" p) [e, e2, e3] [] pos) (iZipG3 X.K j k m ta) := by
  constructor
  intro pins s σ H R I h
  refine Call_ (ld_blt I hg hm PyProof.Rows.boot_zip (PyProof.Rows.callWith_type1 (thn (ha.run pos pins s σ H _ I h) fun us s1 ⟨vs, H1, I1, r1, q1⟩ => ?_) hs hpl))
  obtain ⟨a, b, c, xs, ys, zs, ex, qx, qy, qz, q⟩ := q1
  subst ex
  rcases r1 with _ | ⟨r, rr⟩
  rcases rr with _ | ⟨r', rr⟩
  rcases rr with _ | ⟨r'', rr⟩
  cases rr
  cases r
  cases r'
  cases r''
  obtain ⟨its, rv, p1, la⟩ := inv_sqK I1 qx
  obtain ⟨its2, rv2, p2, lb⟩ := inv_sqK I1 qy
  obtain ⟨its3, rv3, p3, lc⟩ := inv_sqK I1 qz
  refine zip_begins3 (beginsK j a its.toArray) (beginsK k b its2.toArray) (beginsK m c its3.toArray) p1 p2 p3 fun h' hz hTI hTO h1 h2 h3 hsz hk => wpAny_pyIter_zip hz ?_
  have I2 : Inv X pins σ H1 { s1 with heap := h' } := I1.kept (t' := s1.toks) hk
  have S := zip_sep3 (N := s1.heap.objs.size) (fp1 := [a]) (fp2 := [b]) (fp3 := [c]) (fun c' hc => by rw [List.mem_singleton.mp hc]; exact la) (fun c' hc => by rw [List.mem_singleton.mp hc]; exact lb) (fun c' hc => by rw [List.mem_singleton.mp hc]; exact lc)
  have nb : b ≠ s1.heap.objs.size + 1 := Nat.ne_of_lt (Nat.lt_succ_of_lt lb)
  have nc : c ≠ s1.heap.objs.size + 2 := Nat.ne_of_lt (Nat.lt_succ_of_lt (Nat.lt_succ_of_lt lc))
  refine ⟨s1.heap.objs.size + 5, [s1.heap.objs.size + 5, s1.heap.objs.size + 3, s1.heap.objs.size + 4, s1.heap.objs.size, s1.heap.objs.size + 1, s1.heap.objs.size + 2], _, _, H1, rfl, I2, zg3_turn (j := j) (k := k) (m := m) S (Nat.ne_of_lt la) nb nc, ⟨hz, hTI, ⟨_, _, _, hTO⟩, .new h1, .new h2, .new h3⟩, fun c' hcm => ?_, q⟩
  have e : c' = s1.heap.objs.size + 5 ∨ c' = s1.heap.objs.size + 3 ∨ c' = s1.heap.objs.size + 4 ∨ c' = s1.heap.objs.size ∨ c' = s1.heap.objs.size + 1 ∨ c' = s1.heap.objs.size + 2 := by simpa using hcm
  have le : s1.heap.objs.size ≤ c' := by
    rcases e with z | z | z | z | z | z <;> rw [z]
    · exact Nat.le_add_right _ _
    · exact Nat.le_add_right _ _
    · exact Nat.le_add_right _ _
    · exact Nat.le_refl _
    · exact Nat.le_add_right _ _
    · exact Nat.le_add_right _ _
  exact I1.fpOk le (I1.hok.fresh le)
def YTrip (xs ys zs : Nat → Option V) : Nat → Hp → V → Hp → Prop := fun i H v H' => ∃ T x y z, v = .ref T ∧ H T = none ∧ H' = upd H T (.tup [x, y, z]) ∧ xs i = some x ∧ ys i = some y ∧ zs i = some z
theorem walk_zipG3 {K : PySem.W.Frag} {j k m : Bool} {a b c : Addr} {xs ys zs : List V} {n : Nat} (h1 : xs.length = n) (h2 : ys.length = n) (h3 : zs.length = n) : Walk (ItzG3 K j k m a b c) n (fun H => SqK K j H a xs ∧ SqK K k H b ys ∧ SqK K m H c zs) (YTrip (fun i => xs[i]?) (fun i => ys[i]?) (fun i => zs[i]?)) := by
  refine ⟨fun i H hi q => ?_, fun H q => ?_, fun i H v H' _ q y => ?_⟩
  · have i1 : i < xs.length := by omega
    have i2 : i < ys.length := by omega
    have i3 : i < zs.length := by omega
    exact ⟨xs, ys, zs, xs[i], ys[i], zs[i], q.1, q.2.1, q.2.2, by simp [i1], by simp [i2], by simp [i3]⟩
  · exact ⟨xs, ys, zs, q.1, q.2.1, q.2.2, by omega, by omega, by omega, by omega⟩
  · obtain ⟨t, x, z, z', h1, h2, h3, h4, h5, h6⟩ := y
    exact ⟨t, x, z, z', h1, h2, h3, h4 xs q.1, h5 ys q.2.1, h6 zs q.2.2⟩
end K64

namespace K64
open PySem PySem.Spec PyProof.Rows L2
/-! ### the law's own day -/
def dsAt (ds : List Int) (k : Nat) : Int := (ds[k]?).getD 0
def mineV (W : WebV) (ds : List Int) (i : Nat) : List Nat := match fromB W.beds i with
  | [a, b] => if dsAt ds a < dsAt ds b then [b, a] else [a, b]
  | l => l
theorem gQ_set {l : List Rat} {i j : Nat} {v : Rat} (h : i < l.length) : gQ (l.set i v) j = if j = i then v else gQ l j := by
  unfold gQ
  rw [List.getElem?_set]
  by_cases c : i = j
  · subst c
    rw [if_pos rfl, if_pos h, if_pos rfl]
    rfl
  · rw [if_neg c, if_neg (fun z => c z.symm)]
theorem All2.set {α β : Type} {R : α → β → Prop} {as : List α} {bs : List β} {i : Nat} {a : α} {b : β} (h : All2 R as bs) (r : R a b) : All2 R (as.set i a) (bs.set i b) := by
  refine ⟨by rw [List.length_set, List.length_set, h.len], fun j x y hx hy => ?_⟩
  rw [List.getElem?_set] at hx hy
  by_cases c : i = j
  · rw [if_pos c] at hx hy
    split at hx
    · split at hy
      · cases hx
        cases hy
        exact r
      · cases hy
    · cases hx
  · rw [if_neg c] at hx hy
    exact h.all j x y hx hy
/-- a bed of a place in the law's order, and what it bears -/
theorem mine_bear {W : WebV} (g : GoodWeb W) {ds : List Int} {rain ws bs : List Rat} (h : IsFlow W (leadsV (gapsV W ds)) rain ws bs) {i : Nat} (hi : i < W.many) {r b : Nat} (hb : (mineV W ds i)[r]? = some b) :
    b < W.beds.length ∧ sB W b = i ∧ ∃ a, (partsAt W i)[r]? = some a ∧ gQ bs b = partV (partsAt W i) (gQ ws i) a := by
  obtain ⟨ps, ep, gp⟩ := parts_at g hi
  have epa : partsAt W i = ps := by unfold partsAt; rw [ep]; rfl
  have ld := lead_is (W := W) (ds := ds) hi
  have hw := h.bear i
  rw [epa] at hw ⊢
  have two := g.two i
  have len := gp.len
  have fb := fromB_is g i
  unfold mineV at hb
  rw [fb] at hb ld
  generalize hc : (starts W).count i = n at *
  have blk : ∀ r, r < n → cntB (starts W) i + r < W.beds.length ∧ sB W (cntB (starts W) i + r) = i := fun r hr => block_sB g (by rw [hc]; exact hr)
  generalize cntB (starts W) i = c at *
  have n3 : n = 0 ∨ n = 1 ∨ n = 2 := by omega
  rcases n3 with z | z | z
  · subst z
    simp at hb
  · subst z
    match hps : ps, len with
    | [a], _ =>
      have hb : ([c] : List Nat)[r]? = some b := hb
      have r0 : r = 0 := by
        have := (List.getElem?_eq_some_iff.mp hb).1
        simp at this
        exact this
      subst r0
      have eb : c = b := by simpa using hb
      subst eb
      obtain ⟨k1, k2⟩ := blk 0 (by decide)
      refine ⟨k1, k2, a, rfl, ?_⟩
      have := hw 0 hi (by decide)
      rw [Nat.add_zero] at this
      rw [this, ld]
      rfl
  · subst z
    match hps : ps, len with
    | [a, a'], _ =>
      have ld : leadAt (leadsV (gapsV W ds)) i = decide (0 ≤ dsAt ds c - dsAt ds (c + 1)) := ld
      have hb : (if dsAt ds c < dsAt ds (c + 1) then [c + 1, c] else [c, c + 1])[r]? = some b := hb
      obtain ⟨k1, k2⟩ := blk 0 (by decide)
      obtain ⟨k3, k4⟩ := blk 1 (by decide)
      have w0 := hw 0 hi (by decide)
      have w1 := hw 1 hi (by decide)
      rw [Nat.add_zero] at w0 k1 k2
      rw [ld] at w0 w1
      by_cases d : dsAt ds c < dsAt ds (c + 1)
      · rw [if_pos d] at hb
        rw [decide_eq_false (by omega)] at w0 w1
        match r, hb with
        | 0, hb =>
          have eb : c + 1 = b := by simpa using hb
          subst eb
          exact ⟨k3, k4, a, rfl, w1⟩
        | 1, hb =>
          have eb : c = b := by simpa using hb
          subst eb
          exact ⟨k1, k2, a', rfl, w0⟩
        | r + 2, hb => simp at hb
      · rw [if_neg d] at hb
        rw [decide_eq_true (by omega)] at w0 w1
        match r, hb with
        | 0, hb =>
          have eb : c = b := by simpa using hb
          subst eb
          exact ⟨k1, k2, a, rfl, w0⟩
        | 1, hb =>
          have eb : c + 1 = b := by simpa using hb
          subst eb
          exact ⟨k3, k4, a', rfl, w1⟩
        | r + 2, hb => simp at hb
theorem mine_all {W : WebV} (g : GoodWeb W) {ds : List Int} {i k : Nat} (hk : k < W.beds.length) (hs : sB W k = i) : k ∈ mineV W ds i := by
  have m : k ∈ fromB W.beds i := by
    unfold fromB
    refine List.mem_filter.mpr ⟨List.mem_range.mpr hk, ?_⟩
    obtain ⟨_, e, es, _⟩ := sB_at hk
    rw [e]
    simp
    rw [← es]
    exact hs
  unfold mineV
  match fromB W.beds i, m with
  | [], m => exact m
  | [a], m => exact m
  | [a, b], m =>
    show k ∈ if dsAt ds a < dsAt ds b then [b, a] else [a, b]
    by_cases d : dsAt ds a < dsAt ds b
    · rw [if_pos d]
      simp at m ⊢
      omega
    · rw [if_neg d]
      exact m
  | a :: b :: c :: r, m => exact m
theorem mine_nodup {W : WebV} (g : GoodWeb W) (ds : List Int) (i : Nat) : (mineV W ds i).Nodup := by
  have nd : (fromB W.beds i).Nodup := List.Pairwise.filter _ List.nodup_range
  unfold mineV
  match fromB W.beds i, nd with
  | [], nd => exact nd
  | [a], nd => exact nd
  | [a, b], nd =>
    show (if dsAt ds a < dsAt ds b then [b, a] else [a, b]).Nodup
    by_cases d : dsAt ds a < dsAt ds b
    · rw [if_pos d]
      simp at nd ⊢
      exact fun z => nd z.symm
    · rw [if_neg d]
      exact nd
  | a :: b :: c :: r, nd => exact nd
/-- how far the law's day is -/
structure Wet (W : WebV) (rain bs : List Rat) (done : Nat → Prop) (Wt Bs : List Rat) : Prop where
  lw : Wt.length = W.many
  lb : Bs.length = W.beds.length
  in_ : ∀ k, k < W.beds.length → done k → gQ Bs k = gQ bs k
  out : ∀ k, k < W.beds.length → ¬ done k → gQ Bs k = 0
  wet : ∀ q, q < W.many → gQ Wt q = gQ rain q + sumN W.beds.length fun k => if eB W k = q then gQ Bs k else 0
theorem Wet.congr {W : WebV} {rain bs Wt Bs : List Rat} {d d' : Nat → Prop} (h : Wet W rain bs d Wt Bs) (e : ∀ k, k < W.beds.length → (d k ↔ d' k)) : Wet W rain bs d' Wt Bs :=
  ⟨h.lw, h.lb, fun k hk z => h.in_ k hk ((e k hk).mpr z), fun k hk z => h.out k hk fun y => z ((e k hk).mp y), h.wet⟩
/-- one bed more -/
theorem Wet.next {W : WebV} (g : GoodWeb W) {rain bs Wt Bs : List Rat} {d : Nat → Prop} (h : Wet W rain bs d Wt Bs) {b : Nat} (hb : b < W.beds.length) (nd : ¬ d b) :
    Wet W rain bs (fun k => d k ∨ k = b) (Wt.set (eB W b) (gQ Wt (eB W b) + gQ bs b)) (Bs.set b (gQ bs b)) := by
  have ee := (sB_lt g hb).2
  refine ⟨by rw [List.length_set, h.lw], by rw [List.length_set, h.lb], fun k hk z => ?_, fun k hk z => ?_, fun q hq => ?_⟩
  · rw [gQ_set (by rw [h.lb]; exact hb)]
    by_cases c : k = b
    · rw [if_pos c, c]
    · rw [if_neg c]
      exact h.in_ k hk (z.elim id fun y => absurd y c)
  · rw [gQ_set (by rw [h.lb]; exact hb), if_neg fun y => z (.inr y)]
    exact h.out k hk fun y => z (.inl y)
  · rw [gQ_set (by rw [h.lw]; exact ee)]
    have out := h.out b hb nd
    by_cases c : q = eB W b
    · rw [if_pos c, h.wet _ ee]
      subst c
      have hs : sumN W.beds.length (fun k => if eB W k = eB W b then gQ (Bs.set b (gQ bs b)) k else 0) = sumN W.beds.length (fun k => if eB W k = eB W b then gQ Bs k else 0) + gQ bs b := by
        refine sumN_at hb (fun k hk nk => ?_) ?_
        · rw [gQ_set (by rw [h.lb]; exact hb), if_neg nk]
        · rw [gQ_set (by rw [h.lb]; exact hb), if_pos rfl, if_pos rfl, if_pos rfl, out, Rat.zero_add]
      rw [hs, Rat.add_assoc]
    · rw [if_neg c, h.wet q hq]
      congr 1
      refine sumN_congr fun k hk => ?_
      rw [gQ_set (by rw [h.lb]; exact hb)]
      by_cases z : k = b
      · rw [if_neg (by rw [z]; exact fun y => c y.symm), if_neg (by rw [z]; exact fun y => c y.symm)]
      · rw [if_neg z]
theorem Wet.water {W : WebV} (g : GoodWeb W) {leads : List Bool} {rain ws bs Wt Bs : List Rat} {d : Nat → Prop} (h : Wet W rain bs d Wt Bs) (f : IsFlow W leads rain ws bs) {i : Nat} (hi : i < W.many) (hd : ∀ k, k < W.beds.length → sB W k < i → d k) : gQ Wt i = gQ ws i := by
  rw [h.wet i hi, f.water i hi]
  congr 1
  refine sumN_congr fun k hk => ?_
  by_cases c : eB W k = i
  · rw [if_pos c, if_pos c]
    exact h.in_ k hk (hd k hk (by have := (sB_lt g hk).1; omega))
  · rw [if_neg c, if_neg c]
theorem Wet.done {W : WebV} (g : GoodWeb W) {leads : List Bool} {rain ws bs Wt Bs : List Rat} {d : Nat → Prop} (h : Wet W rain bs d Wt Bs) (f : IsFlow W leads rain ws bs) (hd : ∀ k, k < W.beds.length → d k) : Wt = ws ∧ Bs = bs := by
  have e2 : Bs = bs := gQ_ext (by rw [h.lb, f.lb]) fun k hk => h.in_ k (by rw [h.lb] at hk; exact hk) (hd k (by rw [h.lb] at hk; exact hk))
  exact ⟨gQ_ext (by rw [h.lw, f.lw]) fun q hq => h.water g f (by rw [h.lw] at hq; exact hq) fun k hk _ => hd k hk, e2⟩
theorem Wet.sz {W : WebV} (g : GoodWeb W) {leads : List Bool} {R k0 : Nat} {rain Wt Bs : List Rat} {d : Nat → Prop} (r : RainOk W R k0 rain) (h : Wet W rain (flowV W leads rain W.many).2 d Wt Bs) {q : Nat} (hq : q < W.many) : Sz 1500 (gQ Wt q) := by
  obtain ⟨_, l2, _⟩ := flow_lim g leads r W.many (Nat.le_refl _)
  have m8 := g.m8
  have few := g.few
  have hk := r.k
  have lr : Lim (R * LL ^ W.many) (k0 + 40 * W.many) (gQ rain q) := ((r.lim _ (getD_mem (by rw [r.len]; exact hq))).mul (LLp_pos _) (LLp_le _)).up (by omega)
  have ls : Lim (R * LL ^ W.many) (k0 + 40 * W.many + 4) (sumN W.beds.length fun k => if eB W k = q then gQ Bs k else 0) := by
    refine Lim.sum (fun x hx => ?_) (by rw [List.length_map, List.length_range]; omega)
    obtain ⟨k, hkm, rfl⟩ := List.mem_map.mp hx
    have hkl := List.mem_range.mp hkm
    show Lim _ _ (if eB W k = q then gQ Bs k else 0)
    split
    · by_cases c : d k
      · rw [h.in_ k hkl c]
        refine l2 _ ?_
        unfold gQ
        exact getD_mem (by rw [flow_all g]; exact hkl)
      · rw [h.out k hkl c]
        exact lim_zero
    · exact lim_zero
  rw [h.wet q hq]
  exact (lr.add ls (n := k0 + 40 * W.many + 5) (by omega) (by omega)).sz (RLL_pos r _) (Nat.lt_trans (RLL_lt r (by omega)) (Nat.pow_lt_pow_right (by decide) (by decide))) (by omega)
theorem rat_part (am : Rat) (a S : Nat) : (((am.num * (a : Int) : Int) : Rat) / ((((am.den : Nat) : Int) * (S : Int) : Int) : Rat)) = am * (ratI a / ratI S) := by
  have fr := rat_frac am
  unfold ratI
  rw [Rat.intCast_mul, Rat.intCast_mul]
  have nd := icast_ne (show ((am.den : Nat) : Int) ≠ 0 from by have := den_pos am; omega)
  generalize hx : ((am.num : Int) : Rat) = x at *
  generalize (((am.den : Nat) : Int) : Rat) = y at *
  generalize ((a : Int) : Rat) = u at *
  generalize ((S : Int) : Rat) = v at *
  by_cases hv : v = 0
  · rw [hv]
    grind
  · grind
end K64

namespace K64
open PySem PySem.Spec PyProof.Rows L2
/-! ### the law's own day -/
def spRanked (K : PySem.W.Frag) : Sp := fun vs H Q _ => ∃ (t d : Addr) (W : WebV) (ds : List Int) (i : Nat), vs = [.ref t, .ref d, .int (i : Int)] ∧ WorldAt K H t W ∧ GoodWeb W ∧ SqT K H d (ds.map V.int) ∧ ds.length = W.beds.length ∧
  ∀ (H' : Hp) (l : Addr), Same H H' → H l = none → H' l = some (.lst ((mineV W ds i).map natV)) → Q (.ref l) H'
def spMoveL (K : PySem.W.Frag) : Sp := fun vs H Q _ => ∃ (t a : Addr) (b : Bed) (q : Rat), vs = [.ref t, .ref a] ∧ RowAt K H t b ∧ PairAt K H a q ∧ Sz 1500 b.lo ∧ Sz 1500 b.hi ∧ Sz 1500 q ∧ Q (.int (mvV b q)) H
def spDayL (K : PySem.W.Frag) : Sp := fun vs H Q _ => ∃ (t d l : Addr) (W : WebV) (ds : List Int) (rain : List Rat) (R k0 : Nat), vs = [.ref t, .ref d, .ref l] ∧ WorldAt K H t W ∧ GoodWeb W ∧ SqT K H d (ds.map V.int) ∧ ds.length = W.beds.length ∧ PairsL K H l rain ∧ RainOk W R k0 rain ∧
  ∀ (H' : Hp) (u bl e : Addr), Same H H' → H' u = some (.tup [.ref bl, .ref e]) → PairsT K H' bl (dayV W ds rain).2 → SqT K H' e ((stepV W ds rain).map V.int) → Q (.ref u) H'
section
variable {P : Program} {w : World} {K : PySem.W.Frag} {mg : Str → Option Value} {base : Heap}
abbrev rkN : List Str := ["spec", "deep", "spot", "beds", "k", "brook"]
theorem scRk : FnScope rkN ["spec", "deep", "spot"] (defScope d_law_ranked) := ⟨rfl, rfl, rfl, by decide +kernel, rfl, by decide +kernel, by decide +kernel⟩
theorem ok_ranked {f C : Addr} {fd : FuncData} (F : Fun K "_law_ranked" "_law_ranked" d_law_ranked f fd) (Y : TxtW mg C) : FnOk P w K mg base CX0 1 f fd ["spec", "deep", "spot"] (spRanked K) := by
  refine F.ok scRk (fun vs H Q E h => ?_) (fun cdv A outer s H vs Q E hr h => ?_)
  · obtain ⟨_, _, _, _, _, rfl, _⟩ := h
    rfl
  · obtain ⟨t0, d, W, ds, p, rfl, ⟨rl, sl, h0, ⟨ts, hts, hA⟩, _⟩, g, hd, ld, q⟩ := h
    refine ⟨_, pss_cons (ps_setLc (i := 3) (own := [("k", 4), ("brook", 5)]) (g := gTup K 2 (gCons (gName 4) (gCons (gName 5) gNil))) (by rfl) scRk.nd rfl rfl (sw_true rfl rfl rfl (by decide +kernel)) (pi_enum (by rfl) Y.enumerate (pa_cons (pe_ix ix_tup (pv 0) pe_int (fun _ _ => rfl)) pa_nil)) (blkOk_by (own := [("k", 4), ("brook", 5)]) (N := rkN) (sc := defScope d_law_ranked) (by decide +kernel))
        (fun _ _ _ _ _ => pg_tup (by rfl) (pgs_cons (pg_name (i := 4) scRk.nd rfl (.inl rfl)) (pgs_cons (pg_name (i := 5) scRk.nd rfl (.inl rfl)) pgs_nil)))
        (fun _ _ _ _ _ => pts_one (pt_cmpR op_eq (pe_ix (show IxR _ (rIxT K) from ix_tup) (pv 5) pe_int (fun _ _ => rfl)) (pv 2) (nomark _))) (fun _ _ _ _ _ => pv 4))
      (pss_cons (ps_if (PW.pt (pw_and (pt_cmpR op_eq (pe_callB call_len_seq (by rfl) Y.len PySem.boot_len (pa_cons (pv 3) pa_nil)) pe_int (nomark _)) (pw_and1 (pt_cmpR op_lt (pe_ix ix_tup (pv 1) (pe_ix ix_list (pv 3) pe_int (fun _ _ => rfl)) (fun _ _ => rfl)) (pe_ix ix_tup (pv 1) (pe_ix ix_list (pv 3) pe_int (fun _ _ => rfl)) (fun _ _ => rfl)) (nomark _)))))
          (pss_one (ps_ret (pe_revL (pv 3)))) pss_nil)
      (pss_one (ps_ret (pv 3)))), ?_⟩
    have few := g.few
    have lt : ts.length = W.beds.length := hA.len
    refine ⟨_, rfl, t0, _, _, _, rfl, rfl, h0, at_k (by decide) rfl, rl, _, rfl, hts, fun D hD => ?_⟩
    refine lc_it (walk_enum (K := K) (a := rl) (xs := ts.map V.ref)) (fun i N => N D = some (.lst (((List.range i).filter fun k => decide ((W.beds[k]?).map Bed.s = some p)).map natV)) ∧ Same H N) ⟨upd_same, same1 hD⟩ ?_ ?_ ?_
    · rintro i N _ ⟨_, sN⟩
      exact sN.seq hts
    · rintro i x N N' hi ⟨eD, sN⟩ ⟨T, x1, x2, rfl, hT, rfl, e1, e2⟩
      obtain rfl := Option.some.inj e1
      have e2 : (ts.map V.ref)[i]? = some x2 := e2
      rw [List.getElem?_map] at e2
      obtain ⟨t, ht, rfl⟩ := Option.map_eq_some_iff.mp e2
      have il : i < W.beds.length := by
        have := (List.getElem?_eq_some_iff.mp ht).1
        omega
      have hbi : W.beds[i]? = some W.beds[i] := List.getElem?_eq_getElem il
      have s3 : Same N (upd N T (.tup [.int (i : Nat), .ref t])) := same1 hT
      refine ⟨T, _, rfl, SqT.of upd_same, rfl, _, _, rfl, _, _, rfl, rfl, rfl, ?_⟩
      generalize upd N T (.tup [.int (i : Nat), .ref t]) = N2 at *
      obtain ⟨_, _, q1, _, _⟩ := RowAt.mono (hA.all i t _ ht hbi) (sN.trans s3)
      refine ⟨_, rfl, t, _, _, _, rfl, rfl, q1, at_k (by decide) rfl, _, rfl, rfl, _, rfl, ?_⟩
      have eD2 := s3 _ _ eD
      have sz : (((List.range i).filter fun k => decide ((W.beds[k]?).map Bed.s = some p)).map natV).length < sizeLine := by
        rw [List.length_map]
        refine Nat.lt_of_le_of_lt (List.length_filter_le _ _) ?_
        rw [List.length_range]
        exact Nat.lt_of_lt_of_le (show i < 12 by omega) (show 12 ≤ sizeLine by decide)
      refine ite2 (fun h => ?_) (fun h => ?_)
      · have h : (W.beds[i].s : Int) = (p : Int) := V.int.inj (of_decide_eq_true h)
        refine ⟨_, rfl, _, eD2, sz, ?_, fun a o ea => ?_⟩
        · rw [List.range_succ, List.filter_append, List.map_append, upd_same]
          have : (([i] : List Nat).filter fun k => decide ((W.beds[k]?).map Bed.s = some p)) = [i] := by
            rw [List.filter_cons, if_pos (by rw [hbi]; simp; omega)]
            rfl
          rw [this]
          rfl
        · rw [upd_ne (ne_of_none ea hD)]
          exact s3 _ _ (sN _ _ ea)
      · have h : ¬ (W.beds[i].s : Int) = (p : Int) := fun z => h (decide_eq_true (by rw [z]))
        refine ⟨?_, sN.trans s3⟩
        rw [List.range_succ, List.filter_append]
        have : (([i] : List Nat).filter fun k => decide ((W.beds[k]?).map Bed.s = some p)) = [] := by
          rw [List.filter_cons, if_neg (by rw [hbi]; simp; omega)]
          rfl
        rw [this, List.append_nil]
        exact eD2
    · rintro M ⟨eD, sM⟩
      rw [List.length_map, lt] at eD
      have eD : M D = some (.lst ((fromB W.beds p).map natV)) := eD
      have hdM := Same.tup sM hd
      have other : (∀ a b, fromB W.beds p = [a, b] → ¬ dsAt ds a < dsAt ds b) → mineV W ds p = fromB W.beds p := fun h => by
        unfold mineV
        match hf : fromB W.beds p with
        | [] => rfl
        | [a] => rfl
        | [a, b] => exact if_neg (h a b hf)
        | a :: b :: c :: r => rfl
      refine ⟨_, rfl, D, _, rfl, .inl (SqL.of eD), rfl, _, rfl, ?_⟩
      refine ite2 (fun h => ?_) (fun h => ?_)
      · have h : ((((fromB W.beds p).map natV).length : Nat) : Int) = 2 := V.int.inj (of_decide_eq_true h)
        rw [List.length_map] at h
        obtain ⟨x, y, hxy⟩ : ∃ x y, fromB W.beds p = [x, y] := by
          match hf : fromB W.beds p, h with
          | [x, y], _ => exact ⟨x, y, rfl⟩
          | [], h => simp at h
          | [_], h => simp at h
          | _ :: _ :: _ :: _, h => simp at h; omega
        have hx : x < ds.length := by rw [ld]; exact fromB_lt (p := p) (by rw [hxy]; simp)
        have hy : y < ds.length := by rw [ld]; exact fromB_lt (p := p) (by rw [hxy]; simp)
        have exd : dsAt ds x = ds[x] := by unfold dsAt; rw [List.getElem?_eq_getElem hx]; rfl
        have eyd : dsAt ds y = ds[y] := by unfold dsAt; rw [List.getElem?_eq_getElem hy]; rfl
        have eD' := eD
        rw [hxy] at eD
        refine ⟨_, rfl, _, rfl, D, _, _, _, rfl, rfl, SqL.of eD, at_k (by decide) rfl, d, _, _, _, rfl, rfl, hdM, atI_nat (v := .int ds[x]) (by rw [List.getElem?_map, List.getElem?_eq_getElem hx]; rfl), _, rfl, _, rfl, D, _, _, _, rfl, rfl, SqL.of eD, at_k (by decide) rfl, d, _, _, _, rfl, rfl, hdM, atI_nat (v := .int ds[y]) (by rw [List.getElem?_map, List.getElem?_eq_getElem hy]; rfl), _, _, rfl, rfl, _, rfl, ?_⟩
        refine ite2 (fun h2 => ?_) (fun h2 => ?_)
        · have h2 : ds[x] < ds[y] := of_decide_eq_true h2
          refine ⟨_, rfl, D, _, rfl, SqL.of eD, fun r hr' => ?_⟩
          have s4 : Same M (upd M r (.lst ([natV x, natV y]).reverse)) := same1 hr'
          have nr : H r = none := by
            cases c : H r with
            | none => rfl
            | some o =>
              have := sM _ _ c
              rw [hr'] at this
              cases this
          refine q _ r (sM.trans s4) nr ?_
          have e : mineV W ds p = [y, x] := by
            unfold mineV
            rw [hxy]
            exact if_pos (by rw [exd, eyd]; exact h2)
          rw [e]
          exact upd_same
        · have h2 : ¬ ds[x] < ds[y] := fun z => h2 (decide_eq_true z)
          refine ⟨_, rfl, q M D sM hD ?_⟩
          rw [other fun a b hab => by
            rw [hxy] at hab
            cases hab
            rw [exd, eyd]
            exact h2]
          exact eD'
      · refine ⟨_, rfl, q M D sM hD ?_⟩
        rw [other fun a b hab => absurd (decide_eq_true (by rw [hab]; rfl)) h]
        exact eD
abbrev mvlN : List Str := ["brook", "amount", "start", "foot", "low", "high"]
theorem scMvl : FnScope mvlN ["brook", "amount"] (defScope d_law_move) := ⟨rfl, rfl, rfl, by decide +kernel, rfl, by decide +kernel, by decide +kernel⟩
theorem ok_moveL {f f1 : Addr} {fd fd1 : FuncData} (F : Fun K "_law_move" "_law_move" d_law_move f fd) (B : TxtB mg) (A1 : At P w K mg base CX0 1 "_law_under" ["one", "other"] (spLessP K) f1 fd1) : FnOk P w K mg base CX0 2 f fd ["brook", "amount"] (spMoveL K) := by
  refine F.ok scMvl (fun vs H Q E h => ?_) (fun cdv A outer s H vs Q E hr h => ?_)
  · obtain ⟨_, _, _, _, rfl, _⟩ := h
    rfl
  · obtain ⟨t, a, b, q, rfl, ⟨x, y, h0, hx, hy⟩, ha, sl, sh, sq, kq⟩ := h
    refine ⟨_, pss_cons (ps_asg (pv 0) (pg_tup (by rfl) (pgs_cons (pg_name (i := 2) scMvl.nd rfl (.inl rfl)) (pgs_cons (pg_name (i := 3) scMvl.nd rfl (.inl rfl)) (pgs_cons (pg_name (i := 4) scMvl.nd rfl (.inl rfl)) (pgs_cons (pg_name (i := 5) scMvl.nd rfl (.inl rfl)) pgs_nil))))))
      (pss_cons (ps_if (pt_not (pt_val (pe_call A1.G hr rfl A1.m A1.k A1.b .nil pass0 (pa_cons (pv 1) (pa_cons (pv 5) pa_nil))))) (pss_one (ps_ret pe_int)) pss_nil)
      (pss_one (ps_ret (pe_op op_sub pe_int (pe_callTy call_int1 (by rfl) B.int (by decide +kernel) (pa_cons (pe_not (pe_call A1.G hr rfl A1.m A1.k A1.b .nil pass0 (pa_cons (pv 4) (pa_cons (pv 1) pa_nil)))) pa_nil)))))), ?_⟩
    refine ⟨_, rfl, t, _, rfl, h0, rfl, _, _, rfl, _, _, rfl, _, _, rfl, _, _, rfl, rfl, ?_⟩
    refine ⟨_, rfl, _, rfl, a, y, q, b.hi, rfl, ha, hy, sq, sh, _, rfl, ?_⟩
    by_cases c1 : q < b.hi
    · rw [decide_eq_true c1]
      refine iteF ?_
      refine ⟨_, rfl, _, rfl, x, a, b.lo, q, rfl, hx, ha, sl, sq, _, rfl, .inr ⟨_, rfl, _, _, rfl, rfl, ?_⟩⟩
      have e : mvV b q = 0 - (if (!decide (b.lo < q)) = true then (1 : Int) else 0) := by
        unfold mvV
        rw [if_neg (Rat.not_le.mpr c1)]
        by_cases c2 : b.lo < q
        · rw [if_pos c2, decide_eq_true c2]
          rfl
        · rw [if_neg c2, decide_eq_false c2]
          rfl
      rw [e] at kq
      exact kq
    · rw [decide_eq_false c1]
      refine iteT ?_
      have e : mvV b q = 1 := by
        unfold mvV
        rw [if_pos (Rat.not_lt.mp c1)]
      rw [e] at kq
      exact kq
end
end K64

namespace K64
open PySem PySem.Spec PyProof.Rows L2
section
variable {P : Program} {w : World} {K : PySem.W.Frag} {mg : Str → Option Value} {base : Heap}
abbrev dayN : List Str := ["spec", "deep", "fallen", "waters", "bears", "spot", "row", "rank", "k", "depth", "brook", "share"]
theorem scDayL : FnScope dayN ["spec", "deep", "fallen"] (defScope d_law_day) := ⟨rfl, rfl, rfl, by decide +kernel, rfl, by decide +kernel, by decide +kernel⟩
theorem ok_dayL {f f1 f2 f3 f4 f5 C : Addr} {fd fd1 fd2 fd3 fd4 fd5 : FuncData} (F : Fun K "_law_day" "_law_day" d_law_day f fd) (Y : TxtW mg C) (hrange : mg "range" = none) (hsum : mg "sum" = none) (hzip : mg "zip" = none)
    (A1 : At P w K mg base CX0 1 "_law_ranked" ["spec", "deep", "spot"] (spRanked K) f1 fd1) (A2 : At P w K mg base CX0 2 "_law_move" ["brook", "amount"] (spMoveL K) f2 fd2)
    (A3 : At P w K mg base CX0 1 "_law_low" ["top", "bottom"] spLowQ f3 fd3) (A4 : At P w K mg base CX0 2 "_law_plus" ["one", "other"] (spTwoP K fun p q => p + q) f4 fd4) (A5 : At P w K mg base CX0 2 "_law_by" ["one", "other"] (spTwoP K fun p q => p * q) f5 fd5) :
    FnOk P w K mg base CX0 3 f fd ["spec", "deep", "fallen"] (spDayL K) := by
  refine F.ok scDayL (fun vs H Q E h => ?_) (fun cdv A outer s H vs Q E hr h => ?_)
  · obtain ⟨_, _, _, _, _, _, _, _, rfl, _⟩ := h
    rfl
  · obtain ⟨t0, d, l, W, ds, rain, R, k0, rfl, ⟨rl, sl, h0, ⟨ts, hts, hA⟩, ⟨us, hus, hU⟩⟩, g, hd, ld, ⟨fs, hfs, hF⟩, ro, q⟩ := h
    have r1 : Room 1 _ := hr.mono (by decide)
    refine ⟨_, pss_cons (ps_set (i := 3) scDayL.nd rfl (Or.inl rfl) (pe_callTy call_list_of (by rfl) Y.list (by decide +kernel) (pa_cons (pv 2) pa_nil)))
      (pss_cons (ps_set (i := 4) scDayL.nd rfl (Or.inl rfl) (pe_op op_rep (pe_lst (pa_cons (pe_tup (pa_cons pe_int (pa_cons pe_int pa_nil))) pa_nil)) (pe_callB call_len_seq (by rfl) Y.len PySem.boot_len (pa_cons (pe_ix ix_tup (pv 0) pe_int (fun _ _ => rfl)) pa_nil))))
      (pss_cons (ps_for PassesOwn.never rfl (pi_range1 (by rfl) hrange (pa_cons (pe_ix ix_tup (pv 0) pe_int (fun _ _ => rfl)) pa_nil)) (pg_name (i := 5) scDayL.nd rfl (.inl rfl))
        (pss_cons (ps_set (i := 6) scDayL.nd rfl (Or.inl rfl) (pe_ix ix_list (pe_ix ix_tup (pv 0) pe_int (fun _ _ => rfl)) (pv 5) (fun _ _ => rfl)))
        (pss_one (ps_for PassesOwn.never rfl (pi_enum (by rfl) Y.enumerate (pa_cons (pe_call A1.G r1 rfl A1.m A1.k A1.b .nil pass0 (pa_cons (pv 0) (pa_cons (pv 1) (pa_cons (pv 5) pa_nil)))) pa_nil)) (pg_tup (by rfl) (pgs_cons (pg_name (i := 7) scDayL.nd rfl (.inl rfl)) (pgs_cons (pg_name (i := 8) scDayL.nd rfl (.inl rfl)) pgs_nil)))
          (pss_cons (ps_asg (pe_call A5.G hr rfl A5.m A5.k A5.b .nil pass0 (pa_cons (pe_ix ix_list (pv 3) (pv 5) (fun _ _ => rfl)) (pa_cons (pe_call A3.G r1 rfl A3.m A3.k A3.b .nil pass0 (pa_cons (pe_ix ix_tup (pv 6) (pv 7) (fun _ _ => rfl))
              (pa_cons (pe_callB (cr_sumT rfl) (by rfl) hsum (by decide +kernel) (pa_cons (pv 6) pa_nil)) pa_nil))) pa_nil))) (pg_sub (pv 4) (pv 8) set_list))
          (pss_one (ps_asg (pe_call A4.G hr rfl A4.m A4.k A4.b .nil pass0 (pa_cons (pe_ix ix_list (pv 3) (pe_ix ix_tup (pe_ix ix_list (pe_ix ix_tup (pv 0) pe_int (fun _ _ => rfl)) (pv 8) (fun _ _ => rfl)) pe_int (fun _ _ => rfl)) (fun _ _ => rfl)) (pa_cons (pe_ix ix_list (pv 4) (pv 8) (fun _ _ => rfl)) pa_nil)))
              (pg_sub (pv 3) (pe_ix ix_tup (pe_ix ix_list (pe_ix ix_tup (pv 0) pe_int (fun _ _ => rfl)) (pv 8) (fun _ _ => rfl)) pe_int (fun _ _ => rfl)) set_list))))))))
      (pss_one (ps_ret (pe_tup (pa_cons (pv 4) (pa_cons (pe_callTy (cr_tup (K := K) rfl) (by rfl) Y.tuple (by decide +kernel) (pa_cons
        (pe_lc (own := [("depth", 9), ("brook", 10), ("share", 11)]) (g := gTup K 3 (gCons (gName 9) (gCons (gName 10) (gCons (gName 11) gNil)))) (by rfl) scDayL.nd (pi_zipG3 true false false (by rfl) hzip (pa_cons (pv 1) (pa_cons (pe_ix ix_tup (pv 0) pe_int (fun _ _ => rfl)) (pa_cons (pv 4) pa_nil)))) (blkOk_by (own := [("depth", 9), ("brook", 10), ("share", 11)]) (N := dayN) (sc := defScope d_law_day) (by decide +kernel))
          (fun _ _ _ _ _ => pg_tup (by rfl) (pgs_cons (pg_name (i := 9) scDayL.nd rfl (.inl rfl)) (pgs_cons (pg_name (i := 10) scDayL.nd rfl (.inl rfl)) (pgs_cons (pg_name (i := 11) scDayL.nd rfl (.inl rfl)) pgs_nil)))) (fun _ _ _ _ _ => pts_nil)
          (fun _ _ _ _ _ => pe_op op_add (pv 9) (pe_call A2.G hr rfl A2.m A2.k A2.b .nil pass0 (pa_cons (pv 10) (pa_cons (pv 11) pa_nil))))) pa_nil)) pa_nil))))))), ?_⟩
    have few := g.few
    have m8 := g.m8
    have lts : ts.length = W.beds.length := hA.len
    have lus : us.length = W.many := by
      have := hU.len
      have := g.plen
      omega
    have lfs : fs.length = W.many := by
      have := hF.len
      have := ro.len
      omega
    have fl := flow_is g (leadsV (gapsV W ds)) rain
    refine ⟨_, rfl, l, _, rfl, .inl hfs, fun wl hwl => ?_⟩
    have s0 : Same H (upd H wl (.lst (fs.map V.ref))) := same1 hwl
    have eW : (upd H wl (.lst (fs.map V.ref)) : Hp) wl = some (.lst (fs.map V.ref)) := upd_same
    generalize upd H wl (.lst (fs.map V.ref)) = H0 at *
    refine ⟨(by show 2 ≤ sizeLine; decide), fun z hz => ?_⟩
    have s1 : Same H0 (upd H0 z (.tup [.int 0, .int 1])) := same1 hz
    have ez : (upd H0 z (.tup [.int 0, .int 1]) : Hp) z = some (.tup (prV 0)) := upd_same
    generalize upd H0 z (.tup [.int 0, .int 1]) = H1 at *
    refine ⟨(by show 1 ≤ sizeLine; decide), fun y hy => ?_⟩
    have s2 : Same H1 (upd H1 y (.lst [.ref z])) := same1 hy
    have ey : (upd H1 y (.lst [.ref z]) : Hp) y = some (.lst [.ref z]) := upd_same
    generalize upd H1 y (.lst [.ref z]) = H2 at *
    have s02 := s0.trans (s1.trans s2)
    refine ⟨_, rfl, t0, _, _, _, rfl, rfl, Same.tup s02 h0, at_k (by decide) rfl, rl, _, rfl, .inl (s02.seq hts), y, _, _, rfl, rfl, ey, by omega, by rw [List.length_map]; omega, ?_, fun bl hbl => ?_⟩
    · rw [List.length_map, Int.toNat_natCast]
      exact Nat.le_trans (show 1 * ts.length ≤ 12 by omega) (show 12 ≤ sizeLine by decide)
    have rep : (List.replicate ((((ts.map V.ref).length : Nat) : Int)).toNat [V.ref z]).flatten = (List.replicate W.beds.length z).map V.ref := by
      rw [Int.toNat_natCast, List.length_map, lts, List.map_replicate]
      generalize W.beds.length = n
      induction n with
      | zero => rfl
      | succ n ih => rw [List.replicate_succ, List.flatten_cons, ih, List.replicate_succ]; rfl
    rw [rep]
    have s3 : Same H2 (upd H2 bl (.lst ((List.replicate W.beds.length z).map V.ref))) := same1 hbl
    have eBl : (upd H2 bl (.lst ((List.replicate W.beds.length z).map V.ref)) : Hp) bl = some (.lst ((List.replicate W.beds.length z).map V.ref)) := upd_same
    generalize upd H2 bl (.lst ((List.replicate W.beds.length z).map V.ref)) = H3 at *
    have s13 := (s1.trans s2).trans s3
    have s03 := s0.trans s13
    have eW3 := s13 _ _ eW
    have nwb : wl ≠ bl := fun c => by
      have := s2 _ _ (s1 _ _ eW)
      rw [c, hbl] at this
      cases this
    have hbl0 : H bl = none := by
      cases c : H bl with
      | none => rfl
      | some o =>
        have := s02 _ _ c
        rw [hbl] at this
        cases this
    have wet0 : Wet W rain (flowV W (leadsV (gapsV W ds)) rain W.many).2 (fun k => sB W k < 0) rain (List.replicate W.beds.length 0) := by
      have z0 : ∀ k, gQ (List.replicate W.beds.length 0) k = 0 := fun k => by
        unfold gQ
        rw [List.getElem?_replicate]
        split <;> rfl
      refine ⟨ro.len, List.length_replicate, fun k _ c => absurd c (Nat.not_lt_zero _), fun k _ _ => z0 k, fun q _ => ?_⟩
      have : sumN W.beds.length (fun k => if eB W k = q then gQ (List.replicate W.beds.length 0) k else 0) = 0 := by
        have := sumN_more (m := 0) (n := W.beds.length) (f := fun k => if eB W k = q then gQ (List.replicate W.beds.length 0) k else 0) (Nat.zero_le _) fun k _ _ => by
          rw [z0]
          split <;> rfl
        rw [this]
        rfl
      rw [this, Rat.add_zero]
    refine ⟨_, rfl, t0, _, _, _, rfl, rfl, Same.tup s03 h0, at_k (by decide) rfl, _, rfl, by omega, by omega, ?_⟩
    refine for_range (lo := 0) (n := W.many) (fun i σ N => ∃ (v5 v6 v7 v8 : Option V) (Wt Bs : List Rat), σ = [some (.ref t0), some (.ref d), some (.ref l), some (.ref wl), some (.ref bl), v5, v6, v7, v8, none, none, none] ∧
        Wet W rain (flowV W (leadsV (gapsV W ds)) rain W.many).2 (fun k => sB W k < i) Wt Bs ∧ PairsT K N wl Wt ∧ PairsT K N bl Bs ∧ Same H N)
      ⟨none, none, none, none, rain, _, rfl, wet0, ⟨fs, eW3, hF.mono fun _ _ _ _ r => Same.tup s03 r⟩, ⟨_, eBl, by rw [List.length_replicate, List.length_replicate], fun i a b ha hb => ?_⟩, s03⟩ ?_ ?_
    · have ia : i < W.beds.length := by
        have := (List.getElem?_eq_some_iff.mp ha).1
        rw [List.length_replicate] at this
        exact this
      rw [List.getElem?_replicate, if_pos ia] at ha hb
      rw [← Option.some.inj ha, ← Option.some.inj hb]
      exact SqT.of ((s2.trans s3) _ _ ez)
    · rintro i σ N hi ⟨v5, v6, v7, v8, Wt, Bs, rfl, wet, pW, pB, sN⟩
      have iu : i < us.length := by omega
      have ip : i < W.parts.length := by rw [g.plen]; exact hi
      refine ⟨_, rfl, t0, _, _, _, rfl, rfl, Same.tup sN h0, at_k (by decide) rfl, _, rfl, sl, _, _, .ref us[i], rfl, (by rw [Int.zero_add]), sN.seq hus, atI_nat (by rw [List.getElem?_map, List.getElem?_eq_getElem iu]; rfl), ?_⟩
      refine ⟨_, rfl, _, rfl, _, rfl, t0, d, W, ds, i, by rw [Int.zero_add]; rfl, ⟨rl, sl, Same.tup sN h0, ⟨ts, sN.seq hts, hA.mono fun _ _ _ _ r => r.mono sN⟩, ⟨us, sN.seq hus, hU.mono fun _ _ _ _ r => Same.tup sN r⟩⟩, g, Same.tup sN hd, ld, fun G m9 sNG hm9 e9 => ?_⟩
      have n9w : m9 ≠ wl := fun z => by
        obtain ⟨_, e1, _⟩ := pW
        rw [← z, hm9] at e1
        cases e1
      have n9b : m9 ≠ bl := fun z => by
        obtain ⟨_, e1, _⟩ := pB
        rw [← z, hm9] at e1
        cases e1
      have pW2 := pW.mono sNG
      have pB2 := pB.mono sNG
      have sG := sN.trans sNG
      refine ⟨m9, _, rfl, SqL.of e9, ?_⟩
      refine for_it (walk_enum (K := K) (a := m9) (xs := (mineV W ds i).map natV)) (fun r σ M => ∃ (v7 v8 : Option V) (Wt Bs : List Rat), σ = [some (.ref t0), some (.ref d), some (.ref l), some (.ref wl), some (.ref bl), some (.int (0 + (i : Int))), some (.ref us[i]), v7, v8, none, none, none] ∧
              M m9 = some (.lst ((mineV W ds i).map natV)) ∧ Wet W rain (flowV W (leadsV (gapsV W ds)) rain W.many).2 (fun k => sB W k < i ∨ k ∈ (mineV W ds i).take r) Wt Bs ∧ PairsT K M wl Wt ∧ PairsT K M bl Bs ∧ Same H M)
            ⟨v7, v8, Wt, Bs, rfl, e9, wet.congr fun k _ => by rw [List.take_zero]; simp, pW2, pB2, sG⟩ ?_ ?_ ?_
      · rintro r σ M _ ⟨_, _, _, _, rfl, e, _⟩
        exact SqL.of e
      · rintro r x σ M M' hr' ⟨v7, v8, Wt, Bs, rfl, e9, wet, pW, pB, sM⟩ ⟨T, x1, x2, rfl, hT, rfl, e1, e2⟩
        obtain rfl := Option.some.inj e1
        have e2 : ((mineV W ds i).map natV)[r]? = some x2 := e2
        rw [List.getElem?_map] at e2
        obtain ⟨b, hb, rfl⟩ := Option.map_eq_some_iff.mp e2
        obtain ⟨bl', bs', a, ea, eb⟩ := mine_bear g fl hi hb
        have s4 : Same M (upd M T (.tup [.int (r : Nat), natV b])) := same1 hT
        refine ⟨T, _, rfl, SqT.of upd_same, rfl, _, _, rfl, _, _, rfl, rfl, ?_⟩
        generalize upd M T (.tup [.int (r : Nat), natV b]) = M1 at *
        have e91 := s4 _ _ e9
        have sM1 := sM.trans s4
        obtain ⟨as, eW, hAs⟩ := pW.mono s4
        obtain ⟨cs, eBl, hCs⟩ := pB.mono s4
        have las : as.length = W.many := by
          have := hAs.len
          have := wet.lw
          omega
        have lcs : cs.length = W.beds.length := by
          have := hCs.len
          have := wet.lb
          omega
        have ia : i < as.length := by omega
        have iW : i < Wt.length := by rw [wet.lw]; exact hi
        have wat : gQ Wt i = gQ (flowV W (leadsV (gapsV W ds)) rain W.many).1 i := wet.water g fl hi fun k _ hk => .inl hk
        have eam : Wt[i] = gQ Wt i := by unfold gQ; rw [List.getElem?_eq_getElem iW]; rfl
        have szam : Sz 1500 (gQ Wt i) := wet.sz g ro hi
        have pam : PairAt K M1 as[i] (gQ Wt i) := by
          rw [← eam]
          exact hAs.all i _ _ (List.getElem?_eq_getElem ia) (List.getElem?_eq_getElem iW)
        have hP : PartsAt K M1 us[i] (partsAt W i) := by
          have := hU.all i _ _ (List.getElem?_eq_getElem iu) (List.getElem?_eq_getElem ip)
          unfold partsAt
          rw [List.getElem?_eq_getElem ip]
          exact Same.tup sM1 this
        have hus1 := sM1.seq hus
        have htM1 := sM1.seq hts
        have gp := g.part i _ (List.getElem?_eq_getElem ip)
        have epa : partsAt W i = W.parts[i] := by unfold partsAt; rw [List.getElem?_eq_getElem ip]; rfl
        have amem : a ∈ W.parts[i] := by rw [← epa]; exact List.mem_of_getElem? ea
        obtain ⟨g1, g2, g3⟩ := parts_sum g rfl gp amem
        rw [← epa] at g1 g2 g3
        generalize hps : partsAt W i = ps at *
        refine ⟨_, rfl, _, rfl, wl, _, _, .ref as[i], rfl, (by rw [Int.zero_add]), SqL.of eW, atI_nat (by rw [List.getElem?_map, List.getElem?_eq_getElem ia]; rfl), ?_⟩
        refine ⟨_, rfl, _, rfl, us[i], _, _, natV a, rfl, rfl, hP, atI_nat (by rw [List.getElem?_map, ea]; rfl), ?_⟩
        refine ⟨_, rfl, us[i], ps.map (fun n : Nat => (n : Int)), rfl, (by rw [← natV_map]; exact hP), ?_⟩
        rw [sum_cast]
        refine ⟨((a : Nat) : Int), ((ps.sum : Nat) : Int), rfl, by omega, Nat.lt_of_lt_of_le (show ((a : Nat) : Int).natAbs < 2 ^ 5 by omega) (Nat.pow_le_pow_right (by decide) (by decide)), Nat.lt_of_lt_of_le (show ((ps.sum : Nat) : Int).natAbs < 2 ^ 5 by omega) (Nat.pow_le_pow_right (by decide) (by decide)), fun y hy => ?_⟩
        have szf : Sz 1500 (ratI a / ratI ps.sum) := small_sz (lim_frac (m := (a : Int)) (n := a) (d := ps.sum) (c := 1) (M := ps.sum) (k := 5) rfl (by omega) (by omega) (by decide) (by omega)) (by omega) (Nat.lt_of_lt_of_le (show ps.sum < 2 ^ 5 by omega) (Nat.pow_le_pow_right (by decide) (by decide))) (by decide)
        generalize hoy : HO.tup (prV (((a : Nat) : Int) / ((ps.sum : Nat) : Int) : Rat)) = oy at *
        have t1 : Same M1 (upd M1 y oy) := same1 hy
        have ey' : (upd M1 y oy : Hp) y = some oy := upd_same
        generalize upd M1 y oy = M2 at *
        subst hoy
        refine ⟨as[i], y, gQ Wt i, ratI a / ratI ps.sum, rfl, Same.tup t1 pam, SqT.of ey', szam, szf, fun u hu => ?_⟩
        have ebv : gQ Wt i * (ratI a / ratI ps.sum) = gQ (flowV W (leadsV (gapsV W ds)) rain W.many).2 b := by
          rw [eb, wat]
          rfl
        generalize hou : HO.tup (prV (gQ Wt i * (ratI a / ratI ps.sum))) = ou at *
        have t2 : Same M2 (upd M2 u ou) := same1 hu
        have eu : (upd M2 u ou : Hp) u = some ou := upd_same
        generalize upd M2 u ou = M3 at *
        rw [ebv] at hou
        subst hou
        have t12 := t1.trans t2
        have eB3 := t12 _ _ eBl
        have eW3' := t12 _ _ eW
        refine ⟨_, rfl, _, rfl, bl, _, _, b, rfl, rfl, eB3, ?_, ?_⟩
        · unfold ixN
          rw [if_pos (by omega), if_pos (by rw [List.length_map]; omega), Int.toNat_natCast]
        have sH4 : Same H (upd M3 bl (.lst ((cs.map V.ref).set b (V.ref u)))) := fun c o ec => by
          rw [upd_ne (ne_of_none ec hbl0)]
          exact t12 _ _ (sM1 _ _ ec)
        have kp : KeepL M3 (upd M3 bl (.lst ((cs.map V.ref).set b (V.ref u)))) := keep_put eB3
        have eB4 : (upd M3 bl (.lst ((cs.map V.ref).set b (V.ref u))) : Hp) bl = some (.lst ((cs.set b u).map V.ref)) := by rw [upd_same, List.map_set]
        have eW4 : (upd M3 bl (.lst ((cs.map V.ref).set b (V.ref u))) : Hp) wl = some (.lst (as.map V.ref)) := by rw [upd_ne nwb]; exact eW3'
        have e94 : (upd M3 bl (.lst ((cs.map V.ref).set b (V.ref u))) : Hp) m9 = some (.lst ((mineV W ds i).map natV)) := by rw [upd_ne n9b]; exact t12 _ _ e91
        have hC4 : All2 (PairAt K (upd M3 bl (.lst ((cs.map V.ref).set b (V.ref u))))) (cs.set b u) (Bs.set b (gQ (flowV W (leadsV (gapsV W ds)) rain W.many).2 b)) := All2.set (hCs.mono fun _ _ _ _ r => kp.tup (Same.tup t12 r)) (kp.tup (SqT.of eu))
        have hA4 : All2 (PairAt K (upd M3 bl (.lst ((cs.map V.ref).set b (V.ref u))))) as Wt := hAs.mono fun _ _ _ _ r => kp.tup (Same.tup t12 r)
        generalize upd M3 bl (.lst ((cs.map V.ref).set b (V.ref u))) = M4 at *
        have ht4 := sH4.seq hts
        have bt : b < ts.length := by omega
        obtain ⟨_, _, esb, eeb⟩ := sB_at bl'
        obtain ⟨_, _, q1, _, _⟩ := RowAt.mono (hA.all b ts[b] _ (List.getElem?_eq_getElem bt) (List.getElem?_eq_getElem bl')) sH4
        have el := (sB_lt g bl').2
        have nd : ¬ (sB W b < i ∨ b ∈ (mineV W ds i).take r) := fun z => by
          rcases z with z | z
          · omega
          · obtain ⟨j, hj, ej⟩ := List.mem_take_iff_getElem.mp z
            have n := mine_nodup g ds i
            have rl' := (List.getElem?_eq_some_iff.mp hb).1
            have eb' := (List.getElem?_eq_some_iff.mp hb).2
            exact List.pairwise_iff_getElem.mp n j r (by omega) rl' (by omega) (ej.trans eb'.symm)
        have nx := wet.next g bl' nd
        rw [← eeb] at q1
        generalize eB W b = eb' at *
        have ea2 : eb' < as.length := by omega
        have eW2 : eb' < Wt.length := by rw [wet.lw]; exact el
        have szx : Sz 1500 (gQ Wt eb') := wet.sz g ro el
        have ex : Wt[eb'] = gQ Wt eb' := by unfold gQ; rw [List.getElem?_eq_getElem eW2]; rfl
        have px : PairAt K M4 as[eb'] (gQ Wt eb') := by
          rw [← ex]
          exact hA4.all eb' _ _ (List.getElem?_eq_getElem ea2) (List.getElem?_eq_getElem eW2)
        have bc : b < (cs.set b u).length := by rw [List.length_set, lcs]; exact bl'
        have ec : (cs.set b u)[b]? = some u := by rw [List.getElem?_set, if_pos rfl, if_pos (by rw [lcs]; exact bl')]
        have pu : PairAt K M4 u (gQ (flowV W (leadsV (gapsV W ds)) rain W.many).2 b) := kp.tup (SqT.of eu)
        have szv : Sz 1500 (gQ (flowV W (leadsV (gapsV W ds)) rain W.many).2 b) := (flow_szB g _ ro (Nat.le_refl _)).2 _ (by unfold gQ; exact getD_mem (by rw [flow_all g]; exact bl'))
        refine ⟨_, rfl, _, rfl, t0, _, _, _, rfl, rfl, Same.tup sH4 h0, at_k (by decide) rfl, _, rfl, rl, _, _, .ref ts[b], rfl, rfl, ht4, atI_nat (by rw [List.getElem?_map, List.getElem?_eq_getElem bt]; rfl), ts[b], _, _, _, rfl, rfl, q1, at_k (by decide) rfl, wl, _, _, .ref as[eb'], rfl, rfl, SqL.of eW4, atI_nat (by rw [List.getElem?_map, List.getElem?_eq_getElem ea2]; rfl), ?_⟩
        refine ⟨_, rfl, _, rfl, bl, _, _, .ref u, rfl, rfl, SqL.of eB4, atI_nat (by rw [List.getElem?_map, ec]; rfl), as[eb'], u, _, _, rfl, px, pu, szx, szv, fun v hv => ?_⟩
        have t5 : Same M4 (upd M4 v (.tup (prV (gQ Wt eb' + gQ (flowV W (leadsV (gapsV W ds)) rain W.many).2 b)))) := same1 hv
        have ev : (upd M4 v (.tup (prV (gQ Wt eb' + gQ (flowV W (leadsV (gapsV W ds)) rain W.many).2 b))) : Hp) v = some (.tup (prV (gQ Wt eb' + gQ (flowV W (leadsV (gapsV W ds)) rain W.many).2 b))) := upd_same
        generalize upd M4 v (.tup (prV (gQ Wt eb' + gQ (flowV W (leadsV (gapsV W ds)) rain W.many).2 b))) = M5 at *
        have eW5 := t5 _ _ eW4
        have sH5 := sH4.trans t5
        refine ⟨_, rfl, _, rfl, t0, _, _, _, rfl, rfl, Same.tup sH5 h0, at_k (by decide) rfl, _, rfl, rl, _, _, .ref ts[b], rfl, rfl, t5.seq ht4, atI_nat (by rw [List.getElem?_map, List.getElem?_eq_getElem bt]; rfl), ts[b], _, _, _, rfl, rfl, Same.tup t5 q1, at_k (by decide) rfl, wl, _, _, eb', rfl, rfl, eW5, ?_, ?_⟩
        · unfold ixN
          rw [if_pos (by omega), if_pos (by rw [List.length_map]; omega), Int.toNat_natCast]
        have kp2 : KeepL M5 (upd M5 wl (.lst ((as.map V.ref).set eb' (V.ref v)))) := keep_put eW5
        refine ⟨_, _, _, _, rfl, by rw [upd_ne n9w]; exact t5 _ _ e94, nx.congr fun k hk => ?_, ⟨as.set eb' v, by rw [upd_same, List.map_set], All2.set (hA4.mono fun _ _ _ _ r => kp2.tup (Same.tup t5 r)) (kp2.tup (SqT.of ev))⟩, ⟨cs.set b u, by rw [upd_ne (Ne.symm nwb)]; exact t5 _ _ eB4, hC4.mono fun _ _ _ _ r => kp2.tup (Same.tup t5 r)⟩, fun c o ec => ?_⟩
        · have rl' := (List.getElem?_eq_some_iff.mp hb).1
          rw [List.take_succ_eq_append_getElem rl', (List.getElem?_eq_some_iff.mp hb).2]
          simp
          constructor
          · rintro ((z | z) | z)
            · exact .inl z
            · exact .inr (.inl z)
            · exact .inr (.inr z)
          · rintro (z | z | z)
            · exact .inl (.inl z)
            · exact .inl (.inr z)
            · exact .inr z
        · rw [upd_ne (ne_of_none ec hwl)]
          exact sH5 _ _ ec
      · rintro σ M ⟨v7, v8, Wt, Bs, rfl, e9, wet, pW, pB, sM⟩
        rw [List.length_map, List.take_length] at wet
        refine ⟨_, _, _, _, Wt, Bs, rfl, wet.congr fun k hk => ⟨fun z => ?_, fun z => ?_⟩, pW, pB, sM⟩
        · rcases z with z | z
          · exact Nat.lt_succ_of_lt z
          · obtain ⟨r, hr1, hr2⟩ := List.mem_iff_getElem.mp z
            obtain ⟨_, e, _⟩ := mine_bear g fl hi (r := r) (b := k) (by rw [List.getElem?_eq_getElem hr1, hr2])
            rw [e]
            exact Nat.lt_succ_self _
        · by_cases c : sB W k = i
          · exact .inr (mine_all g hk c)
          · exact .inl (by omega)
    · rintro σ N ⟨v5, v6, v7, v8, Wt, Bs, rfl, wet, pW, pB, sN⟩
      obtain ⟨e1, e2⟩ := wet.done g fl fun k hk => by have := sB_lt g hk; omega
      subst e1 e2
      obtain ⟨cs, ecs, hcs⟩ := id pB
      have lB : (dayV W ds rain).2.length = W.beds.length := flow_all g _ rain
      have hcs : All2 (PairAt K N) cs (dayV W ds rain).2 := hcs
      have lcs := hcs.len
      have szB : ∀ q ∈ (dayV W ds rain).2, Sz 1500 q := (flow_szB g _ ro (Nat.le_refl _)).2
      refine ⟨_, rfl, _, rfl, _, rfl, t0, _, _, _, rfl, rfl, Same.tup sN h0, at_k (by decide) rfl, _, rfl, d, rl, bl, _, _, _, rfl, Same.tup sN hd, sN.seq hts, SqL.of ecs, fun D hD => ?_⟩
      refine lc_it (walk_zipG3 (K := K) (j := true) (k := false) (m := false) (a := d) (b := rl) (c := bl) (xs := ds.map V.int) (ys := ts.map V.ref) (zs := cs.map V.ref) (n := W.beds.length) (by rw [List.length_map]; exact ld) (by rw [List.length_map]; exact lts) (by rw [List.length_map]; omega)) (fun i M => M D = some (.lst (((stepV W ds rain).take i).map V.int)) ∧ Same N M) ⟨upd_same, same1 hD⟩ ?_ ?_ ?_
      · rintro i M _ ⟨_, sM⟩
        exact ⟨Same.tup (sN.trans sM) hd, (sN.trans sM).seq hts, SqL.of (sM _ _ ecs)⟩
      · rintro i x M M' hi ⟨eD, sM⟩ ⟨T1, x1, x2, x3, rfl, hT, rfl, e1, e2, e3⟩
        have e1 : (ds.map V.int)[i]? = some x1 := e1
        have e2 : (ts.map V.ref)[i]? = some x2 := e2
        have e3 : (cs.map V.ref)[i]? = some x3 := e3
        have i1 : i < ds.length := by omega
        have i2 : i < ts.length := by omega
        have i3 : i < cs.length := by omega
        have i4 : i < (dayV W ds rain).2.length := by omega
        rw [List.getElem?_map, List.getElem?_eq_getElem i1] at e1
        rw [List.getElem?_map, List.getElem?_eq_getElem i2] at e2
        rw [List.getElem?_map, List.getElem?_eq_getElem i3] at e3
        obtain rfl := Option.some.inj e1
        obtain rfl := Option.some.inj e2
        obtain rfl := Option.some.inj e3
        have s3 : Same M (upd M T1 (.tup [.int ds[i], .ref ts[i], .ref cs[i]])) := same1 hT
        refine ⟨T1, _, rfl, SqT.of upd_same, rfl, _, _, rfl, _, _, rfl, _, _, rfl, rfl, rfl, ?_⟩
        generalize upd M T1 (.tup [.int ds[i], .ref ts[i], .ref cs[i]]) = M2 at *
        have s2 := sM.trans s3
        have ob := g.bed _ (List.getElem_mem hi)
        refine ⟨_, rfl, _, rfl, _, rfl, ts[i], cs[i], W.beds[i], (dayV W ds rain).2[i], rfl, RowAt.mono (hA.all i _ _ (List.getElem?_eq_getElem i2) (List.getElem?_eq_getElem hi)) (sN.trans s2), PairAt.mono (hcs.all i _ _ (List.getElem?_eq_getElem i3) (List.getElem?_eq_getElem i4)) s2, ob.slo, ob.shi, szB _ (List.getElem_mem i4), _, _, rfl, rfl, ?_⟩
        have st := step_at (bs := W.beds) (ds := ds) (qs := (dayV W ds rain).2) (k := i) (by omega) hi i4
        have i5 : i < (stepV W ds rain).length := by
          have : (stepV W ds rain)[i]? = some (ds[i] + mvV W.beds[i] (dayV W ds rain).2[i]) := st
          exact (List.getElem?_eq_some_iff.mp this).1
        have e5 : (stepV W ds rain)[i] = ds[i] + mvV W.beds[i] (dayV W ds rain).2[i] := by
          have : (stepV W ds rain)[i]? = some (ds[i] + mvV W.beds[i] (dayV W ds rain).2[i]) := st
          rw [List.getElem?_eq_getElem i5] at this
          exact Option.some.inj this
        refine ⟨_, s3 _ _ eD, ?_, ?_, fun c o ec => ?_⟩
        · rw [List.length_map, List.length_take]
          exact Nat.lt_of_le_of_lt (Nat.min_le_left _ _) (Nat.lt_of_lt_of_le (show i < 12 by omega) (show 12 ≤ sizeLine by decide))
        · rw [List.take_succ_eq_append_getElem i5, e5, List.map_append]
          exact upd_same
        · rw [upd_ne (ne_of_none ec hD)]
          exact s2 _ _ ec
      rintro M ⟨eD, sM⟩
      have lst : (stepV W ds rain).length = W.beds.length := by
        unfold stepV addV movesV
        rw [List.length_map, List.length_zip, List.length_map, List.length_zip, lB]
        omega
      rw [List.take_of_length_le (by omega)] at eD
      refine ⟨D, _, rfl, .inl ⟨SqL.of eD, fun e he => ?_⟩⟩
      have s5 : Same M (upd M e (.tup ((stepV W ds rain).map V.int))) := same1 he
      have ee : (upd M e (.tup ((stepV W ds rain).map V.int)) : Hp) e = some (.tup ((stepV W ds rain).map V.int)) := upd_same
      generalize upd M e (.tup ((stepV W ds rain).map V.int)) = M5 at *
      refine ⟨(by show 2 ≤ sizeLine; decide), fun u hu => ?_⟩
      have s6 : Same M5 (upd M5 u (.tup [.ref bl, .ref e])) := same1 hu
      have s56 := sM.trans (s5.trans s6)
      exact q _ u bl e (sN.trans s56) upd_same (PairsT.mono pB s56) (SqT.of (s6 _ _ ee))
end
end K64

namespace K64
open PySem PySem.Spec PyProof.Rows L2
/-! ### waters put together, so many times as much, all of them -/
def addQ (l m : List Rat) : List Rat := (l.zip m).map fun x => x.1 + x.2
def sclQ (c : Rat) (l : List Rat) : List Rat := l.map (· * c)
theorem add_len {l m : List Rat} (h : l.length = m.length) : (addQ l m).length = l.length := by
  unfold addQ
  rw [List.length_map, List.length_zip]
  omega
theorem gQ_add {l m : List Rat} (h : l.length = m.length) (i : Nat) : gQ (addQ l m) i = gQ l i + gQ m i := by
  unfold gQ
  by_cases c : i < l.length
  · have c2 : i < m.length := by omega
    have c3 : i < (l.zip m).length := by rw [List.length_zip]; omega
    unfold addQ
    rw [List.getElem?_map, List.getElem?_eq_getElem c, List.getElem?_eq_getElem c2, List.getElem?_eq_getElem c3, List.getElem_zip]
    rfl
  · rw [List.getElem?_eq_none (by rw [add_len h]; omega), List.getElem?_eq_none (by omega), List.getElem?_eq_none (by omega)]
    exact (Rat.add_zero 0).symm
theorem gQ_scl (c : Rat) (l : List Rat) (i : Nat) : gQ (sclQ c l) i = gQ l i * c := by
  unfold gQ sclQ
  rw [List.getElem?_map]
  cases l[i]? with
  | none => exact (Rat.zero_mul c).symm
  | some q => rfl
theorem scl_len (c : Rat) (l : List Rat) : (sclQ c l).length = l.length := List.length_map ..
theorem sumN_scl (f : Nat → Rat) (c : Rat) : ∀ n, sumN n (fun k => f k * c) = sumN n f * c
  | 0 => by rw [sumN_zero, sumN_zero, Rat.zero_mul]
  | n + 1 => by
    rw [sumN_succ, sumN_succ, sumN_scl f c n]
    grind
theorem born_map (ps : List Nat) (am : Rat) (b : Bool) : bornV ps am b = (if b = true then ps else ps.reverse).map (partV ps am) := by
  unfold bornV
  cases b with
  | true => rw [if_pos rfl, if_pos rfl]
  | false => rw [if_neg Bool.false_ne_true, if_neg Bool.false_ne_true, List.map_reverse]
theorem gQ_map (f : Nat → Rat) (l : List Nat) (r : Nat) : gQ (l.map f) r = ((l[r]?).map f).getD 0 := by
  unfold gQ
  rw [List.getElem?_map]
theorem born_add (ps : List Nat) (a c : Rat) (b : Bool) (r : Nat) : gQ (bornV ps (a + c) b) r = gQ (bornV ps a b) r + gQ (bornV ps c b) r := by
  rw [born_map, born_map, born_map, gQ_map, gQ_map, gQ_map]
  cases (if b = true then ps else ps.reverse)[r]? with
  | none => exact (Rat.add_zero 0).symm
  | some x =>
    show partV ps (a + c) x = partV ps a x + partV ps c x
    unfold partV
    grind
theorem born_scl (ps : List Nat) (a c : Rat) (b : Bool) (r : Nat) : gQ (bornV ps (a * c) b) r = gQ (bornV ps a b) r * c := by
  rw [born_map, born_map, gQ_map, gQ_map]
  cases (if b = true then ps else ps.reverse)[r]? with
  | none => exact (Rat.zero_mul c).symm
  | some x =>
    show partV ps (a * c) x = partV ps a x * c
    unfold partV
    grind
theorem IsFlow.add {W : WebV} {leads : List Bool} {r1 r2 w1 w2 b1 b2 : List Rat} (h1 : IsFlow W leads r1 w1 b1) (h2 : IsFlow W leads r2 w2 b2) (lr : r1.length = r2.length) : IsFlow W leads (addQ r1 r2) (addQ w1 w2) (addQ b1 b2) := by
  have lw : w1.length = w2.length := by rw [h1.lw, h2.lw]
  have lb : b1.length = b2.length := by rw [h1.lb, h2.lb]
  refine ⟨by rw [add_len lw, h1.lw], by rw [add_len lb, h1.lb], fun p hp => ?_, fun p r hp hr => ?_⟩
  · rw [gQ_add lw, gQ_add lr, h1.water p hp, h2.water p hp]
    have : sumN W.beds.length (fun k => if eB W k = p then gQ (addQ b1 b2) k else 0) = sumN W.beds.length (fun k => if eB W k = p then gQ b1 k else 0) + sumN W.beds.length (fun k => if eB W k = p then gQ b2 k else 0) := by
      rw [← sumN_add]
      refine sumN_congr fun k _ => ?_
      split
      · exact gQ_add lb k
      · exact (Rat.add_zero 0).symm
    rw [this]
    grind
  · rw [gQ_add lb, gQ_add lw, born_add, h1.bear p r hp hr, h2.bear p r hp hr]
theorem IsFlow.scl {W : WebV} {leads : List Bool} {r1 w1 b1 : List Rat} (h1 : IsFlow W leads r1 w1 b1) (c : Rat) : IsFlow W leads (sclQ c r1) (sclQ c w1) (sclQ c b1) := by
  refine ⟨by rw [scl_len, h1.lw], by rw [scl_len, h1.lb], fun p hp => ?_, fun p r hp hr => ?_⟩
  · rw [gQ_scl, gQ_scl, h1.water p hp]
    have : sumN W.beds.length (fun k => if eB W k = p then gQ (sclQ c b1) k else 0) = sumN W.beds.length (fun k => if eB W k = p then gQ b1 k else 0) * c := by
      rw [← sumN_scl]
      refine sumN_congr fun k _ => ?_
      split
      · exact gQ_scl c b1 k
      · exact (Rat.zero_mul c).symm
    rw [this]
    grind
  · rw [gQ_scl, gQ_scl, born_scl, h1.bear p r hp hr]
theorem day_add {W : WebV} (g : GoodWeb W) (ds : List Int) {r1 r2 : List Rat} (lr : r1.length = r2.length) : (dayV W ds (addQ r1 r2)).1 = addQ (dayV W ds r1).1 (dayV W ds r2).1 ∧ (dayV W ds (addQ r1 r2)).2 = addQ (dayV W ds r1).2 (dayV W ds r2).2 :=
  flow_one g (day_is g ds _) ((day_is g ds r1).add (day_is g ds r2) lr)
theorem day_scl {W : WebV} (g : GoodWeb W) (ds : List Int) (r1 : List Rat) (c : Rat) : (dayV W ds (sclQ c r1)).1 = sclQ c (dayV W ds r1).1 ∧ (dayV W ds (sclQ c r1)).2 = sclQ c (dayV W ds r1).2 :=
  flow_one g (day_is g ds _) ((day_is g ds r1).scl c)
end K64

namespace K64
open PySem PySem.Spec PyProof.Rows L2
/-! ### stretches of amounts: mathematics -/
structure Stre where
  lo : Rat
  hl : Bool
  hi : Option Rat
  hh : Bool
def lowIn (lo : Rat) (hl : Bool) (a : Rat) : Prop := lo < a ∨ (a = lo ∧ hl = true)
def highIn (hi : Option Rat) (hh : Bool) (a : Rat) : Prop := ∀ h, hi = some h → a < h ∨ (a = h ∧ hh = true)
def inS (s : Stre) (a : Rat) : Prop := lowIn s.lo s.hl a ∧ highIn s.hi s.hh a
def okS (s : Stre) : Prop := ∀ h, s.hi = some h → s.lo < h ∨ (s.lo = h ∧ s.hl = true ∧ s.hh = true)
def inO (o : Option Stre) (a : Rat) : Prop := ∃ s, o = some s ∧ inS s a
def badS (lo : Rat) (hl : Bool) (h : Rat) (hh : Bool) : Bool := decide (h < lo) || (decide (h = lo) && !(hl && hh))
def streV (lo : Rat) (hl : Bool) (hi : Option Rat) (hh : Bool) : Option Stre := match hi with
  | none => some ⟨lo, hl, none, hh⟩
  | some h => if badS lo hl h hh = true then none else some ⟨lo, hl, some h, hh⟩
theorem bad_iff {lo : Rat} {hl : Bool} {h : Rat} {hh : Bool} : badS lo hl h hh = true ↔ h < lo ∨ (h = lo ∧ ¬ (hl = true ∧ hh = true)) := by
  unfold badS
  rw [Bool.or_eq_true, Bool.and_eq_true, decide_eq_true_iff, decide_eq_true_iff, Bool.not_eq_true', ← Bool.not_eq_true, Bool.and_eq_true]
theorem bad_out {lo : Rat} {hl : Bool} {h : Rat} {hh : Bool} {a : Rat} (b : badS lo hl h hh = true) (l : lowIn lo hl a) (u : highIn (some h) hh a) : False := by
  have u := u h rfl
  rcases bad_iff.mp b with b | ⟨b, n⟩
  · rcases l with l | ⟨l, _⟩ <;> rcases u with u | ⟨u, _⟩ <;> grind
  · rcases l with l | ⟨l, l2⟩ <;> rcases u with u | ⟨u, u2⟩
    · grind
    · grind
    · grind
    · exact n ⟨l2, u2⟩
theorem stre_in {lo : Rat} {hl : Bool} {hi : Option Rat} {hh : Bool} {a : Rat} : inO (streV lo hl hi hh) a ↔ lowIn lo hl a ∧ highIn hi hh a := by
  unfold streV
  cases hi with
  | none => exact ⟨fun ⟨s, e, h⟩ => by obtain rfl := Option.some.inj e; exact h, fun h => ⟨_, rfl, h⟩⟩
  | some h =>
    show inO (if badS lo hl h hh = true then none else some ⟨lo, hl, some h, hh⟩) a ↔ _
    split
    · rename_i b
      exact ⟨(fun ⟨_, e, _⟩ => nomatch e), fun ⟨x, y⟩ => (bad_out b x y).elim⟩
    · exact ⟨fun ⟨s, e, h⟩ => by obtain rfl := Option.some.inj e; exact h, fun h => ⟨_, rfl, h⟩⟩
theorem stre_ok {lo : Rat} {hl : Bool} {hi : Option Rat} {hh : Bool} {s : Stre} (e : streV lo hl hi hh = some s) : okS s ∧ s.lo = lo ∧ s.hi = hi := by
  unfold streV at e
  cases hi with
  | none =>
    obtain rfl := Option.some.inj e
    exact ⟨(fun _ z => nomatch z), rfl, rfl⟩
  | some h =>
    have e : (if badS lo hl h hh = true then none else some (Stre.mk lo hl (some h) hh)) = some s := e
    split at e
    · cases e
    · rename_i b
      obtain rfl := Option.some.inj e
      refine ⟨fun h' e' => ?_, rfl, rfl⟩
      obtain rfl := Option.some.inj e'
      have b : ¬ (h < lo ∨ (h = lo ∧ ¬ (hl = true ∧ hh = true))) := fun z => b (bad_iff.mpr z)
      by_cases c : lo < h
      · exact .inl c
      · have e3 : h = lo := by
          have : ¬ h < lo := fun z => b (.inl z)
          grind
        by_cases d : hl = true ∧ hh = true
        · exact .inr ⟨e3.symm, d.1, d.2⟩
        · exact absurd (.inr ⟨e3, d⟩) b
/-- what of a stretch lies above -/
def aboveV (s : Stre) (x : Rat) (b : Bool) : Option Stre := if s.lo < x then streV x b s.hi s.hh else streV s.lo (s.hl && (b || !decide (s.lo = x))) s.hi s.hh
def belowV (s : Stre) (x : Rat) (b : Bool) : Option Stre := match s.hi with
  | none => streV s.lo s.hl (some x) b
  | some h => if x < h then streV s.lo s.hl (some x) b else streV s.lo s.hl (some h) (s.hh && (b || !decide (h = x)))
theorem above_in {s : Stre} {x : Rat} {b : Bool} {a : Rat} : inO (aboveV s x b) a ↔ inS s a ∧ lowIn x b a := by
  unfold aboveV inS
  split
  · rename_i lt
    rw [stre_in]
    constructor
    · rintro ⟨l, h⟩
      refine ⟨⟨.inl ?_, h⟩, l⟩
      rcases l with l | ⟨l, _⟩ <;> grind
    · rintro ⟨⟨_, h⟩, l⟩
      exact ⟨l, h⟩
  · rename_i ge
    rw [stre_in]
    constructor
    · rintro ⟨l, h⟩
      rcases l with l | ⟨l, l2⟩
      · refine ⟨⟨.inl l, h⟩, .inl ?_⟩
        grind
      · rw [Bool.and_eq_true, Bool.or_eq_true] at l2
        obtain ⟨l2, l3⟩ := l2
        refine ⟨⟨.inr ⟨l, l2⟩, h⟩, ?_⟩
        rcases l3 with l3 | l3
        · by_cases c : x < a
          · exact .inl c
          · exact .inr ⟨by grind, l3⟩
        · have l3 : ¬ s.lo = x := fun z => by rw [decide_eq_true z] at l3; cases l3
          exact .inl (by grind)
    · rintro ⟨⟨l, h⟩, l'⟩
      refine ⟨?_, h⟩
      rcases l with l | ⟨l, l2⟩
      · exact .inl l
      · refine .inr ⟨l, ?_⟩
        rw [Bool.and_eq_true, Bool.or_eq_true]
        refine ⟨l2, ?_⟩
        rcases l' with l' | ⟨_, l'⟩
        · refine .inr ?_
          rw [decide_eq_false (show ¬ s.lo = x by grind)]
          rfl
        · exact .inl l'
theorem below_in {s : Stre} {x : Rat} {b : Bool} {a : Rat} : inO (belowV s x b) a ↔ inS s a ∧ highIn (some x) b a := by
  unfold belowV inS
  cases eh : s.hi with
  | none =>
    show inO (streV s.lo s.hl (some x) b) a ↔ _
    rw [stre_in]
    exact ⟨fun ⟨l, h⟩ => ⟨⟨l, fun _ z => nomatch z⟩, h⟩, fun ⟨⟨l, _⟩, h⟩ => ⟨l, h⟩⟩
  | some h0 =>
    show inO (if x < h0 then streV s.lo s.hl (some x) b else streV s.lo s.hl (some h0) (s.hh && (b || !decide (h0 = x)))) a ↔ _
    split
    · rename_i lt
      rw [stre_in]
      constructor
      · rintro ⟨l, h⟩
        refine ⟨⟨l, fun h' e => ?_⟩, h⟩
        obtain rfl := Option.some.inj e
        rcases h x rfl with h | ⟨h, _⟩ <;> exact .inl (by grind)
      · rintro ⟨⟨l, _⟩, h⟩
        exact ⟨l, h⟩
    · rename_i ge
      rw [stre_in]
      constructor
      · rintro ⟨l, h⟩
        rcases h h0 rfl with h | ⟨h, h2⟩
        · refine ⟨⟨l, fun h' e => ?_⟩, fun x' e => ?_⟩
          · obtain rfl := Option.some.inj e
            exact .inl h
          · obtain rfl := Option.some.inj e
            exact .inl (by grind)
        · rw [Bool.and_eq_true, Bool.or_eq_true] at h2
          obtain ⟨h2, h3⟩ := h2
          refine ⟨⟨l, fun h' e => ?_⟩, fun x' e => ?_⟩
          · obtain rfl := Option.some.inj e
            exact .inr ⟨h, h2⟩
          · obtain rfl := Option.some.inj e
            rcases h3 with h3 | h3
            · by_cases c : a < x
              · exact .inl c
              · exact .inr ⟨by grind, h3⟩
            · have h3 : ¬ h0 = x := fun z => by rw [decide_eq_true z] at h3; cases h3
              exact .inl (by grind)
      · rintro ⟨⟨l, h⟩, h'⟩
        refine ⟨l, fun h1 e => ?_⟩
        obtain rfl := Option.some.inj e
        rcases h h0 rfl with h | ⟨h, h2⟩
        · exact .inl h
        · refine .inr ⟨h, ?_⟩
          rw [Bool.and_eq_true, Bool.or_eq_true]
          refine ⟨h2, ?_⟩
          rcases h' x rfl with h' | ⟨_, h'⟩
          · refine .inr ?_
            rw [decide_eq_false (show ¬ h0 = x by grind)]
            rfl
          · exact .inl h'
theorem div_lt {x a f : Rat} (hf : 0 < f) : x / f < a ↔ x < a * f := by
  rw [← Rat.mul_lt_mul_right hf (a := x / f), Rat.div_mul_cancel (by grind)]
theorem lt_div {x a f : Rat} (hf : 0 < f) : a < x / f ↔ a * f < x := by
  rw [← Rat.mul_lt_mul_right hf (b := x / f), Rat.div_mul_cancel (by grind)]
theorem eq_div {x a f : Rat} (hf : 0 < f) : a = x / f ↔ a * f = x := by
  constructor
  · rintro rfl
    exact Rat.div_mul_cancel (by grind)
  · rintro rfl
    exact (Rat.mul_div_cancel (by grind)).symm
/-- what of a stretch moves a bed so -/
def movingV (s : Stre) (b : Bed) (f : Rat) (mv : Int) : Option Stre :=
  if f = 0 then (if mvV b f = mv then some s else none)
  else if mv = 1 then aboveV s (b.hi / f) true
  else if mv = -1 then belowV s (b.lo / f) true
  else if mv = 0 then (aboveV s (b.lo / f) false).bind fun t => belowV t (b.hi / f) false
  else none
theorem in_bind {o : Option Stre} {g : Stre → Option Stre} {q : Rat → Prop} {a : Rat} (h : ∀ s, inO (g s) a ↔ inS s a ∧ q a) : inO (o.bind g) a ↔ inO o a ∧ q a := by
  cases o with
  | none => exact ⟨(fun ⟨_, e, _⟩ => nomatch e), (fun ⟨⟨_, e, _⟩, _⟩ => nomatch e)⟩
  | some s => exact (h s).trans ⟨fun ⟨x, y⟩ => ⟨⟨s, rfl, x⟩, y⟩, fun ⟨⟨_, e, x⟩, y⟩ => ⟨by obtain rfl := Option.some.inj e; exact x, y⟩⟩
theorem moving_in {s : Stre} {b : Bed} {f : Rat} {mv : Int} {a : Rat} (f0 : 0 ≤ f) (lt : b.lo < b.hi) : inO (movingV s b f mv) a ↔ inS s a ∧ mvV b (a * f) = mv := by
  unfold movingV
  by_cases z : f = 0
  · rw [if_pos z, z, show a * 0 = (0 : Rat) by grind]
    split
    · rename_i e
      exact ⟨fun ⟨t, e1, h⟩ => ⟨by obtain rfl := Option.some.inj e1; exact h, e⟩, fun ⟨h, _⟩ => ⟨s, rfl, h⟩⟩
    · rename_i e
      exact ⟨(fun ⟨_, e1, _⟩ => nomatch e1), fun ⟨_, h⟩ => absurd h e⟩
  · rw [if_neg z]
    have fp : 0 < f := by grind
    have m1 : mvV b (a * f) = 1 ↔ b.hi ≤ a * f := by
      unfold mvV
      split
      · simp_all
      · split <;> simp_all
    have m0 : mvV b (a * f) = 0 ↔ ¬ b.hi ≤ a * f ∧ b.lo < a * f := by
      unfold mvV
      split
      · simp_all
      · split <;> simp_all
    have m2 : mvV b (a * f) = -1 ↔ ¬ b.hi ≤ a * f ∧ ¬ b.lo < a * f := by
      unfold mvV
      split
      · simp_all
      · split <;> simp_all
    by_cases c1 : mv = 1
    · rw [if_pos c1, c1, above_in, m1]
      refine and_congr_right fun _ => ?_
      unfold lowIn
      rw [div_lt fp, eq_div fp]
      constructor
      · rintro (h | ⟨h, _⟩) <;> grind
      · intro h
        by_cases d : b.hi < a * f
        · exact .inl d
        · exact .inr ⟨by grind, rfl⟩
    rw [if_neg c1]
    by_cases c2 : mv = -1
    · rw [if_pos c2, c2, below_in, m2]
      refine and_congr_right fun _ => ?_
      constructor
      · intro h
        have h := h _ rfl
        rw [lt_div fp, eq_div fp] at h
        rcases h with h | ⟨h, _⟩ <;> exact ⟨by grind, by grind⟩
      · rintro ⟨h1, h2⟩ x e
        obtain rfl := Option.some.inj e
        rw [lt_div fp, eq_div fp]
        by_cases d : a * f < b.lo
        · exact .inl d
        · exact .inr ⟨by grind, rfl⟩
    rw [if_neg c2]
    by_cases c3 : mv = 0
    · rw [if_pos c3, c3, in_bind (q := fun a => highIn (some (b.hi / f)) false a) fun t => below_in, above_in, m0, and_assoc]
      refine and_congr_right fun _ => ?_
      unfold lowIn
      rw [div_lt fp, eq_div fp]
      constructor
      · rintro ⟨h1, h2⟩
        have h2 := h2 _ rfl
        rw [lt_div fp] at h2
        rcases h1 with h1 | ⟨_, h1⟩
        · rcases h2 with h2 | ⟨_, h2⟩
          · exact ⟨by grind, h1⟩
          · cases h2
        · cases h1
      · rintro ⟨h1, h2⟩
        refine ⟨.inl h2, fun x e => .inl ?_⟩
        obtain rfl := Option.some.inj e
        rw [lt_div fp]
        grind
    rw [if_neg c3]
    refine ⟨(fun ⟨_, e, _⟩ => nomatch e), fun ⟨_, h⟩ => ?_⟩
    have : mvV b (a * f) = 1 ∨ mvV b (a * f) = 0 ∨ mvV b (a * f) = -1 := by
      unfold mvV
      split
      · exact .inl rfl
      · split
        · exact .inr (.inl rfl)
        · exact .inr (.inr rfl)
    omega
/-- the ends of what is cut are ends from before, or what it is cut by -/
theorem above_ends {s t : Stre} {x : Rat} {b : Bool} {p : Rat → Prop} (e : aboveV s x b = some t) (h1 : p s.lo) (h2 : ∀ h, s.hi = some h → p h) (h3 : s.lo < x → p x) : p t.lo ∧ (∀ h, t.hi = some h → p h) ∧ okS t := by
  unfold aboveV at e
  split at e
  · rename_i lt
    obtain ⟨k, e1, e2⟩ := stre_ok e
    exact ⟨by rw [e1]; exact h3 lt, by rw [e2]; exact h2, k⟩
  · obtain ⟨k, e1, e2⟩ := stre_ok e
    exact ⟨by rw [e1]; exact h1, by rw [e2]; exact h2, k⟩
theorem below_ends {s t : Stre} {x : Rat} {b : Bool} {p : Rat → Prop} (e : belowV s x b = some t) (h1 : p s.lo) (h2 : ∀ h, s.hi = some h → p h) (h3 : s.lo ≤ x → p x) : p t.lo ∧ (∀ h, t.hi = some h → p h) ∧ okS t := by
  have le : ∀ {h : Rat}, t.hi = some h → okS t → t.lo = s.lo → s.lo ≤ h := fun {h} e k l => by
    have := k h e
    rw [l] at this
    rcases this with z | ⟨z, _⟩ <;> grind
  have one : ∀ {h' : Rat} {bb : Bool}, streV s.lo s.hl (some h') bb = some t → (s.lo ≤ h' → p h') → p t.lo ∧ (∀ h, t.hi = some h → p h) ∧ okS t := fun {h' bb} e g => by
    obtain ⟨k, e1, e2⟩ := stre_ok e
    refine ⟨by rw [e1]; exact h1, fun h eh => ?_, k⟩
    have := le eh k e1
    rw [e2] at eh
    obtain rfl := Option.some.inj eh
    exact g this
  unfold belowV at e
  cases eh : s.hi with
  | none =>
    rw [eh] at e
    exact one e h3
  | some h0 =>
    rw [eh] at e
    have e : (if x < h0 then streV s.lo s.hl (some x) b else streV s.lo s.hl (some h0) (s.hh && (b || !decide (h0 = x)))) = some t := e
    split at e
    · exact one e h3
    · exact one e fun _ => h2 h0 eh
end K64

namespace K64
open PySem PySem.Spec PyProof.Rows L2
/-! ### which amounts at a place lead there: mathematics -/
def samplesV : List Rat → List Rat
  | [] => []
  | [z] => [z, z + 1]
  | x :: y :: r => x :: ((x + y) * (1 / 2)) :: samplesV (y :: r)
theorem half_between {x y : Rat} (h : x < y) : x < (x + y) * (1 / 2) ∧ (x + y) * (1 / 2) < y := by
  constructor <;> grind
theorem sample_in : ∀ {pts : List Rat} {s : Stre}, pts.Pairwise (· < ·) → s.lo ∈ pts → (∀ h, s.hi = some h → h ∈ pts) → okS s → ∃ q ∈ samplesV pts, inS s q
  | [], _, _, h, _, _ => nomatch h
  | [z], s, _, hl, hh, ok => by
    have e : s.lo = z := List.mem_singleton.mp hl
    cases c : s.hi with
    | none => exact ⟨z + 1, by simp [samplesV], .inl (by grind), fun h z => by rw [c] at z; cases z⟩
    | some h =>
      have e2 : h = z := List.mem_singleton.mp (hh h c)
      rcases ok h c with k | ⟨_, k1, k2⟩
      · grind
      · refine ⟨z, by simp [samplesV], .inr ⟨e.symm, k1⟩, fun h' e' => ?_⟩
        rw [c] at e'
        obtain rfl := Option.some.inj e'
        exact .inr ⟨e2.symm, k2⟩
  | x :: y :: r, s, pw, hl, hh, ok => by
    have pw2 := (List.pairwise_cons.mp pw).2
    have gt := (List.pairwise_cons.mp pw).1
    have xy := gt y (List.mem_cons_self ..)
    have mid := half_between xy
    have up : ∀ {q}, q ∈ y :: r → y ≤ q := fun {q} hq => by
      rcases List.mem_cons.mp hq with z | z
      · rw [z]
        exact Rat.le_refl
      · exact Rat.le_of_lt ((List.pairwise_cons.mp pw2).1 q z)
    rcases List.mem_cons.mp hl with e | e
    · by_cases c : s.hi = some x
      · rcases ok x c with k | ⟨_, k1, k2⟩
        · grind
        · refine ⟨x, List.mem_cons_self .., .inr ⟨e.symm, k1⟩, fun h' e' => ?_⟩
          rw [c] at e'
          obtain rfl := Option.some.inj e'
          exact .inr ⟨rfl, k2⟩
      · refine ⟨(x + y) * (1 / 2), List.mem_cons_of_mem _ (List.mem_cons_self ..), .inl (by rw [e]; exact mid.1), fun h' e' => .inl ?_⟩
        rcases List.mem_cons.mp (hh h' e') with z | z
        · rw [z] at e'
          exact absurd e' c
        · have := up z
          grind
    · have lx := gt _ e
      obtain ⟨q, hq, hin⟩ := sample_in pw2 e (fun h' e' => by
        rcases List.mem_cons.mp (hh h' e') with z | z
        · rcases ok h' e' with k | ⟨k, _⟩ <;> grind
        · exact z) ok
      exact ⟨q, List.mem_cons_of_mem _ (List.mem_cons_of_mem _ hq), hin⟩
/-- all amounts, cut by what each bed asks -/
def allS : Stre := ⟨0, true, none, false⟩
theorem all_in {a : Rat} : inS allS a ↔ 0 ≤ a := by
  unfold inS lowIn highIn allS
  constructor
  · rintro ⟨h | ⟨h, _⟩, _⟩ <;> grind
  · intro h
    refine ⟨?_, fun _ z => nomatch z⟩
    by_cases c : 0 < a
    · exact .inl c
    · exact .inr ⟨by grind, rfl⟩
def amtV : List (Bed × Rat × Int) → Stre → Option Stre
  | [], s => some s
  | x :: r, s => (movingV s x.1 x.2.1 x.2.2).bind (amtV r)
theorem amt_in : ∀ {l : List (Bed × Rat × Int)} {s : Stre} {a : Rat}, (∀ x ∈ l, 0 ≤ x.2.1 ∧ x.1.lo < x.1.hi) → (inO (amtV l s) a ↔ inS s a ∧ ∀ x ∈ l, mvV x.1 (a * x.2.1) = x.2.2)
  | [], s, a, _ => ⟨fun ⟨t, e, h⟩ => ⟨by obtain rfl := Option.some.inj e; exact h, fun _ z => nomatch z⟩, fun ⟨h, _⟩ => ⟨s, rfl, h⟩⟩
  | x :: r, s, a, g => by
    have gx := g x (List.mem_cons_self ..)
    show inO ((movingV s x.1 x.2.1 x.2.2).bind (amtV r)) a ↔ _
    rw [in_bind (q := fun a => ∀ y ∈ r, mvV y.1 (a * y.2.1) = y.2.2) fun t => amt_in fun y hy => g y (List.mem_cons_of_mem _ hy), moving_in gx.1 gx.2, and_assoc]
    refine and_congr_right fun _ => ?_
    constructor
    · rintro ⟨h1, h2⟩ y hy
      rcases List.mem_cons.mp hy with z | z
      · rw [z]
        exact h1
      · exact h2 y z
    · intro h
      exact ⟨h x (List.mem_cons_self ..), fun y hy => h y (List.mem_cons_of_mem _ hy)⟩
theorem amt_ends {p : Rat → Prop} : ∀ {l : List (Bed × Rat × Int)} {s t : Stre}, (∀ x ∈ l, 0 < x.2.1 → (0 ≤ x.1.lo / x.2.1 → p (x.1.lo / x.2.1)) ∧ (0 ≤ x.1.hi / x.2.1 → p (x.1.hi / x.2.1))) → (∀ x ∈ l, 0 ≤ x.2.1) → amtV l s = some t → 0 ≤ s.lo → p s.lo → (∀ h, s.hi = some h → p h) → okS s → 0 ≤ t.lo ∧ p t.lo ∧ (∀ h, t.hi = some h → p h) ∧ okS t
  | [], s, t, _, _, e, h0, h1, h2, k => by
    obtain rfl := Option.some.inj e
    exact ⟨h0, h1, h2, k⟩
  | x :: r, s, t, g, nn, e, h0, h1, h2, k => by
    have e : (movingV s x.1 x.2.1 x.2.2).bind (amtV r) = some t := e
    cases em : movingV s x.1 x.2.1 x.2.2 with
    | none =>
      rw [em] at e
      cases e
    | some u =>
      rw [em] at e
      have nx := nn x (List.mem_cons_self ..)
      have gx := g x (List.mem_cons_self ..)
      have hu : (0 ≤ u.lo ∧ p u.lo) ∧ (∀ h, u.hi = some h → p h) ∧ okS u := by
        have one : ∀ {s u : Stre} {y : Rat} {b : Bool}, aboveV s y b = some u → 0 ≤ s.lo → p s.lo → (∀ h, s.hi = some h → p h) → (0 ≤ y → p y) → (0 ≤ u.lo ∧ p u.lo) ∧ (∀ h, u.hi = some h → p h) ∧ okS u := fun {s u y b} e a1 a2 a3 a4 => by
          have q := above_ends (p := p) e a2 a3 fun lt => a4 (by grind)
          have q2 := above_ends (p := fun z => 0 ≤ z ∨ True) e (.inr trivial) (fun _ _ => .inr trivial) (fun _ => .inr trivial)
          refine ⟨⟨?_, q.1⟩, q.2⟩
          unfold aboveV at e
          split at e
          · rename_i lt
            rw [(stre_ok e).2.1]
            grind
          · rw [(stre_ok e).2.1]
            exact a1
        have two : ∀ {s u : Stre} {y : Rat} {b : Bool}, belowV s y b = some u → 0 ≤ s.lo → p s.lo → (∀ h, s.hi = some h → p h) → (0 ≤ y → p y) → (0 ≤ u.lo ∧ p u.lo) ∧ (∀ h, u.hi = some h → p h) ∧ okS u := fun {s u y b} e a1 a2 a3 a4 => by
          have q := below_ends (p := p) e a2 a3 fun le => a4 (by grind)
          refine ⟨⟨?_, q.1⟩, q.2⟩
          unfold belowV at e
          split at e
          · rw [(stre_ok e).2.1]
            exact a1
          · split at e <;> (rw [(stre_ok e).2.1]; exact a1)
        unfold movingV at em
        split at em
        · split at em
          · obtain rfl := Option.some.inj em
            exact ⟨⟨h0, h1⟩, h2, k⟩
          · cases em
        · rename_i nz
          have pos : 0 < x.2.1 := by grind
          split at em
          · exact one em h0 h1 h2 (gx pos).2
          · split at em
            · exact two em h0 h1 h2 (gx pos).1
            · split at em
              · cases ea : aboveV s (x.1.lo / x.2.1) false with
                | none =>
                  rw [ea] at em
                  cases em
                | some v =>
                  rw [ea] at em
                  have o := one ea h0 h1 h2 (gx pos).1
                  exact two em o.1.1 o.1.2 o.2.1 (gx pos).2
              · cases em
      exact amt_ends (fun y hy => g y (List.mem_cons_of_mem _ hy)) (fun y hy => nn y (List.mem_cons_of_mem _ hy)) e hu.1.1 hu.1.2 hu.2.1 hu.2.2
/-- rain at one place alone -/
def atR (W : WebV) (p : Nat) (a : Rat) : List Rat := (List.range W.many).map fun j => if j = p then a else 0
theorem at_scl (W : WebV) (p : Nat) (a : Rat) : atR W p a = sclQ a (atR W p 1) := by
  unfold atR sclQ
  rw [List.map_map]
  refine List.map_congr_left fun j _ => ?_
  show _ = (if j = p then (1 : Rat) else 0) * a
  split <;> grind
/-- what each bed bears of what falls there -/
def facV (W : WebV) (ds : List Int) (p : Nat) : List Rat := (dayV W ds (atR W p 1)).2
theorem day_at {W : WebV} (g : GoodWeb W) (ds : List Int) (p : Nat) (a : Rat) : (dayV W ds (atR W p a)).2 = (facV W ds p).map (· * a) := by
  rw [at_scl]
  exact (day_scl g ds _ a).2
end K64

namespace K64
open PySem PySem.Spec PyProof.Rows PySem.Calls
/-! ### == of two tuples whose items have an own == : both answers -/
section
variable {prog : Program} {w : World} {A : Around} {R : Result → Shared → Prop}
theorem tuple_eqB (l b : Addr) (items items2 : Array Value) (n n2 : Nat) (dd dd2 : Option Addr) (sl sl2 : Array (Option Value)) (I : Nat → Shared → Prop)
    (turn : ∀ i (h1 : i < items.size) (h2 : i < items2.size) s, I i s → wpAny (model prog w) A.in1 (eqBool items[i] items2[i]) (fun r s' => (r = true ∧ I (i + 1) s') ∨ (r = false ∧ R (.ok (.ret (.bool false))) s')) (fun e s' => R (.error e) s') s)
    (fin : ∀ s, I (min items.size items2.size) s → R (.ok (.ret (.bool (items.size == items2.size)))) s) {s : Shared} (hl1 : s.heap.get? l = some { cls := .type "tuple", dict := dd, data := .seq items n, slots := sl }) (hb1 : s.heap.get? b = some { cls := .type "tuple", dict := dd2, data := .seq items2 n2, slots := sl2 }) (h : I 0 s) :
    wpAny (model prog w) A.in1 (Builtin.«tuple.__eq__» ⟨[.ref l, .ref b], []⟩) (GQ.FinOf prog w A R) (fun e s' => R (.error e) s') s := by
  have f2 := AutoSeq1.sub_tuple_tuple
  have hZ : (items.toList.zip items2.toList).length = min items.size items2.size := by simp
  have h0 := h
  obtain ⟨hp, g, d, tk, os⟩ := s
  wp_walk using wpAny_loadPart' hl1, wpAny_loadPart' hb1, wpAny_forIn_list _ (fun rest b s' => b.1 = none ∧ ∃ i, rest = (items.toList.zip items2.toList).drop i ∧ i ≤ min items.size items2.size ∧ I i s') _
  case turn =>
    rintro ⟨y, x⟩ rest b s' ⟨hb', i, hz, hi, hI⟩
    have hlt : i < (items.toList.zip items2.toList).length := by
      rcases Nat.lt_or_ge i (items.toList.zip items2.toList).length with h' | h'
      · exact h'
      · rw [List.drop_of_length_le h'] at hz; cases hz
    have h1 : i < items.size := by omega
    have h2 : i < items2.size := by omega
    rw [List.drop_eq_getElem_cons hlt] at hz
    injection hz with hyx hrest
    have hy : y = items[i] := by have := congrArg Prod.fst hyx; simpa using this
    have hx : x = items2[i] := by have := congrArg Prod.snd hyx; simpa using this
    subst hy hx
    refine wpAny_bind (wpAny_mono (turn i h1 h2 s' hI) (fun r s2 q2 => ?_) fun _ _ x => x)
    rcases q2 with ⟨hr, q2⟩ | ⟨hr, q2⟩
    · subst hr
      wp_walk
      exact ⟨rfl, i + 1, hrest, by omega, q2⟩
    · subst hr
      wp_walk
      exact q2
  case fin =>
    rintro ⟨b1, b2⟩ s' ⟨hb', i, hz, hi, hI⟩
    simp only at hb'
    subst hb'
    have hge : min items.size items2.size ≤ i := by
      rcases Nat.lt_or_ge i (items.toList.zip items2.toList).length with h' | h'
      · rw [List.drop_eq_getElem_cons h'] at hz; cases hz
      · exact hZ ▸ h'
    have hi' : i = min items.size items2.size := by omega
    have hR := fin s' (hi' ▸ hI)
    wp_walk
    simpa [Builtin.Tuple.tupleCompareSizes] using hR
  case h =>
    exact ⟨rfl, 0, rfl, Nat.zero_le _, h0⟩
end
section
variable {prog : Program} {w : World} {A : Around} {E : Value → Shared → Prop} {s : Shared}
theorem rc_tupB {l b : Addr} {items items2 : Array Value} {Q : Value → Shared → Prop} (hu : A.units < cLine) (I : Nat → Shared → Prop)
    (hl : s.heap.IsTuple l items) (hb : s.heap.IsTuple b items2)
    (turn : ∀ i (h1 : i < items.size) (h2 : i < items2.size) s, I i s → wpAny (model prog w) A.in1 (eqBool items[i] items2[i]) (fun r s' => (r = true ∧ I (i + 1) s') ∨ (r = false ∧ Q (.bool false) s')) E s)
    (fin : ∀ s, I (min items.size items2.size) s → Q (.bool (items.size == items2.size)) s) (h : I 0 s) : wpAny (model prog w) A (richCompare .Eq (.ref l) (.ref b)) Q E s := by
  obtain ⟨⟨cls, dd, data, sl⟩, ho, hc, n, hd⟩ := id hl
  obtain ⟨⟨cls2, dd2, data2, sl2⟩, ho2, hc2, n2, hd2⟩ := id hb
  simp only at hc hd hc2 hd2
  subst hc hd hc2 hd2
  refine wpAny_richCompare_same_room (op := .Eq) ⟨_, ho, rfl⟩ ⟨_, ho2, rfl⟩ F.slot_tuple_eq (GQ.call_here F.slot_tuple_eq ⟨_, ho, rfl⟩ F.entry_tuple_eq (F.args_tuple_eq_2 _ _) ?_) hu
  refine tuple_eqB (R := wants (fun v s' => v ≠ .notImplemented ∧ Q v s') E) l b items items2 n n2 dd dd2 sl sl2 I (fun i h1 h2 s' q => wpAny_mono (turn i h1 h2 s' q) (fun r s2 z => ?_) fun _ _ z => z) (fun s' q => ⟨(fun x => nomatch x), fin s' q⟩) ho ho2 h
  rcases z with z | ⟨hr, z⟩
  · exact .inl z
  · exact .inr ⟨hr, (fun x => nomatch x), z⟩
end
end K64

namespace K64
open PySem PySem.Spec PyProof.Rows L2
/-! ### == of a share and anything, by its own __eq__ -/
/-- what isinstance asks of the class, and what the law puts beside a share -/
structure TxtI (K : PySem.W.Frag) (C : Addr) : Prop where
  ha : PySem.W.findIn K (.ref C) "__class__" = some (some (.builtin "object.__class__"))
  hn : PySem.W.specialIn K (.builtin "object.__class__") "__get__" = some (some (.builtin "getset_descriptor.__get__"))
  htk : PySem.W.takesIn K (.builtin "object.__class__") = some true
  hm : PySem.W.mroIn K C (.type "object") = some true
  me : PySem.W.kitOne K (.ref C) (.ref C) = some true
  mt : PySem.W.kitOne K (.type "tuple") (.ref C) = some false
  mi : PySem.W.kitOne K (.type "int") (.ref C) = some false
  mn : PySem.W.kitOne K (.type "NoneType") (.ref C) = some false
/-- either another share, or something that is none -/
def EqTo (K : PySem.W.Frag) (C : Addr) (H : Hp) (v : V) (t1 b1 : Int) (r : Bool) : Prop :=
  (∃ (y : Addr) (t2 b2 : Int), v = .ref y ∧ ShAt C H y t2 b2 ∧ r = (decide (t1 = t2) && decide (b1 = b2))) ∨ (∃ ty, TyX K H v ty ∧ PySem.W.kitOne K ty (.ref C) = some false ∧ r = false)
def spEqS (K : PySem.W.Frag) (C : Addr) : Sp := fun vs H Q _ => ∃ (x : Addr) (v : V) (t1 b1 : Int) (r : Bool), vs = [.ref x, v] ∧ ShAt C H x t1 b1 ∧ EqTo K C H v t1 b1 r ∧ Q (.bl r) H
section
variable {P : Program} {w : World} {K : PySem.W.Frag} {mg : Str → Option Value} {base : Heap}
theorem decI (a b : Int) : decide (V.int a = V.int b) = decide (a = b) := by
  by_cases h : a = b
  · rw [h]; simp
  · simp [h]
theorem scEq : FnScope ["self", "other"] ["self", "other"] (defScope sEq) := ⟨rfl, rfl, rfl, by decide +kernel, rfl, by decide +kernel, by decide +kernel⟩
theorem ok_eq {f C CN : Addr} {fd : FuncData} (F : Fun K "__eq__" "Share.__eq__" sEq f fd) (T : Txt K mg C CN) (TI : TxtI K C) : FnOk P w K mg base CX0 1 f fd ["self", "other"] (spEqS K C) := by
  refine F.ok scEq (fun vs H Q E h => ?_) (fun cdv A outer s H vs Q E hr h => ?_)
  · obtain ⟨x, v, t1, b1, r, rfl, _⟩ := h
    rfl
  · obtain ⟨x, v, t1, b1, r, rfl, ⟨dx, hx⟩, hv, k⟩ := h
    refine ⟨_, pss_one (ps_ret (pe_and (pe_callB call_isi (by rfl) T.isi (by decide +kernel) (pa_cons (pv 1) (pa_cons (pe_glob (v := .ref C) rfl T.mgC rfl) pa_nil)))
      (pe_and (pe_cmpR op_eq (pe_fld (pv 0) rfl) (pe_fld (pv 1) rfl) (nomark _)) (pe_one (pe_cmpR op_eq (pe_fld (pv 0) rfl) (pe_fld (pv 1) rfl) (nomark _)))))), ?_⟩
    rcases hv with ⟨y, t2, b2, rfl, ⟨dy, hy⟩, rfl⟩ | ⟨ty, hty, hk, rfl⟩
    · refine ⟨_, rfl, _, _, _, _, true, rfl, ClsV.own C, TyX.base (TyOf.ins hy T.cl TI.ha TI.hn TI.htk TI.hm), TI.me, true, rfl, iteT ?_⟩
      refine ⟨_, rfl, x, C, dx, _, _, rfl, hx, T.cl, T.nT, shf_top .., _, rfl, y, C, dy, _, _, rfl, hy, T.cl, T.nT, shf_top .., rfl, _, rfl, ?_⟩
      rw [decI]
      by_cases e : t1 = t2
      · rw [decide_eq_true e] at k ⊢
        refine iteT ?_
        refine ⟨_, rfl, x, C, dx, _, _, rfl, hx, T.cl, T.nB, shf_bottom .., _, rfl, y, C, dy, _, _, rfl, hy, T.cl, T.nB, shf_bottom .., rfl, ?_⟩
        rw [decI]
        exact k
      · rw [decide_eq_false e] at k ⊢
        exact iteF k
    · refine ⟨_, rfl, _, _, _, _, false, rfl, ClsV.own C, hty, hk, false, rfl, iteF k⟩
end
end K64
namespace K64
open PySem PySem.Spec PyProof.Rows L2
/-! ### comparisons with a share in them -/
/-- what stands beside a share: another one, or a value of a built-in type that the share's class is no subclass of, and that is none of it -/
structure Odd (K : PySem.W.Frag) (C : Addr) (T : String) : Prop where
  k : PySem.W.kitOne K (.type T) (.ref C) = some false
  l : PySem.W.subIn K (.type T) (.ref C) = some false
  r : PySem.W.subIn K (.ref C) (.type T) = some false
/-- the own == of the class at C stands at f, and keeps its promise -/
structure OwnEq (X : Cx) (n : Nat) (C f : Addr) : Prop where
  fn : ∃ fd ps, FnOk X.prog X.w X.K X.mg X.base CX0 n f fd ps (spEqS X.K C) ∧ Binds X.K fd ps []
  at_ : PySem.W.findIn X.K (.ref C) "__eq__" = some (some (.ref f))
  isf : PySem.W.isFn X.K (.ref f) = true
section
variable {X : Cx} {n : Nat} {C f : Addr} {A : Around} {pins : List (Addr × Obj)} {s : Shared} {σ : L2.St} {H : Hp} {x : Addr} {v : V} {u : Value} {t1 b1 : Int} {r : Bool} {T : String}
/-- the def itself, called -/
theorem run_own (O : OwnEq X n C f) (sb : Sub X n A) (I : Inv X pins σ H s) (rv : RelV v u) (hx : ShAt C H x t1 b1) (hv : EqTo X.K C H v t1 b1 r) :
    wpAny (model X.prog X.w) A (call (.ref f) [.ref x, u]) (fun q s' => q = .bool r ∧ Inv X pins σ H s') X.xe s := by
  obtain ⟨fd, ps, F, hb⟩ := O.fn
  have hsp : spEqS X.K C [.ref x, v] H (fun z H' => z = .bl r ∧ H' = H) E0 := ⟨x, v, t1, b1, r, rfl, hx, hv, rfl, rfl⟩
  have e0 : Env0 X.prog X.w X.K X.mg X.base A X.stack s H := by
    have e := I.env0
    exact ⟨by rw [sb.fr]; exact e.frames, e.mod, e.bs, e.bsz, e.funs, e.frf, e.hok, e.bare⟩
  have hl := F.len _ _ _ _ hsp
  have r2 : Vals [V.ref x, v] [Value.ref x, u] := .cons rfl (.cons rv .nil)
  have bb := hb s [.ref x, u] I.kIn (by simpa using hl)
  rw [List.append_nil] at bb
  refine wpAny_call (codeAny_mono (F.run A X.stack s H ⟨[.ref x, u], []⟩ [.ref x, u] [.ref x, v] _ E0 sb.room e0 bb r2 hsp) fun q s' hq => ?_)
  cases q with
  | error e => exact hq.elim
  | ok fl =>
    cases fl with
    | ret z =>
      obtain ⟨y, H', I', ry, ey, eH⟩ := I.after hq
      subst ey
      subst eH
      cases ry
      exact ⟨rfl, I'⟩
    | next => exact False.elim hq
    | brk => exact False.elim hq
    | cont => exact False.elim hq
theorem ins_at (I : Inv X pins σ H s) (hx : ShAt C H x t1 b1) : ∃ ox od, PySem.W.InstAt s.heap x ox C od := by
  obtain ⟨dx, e⟩ := hx
  obtain ⟨m, J, _⟩ := ins_get I.hok e
  obtain ⟨od, J, _⟩ := J.look
  exact ⟨_, _, J⟩
/-- a share on the left -/
theorem rc_left (O : OwnEq X n C f) (sb : Sub X n A) (I : Inv X pins σ H s) (rv : RelV v u) (hx : ShAt C H x t1 b1) (hv : EqTo X.K C H v t1 b1 r)
    {tb : Value} (ht : PySem.W.Looks (model X.prog X.w) s.heap (typeOf u) tb) (hf : PySem.W.notFirst X.K C tb = true) :
    wpAny (model X.prog X.w) A (richCompare .Eq (.ref x) u) (fun q s' => q = .bool r ∧ Inv X pins σ H s') X.xe s := by
  obtain ⟨ox, od, J⟩ := ins_at I hx
  obtain ⟨m, hF⟩ := I.fr
  refine PySem.W.cmp_K (op := .Eq) (tb := tb) sb.room.units0 hF I.ok.mod.kin J ht hf O.at_ O.isf ?_
  refine wpAny_mono (run_own O sb I rv hx hv) (fun q s' z => ?_) fun _ _ z => z
  obtain ⟨rfl, I'⟩ := z
  exact ⟨rfl, I'⟩
/-- two shares -/
theorem rc_two (O : OwnEq X n C f) (sb : Sub X n A) (I : Inv X pins σ H s) {y : Addr} {t2 b2 : Int} (hx : ShAt C H x t1 b1) (hy : ShAt C H y t2 b2) :
    wpAny (model X.prog X.w) A (richCompare .Eq (.ref x) (.ref y)) (fun q s' => q = .bool (decide (t1 = t2) && decide (b1 = b2)) ∧ Inv X pins σ H s') X.xe s := by
  obtain ⟨oy, od, J⟩ := ins_at I hy
  exact rc_left O sb I (v := .ref y) rfl hx (.inl ⟨y, t2, b2, rfl, hy, rfl⟩) J.type (by simp [PySem.W.notFirst])
/-- a value of a built-in type on the left, a share on the right -/
theorem rc_right (O : OwnEq X n C f) (sb : Sub X n A) (I : Inv X pins σ H s) (rv : RelV v u) (hx : ShAt C H x t1 b1) (ty : TyX X.K H v (.type T)) (D : Odd X.K C T)
    (dec : wpAny (model X.prog X.w) A (tryCompare u "__eq__" (.ref x)) (fun q s' => q = none ∧ s' = s) X.xe s) :
    wpAny (model X.prog X.w) A (richCompare .Eq u (.ref x)) (fun q s' => q = .bool false ∧ Inv X pins σ H s') X.xe s := by
  obtain ⟨ox, od, J⟩ := ins_at I hx
  obtain ⟨Ph, Z, ph, _⟩ := kit_of I rv ty
  have LT := Z.ty (model X.prog X.w) s.heap I.kIn ph
  have nu : oneThing? .Eq u (.ref x) = none := by cases u <;> rfl
  unfold richCompare
  simp only [nu]
  refine wpAny_holding (wpAny_bind (wpAny_cRoomFor sb.room.units0 ?_))
  refine wpAny_bind (LT.here (wpAny_bind (J.type.here ?_)))
  rw [if_pos (show (Value.type T != Value.ref C) = true from rfl)]
  refine wpAny_bind ((PySem.W.looks_subIn I.kIn D.r).here ?_)
  simp only [Bool.false_eq_true, if_false]
  refine wpAny_bind (wpAny_mono dec (fun q s' z => ?_) fun _ _ z => z)
  obtain ⟨rfl, rfl⟩ := z
  simp only [Bool.not_false, if_true]
  refine wpAny_bind (m := tryCompare (.ref x) _ u) ?_
  unfold tryCompare
  refine wpAny_bind (PySem.W.ifBound_K I.kIn J O.at_ O.isf (wpAny_mono (run_own O sb I rv hx (.inr ⟨_, ty, D.k, rfl⟩)) (fun q s' z => ?_) fun _ _ z => z))
  obtain ⟨rfl, I'⟩ := z
  exact wpAny_pure (wpAny_pure ⟨rfl, I'⟩)
end
end K64

namespace K64
open PySem PySem.Spec PyProof.Rows L2
/-! ### != of two shares: object.__ne__ over the own == -/
section
variable {X : Cx} {n : Nat} {C f : Addr} {A : Around} {pins : List (Addr × Obj)} {s : Shared} {σ : L2.St} {H : Hp} {x y : Addr} {t1 b1 t2 b2 : Int}
theorem ne_body (O : OwnEq X n C f) (sb : Sub X (n + 1) A) (I : Inv X pins σ H s) (hx : ShAt C H x t1 b1) (hy : ShAt C H y t2 b2) {Q : Fin → Shared → Prop}
    (hq : ∀ s', Inv X pins σ H s' → Q (.done (.ret (.bool (!(decide (t1 = t2) && decide (b1 = b2)))))) s') :
    wpAny (model X.prog X.w) A (Builtin.«object.__ne__» ⟨[.ref x, .ref y], []⟩) Q X.xe s := by
  obtain ⟨ox, od, J⟩ := ins_at I hx
  have sb0 : Sub X n A := sb.mono (Nat.le_succ n)
  unfold Builtin.«object.__ne__»
  refine wpAny_bind (wpAny_of_eq (a := ((Value.ref x : Value), [Value.ref y])) (by first | rfl | (simp only [slotArgs]; rfl)) ?_)
  dsimp only
  refine wpAny_bind (wpAny_cRoomFor sb.room.units0 ?_)
  refine wpAny_bind (PySem.W.ifBound_K I.kIn J O.at_ O.isf (wpAny_mono (run_own O sb0 I (v := .ref y) rfl hx (.inl ⟨y, t2, b2, rfl, hy, rfl⟩)) (fun q s' z => ?_) fun _ _ z => z))
  obtain ⟨rfl, I'⟩ := z
  dsimp only
  exact wpAny_bind (wpAny_truthy_bool (wpAny_pure (hq _ I')))
theorem ne_two (O : OwnEq X n C f) (sb : Sub X (n + 2) A) (I : Inv X pins σ H s) (hne : PySem.W.findIn X.K (.ref C) "__ne__" = some (some (.builtin "object.__ne__"))) (hob : PySem.W.subIn X.K (.ref C) (.type "object") = some true)
    (hx : ShAt C H x t1 b1) (hy : ShAt C H y t2 b2) :
    wpAny (model X.prog X.w) A (richCompare .NotEq (.ref x) (.ref y)) (fun q s' => q = .bool (!(decide (t1 = t2) && decide (b1 = b2))) ∧ Inv X pins σ H s') X.xe s := by
  obtain ⟨ox, od, J⟩ := ins_at I hx
  obtain ⟨oy, od', J'⟩ := ins_at I hy
  have isob : PySem.W.Looks (model X.prog X.w) s.heap (isInstance (.ref x) (.type "object")) true := J.type.andThen (PySem.W.looks_subIn I.kIn hob)
  have called : wpAny (model X.prog X.w) A (call (.builtin "object.__ne__") [.ref x, .ref y]) (fun q s' => q = .bool (!(decide (t1 = t2) && decide (b1 = b2))) ∧ Inv X pins σ H s') X.xe s := by
    refine wpAny_call (codeAny_call_builtin F.cmp_object.ne.plain F.cmpEntry_ne (PySem.W.check_slot F.cmpKind_ne F.cmpSplit_ne isob (F.cmpArgs_ne _ _) ?_))
    exact ne_body O (sb.in1) I hx hy fun s' I' => ⟨rfl, I'⟩
  unfold richCompare
  simp only [oneThing_ref]
  refine wpAny_holding (wpAny_bind (wpAny_cRoomFor sb.room.units0 ?_))
  refine wpAny_bind (J.type.here (wpAny_bind (J'.type.here ?_)))
  rw [if_neg (show ¬ (Value.ref C != Value.ref C) = true by simp)]
  refine wpAny_bind (wpAny_pure ?_)
  simp only [Bool.false_eq_true, if_false]
  refine wpAny_bind (m := tryCompare (.ref x) _ (.ref y)) ?_
  unfold tryCompare
  have fin : wpAny (model X.prog X.w) A (call (.builtin "object.__ne__") ([.ref x] ++ [.ref y]) >>= fun v => pure (some v)) (fun o s' => ∃ q, o = some q ∧ q = .bool (!(decide (t1 = t2) && decide (b1 = b2))) ∧ Inv X pins σ H s') X.xe s :=
    wpAny_bind (wpAny_mono called (fun q s' z => wpAny_pure ⟨q, rfl, z⟩) fun _ _ z => z)
  have asked : wpAny (model X.prog X.w) A (callSpecialIfBound? (.ref x) "__ne__" [.ref y]) (fun o s' => ∃ q, o = some q ∧ q = .bool (!(decide (t1 = t2) && decide (b1 = b2))) ∧ Inv X pins σ H s') X.xe s := by
    simp only [callSpecialIfBound?, bindSpecialIfBound?]
    refine wpAny_holding (wpAny_bind (wpAny_bind (wpAny_bind (J.type.here ((PySem.W.looks_findIn I.kIn hne).here ?_)))))
    simp only [F.cmp_object.ne.bind]
    refine wpAny_bind (wpAny_askSetting (wpAny_ite ?_))
    split
    · exact wpAny_bind (wpAny_pure (wpAny_pure fin))
    · exact wpAny_tryCatch (wpAny_bind (wpAny_pure (wpAny_pure fin)))
  refine wpAny_bind (wpAny_mono asked (fun o s' z => ?_) fun _ _ z => z)
  obtain ⟨q, rfl, rfl, I'⟩ := z
  exact wpAny_pure (wpAny_pure ⟨rfl, I'⟩)
end
/-! ### the operators, as rules -/
section
variable {X : Cx} {n : Nat} {C f : Addr}
def rEqS (C : Addr) : R2 := fun x y H Q => ∃ (a b : Addr) (t1 b1 t2 b2 : Int), x = .ref a ∧ y = .ref b ∧ ShAt C H a t1 b1 ∧ ShAt C H b t2 b2 ∧ Q (.bl (decide (t1 = t2) && decide (b1 = b2))) H
def rNeS (C : Addr) : R2 := fun x y H Q => ∃ (a b : Addr) (t1 b1 t2 b2 : Int), x = .ref a ∧ y = .ref b ∧ ShAt C H a t1 b1 ∧ ShAt C H b t2 b2 ∧ Q (.bl (!(decide (t1 = t2) && decide (b1 = b2)))) H
theorem op_eqS (O : OwnEq X n C f) (hr : Room n X.A) : OpR X (compareOp .Eq) (rEqS C) := by
  intro pins s σ H x y v u Q I rx ry h
  obtain ⟨a, b, t1, b1, t2, b2, rfl, rfl, ha, hb, q⟩ := h
  cases rx
  cases ry
  show wpAny (model X.prog X.w) X.A (richCompare .Eq (.ref a) (.ref b)) (EP X pins σ Q) X.xe s
  refine wpAny_mono (rc_two O ⟨hr, rfl⟩ I ha hb) (fun r s' z => ?_) fun _ _ z => z
  obtain ⟨rfl, I'⟩ := z
  exact ⟨.bl _, H, I', rfl, q⟩
theorem op_neS (O : OwnEq X n C f) (hr : Room (n + 2) X.A) (hne : PySem.W.findIn X.K (.ref C) "__ne__" = some (some (.builtin "object.__ne__"))) (hob : PySem.W.subIn X.K (.ref C) (.type "object") = some true) : OpR X (compareOp .NotEq) (rNeS C) := by
  intro pins s σ H x y v u Q I rx ry h
  obtain ⟨a, b, t1, b1, t2, b2, rfl, rfl, ha, hb, q⟩ := h
  cases rx
  cases ry
  show wpAny (model X.prog X.w) X.A (richCompare .NotEq (.ref a) (.ref b)) (EP X pins σ Q) X.xe s
  refine wpAny_mono (ne_two O ⟨hr, rfl⟩ I hne hob ha hb) (fun r s' z => ?_) fun _ _ z => z
  obtain ⟨rfl, I'⟩ := z
  exact ⟨.bl _, H, I', rfl, q⟩
end
end K64

namespace K64
open PySem PySem.Spec PyProof.Rows L2
/-! ### stretches of amounts: the program -/
def HiA (C : Addr) (H : Hp) (hv : V) (hi : Option Rat) : Prop := (hi = none ∧ hv = .non) ∨ (∃ (h : Rat) (u : Addr), hi = some h ∧ hv = .ref u ∧ ShQ C H u h)
def StrA (K : PySem.W.Frag) (C : Addr) (H : Hp) (v : V) (s : Stre) : Prop := ∃ (t l : Addr) (hv : V), v = .ref t ∧ SqT K H t [.ref l, .bl s.hl, hv, .bl s.hh] ∧ ShQ C H l s.lo ∧ HiA C H hv s.hi
def StrO (K : PySem.W.Frag) (C : Addr) (H : Hp) (v : V) (o : Option Stre) : Prop := (o = none ∧ v = .non) ∨ (∃ s, o = some s ∧ StrA K C H v s)
def HiZ (hi : Option Rat) : Prop := ∀ h, hi = some h → Sz 1500 h
theorem HiA.mono {C : Addr} {H H' : Hp} {hv : V} {hi : Option Rat} (h : HiA C H hv hi) (s : Same H H') : HiA C H' hv hi := by
  rcases h with h | ⟨h, u, a, b, c⟩
  · exact .inl h
  · exact .inr ⟨h, u, a, b, c.mono s⟩
theorem StrA.mono {K : PySem.W.Frag} {C : Addr} {H H' : Hp} {v : V} {t : Stre} (h : StrA K C H v t) (s : Same H H') : StrA K C H' v t := by
  obtain ⟨t, l, hv, a, b, c, d⟩ := h
  exact ⟨t, l, hv, a, Same.tup s b, c.mono s, d.mono s⟩
theorem StrO.mono {K : PySem.W.Frag} {C : Addr} {H H' : Hp} {v : V} {o : Option Stre} (h : StrO K C H v o) (s : Same H H') : StrO K C H' v o := by
  rcases h with h | ⟨t, a, b⟩
  · exact .inl h
  · exact .inr ⟨t, a, b.mono s⟩
def spStreN (K : PySem.W.Frag) (C : Addr) : Sp := fun vs H Q _ => ∃ (l : Addr) (hv : V) (hl hh : Bool) (lo : Rat) (hi : Option Rat), vs = [.ref l, .bl hl, hv, .bl hh] ∧ ShQ C H l lo ∧ HiA C H hv hi ∧ Sz 1500 lo ∧ HiZ hi ∧
  ∀ (H' : Hp) (v : V), Same H H' → StrO K C H' v (streV lo hl hi hh) → Q v H'
def spOver (C : Addr) : Sp := fun vs H Q _ => ∃ (x y : Addr) (p q : Rat), vs = [.ref x, .ref y] ∧ ShQ C H x p ∧ ShQ C H y q ∧ Sz 1500 p ∧ Sz 1500 q ∧ 0 < q ∧ ∀ (H' : Hp) (r : Addr), Same H H' → ShQ C H' r (p / q) → Q (.ref r) H'
section
variable {P : Program} {w : World} {K : PySem.W.Frag} {mg : Str → Option Value} {base : Heap}
theorem scSn : FnScope ["low", "has_low", "high", "has_high"] ["low", "has_low", "high", "has_high"] (defScope d_stretch_or_none) := ⟨rfl, rfl, rfl, by decide +kernel, rfl, by decide +kernel, by decide +kernel⟩
theorem ok_streN {f f1 fE C : Addr} {fd fd1 fdE : FuncData} (F : Fun K "stretch_or_none" "stretch_or_none" d_stretch_or_none f fd) (A1 : At P w K mg base CX0 1 "less" ["one", "other"] (spLessQ C) f1 fd1)
    (GE : FnOk P w K mg base CX0 1 fE fdE ["self", "other"] (spEqS K C)) (atE : PySem.W.findIn K (.ref C) "__eq__" = some (some (.ref fE))) (isE : PySem.W.isFn K (.ref fE) = true) (bE : Binds K fdE ["self", "other"] []) :
    FnOk P w K mg base CX0 2 f fd ["low", "has_low", "high", "has_high"] (spStreN K C) := by
  refine F.ok scSn (fun vs H Q E h => ?_) (fun cdv A outer s H vs Q E hr h => ?_)
  · obtain ⟨_, _, _, _, _, _, rfl, _⟩ := h
    rfl
  · obtain ⟨l, hv, hl, hh, lo, hi, rfl, hlo, hhi, zlo, zhi, kq⟩ := h
    have own : OwnEq (cxOf CX0 P w K mg base ["low", "has_low", "high", "has_high"] "stretch_or_none" (defScope d_stretch_or_none) f cdv A outer s H E).nox 1 C fE := ⟨⟨_, _, GE, bE⟩, atE, isE⟩
    refine ⟨_, pss_cons (ps_if (PW.pt (pw_and (pt_cmp (pc_notN (pv 2))) (pw_and1 (PW.pt (pw_or (pt_val (pe_call A1.G hr rfl A1.m A1.k A1.b .nil pass0 (pa_cons (pv 2) (pa_cons (pv 0) pa_nil))))
          (pw_or1 (PW.pt (pw_and (pt_cmpR (op_eqS own hr) (pv 2) (pv 0) (nomark _)) (pw_and1 (pt_not (PW.pt (pw_and (pt_val (pv 1)) (pw_and1 (pt_val (pv 3)))))))))))))))
          (pss_one (ps_ret pe_non)) pss_nil)
      (pss_one (ps_ret (pe_tup (pa_cons (pv 0) (pa_cons (pv 1) (pa_cons (pv 2) (pa_cons (pv 3) pa_nil))))))), ?_⟩
    have give : ∀ {G : Hp}, Same H G → streV lo hl hi hh = some ⟨lo, hl, hi, hh⟩ → ∀ T, G T = none → Q (.ref T) (upd G T (.tup [.ref l, .bl hl, hv, .bl hh])) := fun {G} sG e T hT => by
      refine kq _ _ (sG.trans (same1 hT)) ?_
      rw [e]
      exact .inr ⟨_, rfl, T, l, hv, rfl, SqT.of upd_same, hlo.mono (sG.trans (same1 hT)), hhi.mono (sG.trans (same1 hT))⟩
    rcases id hhi with ⟨rfl, rfl⟩ | ⟨h, u, rfl, rfl, hu⟩
    · exact ⟨_, rfl, false, rfl, iteF (iteF ⟨_, rfl, _, rfl, _, rfl, _, rfl, (by show 4 ≤ sizeLine; decide), fun T hT => give (Same.refl _) rfl T hT⟩)⟩
    · have zh := zhi h rfl
      have ev : streV lo hl (some h) hh = if badS lo hl h hh = true then none else some ⟨lo, hl, some h, hh⟩ := rfl
      have no : badS lo hl h hh = true → Q .non H := fun b => kq H .non (Same.refl _) (by rw [ev, if_pos b]; exact .inl ⟨rfl, rfl⟩)
      have yes : badS lo hl h hh = false → ∀ T, H T = none → Q (.ref T) (upd H T (.tup [.ref l, .bl hl, .ref u, .bl hh])) := fun b T hT => give (Same.refl _) (by rw [ev, if_neg (by rw [b]; exact Bool.false_ne_true)]) T hT
      refine ⟨_, rfl, true, rfl, iteT ⟨_, rfl, _, rfl, u, l, h, lo, rfl, hu, hlo, zh, zlo, _, rfl, ?_⟩⟩
      by_cases c : h < lo
      · rw [decide_eq_true c]
        exact iteT (iteT (no (bad_iff.mpr (.inl c))))
      rw [decide_eq_false c]
      refine iteF ⟨_, rfl, _, rfl, u, l, _, _, _, _, rfl, rfl, hu, hlo, _, rfl, ?_⟩
      rw [rat_eq]
      by_cases d : h = lo
      · rw [decide_eq_true d]
        refine iteT ⟨_, rfl, hl, rfl, ?_⟩
        cases hl with
        | false => exact iteF (iteT (no (bad_iff.mpr (.inr ⟨d, fun z => Bool.false_ne_true z.1⟩))))
        | true =>
          refine iteT ⟨_, rfl, hh, rfl, ?_⟩
          cases hh with
          | false => exact iteT (no (bad_iff.mpr (.inr ⟨d, fun z => Bool.false_ne_true z.2⟩)))
          | true =>
            refine iteF ⟨_, rfl, _, rfl, _, rfl, _, rfl, (by show 4 ≤ sizeLine; decide), fun T hT => yes ?_ T hT⟩
            cases e : badS lo true h true with
            | false => rfl
            | true => rcases bad_iff.mp e with z | ⟨_, z⟩
                      · exact absurd z c
                      · exact absurd ⟨rfl, rfl⟩ z
      · rw [decide_eq_false d]
        refine iteF (iteF ⟨_, rfl, _, rfl, _, rfl, _, rfl, (by show 4 ≤ sizeLine; decide), fun T hT => yes ?_ T hT⟩)
        cases e : badS lo hl h hh with
        | false => rfl
        | true => rcases bad_iff.mp e with z | ⟨z, _⟩
                  · exact absurd z c
                  · exact absurd z d
theorem scOv : FnScope ["one", "other"] ["one", "other"] (defScope d_over) := ⟨rfl, rfl, rfl, by decide +kernel, rfl, by decide +kernel, by decide +kernel⟩
theorem ok_over {f fI C CN : Addr} {fd fdI : FuncData} (F : Fun K "over" "over" d_over f fd) (T : Txt K mg C CN) (M : Mk K C fI) (GI : FnOk P w K mg base (L2.CX P w) 2 fI fdI ["self", "top", "bottom"] (spInit C CN)) (bI : Binds K fdI ["self", "top", "bottom"] []) :
    FnOk P w K mg base CX0 4 f fd ["one", "other"] (spOver C) := by
  refine F.ok scOv (fun vs H Q E h => ?_) (fun cdv A outer s H vs Q E hr h => ?_)
  · obtain ⟨x, y, p, q, rfl, _⟩ := h
    rfl
  · obtain ⟨x, y, p, q, rfl, ⟨dx, hx⟩, ⟨dy, hy⟩, s1, s2, q0, k⟩ := h
    refine ⟨_, pss_one (ps_ret (pe_make M GI hr rfl T.mgC bI .nil passL (pa_cons (pe_op op_mulW (pe_fld (pv 0) rfl) (pe_fld (pv 1) rfl)) (pa_cons (pe_op op_mulW (pe_fld (pv 0) rfl) (pe_fld (pv 1) rfl)) pa_nil)))), ?_⟩
    refine ⟨_, rfl, x, C, dx, _, _, rfl, hx, T.cl, T.nT, shf_top .., _, rfl, y, C, dy, _, _, rfl, hy, T.cl, T.nB, shf_bottom .., _, _, rfl, rfl, wide_mul s1.1 s2.2 (by decide) (by decide) (by decide), ?_⟩
    refine ⟨_, rfl, x, C, dx, _, _, rfl, hx, T.cl, T.nB, shf_bottom .., _, rfl, y, C, dy, _, _, rfl, hy, T.cl, T.nT, shf_top .., _, _, rfl, rfl, wide_mul s1.2 s2.1 (by decide) (by decide) (by decide), ?_⟩
    intro r dr np ndp nex
    have qn : q.num ≠ 0 := fun z => by
      have : q = 0 := Rat.num_eq_zero.mp z
      rw [this] at q0
      exact absurd q0 (by decide)
    have nz : (p.den : Int) * q.num ≠ 0 := Int.mul_ne_zero (by have := den_pos p; omega) qn
    refine ⟨r, dr, _, _, rfl, upd_same, pow_le (mul_lt s1.1 s2.2) (by decide), pow_le (mul_lt s1.2 s2.1) (by decide), fun z => absurd z nz, fun _ H' e ka => ⟨rfl, ?_⟩⟩
    refine k H' r (made_same (C := C) np ndp ka) ?_
    have e3 : (((p.num * (q.den : Int) : Int) : Rat) / (((p.den : Int) * q.num : Int) : Rat)) = p / q := by
      have a := rat_frac p
      have b := rat_frac q
      have n1 := icast_ne (show ((p.den : Nat) : Int) ≠ 0 from by have := den_pos p; omega)
      have n2 := icast_ne (show ((q.den : Nat) : Int) ≠ 0 from by have := den_pos q; omega)
      have n3 := icast_ne qn
      rw [Rat.intCast_mul, Rat.intCast_mul]
      generalize hx : (p.num : Rat) = xn at *
      generalize hy : (q.num : Rat) = yn at *
      generalize ((p.den : Int) : Rat) = xd at *
      generalize ((q.den : Int) : Rat) = yd at *
      rw [← a, ← b]
      grind
    have sh := shq_low nz ⟨dr, e⟩
    rwa [e3] at sh
end
end K64

namespace K64
open PySem PySem.Spec PyProof.Rows L2
/-! ### what of a stretch lies above, below -/
def SzS (s : Stre) : Prop := Sz 1500 s.lo ∧ HiZ s.hi
def spCutS (K : PySem.W.Frag) (C : Addr) (g : Stre → Rat → Bool → Option Stre) : Sp := fun vs H Q _ => ∃ (v : V) (x : Addr) (s : Stre) (q : Rat) (b : Bool), vs = [v, .ref x, .bl b] ∧ StrA K C H v s ∧ ShQ C H x q ∧ SzS s ∧ Sz 1500 q ∧
  ∀ (H' : Hp) (r : V), Same H H' → StrO K C H' r (g s q b) → Q r H'
section
variable {P : Program} {w : World} {K : PySem.W.Frag} {mg : Str → Option Value} {base : Heap}
abbrev abvN : List Str := ["stretch", "share", "has_share", "low", "has_low", "high", "has_high"]
theorem scAbv : FnScope abvN ["stretch", "share", "has_share"] (defScope d_part_above) := ⟨rfl, rfl, rfl, by decide +kernel, rfl, by decide +kernel, by decide +kernel⟩
theorem ok_above {f f1 f2 fE C : Addr} {fd fd1 fd2 fdE : FuncData} (F : Fun K "part_above" "part_above" d_part_above f fd) (A1 : At P w K mg base CX0 1 "less" ["one", "other"] (spLessQ C) f1 fd1)
    (A2 : At P w K mg base CX0 2 "stretch_or_none" ["low", "has_low", "high", "has_high"] (spStreN K C) f2 fd2)
    (GE : FnOk P w K mg base CX0 1 fE fdE ["self", "other"] (spEqS K C)) (atE : PySem.W.findIn K (.ref C) "__eq__" = some (some (.ref fE))) (isE : PySem.W.isFn K (.ref fE) = true) (bE : Binds K fdE ["self", "other"] [])
    (hne : PySem.W.findIn K (.ref C) "__ne__" = some (some (.builtin "object.__ne__"))) (hob : PySem.W.subIn K (.ref C) (.type "object") = some true) :
    FnOk P w K mg base CX0 4 f fd ["stretch", "share", "has_share"] (spCutS K C aboveV) := by
  refine F.ok scAbv (fun vs H Q E h => ?_) (fun cdv A outer s H vs Q E hr h => ?_)
  · obtain ⟨_, _, _, _, _, rfl, _⟩ := h
    rfl
  · obtain ⟨v, x, t, q, b, rfl, hv, hx, ⟨zlo, zhi⟩, zq, kq⟩ := h
    have r1 : Room 1 _ := hr.mono (by decide)
    have r2 : Room 2 _ := hr.mono (by decide)
    have own : OwnEq (cxOf CX0 P w K mg base abvN "part_above" (defScope d_part_above) f cdv A outer s H E).nox 1 C fE := ⟨⟨_, _, GE, bE⟩, atE, isE⟩
    refine ⟨_, pss_cons (ps_asg (pv 0) (pg_tup (by rfl) (pgs_cons (pg_name (i := 3) scAbv.nd rfl (.inl rfl)) (pgs_cons (pg_name (i := 4) scAbv.nd rfl (.inl rfl)) (pgs_cons (pg_name (i := 5) scAbv.nd rfl (.inl rfl)) (pgs_cons (pg_name (i := 6) scAbv.nd rfl (.inl rfl)) pgs_nil))))))
      (pss_cons (ps_if (pt_val (pe_call A1.G r1 rfl A1.m A1.k A1.b .nil pass0 (pa_cons (pv 3) (pa_cons (pv 1) pa_nil)))) (pss_one (ps_ret (pe_call A2.G r2 rfl A2.m A2.k A2.b .nil pass0 (pa_cons (pv 1) (pa_cons (pv 2) (pa_cons (pv 5) (pa_cons (pv 6) pa_nil))))))) pss_nil)
      (pss_one (ps_ret (pe_call A2.G r2 rfl A2.m A2.k A2.b .nil pass0 (pa_cons (pv 3) (pa_cons (pe_and (pv 4) (pe_one (pe_or (pv 2) (pe_one (pe_cmpR (op_neS own hr hne hob) (pv 3) (pv 1) (nomark _)))))) (pa_cons (pv 5) (pa_cons (pv 6) pa_nil)))))))), ?_⟩
    obtain ⟨ta, l, hv', rfl, ht, hl, hh⟩ := hv
    refine ⟨_, rfl, ta, _, rfl, ht, rfl, _, _, rfl, _, _, rfl, _, _, rfl, _, _, rfl, rfl, ?_⟩
    refine ⟨_, rfl, _, rfl, l, x, t.lo, q, rfl, hl, hx, zlo, zq, _, rfl, ?_⟩
    unfold aboveV at kq
    refine ite2 (fun h => ?_) (fun h => ?_)
    · rw [if_pos (of_decide_eq_true h)] at kq
      exact ⟨_, rfl, _, rfl, _, rfl, _, rfl, x, hv', b, t.hh, q, t.hi, rfl, hx, hh, zq, zhi, fun H' r s' o => kq H' r s' o⟩
    · rw [if_neg (fun z => h (decide_eq_true z))] at kq
      have fin : ∀ {bb : Bool}, bb = (t.hl && (b || !decide (t.lo = q))) → spStreN K C [.ref l, .bl bb, hv', .bl t.hh] H Q (fun _ _ _ => False) := fun {bb} e => ⟨l, hv', bb, t.hh, t.lo, t.hi, rfl, hl, hh, zlo, zhi, fun H' r s' o => kq H' r s' (by rw [← e]; exact o)⟩
      refine ⟨_, rfl, _, rfl, t.hl, rfl, ?_⟩
      cases e1 : t.hl with
      | false => exact iteF ⟨_, rfl, _, rfl, fin (by rw [e1]; rfl)⟩
      | true =>
        refine iteT ⟨_, rfl, b, rfl, ?_⟩
        cases e2 : b with
        | true => exact iteT ⟨_, rfl, _, rfl, fin (by rw [e1, e2]; rfl)⟩
        | false =>
          refine iteF ⟨_, rfl, _, rfl, l, x, _, _, _, _, rfl, rfl, hl, hx, ?_⟩
          rw [rat_eq]
          exact ⟨_, rfl, _, rfl, fin (by rw [e1, e2]; rfl)⟩
end
end K64

namespace K64
open PySem PySem.Spec PyProof.Rows L2
section
variable {P : Program} {w : World} {K : PySem.W.Frag} {mg : Str → Option Value} {base : Heap}
theorem scBlw : FnScope abvN ["stretch", "share", "has_share"] (defScope d_part_below) := ⟨rfl, rfl, rfl, by decide +kernel, rfl, by decide +kernel, by decide +kernel⟩
theorem ok_below {f f1 f2 fE C : Addr} {fd fd1 fd2 fdE : FuncData} (F : Fun K "part_below" "part_below" d_part_below f fd) (A1 : At P w K mg base CX0 1 "less" ["one", "other"] (spLessQ C) f1 fd1)
    (A2 : At P w K mg base CX0 2 "stretch_or_none" ["low", "has_low", "high", "has_high"] (spStreN K C) f2 fd2)
    (GE : FnOk P w K mg base CX0 1 fE fdE ["self", "other"] (spEqS K C)) (atE : PySem.W.findIn K (.ref C) "__eq__" = some (some (.ref fE))) (isE : PySem.W.isFn K (.ref fE) = true) (bE : Binds K fdE ["self", "other"] [])
    (hne : PySem.W.findIn K (.ref C) "__ne__" = some (some (.builtin "object.__ne__"))) (hob : PySem.W.subIn K (.ref C) (.type "object") = some true) :
    FnOk P w K mg base CX0 4 f fd ["stretch", "share", "has_share"] (spCutS K C belowV) := by
  refine F.ok scBlw (fun vs H Q E h => ?_) (fun cdv A outer s H vs Q E hr h => ?_)
  · obtain ⟨_, _, _, _, _, rfl, _⟩ := h
    rfl
  · obtain ⟨v, x, t, q, b, rfl, hv, hx, ⟨zlo, zhi⟩, zq, kq⟩ := h
    have r1 : Room 1 _ := hr.mono (by decide)
    have r2 : Room 2 _ := hr.mono (by decide)
    have own : OwnEq (cxOf CX0 P w K mg base abvN "part_below" (defScope d_part_below) f cdv A outer s H E).nox 1 C fE := ⟨⟨_, _, GE, bE⟩, atE, isE⟩
    refine ⟨_, pss_cons (ps_asg (pv 0) (pg_tup (by rfl) (pgs_cons (pg_name (i := 3) scBlw.nd rfl (.inl rfl)) (pgs_cons (pg_name (i := 4) scBlw.nd rfl (.inl rfl)) (pgs_cons (pg_name (i := 5) scBlw.nd rfl (.inl rfl)) (pgs_cons (pg_name (i := 6) scBlw.nd rfl (.inl rfl)) pgs_nil))))))
      (pss_cons (ps_if (PW.pt (pw_or (pt_cmp (pc_isN (pv 5))) (pw_or1 (pt_val (pe_call A1.G r1 rfl A1.m A1.k A1.b .nil pass0 (pa_cons (pv 1) (pa_cons (pv 5) pa_nil))))))) (pss_one (ps_ret (pe_call A2.G r2 rfl A2.m A2.k A2.b .nil pass0 (pa_cons (pv 3) (pa_cons (pv 4) (pa_cons (pv 1) (pa_cons (pv 2) pa_nil))))))) pss_nil)
      (pss_one (ps_ret (pe_call A2.G r2 rfl A2.m A2.k A2.b .nil pass0 (pa_cons (pv 3) (pa_cons (pv 4) (pa_cons (pv 5) (pa_cons (pe_and (pv 6) (pe_one (pe_or (pv 2) (pe_one (pe_cmpR (op_neS own hr hne hob) (pv 5) (pv 1) (nomark _)))))) pa_nil)))))))), ?_⟩
    obtain ⟨ta, l, hv', rfl, ht, hl, hh⟩ := hv
    refine ⟨_, rfl, ta, _, rfl, ht, rfl, _, _, rfl, _, _, rfl, _, _, rfl, _, _, rfl, rfl, ?_⟩
    have hxq : HiA C H (.ref x) (some q) := .inr ⟨q, x, rfl, rfl, hx⟩
    have hzq : HiZ (some q) := fun h e => by rw [← Option.some.inj e]; exact zq
    have cut : belowV t q b = streV t.lo t.hl (some q) b → spStreN K C [.ref l, .bl t.hl, .ref x, .bl b] H Q (fun _ _ _ => False) := fun e => ⟨l, .ref x, t.hl, b, t.lo, some q, rfl, hl, hxq, zlo, hzq, fun H' r s' o => kq H' r s' (by rw [e]; exact o)⟩
    rcases id hh with ⟨eh, rfl⟩ | ⟨h0, u, eh, rfl, hu⟩
    · refine ⟨_, rfl, true, rfl, iteT (iteT ⟨_, rfl, _, rfl, _, rfl, _, rfl, cut ?_⟩)⟩
      unfold belowV
      rw [eh]
    · have ev : belowV t q b = if q < h0 then streV t.lo t.hl (some q) b else streV t.lo t.hl (some h0) (t.hh && (b || !decide (h0 = q))) := by
        unfold belowV
        rw [eh]
      refine ⟨_, rfl, false, rfl, iteF ⟨_, rfl, _, rfl, x, u, q, h0, rfl, hx, hu, zq, zhi h0 eh, _, rfl, ?_⟩⟩
      refine ite2 (fun h => ?_) (fun h => ?_)
      · exact ⟨_, rfl, _, rfl, _, rfl, _, rfl, cut (by rw [ev, if_pos (of_decide_eq_true h)])⟩
      · have h : ¬ q < h0 := fun z => h (decide_eq_true z)
        have fin : ∀ {bb : Bool}, bb = (t.hh && (b || !decide (h0 = q))) → spStreN K C [.ref l, .bl t.hl, .ref u, .bl bb] H Q (fun _ _ _ => False) := fun {bb} e => ⟨l, .ref u, t.hl, bb, t.lo, t.hi, rfl, hl, hh, zlo, zhi, fun H' r s' o => kq H' r s' (by rw [ev, if_neg h, ← e, ← eh]; exact o)⟩
        refine ⟨_, rfl, _, rfl, _, rfl, _, rfl, t.hh, rfl, ?_⟩
        cases e1 : t.hh with
        | false => exact iteF (fin (by rw [e1]; rfl))
        | true =>
          refine iteT ⟨_, rfl, b, rfl, ?_⟩
          cases e2 : b with
          | true => exact iteT (fin (by rw [e1, e2]; rfl))
          | false =>
            refine iteF ⟨_, rfl, _, rfl, u, x, _, _, _, _, rfl, rfl, hu, hx, ?_⟩
            rw [rat_eq]
            exact fin (by rw [e1, e2]; rfl)
end
end K64

namespace K64
open PySem PySem.Spec PyProof.Rows L2
/-! ### what of a stretch moves a bed so -/
def spMoving (K : PySem.W.Frag) (C : Addr) : Sp := fun vs H Q _ => ∃ (v : V) (t fa : Addr) (mv : Int) (s : Stre) (b : Bed) (f : Rat), vs = [v, .ref t, .ref fa, .int mv] ∧ StrA K C H v s ∧ BedAt K C H t b ∧ ShQ C H fa f ∧ SzS s ∧ Sz 1500 b.lo ∧ Sz 1500 b.hi ∧ Sz 1500 f ∧ 0 ≤ f ∧ (0 < f → Sz 1500 (b.lo / f) ∧ Sz 1500 (b.hi / f)) ∧
  ∀ (H' : Hp) (r : V), Same H H' → StrO K C H' r (movingV s b f mv) → Q r H'
section
variable {P : Program} {w : World} {K : PySem.W.Frag} {mg : Str → Option Value} {base : Heap}
abbrev mvN : List Str := ["stretch", "bed", "factor", "move", "_", "low", "high", "part"]
theorem scMv : FnScope mvN ["stretch", "bed", "factor", "move"] (defScope d_part_moving) := ⟨rfl, rfl, rfl, by decide +kernel, rfl, by decide +kernel, by decide +kernel⟩
theorem ok_moving {f f1 f2 f3 f4 C CN : Addr} {fd fd1 fd2 fd3 fd4 : FuncData} (F : Fun K "part_moving" "part_moving" d_part_moving f fd) (T : Txt K mg C CN)
    (A1 : At P w K mg base CX0 2 "move_of" ["bed", "share"] (spMove K C) f1 fd1) (A2 : At P w K mg base CX0 4 "part_above" ["stretch", "share", "has_share"] (spCutS K C aboveV) f2 fd2)
    (A3 : At P w K mg base CX0 4 "part_below" ["stretch", "share", "has_share"] (spCutS K C belowV) f3 fd3) (A4 : At P w K mg base CX0 4 "over" ["one", "other"] (spOver C) f4 fd4) :
    FnOk P w K mg base CX0 5 f fd ["stretch", "bed", "factor", "move"] (spMoving K C) := by
  refine F.ok scMv (fun vs H Q E h => ?_) (fun cdv A outer s H vs Q E hr h => ?_)
  · obtain ⟨_, _, _, _, _, _, _, rfl, _⟩ := h
    rfl
  · obtain ⟨v, t, fa, mv, st, b, fq, rfl, hv, ⟨x, y, ht, hx, hy⟩, hf, ⟨zl, zh⟩, slo, shi, sf, f0, sq, kq⟩ := h
    have r2 : Room 2 _ := hr.mono (by decide)
    refine ⟨_, pss_cons (ps_asg (pv 1) (pg_tup (by rfl) (pgs_cons (pg_name (i := 4) scMv.nd rfl (.inl rfl)) (pgs_cons (pg_name (i := 4) scMv.nd rfl (.inl rfl)) (pgs_cons (pg_name (i := 5) scMv.nd rfl (.inl rfl)) (pgs_cons (pg_name (i := 6) scMv.nd rfl (.inl rfl)) pgs_nil))))))
      (pss_cons (ps_if (pt_cmpR op_eq (pe_fld (pv 2) rfl) pe_int (nomark _)) (pss_one (ps_ret (pe_ifExp (pt_cmpR op_eq (pe_call A1.G r2 rfl A1.m A1.k A1.b .nil pass0 (pa_cons (pv 1) (pa_cons (pv 2) pa_nil))) (pv 3) (nomark _)) (pv 0) pe_non))) pss_nil)
      (pss_cons (ps_if (pt_cmpR op_eq (pv 3) pe_int (nomark _)) (pss_one (ps_ret (pe_call A2.G hr rfl A2.m A2.k A2.b .nil pass0 (pa_cons (pv 0) (pa_cons (pe_call A4.G hr rfl A4.m A4.k A4.b .nil pass0 (pa_cons (pv 6) (pa_cons (pv 2) pa_nil))) (pa_cons pe_bl pa_nil)))))) pss_nil)
      (pss_cons (ps_if (pt_cmpR op_eq (pv 3) (pe_un un_neg pe_int) (nomark _)) (pss_one (ps_ret (pe_call A3.G hr rfl A3.m A3.k A3.b .nil pass0 (pa_cons (pv 0) (pa_cons (pe_call A4.G hr rfl A4.m A4.k A4.b .nil pass0 (pa_cons (pv 5) (pa_cons (pv 2) pa_nil))) (pa_cons pe_bl pa_nil)))))) pss_nil)
      (pss_cons (ps_set (i := 7) scMv.nd rfl (Or.inl rfl) (pe_ifExp (pt_cmpR op_eq (pv 3) pe_int (nomark _)) (pe_call A2.G hr rfl A2.m A2.k A2.b .nil pass0 (pa_cons (pv 0) (pa_cons (pe_call A4.G hr rfl A4.m A4.k A4.b .nil pass0 (pa_cons (pv 5) (pa_cons (pv 2) pa_nil))) (pa_cons pe_bl pa_nil)))) pe_non))
      (pss_one (ps_ret (pe_ifExp (pt_cmp (pc_isN (pv 7))) pe_non (pe_call A3.G hr rfl A3.m A3.k A3.b .nil pass0 (pa_cons (pv 7) (pa_cons (pe_call A4.G hr rfl A4.m A4.k A4.b .nil pass0 (pa_cons (pv 6) (pa_cons (pv 2) pa_nil))) (pa_cons pe_bl pa_nil))))))))))), ?_⟩
    obtain ⟨df, ef⟩ := id hf
    refine ⟨_, rfl, t, _, rfl, ht, rfl, _, _, rfl, _, _, rfl, _, _, rfl, _, _, rfl, rfl, ?_⟩
    refine ⟨_, rfl, fa, C, df, _, _, rfl, ef, T.cl, T.nT, shf_top .., rfl, _, rfl, ?_⟩
    have nz : (fq.num = 0) ↔ fq = 0 := Rat.num_eq_zero
    unfold movingV at kq
    by_cases c0 : fq = 0
    · rw [decI, decide_eq_true (nz.mpr c0)]
      rw [if_pos c0] at kq
      refine iteT ⟨_, rfl, _, rfl, t, fa, b, fq, rfl, ⟨x, y, ht, hx, hy⟩, hf, slo, shi, sf, _, rfl, rfl, _, rfl, ?_⟩
      rw [decI]
      by_cases c : mvV b fq = mv
      · rw [decide_eq_true c]
        rw [if_pos c] at kq
        exact iteT ⟨_, rfl, kq H v (Same.refl _) (.inr ⟨_, rfl, hv⟩)⟩
      · rw [decide_eq_false c]
        rw [if_neg c] at kq
        exact iteF (kq H .non (Same.refl _) (.inl ⟨rfl, rfl⟩))
    rw [decI, decide_eq_false (fun z => c0 (nz.mp z))]
    rw [if_neg c0] at kq
    have fp : 0 < fq := by grind
    obtain ⟨zlo, zhi⟩ := sq fp
    refine iteF ⟨_, rfl, rfl, _, rfl, ?_⟩
    rw [decI]
    by_cases c1 : mv = 1
    · rw [decide_eq_true c1]
      rw [if_pos c1] at kq
      refine iteT ⟨_, rfl, _, rfl, _, rfl, y, fa, b.hi, fq, rfl, hy, hf, shi, sf, fp, fun H1 o s1 ho => ?_⟩
      exact ⟨v, o, st, _, true, rfl, hv.mono s1, ho, ⟨zl, zh⟩, zhi, fun H2 r s2 q => kq H2 r (s1.trans s2) q⟩
    rw [decide_eq_false c1]
    rw [if_neg c1] at kq
    refine iteF ⟨_, rfl, 1, rfl, rfl, _, rfl, ?_⟩
    rw [decI]
    by_cases c2 : mv = -1
    · rw [decide_eq_true c2]
      rw [if_pos c2] at kq
      refine iteT ⟨_, rfl, _, rfl, _, rfl, x, fa, b.lo, fq, rfl, hx, hf, slo, sf, fp, fun H1 o s1 ho => ?_⟩
      exact ⟨v, o, st, _, true, rfl, hv.mono s1, ho, ⟨zl, zh⟩, zlo, fun H2 r s2 q => kq H2 r (s1.trans s2) q⟩
    rw [decide_eq_false c2]
    rw [if_neg c2] at kq
    refine iteF ⟨_, rfl, rfl, _, rfl, ?_⟩
    rw [decI]
    by_cases c3 : mv = 0
    · rw [decide_eq_true c3]
      rw [if_pos c3] at kq
      refine iteT ⟨_, rfl, _, rfl, _, rfl, x, fa, b.lo, fq, rfl, hx, hf, slo, sf, fp, fun H1 o s1 ho => ?_⟩
      refine ⟨v, o, st, _, false, rfl, hv.mono s1, ho, ⟨zl, zh⟩, zlo, fun H2 r s2 q => ?_⟩
      have s12 := s1.trans s2
      rcases q with ⟨eo, rfl⟩ | ⟨u, eo, hu⟩
      · rw [eo] at kq
        exact ⟨_, rfl, true, rfl, iteT (kq H2 .non s12 (.inl ⟨rfl, rfl⟩))⟩
      · rw [eo] at kq
        obtain ⟨p1, p2, _⟩ := above_ends (p := Sz 1500) eo zl zh fun _ => zlo
        obtain ⟨tu, lu, hu', rfl, hu2⟩ := id hu
        refine ⟨_, rfl, false, rfl, iteF ⟨_, rfl, _, rfl, _, rfl, y, fa, b.hi, fq, rfl, hy.mono s12, hf.mono s12, shi, sf, fp, fun H3 o3 s3 ho3 => ?_⟩⟩
        exact ⟨_, o3, u, _, false, rfl, hu.mono s3, ho3, ⟨p1, p2⟩, zhi, fun H4 r s4 q => kq H4 r (s12.trans (s3.trans s4)) q⟩
    · rw [decide_eq_false c3]
      rw [if_neg c3] at kq
      exact iteF ⟨_, rfl, true, rfl, iteT (kq H .non (Same.refl _) (.inl ⟨rfl, rfl⟩))⟩
end
end K64

namespace K64
open PySem PySem.Spec PyProof.Rows L2
/-! ### what each bed bears of what falls at one place -/
theorem at_ok {W : WebV} (p : Nat) : RainOk W 1 1 (atR W p 1) := by
  have m : ∀ q ∈ atR W p 1, q = 1 ∨ q = 0 := fun q hq => by
    obtain ⟨j, _, rfl⟩ := List.mem_map.mp hq
    show (if j = p then (1 : Rat) else 0) = 1 ∨ _
    split
    · exact .inl rfl
    · exact .inr rfl
  refine ⟨by unfold atR; rw [List.length_map, List.length_range], fun q hq => ?_, fun q hq => ?_, by decide, Nat.one_lt_two_pow (by decide), by decide⟩
  · rcases m q hq with z | z <;> rw [z]
    · exact ⟨1, by grind, by decide⟩
    · exact lim_zero
  · rcases m q hq with z | z <;> rw [z] <;> decide
def spFlowF (K : PySem.W.Frag) (C CW : Addr) : Sp := fun vs H Q _ => ∃ (w t : Addr) (W : WebV) (leads : List Bool) (p : Nat), vs = [.ref w, .ref t, .int (p : Int)] ∧ WebAt K C CW H w W ∧ SqT K H t (leads.map V.bl) ∧ leads.length = W.many ∧
  ∀ (H' : Hp) (u wl bl : Addr), Same H H' → H' u = some (.tup [.ref wl, .ref bl]) → (∃ ps : List Addr, H' bl = some (.lst (ps.map V.ref)) ∧ ShQs C H' ps (flowV W leads (atR W p 1) W.many).2) → Q (.ref u) H'
section
variable {P : Program} {w : World} {K : PySem.W.Frag} {mg : Str → Option Value} {base : Heap}
abbrev ffN : List Str := ["web", "leads", "place", "rain", "each"]
theorem scFf : FnScope ffN ["web", "leads", "place"] (defScope d_flow_from) := ⟨rfl, rfl, rfl, by decide +kernel, rfl, by decide +kernel, by decide +kernel⟩
theorem ok_flowF {f f1 fI C CN CW : Addr} {fd fd1 fdI : FuncData} {u0 : Value} (F : Fun K "flow_from" "flow_from" d_flow_from f fd) (T : Txt K mg C CN) (TW : CrsW K CW) (Y : TxtW mg C) (hrange : mg "range" = none)
    (M : Mk K C fI) (GI : FnOk P w K mg base (L2.CX P w) 2 fI fdI ["self", "top", "bottom"] (spInit C CN)) (bI1 : Binds K fdI ["self", "top", "bottom"] [u0]) (vd : Vals [.int 1] [u0])
    (A1 : At P w K mg base CX0 6 "flow_of" ["web", "leads", "rain"] (spFlow K C CW) f1 fd1) : FnOk P w K mg base CX0 7 f fd ["web", "leads", "place"] (spFlowF K C CW) := by
  refine F.ok scFf (fun vs H Q E h => ?_) (fun cdv A outer s H vs Q E hr h => ?_)
  · obtain ⟨_, _, _, _, _, rfl, _⟩ := h
    rfl
  · obtain ⟨w0, t, W, leads, p, rfl, hW, ht, ll, q⟩ := h
    have r3 : Room 3 _ := hr.mono (by decide)
    refine ⟨_, pss_cons (ps_set (i := 3) scFf.nd rfl (Or.inl rfl) (pe_callTy (cr_tup (K := K) rfl) (by rfl) Y.tuple (by decide +kernel) (pa_cons
        (pe_lc (own := [("each", 4)]) (g := gName 4) (by rfl) scFf.nd (pi_range1 (by rfl) hrange (pa_cons (pe_fld (pv 0) rfl) pa_nil)) (blkOk_by (own := [("each", 4)]) (N := ffN) (sc := defScope d_flow_from) (by decide +kernel)) (fun _ _ _ _ _ => pg_name (i := 4) scFf.nd rfl (.inl rfl)) (fun _ _ _ _ _ => pts_nil)
          (fun _ _ _ _ _ => pe_ifExp (pt_cmpR op_eq (pv 4) (pv 2) (nomark _)) (pe_make M GI r3 rfl T.mgC bI1 vd passL (pa_cons pe_int pa_nil)) (pe_make M GI r3 rfl T.mgC bI1 vd passL (pa_cons pe_int pa_nil)))) pa_nil)))
      (pss_one (ps_ret (pe_call A1.G hr rfl A1.m A1.k A1.b .nil pass0 (pa_cons (pv 0) (pa_cons (pv 1) (pa_cons (pv 3) pa_nil)))))), ?_⟩
    obtain ⟨dx, bl0, pl0, ew, hb, hp, g⟩ := id hW
    have m8 := g.m8
    refine ⟨_, rfl, w0, CW, dx, _, _, rfl, ew, TW.cl, TW.nm, webF_many .., _, rfl, by omega, by omega, fun D hD => ?_⟩
    refine lc_range (lo := 0) (n := ((W.many : Nat) : Int).toNat) (fun i N => ∃ us : List Addr, N D = some (.lst (us.map V.ref)) ∧ ShQs C N us ((List.range i).map fun j => if j = p then (1 : Rat) else 0) ∧ Same H N) ⟨[], upd_same, .nil, same1 hD⟩ ?_ ?_
    · rintro i N hi ⟨us, eD, hus, sN⟩
      have snoc : ∀ {N1 : Hp} {x : Addr} {qv : Rat}, Same N N1 → ShQ C N1 x qv → qv = (if i = p then (1 : Rat) else 0) → ∃ acc, N1 D = some (.lst acc) ∧ acc.length < sizeLine ∧ ∃ us2 : List Addr, (upd N1 D (.lst (acc ++ [V.ref x]))) D = some (.lst (us2.map V.ref)) ∧ ShQs C (upd N1 D (.lst (acc ++ [V.ref x]))) us2 ((List.range (i + 1)).map fun j => if j = p then (1 : Rat) else 0) ∧ Same H (upd N1 D (.lst (acc ++ [V.ref x]))) := fun {N1 x qv} s1 hx e => by
        have eD1 := s1 _ _ eD
        refine ⟨_, eD1, ?_, us ++ [x], by rw [List.map_append]; exact upd_same, ?_, fun b o eb => ?_⟩
        · rw [List.length_map, hus.len, List.length_map, List.length_range]
          exact Nat.lt_of_lt_of_le (show i < 8 by omega) (by decide)
        · rw [List.range_succ, List.map_append]
          exact All2.snoc ((ShQs.mono hus s1).put eD1) (by
            show ShQ C _ x (if i = p then (1 : Rat) else 0)
            rw [← e]
            exact hx.put eD1)
        · rw [upd_ne (ne_of_none eb hD)]
          exact s1 _ _ (sN _ _ eb)
      refine ⟨rfl, _, rfl, _, rfl, rfl, _, rfl, ?_⟩
      rw [decI]
      by_cases c : i = p
      · rw [decide_eq_true (show (0 + (i : Int)) = (p : Int) by omega)]
        refine iteT fun x1 dx1 nx1 nd1 _ => ⟨x1, dx1, 1, 1, rfl, upd_same, by decide, by decide, fun e => absurd e (by decide), fun _ N1 g1 k1 => ⟨rfl, ?_⟩⟩
        have h1 : ShQ C N1 x1 1 := by
          have := shq_low (t := 1) (b := 1) (by decide) ⟨dx1, g1⟩
          rwa [show (((1 : Int) : Rat) / ((1 : Int) : Rat)) = 1 by decide +kernel] at this
        exact snoc (made_same (C := C) nx1 nd1 k1) h1 (by rw [if_pos c])
      · rw [decide_eq_false (show ¬ (0 + (i : Int)) = (p : Int) by omega)]
        refine iteF fun x1 dx1 nx1 nd1 _ => ⟨x1, dx1, 0, 1, rfl, upd_same, by decide, by decide, fun e => absurd e (by decide), fun _ N1 g1 k1 => ⟨rfl, ?_⟩⟩
        have h1 : ShQ C N1 x1 0 := by
          have := shq_low (t := 0) (b := 1) (by decide) ⟨dx1, g1⟩
          rwa [show (((0 : Int) : Rat) / ((1 : Int) : Rat)) = 0 by decide +kernel] at this
        exact snoc (made_same (C := C) nx1 nd1 k1) h1 (by rw [if_neg c])
    rintro N ⟨us, eD, hus, sN⟩
    rw [Int.toNat_natCast] at hus
    refine ⟨D, _, rfl, .inl ⟨SqL.of eD, fun r hr0 => ?_⟩⟩
    have s3 : Same N (upd N r (.tup (us.map V.ref))) := same1 hr0
    have er : (upd N r (.tup (us.map V.ref)) : Hp) r = some (.tup (us.map V.ref)) := upd_same
    generalize upd N r (.tup (us.map V.ref)) = N1 at *
    have sH := sN.trans s3
    refine ⟨_, rfl, _, rfl, _, rfl, w0, t, r, W, leads, atR W p 1, 1, 1, rfl, hW.mono sH, Same.tup sH ht, ll, ⟨us, SqT.of er, ShQs.mono hus s3⟩, at_ok p, fun N2 u wl bl u2 eu nw nb ne sw sb => ?_⟩
    exact q N2 u wl bl (sH.trans u2) eu sb
end
end K64

namespace K64
open PySem PySem.Spec PyProof.Rows L2
/-! ### all amounts; which of them lead there -/
def spAllA (K : PySem.W.Frag) (C : Addr) : Sp := fun vs H Q _ => vs = [] ∧ ∀ (H' : Hp) (v : V), Same H H' → StrA K C H' v allS → Q v H'
def spCheckP (K : PySem.W.Frag) (C CW : Addr) : Sp := fun vs H Q _ => ∃ (w : Addr) (W : WebV) (p : Nat), vs = [.ref w, .int (p : Int)] ∧ WebAt K C CW H w W ∧ p < W.many ∧ ∀ H', Same H H' → Q .non H'
/-- what each bed asks of an amount -/
def bedV (W : WebV) (k : Nat) : Bed := (W.beds[k]?).getD ⟨0, 0, 0, 0⟩
def askV (W : WebV) (ds ls : List Int) (p : Nat) : List (Bed × Rat × Int) := (List.range W.beds.length).map fun k => (bedV W k, gQ (facV W ds p) k, (ls[k]?).getD 0 - (ds[k]?).getD 0)
section
variable {P : Program} {w : World} {K : PySem.W.Frag} {mg : Str → Option Value} {base : Heap}
theorem scAllA : FnScope [] [] (defScope d_all_amounts) := ⟨rfl, rfl, rfl, by decide +kernel, rfl, by decide +kernel, by decide +kernel⟩
theorem ok_allA {f fI C CN : Addr} {fd fdI : FuncData} {u0 : Value} (F : Fun K "all_amounts" "all_amounts" d_all_amounts f fd) (T : Txt K mg C CN)
    (M : Mk K C fI) (GI : FnOk P w K mg base (L2.CX P w) 2 fI fdI ["self", "top", "bottom"] (spInit C CN)) (bI1 : Binds K fdI ["self", "top", "bottom"] [u0]) (vd : Vals [.int 1] [u0]) : FnOk P w K mg base CX0 4 f fd [] (spAllA K C) := by
  refine F.ok scAllA (fun vs H Q E h => ?_) (fun cdv A outer s H vs Q E hr h => ?_)
  · obtain ⟨rfl, _⟩ := h
    rfl
  · obtain ⟨rfl, q⟩ := h
    refine ⟨_, pss_one (ps_ret (pe_tup (pa_cons (pe_make M GI hr rfl T.mgC bI1 vd passL (pa_cons pe_int pa_nil)) (pa_cons pe_bl (pa_cons pe_non (pa_cons pe_bl pa_nil)))))), ?_⟩
    refine fun x1 dx1 nx1 nd1 _ => ⟨x1, dx1, 0, 1, rfl, upd_same, by decide, by decide, fun e => absurd e (by decide), fun _ N1 g1 k1 => ⟨rfl, (by show 4 ≤ sizeLine; decide), fun U hU => ?_⟩⟩
    have s1 : Same H N1 := made_same (C := C) nx1 nd1 k1
    have h1 : ShQ C N1 x1 0 := by
      have := shq_low (t := 0) (b := 1) (by decide) ⟨dx1, g1⟩
      rwa [show (((0 : Int) : Rat) / ((1 : Int) : Rat)) = 0 by decide +kernel] at this
    have s2 := same1 (o := .tup [.ref x1, .bl true, .non, .bl false]) hU
    exact q _ _ (s1.trans s2) ⟨U, x1, .non, rfl, SqT.of upd_same, h1.mono s2, .inl ⟨rfl, rfl⟩⟩
end
end K64

namespace K64
open PySem PySem.Spec PyProof.Rows L2
def spIsP (K : PySem.W.Frag) (C CW : Addr) : Sp := fun vs H Q _ => ∃ (w : Addr) (W : WebV) (p : Nat), vs = [.ref w, .int (p : Int)] ∧ WebAt K C CW H w W ∧ p < W.many ∧ ∀ H', Same H H' → Q (.bl true) H'
section
variable {P : Program} {w : World} {K : PySem.W.Frag} {mg : Str → Option Value} {base : Heap}
theorem scIsP : FnScope ["web", "thing"] ["web", "thing"] (defScope d_is_place) := ⟨rfl, rfl, rfl, by decide +kernel, rfl, by decide +kernel, by decide +kernel⟩
theorem ok_isP {f f1 C CW : Addr} {fd fd1 : FuncData} (F : Fun K "is_place" "is_place" d_is_place f fd) (TW : CrsW K CW) (A1 : At P w K mg base CX0 2 "is_between" ["thing", "least", "most"] spBetweenI f1 fd1) : FnOk P w K mg base CX0 3 f fd ["web", "thing"] (spIsP K C CW) := by
  refine F.ok scIsP (fun vs H Q E h => ?_) (fun cdv A outer s H vs Q E hr h => ?_)
  · obtain ⟨_, _, _, rfl, _⟩ := h
    rfl
  · obtain ⟨w0, W, p, rfl, hW, hp, q⟩ := h
    refine ⟨_, pss_one (ps_ret (pe_call A1.G hr rfl A1.m A1.k A1.b .nil pass0 (pa_cons (pv 1) (pa_cons pe_int (pa_cons (pe_op op_sub (pe_fld (pv 0) rfl) pe_int) pa_nil))))), ?_⟩
    obtain ⟨dx, bl0, pl0, ew, _⟩ := id hW
    refine ⟨_, rfl, _, rfl, w0, CW, dx, _, _, rfl, ew, TW.cl, TW.nm, webF_many .., _, _, rfl, rfl, (p : Int), 0, (W.many : Int) - 1, rfl, ?_⟩
    rw [decide_eq_true (show (0 : Int) ≤ (p : Int) by omega), decide_eq_true (show (p : Int) ≤ (W.many : Int) - 1 by omega)]
    exact q H (Same.refl _)
theorem scChP : FnScope ["web", "thing"] ["web", "thing"] (defScope d_check_place) := ⟨rfl, rfl, rfl, by decide +kernel, rfl, by decide +kernel, by decide +kernel⟩
theorem ok_checkP {f f1 C CW : Addr} {fd fd1 : FuncData} (F : Fun K "check_place" "check_place" d_check_place f fd) (A1 : At P w K mg base CX0 3 "is_place" ["web", "thing"] (spIsP K C CW) f1 fd1) : FnOk P w K mg base CX0 4 f fd ["web", "thing"] (spCheckP K C CW) := by
  refine F.ok scChP (fun vs H Q E h => ?_) (fun cdv A outer s H vs Q E hr h => ?_)
  · obtain ⟨_, _, _, rfl, _⟩ := h
    rfl
  · obtain ⟨w0, W, p, rfl, hw, hp, q⟩ := h
    refine ⟨_, pss_one (ps_if (pt_not (pt_val (pe_call A1.G hr rfl A1.m A1.k A1.b .nil pass0 (pa_cons (pv 0) (pa_cons (pv 1) pa_nil))))) (pss_one ps_never) pss_nil), ?_⟩
    exact ⟨_, rfl, _, rfl, w0, W, p, rfl, hw, hp, fun H1 s1 => ⟨true, rfl, iteF (q H1 s1)⟩⟩
end
end K64

namespace K64
open PySem PySem.Spec PyProof.Rows L2
def spBetw (K : PySem.W.Frag) (C CW : Addr) : Sp := fun vs H Q _ => ∃ (w d l : Addr) (W : WebV) (ds ls : List Int) (p : Nat), vs = [.ref w, .ref d, .ref l, .int (p : Int)] ∧ WebAt K C CW H w W ∧ SqT K H d (ds.map V.int) ∧ ds.length = W.beds.length ∧ SqT K H l (ls.map V.int) ∧ ls.length = W.beds.length ∧ p < W.many ∧
  (∀ f ∈ facV W ds p, 0 ≤ f) ∧ (∀ b ∈ W.beds, ∀ f ∈ facV W ds p, 0 < f → Sz 1500 (b.lo / f) ∧ Sz 1500 (b.hi / f)) ∧ ∀ (H' : Hp) (r : V), Same H H' → StrO K C H' r (amtV (askV W ds ls p) allS) → Q r H'
theorem ask_drop {W : WebV} {ds ls : List Int} {p i : Nat} (h : i < W.beds.length) (hd : i < ds.length) (hl : i < ls.length) : (askV W ds ls p).drop i = (W.beds[i], gQ (facV W ds p) i, ls[i] - ds[i]) :: (askV W ds ls p).drop (i + 1) := by
  unfold askV
  rw [List.drop_eq_getElem_cons (by rw [List.length_map, List.length_range]; exact h), List.getElem_map, List.getElem_range]
  unfold bedV
  rw [List.getElem?_eq_getElem h, List.getElem?_eq_getElem hd, List.getElem?_eq_getElem hl]
  rfl
theorem moving_sz {s t : Stre} {b : Bed} {f : Rat} {mv : Int} (e : movingV s b f mv = some t) (z : SzS s) (q : f ≠ 0 → Sz 1500 (b.lo / f) ∧ Sz 1500 (b.hi / f)) : SzS t := by
  unfold movingV at e
  split at e
  · split at e
    · obtain rfl := Option.some.inj e
      exact z
    · cases e
  · rename_i nz
    obtain ⟨q1, q2⟩ := q nz
    split at e
    · obtain ⟨a, c, _⟩ := above_ends (p := Sz 1500) e z.1 z.2 fun _ => q2
      exact ⟨a, c⟩
    · split at e
      · obtain ⟨a, c, _⟩ := below_ends (p := Sz 1500) e z.1 z.2 fun _ => q1
        exact ⟨a, c⟩
      · split at e
        · cases ea : aboveV s (b.lo / f) false with
          | none =>
            rw [ea] at e
            cases e
          | some u =>
            rw [ea] at e
            obtain ⟨a, c, _⟩ := above_ends (p := Sz 1500) ea z.1 z.2 fun _ => q1
            obtain ⟨a', c', _⟩ := below_ends (p := Sz 1500) e a c fun _ => q2
            exact ⟨a', c'⟩
        · cases e
section
variable {P : Program} {w : World} {K : PySem.W.Frag} {mg : Str → Option Value} {base : Heap}
abbrev btN : List Str := ["web", "depths", "later", "place", "factors", "stretch", "at", "bed"]
theorem scBt : FnScope btN ["web", "depths", "later", "place"] (defScope d_rains_between) := ⟨rfl, rfl, rfl, by decide +kernel, rfl, by decide +kernel, by decide +kernel⟩
theorem ok_betw {f f1 f2 f3 f4 f5 f6 f7 C CW : Addr} {fd fd1 fd2 fd3 fd4 fd5 fd6 fd7 : FuncData} (F : Fun K "rains_between" "rains_between" d_rains_between f fd) (TW : CrsW K CW) (Y : TxtW mg C)
    (A1 : At P w K mg base CX0 3 "check_depths" ["web", "thing"] (spCheckD K C CW) f1 fd1) (A2 : At P w K mg base CX0 4 "check_place" ["web", "thing"] (spCheckP K C CW) f2 fd2) (A3 : At P w K mg base CX0 2 "gaps_of" ["web", "numbers"] (spGaps K C CW) f3 fd3) (A4 : At P w K mg base CX0 1 "leads_of" ["gaps"] (spLeads K) f4 fd4)
    (A5 : At P w K mg base CX0 7 "flow_from" ["web", "leads", "place"] (spFlowF K C CW) f5 fd5) (A6 : At P w K mg base CX0 4 "all_amounts" [] (spAllA K C) f6 fd6) (A7 : At P w K mg base CX0 5 "part_moving" ["stretch", "bed", "factor", "move"] (spMoving K C) f7 fd7) :
    FnOk P w K mg base CX0 8 f fd ["web", "depths", "later", "place"] (spBetw K C CW) := by
  refine F.ok scBt (fun vs H Q E h => ?_) (fun cdv A outer s H vs Q E hr h => ?_)
  · obtain ⟨_, _, _, _, _, _, _, rfl, _⟩ := h
    rfl
  · obtain ⟨w0, d, l, W, ds, ls, p, rfl, hW, hd, ld, hl, ll, hp, nn, hz, q⟩ := h
    have r1 : Room 1 _ := hr.mono (by decide)
    have r2 : Room 2 _ := hr.mono (by decide)
    have r3 : Room 3 _ := hr.mono (by decide)
    have r4 : Room 4 _ := hr.mono (by decide)
    have r5 : Room 5 _ := hr.mono (by decide)
    refine ⟨_, pss_cons (ps_expr (pe_call A1.G r3 rfl A1.m A1.k A1.b .nil pass0 (pa_cons (pv 0) (pa_cons (pv 1) pa_nil))))
      (pss_cons (ps_expr (pe_call A1.G r3 rfl A1.m A1.k A1.b .nil pass0 (pa_cons (pv 0) (pa_cons (pv 2) pa_nil))))
      (pss_cons (ps_expr (pe_call A2.G r4 rfl A2.m A2.k A2.b .nil pass0 (pa_cons (pv 0) (pa_cons (pv 3) pa_nil))))
      (pss_cons (ps_set (i := 4) scBt.nd rfl (Or.inl rfl) (pe_ix (show IxR _ (rIxT K) from ix_tup) (pe_call A5.G hr rfl A5.m A5.k A5.b .nil pass0 (pa_cons (pv 0) (pa_cons (pe_call A4.G r1 rfl A4.m A4.k A4.b .nil pass0 (pa_cons (pe_call A3.G r2 rfl A3.m A3.k A3.b .nil pass0 (pa_cons (pv 0) (pa_cons (pv 1) pa_nil))) pa_nil)) (pa_cons (pv 3) pa_nil)))) pe_int (fun _ _ => rfl)))
      (pss_cons (ps_set (i := 5) scBt.nd rfl (Or.inl rfl) (pe_call0 A6.G r4 rfl A6.m A6.k A6.b .nil pass0))
      (pss_cons (ps_for PassesOwn.never rfl (pi_enum (by rfl) Y.enumerate (pa_cons (pe_fld (pv 0) rfl) pa_nil)) (pg_tup (by rfl) (pgs_cons (pg_name (i := 6) scBt.nd rfl (.inl rfl)) (pgs_cons (pg_name (i := 7) scBt.nd rfl (.inl rfl)) pgs_nil)))
        (pss_cons (ps_set (i := 5) scBt.nd rfl (Or.inl rfl) (pe_call A7.G r5 rfl A7.m A7.k A7.b .nil pass0 (pa_cons (pv 5) (pa_cons (pv 7) (pa_cons (pe_ix ix_list (pv 4) (pv 6) (fun _ _ => rfl)) (pa_cons (pe_op op_sub (pe_ix ix_tup (pv 2) (pv 6) (fun _ _ => rfl)) (pe_ix ix_tup (pv 1) (pv 6) (fun _ _ => rfl))) pa_nil))))))
        (pss_one (ps_if (pt_cmp (pc_isN (pv 5))) (pss_one (ps_ret pe_non)) pss_nil))))
      (pss_one (ps_ret (pv 5)))))))), ?_⟩
    obtain ⟨_, _, _, _, _, _, g⟩ := id hW
    have m8 := g.m8
    have few := g.few
    refine ⟨_, rfl, _, rfl, w0, d, W, ds, rfl, hW, hd, ld, fun H1 s1 => ?_⟩
    refine ⟨_, rfl, _, rfl, w0, l, W, ls, rfl, hW.mono s1, Same.tup s1 hl, ll, fun H2 s2 => ?_⟩
    have s02 := s1.trans s2
    refine ⟨_, rfl, _, rfl, w0, W, p, rfl, hW.mono s02, hp, fun H3 s3 => ?_⟩
    have s03 := s02.trans s3
    refine ⟨_, rfl, _, rfl, _, rfl, w0, d, W, ds, rfl, hW.mono s03, Same.tup s03 hd, ld, fun H4 gt s4 egt => ?_⟩
    refine ⟨gt, gapsV W ds, rfl, SqT.of egt, by rw [gaps_len]; omega, fun H5 lt s5 elt => ?_⟩
    have s05 := s03.trans (s4.trans s5)
    refine ⟨_, rfl, w0, lt, W, leadsV (gapsV W ds), p, rfl, hW.mono s05, SqT.of elt, by rw [leads_len, gaps_len], fun H6 u wl bl s6 eu ⟨ps, ebl, hps⟩ => ?_⟩
    have s06 := s05.trans s6
    refine ⟨u, _, _, _, rfl, rfl, SqT.of eu, at_k (by decide) rfl, ?_⟩
    refine ⟨rfl, fun H7 v0 s7 hv0 => ?_⟩
    have s07 := s06.trans s7
    have hps : ShQs C H6 ps (facV W ds p) := hps
    have lps := hps.len
    have lf : (facV W ds p).length = W.beds.length := flow_all g _ _
    have szf : ∀ x ∈ facV W ds p, Sz 1500 x := (flow_szB g (leadsV (gapsV W ds)) (at_ok p) (Nat.le_refl _)).2
    obtain ⟨dx, bl0, pl0, ew, ⟨ts, hb, hts⟩, _⟩ := hW.mono s07
    have lts := hts.len
    refine ⟨_, rfl, w0, CW, dx, _, _, rfl, ew, TW.cl, TW.nb, webF_beds .., bl0, _, rfl, SqL.of hb, ?_⟩
    refine for_it (walk_enum (K := K) (a := bl0) (xs := ts.map V.ref)) (fun i σ G => ∃ (v : V) (st : Stre) (v6 v7 : Option V), σ = [some (.ref w0), some (.ref d), some (.ref l), some (.int (p : Int)), some (.ref bl), some v, v6, v7] ∧ StrA K C G v st ∧ SzS st ∧ amtV ((askV W ds ls p).drop i) st = amtV (askV W ds ls p) allS ∧ Same H7 G)
      ⟨v0, allS, none, none, rfl, hv0, ⟨(lim_zero (M := 1) (k := 1)).sz (by decide) (Nat.one_lt_two_pow (by decide)) (by decide), fun _ z => nomatch z⟩, rfl, Same.refl _⟩ ?_ ?_ ?_
    · rintro i σ G _ ⟨_, _, _, _, rfl, _, _, _, sG⟩
      exact SqL.of (sG _ _ hb)
    · rintro i x σ G G' hi ⟨v, st, v6, v7, rfl, hv, hs, ea, sG⟩ ⟨TT, x1, x2, rfl, hT, rfl, e1, e2⟩
      obtain rfl := Option.some.inj e1
      have e2 : (ts.map V.ref)[i]? = some x2 := e2
      rw [List.getElem?_map] at e2
      obtain ⟨tb, htb, rfl⟩ := Option.map_eq_some_iff.mp e2
      have il : i < W.beds.length := by
        have := (List.getElem?_eq_some_iff.mp htb).1
        omega
      have t1 : Same G (upd G TT (.tup [.int (i : Nat), .ref tb])) := same1 hT
      refine ⟨TT, _, rfl, SqT.of upd_same, rfl, _, _, rfl, _, _, rfl, rfl, ?_⟩
      generalize upd G TT (.tup [.int (i : Nat), .ref tb]) = G1 at *
      have sG1 := sG.trans t1
      have s1G := s07.trans sG1
      have bed := (hts.all i tb _ htb (List.getElem?_eq_getElem il)).mono sG1
      have gb := g.bed _ (List.getElem_mem il)
      have fi : i < (facV W ds p).length := by omega
      have pi : i < ps.length := by omega
      have hfi : ShQ C G1 ps[i] (facV W ds p)[i] := (hps.all i _ _ (List.getElem?_eq_getElem pi) (List.getElem?_eq_getElem fi)).mono (s7.trans sG1)
      have gq : gQ (facV W ds p) i = (facV W ds p)[i] := by unfold gQ; rw [List.getElem?_eq_getElem fi]; rfl
      have memf : (facV W ds p)[i] ∈ facV W ds p := List.getElem_mem fi
      have hdi : i < ds.length := by omega
      have hli : i < ls.length := by omega
      rw [ask_drop il hdi hli, gq] at ea
      have zb := hz _ (List.getElem_mem il) _ memf
      have nf := nn _ memf
      have szi := szf _ memf
      generalize (facV W ds p)[i] = fq at *
      refine ⟨_, rfl, _, rfl, _, rfl, _, rfl, bl, _, _, _, rfl, rfl, SqL.of ((s7.trans sG1) _ _ ebl), atI_nat (v := .ref ps[i]) (by rw [List.getElem?_map, List.getElem?_eq_getElem pi]; rfl), ?_⟩
      refine ⟨_, rfl, _, rfl, l, _, _, _, rfl, rfl, Same.tup s1G hl, atI_nat (v := .int ls[i]) (by rw [List.getElem?_map, List.getElem?_eq_getElem hli]; rfl), _, rfl, _, rfl, d, _, _, _, rfl, rfl, Same.tup s1G hd, atI_nat (v := .int ds[i]) (by rw [List.getElem?_map, List.getElem?_eq_getElem hdi]; rfl), _, _, rfl, rfl, ?_⟩
      refine ⟨v, tb, ps[i], ls[i] - ds[i], st, W.beds[i], fq, rfl, hv.mono t1, bed, hfi, hs, gb.slo, gb.shi, szi, nf, zb, fun G2 r t2 ho => ?_⟩
      have ea : (movingV st W.beds[i] fq (ls[i] - ds[i])).bind (amtV ((askV W ds ls p).drop (i + 1))) = amtV (askV W ds ls p) allS := ea
      rcases ho with ⟨eo, rfl⟩ | ⟨st2, eo, ho⟩
      · rw [eo] at ea
        refine ⟨_, rfl, true, rfl, iteT ?_⟩
        exact q G2 .non (s1G.trans t2) (.inl ⟨ea.symm, rfl⟩)
      · rw [eo] at ea
        obtain ⟨tu, lu, hu', rfl, hu2⟩ := id ho
        refine ⟨_, rfl, false, rfl, iteF ⟨_, st2, _, _, rfl, ho, moving_sz eo hs (fun nz => zb (by grind)), ea, sG1.trans t2⟩⟩
    · rintro σ G ⟨v, st, v6, v7, rfl, hv, hs, ea, sG⟩
      rw [List.length_map, lts, List.drop_of_length_le (by unfold askV; rw [List.length_map, List.length_range]; exact Nat.le_refl _)] at ea
      exact ⟨_, rfl, q G v (s07.trans sG) (.inr ⟨st, ea.symm, hv⟩)⟩
end
end K64

namespace K64
open PySem PySem.Spec PyProof.Rows L2
/-! ### nothing below 0 flows -/
theorem ratI_nn (n : Nat) : 0 ≤ ratI n := by
  unfold ratI
  exact_mod_cast Int.natCast_nonneg n
theorem ratI_le {m n : Nat} (h : m ≤ n) : ratI m ≤ ratI n := by
  unfold ratI
  have : (m : Int) ≤ (n : Int) := by omega
  exact Rat.intCast_le_intCast.mpr this
theorem inv_nn {q : Rat} (h : 0 ≤ q) : 0 ≤ q⁻¹ := by
  by_cases c : q = 0
  · rw [c, Rat.inv_zero]
    exact Rat.le_refl
  · exact Rat.le_of_lt (Rat.inv_pos.mpr (by grind))
theorem part_nn {ps : List Nat} {am : Rat} (h : 0 ≤ am) (a : Nat) : 0 ≤ partV ps am a := by
  unfold partV
  refine Rat.mul_nonneg h ?_
  rw [Rat.div_def]
  refine Rat.mul_nonneg (ratI_nn a) ?_
  exact inv_nn (ratI_nn _)
theorem part_le {ps : List Nat} {am : Rat} (h : 0 ≤ am) {a b : Nat} (e : a ≤ b) : partV ps am a ≤ partV ps am b := by
  unfold partV
  refine Rat.mul_le_mul_of_nonneg_left ?_ h
  rw [Rat.div_def, Rat.div_def]
  exact Rat.mul_le_mul_of_nonneg_right (ratI_le e) (inv_nn (ratI_nn _))
theorem sumQ_nn : ∀ {l : List Rat}, (∀ q ∈ l, 0 ≤ q) → 0 ≤ l.sum
  | [], _ => by rw [List.sum_nil]; exact Rat.le_refl
  | a :: r, h => by
    rw [List.sum_cons]
    have h1 := h a (List.mem_cons_self ..)
    have h2 : 0 ≤ r.sum := sumQ_nn fun q hq => h q (List.mem_cons_of_mem _ hq)
    grind
theorem flow_nn {W : WebV} {R k0 : Nat} {rain : List Rat} (g : GoodWeb W) (leads : List Bool) (r : RainOk W R k0 rain) : ∀ p, p ≤ W.many → (∀ q ∈ (flowV W leads rain p).1, 0 ≤ q) ∧ ∀ q ∈ (flowV W leads rain p).2, 0 ≤ q
  | 0, _ => ⟨(fun q h => nomatch h), (fun q h => nomatch h)⟩
  | p + 1, hp => by
    obtain ⟨h1, h2⟩ := flow_nn g leads r p (by omega)
    have am : 0 ≤ (amL W rain (flowV W leads rain p).2 p).sum := sumQ_nn fun q hq => by
      rcases List.mem_cons.mp (show q ∈ _ :: intoV _ _ _ from hq) with z | z
      · rw [z]
        exact r.nn _ (getD_mem (by rw [r.len]; omega))
      · exact h2 q (into_mem z)
    refine ⟨fun q hq => ?_, fun q hq => ?_⟩
    · rcases List.mem_append.mp (show q ∈ (flowV W leads rain p).1 ++ [_] from hq) with z | z
      · exact h1 q z
      · rw [List.mem_singleton.mp z]
        exact am
    · rcases List.mem_append.mp (show q ∈ (flowV W leads rain p).2 ++ bornV _ _ _ from hq) with z | z
      · exact h2 q z
      · have z : q ∈ ((W.parts[p]?).getD []).map (partV ((W.parts[p]?).getD []) (amL W rain (flowV W leads rain p).2 p).sum) := by
          have z : q ∈ bornV _ _ _ := z
          unfold bornV at z
          split at z
          · exact z
          · exact List.mem_reverse.mp z
        obtain ⟨a, _, rfl⟩ := List.mem_map.mp z
        exact part_nn am a
end K64

namespace K64
open PySem PySem.Spec PyProof.Rows L2
/-! ### the amounts by which a bed bears just a mark: mathematics -/
theorem inv_nd {f : Rat} (h : 0 < f) : f⁻¹.num = (f.den : Int) ∧ ((f⁻¹.den : Nat) : Int) = f.num := by
  have hn : 0 < f.num := by
    have := (Rat.lt_iff 0 f).mp h
    simp at this
    omega
  have e : f⁻¹ = Rat.inv f := rfl
  rw [e]
  unfold Rat.inv
  rw [dif_neg (by omega), dif_pos (by omega)]
  refine ⟨rfl, ?_⟩
  show ((f.num.natAbs : Nat) : Int) = f.num
  omega
/-- an amount that fractions of ours hold -/
def PtOk (q : Rat) : Prop := ∃ R, 0 < R ∧ R < 2 ^ 400 ∧ Lim R 400 q
theorem PtOk.sz {q : Rat} (h : PtOk q) : Sz 1400 q := by
  obtain ⟨R, r0, r1, l⟩ := h
  exact l.sz r0 (Nat.lt_of_lt_of_le r1 (Nat.pow_le_pow_right (by decide) (by decide))) (by decide)
theorem pt_zero : PtOk 0 := ⟨1, by decide, Nat.one_lt_two_pow (by decide), lim_zero⟩
/-- .. and what lies between two of them -/
def SmOk (q : Rat) : Prop := ∃ R, 0 < R ∧ R < 2 ^ 810 ∧ Lim R 810 q
theorem SmOk.sz {q : Rat} (h : SmOk q) : Sz 1500 q := by
  obtain ⟨R, r0, r1, l⟩ := h
  exact l.sz r0 (Nat.lt_of_lt_of_le r1 (Nat.pow_le_pow_right (by decide) (by decide))) (by decide)
theorem PtOk.sm {q : Rat} (h : PtOk q) : SmOk q := by
  obtain ⟨R, r0, r1, l⟩ := h
  exact ⟨R, r0, Nat.lt_of_lt_of_le r1 (Nat.pow_le_pow_right (by decide) (by decide)), l.up (by decide)⟩
theorem sm_half {x y : Rat} (hx : PtOk x) (hy : PtOk y) : SmOk ((x + y) * (1 / 2)) := by
  obtain ⟨R, r0, r1, a, ea, ha⟩ := hx
  obtain ⟨S, s0, s1, b, eb, hb⟩ := hy
  refine ⟨2 * (R * S), by have := Nat.mul_pos r0 s0; omega, ?_, a * S + b * R, ?_, ?_⟩
  · have := Nat.mul_lt_mul'' r1 s1
    rw [← Nat.pow_add] at this
    refine Nat.lt_of_lt_of_le (show 2 * (R * S) < 2 ^ 801 by rw [Nat.pow_succ 2 800]; omega) (Nat.pow_le_pow_right (by decide) (by decide))
  · have hr := icast_ne (show ((R : Nat) : Int) ≠ 0 by omega)
    have hs := icast_ne (show ((S : Nat) : Int) ≠ 0 by omega)
    rw [ea, eb, Int.natCast_mul, Int.natCast_mul, Rat.intCast_add, Rat.intCast_mul, Rat.intCast_mul, Rat.intCast_mul, Rat.intCast_mul, show (((2 : Nat) : Int) : Rat) = 2 from rfl]
    generalize ((R : Int) : Rat) = u at *
    generalize ((S : Int) : Rat) = v at *
    grind
  · have h1 : (a * (S : Int)).natAbs < 2 ^ 800 := by
      rw [Int.natAbs_mul, Int.natAbs_natCast]
      have := Nat.mul_lt_mul'' ha s1
      rw [← Nat.pow_add] at this
      exact this
    have h2 : (b * (R : Int)).natAbs < 2 ^ 800 := by
      rw [Int.natAbs_mul, Int.natAbs_natCast]
      have := Nat.mul_lt_mul'' hb r1
      rw [← Nat.pow_add] at this
      exact this
    have h3 := Int.natAbs_add_le (a * (S : Int)) (b * (R : Int))
    exact Nat.lt_of_lt_of_le (show _ < 2 ^ 801 by rw [Nat.pow_succ 2 800]; omega) (Nat.pow_le_pow_right (by decide) (by decide))
theorem sm_one {x : Rat} (hx : PtOk x) : SmOk (x + 1) := by
  obtain ⟨R, r0, r1, a, ea, ha⟩ := hx
  refine ⟨R, r0, Nat.lt_of_lt_of_le r1 (Nat.pow_le_pow_right (by decide) (by decide)), a + R, ?_, ?_⟩
  · have hr := icast_ne (show ((R : Nat) : Int) ≠ 0 by omega)
    rw [ea, Rat.intCast_add]
    generalize ((R : Int) : Rat) = u at *
    grind
  · have h3 := Int.natAbs_add_le a (R : Int)
    rw [Int.natAbs_natCast] at h3
    exact Nat.lt_of_lt_of_le (show _ < 2 ^ 401 by rw [Nat.pow_succ 2 400]; omega) (Nat.pow_le_pow_right (by decide) (by decide))
/-- a mark over what a bed bears of one -/
theorem pt_mark {x f : Rat} {L : Nat} (hx : Lim 42 48 x) (hf : Lim L 321 f) (l0 : 0 < L) (l1 : L ≤ 2 ^ 192) (f0 : 0 < f) : PtOk (x * f⁻¹) := by
  obtain ⟨a, ea, ha⟩ := hx
  obtain ⟨b, eb, hb⟩ := hf
  have hl := icast_ne (show ((L : Nat) : Int) ≠ 0 by omega)
  have b0 : 0 < b := by
    have h : (0 : Rat) < b := by
      have lp : (0 : Rat) < ((L : Int) : Rat) := by
        rw [show (0 : Rat) = ((0 : Int) : Rat) from rfl]
        exact Rat.intCast_lt_intCast.mpr (by omega)
      have := Rat.mul_pos f0 lp
      rw [eb, Rat.div_mul_cancel hl] at this
      exact this
    rw [show (0 : Rat) = ((0 : Int) : Rat) from rfl] at h
    exact Rat.intCast_lt_intCast.mp h
  refine ⟨42 * b.natAbs, by omega, ?_, a * L, ?_, ?_⟩
  · exact Nat.lt_of_lt_of_le (show 42 * b.natAbs < 2 ^ 321 * 64 by omega) (by rw [show (64 : Nat) = 2 ^ 6 from rfl, ← Nat.pow_add]; exact Nat.pow_le_pow_right (by decide) (by decide))
  · have hb0 := icast_ne (show b ≠ 0 by omega)
    have eb2 : ((b.natAbs : Nat) : Int) = b := by omega
    rw [ea, eb, Int.natCast_mul, eb2, Rat.intCast_mul, Rat.intCast_mul]
    have h42 := icast_ne (show ((42 : Nat) : Int) ≠ 0 by decide)
    generalize (((42 : Nat) : Int) : Rat) = z at *
    generalize ((L : Int) : Rat) = v at *
    generalize (b : Rat) = u at *
    grind
  · rw [Int.natAbs_mul, Int.natAbs_natCast]
    have := Nat.mul_lt_mul_of_lt_of_le ha l1 (Nat.two_pow_pos 192)
    rw [← Nat.pow_add] at this
    exact Nat.lt_of_lt_of_le this (Nat.pow_le_pow_right (by decide) (by decide))
/-- the amounts of the beds from i on -/
def markE (b : Bed) (f : Rat) : List Rat := if 0 < f then [b.lo * f⁻¹, b.hi * f⁻¹] else []
def marksE (bs : List Bed) (fs : List Rat) (i : Nat) : List Rat := (0 :: ((bs.zip fs).take i).flatMap fun x => markE x.1 x.2)
theorem marksE_succ {bs : List Bed} {fs : List Rat} {i : Nat} {b : Bed} {f : Rat} (hb : bs[i]? = some b) (hf : fs[i]? = some f) : marksE bs fs (i + 1) = marksE bs fs i ++ markE b f := by
  unfold marksE
  have hz : (bs.zip fs)[i]? = some (b, f) := by
    rw [List.getElem?_zip_eq_some]
    exact ⟨hb, hf⟩
  rw [List.take_add_one, hz]
  simp
theorem marksE_len {bs : List Bed} {fs : List Rat} : ∀ i, (marksE bs fs i).length ≤ 1 + 2 * i := fun i => by
  have one : ∀ l : List (Bed × Rat), (l.flatMap fun x => markE x.1 x.2).length ≤ 2 * l.length := fun l => by
    induction l with
    | nil => simp
    | cons x l ih =>
      rw [List.flatMap_cons, List.length_append, List.length_cons]
      have : (markE x.1 x.2).length ≤ 2 := by
        unfold markE
        split <;> simp
      omega
  have := one ((bs.zip fs).take i)
  unfold marksE
  rw [List.length_cons]
  rw [List.length_take] at this
  omega
theorem marksE_mem {bs : List Bed} {fs : List Rat} {q : Rat} (h : q ∈ marksE bs fs (bs.zip fs).length) : q = 0 ∨ ∃ x ∈ bs.zip fs, 0 < x.2 ∧ (q = x.1.lo * x.2⁻¹ ∨ q = x.1.hi * x.2⁻¹) := by
  unfold marksE at h
  rw [List.take_length, List.mem_cons] at h
  rcases h with h | h
  · exact .inl h
  · obtain ⟨x, hx, hq⟩ := List.mem_flatMap.mp h
    refine .inr ⟨x, hx, ?_⟩
    unfold markE at hq
    split at hq
    · rename_i pos
      simp only [List.mem_cons, List.not_mem_nil, or_false] at hq
      exact ⟨pos, hq⟩
    · cases hq
theorem marksE_has {bs : List Bed} {fs : List Rat} {x : Bed × Rat} (h : x ∈ bs.zip fs) (f0 : 0 < x.2) : x.1.lo * x.2⁻¹ ∈ marksE bs fs (bs.zip fs).length ∧ x.1.hi * x.2⁻¹ ∈ marksE bs fs (bs.zip fs).length := by
  unfold marksE
  rw [List.take_length, List.mem_cons, List.mem_cons, List.mem_flatMap, List.mem_flatMap]
  refine ⟨.inr ⟨x, h, ?_⟩, .inr ⟨x, h, ?_⟩⟩ <;>
  · unfold markE
    rw [if_pos f0]
    simp
/-- the points, rising: the same as the marks that are not below 0 -/
structure PtsOk (rs qs : List Rat) : Prop where
  up : qs.Pairwise (· < ·)
  mem : ∀ q, q ∈ qs ↔ q ∈ rs ∧ 0 ≤ q
theorem samples_pt : ∀ {qs : List Rat} {q : Rat}, q ∈ samplesV qs → (∀ x ∈ qs, PtOk x ∧ 0 ≤ x) → SmOk q ∧ 0 ≤ q
  | [], _, h, _ => nomatch h
  | [z], q, h, ok => by
    have hz := ok z (List.mem_singleton.mpr rfl)
    unfold samplesV at h
    simp only [List.mem_cons, List.not_mem_nil, or_false] at h
    rcases h with h | h <;> subst h
    · exact ⟨hz.1.sm, hz.2⟩
    · refine ⟨sm_one hz.1, ?_⟩
      have := hz.2
      grind
  | x :: y :: r, q, h, ok => by
    have hx := ok x (List.mem_cons_self ..)
    have hy := ok y (List.mem_cons_of_mem _ (List.mem_cons_self ..))
    unfold samplesV at h
    rcases List.mem_cons.mp h with h | h
    · subst h
      exact ⟨hx.1.sm, hx.2⟩
    rcases List.mem_cons.mp h with h | h
    · subst h
      refine ⟨sm_half hx.1 hy.1, ?_⟩
      have := hx.2
      have := hy.2
      grind
    · exact samples_pt h fun z hz => ok z (List.mem_cons_of_mem _ hz)
theorem samples_ne {qs : List Rat} (h : qs ≠ []) : samplesV qs ≠ [] := by
  match qs, h with
  | [z], _ => simp [samplesV]
  | x :: y :: r, _ => simp [samplesV]
theorem samples_has : ∀ {qs : List Rat} {q : Rat}, q ∈ qs → q ∈ samplesV qs
  | [z], q, h => by
    rw [List.mem_singleton.mp h]
    simp [samplesV]
  | x :: y :: r, q, h => by
    unfold samplesV
    rcases List.mem_cons.mp h with z | z
    · rw [z]
      exact List.mem_cons_self ..
    · exact List.mem_cons_of_mem _ (List.mem_cons_of_mem _ (samples_has z))
theorem samples_len : ∀ {qs : List Rat}, qs ≠ [] → (samplesV qs).length = 2 * qs.length
  | [z], _ => rfl
  | x :: y :: r, _ => by
    have h := samples_len (qs := y :: r) (by simp)
    unfold samplesV
    rw [List.length_cons, List.length_cons, h]
    show 2 * (r.length + 1) + 1 + 1 = 2 * (r.length + 1 + 1)
    omega
end K64

namespace K64
open PySem PySem.Spec PyProof.Rows L2 LamX
/-! ### sorted(.., key=lambda x: ..) -/
theorem exn_tup {K : PySem.W.Frag} {H H' : Hp} {a : Addr} {xs : List V} (k : ExtN H H') (h : SqT K H a xs) : SqT K H' a xs := by
  rcases h with (h | ⟨o, h⟩) | h
  · exact .inl (.inl (k _ _ h fun _ z => nomatch z))
  · exact .inl (.inr ⟨o, k _ _ h fun _ z => nomatch z⟩)
  · exact .inr h
theorem exn_seq {K : PySem.W.Frag} {H H' : Hp} {a : Addr} {xs : List V} (k : ExtN H H') (h : SqL K H a xs) : SqL K H' a xs := by
  rcases h with (h | ⟨o, h⟩) | h
  · exact .inl (.inl (k _ _ h fun _ z => nomatch z))
  · exact .inl (.inr ⟨o, k _ _ h fun _ z => nomatch z⟩)
  · exact .inr h
/-- the lambda a def makes: one name of its own, the others captured or global -/
def LamK (sc scope : Scope) (a : Str) : Prop := (scope.kind = .function ∧ scope.isCoroutine = false ∧ scope.isGenerator = false) ∧ scope.names.lookup a = some .local ∧ (∀ y ∈ scope.names, y.2 ≠ .cell) ∧ ∀ y ∈ scope.names, y.2 = .free → sc.names.lookup y.1 = some .cell ∨ sc.names.lookup y.1 = some .free
def lamKB (sc scope : Scope) (a : Str) : Bool := (decide (scope.kind = .function) && !scope.isCoroutine && !scope.isGenerator) && decide (scope.names.lookup a = some .local) && (scope.names.all fun y => !decide (y.2 = .cell)) && scope.names.all fun y => !decide (y.2 = .free) || decide (sc.names.lookup y.1 = some .cell) || decide (sc.names.lookup y.1 = some .free)
theorem lamK_by {sc scope : Scope} {a : Str} (h : lamKB sc scope a = true) : LamK sc scope a := by
  unfold lamKB at h
  simp only [Bool.and_eq_true, Bool.not_eq_true', decide_eq_true_eq, List.all_eq_true, decide_eq_false_iff_not] at h
  obtain ⟨⟨⟨⟨⟨h1, h2⟩, h3⟩, h4⟩, h5⟩, h6⟩ := h
  refine ⟨⟨h1, h2, h3⟩, h4, h5, fun y hy e => ?_⟩
  have z := h6 y hy
  rw [decide_eq_true e, Bool.not_true, Bool.false_or, Bool.or_eq_true, decide_eq_true_eq, decide_eq_true_eq] at z
  exact z
theorem LamK.cells {X : Cx} {scope : Scope} {a : Str} (L : LamK X.env.scope scope a) (ok : X.Ok) : ∀ y ∈ scope.names, y.2 = .free → ∃ c, X.env.cells.lookup y.1 = some c := fun y hy e => (L.2.2.2 y hy e).elim (fun k => ok.has _ (.inl k)) (fun k => ok.has _ (.inr k))
/-- the lambda's body, its parameter at hand: it keeps the heap and gives what reads as k -/
def KRun (X : Cx) (a : Str) (scope : Scope) (body : Expr) (σ : L2.St) (H : Hp) (x : V) (k : PyData) : Prop :=
  ∀ (pins : List (Addr × Obj)) (A' : Around) (L f c' : Addr) (u : Value) (s : Shared) (m : Str → Option Value), Inv X pins σ H s → RelV x u → s.heap.Ns L m → m a = some u →
    wpAny (model X.prog X.w) A' (eval body (lamEnv X scope L f c')) (fun w s' => (∃ tk, s' = { s with toks := tk }) ∧ Reads s.heap w k []) (fun _ _ => False) s
section
variable {X : Cx} {pins : List (Addr × Obj)} {σ : L2.St} {H : Hp} {s : Shared} {scope : Scope} {a : Str}
/-- x[i] of a tuple, x the parameter -/
theorem ev_at {A' : Around} {L f c' t : Addr} {m : Str → Option Value} {E : Value → Shared → Prop} {Q : Value → Shared → Prop} {i : Int} {j : Nat} {p1 p2 p3 : Pos} {xs : List V} {z : V} (K : LamK X.env.scope scope a) (hd : (a == ("__debug__" : Str)) = false) (I : Inv X pins σ H s) (hn : s.heap.Ns L m) (hm : m a = some (.ref t))
    (hs : SqT X.K H t xs) (hi : atI xs i = some z) (h : ∀ tk w, RelV z w → Q w { s with toks := tk }) : wpAny (model X.prog X.w) A' (eval (.Subscript (.Name a p1) (.Constant (.int i) j p2) p3) (lamEnv X scope L f c')) Q E s := by
  refine Subscript_ (wpAny_Name (wpAny_loadName_local K.1.1 K.2.1 hn hm ?_) hd)
  refine wpAny_Constant_int ?_
  obtain ⟨its, r, pl, hz⟩ := (I.tok (s.toks + 1)).tuple hs
  obtain ⟨n, h1, h2, h3, h4, h5⟩ := atI_get hi
  obtain ⟨w, ew, rw'⟩ := r.get h2
  have hl := r.length
  have hln := line63
  exact subscriptTail_builtinR (x := w) pl.typeIs slot_tuple_getitem.lookup (getItem_tuple (j := n) (Q := fun r s' => r = w ∧ Q r s') pl (by omega) (by omega) (by rw [List.size_toArray, ← hl]; exact h1) (by simpa using ew) ⟨rfl, h _ _ rw'⟩)
/-- a captured name -/
theorem ev_free {y : Str} {n : Nat} {v : V} (K : LamK X.env.scope scope a) (I : Inv X pins σ H s) (hN : X.N[n]? = some y) (hσ : σ[n]? = some (some v)) (hc : X.env.scope.names.lookup y = some .cell) (hf : scope.names.lookup y = some .free) :
    ∃ u c, RelV v u ∧ (cloFrom X.env.cells scope.names []).lookup y = some c ∧ s.heap.IsCell c (some u) := by
  obtain ⟨m, hn, hl⟩ := I.loc
  obtain ⟨u, r, l⟩ := hl n y v hN hσ (.inr (.inl hc))
  rcases l with ⟨hk, _⟩ | ⟨_, c, hc', hcell⟩
  · have hk : X.env.scope.names.lookup y = some .local := hk
    rw [hc] at hk
    cases hk
  · exact ⟨u, c, r, NdefX.clo_has (K.cells I.ok) (PySem.mem_of_lookup hf) hc', hcell⟩
theorem readsAll_ints {h : Heap} : ∀ {ns : List Int} {us : List Value}, Vals (ns.map V.int) us → ReadsAll h us (ns.map PyData.int) []
  | [], _, r => by
    cases r
    exact .nil
  | n :: ns, _, r => by
    cases r with
    | cons r1 r2 =>
      obtain ⟨t, rfl⟩ := r1
      exact ReadsAll.cons (as := []) (bs := []) (.int n t) (readsAll_ints r2)
/-- lambda x: x[i], where that is an int -/
theorem krun_int {t : Addr} {xs : List V} {i n : Int} {j : Nat} {p1 p2 p3 : Pos} (K : LamK X.env.scope scope a) (hd : (a == ("__debug__" : Str)) = false) (hs : SqT X.K H t xs) (hi : atI xs i = some (.int n)) : KRun X a scope (.Subscript (.Name a p1) (.Constant (.int i) j p2) p3) σ H (.ref t) (.int n) := by
  intro pins A' L f c' u s m I r hn hm
  cases r
  exact ev_at K hd I hn hm hs hi fun tk w rw' => by
    obtain ⟨t', rfl⟩ := rw'
    exact ⟨⟨tk, rfl⟩, .int n t'⟩
/-- lambda x: x[i], where that is a tuple of ints -/
theorem krun_ints {t d : Addr} {xs : List V} {i : Int} {ns : List Int} {j : Nat} {p1 p2 p3 : Pos} (K : LamK X.env.scope scope a) (hd : (a == ("__debug__" : Str)) = false) (hs : SqT X.K H t xs) (hi : atI xs i = some (.ref d)) (ht : SqT X.K H d (ns.map V.int)) : KRun X a scope (.Subscript (.Name a p1) (.Constant (.int i) j p2) p3) σ H (.ref t) (.tuple (ns.map PyData.int)) := by
  intro pins A' L f c' u s m I r hn hm
  cases r
  exact ev_at K hd I hn hm hs hi fun tk w rw' => by
    cases rw'
    obtain ⟨its, rv, ⟨o, ho, hc, n, hdt⟩, _⟩ := I.tuple ht
    exact ⟨⟨tk, rfl⟩, Reads.tuple ho hc hdt (readsAll_ints rv)⟩
/-- lambda x: x[0] * (y // x[1]), y a captured int -/
theorem krun_by {t : Addr} {xs : List V} {y : Str} {p q z : Int} {n j j' : Nat} {p1 p2 p3 p4 p5 p6 p7 p8 p9 : Pos} (K : LamK X.env.scope scope a) (hd : (a == ("__debug__" : Str)) = false) (hdy : (y == ("__debug__" : Str)) = false) (hcy : (y == ("__classdict__" : Str)) = false) (hN : X.N[n]? = some y) (hσ : σ[n]? = some (some (.int z)))
    (hc : X.env.scope.names.lookup y = some .cell) (hf : scope.names.lookup y = some .free) (hs : SqT X.K H t xs) (h0 : atI xs 0 = some (.int p)) (h1 : atI xs 1 = some (.int q)) (dv : CDivX z q) (mu : IntMulOk p (z.fdiv q)) :
    KRun X a scope (.BinOp (.Subscript (.Name a p1) (.Constant (.int 0) j p2) p3) .Mult (.BinOp (.Name y p4) .FloorDiv (.Subscript (.Name a p5) (.Constant (.int 1) j' p6) p7) p8) p9) σ H (.ref t) (.int (p * z.fdiv q)) := by
  intro pins A' L f c' u s m I r hn hm
  cases r
  refine wpAny_BinOp (ev_at K hd I hn hm hs h0 fun t1 w1 r1 => ?_)
  obtain ⟨k1, rfl⟩ := r1
  obtain ⟨u2, c2, r2, hl2, hcell⟩ := ev_free K I hN hσ hc hf
  refine wpAny_BinOp (wpAny_Name (wpAny_loadName_free K.1.1 hf hl2 hcell ?_ hcy) hdy)
  obtain ⟨k2, rfl⟩ := r2
  refine ev_at (s := { s with toks := t1 }) K hd (I.tok t1) hn hm hs h1 fun t3 w3 r3 => ?_
  obtain ⟨k3, rfl⟩ := r3
  refine floordiv_int dv.1 ?_ (.inl (PyProof.noPylong_of_log2 dv.2))
  exact mul_int ⟨⟨_, rfl⟩, .int _ _⟩ mu
theorem vals_each {k : Nat} : ∀ {bs : List (V × PyData)} {us : List Value}, PySem.W.EachIs (fun u (b : V × PyData) => RelV b.1 u) us bs → Vals (bs.map Prod.fst) us
  | _, _, .nil => .nil
  | _, _, .cons r1 r2 => .cons r1 (vals_each (k := k) r2)
theorem each_vals : ∀ {bs : List (V × PyData)} {us : List Value}, Vals (bs.map Prod.fst) us → PySem.W.EachIs (fun u (b : V × PyData) => RelV b.1 u) us bs
  | [], _, r => by
    cases r
    exact .nil
  | b :: bs, _, r => by
    cases r with
    | cons r1 r2 => exact .cons r1 (each_vals r2)
/-- sorted(e, key=lambda a: body) -/
def tSortK (X : Cx) (T : List (Addr × Str)) (a : Str) (scope : Scope) (body : Expr) (te : TE) : TE := fun σ H Q => te σ H fun v H1 => ∃ (l : Addr) (bs : List (V × PyData)), v = .ref l ∧ SqL X.K H1 l (bs.map Prod.fst) ∧ Tabs T H1 ∧ PySem.W.AllAlike (bs.map Prod.snd) ∧ PySem.W.Sortable (bs.map Prod.snd) ∧ (∀ b ∈ bs, b.2.depth ≤ 64) ∧
  ∀ H2, ExtN H1 H2 → Tabs T H2 → (∀ b ∈ bs, KRun X a scope body σ H2 b.1 b.2) ∧ ∀ d, H2 d = none → Q (.ref d) (upd H2 d (.lst ((bs.mergeSort (PySem.W.dataLe false Prod.snd)).map Prod.fst)))
theorem pe_sortK {T : List (Addr × Str)} {k : Nat} {c P : Addr} {params : Arguments} {body e : Expr} {te : TE} {p lpos kp pos : Pos} (hr : Room (k + 1) X.A) (hg : Gl X "sorted") (hm : X.mg "sorted" = none) (he : PE X e te) (K : LamK X.env.scope scope a) (TB : TabB X.base X.mg c P) (hcode : X.env.code = .ref c)
    (hmT : (P, X.env.qual ++ "<lambda>") ∈ T) (hu : ∀ p ∈ T, p.1 = P → p.2 = X.env.qual ++ "<lambda>") (hdef : defaultsOf params X.env = ([], []))
    (hbind : ∀ (q : Str) (cl : List (Str × Addr)) (pm cv ctv u : Value), bindArgs (PySem.W.kla_fn "<lambda>" q params body scope cl pm cv ctv) ⟨[u], []⟩ = pure [(a, u)])
    (hst : backTo pos (starEach [e] X.env) = [(false, eval e X.env)] := by rfl) :
    PE X (.Call (.Name "sorted" p) [e] [⟨some "key", .Lambda params body scope lpos, kp⟩] pos) (tSortK X T a scope body te) := by
  refine ⟨fun pins s σ H Q I h => ?_⟩
  refine wpAny_Call_Name_kw (ld_blt (u := .builtin "sorted") I hg hm (by decide +kernel) ?_)
  refine PyProof.Rows.callWith_kw ?_ (by rw [hst]; rfl) (by rw [hst]; rfl) (by rfl) (by rfl)
  rw [hst]
  refine Calls.spliced_cons (thn (he.run pins s σ H _ I h) fun u s1 ⟨v, H1, I1, r1, q1⟩ => ?_)
  obtain ⟨l, bs, rfl, hl, hT, hal, hso, hdp, q1⟩ := q1
  obtain rfl : u = Value.ref l := r1
  refine Calls.spliced_nil ?_
  refine PyProof.Rows.kws_cons (lam_make2 I1 TB hcode hmT hu hT hdef (K.cells I1.ok) fun f c' pm ctv H2 s2 I2 hE hT2 hf hfn hfr hco => PyProof.Rows.kws_nil ?_)
  obtain ⟨hk, hq⟩ := q1 H2 hE hT2
  have hl2 : SqL X.K H2 l (bs.map Prod.fst) := exn_seq hE hl
  obtain ⟨its, rv, hli, hz⟩ := I2.list hl2
  rw [List.length_map] at hz
  obtain ⟨⟨oc, vs, t, hoc, hdc, hvc⟩, _, _⟩ := I2.hok c' _ hco
  refine PySem.W.sorted_key_data (s := s2) (b := false) (bs := bs) (vs := its) (R := fun u (b : V × PyData) => RelV b.1 u) Prod.snd hli.isList (each_vals rv) hal hso hz (fun b hb => ?_) (ksk_s1 _ _) (fun _ => ksk_l1 _ _) (fun _ => ksk_t1 _ _) (fun u b rb hb h tk kp => ?_) fun out ep h' tk kp fr0 hD hlen eo => ?_
  · have := hdp b hb
    have := hr.un
    omega
  · have I3 : Inv X pins σ H2 { s2 with heap := h, toks := tk } := I2.kept kp
    refine wpAny_call (PySem.W.kla_callFunE hr.depth (kp _ _ hf) rfl K.1.2.1 K.1.2.2 rfl ⟨c', oc, vs, t, rfl, kp _ _ hoc, hdc, hvc⟩ ?_)
    rw [hbind]
    refine wpAny_pure (wpAny_newFunctionEnv K.2.2.1 (fun y hy => by rw [List.mem_singleton.mp hy]; exact K.2.1) (fun h₁ hns hsb => ⟨I3.nolimit.fresh _ hsb, ?_⟩) K.1.1)
    show codeAny _ _ (.expr body (lamEnv X scope h.objs.size f c')) _ _
    have kp1 : ∀ b o, h.get? b = some o → h₁.get? b = some o := fun b o e => hsb.extBut b o (Nat.ne_of_lt (Heap.lt_size e)) (Heap.get?_push_of_some _ e)
    refine PySem.W.kla_codeExpr (wpAny_mono (hk b hb pins _ h.objs.size f c' u { s2 with heap := h₁, toks := tk + 1 } _ (I3.kept kp1) rb hns (by simp)) (fun w s' hw => ?_) fun _ _ hF => hF.elim)
    obtain ⟨⟨tk', rfl⟩, hw⟩ := hw
    exact ⟨h₁, tk', rfl, kp1, hw⟩
  · refine ⟨.ref _, upd H2 (s2.heap.objs.size + 1) (.lst ((bs.mergeSort (PySem.W.dataLe false Prod.snd)).map Prod.fst)), I2.laid (t' := tk) kp (Nat.le_succ _) ⟨?_, out, ep, vals_each (k := 0) eo, hD⟩, rfl, hq _ (I2.hok.fresh (Nat.le_succ _))⟩
    rw [List.length_map, List.length_mergeSort]
    exact hz
end
end K64

namespace K64
open PySem PySem.Spec PyProof.Rows L2 LamX
/-! ### the law's points -/
def lpQ : Str := ("_law_points.<locals>.<lambda>" : Str)
def spPts (K : PySem.W.Frag) (Pt : Addr) : Sp := fun vs H Q _ => ∃ (t d : Addr) (W : WebV) (ds : List Int) (p : Nat), vs = [.ref t, .ref d, .int (p : Int)] ∧ WorldAt K H t W ∧ GoodWeb W ∧ (∀ b ∈ W.beds, LimB b) ∧ SqT K H d (ds.map V.int) ∧ ds.length = W.beds.length ∧ p < W.many ∧ Tabs [(Pt, lpQ)] H ∧
  ∀ (H' : Hp) (l : Addr) (qs : List Rat), ExtN H H' → Tabs [(Pt, lpQ)] H' → (∀ xs : List V, H l ≠ some (.lst xs)) → PairsT K H' l qs → PtsOk (marksE W.beds (facV W ds p) (W.beds.zip (facV W ds p)).length) qs → qs.length < 64 → Q (.ref l) H'
theorem same_ext {H H' : Hp} (s : Same H H') : ExtN H H' := ExtN.of s
theorem sq_pos {f : Rat} : (0 < f.num) ↔ 0 < f := by
  rw [Rat.lt_iff]
  simp
theorem sq_nn {f : Rat} : (0 ≤ f.num) ↔ 0 ≤ f := by
  rw [Rat.le_iff]
  simp
theorem fac_lim {W : WebV} (g : GoodWeb W) (ds : List Int) (p : Nat) : ∀ f ∈ facV W ds p, Lim (LL ^ W.many) 321 f := fun f hf => by
  have h := ((flow_lim g (leadsV (gapsV W ds)) (at_ok (W := W) p) W.many (Nat.le_refl _)).2.1 f hf).up (show 1 + 40 * W.many ≤ 321 by have := g.m8; omega)
  rw [Nat.one_mul] at h
  exact h
theorem LLp_le8 {n : Nat} (h : n ≤ 8) : LL ^ n ≤ 2 ^ 192 := by
  have h1 : LL ^ n ≤ LL ^ 8 := Nat.pow_le_pow_right LL_pos h
  exact Nat.le_trans h1 (by decide)
theorem pt_of {W : WebV} (g : GoodWeb W) (lb : ∀ b ∈ W.beds, LimB b) {ds : List Int} {p : Nat} {q : Rat} (h : q ∈ marksE W.beds (facV W ds p) (W.beds.zip (facV W ds p)).length) : PtOk q := by
  rcases marksE_mem h with rfl | ⟨x, hx, pos, e⟩
  · exact pt_zero
  · obtain ⟨h1, h2⟩ := List.of_mem_zip (a := x.1) (b := x.2) hx
    have l := fac_lim g ds p x.2 h2
    obtain ⟨b1, b2⟩ := lb x.1 h1
    have := g.m8
    rcases e with e | e <;> rw [e]
    · exact pt_mark b1 l (LLp_pos _) (LLp_le8 this) pos
    · exact pt_mark b2 l (LLp_pos _) (LLp_le8 this) pos
theorem marksE_sub {bs : List Bed} {fs : List Rat} {q : Rat} {i : Nat} (h : q ∈ marksE bs fs i) : q ∈ marksE bs fs (bs.zip fs).length := by
  unfold marksE at h ⊢
  rw [List.take_length]
  rcases List.mem_cons.mp h with z | z
  · exact List.mem_cons.mpr (.inl z)
  · obtain ⟨x, hx, hq⟩ := List.mem_flatMap.mp z
    exact List.mem_cons.mpr (.inr (List.mem_flatMap.mpr ⟨x, List.mem_of_mem_take hx, hq⟩))
/-- what a rising list of pairs tells -/
abbrev AQ := Addr × Rat
def aqI (x : AQ) : Addr × List Int := (x.1, [x.2.num, (x.2.den : Int)])
theorem prV_ints (q : Rat) : prV q = [q.num, (q.den : Int)].map V.int := rfl
theorem aqI_inj {q r : Rat} (h : [q.num, (q.den : Int)] = [r.num, (r.den : Int)]) : q = r := by
  injection h with h1 h2
  injection h2 with h2 _
  exact Rat.ext h1 (by omega)
/-- tuples that are such pairs -/
theorem aq_of {L : List (Addr × List Int)} (h : ∀ p ∈ L, ∃ q : Rat, p.2 = [q.num, (q.den : Int)]) : ∃ l : List AQ, L = l.map aqI := by
  induction L with
  | nil => exact ⟨[], rfl⟩
  | cons x L ih =>
    obtain ⟨l, rfl⟩ := ih fun p hp => h p (List.mem_cons_of_mem _ hp)
    obtain ⟨q, hq⟩ := h x (List.mem_cons_self ..)
    exact ⟨(x.1, q) :: l, by rw [List.map_cons]; unfold aqI; rw [← hq]⟩
def denP : List AQ → Nat
  | [] => 1
  | x :: r => x.2.den * denP r
theorem denP_pos : ∀ l : List AQ, 0 < denP l
  | [] => Nat.one_pos
  | x :: r => Nat.mul_pos x.2.den_pos (denP_pos r)
theorem denP_dvd : ∀ {l : List AQ} {x : AQ}, x ∈ l → x.2.den ∣ denP l
  | y :: r, x, h => by
    rcases List.mem_cons.mp h with z | z
    · rw [z]
      exact Nat.dvd_mul_right ..
    · exact Nat.dvd_trans (denP_dvd z) (Nat.dvd_mul_left ..)
theorem denP_lt : ∀ {l : List AQ}, (∀ x ∈ l, x.2.den < 2 ^ 1400) → denP l ≤ 2 ^ (1400 * l.length)
  | [], _ => Nat.le_refl _
  | x :: r, h => by
    have h1 := h x (List.mem_cons_self ..)
    have h2 := denP_lt fun y hy => h y (List.mem_cons_of_mem _ hy)
    show x.2.den * denP r ≤ 2 ^ (1400 * (r.length + 1))
    rw [Nat.mul_add, Nat.mul_one, Nat.add_comm, Nat.pow_add]
    exact Nat.mul_le_mul (Nat.le_of_lt h1) h2
def denS (l : List AQ) (i : Nat) : Nat := denP (l.take i).reverse
theorem denS_succ {l : List AQ} {i : Nat} {x : AQ} (h : l[i]? = some x) : denS l (i + 1) = x.2.den * denS l i := by
  unfold denS
  rw [List.take_add_one, h]
  simp [denP]
theorem denS_dvd {l : List AQ} {x : AQ} (h : x ∈ l) : x.2.den ∣ denS l l.length := by
  unfold denS
  rw [List.take_length]
  exact denP_dvd (List.mem_reverse.mpr h)
def keyA (whole : Nat) (x : AQ) : Int := x.2.num * ((whole : Int).fdiv (x.2.den : Int))
theorem key_le {n : Nat} {x y : AQ} (n0 : 0 < n) (hx : x.2.den ∣ n) (hy : y.2.den ∣ n) : keyA n x ≤ keyA n y ↔ x.2 ≤ y.2 := by
  have one : ∀ {z : AQ}, z.2.den ∣ n → keyA n z * (z.2.den : Int) = z.2.num * (n : Int) := fun {z} ⟨c, hc⟩ => by
    have d0 := z.2.den_pos
    unfold keyA
    rw [hc, Int.natCast_mul, Int.fdiv_eq_ediv_of_nonneg _ (by omega), Int.mul_ediv_cancel_left _ (by omega), Int.mul_assoc, Int.mul_comm (c : Int)]
  have e1 := one hx
  have e2 := one hy
  have dx : (0 : Int) < x.2.den := Int.natCast_pos.mpr x.2.den_pos
  have dy : (0 : Int) < y.2.den := Int.natCast_pos.mpr y.2.den_pos
  have dn : (0 : Int) < n := Int.natCast_pos.mpr n0
  rw [Rat.le_iff]
  generalize keyA n x = u at *
  generalize keyA n y = v at *
  generalize (x.2.den : Int) = a at *
  generalize (y.2.den : Int) = b at *
  generalize x.2.num = s at *
  generalize y.2.num = t at *
  generalize (n : Int) = m at *
  have ab := Int.mul_pos dx dy
  constructor
  · intro h
    have h1 := Int.mul_le_mul_of_nonneg_right h (Int.le_of_lt ab)
    have h2 : (s * b) * m ≤ (t * a) * m := by
      have q1 : u * (a * b) = (s * b) * m := by rw [← Int.mul_assoc, e1, Int.mul_assoc, Int.mul_assoc, Int.mul_comm m]
      have q2 : v * (a * b) = (t * a) * m := by rw [Int.mul_comm a, ← Int.mul_assoc, e2, Int.mul_assoc, Int.mul_assoc, Int.mul_comm m]
      rw [← q1, ← q2]
      exact h1
    exact Int.le_of_mul_le_mul_right h2 dn
  · intro h
    have h1 := Int.mul_le_mul_of_nonneg_right h (Int.le_of_lt dn)
    have h2 : u * (a * b) ≤ v * (a * b) := by
      have q1 : u * (a * b) = (s * b) * m := by rw [← Int.mul_assoc, e1, Int.mul_assoc, Int.mul_assoc, Int.mul_comm m]
      have q2 : v * (a * b) = (t * a) * m := by rw [Int.mul_comm a, ← Int.mul_assoc, e2, Int.mul_assoc, Int.mul_assoc, Int.mul_comm m]
      rw [q1, q2]
      exact h1
    exact Int.le_of_mul_le_mul_right h2 ab
/-- sorted by that key: rising -/
def aqB (n : Nat) (x : AQ) : V × PyData := (.ref x.1, .int (keyA n x))
theorem aq_sort {n : Nat} {l : List AQ} : ((l.map (aqB n)).mergeSort (PySem.W.dataLe false Prod.snd)).map Prod.fst = (l.mergeSort fun x y => decide (keyA n x ≤ keyA n y)).map fun x => V.ref x.1 := by
  rw [← List.map_mergeSort (r := fun x y => decide (keyA n x ≤ keyA n y)) fun x _ y _ => ?_, List.map_map]
  · rfl
  · show _ = PySem.W.dataLe false Prod.snd (aqB n x) (aqB n y)
    rw [PySem.W.dataLe_eq]
    show _ = !PySem.W.dataLt (.int (keyA n y)) (.int (keyA n x))
    rw [PySem.W.dataLt_int, PySem.W.not_lt_int]
theorem aq_up {n : Nat} {l : List AQ} (n0 : 0 < n) (hd : ∀ x ∈ l, x.2.den ∣ n) (nd : (l.map Prod.snd).Nodup) : ((l.mergeSort fun x y => decide (keyA n x ≤ keyA n y)).map Prod.snd).Pairwise (· < ·) := by
  have pm := List.mergeSort_perm l (fun x y => decide (keyA n x ≤ keyA n y))
  have pw := List.pairwise_mergeSort (le := fun x y : AQ => decide (keyA n x ≤ keyA n y)) (fun a b c h1 h2 => by
    rw [decide_eq_true_iff] at h1 h2 ⊢
    omega) (fun a b => by
    rw [Bool.or_eq_true, decide_eq_true_iff, decide_eq_true_iff]
    omega) l
  have nd2 : ((l.mergeSort fun x y => decide (keyA n x ≤ keyA n y)).map Prod.snd).Nodup := (pm.map Prod.snd).nodup_iff.mpr nd
  rw [List.pairwise_map]
  have nd3 := List.pairwise_map.mp nd2
  have both := pw.imp₂ (fun a b h1 h2 => And.intro h1 h2) nd3
  refine List.Pairwise.imp_of_mem (fun {a b} ha hb h => ?_) both
  have h1 := (key_le n0 (hd a (pm.mem_iff.mp ha)) (hd b (pm.mem_iff.mp hb))).mp (of_decide_eq_true h.1)
  have h2 : a.2 ≠ b.2 := h.2
  grind
end K64

namespace K64
open PySem PySem.Spec PyProof.Rows L2 LamX
/-! ### sorted of one thing by a key that need not be asked -/
section
variable {prog : Program} {w : World} {A : Around} {E : Value → Shared → Prop} {s : Shared}
theorem sorted_key_one {l : Addr} {u f : Value} {kw : List (Str × Value)} {Q : Value → Shared → Prop} (hl : s.heap.IsList l [u].toArray) (ha1 : argsOk "sorted" ⟨[.ref l], kw⟩) (ha2 : ∀ x, argsOk "list.sort" ⟨[.ref x], kw⟩) (ht : ∀ x, Builtin.«list.sort» ⟨[.ref x], kw⟩ = ksk_tree x f false)
    (turn : ∀ (h : Heap) (tk : Nat), (∀ b o, s.heap.get? b = some o → h.get? b = some o) → wpAny (model prog w) A.in1.in1 (call f [u]) (fun v s' => ∃ h' tk', s' = { s with heap := h', toks := tk' } ∧ ∀ b o, h.get? b = some o → h'.get? b = some o) (fun _ _ => False) { s with heap := h, toks := tk })
    (fin : ∀ h' tk c, (∀ b o, s.heap.get? b = some o → h'.get? b = some o) → h'.get? (s.heap.objs.size + 1) = some (seqObj "list" [u].toArray c) → Q (.ref (s.heap.objs.size + 1)) { s with heap := h', toks := tk }) :
    wpAny (model prog w) A (call (.builtin "sorted") [.ref l] kw) Q E s := by
  refine PySem.W.sorted_of_sort hl (show 1 ≤ sizeLine by decide) ha1 ha2 fun E' => ?_
  have oldC : ∀ b o, s.heap.get? b = some o → (PySem.W.copyHeap s.heap [u]).get? b = some o := fun b o e => PySem.W.copyHeap_old e
  have ltC : ∀ b o, s.heap.get? b = some o → b ≠ s.heap.objs.size + 1 := fun b o e => Nat.ne_of_lt (Nat.lt_succ_of_lt (Heap.lt_size e))
  have oC := PySem.W.copyHeap_at s.heap [u]
  generalize s.heap.objs.size + 1 = d at *
  generalize PySem.W.copyHeap s.heap [u] = c0 at *
  rw [ht]
  unfold ksk_tree
  obtain ⟨e1, o1⟩ : ∃ e1, (c0.update d (Obj.mapSeq fun _ => (#[] : Array Value))).get? d = some (seqObj "list" #[] e1) := ⟨_, get?_update_seq oC fun _ => #[]⟩
  have k1 : ∀ b o, s.heap.get? b = some o → (c0.update d (Obj.mapSeq fun _ => (#[] : Array Value))).get? b = some o := fun b o e => ((Heap.SameBut.update c0 d (Obj.mapSeq fun _ => (#[] : Array Value))).2 b (ltC b o e)).trans (oldC b o e)
  refine wpAny_bind (listItems_at oC rfl (wpAny_bind (listUpdate_at oC rfl ?_ (show 1 ≤ sizeLine by decide) (Nat.zero_le _))))
  generalize c0.update d (Obj.mapSeq fun _ => (#[] : Array Value)) = c1 at *
  refine wpAny_bind (seqEpoch_at o1 rfl (wpAny_bind (wpAny_newTuple (wpAny_bind (wpAny_newList (wpAny_holding ?_) (Nat.zero_le _))) (show 1 ≤ sizeLine by decide))))
  have szT : (c1.push (seqObj "tuple" [u].toArray 0)).objs.size = c1.objs.size + 1 := Heap.size_push ..
  have kS : ((c1.push (seqObj "tuple" [u].toArray 0)).push (seqObj "list" #[] 0)).get? (c1.push (seqObj "tuple" [u].toArray 0)).objs.size = some (seqObj "list" #[] 0) := Heap.get?_push_size _ rfl
  have o2 : ((c1.push (seqObj "tuple" [u].toArray 0)).push (seqObj "list" #[] 0)).get? d = some (seqObj "list" #[] e1) := Heap.get?_push_of_some _ (Heap.get?_push_of_some _ o1)
  have k2 : ∀ b o, s.heap.get? b = some o → ((c1.push (seqObj "tuple" [u].toArray 0)).push (seqObj "list" #[] 0)).get? b = some o := fun b o e => Heap.get?_push_of_some _ (Heap.get?_push_of_some _ (k1 b o e))
  have ndS : (c1.push (seqObj "tuple" [u].toArray 0)).objs.size ≠ d := Nat.ne_of_gt (by rw [szT]; exact Nat.lt_succ_of_lt (Heap.lt_size o1))
  have nS : ∀ b o, s.heap.get? b = some o → b ≠ (c1.push (seqObj "tuple" [u].toArray 0)).objs.size := fun b o e => Nat.ne_of_lt (by rw [szT]; exact Nat.lt_succ_of_lt (Heap.lt_size (k1 b o e)))
  show wpAny (model prog w) A.in1.in1 (ksk_rest d f false [u].toArray e1 (.ref (c1.push (seqObj "tuple" [u].toArray 0)).objs.size)) _ E' { s with heap := (c1.push (seqObj "tuple" [u].toArray 0)).push (seqObj "list" #[] 0) }
  generalize (c1.push (seqObj "tuple" [u].toArray 0)).objs.size = g at *
  generalize (c1.push (seqObj "tuple" [u].toArray 0)).push (seqObj "list" #[] 0) = c2 at *
  unfold ksk_rest
  refine wpAny_bind (wpAny_rule ?_)
  first
    | rw [List.forIn_toArray]
    | (rw [← Array.forIn_toList]; simp only [List.toList_toArray])
  refine wpAny_bind (ksk_fold (fun i s' => ∃ h' tk, s' = { s with heap := h', toks := tk } ∧ (∀ b o, s.heap.get? b = some o → h'.get? b = some o) ∧ h'.get? d = some (seqObj "list" #[] e1) ∧ (i = 0 → h'.get? g = some (seqObj "list" #[] 0)) ∧ (i = 1 → ∃ v ep, h'.get? g = some (seqObj "list" #[v] ep))) [u] 0 _
    ⟨c2, s.toks, rfl, k2, o2, fun _ => kS, fun z => nomatch z⟩ ?_ ?_)
  · rintro j x s' hx ⟨h', tk, rfl, kk, od, og, _⟩
    have hj : j < 1 := (List.getElem?_eq_some_iff.mp hx).1
    obtain rfl : j = 0 := by omega
    obtain rfl : u = x := Option.some.inj hx
    have og := og rfl
    refine wpAny_bind (wpAny_attempt (wpAny_mono (turn h' tk kk) (fun v s2 hs => ?_) fun _ _ hF => hF.elim))
    obtain ⟨h2, tk2, rfl, kk2⟩ := hs
    have og2 := kk2 _ _ og
    have sb := Heap.SameBut.update h2 g (Obj.mapSeq (·.push v))
    obtain ⟨ep, hep⟩ : ∃ ep, (h2.update g (Obj.mapSeq (·.push v))).get? g = some (seqObj "list" (#[].push v) ep) := ⟨_, get?_update_seq og2 (·.push v)⟩
    refine wpAny_bind (listUpdate_at og2 rfl (wpAny_pure ⟨rfl, _, _, rfl, fun b o e => (sb.2 b (nS b o e)).trans (kk2 _ _ (kk b o e)), (sb.2 d ndS.symm).trans (kk2 _ _ od), (fun z => nomatch z), fun _ => ⟨v, ep, hep⟩⟩) (Nat.zero_le _) (show 1 ≤ sizeLine + 1 by decide))
  · rintro s' ⟨h', tk, rfl, kk, od, _, og⟩
    obtain ⟨v, ep, og⟩ := og rfl
    refine wpAny_bind (listItems_at og rfl ?_)
    unfold ksk_end
    simp only [Bool.false_eq_true, if_false]
    rw [if_pos (show [u].toArray.size < 2 from Nat.lt_succ_self 1), if_pos (show [u].toArray.size < 2 from Nat.lt_succ_self 1)]
    refine wpAny_bind (wpAny_pure ?_)
    rw [StateT.run_pure]
    refine wpAny_bind (wpAny_pure ?_)
    refine PySem.W.keyH_tail (b := false) (h₁ := s.heap) (kS := g) (out := [u]) (st := SortSt.mk' general' (#[v].zip [u].toArray) #[] 7 none) (fun b o _ e => kk b o e) ?_ og od ndS (show 1 ≤ sizeLine by decide) (show 1 ≤ sizeLine by decide) rfl ?_ fun h2 tk2 c kp hD => ⟨rfl, fin h2 tk2 c (fun b o e => kp b o (ltC b o e) e) hD⟩
    · cases hg : s.heap.get? g with
      | none => rfl
      | some o => exact absurd rfl (nS g o hg)
    · show ((#[v].zip [u].toArray).map (·.2)) = [u].toArray
      simp
end
end K64

namespace K64
open PySem PySem.Spec PyProof.Rows L2 LamX
/-! ### sorted(e, key=lambda a: body), one thing by any key -/
def tSortK2 (X : Cx) (T : List (Addr × Str)) (a : Str) (scope : Scope) (body : Expr) (te : TE) : TE := fun σ H Q => te σ H fun v H1 => ∃ (l : Addr) (bs : List (V × PyData)), v = .ref l ∧ SqL X.K H1 l (bs.map Prod.fst) ∧ Tabs T H1 ∧ PySem.W.AllAlike (bs.map Prod.snd) ∧ (PySem.W.Sortable (bs.map Prod.snd) ∨ bs.length = 1) ∧ (∀ b ∈ bs, b.2.depth ≤ 64) ∧
  ∀ H2, ExtN H1 H2 → Tabs T H2 → (∀ b ∈ bs, KRun X a scope body σ H2 b.1 b.2) ∧ ∀ d, H2 d = none → Q (.ref d) (upd H2 d (.lst ((bs.mergeSort (PySem.W.dataLe false Prod.snd)).map Prod.fst)))
section
variable {X : Cx} {scope : Scope} {a : Str}
theorem pe_sortK2 {T : List (Addr × Str)} {k : Nat} {c P : Addr} {params : Arguments} {body e : Expr} {te : TE} {p lpos kp pos : Pos} (hr : Room (k + 1) X.A) (hg : Gl X "sorted") (hm : X.mg "sorted" = none) (he : PE X e te) (K : LamK X.env.scope scope a) (TB : TabB X.base X.mg c P) (hcode : X.env.code = .ref c)
    (hmT : (P, X.env.qual ++ "<lambda>") ∈ T) (hu : ∀ p ∈ T, p.1 = P → p.2 = X.env.qual ++ "<lambda>") (hdef : defaultsOf params X.env = ([], []))
    (hbind : ∀ (q : Str) (cl : List (Str × Addr)) (pm cv ctv u : Value), bindArgs (PySem.W.kla_fn "<lambda>" q params body scope cl pm cv ctv) ⟨[u], []⟩ = pure [(a, u)])
    (hst : backTo pos (starEach [e] X.env) = [(false, eval e X.env)] := by rfl) :
    PE X (.Call (.Name "sorted" p) [e] [⟨some "key", .Lambda params body scope lpos, kp⟩] pos) (tSortK2 X T a scope body te) := by
  refine ⟨fun pins s σ H Q I h => ?_⟩
  refine wpAny_Call_Name_kw (ld_blt (u := .builtin "sorted") I hg hm (by decide +kernel) ?_)
  refine PyProof.Rows.callWith_kw ?_ (by rw [hst]; rfl) (by rw [hst]; rfl) (by rfl) (by rfl)
  rw [hst]
  refine Calls.spliced_cons (thn (he.run pins s σ H _ I h) fun u s1 ⟨v, H1, I1, r1, q1⟩ => ?_)
  obtain ⟨l, bs, rfl, hl, hT, hal, hso, hdp, q1⟩ := q1
  obtain rfl : u = Value.ref l := r1
  refine Calls.spliced_nil ?_
  refine PyProof.Rows.kws_cons (lam_make2 I1 TB hcode hmT hu hT hdef (K.cells I1.ok) fun f c' pm ctv H2 s2 I2 hE hT2 hf hfn hfr hco => PyProof.Rows.kws_nil ?_)
  obtain ⟨hk, hq⟩ := q1 H2 hE hT2
  have hl2 : SqL X.K H2 l (bs.map Prod.fst) := exn_seq hE hl
  obtain ⟨its, rv, hli, hz⟩ := I2.list hl2
  rw [List.length_map] at hz
  obtain ⟨⟨oc, vs, t, hoc, hdc, hvc⟩, _, _⟩ := I2.hok c' _ hco
  have trn : ∀ (u : Value) (b : V × PyData), RelV b.1 u → b ∈ bs → ∀ (h : Heap) (tk : Nat), (∀ b o, s2.heap.get? b = some o → h.get? b = some o) → wpAny (model X.prog X.w) X.A.in1.in1 (call (.ref f) [u]) (PySem.W.KeyPure b.2 { s2 with heap := h, toks := tk }) (fun _ _ => False) { s2 with heap := h, toks := tk } := fun u b rb hb h tk kp => by
    have I3 : Inv X pins σ H2 { s2 with heap := h, toks := tk } := I2.kept kp
    refine wpAny_call (PySem.W.kla_callFunE hr.depth (kp _ _ hf) rfl K.1.2.1 K.1.2.2 rfl ⟨c', oc, vs, t, rfl, kp _ _ hoc, hdc, hvc⟩ ?_)
    rw [hbind]
    refine wpAny_pure (wpAny_newFunctionEnv K.2.2.1 (fun y hy => by rw [List.mem_singleton.mp hy]; exact K.2.1) (fun h₁ hns hsb => ⟨I3.nolimit.fresh _ hsb, ?_⟩) K.1.1)
    show codeAny _ _ (.expr body (lamEnv X scope h.objs.size f c')) _ _
    have kp1 : ∀ b o, h.get? b = some o → h₁.get? b = some o := fun b o e => hsb.extBut b o (Nat.ne_of_lt (Heap.lt_size e)) (Heap.get?_push_of_some _ e)
    refine PySem.W.kla_codeExpr (wpAny_mono (hk b hb pins _ h.objs.size f c' u { s2 with heap := h₁, toks := tk + 1 } _ (I3.kept kp1) rb hns (by simp)) (fun w s' hw => ?_) fun _ _ hF => hF.elim)
    obtain ⟨⟨tk', rfl⟩, hw⟩ := hw
    exact ⟨h₁, tk', rfl, kp1, hw⟩
  by_cases h1 : bs.length = 1
  · match bs, h1 with
    | [b], _ =>
      obtain ⟨u, rfl, rb⟩ : ∃ u, its = [u] ∧ RelV b.1 u := by
        cases rv with
        | cons r1 r2 =>
          cases r2
          exact ⟨_, rfl, r1⟩
      refine sorted_key_one (s := s2) hli.isList (ksk_s1 _ _) (fun _ => ksk_l1 _ _) (fun _ => ksk_t1 _ _) (fun h tk kp => wpAny_mono (trn u b rb (List.mem_singleton.mpr rfl) h tk kp) (fun v s' z => ?_) fun _ _ z => z) fun h' tk ep kp hD => ?_
      · obtain ⟨h', tk', e, kk, _⟩ := z
        exact ⟨h', tk', e, kk⟩
      · refine ⟨.ref _, upd H2 (s2.heap.objs.size + 1) (.lst [b.1]), I2.laid (t' := tk) kp (Nat.le_succ _) ⟨(by show 1 ≤ sizeLine; decide), [u], ep, .cons rb .nil, hD⟩, rfl, ?_⟩
        have e : ([b].mergeSort (PySem.W.dataLe false Prod.snd)).map Prod.fst = [b.1] := by
          rw [List.perm_singleton.mp (List.mergeSort_perm [b] (PySem.W.dataLe false Prod.snd))]
          rfl
        have z := hq _ (I2.hok.fresh (Nat.le_succ _))
        rw [e] at z
        exact z
  have hso : PySem.W.Sortable (bs.map Prod.snd) := hso.resolve_right h1
  refine PySem.W.sorted_key_data (s := s2) (b := false) (bs := bs) (vs := its) (R := fun u (b : V × PyData) => RelV b.1 u) Prod.snd hli.isList (each_vals rv) hal hso hz (fun b hb => ?_) (ksk_s1 _ _) (fun _ => ksk_l1 _ _) (fun _ => ksk_t1 _ _) (fun u b rb hb h tk kp => trn u b rb hb h tk kp) fun out ep h' tk kp fr0 hD hlen eo => ?_
  · have := hdp b hb
    have := hr.un
    omega
  · refine ⟨.ref _, upd H2 (s2.heap.objs.size + 1) (.lst ((bs.mergeSort (PySem.W.dataLe false Prod.snd)).map Prod.fst)), I2.laid (t' := tk) kp (Nat.le_succ _) ⟨?_, out, ep, vals_each (k := 0) eo, hD⟩, rfl, hq _ (I2.hok.fresh (Nat.le_succ _))⟩
    rw [List.length_map, List.length_mergeSort]
    exact hz
end
end K64

namespace K64
open PySem PySem.Spec PyProof.Rows L2 LamX
/-! ### two stretches that are alike -/
def DShe (C : Addr) : Eqv := fun x y H => ∃ (a b : Addr) (q : Rat), x = .ref a ∧ y = .ref b ∧ ShQ C H a q ∧ ShQ C H b q
theorem mon_she {C : Addr} : Mon (DShe C) := fun x y H H' e ⟨a, b, q, h1, h2, ⟨d1, e1⟩, ⟨d2, e2⟩⟩ => ⟨a, b, q, h1, h2, ⟨d1, e _ _ e1⟩, ⟨d2, e _ _ e2⟩⟩
abbrev DStr (K : PySem.W.Frag) (C : Addr) : Eqv := DTup K fun x y H => DFlat x y H ∨ DShe C x y H
theorem rcG_str {X : Cx} {n : Nat} {C f : Addr} (O : OwnEq X n C f) : RcG X (n + 1) (DStr X.K C) := by
  have h : RcG X n (DShe C) := by
    intro A pins s σ H x y u v sb I rx ry d
    obtain ⟨a, b, q, rfl, rfl, ha, hb⟩ := d
    cases rx
    cases ry
    refine wpAny_mono (rc_two O sb I ha hb) (fun r s' z => ?_) fun _ _ z => z
    obtain ⟨rfl, I'⟩ := z
    refine ⟨?_, H, I', Ext.rfl'⟩
    rw [decide_eq_true rfl, decide_eq_true rfl]
    rfl
  have e : EqG X n (DShe C) := h.eqG fun _ _ _ d => let ⟨a, b, _, hx, hy, _⟩ := d; ⟨a, b, hx, hy⟩
  exact rcG_tup (mon_flat.or mon_she) ((eqG_flat.mono (Nat.zero_le n)).or e)
theorem str_same {K : PySem.W.Frag} {C : Addr} {H : Hp} {v v' : V} {st : Stre} (h : StrA K C H v st) (h' : StrA K C H v' st) : DStr K C v v' H := by
  obtain ⟨t, l, hv, rfl, ht, hl, hh⟩ := h
  obtain ⟨t', l', hv', rfl, ht', hl', hh'⟩ := h'
  have bl : ∀ b : Bool, DFlat (.bl b) (.bl b) H := fun b => ⟨rfl, rfl, by cases b <;> rfl⟩
  have top : DFlat hv hv' H ∨ DShe C hv hv' H := by
    rcases hh with ⟨e, rfl⟩ | ⟨h0, u, e, rfl, hu⟩
    · rcases hh' with ⟨_, rfl⟩ | ⟨_, _, e', _⟩
      · exact .inl ⟨rfl, rfl, rfl⟩
      · rw [e] at e'
        cases e'
    · rcases hh' with ⟨e', _⟩ | ⟨h1, u', e', rfl, hu'⟩
      · rw [e] at e'
        cases e'
      · rw [e] at e'
        obtain rfl := Option.some.inj e'
        exact .inr ⟨u, u', h0, rfl, rfl, hu, hu'⟩
  exact ⟨t, t', _, _, rfl, rfl, ht, ht', (Prs.cons (.inr ⟨l, l', _, rfl, rfl, hl, hl'⟩) (Prs.cons (.inl (bl _)) (Prs.cons top (Prs.cons (.inl (bl _)) Prs.nil))))⟩
/-! ### whether just the amounts that lead there are told -/
theorem exn_world {K : PySem.W.Frag} {H H' : Hp} {t : Addr} {W : WebV} (k : ExtN H H') (h : WorldAt K H t W) : WorldAt K H' t W := by
  obtain ⟨rl, sl, h0, ⟨ts, hts, hA⟩, ⟨us, hus, hU⟩⟩ := h
  exact ⟨rl, sl, exn_tup k h0, ⟨ts, exn_seq k hts, hA.mono fun _ _ _ _ ⟨x, y, a, b, c⟩ => ⟨x, y, exn_tup k a, exn_tup k b, exn_tup k c⟩⟩, ⟨us, exn_seq k hus, hU.mono fun _ _ _ _ r => exn_tup k r⟩⟩
theorem kbn_place {K : PySem.W.Frag} {x qual : Str} {st : Stmt} {f : Addr} {fd : FuncData} (F : Fun K x qual st f fd) {ps ks : List Str}
    (h : ∀ (kV doc pm : Value) (an : Option Addr) (cdv ct : Value) (us ws : List Value), us.length = 3 → ws.length = ks.length → bindArgs (PySem.W.fnOf x qual (defArgs st) (defBody st) (defScope st) .none kV doc pm an cdv ct) ⟨us, ks.zip ws⟩ = pure (ps.zip (us ++ ws))) :
    KBn K fd ps 3 ks (fun us ws => us ++ ws) (fun vs zs => vs ++ zs) := by
  obtain ⟨oc, od, kV, doc, pm, an, cdv, ct, osl, rfl, lk, hcd⟩ := F.ex
  exact ⟨fun s us ws _ l1 l2 => .of_eq (h kV doc pm an cdv ct us ws l1 l2), fun r1 r2 => r1.append r2⟩
theorem kb_betw {K : PySem.W.Frag} {f : Addr} {fd : FuncData} (F : Fun K "rains_between" "rains_between" d_rains_between f fd) : KBn K fd ["web", "depths", "later", "place"] 3 ["place"] (fun us ws => us ++ ws) (fun vs zs => vs ++ zs) :=
  kbn_place F fun _ _ _ _ _ _ us ws l1 l2 => match us, ws, l1, l2 with | [_, _, _], [_], _, _ => rfl
end K64

namespace K64
open PySem PySem.Spec PyProof.Rows L2
/-! ### the law's rain at one place; a share as a pair -/
def spAtL (K : PySem.W.Frag) : Sp := fun vs H Q _ => ∃ (t a : Addr) (W : WebV) (p : Nat) (q : Rat), vs = [.ref t, .int (p : Int), .ref a] ∧ WorldAt K H t W ∧ GoodWeb W ∧ PairAt K H a q ∧ ∀ (H' : Hp) (l : Addr), Same H H' → H l = none → PairsT K H' l (atR W p q) → Q (.ref l) H'
def spPairS (K : PySem.W.Frag) (C : Addr) : Sp := fun vs H Q _ => ∃ (x : Addr) (q : Rat), vs = [.ref x] ∧ ShQ C H x q ∧ ∀ (H' : Hp) (r : Addr), Same H H' → PairAt K H' r q → Q (.ref r) H'
section
variable {P : Program} {w : World} {K : PySem.W.Frag} {mg : Str → Option Value} {base : Heap}
theorem scPrS : FnScope ["share"] ["share"] (defScope d_law_pair) := ⟨rfl, rfl, rfl, by decide +kernel, rfl, by decide +kernel, by decide +kernel⟩
theorem ok_pairS {f C CN : Addr} {fd : FuncData} (F : Fun K "_law_pair" "_law_pair" d_law_pair f fd) (T : Txt K mg C CN) : FnOk P w K mg base CX0 1 f fd ["share"] (spPairS K C) := by
  refine F.ok scPrS (fun vs H Q E h => ?_) (fun cdv A outer s H vs Q E hr h => ?_)
  · obtain ⟨_, _, rfl, _⟩ := h
    rfl
  · obtain ⟨x, q, rfl, ⟨dx, hx⟩, k⟩ := h
    refine ⟨_, pss_one (ps_ret (pe_tup (pa_cons (pe_fld (pv 0) rfl) (pa_cons (pe_fld (pv 0) rfl) pa_nil)))), ?_⟩
    refine ⟨_, rfl, x, C, dx, _, _, rfl, hx, T.cl, T.nT, shf_top .., _, rfl, x, C, dx, _, _, rfl, hx, T.cl, T.nB, shf_bottom .., (by show 2 ≤ sizeLine; decide), fun r hr' => ?_⟩
    exact k _ r (same1 hr') (SqT.of upd_same)
abbrev latN : List Str := ["spec", "spot", "amount", "one"]
theorem scLat : FnScope latN ["spec", "spot", "amount"] (defScope d_law_at) := ⟨rfl, rfl, rfl, by decide +kernel, rfl, by decide +kernel, by decide +kernel⟩
theorem ok_lat {f : Addr} {fd : FuncData} (F : Fun K "_law_at" "_law_at" d_law_at f fd) (B : TxtB mg) (hrange : mg "range" = none) : FnOk P w K mg base CX0 1 f fd ["spec", "spot", "amount"] (spAtL K) := by
  refine F.ok scLat (fun vs H Q E h => ?_) (fun cdv A outer s H vs Q E hr h => ?_)
  · obtain ⟨_, _, _, _, _, rfl, _⟩ := h
    rfl
  · obtain ⟨t0, a, W, p, q, rfl, hW, g, ha, k⟩ := h
    refine ⟨_, pss_one (ps_ret (pe_lc (own := [("one", 3)]) (g := gName 3) (by rfl) scLat.nd (pi_range1 (by rfl) hrange (pa_cons (pe_ix ix_tup (pv 0) pe_int (fun _ _ => rfl)) pa_nil)) (blkOk_by (own := [("one", 3)]) (N := latN) (sc := defScope d_law_at) (by decide +kernel))
          (fun _ _ _ _ _ => pg_name (i := 3) scLat.nd rfl (.inl rfl)) (fun _ _ _ _ _ => pts_nil)
          (fun _ _ _ _ _ => pe_ix (show IxR _ (rIxL K) from ix_list) (pe_lst (pa_cons (pe_tup (pa_cons pe_int (pa_cons pe_int pa_nil))) (pa_cons (pv 2) pa_nil))) (pe_callTy call_int1 (by rfl) B.int (by decide +kernel) (pa_cons (pe_cmpR op_eq (pv 3) (pv 1) (nomark _)) pa_nil)) (fun _ _ => rfl)))), ?_⟩
    have m8 := g.m8
    obtain ⟨rl, sl, h0, _⟩ := id hW
    refine ⟨_, rfl, t0, _, _, _, rfl, rfl, h0, at_k (by decide) rfl, _, rfl, by omega, by omega, fun D hD => ?_⟩
    refine lc_range (lo := 0) (n := ((W.many : Nat) : Int).toNat) (fun i N => ∃ us : List Addr, N D = some (.lst (us.map V.ref)) ∧ All2 (PairAt K N) us ((List.range i).map fun j => if j = p then q else 0) ∧ Same H N) ⟨[], upd_same, .nil, same1 hD⟩ ?_ ?_
    · rintro i N hi ⟨us, eD, hus, sN⟩
      refine ⟨rfl, (by show 2 ≤ sizeLine; decide), fun T hT => ?_⟩
      have s1 : Same N (upd N T (.tup [.int 0, .int 1])) := same1 hT
      have eT : (upd N T (.tup [.int 0, .int 1]) : Hp) T = some (.tup [.int 0, .int 1]) := upd_same
      generalize upd N T (.tup [.int 0, .int 1]) = N1 at *
      refine ⟨_, rfl, (by show 2 ≤ sizeLine; decide), fun L hL => ?_⟩
      have s2 : Same N1 (upd N1 L (.lst [.ref T, .ref a])) := same1 hL
      have eL : (upd N1 L (.lst [.ref T, .ref a]) : Hp) L = some (.lst [.ref T, .ref a]) := upd_same
      generalize upd N1 L (.lst [.ref T, .ref a]) = N2 at *
      have s12 := s1.trans s2
      have eD2 := s12 _ _ eD
      have hT0 : PairAt K N2 T 0 := SqT.of (s2 _ _ eT)
      have ha2 : PairAt K N2 a q := Same.tup (sN.trans s12) ha
      have snoc : ∀ {x : Addr} {qv : Rat}, PairAt K N2 x qv → qv = (if i = p then q else 0) → ∃ acc, N2 D = some (.lst acc) ∧ acc.length < sizeLine ∧ ∃ us2 : List Addr, (upd N2 D (.lst (acc ++ [V.ref x]))) D = some (.lst (us2.map V.ref)) ∧ All2 (PairAt K (upd N2 D (.lst (acc ++ [V.ref x])))) us2 ((List.range (i + 1)).map fun j => if j = p then q else 0) ∧ Same H (upd N2 D (.lst (acc ++ [V.ref x]))) := fun {x qv} hx e => by
        have kp : KeepL N2 (upd N2 D (.lst (us.map V.ref ++ [V.ref x]))) := keep_put eD2
        refine ⟨_, eD2, ?_, us ++ [x], by rw [List.map_append]; exact upd_same, ?_, fun b o eb => ?_⟩
        · rw [List.length_map, hus.len, List.length_map, List.length_range]
          exact Nat.lt_of_lt_of_le (show i < 8 by omega) (by decide)
        · rw [List.range_succ, List.map_append]
          refine All2.snoc (hus.mono fun _ _ _ _ z => kp.tup (Same.tup s12 z)) ?_
          show PairAt K _ x (if i = p then q else 0)
          rw [← e]
          exact kp.tup hx
        · rw [upd_ne (ne_of_none eb hD)]
          exact s12 _ _ (sN _ _ eb)
      refine ⟨_, rfl, _, rfl, rfl, .inr ⟨_, rfl, ?_⟩⟩
      rw [decI]
      by_cases c : i = p
      · rw [decide_eq_true (show (0 + (i : Int)) = (p : Int) by omega)]
        exact ⟨L, _, _, .ref a, rfl, rfl, SqL.of eL, at_k (by decide) rfl, snoc ha2 (by rw [if_pos c])⟩
      · rw [decide_eq_false (show ¬ (0 + (i : Int)) = (p : Int) by omega)]
        exact ⟨L, _, _, .ref T, rfl, rfl, SqL.of eL, at_k (by decide) rfl, snoc hT0 (by rw [if_neg c])⟩
    rintro N ⟨us, eD, hus, sN⟩
    rw [Int.toNat_natCast] at hus
    exact k N D sN hD ⟨us, eD, hus⟩
end
end K64

namespace K64
open PySem PySem.Spec PyProof.Rows L2
/-! ### whether an amount lies in a stretch: the law's own look -/
def tupQ (q : Rat) : PyData := .tuple ([q.num, (q.den : Int)].map PyData.int)
theorem eqv_tupQ (p q : Rat) : PyData.eqv (tupQ p) (tupQ q) = decide (p = q) := by
  have e : decide (p = q) = (decide (p.num = q.num) && decide ((p.den : Int) = (q.den : Int))) := (rat_eq p q).symm
  rw [e]
  unfold tupQ
  simp only [List.map_cons, List.map_nil]
  rw [PyData.eqv]
  simp only [PyData.eqvAll, PyData.eqv, Bool.and_true]
  have one : ∀ a b : Int, (a == b) = decide (a = b) := fun a b => by
    by_cases h : a = b
    · rw [h]
      simp
    · rw [decide_eq_false h]
      exact beq_false_of_ne h
  rw [one, one]
theorem shaped_q (q : Rat) : SeqAt.shaped (tupQ q) = true := by
  show (PyData.canLay0 (tupQ q) && decide (PyData.depth (tupQ q) ≤ 64)) = true
  rw [Bool.and_eq_true]
  refine ⟨by simp [tupQ, PyData.canLay0, PyData.canLayAll0], decide_eq_true ?_⟩
  simp only [tupQ, PyData.depth, List.map_cons, List.map_nil, PyData.depthAll]
  decide
theorem dp_q {K : PySem.W.Frag} {H : Hp} {a : Addr} {q : Rat} (h : PairAt K H a q) : Dp K H (.ref a) (tupQ q) := .tup (xs := [q.num, (q.den : Int)].map V.int) h (dps_ints _)
def lowB_ (s : Stre) (q : Rat) : Bool := decide (q < s.lo) || (decide (q = s.lo) && !s.hl)
def highB (s : Stre) (q : Rat) : Bool := match s.hi with
  | none => true
  | some h => decide (q < h) || (decide (q = h) && s.hh)
def inB (o : Option Stre) (q : Rat) : Bool := match o with
  | none => false
  | some s => !lowB_ s q && highB s q
theorem inB_iff {o : Option Stre} {q : Rat} : inB o q = true ↔ inO o q := by
  cases o with
  | none => exact ⟨(fun z => nomatch z), (fun ⟨_, e, _⟩ => nomatch e)⟩
  | some s =>
    have l : (!lowB_ s q) = true ↔ lowIn s.lo s.hl q := by
      unfold lowB_ lowIn
      rw [Bool.not_eq_true', ← Bool.not_eq_true, Bool.or_eq_true, Bool.and_eq_true, decide_eq_true_iff, decide_eq_true_iff, Bool.not_eq_true']
      constructor
      · intro n
        by_cases c : s.lo < q
        · exact .inl c
        · have e : q = s.lo := by
            have : ¬ q < s.lo := fun z => n (.inl z)
            grind
          refine .inr ⟨e, ?_⟩
          cases d : s.hl with
          | true => rfl
          | false => exact absurd (.inr ⟨e, d⟩) n
      · rintro (h | ⟨h, h2⟩) (n | ⟨n, n2⟩)
        · grind
        · grind
        · grind
        · rw [h2] at n2
          cases n2
    have h : highB s q = true ↔ highIn s.hi s.hh q := by
      unfold highB highIn
      cases s.hi with
      | none => exact ⟨(fun _ _ z => nomatch z), fun _ => rfl⟩
      | some h0 =>
        show (decide (q < h0) || (decide (q = h0) && s.hh)) = true ↔ _
        rw [Bool.or_eq_true, Bool.and_eq_true, decide_eq_true_iff, decide_eq_true_iff]
        exact ⟨fun z h e => by rw [← Option.some.inj e]; exact z, fun z => z h0 rfl⟩
    show (!lowB_ s q && highB s q) = true ↔ _
    rw [Bool.and_eq_true, l, h]
    exact ⟨fun z => ⟨s, rfl, z⟩, fun ⟨_, e, z⟩ => by obtain rfl := Option.some.inj e; exact z⟩
def spIsIn (K : PySem.W.Frag) (C : Addr) : Sp := fun vs H Q _ => ∃ (v : V) (a : Addr) (o : Option Stre) (q : Rat), vs = [v, .ref a] ∧ StrO K C H v o ∧ PairAt K H a q ∧ (∀ s, o = some s → SzS s) ∧ Sz 1500 q ∧ ∀ H', Same H H' → Q (.bl (inB o q)) H'
section
variable {P : Program} {w : World} {K : PySem.W.Frag} {mg : Str → Option Value} {base : Heap}
abbrev iiN : List Str := ["amounts", "one", "low", "has_low", "high", "has_high"]
theorem scIi : FnScope iiN ["amounts", "one"] (defScope d_law_is_in) := ⟨rfl, rfl, rfl, by decide +kernel, rfl, by decide +kernel, by decide +kernel⟩
theorem ok_isin {f f1 f2 C : Addr} {fd fd1 fd2 : FuncData} (F : Fun K "_law_is_in" "_law_is_in" d_law_is_in f fd) (A1 : At P w K mg base CX0 1 "_law_under" ["one", "other"] (spLessP K) f1 fd1) (A2 : At P w K mg base CX0 1 "_law_pair" ["share"] (spPairS K C) f2 fd2) :
    FnOk P w K mg base CX0 2 f fd ["amounts", "one"] (spIsIn K C) := by
  refine F.ok scIi (fun vs H Q E h => ?_) (fun cdv A outer s H vs Q E hr h => ?_)
  · obtain ⟨_, _, _, _, rfl, _⟩ := h
    rfl
  · obtain ⟨v, a, o, q, rfl, ho, ha, hz, zq, k⟩ := h
    refine ⟨_, pss_cons (ps_if (pt_cmp (pc_isN (pv 0))) (pss_one (ps_ret pe_bl)) pss_nil)
      (pss_cons (ps_asg (pv 0) (pg_tup (by rfl) (pgs_cons (pg_name (i := 2) scIi.nd rfl (.inl rfl)) (pgs_cons (pg_name (i := 3) scIi.nd rfl (.inl rfl)) (pgs_cons (pg_name (i := 4) scIi.nd rfl (.inl rfl)) (pgs_cons (pg_name (i := 5) scIi.nd rfl (.inl rfl)) pgs_nil))))))
      (pss_cons (ps_if (PW.pt (pw_or (pt_val (pe_call A1.G hr rfl A1.m A1.k A1.b .nil pass0 (pa_cons (pv 1) (pa_cons (pe_call A2.G hr rfl A2.m A2.k A2.b .nil pass0 (pa_cons (pv 2) pa_nil)) pa_nil))))
          (pw_or1 (PW.pt (pw_and (pt_cmpR (op_eqD hr.units) (pv 1) (pe_call A2.G hr rfl A2.m A2.k A2.b .nil pass0 (pa_cons (pv 2) pa_nil)) (nomark _)) (pw_and1 (pt_not (pt_val (pv 3))))))))) (pss_one (ps_ret pe_bl)) pss_nil)
      (pss_cons (ps_if (pt_cmp (pc_isN (pv 4))) (pss_one (ps_ret pe_bl)) pss_nil)
      (pss_one (ps_ret (pe_or (pe_call A1.G hr rfl A1.m A1.k A1.b .nil pass0 (pa_cons (pv 1) (pa_cons (pe_call A2.G hr rfl A2.m A2.k A2.b .nil pass0 (pa_cons (pv 4) pa_nil)) pa_nil)))
          (pe_one (pe_and (pe_cmpR (op_eqD hr.units) (pv 1) (pe_call A2.G hr rfl A2.m A2.k A2.b .nil pass0 (pa_cons (pv 4) pa_nil)) (nomark _)) (pe_one (pv 5))))))))))
      , ?_⟩
    rcases ho with ⟨rfl, rfl⟩ | ⟨st, rfl, t, l, hv, rfl, ht, hl, hh⟩
    · exact ⟨_, rfl, true, rfl, iteT (k H (Same.refl _))⟩
    obtain ⟨zl, zh⟩ := hz st rfl
    refine ⟨_, rfl, false, rfl, iteF ⟨_, rfl, t, _, rfl, ht, rfl, _, _, rfl, _, _, rfl, _, _, rfl, _, _, rfl, rfl, ?_⟩⟩
    refine ⟨_, rfl, _, rfl, l, st.lo, rfl, hl, fun H1 r1 s1 hr1 => ⟨a, r1, q, st.lo, rfl, ha.mono s1, hr1, zq, zl, _, rfl, ?_⟩⟩
    have in_ : inB (some st) q = (!lowB_ st q && highB st q) := rfl
    rw [in_] at k
    have shq := shaped_q q
    -- past its lower end
    by_cases c1 : q < st.lo
    · rw [decide_eq_true c1]
      refine iteT (iteT ?_)
      have e : lowB_ st q = true := by unfold lowB_; rw [decide_eq_true c1]; rfl
      rw [e] at k
      exact k H1 s1
    rw [decide_eq_false c1]
    refine iteF ⟨_, rfl, _, rfl, l, st.lo, rfl, hl.mono s1, fun H2 r2 s2 hr2 => ⟨tupQ q, tupQ st.lo, dp_q (ha.mono (s1.trans s2)), dp_q hr2, shq, shaped_q _, _, rfl, ?_⟩⟩
    rw [eqv_tupQ]
    have s12 := s1.trans s2
    -- its upper end
    have up : lowB_ st q = false → ∀ {H3 : Hp}, Same H H3 → (hv = .non → Q (.bl true) H3) := fun e H3 s3 z => by
      have : highB st q = true := by
        rcases hh with ⟨eh, _⟩ | ⟨_, _, _, e2, _⟩
        · unfold highB
          rw [eh]
        · rw [z] at e2
          cases e2
      rw [e, this] at k
      exact k H3 s3
    by_cases c2 : q = st.lo
    · rw [decide_eq_true c2]
      cases eh1 : st.hl with
      | false =>
        refine iteT ⟨_, rfl, false, rfl, iteT ?_⟩
        have e : lowB_ st q = true := by unfold lowB_; rw [decide_eq_false c1, decide_eq_true c2, eh1]; rfl
        rw [e] at k
        exact k H2 s12
      | true =>
        refine iteT ⟨_, rfl, true, rfl, iteF ?_⟩
        have e : lowB_ st q = false := by unfold lowB_; rw [decide_eq_false c1, decide_eq_true c2, eh1]; rfl
        rcases id hh with ⟨eh, rfl⟩ | ⟨h0, u, eh, rfl, hu⟩
        · exact ⟨_, rfl, true, rfl, iteT (up e s12 rfl)⟩
        · refine ⟨_, rfl, false, rfl, iteF ⟨_, rfl, _, rfl, u, h0, rfl, hu.mono s12, fun H3 r3 s3 hr3 => ⟨a, r3, q, h0, rfl, ha.mono (s12.trans s3), hr3, zq, zh h0 eh, _, rfl, ?_⟩⟩⟩
          have hb : highB st q = (decide (q < h0) || (decide (q = h0) && st.hh)) := by
            unfold highB
            rw [eh]
          rw [e, hb] at k
          by_cases c3 : q < h0
          · rw [decide_eq_true c3] at k ⊢
            exact iteT (k H3 (s12.trans s3))
          · rw [decide_eq_false c3] at k ⊢
            refine iteF ⟨_, rfl, _, rfl, u, h0, rfl, hu.mono (s12.trans s3), fun H4 r4 s4 hr4 => ⟨tupQ q, tupQ h0, dp_q (ha.mono (s12.trans (s3.trans s4))), dp_q hr4, shq, shaped_q _, _, rfl, ?_⟩⟩
            rw [eqv_tupQ]
            by_cases c4 : q = h0
            · rw [decide_eq_true c4] at k ⊢
              exact iteT ⟨_, rfl, k H4 (s12.trans (s3.trans s4))⟩
            · rw [decide_eq_false c4] at k ⊢
              exact iteF (k H4 (s12.trans (s3.trans s4)))
    · rw [decide_eq_false c2]
      refine iteF (iteF ?_)
      have e : lowB_ st q = false := by unfold lowB_; rw [decide_eq_false c1, decide_eq_false c2]; rfl
      rcases id hh with ⟨eh, rfl⟩ | ⟨h0, u, eh, rfl, hu⟩
      · exact ⟨_, rfl, true, rfl, iteT (up e s12 rfl)⟩
      · refine ⟨_, rfl, false, rfl, iteF ⟨_, rfl, _, rfl, u, h0, rfl, hu.mono s12, fun H3 r3 s3 hr3 => ⟨a, r3, q, h0, rfl, ha.mono (s12.trans s3), hr3, zq, zh h0 eh, _, rfl, ?_⟩⟩⟩
        have hb : highB st q = (decide (q < h0) || (decide (q = h0) && st.hh)) := by
          unfold highB
          rw [eh]
        rw [e, hb] at k
        by_cases c3 : q < h0
        · rw [decide_eq_true c3] at k ⊢
          exact iteT (k H3 (s12.trans s3))
        · rw [decide_eq_false c3] at k ⊢
          refine iteF ⟨_, rfl, _, rfl, u, h0, rfl, hu.mono (s12.trans s3), fun H4 r4 s4 hr4 => ⟨tupQ q, tupQ h0, dp_q (ha.mono (s12.trans (s3.trans s4))), dp_q hr4, shq, shaped_q _, _, rfl, ?_⟩⟩
          rw [eqv_tupQ]
          by_cases c4 : q = h0
          · rw [decide_eq_true c4] at k ⊢
            exact iteT ⟨_, rfl, k H4 (s12.trans (s3.trans s4))⟩
          · rw [decide_eq_false c4] at k ⊢
            exact iteF (k H4 (s12.trans (s3.trans s4)))
end
end K64

namespace K64
open PySem PySem.Spec PyProof.Rows L2 LamX
/-! ### the amounts by which a bed bears just a mark, of any parts -/
def mkQ : Str := ("_law_marked.<locals>.<lambda>" : Str)
theorem pt_of2 {W : WebV} (g : GoodWeb W) (lb : ∀ b ∈ W.beds, LimB b) {fs : List Rat} (hf : ∀ f ∈ fs, Lim (LL ^ W.many) 321 f) {q : Rat} (h : q ∈ marksE W.beds fs (W.beds.zip fs).length) : PtOk q := by
  rcases marksE_mem h with rfl | ⟨x, hx, pos, e⟩
  · exact pt_zero
  · obtain ⟨h1, h2⟩ := List.of_mem_zip (a := x.1) (b := x.2) hx
    have l := hf x.2 h2
    obtain ⟨b1, b2⟩ := lb x.1 h1
    have := g.m8
    rcases e with e | e <;> rw [e]
    · exact pt_mark b1 l (LLp_pos _) (LLp_le8 this) pos
    · exact pt_mark b2 l (LLp_pos _) (LLp_le8 this) pos
def spMarked (K : PySem.W.Frag) (T : List (Addr × Str)) : Sp := fun vs H Q _ => ∃ (t l0 : Addr) (W : WebV) (fs : List Rat), vs = [.ref t, .ref l0] ∧ WorldAt K H t W ∧ GoodWeb W ∧ (∀ b ∈ W.beds, LimB b) ∧ PairsT K H l0 fs ∧ fs.length = W.beds.length ∧ (∀ f ∈ fs, Lim (LL ^ W.many) 321 f ∧ Sz 1500 f) ∧ Tabs T H ∧
  ∀ (H' : Hp) (l : Addr) (qs : List Rat), ExtN H H' → Tabs T H' → (∀ xs : List V, H l ≠ some (.lst xs)) → PairsT K H' l qs → PtsOk (marksE W.beds fs (W.beds.zip fs).length) qs → qs.length < 64 → Q (.ref l) H'
section
variable {P : Program} {w : World} {K : PySem.W.Frag} {mg : Str → Option Value} {base : Heap}
abbrev lpN : List Str := ["spec", "parts", "found", "brook", "part", "mark", "one", "whole", "top", "bottom"]
theorem scLp : FnScope lpN ["spec", "parts"] (defScope d_law_marked) := ⟨rfl, rfl, rfl, by decide +kernel, rfl, by decide +kernel, by decide +kernel⟩
theorem ok_marked {T : List (Addr × Str)} {fa f3 C cc Pt : Addr} {fd3 : FuncData} {kV doc pm ct oc : Value} {an od : Option Addr} {osl : Array (Option Value)}
    (lk : K.lookup fa = some ⟨oc, od, .func (PySem.W.fnOf "_law_marked" "_law_marked" (defArgs d_law_marked) (defBody d_law_marked) (defScope d_law_marked) .none kV doc pm an (.ref cc) ct), osl⟩) (hcd : PySem.W.codeIn K (.ref cc) "_law_marked" = true)
    (Y : TxtW mg C) (hzip : mg "zip" = none) (hset : mg "set" = none) (TB : TabB base mg cc Pt) (hmT : (Pt, mkQ) ∈ T) (huT : ∀ p ∈ T, p.1 = Pt → p.2 = mkQ)
    (AB : At P w K mg base CX0 2 "_law_by" ["one", "other"] (spTwoP K fun p q => p * q) f3 fd3) :
    FnOk P w K mg base CX0 4 fa (PySem.W.fnOf "_law_marked" "_law_marked" (defArgs d_law_marked) (defBody d_law_marked) (defScope d_law_marked) .none kV doc pm an (.ref cc) ct) ["spec", "parts"] (spMarked K T) := by
  refine fn_of lk hcd scLp (fun vs H Q E h => ?_) (fun A outer s H vs Q E hr h => ?_)
  · obtain ⟨_, _, _, _, rfl, _⟩ := h
    rfl
  · obtain ⟨t0, bl, W, fs, rfl, hW, g, lb, hbl, lf, hfs, hT, q⟩ := h
    have r2 : Room 2 _ := hr.mono (by decide)
    refine ⟨_, PSs.nox (pss_cons (ps_set (i := 2) scLp.nd rfl (Or.inl rfl) (pe_lst (pa_cons (pe_tup (pa_cons pe_int (pa_cons pe_int pa_nil))) pa_nil)))
      (pss_cons (ps_for PassesOwn.never rfl (pi_zipG false false (by rfl) hzip (pa_cons (pe_ix ix_tup (pv 0) pe_int (fun _ _ => rfl)) (pa_cons (pv 1) pa_nil)))
          (pg_tup (by rfl) (pgs_cons (pg_name (i := 3) scLp.nd rfl (.inl rfl)) (pgs_cons (pg_name (i := 4) scLp.nd rfl (.inr rfl)) pgs_nil)))
        (pss_one (ps_if (pt_cmpR op_gt (pe_ix ix_tup (pv 4) pe_int (fun _ _ => rfl)) pe_int (nomark _)) (pss_one (ps_set (i := 2) scLp.nd rfl (Or.inl rfl) (pe_op op_cat (pv 2)
            (pe_lc (own := [("mark", 5)]) (g := gName 5) (by rfl) scLp.nd (pi_tup (pe_slice sl_tupA (pv 3) (po_some pe_int) po_none)) (blkOk_by (own := [("mark", 5)]) (N := lpN) (sc := defScope d_law_marked) (by decide +kernel)) (fun _ _ _ _ _ => pg_name (i := 5) scLp.nd rfl (.inl rfl)) (fun _ _ _ _ _ => pts_nil)
              (fun _ _ _ _ _ => pe_call AB.G r2 rfl AB.m AB.k AB.b .nil pass0 (pa_cons (pv 5) (pa_cons (pe_tup (pa_cons (pe_ix (show IxR _ (rIxT K) from ix_tup) (pv 4) pe_int (fun _ _ => rfl)) (pa_cons (pe_ix (show IxR _ (rIxT K) from ix_tup) (pv 4) pe_int (fun _ _ => rfl)) pa_nil))) pa_nil))))))) pss_nil)))
      (pss_cons (ps_set (i := 2) scLp.nd rfl (Or.inl rfl) (pe_callB (cr_sortedT rfl) (by rfl) Y.sorted (by decide +kernel) (pa_cons (pe_callTy (cr_setOfT rfl hr.units) (by rfl) hset (by decide +kernel) (pa_cons
          (pe_lc (own := [("one", 6)]) (g := gName 6) (by rfl) scLp.nd (pi_list (pv 2)) (blkOk_by (own := [("one", 6)]) (N := lpN) (sc := defScope d_law_marked) (by decide +kernel)) (fun _ _ _ _ _ => pg_name (i := 6) scLp.nd rfl (.inl rfl))
            (fun _ _ _ _ _ => pts_one (pt_cmpR op_ge (pe_ix (show IxR _ (rIxT K) from ix_tup) (pv 6) pe_int (fun _ _ => rfl)) pe_int (nomark _))) (fun _ _ _ _ _ => pv 6)) pa_nil)) pa_nil)))
      (pss_cons (ps_set (i := 7) scLp.nd rfl (Or.inr rfl) pe_int)
      (pss_cons (ps_for PassesOwn.never rfl (pi_list (pv 2)) (pg_tup (by rfl) (pgs_cons (pg_name (i := 8) scLp.nd rfl (.inl rfl)) (pgs_cons (pg_name (i := 9) scLp.nd rfl (.inl rfl)) pgs_nil))) (pss_one (ps_set (i := 7) scLp.nd rfl (Or.inr rfl) (pe_op op_mulW (pv 7) (pv 9)))))
      (pss_one (ps_ret (pe_sortK (a := "one") (T := T) hr (by rfl) Y.sorted (pv 2) (lamK_by (sc := defScope d_law_marked) (by decide +kernel)) TB rfl hmT huT rfl (fun _ _ _ _ _ _ => rfl))))))))), ?_⟩
    have m8 := g.m8
    have few := g.few
    obtain ⟨rl, sl, h0, ⟨ts, hts, hA⟩, hP⟩ := id hW
    refine ⟨(by show 2 ≤ sizeLine; decide), fun T1 hT1 => ?_⟩
    have s1 : Same H (upd H T1 (.tup [.int 0, .int 1])) := same1 hT1
    have eT1 : (upd H T1 (.tup [.int 0, .int 1]) : Hp) T1 = some (.tup (prV 0)) := upd_same
    generalize upd H T1 (.tup [.int 0, .int 1]) = H1 at *
    refine ⟨(by show 1 ≤ sizeLine; decide), fun L0 hL0 => ?_⟩
    have s2 : Same H1 (upd H1 L0 (.lst [.ref T1])) := same1 hL0
    have eL0 : (upd H1 L0 (.lst [.ref T1]) : Hp) L0 = some (.lst ([T1].map V.ref)) := upd_same
    generalize upd H1 L0 (.lst [.ref T1]) = H2 at *
    have s02 := s1.trans s2
    obtain ⟨ps, ebl, hps⟩ := id hbl
    have lps := hps.len
    have lts := hA.len
    have hps : All2 (PairAt K H2) ps fs := hps.mono fun _ _ _ _ r => Same.tup s02 r
    have ebl := s02 _ _ ebl
    refine ⟨_, rfl, t0, _, _, _, rfl, rfl, Same.tup s02 h0, at_k (by decide) rfl, _, rfl, rl, bl, ts.map V.ref, ?_⟩
    refine ⟨ps.map V.ref, rfl, s02.seq hts, SqL.of ebl, ?_⟩
    refine for_it (walk_zipG (K := K) (j := false) (k := false) (a := rl) (b := bl) (xs := ts.map V.ref) (ys := ps.map V.ref) rfl) (fun i σ N => ∃ (v4 v5 : Option V) (l : Addr) (us : List Addr), σ = [some (.ref t0), some (.ref bl), some (.ref l), v4, v5, none, none, none, none, none] ∧ N l = some (.lst (us.map V.ref)) ∧ All2 (PairAt K N) us (marksE W.beds (fs) i) ∧ Same H2 N)
      ⟨none, none, L0, [T1], rfl, eL0, All2.snoc .nil (SqT.of (s2 _ _ eT1)), Same.refl _⟩ ?_ ?_ ?_
    · rintro i σ N _ ⟨_, _, _, _, rfl, _, _, sN⟩
      exact ⟨(s02.trans sN).seq hts, SqL.of (sN _ _ ebl)⟩
    · rintro i x σ N N' hi ⟨v4, v5, l, us, rfl, el, hus, sN⟩ ⟨T, x1, x2, rfl, hT, rfl, e1, e2⟩
      have e1 : (ts.map V.ref)[i]? = some x1 := e1
      have e2 : (ps.map V.ref)[i]? = some x2 := e2
      rw [List.getElem?_map] at e1 e2
      obtain ⟨t, ht, rfl⟩ := Option.map_eq_some_iff.mp e1
      obtain ⟨pr, hpr, rfl⟩ := Option.map_eq_some_iff.mp e2
      have il : i < W.beds.length := by
        have := (List.getElem?_eq_some_iff.mp ht).1
        omega
      have fi : i < (fs).length := by omega
      have hbi : W.beds[i]? = some W.beds[i] := List.getElem?_eq_getElem il
      have hfi : (fs)[i]? = some (fs)[i] := List.getElem?_eq_getElem fi
      have s6 : Same N (upd N T (.tup [.ref t, .ref pr])) := same1 hT
      refine ⟨T, _, rfl, SqT.of upd_same, rfl, _, _, rfl, _, _, rfl, rfl, ?_⟩
      generalize upd N T (.tup [.ref t, .ref pr]) = N2 at *
      obtain ⟨bx, by_, q1, qx, qy⟩ := RowAt.mono (hA.all i t _ ht hbi) ((s02.trans sN).trans s6)
      have qf : PairAt K N2 pr (fs)[i] := Same.tup (sN.trans s6) (hps.all i pr _ hpr hfi)
      have gb := g.bed _ (List.getElem_mem il)
      have lbb := lb _ (List.getElem_mem il)
      have lfi := (hfs _ (List.getElem_mem fi)).1
      have szf : Sz 1500 (fs)[i] := (hfs _ (List.getElem_mem fi)).2
      have me := marksE_succ hbi hfi
      generalize (fs)[i] = fq at *
      generalize W.beds[i] = b at *
      have el2 := s6 _ _ el
      have hus2 : All2 (PairAt K N2) us (marksE W.beds (fs) i) := hus.mono fun _ _ _ _ r => Same.tup s6 r
      refine ⟨_, rfl, pr, _, _, _, rfl, rfl, qf, at_k (by decide) rfl, _, _, rfl, rfl, _, rfl, ?_⟩
      refine ite2 (fun h => ?_) (fun h => ?_)
      · have f0 : 0 < fq := sq_pos.mp (of_decide_eq_true h)
        have inv := inv_nd f0
        have szi : Sz 1500 fq⁻¹ := ⟨by rw [inv.1]; exact szf.2, by rw [inv.2]; exact szf.1⟩
        have ei : prV fq⁻¹ = [.int (fq.den : Int), .int fq.num] := by
          unfold prV
          rw [inv.1, inv.2]
        refine ⟨_, rfl, _, rfl, _, rfl, t, _, rfl, q1, (fun z => absurd (show HT.sIx 4 0 (some 2) = 0 from z.1) (by decide)), fun _ c hc => ?_⟩
        have s7 : Same N2 (upd N2 c (.tup (cutV [.int (b.s : Int), .int (b.e : Int), .ref bx, .ref by_] (some 2) none))) := same1 hc
        have ec : (upd N2 c (.tup (cutV [.int (b.s : Int), .int (b.e : Int), .ref bx, .ref by_] (some 2) none)) : Hp) c = some (.tup ([bx, by_].map V.ref)) := upd_same
        generalize upd N2 c (.tup (cutV [.int (b.s : Int), .int (b.e : Int), .ref bx, .ref by_] (some 2) none)) = N3 at *
        refine ⟨c, rfl, ⟨_, SqT.of ec⟩, fun D hD => ?_⟩
        have ePair : ∀ j : Nat, j < 2 → ∃ (m : Addr) (qm : Rat), ([bx, by_].map V.ref)[j]? = some (.ref m) ∧ PairAt K N3 m qm ∧ Sz 1500 qm ∧ (markE b fq)[j]? = some (qm * fq⁻¹) := fun j hj => by
          unfold markE
          rw [if_pos f0]
          match j, hj with
          | 0, _ => exact ⟨bx, b.lo, rfl, Same.tup s7 qx, gb.slo, rfl⟩
          | 1, _ => exact ⟨by_, b.hi, rfl, Same.tup s7 qy, gb.shi, rfl⟩
        have lm : (markE b fq).length = 2 := by
          unfold markE
          rw [if_pos f0]
          rfl
        refine lc_tup (K := K) (a := c) (xs := [bx, by_].map V.ref) (fun j M => ∃ vs : List Addr, M D = some (.lst (vs.map V.ref)) ∧ All2 (PairAt K M) vs ((markE b fq).take j) ∧ Same N3 M) ⟨[], upd_same, by rw [List.take_zero]; exact .nil, same1 hD⟩ ?_ ?_ ?_
        · rintro j M _ ⟨_, _, _, sM⟩
          exact SqT.of (sM _ _ ec)
        · rintro j x M hx ⟨vs, eD, hvs, sM⟩
          have jl : j < 2 := by
            have := (List.getElem?_eq_some_iff.mp hx).1
            simpa using this
          obtain ⟨m, qm, em, hm, zm, ek⟩ := ePair j jl
          have hx : ([bx, by_].map V.ref)[j]? = some x := hx
          rw [em] at hx
          obtain rfl := Option.some.inj hx
          have qfM : PairAt K M pr fq := Same.tup (s7.trans sM) qf
          refine ⟨rfl, _, rfl, _, rfl, pr, _, _, _, rfl, rfl, qfM, at_k (by decide) rfl, _, rfl, pr, _, _, _, rfl, rfl, qfM, at_k (by decide) rfl, (by show 2 ≤ sizeLine; decide), fun I hI => ?_⟩
          have s8 : Same M (upd M I (.tup [.int (fq.den : Int), .int fq.num])) := same1 hI
          have eI : (upd M I (.tup [.int (fq.den : Int), .int fq.num]) : Hp) I = some (.tup (prV fq⁻¹)) := by rw [ei]; exact upd_same
          generalize upd M I (.tup [.int (fq.den : Int), .int fq.num]) = M1 at *
          refine ⟨m, I, qm, fq⁻¹, rfl, Same.tup (sM.trans s8) hm, SqT.of eI, zm, szi, fun r hr' => ?_⟩
          have s9 : Same M1 (upd M1 r (.tup (prV (qm * fq⁻¹)))) := same1 hr'
          have er : (upd M1 r (.tup (prV (qm * fq⁻¹))) : Hp) r = some (.tup (prV (qm * fq⁻¹))) := upd_same
          generalize upd M1 r (.tup (prV (qm * fq⁻¹))) = M2 at *
          have s89 := s8.trans s9
          have eD2 := s89 _ _ eD
          have kp : KeepL M2 (upd M2 D (.lst (vs.map V.ref ++ [V.ref r]))) := keep_put eD2
          refine ⟨_, eD2, ?_, vs ++ [r], by rw [List.map_append]; exact upd_same, ?_, fun a o ea => ?_⟩
          · rw [List.length_map, hvs.len, List.length_take, lm]
            exact Nat.lt_of_lt_of_le (show min j 2 < 3 by omega) (show 3 ≤ sizeLine by decide)
          · rw [List.take_add_one, ek]
            exact (hvs.mono fun _ _ _ _ z => kp.tup (Same.tup s89 z)).snoc (kp.tup (SqT.of er))
          · rw [upd_ne (ne_of_none ea hD)]
            exact s89 _ _ (sM _ _ ea)
        · rintro M ⟨vs, eD, hvs, sM⟩
          rw [List.take_of_length_le (by rw [lm]; exact Nat.le_refl _)] at hvs
          have elM := (s7.trans sM) _ _ el2
          have ll := marksE_len (bs := W.beds) (fs := fs) i
          refine ⟨l, D, _, _, rfl, rfl, elM, eD, ?_, fun L2 hL2 => ?_⟩
          · rw [List.length_map, List.length_map, hus2.len, hvs.len, lm]
            exact Nat.le_trans (show _ ≤ 27 by omega) (show 27 ≤ sizeLine by decide)
          rw [← List.map_append]
          have s9 : Same M (upd M L2 (.lst ((us ++ vs).map V.ref))) := same1 hL2
          refine ⟨_, _, L2, us ++ vs, rfl, upd_same, ?_, sN.trans (s6.trans (s7.trans (sM.trans s9)))⟩
          rw [me]
          exact All2.app (hus2.mono fun _ _ _ _ z => Same.tup (s7.trans (sM.trans s9)) z) (hvs.mono fun _ _ _ _ z => Same.tup s9 z)
      · have f0 : ¬ 0 < fq := fun z => h (decide_eq_true (sq_pos.mpr z))
        refine ⟨_, _, l, us, rfl, el2, ?_, sN.trans s6⟩
        rw [me]
        unfold markE
        rw [if_neg f0, List.append_nil]
        exact hus2
    · rintro σ N ⟨v4, v5, l, us, rfl, el, hus, sN⟩
      have ln : (min (ts.map V.ref).length (ps.map V.ref).length) = (W.beds.zip (fs)).length := by
        rw [List.length_map, List.length_map, List.length_zip]
        omega
      rw [ln] at hus
      have lus := hus.len
      have llen := marksE_len (bs := W.beds) (fs := fs) (W.beds.zip (fs)).length
      have few2 : (W.beds.zip (fs)).length ≤ 12 := by rw [List.length_zip]; omega
      have hpt : ∀ q ∈ marksE W.beds (fs) (W.beds.zip (fs)).length, PtOk q := fun q hq => pt_of2 g lb (fun f hf => (hfs f hf).1) hq
      generalize marksE W.beds (fs) (W.beds.zip (fs)).length = rs at *
      have l25 : rs.length ≤ 25 := by omega
      have s0N := s02.trans sN
      refine ⟨_, rfl, l, rfl, ⟨_, SqL.of el⟩, fun D hD => ?_⟩
      refine lc_list (K := K) (a := l) (xs := us.map V.ref) (fun i M => ∃ vs : List AQ, M D = some (.lst (vs.map fun x => V.ref x.1)) ∧ (∀ x ∈ vs, PairAt K M x.1 x.2) ∧ (∀ q, q ∈ vs.map Prod.snd ↔ q ∈ rs.take i ∧ 0 ≤ q) ∧ vs.length ≤ i ∧ Same N M) ⟨[], upd_same, (fun x h => nomatch h), fun q => by simp, Nat.le_refl _, same1 hD⟩ ?_ ?_ ?_
      · rintro i M _ ⟨_, _, _, _, _, sM⟩
        exact SqL.of (sM _ _ el)
      · rintro i x M hx ⟨vs, eD, hvs, mem, lv, sM⟩
        rw [List.getElem?_map] at hx
        obtain ⟨u1, hu1, rfl⟩ := Option.map_eq_some_iff.mp hx
        have iu : i < us.length := (List.getElem?_eq_some_iff.mp hu1).1
        have ir : i < rs.length := by omega
        have hri : rs[i]? = some rs[i] := List.getElem?_eq_getElem ir
        have hu : PairAt K M u1 rs[i] := Same.tup sM (hus.all i u1 _ hu1 hri)
        generalize rs[i] = r0 at *
        refine ⟨rfl, _, rfl, u1, _, _, _, rfl, rfl, hu, at_k (by decide) rfl, _, _, rfl, rfl, _, rfl, ?_⟩
        refine ite2 (fun h => ?_) (fun h => ?_)
        · have nn : 0 ≤ r0 := sq_nn.mp (of_decide_eq_true h)
          have kp : KeepL M (upd M D (.lst ((vs.map fun x => V.ref x.1) ++ [V.ref u1]))) := keep_put eD
          refine ⟨_, rfl, _, eD, ?_, vs ++ [(u1, r0)], by rw [List.map_append]; exact upd_same, fun x hx => ?_, fun q => ?_, by rw [List.length_append]; show vs.length + 1 ≤ i + 1; omega, fun a o ea => ?_⟩
          · rw [List.length_map]
            exact Nat.lt_of_lt_of_le (show vs.length < 26 by omega) (show 26 ≤ sizeLine by decide)
          · rcases List.mem_append.mp hx with z | z
            · exact kp.tup (hvs x z)
            · rw [List.mem_singleton.mp z]
              exact kp.tup hu
          · rw [List.map_append, List.mem_append, mem, List.take_add_one, hri, List.mem_append]
            simp only [List.map_cons, List.map_nil, List.mem_singleton, Option.toList_some]
            constructor
            · rintro (⟨a, b⟩ | rfl)
              · exact ⟨.inl a, b⟩
              · exact ⟨.inr rfl, nn⟩
            · rintro ⟨a | rfl, b⟩
              · exact .inl ⟨a, b⟩
              · exact .inr rfl
          · rw [upd_ne (ne_of_none ea hD)]
            exact sM _ _ ea
        · have nn : ¬ 0 ≤ r0 := fun z => h (decide_eq_true (sq_nn.mpr z))
          refine ⟨vs, eD, hvs, fun q => ?_, by omega, sM⟩
          rw [mem, List.take_add_one, hri, List.mem_append]
          simp only [List.mem_singleton, Option.toList_some]
          constructor
          · rintro ⟨a, b⟩
            exact ⟨.inl a, b⟩
          · rintro ⟨a | rfl, b⟩
            · exact ⟨a, b⟩
            · exact absurd b nn
      rintro M ⟨vs, eD, hvs, mem, lv, sM⟩
      rw [List.length_map, lus] at mem lv
      rw [List.take_length] at mem
      have s0M := s0N.trans sM
      have ptv : ∀ x ∈ vs, PtOk x.2 ∧ 0 ≤ x.2 := fun x hx => by
        have := (mem x.2).mp (List.mem_map_of_mem hx)
        exact ⟨hpt _ this.1, this.2⟩
      have kmem : ∀ z ∈ vs.map aqI, ∃ x ∈ vs, aqI x = z := fun z hz => List.mem_map.mp hz
      refine ⟨D, vs.map aqI, rfl, SqL.of (by rw [List.map_map]; exact eD), fun z hz => ?_, by rw [List.length_map]; omega, fun a L ha hL1 hL2 => ?_⟩
      · obtain ⟨x, hx, rfl⟩ := kmem z hz
        exact hvs x hx
      have s10 : Same M (upd M a (SetTO (cxOf CX0 P w K mg base lpN "_law_marked" (defScope d_law_marked) fa (.ref cc) A outer s H E).nox.prog (cxOf CX0 P w K mg base lpN "_law_marked" (defScope d_law_marked) fa (.ref cc) A outer s H E).nox.w a L)) := same1 ha
      refine ⟨a, L, 2, 2 ^ 1400, rfl, upd_same, fun z hz => ?_, by decide, fun z hz => ?_, fun L' pp pm nd lt pw hpp => ?_⟩
      · obtain ⟨x, hx, rfl⟩ := kmem z (hL1 z hz)
        exact Same.tup s10 (hvs x hx)
      · obtain ⟨x, hx, rfl⟩ := kmem z (hL1 z hz)
        refine ⟨rfl, fun k hk => ?_⟩
        obtain ⟨po, nn⟩ := ptv x hx
        have sz := po.sz
        have n0 := sq_nn.mpr nn
        have c : ((2 ^ 1400 : Nat) : Int) = (2 ^ 1400 : Int) := Int.natCast_pow 2 1400
        have hk : k ∈ [x.2.num, (x.2.den : Int)] := hk
        simp only [List.mem_cons, List.not_mem_nil, or_false] at hk
        have z1 := sz.1
        have z2 := sz.2
        rcases hk with rfl | rfl
        · exact ⟨n0, by rw [← c]; omega⟩
        · exact ⟨by omega, by rw [← c]; omega⟩
      obtain ⟨la, rfl⟩ := aq_of (L := L') fun z hz => by
        obtain ⟨x, hx, rfl⟩ := kmem z (hL1 z (pm.mem_iff.mp hz))
        exact ⟨x.2, rfl⟩
      generalize upd M a (SetTO (cxOf CX0 P w K mg base lpN "_law_marked" (defScope d_law_marked) fa (.ref cc) A outer s H E).nox.prog (cxOf CX0 P w K mg base lpN "_law_marked" (defScope d_law_marked) fa (.ref cc) A outer s H E).nox.w a L) = M1 at *
      rw [List.map_map]
      have s11 : Same M1 (upd M1 pp (.lst (la.map ((fun q => V.ref q.1) ∘ aqI)))) := same1 hpp
      have ela : (upd M1 pp (.lst (la.map ((fun q => V.ref q.1) ∘ aqI))) : Hp) pp = some (.lst (la.map fun x => V.ref x.1)) := upd_same
      generalize upd M1 pp (.lst (la.map ((fun q => V.ref q.1) ∘ aqI))) = M2 at *
      have sM2 := s10.trans s11
      have hla : ∀ x ∈ la, ∃ y ∈ vs, aqI y = aqI x := fun x hx => kmem _ (hL1 _ (pm.mem_iff.mp (List.mem_map_of_mem hx)))
      have hlav : ∀ x ∈ la, x ∈ vs := fun x hx => by
        obtain ⟨y, hy, e⟩ := hla x hx
        have e1 : y.1 = x.1 := (congrArg Prod.fst e : (aqI y).1 = (aqI x).1)
        have e2 : y.2 = x.2 := aqI_inj (congrArg Prod.snd e : (aqI y).2 = (aqI x).2)
        rw [show x = y from Prod.ext e1.symm e2.symm]
        exact hy
      have hall : ∀ q, q ∈ la.map Prod.snd ↔ q ∈ rs ∧ 0 ≤ q := fun q => by
        rw [← mem]
        constructor
        · intro h
          obtain ⟨x, hx, rfl⟩ := List.mem_map.mp h
          exact List.mem_map_of_mem (hlav x hx)
        · intro h
          obtain ⟨x, hx, rfl⟩ := List.mem_map.mp h
          have h1 := hL2 (aqI x) (List.mem_map_of_mem hx)
          obtain ⟨z, hz, e⟩ := List.mem_map.mp h1
          obtain ⟨y, hy, rfl⟩ := List.mem_map.mp (pm.mem_iff.mpr hz)
          exact List.mem_map.mpr ⟨y, hy, aqI_inj e⟩
      have ndq : (la.map Prod.snd).Nodup := by
        rw [List.map_map] at nd
        have nd := List.pairwise_map.mp nd
        refine List.pairwise_map.mpr (nd.imp fun {x y} h e => h ?_)
        show [x.2.num, (x.2.den : Int)] = [y.2.num, (y.2.den : Int)]
        rw [e]
      have l64 : la.length < 64 := by
        rw [List.length_map] at lt
        exact lt
      have s02M := s0M.trans sM2
      have pla : ∀ x ∈ la, PairAt K M2 x.1 x.2 := fun x hx => Same.tup sM2 (hvs x (hlav x hx))
      have dla : ∀ x ∈ la, x.2.den < 2 ^ 1400 := fun x hx => by
        have := (ptv x (hlav x hx)).1.sz.2
        rw [Int.natAbs_natCast] at this
        exact this
      have szn : ∀ i, denS la i ≤ 2 ^ (1400 * 64) := fun i => by
        unfold denS
        have h1 := denP_lt (l := (la.take i).reverse) fun x hx => dla x (List.mem_of_mem_take (List.mem_reverse.mp hx))
        refine Nat.le_trans h1 (Nat.pow_le_pow_right (by decide) ?_)
        rw [List.length_reverse, List.length_take]
        omega
      have dn0 : ∀ i, 0 < denS la i := fun i => denP_pos _
      refine ⟨_, rfl, pp, rfl, ⟨_, SqL.of ela⟩, ?_⟩
      refine for_list (K := K) (a := pp) (xs := la.map fun x => V.ref x.1) (fun i σ N => (∃ v9 v10 : Option V, σ = [some (.ref t0), some (.ref bl), some (.ref pp), v4, v5, none, none, some (.int (denS la i : Int)), v9, v10]) ∧ N = M2) ⟨⟨none, none, rfl⟩, rfl⟩ ?_ ?_ ?_
      · rintro i σ N _ ⟨_, rfl⟩
        exact SqL.of ela
      · rintro i x σ N hx ⟨⟨v9, v10, rfl⟩, rfl⟩
        rw [List.getElem?_map] at hx
        obtain ⟨y, hy, rfl⟩ := Option.map_eq_some_iff.mp hx
        have hy2 := pla y (List.mem_of_getElem? hy)
        have dy := dla y (List.mem_of_getElem? hy)
        refine ⟨y.1, _, rfl, hy2, rfl, _, _, rfl, _, _, rfl, rfl, ?_⟩
        have b1 : ((denS la i : Nat) : Int).natAbs < 2 ^ 89601 := by
          rw [Int.natAbs_natCast]
          exact Nat.lt_of_le_of_lt (szn i) (Nat.pow_lt_pow_right (by decide) (by decide))
        have b2 : ((y.2.den : Nat) : Int).natAbs < 2 ^ 1400 := by
          rw [Int.natAbs_natCast]
          exact dy
        refine ⟨_, rfl, _, rfl, _, _, rfl, rfl, wide_mul b1 b2 (by decide) (by decide) (by decide), ⟨⟨some (.int y.2.num), some (.int ((y.2.den : Nat) : Int)), ?_⟩, rfl⟩⟩
        rw [denS_succ hy, Nat.mul_comm, Int.natCast_mul]
        rfl
      rintro σ N ⟨⟨v9, v10, rfl⟩, rfl⟩
      have hT2 := hT.ext s02M
      rw [List.length_map] 
      have hk : ∀ x ∈ la, x.2.den ∣ denS la la.length := fun x hx => denS_dvd hx
      have n0 := dn0 la.length
      have zn := szn la.length
      generalize denS la la.length = nn at *
      refine ⟨_, rfl, pp, la.map (aqB nn), rfl, ?_, hT2, ?_, ?_, fun b hb => ?_, fun H2 hE hT3 => ⟨fun b hb => ?_, fun dd hdd => ?_⟩⟩
      · rw [List.map_map]
        exact SqL.of ela
      · rw [List.map_map]
        exact PySem.W.AllAlike.of (enc := Prod.snd ∘ aqB nn) fun b b' => by
          show PySem.W.alike (.int _) (.int _) = true
          simp [PySem.W.alike]
      · rw [List.map_map]
        exact PySem.W.Sortable.others (enc := Prod.snd ∘ aqB nn) fun b => ⟨(fun z => nomatch z), fun xs z => nomatch z⟩
      · obtain ⟨x, hx, rfl⟩ := List.mem_map.mp hb
        show PyData.depth (.int _) ≤ 64
        simp [PyData.depth]
      · obtain ⟨x, hx, rfl⟩ := List.mem_map.mp hb
        have d0 := x.2.den_pos
        have dx := dla x hx
        refine krun_by (n := 7) (y := "whole") (lamK_by (sc := defScope d_law_marked) (by decide +kernel)) (by decide) (by decide) (by decide) rfl rfl rfl rfl (exn_tup hE (pla x hx)) (at_k (by decide) rfl) (at_k (by decide) rfl) (big_div (b := 1400) (by omega) (by rw [Int.natAbs_natCast]; exact dx) (by decide) (by decide)) ?_
        refine CMulW.ok (wide_mul (a := 1400) (b := 1400 * 64 + 1) (ptv x (hlav x hx)).1.sz.1 ?_ (by decide) (by decide) (by decide))
        rw [Int.fdiv_eq_ediv_of_nonneg _ (by omega), ← Int.natCast_ediv, Int.natAbs_natCast]
        exact Nat.lt_of_le_of_lt (Nat.le_trans (Nat.div_le_self _ _) zn) (Nat.pow_lt_pow_right (by decide) (by decide))
      · have pm2 := List.mergeSort_perm la (fun x y => decide (keyA nn x ≤ keyA nn y))
        have up := aq_up n0 hk ndq
        rw [aq_sort]
        generalize la.mergeSort (fun x y => decide (keyA nn x ≤ keyA nn y)) = lb2 at *
        have s12 : Same H2 (upd H2 dd (.lst (lb2.map fun x => V.ref x.1))) := same1 hdd
        have hdH : ∀ xs : List V, H dd ≠ some (.lst xs) := fun xs e => by
          have h2 := hE _ _ (s02M _ _ e) (fun _ z => nomatch z)
          rw [hdd] at h2
          cases h2
        refine q _ dd (lb2.map Prod.snd) ((same_ext s02M).trans (hE.trans (same_ext s12))) (hT3.ext s12) hdH ⟨lb2.map Prod.fst, by rw [List.map_map]; exact upd_same, ?_⟩ ⟨up, fun z => ?_⟩ (by rw [List.length_map, pm2.length_eq]; exact l64)
        · refine ⟨by rw [List.length_map, List.length_map], fun i a b ha hb => ?_⟩
          rw [List.getElem?_map] at ha hb
          obtain ⟨x, hx, rfl⟩ := Option.map_eq_some_iff.mp ha
          rw [hx] at hb
          obtain rfl := Option.some.inj hb
          exact Same.tup s12 (exn_tup hE (pla x (pm2.mem_iff.mp (List.mem_of_getElem? hx))))
        · rw [← hall]
          exact (pm2.map Prod.snd).mem_iff
end
end K64

namespace K64
open PySem PySem.Spec PyProof.Rows L2
theorem at_last {xs : List V} {v : V} (l : 1 ≤ xs.length) (h : xs[xs.length - 1]? = some v) : atI xs (-1) = some v := by
  unfold atI ixN
  rw [if_neg (by decide), if_pos (by omega)]
  show xs[((-1 : Int) + (xs.length : Int)).toNat]? = some v
  rw [show ((-1 : Int) + (xs.length : Int)).toNat = xs.length - 1 from by omega]
  exact h
end K64

namespace K64
open PySem PySem.Spec PyProof.Rows L2
/-! ### the law's samples -/
def spSamp (K : PySem.W.Frag) : Sp := fun vs H Q _ => ∃ (l : Addr) (qs : List Rat), vs = [.ref l] ∧ PairsT K H l qs ∧ qs ≠ [] ∧ qs.length < 64 ∧ (∀ q ∈ qs, PtOk q) ∧ ∀ (H' : Hp) (r : Addr), Same H H' → H r = none → PairsT K H' r (samplesV qs) → Q (.ref r) H'
theorem samples_step : ∀ {qs : List Rat} {i : Nat} {x y : Rat}, qs[i]? = some x → qs[i + 1]? = some y → (samplesV qs).take (2 * (i + 1)) = (samplesV qs).take (2 * i) ++ [x, (x + y) * (1 / 2)]
  | [z], 0, _, _, _, h => by simp at h
  | a :: b :: r, 0, x, y, h1, h2 => by
    simp at h1 h2
    rw [h1, h2]
    rfl
  | a :: b :: r, i + 1, x, y, h1, h2 => by
    have ih := samples_step (qs := b :: r) (i := i) (x := x) (y := y) h1 h2
    show (a :: ((a + b) * (1 / 2)) :: samplesV (b :: r)).take (2 * (i + 1) + 2) = (a :: ((a + b) * (1 / 2)) :: samplesV (b :: r)).take (2 * i + 2) ++ _
    rw [List.take_succ_cons, List.take_succ_cons, List.take_succ_cons, List.take_succ_cons, ih]
    rfl
  | [z], i + 1, _, _, _, h => by simp at h
  | [], _, _, _, h, _ => by simp at h
theorem samples_end : ∀ {qs : List Rat} {z : Rat}, qs[qs.length - 1]? = some z → samplesV qs = (samplesV qs).take (2 * (qs.length - 1)) ++ [z, z + 1]
  | [a], z, h => by
    simp at h
    rw [h]
    rfl
  | a :: b :: r, z, h => by
    have ih := samples_end (qs := b :: r) (z := z) h
    show (a :: ((a + b) * (1 / 2)) :: samplesV (b :: r)) = (a :: ((a + b) * (1 / 2)) :: samplesV (b :: r)).take (2 * r.length + 2) ++ [z, z + 1]
    have e : 2 * ((b :: r).length - 1) = 2 * r.length := by simp
    rw [e] at ih
    rw [List.take_succ_cons, List.take_succ_cons, List.cons_append, List.cons_append, ← ih]
  | [], _, h => by simp at h
theorem cut_1 {xs : List V} : cutV xs (some 1) none = xs.drop 1 := by
  unfold cutV
  match xs with
  | [] => rfl
  | x :: r =>
    have e1 : HT.sIx (x :: r).length 0 (some 1) = 1 := by
      show min _ _ = 1
      simp
    have e2 : HT.sIx (x :: r).length (x :: r).length none = (x :: r).length := rfl
    rw [e1, e2]
    show (r.take ((r.length + 1) - 1)) = r
    rw [Nat.add_sub_cancel, List.take_length]
theorem pair2 {K : PySem.W.Frag} {N : Hp} {t r : Addr} {x y : Rat} (h1 : PairAt K N t x) (h2 : PairAt K N r y) : All2 (PairAt K N) [t, r] [x, y] := (All2.snoc .nil h1).snoc h2
theorem half_nd : (1 / 2 : Rat).num = 1 ∧ (1 / 2 : Rat).den = 2 := ⟨by decide +kernel, by decide +kernel⟩
theorem half_pr : prV (1 / 2 : Rat) = [V.int 1, V.int 2] := by
  unfold prV
  rw [half_nd.1, half_nd.2]
  rfl
theorem PtOk.sz4 {q : Rat} (h : PtOk q) : Sz 400 q := by
  obtain ⟨R, r0, r1, l⟩ := h
  exact l.sz r0 r1 (Nat.le_refl _)
section
variable {P : Program} {w : World} {K : PySem.W.Frag} {mg : Str → Option Value} {base : Heap}
abbrev smN : List Str := ["points", "found", "one", "other"]
theorem scSm : FnScope smN ["points"] (defScope d_law_samples) := ⟨rfl, rfl, rfl, by decide +kernel, rfl, by decide +kernel, by decide +kernel⟩
theorem ok_samp {f f1 f2 C : Addr} {fd fd1 fd2 : FuncData} (F : Fun K "_law_samples" "_law_samples" d_law_samples f fd) (hzip : mg "zip" = none)
    (A1 : At P w K mg base CX0 2 "_law_plus" ["one", "other"] (spTwoP K fun p q => p + q) f1 fd1) (A2 : At P w K mg base CX0 2 "_law_by" ["one", "other"] (spTwoP K fun p q => p * q) f2 fd2) : FnOk P w K mg base CX0 3 f fd ["points"] (spSamp K) := by
  refine F.ok scSm (fun vs H Q E h => ?_) (fun cdv A outer s H vs Q E hr h => ?_)
  · obtain ⟨_, _, rfl, _⟩ := h
    rfl
  · obtain ⟨l, qs, rfl, ⟨ts, el, hts⟩, ne, l64, hpt, q⟩ := h
    have r2 : Room 2 _ := hr.mono (by decide)
    refine ⟨_, pss_cons (ps_set (i := 1) scSm.nd rfl (Or.inl rfl) (pe_lst pa_nil))
      (pss_cons (ps_for PassesOwn.never rfl (pi_zipG false false (by rfl) hzip (pa_cons (pv 0) (pa_cons (pe_slice sl_list (pv 0) (po_some pe_int) po_none) pa_nil))) (pg_tup (by rfl) (pgs_cons (pg_name (i := 2) scSm.nd rfl (.inl rfl)) (pgs_cons (pg_name (i := 3) scSm.nd rfl (.inl rfl)) pgs_nil)))
        (pss_one (ps_set (i := 1) scSm.nd rfl (Or.inl rfl) (pe_op op_cat (pv 1) (pe_lst (pa_cons (pv 2) (pa_cons (pe_call A2.G r2 rfl A2.m A2.k A2.b .nil pass0 (pa_cons (pe_call A1.G r2 rfl A1.m A1.k A1.b .nil pass0 (pa_cons (pv 2) (pa_cons (pv 3) pa_nil))) (pa_cons (pe_tup (pa_cons pe_int (pa_cons pe_int pa_nil))) pa_nil))) pa_nil)))))))
      (pss_one (ps_ret (pe_op op_cat (pv 1) (pe_lst (pa_cons (pe_ix ix_list (pv 0) (pe_un un_neg pe_int) (fun _ _ => rfl)) (pa_cons (pe_call A1.G r2 rfl A1.m A1.k A1.b .nil pass0 (pa_cons (pe_ix ix_list (pv 0) (pe_un un_neg pe_int) (fun _ _ => rfl)) (pa_cons (pe_tup (pa_cons pe_int (pa_cons pe_int pa_nil))) pa_nil))) pa_nil))))))), ?_⟩
    have lts := hts.len
    have n0 : qs.length ≠ 0 := fun z => ne (List.eq_nil_of_length_eq_zero z)
    refine ⟨(by show 0 ≤ sizeLine; decide), fun L0 hL0 => ?_⟩
    have s1 : Same H (upd H L0 (.lst [])) := same1 hL0
    have eL0 : (upd H L0 (.lst []) : Hp) L0 = some (.lst (([] : List Addr).map V.ref)) := upd_same
    generalize upd H L0 (.lst []) = H1 at *
    have el1 := s1 _ _ el
    refine ⟨_, rfl, _, rfl, _, rfl, l, _, rfl, SqL.of el1, fun S hS => ?_⟩
    rw [cut_1, ← List.map_drop]
    have s2 : Same H1 (upd H1 S (.lst ((ts.drop 1).map V.ref))) := same1 hS
    have eS : (upd H1 S (.lst ((ts.drop 1).map V.ref)) : Hp) S = some (.lst ((ts.drop 1).map V.ref)) := upd_same
    generalize upd H1 S (.lst ((ts.drop 1).map V.ref)) = H2 at *
    have s02 := s1.trans s2
    refine ⟨l, S, _, _, rfl, SqL.of (s2 _ _ el1), SqL.of eS, ?_⟩
    refine for_it (walk_zipG (K := K) (j := false) (k := false) (a := l) (b := S) (xs := ts.map V.ref) (ys := (ts.drop 1).map V.ref) rfl) (fun i σ N => ∃ (v2 v3 : Option V) (a : Addr) (us : List Addr), σ = [some (.ref l), some (.ref a), v2, v3] ∧ N a = some (.lst (us.map V.ref)) ∧ All2 (PairAt K N) us ((samplesV qs).take (2 * i)) ∧ Same H2 N)
      ⟨none, none, L0, [], rfl, s2 _ _ eL0, .nil, Same.refl _⟩ ?_ ?_ ?_
    · rintro i σ N _ ⟨_, _, _, _, rfl, _, _, sN⟩
      exact ⟨SqL.of (sN _ _ (s02 _ _ el)), SqL.of (sN _ _ eS)⟩
    · rintro i x σ N N' hi ⟨v2, v3, a, us, rfl, ea, hus, sN⟩ ⟨T, x1, x2, rfl, hT, rfl, e1, e2⟩
      have e1 : (ts.map V.ref)[i]? = some x1 := e1
      have e2 : ((ts.drop 1).map V.ref)[i]? = some x2 := e2
      rw [List.getElem?_map] at e1 e2
      obtain ⟨t, ht, rfl⟩ := Option.map_eq_some_iff.mp e1
      obtain ⟨u, hu, rfl⟩ := Option.map_eq_some_iff.mp e2
      rw [List.getElem?_drop, Nat.add_comm] at hu
      have i1 : i + 1 < qs.length := by
        have := (List.getElem?_eq_some_iff.mp hu).1
        omega
      have i0 : i < qs.length := by omega
      have hx : qs[i]? = some qs[i] := List.getElem?_eq_getElem i0
      have hy : qs[i + 1]? = some qs[i + 1] := List.getElem?_eq_getElem i1
      have px := hpt _ (List.getElem_mem i0)
      have py := hpt _ (List.getElem_mem i1)
      have st := samples_step hx hy
      have s3 : Same N (upd N T (.tup [.ref t, .ref u])) := same1 hT
      have s2N := s02.trans (sN.trans s3)
      have qt : PairAt K (upd N T (.tup [.ref t, .ref u])) t qs[i] := Same.tup s2N (hts.all i t _ ht hx)
      have qu : PairAt K (upd N T (.tup [.ref t, .ref u])) u qs[i + 1] := Same.tup s2N (hts.all (i + 1) u _ hu hy)
      refine ⟨T, _, rfl, SqT.of upd_same, rfl, _, _, rfl, _, _, rfl, rfl, ?_⟩
      generalize upd N T (.tup [.ref t, .ref u]) = N2 at *
      generalize qs[i] = x at *
      generalize qs[i + 1] = y at *
      refine ⟨_, rfl, _, rfl, _, rfl, _, rfl, t, u, x, y, rfl, qt, qu, px.sz.up (by decide), py.sz.up (by decide), fun r1 hr1 => ?_⟩
      generalize hor1 : HO.tup (prV (x + y)) = or1 at *
      have s4 : Same N2 (upd N2 r1 or1) := same1 hr1
      have er1 : (upd N2 r1 or1 : Hp) r1 = some or1 := upd_same
      generalize upd N2 r1 or1 = N3 at *
      subst hor1
      refine ⟨(by show 2 ≤ sizeLine; decide), fun T3 hT3 => ?_⟩
      have s5 : Same N3 (upd N3 T3 (.tup [.int 1, .int 2])) := same1 hT3
      have eT3 : (upd N3 T3 (.tup [.int 1, .int 2]) : Hp) T3 = some (.tup (prV (1 / 2))) := by
        rw [half_pr]
        exact upd_same
      generalize upd N3 T3 (.tup [.int 1, .int 2]) = N4 at *
      have zxy : Sz 1500 (x + y) := (sz_add px.sz4 py.sz4).up (by decide)
      refine ⟨r1, T3, x + y, 1 / 2, rfl, SqT.of (s5 _ _ er1), SqT.of eT3, zxy, ?_, fun r2 hr2' => ?_⟩
      · refine ⟨?_, ?_⟩
        · rw [half_nd.1]
          exact Nat.one_lt_two_pow (by decide)
        · rw [half_nd.2]
          exact Nat.lt_of_lt_of_le (show 2 < 2 ^ 2 by decide) (Nat.pow_le_pow_right (by decide) (by decide))
      generalize hor2 : HO.tup (prV ((x + y) * (1 / 2))) = or2 at *
      have s6 : Same N4 (upd N4 r2 or2) := same1 hr2'
      have er2 : (upd N4 r2 or2 : Hp) r2 = some or2 := upd_same
      generalize upd N4 r2 or2 = N5 at *
      subst hor2
      refine ⟨(by show 2 ≤ sizeLine; decide), fun L hL => ?_⟩
      have s7 : Same N5 (upd N5 L (.lst [.ref t, .ref r2])) := same1 hL
      have eL : (upd N5 L (.lst [.ref t, .ref r2]) : Hp) L = some (.lst ([t, r2].map V.ref)) := upd_same
      generalize upd N5 L (.lst [.ref t, .ref r2]) = N6 at *
      have s37 := s3.trans (s4.trans (s5.trans (s6.trans s7)))
      have s47 := s4.trans (s5.trans (s6.trans s7))
      have lus := hus.len
      refine ⟨a, L, _, _, rfl, rfl, s37 _ _ ea, eL, ?_, fun L2 hL2 => ?_⟩
      · rw [List.length_map, List.length_map, lus, List.length_take]
        exact Nat.le_trans (show min (2 * i) _ + 2 ≤ 130 by omega) (show 130 ≤ sizeLine by decide)
      rw [← List.map_append]
      have s8 : Same N6 (upd N6 L2 (.lst ((us ++ [t, r2]).map V.ref))) := same1 hL2
      refine ⟨_, _, L2, us ++ [t, r2], rfl, upd_same, ?_, sN.trans (s37.trans s8)⟩
      have e2 : 2 * (i + 1) = 2 * i + 2 := by omega
      rw [st]
      exact All2.app (hus.mono fun _ _ _ _ z => Same.tup (s37.trans s8) z) (pair2 (Same.tup (s47.trans s8) qt) (SqT.of ((s7.trans s8) _ _ er2)))
    · rintro σ N ⟨v2, v3, a, us, rfl, ea, hus, sN⟩
      have ln : min (ts.map V.ref).length ((ts.drop 1).map V.ref).length = qs.length - 1 := by
        rw [List.length_map, List.length_map, List.length_drop]
        omega
      rw [ln] at hus
      have lus := hus.len
      have s0N := s02.trans sN
      have lz : qs.length - 1 < qs.length := by omega
      have lt : qs.length - 1 < ts.length := by omega
      have hz : qs[qs.length - 1]? = some qs[qs.length - 1] := List.getElem?_eq_getElem lz
      have ht : ts[qs.length - 1]? = some ts[qs.length - 1] := List.getElem?_eq_getElem lt
      have pz := hpt _ (List.getElem_mem lz)
      have se := samples_end hz
      have qz : PairAt K N ts[qs.length - 1] qs[qs.length - 1] := Same.tup s0N (hts.all _ _ _ ht hz)
      have al : atI (ts.map V.ref) (-1) = some (.ref ts[qs.length - 1]) := at_last (by rw [List.length_map]; omega) (by rw [List.length_map, List.getElem?_map, show ts.length - 1 = qs.length - 1 by omega, ht]; rfl)
      generalize qs[qs.length - 1] = z at *
      generalize ts[qs.length - 1] = t at *
      refine ⟨_, rfl, _, rfl, _, rfl, l, _, _, _, rfl, rfl, SqL.of (s0N _ _ el), al, _, rfl, _, rfl, l, _, _, _, rfl, rfl, SqL.of (s0N _ _ el), al, ?_⟩
      refine ⟨(by show 2 ≤ sizeLine; decide), fun T3 hT3 => ?_⟩
      have s5 : Same N (upd N T3 (.tup [.int 1, .int 1])) := same1 hT3
      have eT3 : (upd N T3 (.tup [.int 1, .int 1]) : Hp) T3 = some (.tup (prV 1)) := upd_same
      generalize upd N T3 (.tup [.int 1, .int 1]) = N4 at *
      refine ⟨t, T3, z, 1, rfl, Same.tup s5 qz, SqT.of eT3, pz.sz.up (by decide), ⟨Nat.one_lt_two_pow (by decide), Nat.one_lt_two_pow (by decide)⟩, fun r2 hr2' => ?_⟩
      generalize hor2 : HO.tup (prV (z + 1)) = or2 at *
      have s6 : Same N4 (upd N4 r2 or2) := same1 hr2'
      have er2 : (upd N4 r2 or2 : Hp) r2 = some or2 := upd_same
      generalize upd N4 r2 or2 = N5 at *
      subst hor2
      refine ⟨(by show 2 ≤ sizeLine; decide), fun L hL => ?_⟩
      have s7 : Same N5 (upd N5 L (.lst [.ref t, .ref r2])) := same1 hL
      have eL : (upd N5 L (.lst [.ref t, .ref r2]) : Hp) L = some (.lst ([t, r2].map V.ref)) := upd_same
      generalize upd N5 L (.lst [.ref t, .ref r2]) = N6 at *
      have s57 := s5.trans (s6.trans s7)
      refine ⟨a, L, _, _, rfl, rfl, s57 _ _ ea, eL, ?_, fun L2 hL2 => ?_⟩
      · rw [List.length_map, List.length_map, lus, List.length_take]
        exact Nat.le_trans (show min (2 * (qs.length - 1)) _ + 2 ≤ 130 by omega) (show 130 ≤ sizeLine by decide)
      rw [← List.map_append]
      have s8 : Same N6 (upd N6 L2 (.lst ((us ++ [t, r2]).map V.ref))) := same1 hL2
      have s08 := s0N.trans (s57.trans s8)
      have nL2 : H L2 = none := by
        cases c : H L2 with
        | none => rfl
        | some o =>
          have := (s0N.trans s57) _ _ c
          rw [hL2] at this
          cases this
      refine q _ L2 s08 nL2 ⟨us ++ [t, r2], upd_same, ?_⟩
      rw [se]
      exact All2.app (hus.mono fun _ _ _ _ z => Same.tup (s57.trans s8) z) (pair2 (Same.tup (s57.trans s8) qz) (SqT.of ((s7.trans s8) _ _ er2)))
end
end K64

namespace K64
open PySem PySem.Spec PyProof.Rows L2
/-! ### whether a thing is a stretch: the law's own look -/
def nfS (s : Stre) : Prop := s.hi = none → s.hh = false
theorem stre_nf {lo : Rat} {hl : Bool} {hi : Option Rat} {hh : Bool} {s : Stre} (e : streV lo hl hi hh = some s) (n : hi = none → hh = false) : nfS s := by
  unfold streV at e
  cases hi with
  | none =>
    obtain rfl := Option.some.inj e
    exact fun _ => n rfl
  | some h =>
    have e : (if badS lo hl h hh = true then none else some (Stre.mk lo hl (some h) hh)) = some s := e
    split at e
    · cases e
    · obtain rfl := Option.some.inj e
      exact fun z => nomatch z
theorem above_nf {s t : Stre} {x : Rat} {b : Bool} (e : aboveV s x b = some t) (n : nfS s) : nfS t := by
  unfold aboveV at e
  split at e
  · exact stre_nf e n
  · exact stre_nf e n
theorem below_nf {s t : Stre} {x : Rat} {b : Bool} (e : belowV s x b = some t) : nfS t := by
  unfold belowV at e
  split at e
  · exact stre_nf e fun z => nomatch z
  · split at e
    · exact stre_nf e fun z => nomatch z
    · exact stre_nf e fun z => nomatch z
theorem amt_nf : ∀ {l : List (Bed × Rat × Int)} {s t : Stre}, amtV l s = some t → nfS s → nfS t
  | [], s, t, e, n => by
    obtain rfl := Option.some.inj e
    exact n
  | x :: r, s, t, e, n => by
    have e : (movingV s x.1 x.2.1 x.2.2).bind (amtV r) = some t := e
    cases em : movingV s x.1 x.2.1 x.2.2 with
    | none =>
      rw [em] at e
      cases e
    | some u =>
      rw [em] at e
      refine amt_nf (l := r) e ?_
      unfold movingV at em
      split at em
      · split at em
        · obtain rfl := Option.some.inj em
          exact n
        · cases em
      · split at em
        · exact above_nf em n
        · split at em
          · exact below_nf em
          · split at em
            · cases ea : aboveV s (x.1.lo / x.2.1) false with
              | none =>
                rw [ea] at em
                cases em
              | some v =>
                rw [ea] at em
                exact below_nf em
            · cases em
theorem all_nf : nfS allS := fun _ => rfl
def spIsStr (K : PySem.W.Frag) (C : Addr) : Sp := fun vs H Q _ => ∃ (v : V) (l : Addr) (st : Stre) (qs : List Rat), vs = [v, .ref l] ∧ StrA K C H v st ∧ PairsT K H l qs ∧ qs.length < 64 ∧ st.lo ∈ qs ∧ (∀ h, st.hi = some h → h ∈ qs) ∧ nfS st ∧ ∀ H', Same H H' → Q (.bl true) H'
theorem pairs_dp {K : PySem.W.Frag} {H : Hp} {l : Addr} {qs : List Rat} (h : PairsT K H l qs) : Dp K H (.ref l) (.list (qs.map tupQ)) := by
  obtain ⟨ts, e, hA⟩ := h
  refine .lst (SqL.of e) ?_
  have h1 := hA.len
  have h2 := hA.all
  clear e hA
  induction ts generalizing qs with
  | nil =>
    match qs, h1 with
    | [], _ => exact .nil
  | cons t ts ih =>
    match qs, h1 with
    | q :: qs, h1 => exact .cons (dp_q (h2 0 t q rfl rfl)) (ih (Nat.succ.inj h1) fun i a b ha hb => h2 (i + 1) a b ha hb)
theorem shaped_qs {qs : List Rat} : SeqAt.shaped (.list (qs.map tupQ)) = true := by
  show (PyData.canLay0 (.list (qs.map tupQ)) && decide (PyData.depth (.list (qs.map tupQ)) ≤ 64)) = true
  rw [Bool.and_eq_true, decide_eq_true_iff]
  have one : ∀ l : List Rat, PyData.canLayAll0 (l.map tupQ) = true ∧ PyData.depthAll (l.map tupQ) ≤ 1 := fun l => by
    induction l with
    | nil => simp [PyData.canLayAll0, PyData.depthAll]
    | cons q l ih =>
      rw [List.map_cons]
      refine ⟨?_, ?_⟩
      · rw [PyData.canLayAll0, ih.1]
        simp [tupQ, PyData.canLay0, PyData.canLayAll0]
      · rw [PyData.depthAll]
        have : PyData.depth (tupQ q) = 1 := by simp [tupQ, PyData.depth, PyData.depthAll]
        have := ih.2
        omega
  refine ⟨?_, ?_⟩
  · rw [PyData.canLay0]
    exact (one qs).1
  · rw [PyData.depth]
    have := (one qs).2
    omega
theorem any_qs {qs : List Rat} {q : Rat} : ((qs.map tupQ).any fun z => PyData.eqv z (tupQ q)) = decide (q ∈ qs) := by
  rw [List.any_map]
  have : ((fun z => PyData.eqv z (tupQ q)) ∘ tupQ) = fun z => decide (z = q) := funext fun z => eqv_tupQ z q
  rw [this]
  by_cases h : q ∈ qs
  · rw [decide_eq_true h, List.any_eq_true]
    exact ⟨q, h, decide_eq_true rfl⟩
  · rw [decide_eq_false h, List.any_eq_false]
    intro z hz
    rw [decide_eq_true_iff]
    intro e
    rw [e] at hz
    exact h hz
section
variable {P : Program} {w : World} {K : PySem.W.Frag} {mg : Str → Option Value} {base : Heap}
theorem scIst : FnScope ["amounts", "points"] ["amounts", "points"] (defScope d_law_is_stretch) := ⟨rfl, rfl, rfl, by decide +kernel, rfl, by decide +kernel, by decide +kernel⟩
theorem ok_isstr {f f1 C CN : Addr} {fd fd1 : FuncData} (F : Fun K "_law_is_stretch" "_law_is_stretch" d_law_is_stretch f fd) (Y : TxtW mg C) (hbool : mg "bool" = none) (IsSh : ∀ H p q, ShQ C H p q → TyX K H (.ref p) (.ref C)) (me : PySem.W.kitOne K (.ref C) (.ref C) = some true)
    (A1 : At P w K mg base CX0 1 "_law_pair" ["share"] (spPairS K C) f1 fd1) : FnOk P w K mg base CX0 2 f fd ["amounts", "points"] (spIsStr K C) := by
  refine F.ok scIst (fun vs H Q E h => ?_) (fun cdv A outer s H vs Q E hr h => ?_)
  · obtain ⟨_, _, _, _, rfl, _⟩ := h
    rfl
  · obtain ⟨v, l, st, qs, rfl, hv, hl, l64, m1, m2, nf, q⟩ := h
    have hu := hr.un
    have hu2 : (A.deeper (envOfC "_law_is_stretch" (defScope d_law_is_stretch) s.heap.objs.size f cdv)).units + 65 < cLine := by omega
    refine ⟨_, pss_cons (ps_if (PW.pt (pw_or (pt_not (pt_val (pe_callB call_isi (by rfl) Y.isi (by decide +kernel) (pa_cons (pv 0) (pa_cons (pe_bltn (v := .ty "tuple") (by rfl) Y.tuple (by decide +kernel) rfl) pa_nil)))))
          (pw_or (pt_cmpR op_ne (pe_callB call_len_seq (by rfl) Y.len PySem.boot_len (pa_cons (pv 0) pa_nil)) pe_int (nomark _))
          (pw_or1 (pt_not (pt_val (pe_callB call_isi (by rfl) Y.isi (by decide +kernel) (pa_cons (pe_ix ix_tup (pv 0) pe_int (fun _ _ => rfl)) (pa_cons (pe_glob (v := .ref C) rfl Y.sh rfl) pa_nil))))))))) (pss_one (ps_ret pe_bl)) pss_nil)
      (pss_cons (ps_if (PW.pt (pw_or (pt_not (pt_val (pe_callB call_isi (by rfl) Y.isi (by decide +kernel) (pa_cons (pe_ix ix_tup (pv 0) pe_int (fun _ _ => rfl)) (pa_cons (pe_bltn (v := .ty "bool") (by rfl) hbool (by decide +kernel) rfl) pa_nil)))))
          (pw_or (pt_not (pt_val (pe_callB call_isi (by rfl) Y.isi (by decide +kernel) (pa_cons (pe_ix ix_tup (pv 0) pe_int (fun _ _ => rfl)) (pa_cons (pe_bltn (v := .ty "bool") (by rfl) hbool (by decide +kernel) rfl) pa_nil)))))
          (pw_or1 (pt_cmpR (op_notInD hu2) (pe_call A1.G (hr.mono (by decide)) rfl A1.m A1.k A1.b .nil pass0 (pa_cons (pe_ix ix_tup (pv 0) pe_int (fun _ _ => rfl)) pa_nil)) (pv 1) (by rfl)))))) (pss_one (ps_ret pe_bl)) pss_nil)
      (pss_cons (ps_if (pt_cmp (pc_isN (pe_ix ix_tup (pv 0) pe_int (fun _ _ => rfl)))) (pss_one (ps_ret (pe_cmpR op_isBl (pe_ix ix_tup (pv 0) pe_int (fun _ _ => rfl)) pe_bl (nomark _)))) pss_nil)
      (pss_one (ps_ret (pe_and (pe_callB call_isi (by rfl) Y.isi (by decide +kernel) (pa_cons (pe_ix ix_tup (pv 0) pe_int (fun _ _ => rfl)) (pa_cons (pe_glob (v := .ref C) rfl Y.sh rfl) pa_nil))) (pe_one (pe_cmpR (op_inD hu2) (pe_call A1.G (hr.mono (by decide)) rfl A1.m A1.k A1.b .nil pass0 (pa_cons (pe_ix ix_tup (pv 0) pe_int (fun _ _ => rfl)) pa_nil)) (pv 1) (by rfl)))))))), ?_⟩
    obtain ⟨t, lo, hv0, rfl, ht, hlo, hhi⟩ := hv
    refine ⟨_, rfl, _, _, _, _, true, rfl, ClsV.ty _, ty_tup ht, kit_ty (by decide +kernel), true, rfl, iteF ?_⟩
    refine ⟨_, rfl, t, _, rfl, .inr ht, rfl, _, rfl, iteNS (by rfl) ?_⟩
    refine ⟨_, rfl, t, _, _, _, rfl, rfl, ht, at_k (by decide) rfl, _, _, _, _, true, rfl, ClsV.own C, IsSh _ _ _ hlo, me, true, rfl, iteF ?_⟩
    refine ⟨_, rfl, t, _, _, _, rfl, rfl, ht, at_k (by decide) rfl, _, _, _, _, true, rfl, ClsV.ty _, .base (.bl st.hl), kit_ty (by decide +kernel), true, rfl, iteF ?_⟩
    refine ⟨_, rfl, t, _, _, _, rfl, rfl, ht, at_k (by decide) rfl, _, _, _, _, true, rfl, ClsV.ty _, .base (.bl st.hh), kit_ty (by decide +kernel), true, rfl, iteF ?_⟩
    refine ⟨_, rfl, t, _, _, _, rfl, rfl, ht, at_k (by decide) rfl, lo, st.lo, rfl, hlo, fun H1 r1 s1 hr1 => ⟨_, rfl, tupQ st.lo, qs.map tupQ, dp_q hr1, pairs_dp (hl.mono s1), shaped_q _, shaped_qs, _, rfl, ?_⟩⟩
    rw [any_qs, decide_eq_true m1]
    refine iteF ?_
    have ht1 := Same.tup s1 ht
    rcases id hhi with ⟨eh, rfl⟩ | ⟨h0, u, eh, rfl, hu0⟩
    · refine ⟨_, rfl, t, _, _, _, rfl, rfl, ht1, at_k (by decide) rfl, true, rfl, iteT ?_⟩
      refine ⟨_, rfl, t, _, _, _, rfl, rfl, ht1, at_k (by decide) rfl, _, _, rfl, rfl, ?_⟩
      rw [nf eh]
      exact q H1 s1
    · refine ⟨_, rfl, t, _, _, _, rfl, rfl, ht1, at_k (by decide) rfl, false, rfl, iteF ?_⟩
      refine ⟨_, rfl, t, _, _, _, rfl, rfl, ht1, at_k (by decide) rfl, _, _, _, _, true, rfl, ClsV.own C, IsSh _ _ _ (hu0.mono s1), me, true, rfl, iteT ?_⟩
      refine ⟨_, rfl, t, _, _, _, rfl, rfl, ht1, at_k (by decide) rfl, u, h0, rfl, hu0.mono s1, fun H2 r2 s2 hr2 => ⟨_, rfl, tupQ h0, qs.map tupQ, dp_q hr2, pairs_dp (hl.mono (s1.trans s2)), shaped_q _, shaped_qs, ?_⟩⟩
      rw [any_qs, decide_eq_true (m2 h0 eh)]
      exact q H2 (s1.trans s2)
end
end K64

namespace K64
open PySem PySem.Spec PyProof.Rows L2 LamX
/-! ### which amounts lead there: the law's day, the stretch that is told -/
theorem eqvAll_ints : ∀ l m : List Int, PyData.eqvAll (l.map PyData.int) (m.map PyData.int) = decide (l = m)
  | [], [] => by simp [PyData.eqvAll]
  | [], _ :: _ => by simp [PyData.eqvAll]
  | _ :: _, [] => by simp [PyData.eqvAll]
  | a :: l, b :: m => by
    have ih := eqvAll_ints l m
    have h : (a == b) = decide (a = b) := Bool.beq_eq_decide_eq a b
    simp only [List.map_cons, PyData.eqvAll, PyData.eqv, ih, h]
    by_cases c : a = b
    · simp [c]
    · simp [c]
theorem eqv_tupI (l m : List Int) : PyData.eqv (.tuple (l.map PyData.int)) (.tuple (m.map PyData.int)) = decide (l = m) := by
  rw [PyData.eqv]
  exact eqvAll_ints l m
theorem shaped_tupI (l : List Int) : SeqAt.shaped (.tuple (l.map PyData.int)) = true := by
  show (PyData.canLay0 (.tuple (l.map PyData.int)) && decide (PyData.depth (.tuple (l.map PyData.int)) ≤ 64)) = true
  rw [Bool.and_eq_true, decide_eq_true_iff]
  refine ⟨?_, ?_⟩
  · rw [PyData.canLay0]
    induction l with
    | nil => simp [PyData.canLayAll0]
    | cons a l ih =>
      rw [List.map_cons, PyData.canLayAll0, ih]
      simp [PyData.canLay0]
  · rw [PyData.depth]
    have : PyData.depthAll (l.map PyData.int) = 0 := by
      induction l with
      | nil => simp [PyData.depthAll]
      | cons a l ih =>
        rw [List.map_cons, PyData.depthAll, ih]
        simp [PyData.depth]
    omega
/-- what of that amount does each bed -/
def leadsTo (W : WebV) (ds gs : List Int) (p : Nat) (a : Rat) : Prop := stepV W ds (atR W p a) = gs
instance (W : WebV) (ds gs : List Int) (p : Nat) (a : Rat) : Decidable (leadsTo W ds gs p a) := inferInstanceAs (Decidable (_ = _))
theorem fac_nn {W : WebV} (g : GoodWeb W) (ds : List Int) (p : Nat) : ∀ f ∈ facV W ds p, 0 ≤ f := (flow_nn g (leadsV (gapsV W ds)) (at_ok (W := W) p) W.many (Nat.le_refl _)).2
theorem step_k {W : WebV} (g : GoodWeb W) {ds : List Int} (ld : ds.length = W.beds.length) {p : Nat} {a : Rat} {k : Nat} (hk : k < W.beds.length) : (stepV W ds (atR W p a))[k]? = some ((ds[k]?).getD 0 + mvV (bedV W k) (a * gQ (facV W ds p) k)) := by
  have lf : (facV W ds p).length = W.beds.length := flow_all g _ _
  have e : stepV W ds (atR W p a) = addV ds (movesV W.beds ((facV W ds p).map (· * a))) := by
    unfold stepV
    rw [day_at g]
  rw [e]
  unfold addV movesV bedV gQ
  have h1 : (ds.zip ((W.beds.zip ((facV W ds p).map (· * a))).map fun x => mvV x.1 x.2))[k]? = some (ds[k], mvV W.beds[k] ((facV W ds p)[k] * a)) := by
    rw [List.getElem?_zip_eq_some]
    refine ⟨List.getElem?_eq_getElem (by omega), ?_⟩
    rw [List.getElem?_map, show (W.beds.zip ((facV W ds p).map (· * a)))[k]? = some (W.beds[k], (facV W ds p)[k] * a) from by
      rw [List.getElem?_zip_eq_some]
      exact ⟨List.getElem?_eq_getElem hk, by rw [List.getElem?_map, List.getElem?_eq_getElem (by omega)]; rfl⟩]
    rfl
  rw [List.getElem?_map, h1, List.getElem?_eq_getElem (show k < ds.length by omega), List.getElem?_eq_getElem hk, List.getElem?_eq_getElem (show k < (facV W ds p).length by omega)]
  show some (ds[k] + mvV W.beds[k] ((facV W ds p)[k] * a)) = some (ds[k] + mvV W.beds[k] (a * (facV W ds p)[k]))
  rw [Rat.mul_comm a]
theorem step_len {W : WebV} (g : GoodWeb W) {ds : List Int} (ld : ds.length = W.beds.length) {p : Nat} {a : Rat} : (stepV W ds (atR W p a)).length = W.beds.length := by
  have lf : (dayV W ds (atR W p a)).2.length = W.beds.length := flow_all g _ _
  unfold stepV addV movesV
  rw [List.length_map, List.length_zip, List.length_map, List.length_zip]
  omega
theorem leads_iff {W : WebV} (g : GoodWeb W) {ds gs : List Int} (ld : ds.length = W.beds.length) (lg : gs.length = W.beds.length) {p : Nat} {a : Rat} : leadsTo W ds gs p a ↔ ∀ x ∈ askV W ds gs p, mvV x.1 (a * x.2.1) = x.2.2 := by
  unfold leadsTo askV
  constructor
  · intro h x hx
    obtain ⟨k, hk, rfl⟩ := List.mem_map.mp hx
    have hk := List.mem_range.mp hk
    have s := step_k g ld (p := p) (a := a) hk
    rw [h] at s
    show mvV (bedV W k) (a * gQ (facV W ds p) k) = (gs[k]?).getD 0 - (ds[k]?).getD 0
    rw [s]
    show _ = ((ds[k]?).getD 0 + _) - (ds[k]?).getD 0
    omega
  · intro h
    refine List.ext_getElem? fun k => ?_
    by_cases hk : k < W.beds.length
    · rw [step_k g ld hk]
      have s := h _ (List.mem_map_of_mem (List.mem_range.mpr hk))
      have s : mvV (bedV W k) (a * gQ (facV W ds p) k) = (gs[k]?).getD 0 - (ds[k]?).getD 0 := s
      rw [s, List.getElem?_eq_getElem (show k < gs.length by omega)]
      show some (_ + (gs[k] - _)) = some gs[k]
      congr 1
      omega
    · rw [List.getElem?_eq_none (by rw [step_len g ld]; omega), List.getElem?_eq_none (by omega)]
theorem ask_ok {W : WebV} (g : GoodWeb W) {ds gs : List Int} {p : Nat} : ∀ x ∈ askV W ds gs p, 0 ≤ x.2.1 ∧ x.1.lo < x.1.hi := fun x hx => by
  unfold askV at hx
  obtain ⟨k, hk, rfl⟩ := List.mem_map.mp hx
  have hk := List.mem_range.mp hk
  have lf : (facV W ds p).length = W.beds.length := flow_all g _ _
  refine ⟨?_, ?_⟩
  · show 0 ≤ gQ (facV W ds p) k
    unfold gQ
    rw [List.getElem?_eq_getElem (by omega)]
    exact fac_nn g ds p _ (List.getElem_mem (by omega))
  · show (bedV W k).lo < (bedV W k).hi
    unfold bedV
    rw [List.getElem?_eq_getElem hk]
    exact (g.bed _ (List.getElem_mem hk)).lt
theorem told_iff {W : WebV} (g : GoodWeb W) {ds gs : List Int} (ld : ds.length = W.beds.length) (lg : gs.length = W.beds.length) {p : Nat} {a : Rat} (a0 : 0 ≤ a) : inO (amtV (askV W ds gs p) allS) a ↔ leadsTo W ds gs p a := by
  rw [amt_in (ask_ok g), all_in, leads_iff g ld lg]
  exact ⟨fun h => h.2, fun h => ⟨a0, h⟩⟩
theorem told_ends {W : WebV} (g : GoodWeb W) {ds gs : List Int} {p : Nat} {qs : List Rat} (pk : PtsOk (marksE W.beds (facV W ds p) (W.beds.zip (facV W ds p)).length) qs) {st : Stre} (e : amtV (askV W ds gs p) allS = some st) : st.lo ∈ qs ∧ (∀ h, st.hi = some h → h ∈ qs) ∧ okS st := by
  have lf : (facV W ds p).length = W.beds.length := flow_all g _ _
  have r := amt_ends (p := fun q => q ∈ qs) (l := askV W ds gs p) (s := allS) (t := st) (fun x hx f0 => ?_) (fun x hx => (ask_ok g x hx).1) e (by show (0 : Rat) ≤ 0; exact Rat.le_refl) ((pk.mem 0).mpr ⟨List.mem_cons_self .., Rat.le_refl⟩) (fun h z => nomatch z) (fun h z => nomatch z)
  · exact ⟨r.2.1, r.2.2.1, r.2.2.2⟩
  · unfold askV at hx
    obtain ⟨k, hk, rfl⟩ := List.mem_map.mp hx
    have hk := List.mem_range.mp hk
    have hb : bedV W k = W.beds[k] := by
      unfold bedV
      rw [List.getElem?_eq_getElem hk]
      rfl
    have hf : gQ (facV W ds p) k = (facV W ds p)[k] := by
      unfold gQ
      rw [List.getElem?_eq_getElem (by omega)]
      rfl
    have f0 : 0 < gQ (facV W ds p) k := f0
    show (0 ≤ (bedV W k).lo / gQ (facV W ds p) k → (bedV W k).lo / gQ (facV W ds p) k ∈ qs) ∧ (0 ≤ (bedV W k).hi / gQ (facV W ds p) k → (bedV W k).hi / gQ (facV W ds p) k ∈ qs)
    rw [hb, hf] at *
    have mz : (W.beds[k], (facV W ds p)[k]) ∈ W.beds.zip (facV W ds p) := List.mem_of_getElem? (i := k) (by
      rw [List.getElem?_zip_eq_some]
      exact ⟨List.getElem?_eq_getElem hk, List.getElem?_eq_getElem (by omega)⟩)
    have has := marksE_has mz f0
    rw [Rat.div_def, Rat.div_def]
    exact ⟨fun z => (pk.mem _).mpr ⟨has.1, z⟩, fun z => (pk.mem _).mpr ⟨has.2, z⟩⟩
/-- nothing told just where no sample leads there -/
theorem told_none {W : WebV} (g : GoodWeb W) {ds gs : List Int} (ld : ds.length = W.beds.length) (lg : gs.length = W.beds.length) {p : Nat} {qs : List Rat} (pk : PtsOk (marksE W.beds (facV W ds p) (W.beds.zip (facV W ds p)).length) qs) (nn : ∀ q ∈ samplesV qs, 0 ≤ q)
    (h : (samplesV qs).filter (fun q => decide (leadsTo W ds gs p q)) = []) : amtV (askV W ds gs p) allS = none := by
  cases e : amtV (askV W ds gs p) allS with
  | none => rfl
  | some st =>
    obtain ⟨h1, h2, h3⟩ := told_ends g pk e
    obtain ⟨q, hq, hin⟩ := sample_in pk.up h1 h2 h3
    have := (told_iff g ld lg (nn q hq)).mp ⟨st, e, hin⟩
    have mem : q ∈ (samplesV qs).filter (fun q => decide (leadsTo W ds gs p q)) := List.mem_filter.mpr ⟨hq, decide_eq_true this⟩
    rw [h] at mem
    cases mem
theorem at_okq {W : WebV} {p : Nat} {q : Rat} (hq : SmOk q) (nn : 0 ≤ q) : ∃ R, RainOk W R 810 (atR W p q) := by
  obtain ⟨R, r0, r1, l⟩ := hq
  refine ⟨R, ?_, fun x hx => ?_, fun x hx => ?_, r0, Nat.lt_of_lt_of_le r1 (Nat.pow_le_pow_right (by decide) (by decide)), by decide⟩
  · unfold atR
    rw [List.length_map, List.length_range]
  · unfold atR at hx
    obtain ⟨j, _, rfl⟩ := List.mem_map.mp hx
    split
    · exact l
    · exact lim_zero
  · unfold atR at hx
    obtain ⟨j, _, rfl⟩ := List.mem_map.mp hx
    split
    · exact nn
    · exact Rat.le_refl
end K64

namespace K64
open PySem PySem.Spec PyProof.Rows L2
/-! ### all depths near others; just those that lead there -/
def three (d : Int) (l : List Int) : List (List Int) := [l ++ [d + -1], l ++ [d + 0], l ++ [d + 1]]
def nextN (f : List (List Int)) (d : Int) : List (List Int) := f.flatMap (three d)
def nbV (ds : List Int) : List (List Int) := ds.foldl nextN [[]]
def NearD : List Int → List Int → Prop
  | [], [] => True
  | e :: t, d :: ds => (e = d + -1 ∨ e = d + 0 ∨ e = d + 1) ∧ NearD t ds
  | _, _ => False
theorem mem_foldN : ∀ (ds : List Int) (f : List (List Int)) (l : List Int), l ∈ ds.foldl nextN f ↔ ∃ l0 ∈ f, ∃ t, l = l0 ++ t ∧ NearD t ds
  | [], f, l => by
    constructor
    · intro h
      exact ⟨l, h, [], (List.append_nil l).symm, True.intro⟩
    · rintro ⟨l0, h, t, rfl, k⟩
      match t, k with
      | [], _ =>
        rw [List.append_nil]
        exact h
  | d :: ds, f, l => by
    rw [List.foldl_cons, mem_foldN ds]
    constructor
    · rintro ⟨l0, h, t, rfl, k⟩
      obtain ⟨l1, h1, h2⟩ := List.mem_flatMap.mp h
      simp only [three, List.mem_cons, List.not_mem_nil, or_false] at h2
      rcases h2 with z | z | z <;> subst z
      · exact ⟨l1, h1, (d + -1) :: t, by rw [List.append_assoc]; rfl, .inl rfl, k⟩
      · exact ⟨l1, h1, (d + 0) :: t, by rw [List.append_assoc]; rfl, .inr (.inl rfl), k⟩
      · exact ⟨l1, h1, (d + 1) :: t, by rw [List.append_assoc]; rfl, .inr (.inr rfl), k⟩
    · rintro ⟨l0, h, t, rfl, k⟩
      match t, k with
      | e :: t, ⟨he, k⟩ =>
        refine ⟨l0 ++ [e], List.mem_flatMap.mpr ⟨l0, h, ?_⟩, t, by rw [List.append_assoc]; rfl, k⟩
        simp only [three, List.mem_cons, List.not_mem_nil, or_false]
        rcases he with z | z | z <;> subst z
        · exact .inl rfl
        · exact .inr (.inl rfl)
        · exact .inr (.inr rfl)
theorem mem_nb {ds l : List Int} : l ∈ nbV ds ↔ NearD l ds := by
  unfold nbV
  rw [mem_foldN]
  constructor
  · rintro ⟨l0, h, t, rfl, k⟩
    rw [List.mem_singleton.mp h]
    exact k
  · exact fun h => ⟨[], List.mem_singleton.mpr rfl, l, rfl, h⟩
theorem lt_app : ∀ {a b : List Int} (x y : List Int), a.length = b.length → a < b → a ++ x < b ++ y
  | [], [], _, _, _, h => absurd h (List.lt_irrefl _)
  | [], _ :: _, _, _, h, _ => by simp at h
  | _ :: _, [], _, _, h, _ => by simp at h
  | p :: a, q :: b, x, y, h, l => by
    rw [List.cons_append, List.cons_append]
    rw [List.cons_lt_cons_iff] at l ⊢
    rcases l with l | ⟨e, l⟩
    · exact .inl l
    · exact .inr ⟨e, lt_app x y (by simpa using h) l⟩
theorem app_lt : ∀ (a : List Int) {x y : Int}, x < y → a ++ [x] < a ++ [y]
  | [], x, y, h => List.cons_lt_cons_iff.mpr (.inl h)
  | p :: a, x, y, h => List.cons_lt_cons_iff.mpr (.inr ⟨rfl, app_lt a h⟩)
theorem sorted_next {f : List (List Int)} {d : Int} {n : Nat} (h : f.Pairwise (· < ·)) (hl : ∀ l ∈ f, l.length = n) : (nextN f d).Pairwise (· < ·) ∧ ∀ l ∈ nextN f d, l.length = n + 1 := by
  refine ⟨?_, fun l hl' => ?_⟩
  · unfold nextN
    rw [List.pairwise_flatMap]
    refine ⟨fun l _ => ?_, h.imp_of_mem fun {a b} ha hb ab x hx y hy => ?_⟩
    · unfold three
      refine List.pairwise_cons.mpr ⟨fun b hb => ?_, List.pairwise_cons.mpr ⟨fun b hb => ?_, List.pairwise_singleton _ _⟩⟩
      · simp only [List.mem_cons, List.not_mem_nil, or_false] at hb
        rcases hb with z | z <;> rw [z]
        · exact app_lt _ (by omega)
        · exact app_lt _ (by omega)
      · rw [List.mem_singleton.mp hb]
        exact app_lt _ (by omega)
    · simp only [three, List.mem_cons, List.not_mem_nil, or_false] at hx hy
      rcases hx with z | z | z <;> rcases hy with z' | z' | z' <;> rw [z, z'] <;> exact lt_app _ _ (by rw [hl a ha, hl b hb]) ab
  · unfold nextN at hl'
    obtain ⟨a, ha, hx⟩ := List.mem_flatMap.mp hl'
    simp only [three, List.mem_cons, List.not_mem_nil, or_false] at hx
    rcases hx with z | z | z <;> rw [z, List.length_append, hl a ha] <;> rfl
theorem sorted_fold : ∀ (ds : List Int) {f : List (List Int)} {n : Nat}, f.Pairwise (· < ·) → (∀ l ∈ f, l.length = n) → (ds.foldl nextN f).Pairwise (· < ·)
  | [], _, _, h, _ => h
  | d :: ds, _, _, h, hl => sorted_fold ds (sorted_next (d := d) h hl).1 (sorted_next (d := d) h hl).2
theorem sorted_nb (ds : List Int) : (nbV ds).Pairwise (· < ·) := sorted_fold ds (n := 0) (List.pairwise_singleton _ _) fun l hl => by
  rw [List.mem_singleton.mp hl]
  rfl
theorem len_nextN (d : Int) : ∀ f : List (List Int), (nextN f d).length = 3 * f.length
  | [] => rfl
  | a :: r => by
    have := len_nextN d r
    unfold nextN at *
    rw [List.flatMap_cons, List.length_append, this, List.length_cons]
    show 3 + 3 * r.length = _
    omega
theorem len_foldN : ∀ (ds : List Int) (f : List (List Int)), (ds.foldl nextN f).length = f.length * 3 ^ ds.length
  | [], f => by simp
  | d :: ds, f => by
    rw [List.foldl_cons, len_foldN ds, len_nextN, List.length_cons, Nat.pow_succ, Nat.mul_comm 3 f.length, Nat.mul_assoc, Nat.mul_comm 3]
theorem len_nb (ds : List Int) : (nbV ds).length = 3 ^ ds.length := by
  unfold nbV
  rw [len_foldN, List.length_singleton, Nat.one_mul]
theorem nb_succ {ds : List Int} {i : Nat} (h : i < ds.length) : nbV (ds.take (i + 1)) = nextN (nbV (ds.take i)) ds[i] := by
  unfold nbV
  rw [List.take_succ_eq_append_getElem h, List.foldl_append]
  rfl
/-- moves are of one step at most -/
theorem near_step : ∀ {es ms : List Int}, es.length = ms.length → (∀ m ∈ ms, m = 1 ∨ m = 0 ∨ m = -1) → NearD es (addV es ms)
  | [], [], _, _ => True.intro
  | [], _ :: _, h, _ => by simp at h
  | _ :: _, [], h, _ => by simp at h
  | e :: es, m :: ms, h, a => by
    refine ⟨?_, near_step (es := es) (ms := ms) (by simpa using h) fun x hx => a x (List.mem_cons_of_mem _ hx)⟩
    show e = (e + m) + -1 ∨ e = (e + m) + 0 ∨ e = (e + m) + 1
    have := a m (List.mem_cons_self ..)
    omega
def dueV (W : WebV) (ds : List Int) (rain : List Rat) : List (List Int) := (nbV ds).filter fun e => decide (stepV W e rain = ds)
theorem near_len : ∀ {es ds : List Int}, NearD es ds → es.length = ds.length
  | [], [], _ => rfl
  | _ :: es, _ :: ds, h => by rw [List.length_cons, List.length_cons, near_len h.2]
theorem mem_due {W : WebV} (g : GoodWeb W) {ds : List Int} (ld : ds.length = W.beds.length) {rain : List Rat} {e : List Int} : e ∈ dueV W ds rain ↔ e.length = W.beds.length ∧ stepV W e rain = ds := by
  unfold dueV
  rw [List.mem_filter, mem_nb]
  constructor
  · rintro ⟨h1, h2⟩
    exact ⟨by rw [near_len h1]; exact ld, of_decide_eq_true h2⟩
  · rintro ⟨h1, h2⟩
    refine ⟨?_, decide_eq_true h2⟩
    rw [← h2, step_movB]
    refine near_step (by rw [movB_len g]; exact h1) fun m hm => ?_
    unfold movB movesV at hm
    obtain ⟨x, _, rfl⟩ := List.mem_map.mp hm
    unfold mvV
    split
    · exact .inl rfl
    · split
      · exact .inr (.inl rfl)
      · exact .inr (.inr rfl)
theorem found_due {W : WebV} (g : GoodWeb W) {ds : List Int} (ld : ds.length = W.beds.length) {rain : List Rat} {es : List (List Int)} (h1 : es.Perm (foundV W ds rain)) (h2 : es.Pairwise (fun x y => ¬ y < x)) : es = dueV W ds rain := by
  have sd : (dueV W ds rain).Pairwise (· < ·) := (sorted_nb ds).sublist List.filter_sublist
  have nd : (dueV W ds rain).Nodup := sd.imp fun {a b} h e => by
    rw [e] at h
    exact List.lt_irrefl _ h
  have np : (foundV W ds rain).Nodup := nodup_found W ds rain
  have p : es.Perm (dueV W ds rain) := h1.trans ((List.perm_ext_iff_of_nodup np nd).mpr fun e => by rw [mem_found g ld, mem_due g ld])
  refine List.Perm.eq_of_pairwise (le := fun x y => ¬ y < x) (fun a b _ _ x y => List.le_antisymm x y) h2 (sd.imp fun {a b} h z => List.lt_asymm h z) p
def spNb (K : PySem.W.Frag) : Sp := fun vs H Q _ => ∃ (d : Addr) (ds : List Int), vs = [.ref d] ∧ SqT K H d (ds.map V.int) ∧ ds.length ≤ 5 ∧ ∀ (H' : Hp) (l : Addr), Same H H' → H l = none → BefAt K H' l (nbV ds) → Q (.ref l) H'
section
variable {P : Program} {w : World} {K : PySem.W.Frag} {mg : Str → Option Value} {base : Heap}
abbrev nbN : List Str := ["deep", "found", "depth", "longer", "some", "by"]
theorem scNb : FnScope nbN ["deep"] (defScope d_law_neighbours) := ⟨rfl, rfl, rfl, by decide +kernel, rfl, by decide +kernel, by decide +kernel⟩
theorem ok_nb {f : Addr} {fd : FuncData} (F : Fun K "_law_neighbours" "_law_neighbours" d_law_neighbours f fd) : FnOk P w K mg base CX0 1 f fd ["deep"] (spNb K) := by
  refine F.ok scNb (fun vs H Q E h => ?_) (fun cdv A outer s H vs Q E hr h => ?_)
  · obtain ⟨_, _, rfl, _⟩ := h
    rfl
  · obtain ⟨d, ds, rfl, hd, l5, q⟩ := h
    refine ⟨_, pss_cons (ps_set (i := 1) scNb.nd rfl (Or.inl rfl) (pe_lst (pa_cons (pe_tup pa_nil) pa_nil)))
      (pss_cons (ps_for PassesOwn.never rfl (pi_tup (pv 0)) (pg_name (i := 2) scNb.nd rfl (.inr rfl))
        (pss_cons (ps_set (i := 3) scNb.nd rfl (Or.inl rfl) (pe_lst pa_nil))
        (pss_cons (ps_for PassesOwn.never rfl (pi_list (pv 1)) (pg_name (i := 4) scNb.nd rfl (.inr rfl))
          (pss_one (ps_set (i := 3) scNb.nd rfl (Or.inl rfl) (pe_op op_cat (pv 3) (pe_lc (own := [("by", 5)]) (g := gName 5) (by rfl) scNb.nd (pi_tup (pe_tup (pa_cons (pe_un un_neg pe_int) (pa_cons pe_int (pa_cons pe_int pa_nil))))) (blkOk_by (own := [("by", 5)]) (N := nbN) (sc := defScope d_law_neighbours) (by decide +kernel))
            (fun _ _ _ _ _ => pg_name (i := 5) scNb.nd rfl (.inl rfl)) (fun _ _ _ _ _ => pts_nil) (fun _ _ _ _ _ => pe_op (show OpR _ _ (rCatA K) from op_catA) (pv 4) (pe_tup (pa_cons (pe_op op_add (pv 2) (pv 5)) pa_nil))))))))
        (pss_one (ps_set (i := 1) scNb.nd rfl (Or.inl rfl) (pv 3))))))
      (pss_one (ps_ret (pv 1)))), ?_⟩
    have small : 10000 ≤ sizeLine := by decide
    refine ⟨(by show 0 ≤ sizeLine; decide), fun T0 hT0 => ⟨(by show 1 ≤ sizeLine; decide), fun L0 hL0 => ?_⟩⟩
    have s1 : Same H (upd H T0 (.tup [])) := same1 hT0
    have eT0 : (upd H T0 (.tup []) : Hp) T0 = some (.tup []) := upd_same
    have nn : ∀ {G G' : Hp} {a : Addr}, Same G G' → G' a = none → G a = none := fun {G G' a} s h => by
      cases c : G a with
      | none => rfl
      | some o =>
        have := s _ _ c
        rw [h] at this
        cases this
    have n0 := nn s1 hL0
    generalize upd H T0 (.tup []) = H1 at *
    have s2 : Same H1 (upd H1 L0 (.lst [.ref T0])) := same1 hL0
    have eL0 : (upd H1 L0 (.lst [.ref T0]) : Hp) L0 = some (.lst ([(T0, ([] : List Int))].map refP)) := upd_same
    generalize upd H1 L0 (.lst [.ref T0]) = H2 at *
    have s12 := s1.trans s2
    refine ⟨_, rfl, d, rfl, ⟨_, Same.tup s12 hd⟩, ?_⟩
    refine for_it (walk_tup (K := K) (a := d) (xs := ds.map V.int)) (fun i σ N => ∃ (v2 v3 v4 : Option V) (l : Addr), σ = [some (.ref d), some (.ref l), v2, v3, v4, none] ∧ H l = none ∧ BefAt K N l (nbV (ds.take i)) ∧ Same H N)
      ⟨none, none, none, L0, rfl, n0, ⟨_, eL0, fun p hp => by rw [List.mem_singleton.mp hp]; exact SqT.of (s2 _ _ eT0), rfl⟩, s12⟩ ?_ ?_ ?_
    · rintro i σ N _ ⟨_, _, _, _, rfl, _, _, sN⟩
      exact Same.tup sN hd
    · rintro i x σ N0 N hi ⟨v2, v3, v4, l, rfl, nl, ⟨ps, el, hps, eps⟩, sN⟩ ⟨rfl, hx⟩
      have hx : (ds.map V.int)[i]? = some x := hx
      have il : i < ds.length := by
        rw [List.length_map] at hi
        exact hi
      rw [List.getElem?_map, List.getElem?_eq_getElem il] at hx
      obtain rfl := Option.some.inj hx
      have lps : ps.length ≤ 81 := by
        have := congrArg List.length eps
        rw [List.length_map, len_nb, List.length_take] at this
        rw [this]
        exact Nat.le_trans (Nat.pow_le_pow_right (by decide) (show min i ds.length ≤ 4 by omega)) (by decide)
      refine ⟨(by show 0 ≤ sizeLine; decide), fun m hm => ?_⟩
      have nm := nn sN hm
      have s3 : Same N (upd N m (.lst [])) := same1 hm
      have em : (upd N m (.lst []) : Hp) m = some (.lst (([] : List (Addr × List Int)).map refP)) := upd_same
      generalize upd N m (.lst []) = N1 at *
      refine ⟨_, rfl, l, rfl, ⟨_, SqL.of (s3 _ _ el)⟩, ?_⟩
      refine for_list (K := K) (a := l) (xs := ps.map refP) (fun j σ Z => ∃ (v4 : Option V) (m : Addr) (qs : List (Addr × List Int)), σ = [some (.ref d), some (.ref l), some (.int ds[i]), some (.ref m), v4, none] ∧ H m = none ∧ Z m = some (.lst (qs.map refP)) ∧ (∀ p ∈ qs, SqT K Z p.1 (p.2.map V.int)) ∧ qs.map Prod.snd = nextN ((ps.map Prod.snd).take j) ds[i] ∧ Same N1 Z)
        ⟨v4, m, [], rfl, nm, em, (fun p h => nomatch h), rfl, Same.refl _⟩ ?_ ?_ ?_
      · rintro j σ Z _ ⟨_, _, _, rfl, _, _, _, _, sZ⟩
        exact SqL.of ((s3.trans sZ) _ _ el)
      · rintro j x σ Z hx ⟨v4, m, qs, rfl, nm, em, hqs, eqs, sZ⟩
        rw [List.getElem?_map] at hx
        obtain ⟨pj, hpj, rfl⟩ := Option.map_eq_some_iff.mp hx
        have jl : j < ps.length := (List.getElem?_eq_some_iff.mp hpj).1
        have epj : ps[j] = pj := by
          rw [List.getElem?_eq_getElem jl] at hpj
          exact Option.some.inj hpj
        have lqs : qs.length ≤ 243 := by
          have := congrArg List.length eqs
          rw [List.length_map, len_nextN, List.length_take, List.length_map] at this
          omega
        have hpjt : SqT K Z pj.1 (pj.2.map V.int) := Same.tup (s3.trans sZ) (hps pj (List.mem_of_getElem? hpj))
        have lpj : pj.2.length ≤ 5 := by
          have m1 : pj.2 ∈ nbV (ds.take i) := by
            rw [← eps]
            exact List.mem_map_of_mem (List.mem_of_getElem? hpj)
          have := near_len (mem_nb.mp m1)
          rw [List.length_take] at this
          omega
        refine ⟨_, rfl, 1, rfl, (by show 3 ≤ sizeLine; decide), fun B hB => ?_⟩
        have u0 : Same Z (upd Z B (.tup [.int (-1), .int 0, .int 1])) := same1 hB
        have eB : (upd Z B (.tup [.int (-1), .int 0, .int 1]) : Hp) B = some (.tup ([(-1 : Int), 0, 1].map V.int)) := upd_same
        generalize upd Z B (.tup [.int (-1), .int 0, .int 1]) = Z1 at *
        refine ⟨B, rfl, ⟨_, SqT.of eB⟩, fun D hD => ?_⟩
        have nD : H D = none := nn (sN.trans (s3.trans (sZ.trans u0))) hD
        refine lc_tup (K := K) (a := B) (xs := [(-1 : Int), 0, 1].map V.int) (fun k M => ∃ rs : List (Addr × List Int), M D = some (.lst (rs.map refP)) ∧ (∀ p ∈ rs, SqT K M p.1 (p.2.map V.int)) ∧ rs.map Prod.snd = (([(-1 : Int), 0, 1].take k).map fun b => pj.2 ++ [ds[i] + b]) ∧ Same Z1 M) ⟨[], upd_same, (fun p h => nomatch h), rfl, same1 hD⟩ ?_ ?_ ?_
        · rintro k M _ ⟨_, _, _, _, sM⟩
          exact SqT.of (sM _ _ eB)
        · rintro k y M hy ⟨rs, eD, hrs, ers, sM⟩
          rw [List.getElem?_map] at hy
          obtain ⟨b, hb, rfl⟩ := Option.map_eq_some_iff.mp hy
          have kl : k < ([(-1 : Int), 0, 1] : List Int).length := (List.getElem?_eq_some_iff.mp hb).1
          have eb : ([(-1 : Int), 0, 1] : List Int)[k] = b := by
            rw [List.getElem?_eq_getElem kl] at hb
            exact Option.some.inj hb
          have kl3 : k < 3 := kl
          refine ⟨rfl, _, rfl, _, rfl, _, rfl, _, _, rfl, rfl, (by show 1 ≤ sizeLine; decide), fun O hO => ?_⟩
          have u1 : Same M (upd M O (.tup [.int (ds[i] + b)])) := same1 hO
          have eO : (upd M O (.tup [.int (ds[i] + b)]) : Hp) O = some (.tup [.int (ds[i] + b)]) := upd_same
          generalize upd M O (.tup [.int (ds[i] + b)]) = M1 at *
          have hp1 : SqT K M1 pj.1 (pj.2.map V.int) := Same.tup (u0.trans (sM.trans u1)) hpjt
          have fin : ∀ (M2 : Hp) (r : Addr), Same M1 M2 → SqT K M2 r ((pj.2 ++ [ds[i] + b]).map V.int) → ∃ acc, M2 D = some (.lst acc) ∧ acc.length < sizeLine ∧ ∃ rs2 : List (Addr × List Int), (upd M2 D (.lst (acc ++ [V.ref r]))) D = some (.lst (rs2.map refP)) ∧ (∀ p ∈ rs2, SqT K (upd M2 D (.lst (acc ++ [V.ref r]))) p.1 (p.2.map V.int)) ∧ rs2.map Prod.snd = (([(-1 : Int), 0, 1].take (k + 1)).map fun b => pj.2 ++ [ds[i] + b]) ∧ Same Z1 (upd M2 D (.lst (acc ++ [V.ref r]))) := fun M2 r u2 hr2 => by
            have eD2 := u2 _ _ (u1 _ _ eD)
            have kp : KeepL M2 (upd M2 D (.lst (rs.map refP ++ [V.ref r]))) := keep_put eD2
            refine ⟨_, eD2, ?_, rs ++ [(r, pj.2 ++ [ds[i] + b])], by rw [List.map_append]; exact upd_same, fun p hp => ?_, ?_, fun c o ec => ?_⟩
            · have := congrArg List.length ers
              rw [List.length_map, List.length_map, List.length_take] at this
              rw [List.length_map]
              omega
            · rcases List.mem_append.mp hp with z | z
              · exact kp.tup (Same.tup (u1.trans u2) (hrs p z))
              · rw [List.mem_singleton.mp z]
                exact kp.tup hr2
            · rw [List.take_succ_eq_append_getElem kl, List.map_append, List.map_append, ers, eb]
              rfl
            · rw [upd_ne (ne_of_none ec hD)]
              exact u2 _ _ (u1 _ _ (sM _ _ ec))
          refine ⟨pj.1, O, _, _, rfl, rfl, hp1, SqT.of eO, ?_, fun z => ?_, (fun _ z => nomatch z), fun _ _ r hr2 => ?_⟩
          · rw [List.length_map]
            show pj.2.length + 1 ≤ sizeLine
            omega
          · have z : pj.2 = [] := List.map_eq_nil_iff.mp z
            refine fin M1 O (Same.refl _) ?_
            rw [z]
            exact SqT.of eO
          · refine fin _ r (same1 hr2) (SqT.of ?_)
            rw [List.map_append]
            exact upd_same
        rintro M ⟨rs, eD, hrs, ers, sM⟩
        have u01 := u0.trans sM
        refine ⟨m, D, _, _, rfl, rfl, u01 _ _ em, eD, ?_, fun m2 hm2 => ?_⟩
        · have := congrArg List.length ers
          rw [List.length_map, List.length_map, List.length_take] at this
          have l3 : ([(-1 : Int), 0, 1] : List Int).length = 3 := rfl
          rw [List.length_map, List.length_map]
          omega
        rw [← List.map_append]
        have nm2 : H m2 = none := nn (sN.trans (s3.trans (sZ.trans u01))) hm2
        have u2 : Same M (upd M m2 (.lst ((qs ++ rs).map refP))) := same1 hm2
        have u02 := u01.trans u2
        refine ⟨_, m2, qs ++ rs, rfl, nm2, upd_same, fun p hp => ?_, ?_, sZ.trans u02⟩
        · rcases List.mem_append.mp hp with z | z
          · exact Same.tup u02 (hqs p z)
          · exact Same.tup u2 (hrs p z)
        · have jl2 : j < (ps.map Prod.snd).length := by rw [List.length_map]; exact jl
          have e2 : (ps.map Prod.snd)[j] = pj.2 := by rw [List.getElem_map, epj]
          have ers3 : rs.map Prod.snd = three ds[i] pj.2 := ers
          rw [List.map_append, eqs, ers3, List.take_succ_eq_append_getElem jl2, e2]
          unfold nextN
          rw [List.flatMap_append, List.flatMap_singleton]
      · rintro σ Z ⟨v4, m, qs, rfl, nm, em, hqs, eqs, sZ⟩
        refine ⟨_, rfl, _, _, _, m, rfl, nm, ⟨qs, em, hqs, ?_⟩, sN.trans (s3.trans sZ)⟩
        rw [nb_succ il, eqs, eps, List.take_of_length_le (by rw [List.length_map, ← eps, List.length_map]; exact Nat.le_refl _)]
    · rintro σ N ⟨v2, v3, v4, l, rfl, nl, hb, sN⟩
      rw [List.length_map, List.take_length] at hb
      exact ⟨_, rfl, q N l sN nl hb⟩
end
end K64

namespace K64
open PySem PySem.Spec PyProof.Rows L2
/-! ### all amounts, parted by how beds move: mathematics -/
def stepP (b : Bed) (f : Rat) (x : Stre × List Int) (mv : Int) : Option (Stre × List Int) := (movingV x.1 b f mv).map fun s => (s, x.2 ++ [mv])
def nextP (b : Bed) (f : Rat) (x : Stre × List Int) : List (Stre × List Int) := [-1, 0, 1].filterMap (stepP b f x)
def partsV : List (Bed × Rat) → List (Stre × List Int) → List (Stre × List Int)
  | [], ps => ps
  | x :: r, ps => partsV r (ps.flatMap (nextP x.1 x.2))
theorem partsV_snoc : ∀ (l : List (Bed × Rat)) (x : Bed × Rat) (ps : List (Stre × List Int)), partsV (l ++ [x]) ps = (partsV l ps).flatMap (nextP x.1 x.2)
  | [], _, _ => rfl
  | y :: l, x, ps => partsV_snoc l x _
theorem nextP_len (b : Bed) (f : Rat) (x : Stre × List Int) : (nextP b f x).length ≤ 3 := List.length_filterMap_le ..
theorem flat_len {α β : Type} {g : α → List β} {k : Nat} (h : ∀ x, (g x).length ≤ k) : ∀ l : List α, (l.flatMap g).length ≤ k * l.length
  | [] => Nat.zero_le _
  | x :: l => by
    rw [List.flatMap_cons, List.length_append, List.length_cons]
    have := h x
    have := flat_len h l
    rw [Nat.mul_succ]
    omega
theorem partsV_len : ∀ (l : List (Bed × Rat)) (ps : List (Stre × List Int)), (partsV l ps).length ≤ 3 ^ l.length * ps.length
  | [], ps => by simp [partsV]
  | x :: l, ps => by
    have h1 := partsV_len l (ps.flatMap (nextP x.1 x.2))
    have h2 := flat_len (nextP_len x.1 x.2) ps
    show (partsV l (ps.flatMap (nextP x.1 x.2))).length ≤ _
    rw [List.length_cons, Nat.pow_succ, Nat.mul_assoc]
    exact Nat.le_trans h1 (Nat.mul_le_mul_left _ h2)
theorem nextP_sz {b : Bed} {f : Rat} {x y : Stre × List Int} (h : y ∈ nextP b f x) (z : SzS x.1) (q : f ≠ 0 → Sz 1500 (b.lo / f) ∧ Sz 1500 (b.hi / f)) : SzS y.1 := by
  obtain ⟨mv, _, e⟩ := List.mem_filterMap.mp h
  unfold stepP at e
  cases em : movingV x.1 b f mv with
  | none =>
    rw [em] at e
    cases e
  | some s =>
    rw [em] at e
    obtain rfl := Option.some.inj e
    exact moving_sz em z q
theorem nextP_mv {b : Bed} {f : Rat} {x y : Stre × List Int} (h : y ∈ nextP b f x) : y.2.length = x.2.length + 1 := by
  obtain ⟨mv, _, e⟩ := List.mem_filterMap.mp h
  unfold stepP at e
  cases em : movingV x.1 b f mv with
  | none =>
    rw [em] at e
    cases e
  | some s =>
    rw [em] at e
    obtain rfl := Option.some.inj e
    show (x.2 ++ [mv]).length = _
    rw [List.length_append]
    rfl
theorem partsV_all {p : Stre × List Int → Prop} : ∀ {l : List (Bed × Rat)} {ps : List (Stre × List Int)}, (∀ x ∈ l, ∀ y z, p y → z ∈ nextP x.1 x.2 y → p z) → (∀ y ∈ ps, p y) → ∀ y ∈ partsV l ps, p y
  | [], _, _, h0, y, hy => h0 y hy
  | x :: l, ps, h, h0, y, hy => partsV_all (l := l) (fun x' hx' => h x' (List.mem_cons_of_mem _ hx')) (fun z hz => by
    obtain ⟨y', hy', hz'⟩ := List.mem_flatMap.mp hz
    exact h x (List.mem_cons_self ..) y' z (h0 y' hy') hz') y hy
theorem partsV_mv : ∀ {l : List (Bed × Rat)} {ps : List (Stre × List Int)} {n : Nat}, (∀ y ∈ ps, y.2.length = n) → ∀ y ∈ partsV l ps, y.2.length = n + l.length
  | [], _, _, h, y, hy => h y hy
  | x :: l, ps, n, h, y, hy => by
    have := partsV_mv (l := l) (ps := ps.flatMap (nextP x.1 x.2)) (n := n + 1) (fun z hz => by
      obtain ⟨y', hy', hz'⟩ := List.mem_flatMap.mp hz
      rw [nextP_mv hz', h y' hy']) y hy
    rw [this, List.length_cons]
    omega
/-- all that may have been ahead, with what then fell -/
def facL (W : WebV) (ls : List Bool) (p : Nat) : List Rat := (flowV W ls (atR W p 1) W.many).2
def anyL (W : WebV) (ds : List Int) (p : Nat) (ls : List Bool) : List (List Int × Stre) := (partsV (W.beds.zip (facL W ls p)) [(allS, [])]).filterMap fun x => (ledV W ds ls x.2).map fun e => (e, x.1)
def anyU (W : WebV) (ds : List Int) (p : Nat) : List (List Int × Stre) := (allL W.parts).flatMap (anyL W ds p)
theorem parts_few (W : WebV) (ls : List Bool) (p : Nat) : (partsV (W.beds.zip (facL W ls p)) [(allS, [])]).length ≤ 3 ^ W.beds.length := by
  have h := partsV_len (W.beds.zip (facL W ls p)) [(allS, [])]
  rw [List.length_singleton, Nat.mul_one] at h
  exact Nat.le_trans h (Nat.pow_le_pow_right (by decide) (by rw [List.length_zip]; omega))
theorem anyL_len (W : WebV) (ds : List Int) (p : Nat) (ls : List Bool) : (anyL W ds p ls).length ≤ 3 ^ W.beds.length := Nat.le_trans (List.length_filterMap_le ..) (parts_few W ls p)
/-- one that is ahead has as many depths -/
theorem anyU_dep {W : WebV} (g : GoodWeb W) {ds : List Int} (ld : ds.length = W.beds.length) {p : Nat} {x : List Int × Stre} (h : x ∈ anyU W ds p) : x.1.length = W.beds.length := by
  obtain ⟨ls, _, hx⟩ := List.mem_flatMap.mp h
  obtain ⟨y, hy, e⟩ := List.mem_filterMap.mp hx
  have lf : (facL W ls p).length = W.beds.length := flow_all g _ _
  have lm := partsV_mv (l := W.beds.zip (facL W ls p)) (ps := [(allS, [])]) (n := 0) (fun z hz => by rw [List.mem_singleton.mp hz]; rfl) y hy
  rw [List.length_zip] at lm
  unfold ledV at e
  split at e
  · obtain rfl := Option.some.inj e
    show (subD ds y.2).length = _
    rw [subD_len]
    omega
  · cases e
theorem anyU_sz {W : WebV} {ds : List Int} {p : Nat} (hz : ∀ b ∈ W.beds, ∀ ls f, f ∈ facL W ls p → f ≠ 0 → Sz 1500 (b.lo / f) ∧ Sz 1500 (b.hi / f)) {x : List Int × Stre} (h : x ∈ anyU W ds p) : SzS x.2 := by
  obtain ⟨ls, _, hx⟩ := List.mem_flatMap.mp h
  obtain ⟨y, hy, e⟩ := List.mem_filterMap.mp hx
  have := partsV_all (p := fun z => SzS z.1) (l := W.beds.zip (facL W ls p)) (ps := [(allS, [])]) (fun x hx' y z sy hz' => nextP_sz hz' sy fun nz => by
    obtain ⟨h1, h2⟩ := List.of_mem_zip (a := x.1) (b := x.2) hx'
    exact hz _ h1 ls _ h2 nz) (fun y hy => by
      rw [List.mem_singleton.mp hy]
      exact ⟨(lim_zero (M := 1) (k := 1)).sz (by decide) (Nat.one_lt_two_pow (by decide)) (by decide), fun _ z => nomatch z⟩) y hy
  cases el : ledV W ds ls y.2 with
  | none =>
    rw [el] at e
    cases e
  | some d =>
    rw [el] at e
    obtain rfl := Option.some.inj e
    exact this
/-- where no bed is, one morning at most -/
theorem anyU_none {W : WebV} (g : GoodWeb W) (ds : List Int) (p : Nat) (h : W.beds.length = 0) : (anyU W ds p).length ≤ 1 := by
  have one : (allL W.parts).length ≤ 1 := by
    unfold allL
    rw [one_fold W.parts [[]] fun ps hps => ?_]
    · exact Nat.le_refl 1
    · obtain ⟨i, hi⟩ := List.getElem?_of_mem hps
      have gp := (g.part i ps hi).len
      have : starts W = [] := List.eq_nil_of_length_eq_zero (by rw [starts_len]; exact h)
      rw [this] at gp
      simp at gp
      rw [gp]
      decide
  have hb : W.beds = [] := List.eq_nil_of_length_eq_zero h
  unfold anyU
  have := flat_len (g := anyL W ds p) (k := 1) (fun ls => by
    have := anyL_len W ds p ls
    rw [hb] at this
    exact this) (allL W.parts)
  omega
end K64

namespace K64
open PySem PySem.Spec PyProof.Rows L2
/-! ### led back, the steps in a tuple -/
def spLedBT (K : PySem.W.Frag) (C CW : Addr) : Sp := fun vs H Q _ => ∃ (w d t l : Addr) (W : WebV) (ds : List Int) (ls : List Bool) (ms : List Int), vs = [.ref w, .ref d, .ref t, .ref l] ∧ WebAt K C CW H w W ∧ SqT K H d (ds.map V.int) ∧ ds.length = W.beds.length ∧ LdsAt K H t ls ∧ ls.length = W.many ∧
  SqT K H l (ms.map V.int) ∧ ms.length = W.beds.length ∧ (∀ e, ledV W ds ls ms = some e → ∀ (H' : Hp) (u : Addr), Same H H' → SqT K H' u (e.map V.int) → Q (.ref u) H') ∧ (ledV W ds ls ms = none → ∀ H', Same H H' → Q .non H')
section
variable {P : Program} {w : World} {K : PySem.W.Frag} {mg : Str → Option Value} {base : Heap}
theorem ok_ledBT {f f1 f2 C CW : Addr} {fd fd1 fd2 : FuncData} (F : Fun K "led_back" "led_back" d_led_back f fd) (Y : TxtW mg C) (hzip : mg "zip" = none)
    (A1 : At P w K mg base CX0 2 "gaps_of" ["web", "numbers"] (spGaps K C CW) f1 fd1) (A2 : At P w K mg base CX0 1 "leads_of" ["gaps"] (spLeads K) f2 fd2) : FnOk P w K mg base CX0 3 f fd ["web", "depths", "leads", "moves"] (spLedBT K C CW) := by
  refine F.ok scLb (fun vs H Q E h => ?_) (fun cdv A outer s H vs Q E hr h => ?_)
  · obtain ⟨_, _, _, _, _, _, _, _, rfl, _⟩ := h
    rfl
  · obtain ⟨w0, d, t, l, W, ds, ls, ms, rfl, hw, hd, ld, ht, lls, hl, lm, yes, no⟩ := h
    have r1 : Room 1 _ := hr.mono (by decide)
    refine ⟨_, pss_cons (ps_set (i := 4) scLb.nd rfl (Or.inl rfl) (pe_callTy (cr_tup (K := K) rfl) (by rfl) Y.tuple (by decide +kernel) (pa_cons
        (pe_lc (own := [("depth", 5), ("move", 6)]) (g := gTup K 2 (gCons (gName 5) (gCons (gName 6) gNil))) (by rfl) scLb.nd (pi_zipG true true (by rfl) hzip (pa_cons (pv 1) (pa_cons (pv 3) pa_nil))) (blkOk_by (own := [("depth", 5), ("move", 6)]) (N := lbN) (sc := defScope d_led_back) (by decide +kernel))
          (fun _ _ _ _ _ => pg_tup (by rfl) (pgs_cons (pg_name (i := 5) scLb.nd rfl (.inl rfl)) (pgs_cons (pg_name (i := 6) scLb.nd rfl (.inl rfl)) pgs_nil))) (fun _ _ _ _ _ => pts_nil)
          (fun _ _ _ _ _ => pe_op op_sub (pv 5) (pv 6))) pa_nil)))
      (pss_one (ps_ret (pe_ifExp (pt_cmpR (op_eqD hr.units) (pe_call A2.G r1 rfl A2.m A2.k A2.b .nil pass0 (pa_cons (pe_call A1.G hr rfl A1.m A1.k A1.b .nil pass0 (pa_cons (pv 0) (pa_cons (pv 4) pa_nil))) pa_nil)) (pv 2) (nomark _)) (pv 4) pe_non))), ?_⟩
    obtain ⟨_, _, _, _, _, _, g⟩ := id hw
    have few := g.few
    have m8 := g.m8
    refine ⟨_, rfl, _, rfl, d, l, _, _, rfl, hd, hl, fun D hD => ?_⟩
    refine lc_it (walk_zipG (K := K) (j := true) (k := true) (a := d) (b := l) (xs := ds.map V.int) (ys := ms.map V.int) rfl) (fun i N => N D = some (.lst (((subD ds ms).take i).map V.int)) ∧ Same H N) ⟨upd_same, same1 hD⟩ ?_ ?_ ?_
    · rintro i N _ ⟨_, sN⟩
      exact ⟨Same.tup sN hd, Same.tup sN hl⟩
    · rintro i x N N' hi ⟨eD, sN⟩ ⟨T1, x1, x2, rfl, hT, rfl, e1, e2⟩
      have e1 : (ds.map V.int)[i]? = some x1 := e1
      have e2 : (ms.map V.int)[i]? = some x2 := e2
      rw [List.getElem?_map] at e1 e2
      obtain ⟨n1, h1, rfl⟩ := Option.map_eq_some_iff.mp e1
      obtain ⟨n2, h2, rfl⟩ := Option.map_eq_some_iff.mp e2
      have i1 : i < ds.length := (List.getElem?_eq_some_iff.mp h1).1
      have i3 : i < (subD ds ms).length := by rw [subD_len]; omega
      have s3 : Same N (upd N T1 (.tup [.int n1, .int n2])) := same1 hT
      refine ⟨T1, _, rfl, SqT.of upd_same, rfl, _, _, rfl, _, _, rfl, rfl, rfl, ?_⟩
      generalize upd N T1 (.tup [.int n1, .int n2]) = N2 at *
      refine ⟨_, rfl, _, rfl, _, _, rfl, rfl, ?_⟩
      refine ⟨_, s3 _ _ eD, ?_, ?_, fun c o ec => ?_⟩
      · rw [List.length_map, List.length_take]
        exact Nat.lt_of_le_of_lt (Nat.min_le_left _ _) (Nat.lt_of_lt_of_le (show i < 12 by omega) (show 12 ≤ sizeLine by decide))
      · have e : (subD ds ms)[i] = n1 - n2 := by
          have : (subD ds ms)[i]? = some (n1 - n2) := by
            unfold subD
            rw [List.getElem?_map, List.getElem?_eq_getElem (by rw [List.length_zip]; omega), List.getElem_zip]
            rw [List.getElem?_eq_getElem i1] at h1
            rw [List.getElem?_eq_getElem (show i < ms.length by omega)] at h2
            rw [Option.some.inj h1, Option.some.inj h2]
            rfl
          rw [List.getElem?_eq_getElem i3] at this
          exact Option.some.inj this
        rw [List.take_succ_eq_append_getElem i3, e, List.map_append]
        exact upd_same
      · rw [upd_ne (ne_of_none ec hD)]
        exact s3 _ _ (sN _ _ ec)
    rintro N ⟨eD, sN⟩
    have lsub : (subD ds ms).length = W.beds.length := by rw [subD_len]; omega
    rw [List.take_of_length_le (by rw [lsub, List.length_map, List.length_map]; omega)] at eD
    refine ⟨D, _, rfl, .inl ⟨SqL.of eD, fun u hu => ?_⟩⟩
    have s1 : Same N (upd N u (.tup ((subD ds ms).map V.int))) := same1 hu
    have eu : (upd N u (.tup ((subD ds ms).map V.int)) : Hp) u = some (.tup ((subD ds ms).map V.int)) := upd_same
    generalize upd N u (.tup ((subD ds ms).map V.int)) = N1 at *
    have n1 := sN.trans s1
    refine ⟨_, rfl, _, rfl, w0, u, W, subD ds ms, rfl, hw.mono n1, SqT.of eu, lsub, fun N2 gp s2 eg => ?_⟩
    refine ⟨gp, gapsV W (subD ds ms), rfl, SqT.of eg, by rw [gaps_len]; omega, fun N3 lp s3 el => ?_⟩
    have n3 := n1.trans (s2.trans s3)
    refine ⟨_, rfl, .tuple ((leadsV (gapsV W (subD ds ms))).map PyData.bool), .tuple (ls.map PyData.bool), .tup (SqT.of el) (dp_bools _), .tup (Same.tup n3 ht) (dp_bools _), shaped_bools _, shaped_bools _, ?_⟩
    rw [show PyData.eqv (.tuple ((leadsV (gapsV W (subD ds ms))).map PyData.bool)) (.tuple (ls.map PyData.bool)) = decide (leadsV (gapsV W (subD ds ms)) = ls) from by rw [PyData.eqv]; exact eqv_bools _ _]
    refine ⟨_, rfl, ite2 (fun h => ?_) (fun h => ?_)⟩
    · have h : leadsV (gapsV W (subD ds ms)) = ls := of_decide_eq_true h
      exact ⟨_, rfl, yes _ (if_pos h) N3 u n3 (SqT.of ((s2.trans s3) _ _ eu))⟩
    · have h : ¬ leadsV (gapsV W (subD ds ms)) = ls := fun z => h (decide_eq_true z)
      exact no (if_neg h) N3 n3
end
end K64

namespace K64
open PySem PySem.Spec PyProof.Rows L2
/-! ### parts_by_moves -/
def PartAt (K : PySem.W.Frag) (C : Addr) (H : Hp) (a : Addr) (x : Stre × List Int) : Prop := ∃ (v : V) (m : Addr), SqT K H a [v, .ref m] ∧ StrA K C H v x.1 ∧ SqT K H m (x.2.map V.int)
theorem KeepL.stra {K : PySem.W.Frag} {C : Addr} {H H' : Hp} {v : V} {s : Stre} (k : KeepL H H') (h : StrA K C H v s) : StrA K C H' v s := by
  obtain ⟨t, l, hv, e, ht, hl, hh⟩ := h
  refine ⟨t, l, hv, e, k.tup ht, k.sh hl, ?_⟩
  rcases hh with z | ⟨h0, u, e1, e2, hu⟩
  · exact .inl z
  · exact .inr ⟨h0, u, e1, e2, k.sh hu⟩
theorem KeepL.part {K : PySem.W.Frag} {C : Addr} {H H' : Hp} {a : Addr} {x : Stre × List Int} (k : KeepL H H') (h : PartAt K C H a x) : PartAt K C H' a x := by
  obtain ⟨v, m, h1, h2, h3⟩ := h
  exact ⟨v, m, k.tup h1, k.stra h2, k.tup h3⟩
theorem catA_to {K : PySem.W.Frag} {H : Hp} {a b : Addr} {xs ys : List V} {Q : VK} (ha : SqT K H a xs) (hb : SqT K H b ys) (l : xs.length + ys.length ≤ sizeLine) (k : ∀ (H' : Hp) (r : Addr), Same H H' → SqT K H' r (xs ++ ys) → Q (.ref r) H') : rCatA K (.ref a) (.ref b) H Q :=
  ⟨a, b, xs, ys, rfl, rfl, ha, hb, l, fun z => k H b (Same.refl _) (by rw [z]; exact hb), fun _ z => k H a (Same.refl _) (by rw [z, List.append_nil]; exact ha), fun _ _ p hp => k _ p (same1 hp) (SqT.of upd_same)⟩
def spParts (K : PySem.W.Frag) (C : Addr) : Sp := fun vs H Q _ => ∃ (bl fl : Addr) (ts us : List Addr) (bs : List Bed) (fs : List Rat), vs = [.ref bl, .ref fl] ∧ SqL K H bl (ts.map V.ref) ∧ All2 (BedAt K C H) ts bs ∧ SqL K H fl (us.map V.ref) ∧ ShQs C H us fs ∧ fs.length = bs.length ∧ bs.length ≤ 12 ∧ (∀ b ∈ bs, Sz 1500 b.lo ∧ Sz 1500 b.hi) ∧ (∀ f ∈ fs, 0 ≤ f ∧ Sz 1500 f) ∧ (∀ b ∈ bs, ∀ f ∈ fs, f ≠ 0 → Sz 1500 (b.lo / f) ∧ Sz 1500 (b.hi / f)) ∧
  ∀ (H' : Hp) (l : Addr) (ps : List Addr), Same H H' → H l = none → H' l = some (.lst (ps.map V.ref)) → All2 (PartAt K C H') ps (partsV (bs.zip fs) [(allS, [])]) → Q (.ref l) H'
theorem KeepL.bed {K : PySem.W.Frag} {C : Addr} {H H' : Hp} {a : Addr} {b : Bed} (k : KeepL H H') (h : BedAt K C H a b) : BedAt K C H' a b := by
  obtain ⟨x, y, h1, h2, h3⟩ := h
  exact ⟨x, y, k.tup h1, k.sh h2, k.sh h3⟩
section
variable {P : Program} {w : World} {K : PySem.W.Frag} {mg : Str → Option Value} {base : Heap}
abbrev ptsN : List Str := ["beds", "factors", "parts", "bed", "factor", "finer", "stretch", "moves", "move", "part"]
theorem scPtsM : FnScope ptsN ["beds", "factors"] (defScope d_parts_by_moves) := ⟨rfl, rfl, rfl, by decide +kernel, rfl, by decide +kernel, by decide +kernel⟩
theorem ok_parts {f f1 f2 C : Addr} {fd fd1 fd2 : FuncData} (F : Fun K "parts_by_moves" "parts_by_moves" d_parts_by_moves f fd) (hzip : mg "zip" = none)
    (A1 : At P w K mg base CX0 4 "all_amounts" [] (spAllA K C) f1 fd1) (A2 : At P w K mg base CX0 5 "part_moving" ["stretch", "bed", "factor", "move"] (spMoving K C) f2 fd2) : FnOk P w K mg base CX0 6 f fd ["beds", "factors"] (spParts K C) := by
  refine F.ok scPtsM (fun vs H Q E h => ?_) (fun cdv A outer s H vs Q E hr h => ?_)
  · obtain ⟨_, _, _, _, _, _, rfl, _⟩ := h
    rfl
  · obtain ⟨bl, fl, ts, us, bs, fs, rfl, hbl, hts, hfl, hus, lfs, l12, hsb, hsf, hsd, q⟩ := h
    have r4 : Room 4 _ := hr.mono (by decide)
    refine ⟨_, pss_cons (ps_set (i := 2) scPtsM.nd rfl (Or.inl rfl) (pe_lst (pa_cons (pe_tup (pa_cons (pe_call0 A1.G r4 rfl A1.m A1.k A1.b .nil pass0) (pa_cons (pe_tup pa_nil) pa_nil))) pa_nil)))
      (pss_cons (ps_for PassesOwn.never rfl (pi_zipG false false (by rfl) hzip (pa_cons (pv 0) (pa_cons (pv 1) pa_nil))) (pg_tup (by rfl) (pgs_cons (pg_name (i := 3) scPtsM.nd rfl (.inl rfl)) (pgs_cons (pg_name (i := 4) scPtsM.nd rfl (.inl rfl)) pgs_nil)))
        (pss_cons (ps_set (i := 5) scPtsM.nd rfl (Or.inl rfl) (pe_lst pa_nil))
        (pss_cons (ps_for PassesOwn.never rfl (pi_list (pv 2)) (pg_tup (by rfl) (pgs_cons (pg_name (i := 6) scPtsM.nd rfl (.inl rfl)) (pgs_cons (pg_name (i := 7) scPtsM.nd rfl (.inl rfl)) pgs_nil)))
          (pss_one (ps_for PassesOwn.never rfl (pi_tup (pe_tup (pa_cons (pe_un un_neg pe_int) (pa_cons pe_int (pa_cons pe_int pa_nil))))) (pg_name (i := 8) scPtsM.nd rfl (.inl rfl))
            (pss_cons (ps_set (i := 9) scPtsM.nd rfl (Or.inl rfl) (pe_call A2.G hr rfl A2.m A2.k A2.b .nil pass0 (pa_cons (pv 6) (pa_cons (pv 3) (pa_cons (pv 4) (pa_cons (pv 8) pa_nil))))))
            (pss_one (ps_if (pt_cmp (pc_notN (pv 9))) (pss_one (ps_expr (pe_bm PySem.F.plainAttrs_list PySem.F.slot_list_append PySem.F.type_list_append mt_append (pv 5) (pa_cons (pe_tup (pa_cons (pv 9) (pa_cons (pe_op op_catA (pv 7) (pe_tup (pa_cons (pv 8) pa_nil))) pa_nil))) pa_nil)))) pss_nil))))))
        (pss_one (ps_set (i := 2) scPtsM.nd rfl (Or.inl rfl) (pv 5))))))
      (pss_one (ps_ret (pv 2)))), ?_⟩
    have lts := hts.len
    have lus := hus.len
    refine ⟨rfl, fun H0 v0 s0 hv0 => ⟨(by show 0 ≤ sizeLine; decide), fun Te hTe => ?_⟩⟩
    have s1 : Same H0 (upd H0 Te (.tup [])) := same1 hTe
    have eTe : (upd H0 Te (.tup []) : Hp) Te = some (.tup []) := upd_same
    generalize upd H0 Te (.tup []) = H1 at *
    refine ⟨(by show 2 ≤ sizeLine; decide), fun Tp hTp => ?_⟩
    have s2 : Same H1 (upd H1 Tp (.tup [v0, .ref Te])) := same1 hTp
    have eTp : (upd H1 Tp (.tup [v0, .ref Te]) : Hp) Tp = some (.tup [v0, .ref Te]) := upd_same
    generalize upd H1 Tp (.tup [v0, .ref Te]) = H2 at *
    refine ⟨(by show 1 ≤ sizeLine; decide), fun L0 hL0 => ?_⟩
    have s3 : Same H2 (upd H2 L0 (.lst [.ref Tp])) := same1 hL0
    have eL0 : (upd H2 L0 (.lst [.ref Tp]) : Hp) L0 = some (.lst ([Tp].map V.ref)) := upd_same
    have s13 := s1.trans (s2.trans s3)
    have s03 := s0.trans s13
    have nL0 : H L0 = none := by
      cases c : H L0 with
      | none => rfl
      | some o =>
        have := (s0.trans (s1.trans s2)) _ _ c
        rw [hL0] at this
        cases this
    generalize upd H2 L0 (.lst [.ref Tp]) = H3 at *
    have p0 : PartAt K C H3 Tp (allS, []) := ⟨v0, Te, SqT.of (s3 _ _ eTp), hv0.mono s13, SqT.of ((s2.trans s3) _ _ eTe)⟩
    refine ⟨_, rfl, _, rfl, bl, fl, _, _, rfl, s03.seq hbl, s03.seq hfl, ?_⟩
    refine for_it (walk_zipG (K := K) (j := false) (k := false) (a := bl) (b := fl) (xs := ts.map V.ref) (ys := us.map V.ref) rfl) (fun i σ N => ∃ (v3 v4 v5 v6 v7 v8 v9 : Option V) (l : Addr) (ps : List Addr), σ = [some (.ref bl), some (.ref fl), some (.ref l), v3, v4, v5, v6, v7, v8, v9] ∧ N l = some (.lst (ps.map V.ref)) ∧ All2 (PartAt K C N) ps (partsV ((bs.zip fs).take i) [(allS, [])]) ∧ H l = none ∧ Same H N)
      ⟨none, none, none, none, none, none, none, L0, [Tp], rfl, eL0, All2.snoc .nil p0, nL0, s03⟩ ?_ ?_ ?_
    · rintro i σ N _ ⟨_, _, _, _, _, _, _, _, _, rfl, _, _, _, sN⟩
      exact ⟨sN.seq hbl, sN.seq hfl⟩
    · rintro i x σ N N' hi ⟨v3, v4, v5, v6, v7, v8, v9, l, ps, rfl, el, hps, nl, sN⟩ ⟨T, x1, x2, rfl, hT, rfl, e1, e2⟩
      have e1 : (ts.map V.ref)[i]? = some x1 := e1
      have e2 : (us.map V.ref)[i]? = some x2 := e2
      rw [List.getElem?_map] at e1 e2
      obtain ⟨tb, htb, rfl⟩ := Option.map_eq_some_iff.mp e1
      obtain ⟨uf, huf, rfl⟩ := Option.map_eq_some_iff.mp e2
      have il : i < bs.length := by
        have := (List.getElem?_eq_some_iff.mp htb).1
        omega
      have fi : i < fs.length := by omega
      have hb := hts.all i tb _ htb (List.getElem?_eq_getElem il)
      have hf := hus.all i uf _ huf (List.getElem?_eq_getElem fi)
      have zb := hsb _ (List.getElem_mem il)
      have zf := hsf _ (List.getElem_mem fi)
      have zd := hsd _ (List.getElem_mem il) _ (List.getElem_mem fi)
      have tk : (bs.zip fs).take (i + 1) = (bs.zip fs).take i ++ [(bs[i], fs[i])] := by
        rw [List.take_add_one, show (bs.zip fs)[i]? = some (bs[i], fs[i]) from by
          rw [List.getElem?_zip_eq_some]
          exact ⟨List.getElem?_eq_getElem il, List.getElem?_eq_getElem fi⟩]
        rfl
      have szX : ∀ y ∈ partsV ((bs.zip fs).take i) [(allS, [])], SzS y.1 := partsV_all (p := fun z => SzS z.1) (fun x hx y z sy hz => nextP_sz hz sy fun nz => by
          obtain ⟨h1, h2⟩ := List.of_mem_zip (a := x.1) (b := x.2) (List.mem_of_mem_take hx)
          exact hsd _ h1 _ h2 nz) (fun y hy => by
          rw [List.mem_singleton.mp hy]
          exact ⟨(lim_zero (M := 1) (k := 1)).sz (by decide) (Nat.one_lt_two_pow (by decide)) (by decide), fun _ z => nomatch z⟩)
      have lX : (partsV ((bs.zip fs).take i) [(allS, [])]).length ≤ 3 ^ 11 := by
        have h := partsV_len ((bs.zip fs).take i) [(allS, [])]
        rw [List.length_singleton, Nat.mul_one, List.length_take] at h
        exact Nat.le_trans h (Nat.pow_le_pow_right (by decide) (by omega))
      have lmX : ∀ y ∈ partsV ((bs.zip fs).take i) [(allS, [])], y.2.length ≤ 12 := fun y hy => by
        have h := partsV_mv (l := (bs.zip fs).take i) (ps := [(allS, [])]) (n := 0) (fun z hz => by rw [List.mem_singleton.mp hz]; rfl) y hy
        rw [List.length_take] at h
        omega
      have nx : partsV ((bs.zip fs).take (i + 1)) [(allS, [])] = (partsV ((bs.zip fs).take i) [(allS, [])]).flatMap (nextP bs[i] fs[i]) := by
        rw [tk, partsV_snoc]
      generalize partsV ((bs.zip fs).take i) [(allS, [])] = X at *
      generalize bs[i] = b at *
      generalize fs[i] = fq at *
      have lps := hps.len
      have s4 : Same N (upd N T (.tup [.ref tb, .ref uf])) := same1 hT
      refine ⟨T, _, rfl, SqT.of upd_same, rfl, _, _, rfl, _, _, rfl, rfl, ?_⟩
      generalize upd N T (.tup [.ref tb, .ref uf]) = N2 at *
      refine ⟨(by show 0 ≤ sizeLine; decide), fun F hF => ?_⟩
      have nlF : l ≠ F := fun z => by
        have := s4 _ _ el
        rw [z, hF] at this
        cases this
      have s5 : Same N2 (upd N2 F (.lst [])) := same1 hF
      have eF : (upd N2 F (.lst []) : Hp) F = some (.lst (([] : List Addr).map V.ref)) := upd_same
      have nF : H F = none := by
        cases c : H F with
        | none => rfl
        | some o =>
          have := (sN.trans s4) _ _ c
          rw [hF] at this
          cases this
      have s45 := s4.trans s5
      have sN3 := sN.trans s45
      generalize upd N2 F (.lst []) = N3 at *
      have el3 := s45 _ _ el
      have hps3 : All2 (PartAt K C N3) ps X := hps.mono fun _ _ _ _ r => (keep_same s45).part r
      have hb3 := hb.mono sN3
      have hf3 := hf.mono sN3
      refine ⟨_, rfl, l, rfl, ⟨_, SqL.of el3⟩, ?_⟩
      refine for_list (K := K) (a := l) (xs := ps.map V.ref) (fun j σ M => ∃ (v6 v7 v8 v9 : Option V) (qs : List Addr), σ = [some (.ref bl), some (.ref fl), some (.ref l), some (.ref tb), some (.ref uf), some (.ref F), v6, v7, v8, v9] ∧ M F = some (.lst (qs.map V.ref)) ∧ All2 (PartAt K C M) qs ((X.take j).flatMap (nextP b fq)) ∧ But F N3 M) ⟨v6, v7, v8, v9, [], rfl, eF, by rw [List.take_zero]; exact .nil, But.refl _ _⟩ ?_ ?_ ?_
      · rintro j σ M _ ⟨_, _, _, _, _, rfl, _, _, bM⟩
        exact SqL.of (bM _ _ nlF el3)
      · rintro j x σ M hx ⟨v6, v7, v8, v9, qs, rfl, eM, hqs, bM⟩
        rw [List.getElem?_map] at hx
        obtain ⟨a, ha, rfl⟩ := Option.map_eq_some_iff.mp hx
        have jl : j < X.length := by
          have := (List.getElem?_eq_some_iff.mp ha).1
          omega
        have kM : KeepL N3 M := keep_but eF bM
        obtain ⟨v, m, h1, h2, h3⟩ := kM.part (hps3.all j a _ ha (List.getElem?_eq_getElem jl))
        have zx := szX _ (List.getElem_mem jl)
        have lm := lmX _ (List.getElem_mem jl)
        have tkj : (X.take (j + 1)).flatMap (nextP b fq) = (X.take j).flatMap (nextP b fq) ++ nextP b fq X[j] := by
          rw [List.take_add_one, List.getElem?_eq_getElem jl, List.flatMap_append]
          simp
        have lj : ((X.take j).flatMap (nextP b fq)).length ≤ 3 * 3 ^ 11 := by
          have h := flat_len (nextP_len b fq) (X.take j)
          rw [List.length_take] at h
          exact Nat.le_trans h (Nat.mul_le_mul_left _ (Nat.le_trans (Nat.min_le_right _ _) lX))
        generalize X[j] = xj at *
        refine ⟨a, _, rfl, h1, rfl, _, _, rfl, _, _, rfl, rfl, ?_⟩
        refine ⟨_, rfl, (by show 3 ≤ sizeLine; decide), fun T3 hT3 => ?_⟩
        have s6 : Same M (upd M T3 (.tup [.int (-1), .int 0, .int 1])) := same1 hT3
        have eT3 : (upd M T3 (.tup [.int (-1), .int 0, .int 1]) : Hp) T3 = some (.tup (([-1, 0, 1] : List Int).map V.int)) := upd_same
        generalize upd M T3 (.tup [.int (-1), .int 0, .int 1]) = M1 at *
        have eM1 := s6 _ _ eM
        have k31 : KeepL N3 M1 := kM.trans (keep_same s6)
        refine ⟨T3, rfl, ⟨_, SqT.of eT3⟩, ?_⟩
        refine for_tup (K := K) (a := T3) (xs := ([-1, 0, 1] : List Int).map V.int) (fun k σ Z => ∃ (v8 v9 : Option V) (rs : List Addr), σ = [some (.ref bl), some (.ref fl), some (.ref l), some (.ref tb), some (.ref uf), some (.ref F), some v, some (.ref m), v8, v9] ∧ Z F = some (.lst (rs.map V.ref)) ∧ All2 (PartAt K C Z) rs ((X.take j).flatMap (nextP b fq) ++ (([-1, 0, 1] : List Int).take k).filterMap (stepP b fq xj)) ∧ But F M1 Z)
          ⟨v8, v9, qs, rfl, eM1, by rw [List.take_zero, List.filterMap_nil, List.append_nil]; exact hqs.mono fun _ _ _ _ r => (keep_same s6).part r, But.refl _ _⟩ ?_ ?_ ?_
        · rintro k σ Z _ ⟨_, _, _, rfl, _, _, bZ⟩
          exact (keep_but eM1 bZ).tup (SqT.of eT3)
        · rintro k x σ Z hx ⟨v8, v9, rs, rfl, eZ, hrs, bZ⟩
          rw [List.getElem?_map] at hx
          obtain ⟨mv, hmv, rfl⟩ := Option.map_eq_some_iff.mp hx
          have kZ : KeepL M1 Z := keep_but eM1 bZ
          have k3Z := k31.trans kZ
          have hvZ := kZ.stra ((keep_same s6).stra h2)
          have hmZ := kZ.tup ((keep_same s6).tup h3)
          have tkk : (([-1, 0, 1] : List Int).take (k + 1)).filterMap (stepP b fq xj) = (([-1, 0, 1] : List Int).take k).filterMap (stepP b fq xj) ++ [mv].filterMap (stepP b fq xj) := by
            rw [List.take_add_one, hmv, List.filterMap_append]
            rfl
          have lk : ((([-1, 0, 1] : List Int).take k).filterMap (stepP b fq xj)).length ≤ 3 := Nat.le_trans (List.length_filterMap_le ..) (by rw [List.length_take]; exact Nat.min_le_right _ _)
          have lrs := hrs.len
          rw [List.length_append] at lrs
          refine ⟨_, rfl, _, rfl, _, rfl, _, rfl, v, tb, uf, mv, xj.1, b, fq, rfl, hvZ, k3Z.bed hb3, k3Z.sh hf3, zx, zb.1, zb.2, zf.2, zf.1, (fun p => zd (by grind)), fun Z2 r z2 ho => ?_⟩
          have eZ2 := z2 _ _ eZ
          rcases ho with ⟨en, rfl⟩ | ⟨s2, es, hs⟩
          · refine ⟨_, rfl, false, rfl, iteF ⟨_, _, rs, rfl, eZ2, ?_, fun c o nc ec => z2 _ _ (bZ c o nc ec)⟩⟩
            rw [tkk, List.filterMap_cons, show stepP b fq xj mv = none from by unfold stepP; rw [en]; rfl, List.filterMap_nil, List.append_nil]
            exact hrs.mono fun _ _ _ _ r => (keep_same z2).part r
          · obtain ⟨tu, lu, hu', rfl, _⟩ := id hs
            refine ⟨_, rfl, true, rfl, iteT ⟨_, rfl, .inl ⟨rfl, _, SqL.of eZ2⟩, _, rfl, _, rfl, _, rfl, (by show 1 ≤ sizeLine; decide), fun T5 hT5 => ?_⟩⟩
            have z3 : Same Z2 (upd Z2 T5 (.tup [.int mv])) := same1 hT5
            have eT5 : (upd Z2 T5 (.tup [.int mv]) : Hp) T5 = some (.tup [.int mv]) := upd_same
            generalize upd Z2 T5 (.tup [.int mv]) = Z3 at *
            have z23 := z2.trans z3
            refine catA_to (Same.tup z23 hmZ) (SqT.of eT5) (by rw [List.length_map]; exact Nat.le_trans (show xj.2.length + 1 ≤ 13 by omega) (by decide)) fun Z4 cm z4 hcm => ⟨(by show 2 ≤ sizeLine; decide), fun T6 hT6 => ?_⟩
            have z5 : Same Z4 (upd Z4 T6 (.tup [.ref tu, .ref cm])) := same1 hT6
            have eT6 : (upd Z4 T6 (.tup [.ref tu, .ref cm]) : Hp) T6 = some (.tup [.ref tu, .ref cm]) := upd_same
            generalize upd Z4 T6 (.tup [.ref tu, .ref cm]) = Z5 at *
            have z35 := z3.trans (z4.trans z5)
            have eZ5 := z35 _ _ eZ2
            have kp : KeepL Z5 (upd Z5 F (.lst (rs.map V.ref ++ [V.ref T6]))) := keep_put eZ5
            refine ⟨F, _, _, rfl, rfl, eZ5, ?_, _, _, rs ++ [T6], rfl, by rw [List.map_append]; exact upd_same, ?_, fun c o nc ec => ?_⟩
            · rw [List.length_map, lrs]
              exact Nat.lt_of_lt_of_le (show _ < 3 * 3 ^ 11 + 4 by omega) (by decide)
            · rw [tkk, List.filterMap_cons, show stepP b fq xj mv = some (s2, xj.2 ++ [mv]) from by unfold stepP; rw [es]; rfl, List.filterMap_nil, ← List.append_assoc]
              refine (hrs.mono fun _ _ _ _ r => kp.part ((keep_same (z2.trans z35)).part r)).snoc (kp.part ⟨.ref tu, cm, SqT.of eT6, hs.mono z35, ?_⟩)
              rw [List.map_append]
              exact Same.tup z5 hcm
            · rw [upd_ne nc]
              exact (z2.trans z35) _ _ (bZ c o nc ec)
        · rintro σ Z ⟨v8, v9, rs, rfl, eZ, hrs, bZ⟩
          refine ⟨_, _, _, _, rs, rfl, eZ, ?_, fun c o nc ec => bZ c o nc (s6 _ _ (bM c o nc ec))⟩
          rw [tkj]
          exact hrs
      · rintro σ M ⟨v6, v7, v8, v9, qs, rfl, eM, hqs, bM⟩
        rw [List.length_map, lps, List.take_length] at hqs
        refine ⟨_, rfl, _, _, _, _, _, _, _, F, qs, rfl, eM, by rw [nx]; exact hqs, nF, fun c o ec => bM c o (ne_of_none ec nF) (sN3 _ _ ec)⟩
    · rintro σ N ⟨v3, v4, v5, v6, v7, v8, v9, l, ps, rfl, el, hps, nl, sN⟩
      have ln : min (ts.map V.ref).length (us.map V.ref).length = (bs.zip fs).length := by
        rw [List.length_map, List.length_map, List.length_zip]
        omega
      rw [ln, List.take_length] at hps
      exact ⟨_, rfl, q N l ps sN nl el hps⟩
end
end K64

namespace K64
open PySem PySem.Spec PyProof.Rows L2 LamX
/-! ### before_any -/
def baQ : Str := ("before_any.<locals>.<lambda>" : Str)
def RowY (K : PySem.W.Frag) (C : Addr) (H : Hp) (a : Addr) (x : List Int × Stre) : Prop := ∃ (e : Addr) (v : V), SqT K H a [.ref e, v] ∧ SqT K H e (x.1.map V.int) ∧ StrA K C H v x.2
theorem KeepL.rowY {K : PySem.W.Frag} {C : Addr} {H H' : Hp} {a : Addr} {x : List Int × Stre} (k : KeepL H H') (h : RowY K C H a x) : RowY K C H' a x := by
  obtain ⟨v, m, h1, h2, h3⟩ := h
  exact ⟨v, m, k.tup h1, k.tup h2, k.stra h3⟩
theorem exn_stra {K : PySem.W.Frag} {C : Addr} {H H' : Hp} {v : V} {s : Stre} (k : ExtN H H') (h : StrA K C H v s) : StrA K C H' v s := by
  have sh : ∀ {a : Addr} {q : Rat}, ShQ C H a q → ShQ C H' a q := fun {a q} ⟨d, e⟩ => ⟨d, k _ _ e (fun _ z => nomatch z)⟩
  obtain ⟨t, l, hv, e, ht, hl, hh⟩ := h
  refine ⟨t, l, hv, e, exn_tup k ht, sh hl, ?_⟩
  rcases hh with z | ⟨h0, u, e1, e2, hu⟩
  · exact .inl z
  · exact .inr ⟨h0, u, e1, e2, sh hu⟩
theorem exn_rowY {K : PySem.W.Frag} {C : Addr} {H H' : Hp} {a : Addr} {x : List Int × Stre} (k : ExtN H H') (h : RowY K C H a x) : RowY K C H' a x := by
  obtain ⟨v, m, h1, h2, h3⟩ := h
  exact ⟨v, m, exn_tup k h1, exn_tup k h2, exn_stra k h3⟩
def leY (a b : List Int × Stre) : Bool := !decide (b.1 < a.1)
def sortY (l : List (List Int × Stre)) : List (List Int × Stre) := l.mergeSort leY
abbrev AY := Addr × (List Int × Stre)
def ayB (x : AY) : V × PyData := (.ref x.1, .tuple (x.2.1.map PyData.int))
theorem ay_le (x y : AY) : PySem.W.dataLe false Prod.snd (ayB x) (ayB y) = leY x.2 y.2 := by
  rw [PySem.W.dataLe_eq]
  show (!PySem.W.dataLt (.tuple (y.2.1.map PyData.int)) (.tuple (x.2.1.map PyData.int))) = _
  unfold leY
  congr 1
  rw [← PySem.W.dataLt_ints]
  exact PySem.W.dataLt_tuple _ _
theorem ay_sort (l : List AY) : ((l.map ayB).mergeSort (PySem.W.dataLe false Prod.snd)).map Prod.fst = (l.mergeSort fun x y => leY x.2 y.2).map fun x => V.ref x.1 := by
  rw [← List.map_mergeSort (r := fun x y : AY => leY x.2 y.2) fun x _ y _ => (ay_le x y).symm, List.map_map]
  rfl
theorem ay_snd (l : List AY) : (l.mergeSort fun x y => leY x.2 y.2).map Prod.snd = sortY (l.map Prod.snd) := List.map_mergeSort fun _ _ _ _ => rfl
theorem flat_take {α β : Type} {g : α → List β} (l : List α) (i : Nat) : ((l.take i).flatMap g).length ≤ (l.flatMap g).length := by
  have h : l.flatMap g = (l.take i).flatMap g ++ (l.drop i).flatMap g := by rw [← List.flatMap_append, List.take_append_drop]
  rw [h, List.length_append]
  omega
theorem fmap_take {α β : Type} {g : α → Option β} (l : List α) (i : Nat) : ((l.take i).filterMap g).length ≤ (l.filterMap g).length := by
  have h : l.filterMap g = (l.take i).filterMap g ++ (l.drop i).filterMap g := by rw [← List.filterMap_append, List.take_append_drop]
  rw [h, List.length_append]
  omega
theorem all2_zip {α β : Type} {R : α → β → Prop} {as : List α} {bs : List β} (h : All2 R as bs) : (as.zip bs).map Prod.fst = as ∧ (as.zip bs).map Prod.snd = bs ∧ ∀ x ∈ as.zip bs, R x.1 x.2 := by
  have hl := h.len
  refine ⟨List.map_fst_zip (by omega), List.map_snd_zip (by omega), fun x hx => ?_⟩
  obtain ⟨i, hi⟩ := List.getElem?_of_mem hx
  obtain ⟨h1, h2⟩ := List.getElem?_zip_eq_some.mp hi
  exact h.all i _ _ h1 h2
def spAny (K : PySem.W.Frag) (C CW : Addr) (T : List (Addr × Str)) : Sp := fun vs H Q _ => ∃ (w d : Addr) (W : WebV) (ds : List Int) (p : Nat), vs = [.ref w, .ref d, .int (p : Int)] ∧ WebAt K C CW H w W ∧ SqT K H d (ds.map V.int) ∧ ds.length = W.beds.length ∧ p < W.many ∧ (anyU W ds p).length < 2 ^ 20 ∧
  (∀ b ∈ W.beds, ∀ ls f, f ∈ facL W ls p → f ≠ 0 → Sz 1500 (b.lo / f) ∧ Sz 1500 (b.hi / f)) ∧ Tabs T H ∧
  ∀ (H' : Hp) (l : Addr) (as : List Addr), ExtN H H' → Tabs T H' → (∀ xs : List V, H l ≠ some (.lst xs)) → H' l = some (.lst (as.map V.ref)) → All2 (RowY K C H') as (sortY (anyU W ds p)) → Q (.ref l) H'
section
variable {P : Program} {w : World} {K : PySem.W.Frag} {mg : Str → Option Value} {base : Heap}
abbrev baN : List Str := ["web", "depths", "place", "found", "leads", "stretch", "moves", "earlier"]
theorem scBa : FnScope baN ["web", "depths", "place"] (defScope d_before_any) := ⟨rfl, rfl, rfl, by decide +kernel, rfl, by decide +kernel, by decide +kernel⟩
theorem ok_any {T : List (Addr × Str)} {fa f1 f2 f3 f4 f5 f6 C CW cc Pt : Addr} {fd1 fd2 fd3 fd4 fd5 fd6 : FuncData} {kV doc pm ct oc : Value} {an od : Option Addr} {osl : Array (Option Value)}
    (lk : K.lookup fa = some ⟨oc, od, .func (PySem.W.fnOf "before_any" "before_any" (defArgs d_before_any) (defBody d_before_any) (defScope d_before_any) .none kV doc pm an (.ref cc) ct), osl⟩) (hcd : PySem.W.codeIn K (.ref cc) "before_any" = true)
    (TW : CrsW K CW) (Y : TxtW mg C) (TB : TabB base mg cc Pt) (hmT : (Pt, baQ) ∈ T) (huT : ∀ p ∈ T, p.1 = Pt → p.2 = baQ)
    (A1 : At P w K mg base CX0 3 "check_depths" ["web", "thing"] (spCheckD K C CW) f1 fd1) (A2 : At P w K mg base CX0 4 "check_place" ["web", "thing"] (spCheckP K C CW) f2 fd2) (A3 : At P w K mg base CX0 1 "all_leads" ["web"] (spAllL K C CW) f3 fd3)
    (A4 : At P w K mg base CX0 7 "flow_from" ["web", "leads", "place"] (spFlowF K C CW) f4 fd4) (A5 : At P w K mg base CX0 6 "parts_by_moves" ["beds", "factors"] (spParts K C) f5 fd5) (A6 : At P w K mg base CX0 3 "led_back" ["web", "depths", "leads", "moves"] (spLedBT K C CW) f6 fd6) :
    FnOk P w K mg base CX0 8 fa (PySem.W.fnOf "before_any" "before_any" (defArgs d_before_any) (defBody d_before_any) (defScope d_before_any) .none kV doc pm an (.ref cc) ct) ["web", "depths", "place"] (spAny K C CW T) := by
  refine fn_of lk hcd scBa (fun vs H Q E h => ?_) (fun A outer s H vs Q E hr h => ?_)
  · obtain ⟨_, _, _, _, _, rfl, _⟩ := h
    rfl
  · obtain ⟨w0, d, W, ds, p, rfl, hW, hd, ld, hp, hn, hz, hT, q⟩ := h
    have r1 : Room 1 _ := hr.mono (by decide)
    have r3 : Room 3 _ := hr.mono (by decide)
    have r4 : Room 4 _ := hr.mono (by decide)
    have r6 : Room 6 _ := hr.mono (by decide)
    refine ⟨_, PSs.nox (pss_cons (ps_expr (pe_call A1.G r3 rfl A1.m A1.k A1.b .nil pass0 (pa_cons (pv 0) (pa_cons (pv 1) pa_nil))))
      (pss_cons (ps_expr (pe_call A2.G r4 rfl A2.m A2.k A2.b .nil pass0 (pa_cons (pv 0) (pa_cons (pv 2) pa_nil))))
      (pss_cons (ps_set (i := 3) scBa.nd rfl (Or.inl rfl) (pe_lst pa_nil))
      (pss_cons (ps_for PassesOwn.never rfl (pi_list (pe_call A3.G r1 rfl A3.m A3.k A3.b .nil pass0 (pa_cons (pv 0) pa_nil))) (pg_name (i := 4) scBa.nd rfl (.inl rfl))
        (pss_one (ps_for PassesOwn.never rfl (pi_list (pe_call A5.G r6 rfl A5.m A5.k A5.b .nil pass0 (pa_cons (pe_fld (pv 0) rfl) (pa_cons (pe_ix ix_tup (pe_call A4.G hr rfl A4.m A4.k A4.b .nil pass0 (pa_cons (pv 0) (pa_cons (pv 4) (pa_cons (pv 2) pa_nil)))) pe_int (fun _ _ => rfl)) pa_nil)))) (pg_tup (by rfl) (pgs_cons (pg_name (i := 5) scBa.nd rfl (.inl rfl)) (pgs_cons (pg_name (i := 6) scBa.nd rfl (.inl rfl)) pgs_nil)))
          (pss_cons (ps_set (i := 7) scBa.nd rfl (Or.inl rfl) (pe_call A6.G r3 rfl A6.m A6.k A6.b .nil pass0 (pa_cons (pv 0) (pa_cons (pv 1) (pa_cons (pv 4) (pa_cons (pv 6) pa_nil))))))
          (pss_one (ps_if (pt_cmp (pc_notN (pv 7))) (pss_one (ps_expr (pe_bm PySem.F.plainAttrs_list PySem.F.slot_list_append PySem.F.type_list_append mt_append (pv 3) (pa_cons (pe_tup (pa_cons (pv 7) (pa_cons (pv 5) pa_nil))) pa_nil)))) pss_nil))))))
      (pss_one (ps_ret (pe_sortK2 (a := "row") (T := T) hr (by rfl) Y.sorted (pv 3) (lamK_by (sc := defScope d_before_any) (by decide +kernel)) TB rfl hmT huT rfl (fun _ _ _ _ _ _ => rfl)))))))), ?_⟩
    obtain ⟨_, _, _, _, _, _, g⟩ := id hW
    have m8 := g.m8
    have few := g.few
    refine ⟨_, rfl, _, rfl, w0, d, W, ds, rfl, hW, hd, ld, fun H1 s1 => ?_⟩
    refine ⟨_, rfl, _, rfl, w0, W, p, rfl, hW.mono s1, hp, fun H2 s2 => ?_⟩
    have s12 := s1.trans s2
    refine ⟨(by show 0 ≤ sizeLine; decide), fun F0 hF0 => ?_⟩
    have nF : H F0 = none := by
      cases c : H F0 with
      | none => rfl
      | some o =>
        have := s12 _ _ c
        rw [hF0] at this
        cases this
    have s3 : Same H2 (upd H2 F0 (.lst [])) := same1 hF0
    have eF : (upd H2 F0 (.lst []) : Hp) F0 = some (.lst (([] : List Addr).map V.ref)) := upd_same
    generalize upd H2 F0 (.lst []) = H3 at *
    have s13 := s12.trans s3
    refine ⟨_, rfl, w0, W, rfl, hW.mono s13, fun H4 l ts s4 nl el ht => ?_⟩
    have s14 := s13.trans s4
    have eF4 := s4 _ _ eF
    have nlF : l ≠ F0 := fun z => by rw [z, eF] at nl; cases nl
    have lts := ht.len
    refine ⟨l, rfl, ⟨_, SqL.of el⟩, ?_⟩
    refine for_list (K := K) (a := l) (xs := ts.map V.ref) (fun i σ N => ∃ (v4 v5 v6 v7 : Option V) (qs : List Addr), σ = [some (.ref w0), some (.ref d), some (.int (p : Int)), some (.ref F0), v4, v5, v6, v7] ∧ N F0 = some (.lst (qs.map V.ref)) ∧ All2 (RowY K C N) qs (((allL W.parts).take i).flatMap (anyL W ds p)) ∧ But F0 H4 N)
      ⟨none, none, none, none, [], rfl, eF4, .nil, But.refl _ _⟩ ?_ ?_ ?_
    · rintro i σ N _ ⟨_, _, _, _, _, rfl, _, _, bN⟩
      exact SqL.of (bN _ _ nlF el)
    · rintro i x σ N hx ⟨v4, v5, v6, v7, qs, rfl, eN, hqs, bN⟩
      rw [List.getElem?_map] at hx
      obtain ⟨t, hti, rfl⟩ := Option.map_eq_some_iff.mp hx
      have il : i < (allL W.parts).length := by
        have := (List.getElem?_eq_some_iff.mp hti).1
        omega
      have sHN : Same H N := fun c o ec => bN c o (ne_of_none ec nF) (s14 _ _ ec)
      have hls : LdsAt K N t (allL W.parts)[i] := (keep_but eF4 bN).tup (ht.all i t _ hti (List.getElem?_eq_getElem il))
      have lls : (allL W.parts)[i].length = W.many := by
        rw [allK_len (mem_allL.mp (List.getElem_mem il)), g.plen]
      have tk : ((allL W.parts).take (i + 1)).flatMap (anyL W ds p) = ((allL W.parts).take i).flatMap (anyL W ds p) ++ anyL W ds p (allL W.parts)[i] := by
        rw [List.take_add_one, List.getElem?_eq_getElem il, List.flatMap_append]
        simp
      have lbig : (((allL W.parts).take i).flatMap (anyL W ds p) ++ anyL W ds p (allL W.parts)[i]).length < 2 ^ 20 := by
        rw [← tk]
        exact Nat.lt_of_le_of_lt (flat_take (allL W.parts) (i + 1)) hn
      generalize (allL W.parts)[i] = ls at *
      have WN := hW.mono sHN
      obtain ⟨dx, bl0, pl0, ew, ⟨bts, hb, hbts⟩, _⟩ := id WN
      have nn := (flow_nn g ls (at_ok (W := W) p) W.many (Nat.le_refl _)).2
      have sz := (flow_szB g ls (at_ok (W := W) p) (Nat.le_refl _)).2
      have lf : (facL W ls p).length = W.beds.length := flow_all g _ _
      refine ⟨_, rfl, w0, CW, dx, _, _, rfl, ew, TW.cl, TW.nb, webF_beds .., _, rfl, _, rfl, _, rfl, w0, t, W, ls, p, rfl, WN, hls, lls, fun N2 u wl bl u2 eu ⟨ps, ebl, hps⟩ => ?_⟩
      refine ⟨u, _, _, _, rfl, rfl, SqT.of eu, at_k (by decide) rfl, bl0, bl, bts, ps, W.beds, facL W ls p, rfl, SqL.of (u2 _ _ hb), hbts.mono (fun _ _ _ _ r => r.mono u2), SqL.of ebl, hps, lf, few, fun b hb => ⟨(g.bed b hb).slo, (g.bed b hb).shi⟩, fun f hf => ⟨nn f hf, sz f hf⟩, fun b hb f hf => hz b hb ls f hf, fun N3 pl pts u3 npl epl hpts => ?_⟩
      have u23 := u2.trans u3
      have npF : pl ≠ F0 := fun z => by
        have := u2 _ _ eN
        rw [← z, npl] at this
        cases this
      have lpt := hpts.len
      have eN3 := u23 _ _ eN
      have hqs3 : All2 (RowY K C N3) qs (((allL W.parts).take i).flatMap (anyL W ds p)) := hqs.mono fun _ _ _ _ r => (keep_same u23).rowY r
      have anyE : anyL W ds p ls = (partsV (W.beds.zip (facL W ls p)) [(allS, [])]).filterMap fun x => (ledV W ds ls x.2).map fun e => (e, x.1) := rfl
      have lmv := partsV_mv (l := W.beds.zip (facL W ls p)) (ps := [(allS, [])]) (n := 0) (fun z hz => by rw [List.mem_singleton.mp hz]; rfl)
      rw [anyE] at tk lbig
      generalize partsV (W.beds.zip (facL W ls p)) [(allS, [])] = X at *
      refine ⟨pl, rfl, ⟨_, SqL.of epl⟩, ?_⟩
      refine for_list (K := K) (a := pl) (xs := pts.map V.ref) (fun j σ M => ∃ (v5 v6 v7 : Option V) (rs : List Addr), σ = [some (.ref w0), some (.ref d), some (.int (p : Int)), some (.ref F0), some (.ref t), v5, v6, v7] ∧ M F0 = some (.lst (rs.map V.ref)) ∧ All2 (RowY K C M) rs (((allL W.parts).take i).flatMap (anyL W ds p) ++ (X.take j).filterMap fun x => (ledV W ds ls x.2).map fun e => (e, x.1)) ∧ But F0 N3 M)
        ⟨v5, v6, v7, qs, rfl, eN3, by rw [List.take_zero, List.filterMap_nil, List.append_nil]; exact hqs3, But.refl _ _⟩ ?_ ?_ ?_
      · rintro j σ M _ ⟨_, _, _, _, rfl, _, _, bM⟩
        exact SqL.of (bM _ _ npF epl)
      · rintro j x σ M hx ⟨v5, v6, v7, rs, rfl, eM, hrs, bM⟩
        rw [List.getElem?_map] at hx
        obtain ⟨a, ha, rfl⟩ := Option.map_eq_some_iff.mp hx
        have jl : j < X.length := by
          have := (List.getElem?_eq_some_iff.mp ha).1
          omega
        have kM : KeepL N3 M := keep_but eN3 bM
        obtain ⟨v, m, h1, h2, h3⟩ := kM.part (hpts.all j a _ ha (List.getElem?_eq_getElem jl))
        have lm := lmv _ (List.getElem_mem jl)
        have tkj : (X.take (j + 1)).filterMap (fun x => (ledV W ds ls x.2).map fun e => (e, x.1)) = (X.take j).filterMap (fun x => (ledV W ds ls x.2).map fun e => (e, x.1)) ++ [X[j]].filterMap fun x => (ledV W ds ls x.2).map fun e => (e, x.1) := by
          rw [List.take_add_one, List.getElem?_eq_getElem jl, List.filterMap_append]
          rfl
        have lj := fmap_take (g := fun x : Stre × List Int => (ledV W ds ls x.2).map fun e => (e, x.1)) X j
        generalize X[j] = xj at *
        have lrs := hrs.len
        rw [List.length_append] at lrs lbig
        have sHM : Same H M := fun c o ec => bM c o (ne_of_none ec nF) ((sHN.trans u23) _ _ ec)
        refine ⟨a, _, rfl, h1, rfl, _, _, rfl, _, _, rfl, rfl, ?_⟩
        refine ⟨_, rfl, _, rfl, _, rfl, _, rfl, w0, d, t, m, W, ds, ls, xj.2, rfl, hW.mono sHM, Same.tup sHM hd, ld, kM.tup (Same.tup u23 hls), lls, h3, by rw [lm, List.length_zip]; omega, fun e he M2 ea m2 hea => ?_, fun he M2 m2 => ?_⟩
        · have eM2 := m2 _ _ eM
          refine ⟨_, rfl, true, rfl, iteT ⟨_, rfl, .inl ⟨rfl, _, SqL.of eM2⟩, _, rfl, _, rfl, (by show 2 ≤ sizeLine; decide), fun T6 hT6 => ?_⟩⟩
          have m3 : Same M2 (upd M2 T6 (.tup [.ref ea, v])) := same1 hT6
          have eT6 : (upd M2 T6 (.tup [.ref ea, v]) : Hp) T6 = some (.tup [.ref ea, v]) := upd_same
          generalize upd M2 T6 (.tup [.ref ea, v]) = M3 at *
          have eM3 := m3 _ _ eM2
          have m23 := m2.trans m3
          have kp : KeepL M3 (upd M3 F0 (.lst (rs.map V.ref ++ [V.ref T6]))) := keep_put eM3
          refine ⟨F0, _, _, rfl, rfl, eM3, ?_, _, _, _, rs ++ [T6], rfl, by rw [List.map_append]; exact upd_same, ?_, fun c o nc ec => ?_⟩
          · rw [List.length_map, lrs]
            exact Nat.lt_of_lt_of_le (show _ < 2 ^ 20 by omega) (by decide)
          · rw [tkj, List.filterMap_cons, he, List.filterMap_nil, ← List.append_assoc]
            exact (hrs.mono fun _ _ _ _ r => kp.rowY ((keep_same m23).rowY r)).snoc (kp.rowY ⟨ea, v, SqT.of eT6, Same.tup m3 hea, h2.mono m23⟩)
          · rw [upd_ne nc]
            exact m23 _ _ (bM c o nc ec)
        · refine ⟨_, rfl, false, rfl, iteF ⟨_, _, _, rs, rfl, m2 _ _ eM, ?_, fun c o nc ec => m2 _ _ (bM c o nc ec)⟩⟩
          have e0 : [xj].filterMap (fun x => (ledV W ds ls x.2).map fun e => (e, x.1)) = [] := by
            rw [List.filterMap_cons, he]
            rfl
          rw [tkj, e0, List.append_nil]
          exact hrs.mono fun _ _ _ _ r => (keep_same m2).rowY r
      · rintro σ M ⟨v5, v6, v7, rs, rfl, eM, hrs, bM⟩
        rw [List.length_map, lpt, List.take_length] at hrs
        exact ⟨_, _, _, _, rs, rfl, eM, by rw [tk]; exact hrs, fun c o nc ec => bM c o nc (u23 _ _ (bN c o nc ec))⟩
    · rintro σ N ⟨v4, v5, v6, v7, qs, rfl, eN, hqs, bN⟩
      rw [List.length_map, lts, List.take_length] at hqs
      have hqs : All2 (RowY K C N) qs (anyU W ds p) := hqs
      have sHN : Same H N := fun c o ec => bN c o (ne_of_none ec nF) (s14 _ _ ec)
      obtain ⟨z1, z2, z3⟩ := all2_zip hqs
      generalize qs.zip (anyU W ds p) = la at *
      subst z1
      have dep : ∀ x ∈ la, x.2.1.length = W.beds.length := fun x hx => anyU_dep g ld (by rw [← z2]; exact List.mem_map_of_mem hx)
      refine ⟨_, rfl, F0, la.map ayB, rfl, ?_, hT.ext sHN, ?_, ?_, fun b hb => ?_, fun G2 hE hT2 => ⟨fun b hb => ?_, fun dd hdd => ?_⟩⟩
      · rw [List.map_map]
        rw [List.map_map] at eN
        exact SqL.of eN
      · rw [List.map_map]
        exact PySem.W.AllAlike.of (enc := Prod.snd ∘ ayB) fun b b' => by
          show PySem.W.alike (.tuple _) (.tuple _) = true
          rw [PySem.W.alike]
          exact PySem.W.alike_ints _ _
      · by_cases c : W.beds.length = 0
        · have h1 := anyU_none g ds p c
          rw [← z2, List.length_map] at h1
          match la, h1 with
          | [], _ => exact .inl (.inl fun d hd => nomatch hd)
          | [x], _ => exact .inr rfl
        · refine .inl (.inl fun d hd => ?_)
          obtain ⟨b, hb, rfl⟩ := List.mem_map.mp hd
          obtain ⟨x, hx, rfl⟩ := List.mem_map.mp hb
          have := dep x hx
          show ∃ y r, PyData.tuple (x.2.1.map PyData.int) = .tuple (y :: r)
          match hx1 : x.2.1, this with
          | [], z => exact absurd z.symm c
          | y :: r, _ => exact ⟨_, _, rfl⟩
      · obtain ⟨x, hx, rfl⟩ := List.mem_map.mp hb
        show PyData.depth (.tuple (x.2.1.map PyData.int)) ≤ 64
        rw [PyData.depth, PySem.W.depth_ints]
        decide
      · obtain ⟨x, hx, rfl⟩ := List.mem_map.mp hb
        obtain ⟨e, v, h1, h2, _⟩ := z3 x hx
        exact krun_ints (lamK_by (sc := defScope d_before_any) (by decide +kernel)) (by decide) (exn_tup hE h1) (at_k (by decide) rfl) (exn_tup hE h2)
      · have pm := List.mergeSort_perm la (fun x y => leY x.2 y.2)
        have es := ay_snd la
        rw [z2] at es
        rw [ay_sort]
        generalize la.mergeSort (fun x y => leY x.2 y.2) = lb at *
        have s5 : Same G2 (upd G2 dd (.lst (lb.map fun x => V.ref x.1))) := same1 hdd
        refine q _ dd (lb.map Prod.fst) ((same_ext sHN).trans (hE.trans (same_ext s5))) (hT2.ext s5) (fun xs e => ?_) (by rw [List.map_map]; exact upd_same) ?_
        · have h2 := hE _ _ (sHN _ _ e) (fun _ z => nomatch z)
          rw [hdd] at h2
          cases h2
        · rw [← es]
          refine ⟨by rw [List.length_map, List.length_map], fun i a b ha hb => ?_⟩
          rw [List.getElem?_map] at ha hb
          obtain ⟨x, hx, rfl⟩ := Option.map_eq_some_iff.mp ha
          rw [hx] at hb
          obtain rfl := Option.some.inj hb
          exact (keep_same s5).rowY (exn_rowY hE (z3 x (pm.mem_iff.mp (List.mem_of_getElem? hx))))
end
end K64

/-! ### != of lists whose items have an own == -/
namespace K64.GN
open PySem PySem.SeqAt
open AutoSeq1 (wpAny_loadPart')
open MeetsSeq MeetsSeq2 MeetsSeq3 SeqRoads2
section
variable {prog : Program} {w : World} {A : Around} {R : Result → Shared → Prop}
theorem ne_loopG (l b : Addr) (N : Nat) (I : Nat → Shared → Prop) (hl : GQ.ListI prog w A (fun e s' => R (.error e) s') l b N I)
    (fin : ∀ s, I N s → R (.ok (.ret (.bool false))) s) (k : Nat) :
    ∀ i : Nat, N - i = k → i ≤ N → ∀ s, I i s →
      wpAny (model prog w) A.in1 (Builtin.«list.__eq__.loop» ⟨[.ref l, .ref b, rawInt i, rawInt 3], []⟩) (GQ.FinOf prog w A R) (fun e s' => R (.error e) s') s := by
  induction k with
  | zero =>
    intro i hk hi s h
    obtain ⟨items, items2, n, n2, hl1, hb1, hs1, hs2, _⟩ := hl _ _ h
    have hi' : i = N := by omega
    have hR : R (.ok (.ret (.bool false))) s := fin s (hi' ▸ h)
    obtain ⟨hp, g, d, tk, os⟩ := s
    wp_walk using wpAny_loadPart' hl1, wpAny_loadPart' hb1
    have hi1 : items[((i : Nat) : Int).toNat]? = none := by simp; omega
    have hi2 : items2[((i : Nat) : Int).toNat]? = none := by simp; omega
    rw [hi1, hi2]
    wp_walk using wpAny_loadPart' hl1, wpAny_loadPart' hb1
    show R (.ok (.ret (.bool (items.size != items2.size)))) _
    rw [hs1, hs2]
    simpa using hR
  | succ k ih =>
    intro i hk hi s h
    obtain ⟨items, items2, n, n2, hl1, hb1, hs1, hs2, turn⟩ := hl _ _ h
    have hlt : i < items.size := by omega
    have hlt2 : i < items2.size := by omega
    have ht := turn hlt hlt2
    obtain ⟨hp, g, d, tk, os⟩ := s
    wp_walk using wpAny_loadPart' hl1, wpAny_loadPart' hb1
    have hi1 : items[((i : Nat) : Int).toNat]? = some items[i] := by simp [hlt]
    have hi2 : items2[((i : Nat) : Int).toNat]? = some items2[i] := by simp [hlt2]
    have hc : ((i : Int) + 1) = ((i + 1 : Nat) : Int) := by omega
    rw [hi1, hi2]
    refine wpAny_bind (wpAny_mono ht (fun r s2 h2 => ?_) fun _ _ x => x)
    obtain ⟨hr, h2⟩ := h2
    subst hr
    have hrec := ih (i + 1) (by omega) (by omega) s2 h2
    obtain ⟨hp2, g2, d2, tk2, os2⟩ := s2
    wp_walk
    rw [hc]
    exact ⟨plainId_quiet plain_eq_loop _, codeAny_builtin entry_eq_loop (by
      rw [Around.under_plainId plain_eq_loop _]
      exact hrec)⟩
theorem list_neG (l b : Addr) (N : Nat) (I : Nat → Shared → Prop) (hl : GQ.ListI prog w A (fun e s' => R (.error e) s') l b N I)
    (fin : ∀ s, I N s → R (.ok (.ret (.bool false))) s) {s : Shared} (h : I 0 s) :
    wpAny (model prog w) A.in1 (Builtin.«list.__ne__» ⟨[.ref l, .ref b], []⟩) (GQ.FinOf prog w A R) (fun e s' => R (.error e) s') s := by
  obtain ⟨items, items2, n, n2, hl1, hb1, hs1, hs2, _⟩ := hl _ _ h
  have hrec := ne_loopG (A := A) (R := R) l b N I hl fin _ 0 rfl (Nat.zero_le _) s h
  obtain ⟨hp, g, d, tk, os⟩ := s
  have f3 := AutoSeq1.sub_list_list
  have hne : ¬ (items.size != items2.size) = true := by simp [hs1, hs2]
  wp_walk using wpAny_loadPart' hl1, wpAny_loadPart' hb1
  exact ⟨plainId_quiet plain_eq_loop _, codeAny_builtin entry_eq_loop (by
    rw [Around.under_plainId plain_eq_loop _]
    exact hrec)⟩
end
section
variable {prog : Program} {w : World} {A : Around} {E : Value → Shared → Prop} {s : Shared}
theorem rn_listG {l b : Addr} {N : Nat} {Q : Value → Shared → Prop} (hu : A.units < cLine) (I : Nat → Shared → Prop) (hl : GQ.ListI prog w A E l b N I)
    (fin : ∀ s, I N s → Q (.bool false) s) (h : I 0 s) : wpAny (model prog w) A (richCompare .NotEq (.ref l) (.ref b)) Q E s := by
  obtain ⟨items, items2, n, n2, hl1, hb1, _, _, _⟩ := hl _ _ h
  refine wpAny_richCompare_same_room (op := .NotEq) ⟨_, hl1, rfl⟩ ⟨_, hb1, rfl⟩ F.slot_list_ne (GQ.call_here F.slot_list_ne ⟨_, hl1, rfl⟩ F.entry_list_ne (F.args_list_ne_2 _ _) ?_) hu
  exact list_neG (R := wants (fun v s' => v ≠ .notImplemented ∧ Q v s') E) l b N I hl (fun s' q => ⟨(fun x => nomatch x), fin s' q⟩) h
end
end K64.GN
namespace K64
open PySem PySem.Spec PyProof.Rows L2
section
variable {X : Cx} {n : Nat} {D : Eqv}
/-- != gives False for what D says -/
def RcN (X : Cx) (n : Nat) (D : Eqv) : Prop :=
  ∀ (A : Around) (pins : List (Addr × Obj)) (s : Shared) (σ : L2.St) (H : Hp) (x y : V) (u v : Value), Sub X n A → Inv X pins σ H s → RelV x u → RelV y v → D x y H →
    wpAny (model X.prog X.w) A (richCompare .NotEq u v) (fun r s' => r = .bool false ∧ ∃ H', Inv X pins σ H' s' ∧ Ext H H') X.xe s
theorem rcN_list (hD : Mon D) (h : EqG X n D) : RcN X (n + 1) (DList D) := by
  intro A pins s σ H x y u v sb I rx ry d
  obtain ⟨a, b, xs, ys, rfl, rfl, ha, hb, p⟩ := d
  cases rx
  cases ry
  refine GN.rn_listG (N := xs.length) sb.room.units0 (fun _ s' => LoopI X pins σ H s') (fun i s' q => ?_) (fun s' q => ⟨rfl, q⟩) ⟨H, I, Ext.rfl'⟩
  obtain ⟨H1, I1, e1⟩ := id q
  obtain ⟨z, its, k, r, e⟩ := I1.hok a _ (e1 _ _ ha)
  obtain ⟨z2, its2, k2, r2, e2⟩ := I1.hok b _ (e1 _ _ hb)
  refine ⟨its.toArray, its2.toArray, k, k2, e, e2, by rw [List.size_toArray, ← r.length], by rw [List.size_toArray, ← r2.length, ← p.1], fun h1 h2 => ?_⟩
  exact turnG hD h sb p r r2 i h1 h2 s' q
/-- x != y of two lists that are alike -/
def rNeG (D : Eqv) : R2 := fun x y H Q => D x y H ∧ ∀ H', Ext H H' → Q (.bl false) H'
theorem op_neG (h : RcN X n D) (hr : Room n X.A) : OpR X (compareOp .NotEq) (rNeG D) := by
  intro pins s σ H x y v u Q I rx ry hq
  obtain ⟨d, q⟩ := hq
  show wpAny (model X.prog X.w) X.A (richCompare .NotEq v u) (EP X pins σ Q) X.xe s
  refine wpAny_mono (h X.A pins s σ H x y v u ⟨hr, rfl⟩ I rx ry d) (fun r s' z => ?_) fun _ _ x => x
  obtain ⟨hr', H', I', e⟩ := z
  subst hr'
  exact ⟨.bl false, H', I', rfl, q H' e⟩
/-- x != [] of a list -/
def rNe0 (K : PySem.W.Frag) : R2 := fun x y H Q => ∃ a b xs, x = .ref a ∧ y = .ref b ∧ SqL K H a xs ∧ SqL K H b [] ∧ Q (.bl (!xs.isEmpty)) H
theorem op_ne0 (hr : Room 0 X.A) : OpR X (compareOp .NotEq) (rNe0 X.K) := by
  intro pins s σ H x y v u Q I rx ry hq
  obtain ⟨a, b, xs, rfl, rfl, ha, hb, q⟩ := hq
  cases rx
  cases ry
  obtain ⟨its, r, p, _⟩ := I.list ha
  obtain ⟨its2, r2, p2, _⟩ := I.list hb
  cases r2
  show wpAny (model X.prog X.w) X.A (richCompare .NotEq (.ref a) (.ref b)) (EP X pins σ Q) X.xe s
  cases r with
  | nil => exact SeqAt.RcNeAt.lists p.isList p2.isList rfl hr.units0 (e := fun _ => true) (fun j h1 _ => absurd h1 (by simp)) X.prog X.w X.xe _ ⟨.bl false, H, I, rfl, q⟩
  | cons _ _ => exact SeqAt.RcNeAt.lists_lengths p.isList p2.isList (by simp) hr.units0 X.prog X.w X.xe _ ⟨.bl true, H, I, rfl, q⟩
end
/-! ### a def held by a name, called with keywords -/
structure HeldN (P : Program) (w : World) (K : PySem.W.Frag) (mg : Str → Option Value) (base : Heap) (k n : Nat) (ks : List Str) (gV : List V → List V → List V) (f : Addr) (sp : Sp) : Prop where
  ex : ∃ (fd : FuncData) (ps : List Str) (g : List Value → List Value → List Value), FnOk P w K mg base (fun _ _ _ _ _ _ => False) k f fd ps sp ∧ PySem.W.keepIn K (.ref f) = true ∧ KBn K fd ps n ks g gV
def tCallAN (i : Nat) (S : Addr → Sp → Prop) (n m : Nat) (gV : List V → List V → List V) (t tk : TA) : TE := fun σ H Q => ∃ f sp, σ[i]? = some (some (.ref f)) ∧ S f sp ∧ tCallN n m sp gV (fun _ _ _ => False) t tk σ H Q
section
variable {X : Cx} {k n i : Nat} {ks : List Str} {x : Str} {p pos : Pos} {e : Expr} {es : List Expr} {kws : List Keyword} {t tk : TA} {gV : List V → List V → List V}
theorem pe_callAN {S : Addr → Sp → Prop} (A : ∀ f sp, S f sp → HeldN X.prog X.w X.K X.mg X.base k n ks gV f sp) (hr : Room k X.A) (hN : X.N[i]? = some x) (hv : Vis X.env.scope x)
    (ha : PA X (e :: es) t) (hkw : PK X kws tk) (hall : (backToKw pos (keywordEach kws X.env)).all (·.1.isSome) = true := by rfl) (hks : (backToKw pos (keywordEach kws X.env)).filterMap (·.1) = ks := by rfl)
    (hdb : (x == ("__debug__" : Str)) = false := by decide) (hcd : (x == ("__classdict__" : Str)) = false := by decide) (he : starEach (e :: es) X.env = (false, eval e X.env) :: starEach es X.env := by rfl)
    (hpl : ((backTo pos (starEach (e :: es) X.env)).any (·.1) || (backToKw pos (keywordEach kws X.env)).any (·.1.isNone)) = false := by rfl) :
    PE X (.Call (.Name x p) (e :: es) kws pos) (tCallAN i S n ks.length gV t tk) := by
  refine ⟨fun pins s σ H Q I h => ?_⟩
  obtain ⟨f, sp, hs, hS, h⟩ := h
  obtain ⟨fd, ps, g, F, hk, hb⟩ := (A f sp hS).ex
  refine wpAny_Call_Name_kw (thn ((pe_var (pos := p) hN hv hdb hcd).run pins s σ H (fun v H1 => v = .ref f ∧ H1 = H) I ⟨.ref f, hs, rfl, rfl⟩) fun u s0 ⟨v, H0, I0, r0, q0⟩ => ?_)
  obtain ⟨rfl, rfl⟩ := q0
  cases r0
  refine PySem.W.callWith_KW (h₀ := X.base) I.ok.mod.kin hk hall (thn (ha.run pos pins s0 σ _ _ I0 h) fun us s1 ⟨vs, H1, I1, r, q⟩ => ?_) hpl he
  refine thn (hkw.run pos pins s1 σ H1 _ I1 q) fun ws s2 ⟨zs, H2, I2, rz, l1, l2, q2⟩ => ⟨I2.kIn, ?_⟩
  rw [hks]
  exact run_fnN F hr hb (fun _ _ _ _ _ _ _ z => z.elim) I2 r rz l1 l2 q2
end
end K64

namespace K64
open PySem PySem.Spec PyProof.Rows L2 LamX
/-! ### the law's points and the looked at amounts that lead there -/
theorem ptsok_one {rs qs qs' : List Rat} (h : PtsOk rs qs) (h' : PtsOk rs qs') : qs = qs' := by
  have nd : ∀ {l : List Rat}, l.Pairwise (· < ·) → l.Nodup := fun {l} p => p.imp fun {a b} z e => (by rw [e] at z; exact Rat.lt_irrefl z)
  refine List.Perm.eq_of_pairwise (le := fun x y : Rat => x < y) (fun a b _ _ x y => (by have x : a < b := x; have y : b < a := y; grind)) h.up h'.up ?_
  exact (List.perm_ext_iff_of_nodup (nd h.up) (nd h'.up)).mpr fun q => by rw [h.mem, h'.mem]
def spPoints (K : PySem.W.Frag) (T : List (Addr × Str)) : Sp := fun vs H Q _ => ∃ (t d : Addr) (W : WebV) (ds : List Int) (p : Nat), vs = [.ref t, .ref d, .int (p : Int)] ∧ WorldAt K H t W ∧ GoodWeb W ∧ (∀ b ∈ W.beds, LimB b) ∧ SqT K H d (ds.map V.int) ∧ ds.length = W.beds.length ∧ p < W.many ∧ Tabs T H ∧
  ∀ (H' : Hp) (l : Addr) (qs : List Rat), ExtN H H' → Tabs T H' → (∀ xs : List V, H l ≠ some (.lst xs)) → PairsT K H' l qs → PtsOk (marksE W.beds (facV W ds p) (W.beds.zip (facV W ds p)).length) qs → qs.length < 64 → Q (.ref l) H'
def spLeading (K : PySem.W.Frag) (T : List (Addr × Str)) : Sp := fun vs H Q _ => ∃ (t d e : Addr) (W : WebV) (ds gs : List Int) (p : Nat), vs = [.ref t, .ref d, .ref e, .int (p : Int)] ∧ WorldAt K H t W ∧ GoodWeb W ∧ (∀ b ∈ W.beds, LimB b) ∧ SqT K H d (ds.map V.int) ∧ ds.length = W.beds.length ∧ SqT K H e (gs.map V.int) ∧ gs.length = W.beds.length ∧ p < W.many ∧ Tabs T H ∧
  ∀ (H' : Hp) (l : Addr) (qs : List Rat), ExtN H H' → Tabs T H' → (∀ xs : List V, H l ≠ some (.lst xs)) → PtsOk (marksE W.beds (facV W ds p) (W.beds.zip (facV W ds p)).length) qs → qs.length < 64 → PairsT K H' l ((samplesV qs).filter fun x => decide (leadsTo W ds gs p x)) → Q (.ref l) H'
section
variable {P : Program} {w : World} {K : PySem.W.Frag} {mg : Str → Option Value} {base : Heap}
theorem scPo : FnScope ["spec", "deep", "spot"] ["spec", "deep", "spot"] (defScope d_law_points) := ⟨rfl, rfl, rfl, by decide +kernel, rfl, by decide +kernel, by decide +kernel⟩
theorem ok_points {T : List (Addr × Str)} {f f1 f2 f3 : Addr} {fd fd1 fd2 fd3 : FuncData} (F : Fun K "_law_points" "_law_points" d_law_points f fd)
    (AK : At P w K mg base CX0 4 "_law_marked" ["spec", "parts"] (spMarked K T) f1 fd1) (AD : At P w K mg base CX0 3 "_law_day" ["spec", "deep", "fallen"] (spDayL K) f2 fd2) (AL : At P w K mg base CX0 1 "_law_at" ["spec", "spot", "amount"] (spAtL K) f3 fd3) :
    FnOk P w K mg base CX0 5 f fd ["spec", "deep", "spot"] (spPoints K T) := by
  refine F.ok scPo (fun vs H Q E h => ?_) (fun cdv A outer s H vs Q E hr h => ?_)
  · obtain ⟨_, _, _, _, _, rfl, _⟩ := h
    rfl
  · obtain ⟨t0, d, W, ds, p, rfl, hW, g, lb, hd, ld, hp, hT, q⟩ := h
    have r1 : Room 1 _ := hr.mono (by decide)
    have r3 : Room 3 _ := hr.mono (by decide)
    have r4 : Room 4 _ := hr.mono (by decide)
    refine ⟨_, pss_one (ps_ret (pe_call AK.G r4 rfl AK.m AK.k AK.b .nil pass0 (pa_cons (pv 0) (pa_cons (pe_ix ix_tup (pe_call AD.G r3 rfl AD.m AD.k AD.b .nil pass0 (pa_cons (pv 0) (pa_cons (pv 1) (pa_cons (pe_call AL.G r1 rfl AL.m AL.k AL.b .nil pass0 (pa_cons (pv 0) (pa_cons (pv 2) (pa_cons (pe_tup (pa_cons pe_int (pa_cons pe_int pa_nil))) pa_nil)))) pa_nil)))) pe_int (fun _ _ => rfl)) pa_nil)))), ?_⟩
    have m8 := g.m8
    have few := g.few
    refine ⟨_, rfl, _, rfl, _, rfl, _, rfl, _, rfl, (by show 2 ≤ sizeLine; decide), fun T2 hT2 => ?_⟩
    have s3 : Same H (upd H T2 (.tup [.int 1, .int 1])) := same1 hT2
    have eT2 : (upd H T2 (.tup [.int 1, .int 1]) : Hp) T2 = some (.tup (prV 1)) := upd_same
    generalize upd H T2 (.tup [.int 1, .int 1]) = H3 at *
    refine ⟨t0, T2, W, p, 1, rfl, hW.mono s3, g, SqT.of eT2, fun H4 al s4 nal hal => ?_⟩
    have s04 := s3.trans s4
    refine ⟨t0, d, al, W, ds, atR W p 1, 1, 1, rfl, hW.mono s04, g, Same.tup s04 hd, ld, hal.old, at_ok p, fun H5 u bl e s5 eu hbl he => ?_⟩
    have s05 := s04.trans s5
    refine ⟨u, _, _, _, rfl, rfl, SqT.of eu, at_k (by decide) rfl, ?_⟩
    have hbl : PairsT K H5 bl (facV W ds p) := hbl
    refine ⟨t0, bl, W, facV W ds p, rfl, hW.mono s05, g, lb, hbl, flow_all g _ _, fun f hf => ⟨fac_lim g ds p f hf, (flow_szB g (leadsV (gapsV W ds)) (at_ok (W := W) p) (Nat.le_refl _)).2 f hf⟩, hT.ext s05, fun H6 l qs x6 T6 n6 hl pk l64 => ?_⟩
    exact q H6 l qs ((same_ext s05).trans x6) T6 (fun xs z => n6 xs (s05 _ _ z)) hl pk l64
abbrev leN : List Str := ["spec", "old", "goal", "spot", "samples", "one"]
theorem scLe : FnScope leN ["spec", "old", "goal", "spot"] (defScope d_law_leading) := ⟨rfl, rfl, rfl, by decide +kernel, rfl, by decide +kernel, by decide +kernel⟩
theorem ok_leading {T : List (Addr × Str)} {f f1 f2 f3 f4 : Addr} {fd fd1 fd2 fd3 fd4 : FuncData} (F : Fun K "_law_leading" "_law_leading" d_law_leading f fd)
    (AP : At P w K mg base CX0 5 "_law_points" ["spec", "deep", "spot"] (spPoints K T) f1 fd1) (AS : At P w K mg base CX0 3 "_law_samples" ["points"] (spSamp K) f2 fd2) (AD : At P w K mg base CX0 3 "_law_day" ["spec", "deep", "fallen"] (spDayL K) f3 fd3) (AL : At P w K mg base CX0 1 "_law_at" ["spec", "spot", "amount"] (spAtL K) f4 fd4) :
    FnOk P w K mg base CX0 6 f fd ["spec", "old", "goal", "spot"] (spLeading K T) := by
  refine F.ok scLe (fun vs H Q E h => ?_) (fun cdv A outer s H vs Q E hr h => ?_)
  · obtain ⟨_, _, _, _, _, _, _, rfl, _⟩ := h
    rfl
  · obtain ⟨t0, d, e0, W, ds, gs, p, rfl, hW, g, lb, hd, ld, he, lg, hp, hT, q⟩ := h
    have r1 : Room 1 _ := hr.mono (by decide)
    have r3 : Room 3 _ := hr.mono (by decide)
    have r5 : Room 5 _ := hr.mono (by decide)
    refine ⟨_, pss_cons (ps_set (i := 4) scLe.nd rfl (Or.inl rfl) (pe_call AS.G r3 rfl AS.m AS.k AS.b .nil pass0 (pa_cons (pe_call AP.G r5 rfl AP.m AP.k AP.b .nil pass0 (pa_cons (pv 0) (pa_cons (pv 1) (pa_cons (pv 3) pa_nil)))) pa_nil)))
      (pss_one (ps_ret (pe_lc (own := [("one", 5)]) (g := gName 5) (by rfl) scLe.nd (pi_list (pv 4)) (blkOk_by (own := [("one", 5)]) (N := leN) (sc := defScope d_law_leading) (by decide +kernel)) (fun _ _ _ _ _ => pg_name (i := 5) scLe.nd rfl (.inl rfl))
          (fun _ _ _ _ _ => pts_one (pt_cmpR (show OpR _ _ (rEqD K) from op_eqD hr.units) (pe_ix (show IxR _ (rIxT K) from ix_tup) (pe_call AD.G r3 rfl AD.m AD.k AD.b .nil pass0 (pa_cons (pv 0) (pa_cons (pv 1) (pa_cons (pe_call AL.G r1 rfl AL.m AL.k AL.b .nil pass0 (pa_cons (pv 0) (pa_cons (pv 3) (pa_cons (pv 5) pa_nil)))) pa_nil)))) pe_int (fun _ _ => rfl)) (pv 2) (nomark _))) (fun _ _ _ _ _ => pv 5)))), ?_⟩
    have m8 := g.m8
    have few := g.few
    refine ⟨_, rfl, _, rfl, _, rfl, t0, d, W, ds, p, rfl, hW, g, lb, hd, ld, hp, hT, fun H3 l qs x3 T3 n3 hl pk l64 => ?_⟩
    have hW3 := exn_world x3 hW
    have hd3 := exn_tup x3 hd
    have he3 := exn_tup x3 he
    have ptq : ∀ x ∈ qs, PtOk x ∧ 0 ≤ x := fun x hx => ⟨pt_of g lb ((pk.mem x).mp hx).1, ((pk.mem x).mp hx).2⟩
    have q0 : (0 : Rat) ∈ qs := (pk.mem 0).mpr ⟨List.mem_cons_self .., Rat.le_refl⟩
    have ne : qs ≠ [] := fun z => by rw [z] at q0; cases q0
    have smp : ∀ x ∈ samplesV qs, SmOk x ∧ 0 ≤ x := fun x hx => samples_pt hx ptq
    have lsm : (samplesV qs).length < 128 := by
      rw [samples_len ne]
      omega
    refine ⟨l, qs, rfl, hl, ne, l64, fun x hx => (ptq x hx).1, fun H4 r s4 nr hr4 => ?_⟩
    obtain ⟨us, er, hus⟩ := hr4
    have lus := hus.len
    refine ⟨_, rfl, r, rfl, ⟨_, SqL.of er⟩, fun D hD => ?_⟩
    refine lc_list (K := K) (a := r) (xs := us.map V.ref) (fun i M => ∃ vs : List Addr, M D = some (.lst (vs.map V.ref)) ∧ All2 (PairAt K M) vs (((samplesV qs).take i).filter fun x => decide (leadsTo W ds gs p x)) ∧ Same H4 M) ⟨[], upd_same, .nil, same1 hD⟩ ?_ ?_ ?_
    · rintro i M _ ⟨_, _, _, sM⟩
      exact SqL.of (sM _ _ er)
    · rintro i x M hx ⟨vs, eD, hvs, sM⟩
      rw [List.getElem?_map] at hx
      obtain ⟨u, hu1, rfl⟩ := Option.map_eq_some_iff.mp hx
      have il : i < (samplesV qs).length := by
        have := (List.getElem?_eq_some_iff.mp hu1).1
        omega
      have hqi : (samplesV qs)[i]? = some (samplesV qs)[i] := List.getElem?_eq_getElem il
      have pu : PairAt K M u (samplesV qs)[i] := Same.tup sM (hus.all i u _ hu1 hqi)
      obtain ⟨sm, nn⟩ := smp _ (List.getElem_mem il)
      have tk : ((samplesV qs).take (i + 1)).filter (fun x => decide (leadsTo W ds gs p x)) = (((samplesV qs).take i).filter fun x => decide (leadsTo W ds gs p x)) ++ ([(samplesV qs)[i]].filter fun x => decide (leadsTo W ds gs p x)) := by
        rw [List.take_add_one, hqi, List.filter_append]
        rfl
      generalize (samplesV qs)[i] = xq at *
      obtain ⟨R, ro⟩ := at_okq (W := W) (p := p) sm nn
      have s1M := s4.trans sM
      refine ⟨rfl, _, rfl, _, rfl, _, rfl, _, rfl, _, rfl, t0, u, W, p, xq, rfl, hW3.mono s1M, g, pu, fun M1 al m1 nal hal => ?_⟩
      have s1M1 := s1M.trans m1
      refine ⟨t0, d, al, W, ds, atR W p xq, R, 810, rfl, hW3.mono s1M1, g, Same.tup s1M1 hd3, ld, hal.old, ro, fun M2 ud bl ee m2 eud hbl hee => ?_⟩
      have m12 := m1.trans m2
      refine ⟨ud, _, _, _, rfl, rfl, SqT.of eud, at_k (by decide) rfl, _, rfl, .tuple ((stepV W ds (atR W p xq)).map PyData.int), .tuple (gs.map PyData.int), .tup hee (dps_ints _), .tup (Same.tup (s1M.trans m12) he3) (dps_ints _), shaped_tupI _, shaped_tupI _, _, rfl, ?_⟩
      rw [eqv_tupI]
      have eD2 := m12 _ _ eD
      by_cases c : leadsTo W ds gs p xq
      · have c' : stepV W ds (atR W p xq) = gs := c
        rw [decide_eq_true c']
        have kp : KeepL M2 (upd M2 D (.lst (vs.map V.ref ++ [V.ref u]))) := keep_put eD2
        refine ⟨_, rfl, _, eD2, ?_, vs ++ [u], by rw [List.map_append]; exact upd_same, ?_, fun a o ea => ?_⟩
        · rw [List.length_map, hvs.len]
          have h1 := List.length_filter_le (fun x => decide (leadsTo W ds gs p x)) ((samplesV qs).take i)
          rw [List.length_take] at h1
          exact Nat.lt_of_lt_of_le (show _ < 128 by omega) (show 128 ≤ sizeLine by decide)
        · rw [tk, List.filter_cons, if_pos (decide_eq_true c)]
          exact (hvs.mono fun _ _ _ _ z => kp.tup (Same.tup m12 z)).snoc (kp.tup (Same.tup m12 pu))
        · rw [upd_ne (ne_of_none ea hD)]
          exact m12 _ _ (sM _ _ ea)
      · have c' : ¬ stepV W ds (atR W p xq) = gs := c
        rw [decide_eq_false c']
        refine ⟨vs, eD2, ?_, sM.trans m12⟩
        rw [tk, List.filter_cons, if_neg (fun z => c (of_decide_eq_true z)), List.filter_nil, List.append_nil]
        exact hvs.mono fun _ _ _ _ z => Same.tup m12 z
    rintro M ⟨vs, eD, hvs, sM⟩
    rw [List.length_map, lus, List.take_length] at hvs
    have sHM : Same H3 M := s4.trans sM
    have T' := T3.ext sHM
    refine q M D qs (x3.trans (same_ext sHM)) T' (fun xs z => ?_) pk l64 ⟨vs, eD, hvs⟩
    have h2 := x3 _ _ z (fun _ z => nomatch z)
    have h3 := s4 _ _ h2
    rw [hD] at h3
    cases h3
end
end K64

namespace K64
open PySem PySem.Spec PyProof.Rows L2 LamX
/-! ### all rows of truths -/
def rowsV : Nat → List (List Bool)
  | 0 => [[]]
  | n + 1 => (rowsV n).map (· ++ [false]) ++ (rowsV n).map (· ++ [true])
theorem rowsV_len : ∀ n, (rowsV n).length = 2 ^ n
  | 0 => rfl
  | n + 1 => by
    show ((rowsV n).map (· ++ [false]) ++ (rowsV n).map (· ++ [true])).length = _
    rw [List.length_append, List.length_map, List.length_map, rowsV_len n, Nat.pow_succ]
    omega
theorem mem_rows : ∀ {n : Nat} {l : List Bool}, l ∈ rowsV n ↔ l.length = n
  | 0, l => by
    show l ∈ [[]] ↔ _
    rw [List.mem_singleton]
    exact List.length_eq_zero_iff.symm
  | n + 1, l => by
    show l ∈ (rowsV n).map (· ++ [false]) ++ (rowsV n).map (· ++ [true]) ↔ _
    rw [List.mem_append, List.mem_map, List.mem_map]
    constructor
    · rintro (⟨a, ha, rfl⟩ | ⟨a, ha, rfl⟩) <;> rw [List.length_append, mem_rows.mp ha] <;> rfl
    · intro h
      have ne : l ≠ [] := fun z => by rw [z] at h; simp at h
      have e := List.dropLast_concat_getLast ne
      have hm : l.dropLast ∈ rowsV n := mem_rows.mpr (by rw [List.length_dropLast]; omega)
      cases c : l.getLast ne with
      | false =>
        rw [c] at e
        exact .inl ⟨_, hm, e⟩
      | true =>
        rw [c] at e
        exact .inr ⟨_, hm, e⟩
def RowsB (K : PySem.W.Frag) (H : Hp) (l : Addr) (rs : List (List Bool)) : Prop := ∃ as : List Addr, H l = some (.lst (as.map V.ref)) ∧ All2 (fun a (r : List Bool) => SqT K H a (r.map V.bl)) as rs
def spRowsL (K : PySem.W.Frag) : Sp := fun vs H Q _ => ∃ n : Nat, vs = [.int (n : Int)] ∧ n ≤ 8 ∧ ∀ (H' : Hp) (l : Addr), Same H H' → RowsB K H' l (rowsV n) → Q (.ref l) H'
section
variable {P : Program} {w : World} {K : PySem.W.Frag} {mg : Str → Option Value} {base : Heap}
abbrev rwN : List Str := ["many", "found", "k", "row"]
theorem scRws : FnScope rwN ["many"] (defScope d_law_rows) := ⟨rfl, rfl, rfl, by decide +kernel, rfl, by decide +kernel, by decide +kernel⟩
theorem ok_rows {f : Addr} {fd : FuncData} (F : Fun K "_law_rows" "_law_rows" d_law_rows f fd) (hrange : mg "range" = none) : FnOk P w K mg base CX0 1 f fd ["many"] (spRowsL K) := by
  refine F.ok scRws (fun vs H Q E h => ?_) (fun cdv A outer s H vs Q E hr h => ?_)
  · obtain ⟨_, rfl, _⟩ := h
    rfl
  · obtain ⟨n, rfl, n8, q⟩ := h
    refine ⟨_, pss_cons (ps_set (i := 1) scRws.nd rfl (Or.inl rfl) (pe_lst (pa_cons (pe_tup pa_nil) pa_nil)))
      (pss_cons (ps_for PassesOwn.never rfl (pi_range1 (by rfl) hrange (pa_cons (pv 0) pa_nil)) (pg_name (i := 2) scRws.nd rfl (.inl rfl))
        (pss_one (ps_set (i := 1) scRws.nd rfl (Or.inl rfl) (pe_op op_cat
          (pe_lc (own := [("row", 3)]) (g := gName 3) (by rfl) scRws.nd (pi_list (pv 1)) (blkOk_by (own := [("row", 3)]) (N := rwN) (sc := defScope d_law_rows) (by decide +kernel)) (fun _ _ _ _ _ => pg_name (i := 3) scRws.nd rfl (.inl rfl)) (fun _ _ _ _ _ => pts_nil)
            (fun _ _ _ _ _ => pe_op (show OpR _ _ (rCatA K) from op_catA) (pv 3) (pe_tup (pa_cons pe_bl pa_nil))))
          (pe_lc (own := [("row", 3)]) (g := gName 3) (by rfl) scRws.nd (pi_list (pv 1)) (blkOk_by (own := [("row", 3)]) (N := rwN) (sc := defScope d_law_rows) (by decide +kernel)) (fun _ _ _ _ _ => pg_name (i := 3) scRws.nd rfl (.inl rfl)) (fun _ _ _ _ _ => pts_nil)
            (fun _ _ _ _ _ => pe_op (show OpR _ _ (rCatA K) from op_catA) (pv 3) (pe_tup (pa_cons pe_bl pa_nil))))))))
      (pss_one (ps_ret (pv 1)))), ?_⟩
    refine ⟨(by show 0 ≤ sizeLine; decide), fun T0 hT0 => ⟨(by show 1 ≤ sizeLine; decide), fun L0 hL0 => ?_⟩⟩
    have s1 : Same H (upd H T0 (.tup [])) := same1 hT0
    have eT0 : (upd H T0 (.tup []) : Hp) T0 = some (.tup []) := upd_same
    generalize upd H T0 (.tup []) = H1 at *
    have s2 : Same H1 (upd H1 L0 (.lst [.ref T0])) := same1 hL0
    have eL0 : (upd H1 L0 (.lst [.ref T0]) : Hp) L0 = some (.lst ([T0].map V.ref)) := upd_same
    generalize upd H1 L0 (.lst [.ref T0]) = H2 at *
    have s12 := s1.trans s2
    refine ⟨_, rfl, _, rfl, by omega, by omega, ?_⟩
    refine for_range (lo := 0) (n := ((n : Nat) : Int).toNat) (fun i σ N => ∃ (v2 v3 : Option V) (l : Addr), σ = [some (.int (n : Int)), some (.ref l), v2, v3] ∧ RowsB K N l (rowsV i) ∧ Same H N)
      ⟨none, none, L0, rfl, ⟨[T0], eL0, All2.snoc .nil (SqT.of (s2 _ _ eT0))⟩, s12⟩ ?_ ?_
    · rintro i σ N hi ⟨v2, v3, l, rfl, ⟨as, el, ha⟩, sN⟩
      have las : as.length = 2 ^ i := by rw [ha.len, rowsV_len]
      have p8 : 2 ^ i ≤ 256 := Nat.le_trans (Nat.pow_le_pow_right (by decide) (show i ≤ 8 by omega)) (by decide)
      have l8 : ∀ r ∈ rowsV i, r.length ≤ 8 := fun r hr => by rw [mem_rows.mp hr]; omega
      refine ⟨_, rfl, l, rfl, ⟨_, SqL.of el⟩, fun D hD => ?_⟩
      refine lc_list (K := K) (a := l) (xs := as.map V.ref) (fun j M => ∃ us : List Addr, M D = some (.lst (us.map V.ref)) ∧ All2 (fun a (r : List Bool) => SqT K M a (r.map V.bl)) us (((rowsV i).take j).map (· ++ [false])) ∧ Same N M) ⟨[], upd_same, .nil, same1 hD⟩ ?_ ?_ ?_
      · rintro j M _ ⟨_, _, _, sM⟩
        exact SqL.of (sM _ _ el)
      · rintro j x M hx ⟨us, eD, hus, sM⟩
        rw [List.getElem?_map] at hx
        obtain ⟨t, ht, rfl⟩ := Option.map_eq_some_iff.mp hx
        have jl : j < (rowsV i).length := by
          have := (List.getElem?_eq_some_iff.mp ht).1
          have := ha.len
          omega
        have hrow := Same.tup sM (ha.all j t _ ht (List.getElem?_eq_getElem jl))
        have lr := l8 _ (List.getElem_mem jl)
        refine ⟨rfl, _, rfl, (by show 1 ≤ sizeLine; decide), fun T hT => ?_⟩
        have m1 : Same M (upd M T (.tup [.bl false])) := same1 hT
        have eT : (upd M T (.tup [.bl false]) : Hp) T = some (.tup [.bl false]) := upd_same
        generalize upd M T (.tup [.bl false]) = M1 at *
        refine catA_to (Same.tup m1 hrow) (SqT.of eT) (Nat.le_trans (show _ + 1 ≤ 9 by rw [List.length_map]; omega) (by decide)) fun M2 r m2 hr => ?_
        have m12 := m1.trans m2
        have eD2 := m12 _ _ eD
        have kp : KeepL M2 (upd M2 D (.lst (us.map V.ref ++ [V.ref r]))) := keep_put eD2
        refine ⟨_, eD2, ?_, us ++ [r], by rw [List.map_append]; exact upd_same, ?_, fun a o ea => ?_⟩
        · rw [List.length_map, hus.len, List.length_map, List.length_take]
          exact Nat.lt_of_le_of_lt (Nat.min_le_left _ _) (Nat.lt_of_lt_of_le (show j < 257 by rw [rowsV_len] at jl; omega) (by decide))
        · rw [List.take_succ_eq_append_getElem jl, List.map_append]
          refine (hus.mono fun _ _ _ _ z => kp.tup (Same.tup m12 z)).snoc (kp.tup ?_)
          rw [List.map_append]
          exact hr
        · rw [upd_ne (ne_of_none ea hD)]
          exact m12 _ _ (sM _ _ ea)
      rintro N1 ⟨us1, eD1, hus1, sN1⟩
      rw [List.length_map, ha.len, List.take_length] at hus1
      have el1 := sN1 _ _ el
      refine ⟨_, rfl, l, rfl, ⟨_, SqL.of el1⟩, fun D2 hD2 => ?_⟩
      refine lc_list (K := K) (a := l) (xs := as.map V.ref) (fun j M => ∃ us : List Addr, M D2 = some (.lst (us.map V.ref)) ∧ All2 (fun a (r : List Bool) => SqT K M a (r.map V.bl)) us (((rowsV i).take j).map (· ++ [true])) ∧ Same N1 M) ⟨[], upd_same, .nil, same1 hD2⟩ ?_ ?_ ?_
      · rintro j M _ ⟨_, _, _, sM⟩
        exact SqL.of (sM _ _ el1)
      · rintro j x M hx ⟨us, eD, hus, sM⟩
        rw [List.getElem?_map] at hx
        obtain ⟨t, ht, rfl⟩ := Option.map_eq_some_iff.mp hx
        have jl : j < (rowsV i).length := by
          have := (List.getElem?_eq_some_iff.mp ht).1
          have := ha.len
          omega
        have hrow := Same.tup (sN1.trans sM) (ha.all j t _ ht (List.getElem?_eq_getElem jl))
        have lr := l8 _ (List.getElem_mem jl)
        refine ⟨rfl, _, rfl, (by show 1 ≤ sizeLine; decide), fun T hT => ?_⟩
        have m1 : Same M (upd M T (.tup [.bl true])) := same1 hT
        have eT : (upd M T (.tup [.bl true]) : Hp) T = some (.tup [.bl true]) := upd_same
        generalize upd M T (.tup [.bl true]) = M1 at *
        refine catA_to (Same.tup m1 hrow) (SqT.of eT) (Nat.le_trans (show _ + 1 ≤ 9 by rw [List.length_map]; omega) (by decide)) fun M2 r m2 hr => ?_
        have m12 := m1.trans m2
        have eD2 := m12 _ _ eD
        have kp : KeepL M2 (upd M2 D2 (.lst (us.map V.ref ++ [V.ref r]))) := keep_put eD2
        refine ⟨_, eD2, ?_, us ++ [r], by rw [List.map_append]; exact upd_same, ?_, fun a o ea => ?_⟩
        · rw [List.length_map, hus.len, List.length_map, List.length_take]
          exact Nat.lt_of_le_of_lt (Nat.min_le_left _ _) (Nat.lt_of_lt_of_le (show j < 257 by rw [rowsV_len] at jl; omega) (by decide))
        · rw [List.take_succ_eq_append_getElem jl, List.map_append]
          refine (hus.mono fun _ _ _ _ z => kp.tup (Same.tup m12 z)).snoc (kp.tup ?_)
          rw [List.map_append]
          exact hr
        · rw [upd_ne (ne_of_none ea hD2)]
          exact m12 _ _ (sM _ _ ea)
      rintro N2 ⟨us2, eD2, hus2, sN2⟩
      rw [List.length_map, ha.len, List.take_length] at hus2
      have eD12 := sN2 _ _ eD1
      have l1 := hus1.len
      have l2 := hus2.len
      rw [List.length_map, rowsV_len] at l1 l2
      refine ⟨D, D2, _, _, rfl, rfl, eD12, eD2, ?_, fun r hr' => ?_⟩
      · rw [List.length_map, List.length_map]
        exact Nat.le_trans (show us1.length + us2.length ≤ 512 by omega) (by decide)
      rw [← List.map_append]
      have s9 : Same N2 (upd N2 r (.lst ((us1 ++ us2).map V.ref))) := same1 hr'
      refine ⟨_, _, r, rfl, ⟨us1 ++ us2, upd_same, ?_⟩, sN.trans (sN1.trans (sN2.trans s9))⟩
      exact All2.app (hus1.mono fun _ _ _ _ z => Same.tup (sN2.trans s9) z) (hus2.mono fun _ _ _ _ z => Same.tup s9 z)
    · rintro σ N ⟨v2, v3, l, rfl, hl, sN⟩
      rw [Int.toNat_natCast] at hl
      exact ⟨_, rfl, q N l sN hl⟩
end
end K64

namespace K64
open PySem PySem.Spec PyProof.Rows L2 LamX
/-! ### rows of who was first, and mornings: mathematics -/
def twosN (pss : List (List Nat)) : Nat := (pss.filter fun ps => decide (ps.length = 2)).length
theorem twos_cons (ps : List Nat) (pss : List (List Nat)) : twosN (ps :: pss) = twosN pss + if ps.length = 2 then 1 else 0 := by
  unfold twosN
  by_cases c : ps.length = 2
  · rw [List.filter_cons, if_pos (decide_eq_true c), if_pos c]
    rfl
  · rw [List.filter_cons, if_neg (fun z => c (of_decide_eq_true z)), if_neg c]
    rfl
def rowOf : List (List Nat) → List Bool → List Bool
  | ps :: pss, l :: ls => if ps.length = 2 then l :: rowOf pss ls else rowOf pss ls
  | _, _ => []
theorem rowOf_len : ∀ {pss : List (List Nat)} {ls : List Bool}, pss.length = ls.length → (rowOf pss ls).length = twosN pss
  | [], [], _ => rfl
  | ps :: pss, l :: ls, h => by
    have ih := rowOf_len (pss := pss) (ls := ls) (Nat.succ.inj h)
    rw [twos_cons]
    show (if ps.length = 2 then l :: rowOf pss ls else rowOf pss ls).length = _
    split
    · rw [List.length_cons, ih]
    · rw [ih]
      rfl
theorem rowOf_at : ∀ {pss : List (List Nat)} {ls : List Bool}, pss.length = ls.length → ∀ {i : Nat} {ps : List Nat}, pss[i]? = some ps → ps.length = 2 → (rowOf pss ls)[twosN (pss.take i)]? = ls[i]?
  | [], [], _, i, ps, h, _ => by simp at h
  | qs :: pss, l :: ls, hl, 0, ps, h, h2 => by
    obtain rfl : qs = ps := by simpa using h
    show (if qs.length = 2 then l :: rowOf pss ls else rowOf pss ls)[twosN []]? = some l
    rw [if_pos h2]
    rfl
  | qs :: pss, l :: ls, hl, i + 1, ps, h, h2 => by
    have ih := rowOf_at (pss := pss) (ls := ls) (Nat.succ.inj hl) (i := i) (ps := ps) (by simpa using h) h2
    rw [List.take_succ_cons, twos_cons]
    show (if qs.length = 2 then l :: rowOf pss ls else rowOf pss ls)[_]? = ls[i]?
    split
    · rw [List.getElem?_cons_succ]
      exact ih
    · rw [Nat.add_zero]
      exact ih
theorem from_mem2 {W : WebV} {p k : Nat} (h : k ∈ fromB W.beds p) : k < W.beds.length ∧ sB W k = p := by
  unfold fromB at h
  obtain ⟨h1, h2⟩ := List.mem_filter.mp h
  have hk := List.mem_range.mp h1
  refine ⟨hk, ?_⟩
  rw [List.getElem?_eq_getElem hk] at h2
  unfold sB
  rw [List.getElem?_eq_getElem hk]
  simpa using h2
theorem lead_at {W : WebV} {ds : List Int} {i : Nat} (hi : i < W.many) : (leadsV (gapsV W ds))[i]? = some (decide (0 ≤ gap1 ds (fromB W.beds i))) := by
  unfold leadsV gapsV
  rw [List.getElem?_map, List.getElem?_map, List.getElem?_range hi]
  rfl
theorem from_len {W : WebV} (g : GoodWeb W) {i : Nat} {ps : List Nat} (h : W.parts[i]? = some ps) : (fromB W.beds i).length = ps.length := by
  rw [fromB_is g i, List.length_range', (g.part i ps h).len]
theorem leads_ext {W : WebV} (g : GoodWeb W) {ds es : List Int} (h : ∀ (i : Nat) (ps : List Nat), W.parts[i]? = some ps → ps.length = 2 → (leadsV (gapsV W ds))[i]? = (leadsV (gapsV W es))[i]?) : leadsV (gapsV W ds) = leadsV (gapsV W es) := by
  refine List.ext_getElem? fun i => ?_
  by_cases hi : i < W.many
  · have ip : i < W.parts.length := by rw [g.plen]; exact hi
    have e := List.getElem?_eq_getElem ip
    by_cases c : W.parts[i].length = 2
    · exact h i _ e c
    · have l := from_len g e
      rw [lead_at hi, lead_at hi]
      have z : ∀ d : List Int, gap1 d (fromB W.beds i) = 0 := fun d => by
        unfold gap1
        match hf : fromB W.beds i with
        | [] => rfl
        | [_] => rfl
        | [_, _] =>
          rw [hf] at l
          exact absurd l.symm c
        | _ :: _ :: _ :: _ => rfl
      rw [z, z]
  · rw [List.getElem?_eq_none (by rw [leads_len, gaps_len]; omega), List.getElem?_eq_none (by rw [leads_len, gaps_len]; omega)]
/-- depths with which a row tells who is first -/
theorem ds_of {W : WebV} (g : GoodWeb W) {row : List Bool} (hl : row.length = twosN W.parts) : ∃ ds : List Int, ds.length = W.beds.length ∧ ∀ (i : Nat) (ps : List Nat), W.parts[i]? = some ps → ps.length = 2 → row[twosN (W.parts.take i)]? = some (((leadsV (gapsV W ds))[i]?).getD true) := by
  let ld : Nat → Bool := fun i => (row[twosN (W.parts.take i)]?).getD true
  refine ⟨(List.range W.beds.length).map fun k => if ld (sB W k) = false ∧ (fromB W.beds (sB W k))[1]? = some k then 1 else 0, by rw [List.length_map, List.length_range], fun i ps h h2 => ?_⟩
  have hi : i < W.many := by
    have := (List.getElem?_eq_some_iff.mp h).1
    have := g.plen
    omega
  have l := from_len g h
  have tl : twosN (W.parts.take i) < row.length := by
    rw [hl]
    have ip := (List.getElem?_eq_some_iff.mp h).1
    have e2 : W.parts = W.parts.take i ++ ps :: W.parts.drop (i + 1) := by
      have := List.getElem?_eq_some_iff.mp h
      obtain ⟨h1, rfl⟩ := this
      rw [List.getElem_cons_drop, List.take_append_drop]
    have e3 : twosN W.parts = twosN (W.parts.take i) + twosN (ps :: W.parts.drop (i + 1)) := by
      conv => lhs; rw [e2]
      unfold twosN
      rw [List.filter_append, List.length_append]
    rw [e3, twos_cons, if_pos h2]
    omega
  have er : row[twosN (W.parts.take i)]? = some (ld i) := by
    show _ = some ((row[twosN (W.parts.take i)]?).getD true)
    rw [List.getElem?_eq_getElem tl]
    rfl
  rw [er, lead_at hi]
  show some (ld i) = some (decide _)
  congr 1
  have fi := fromB_is g i
  rw [h2] at l
  match hf : fromB W.beds i, l with
  | [x, y], _ =>
    have hx : x ∈ fromB W.beds i := by rw [hf]; simp
    have hy : y ∈ fromB W.beds i := by rw [hf]; simp
    obtain ⟨kx, ex⟩ := from_mem2 hx
    obtain ⟨ky, ey⟩ := from_mem2 hy
    have xy : x ≠ y := by
      have nd : (fromB W.beds i).Nodup := by rw [fi]; exact List.nodup_range'
      rw [hf] at nd
      simpa using nd
    generalize hds : ((List.range W.beds.length).map fun k => if ld (sB W k) = false ∧ (fromB W.beds (sB W k))[1]? = some k then (1 : Int) else 0) = ds
    have dx : (ds[x]?).getD 0 = 0 := by
      rw [← hds, List.getElem?_map, List.getElem?_range kx]
      show (if ld (sB W x) = false ∧ (fromB W.beds (sB W x))[1]? = some x then (1 : Int) else 0) = 0
      rw [if_neg]
      rintro ⟨_, z⟩
      rw [ex, hf] at z
      exact xy (Option.some.inj z).symm
    have dy : (ds[y]?).getD 0 = if ld i = false then 1 else 0 := by
      rw [← hds, List.getElem?_map, List.getElem?_range ky]
      show (if ld (sB W y) = false ∧ (fromB W.beds (sB W y))[1]? = some y then (1 : Int) else 0) = _
      rw [ey, hf]
      simp
    show ld i = decide (0 ≤ (ds[x]?).getD 0 - (ds[y]?).getD 0)
    rw [dx, dy]
    cases ld i <;> decide
  | [], h => simp at h
  | [_], h => simp at h
  | _ :: _ :: _ :: _, h => simp at h
theorem fac_ext {W : WebV} {ds es : List Int} (h : leadsV (gapsV W ds) = leadsV (gapsV W es)) (p : Nat) : facV W ds p = facV W es p := by
  unfold facV dayV
  rw [h]
/-- the morning ahead, by what beds bear of one -/
def elderV (W : WebV) (gs : List Int) (fs : List Rat) (a : Rat) (i : Nat) : List Int := (List.range i).map fun k => (gs[k]?).getD 0 - mvV (bedV W k) (gQ fs k * a)
theorem elder_len (W : WebV) (gs : List Int) (fs : List Rat) (a : Rat) (i : Nat) : (elderV W gs fs a i).length = i := (List.length_map ..).trans List.length_range
theorem elder_iff {W : WebV} (g : GoodWeb W) {gs e : List Int} (lg : gs.length = W.beds.length) {p : Nat} {a : Rat} (le : e.length = W.beds.length) : leadsTo W e gs p a ↔ e = elderV W gs (facV W e p) a W.beds.length := by
  rw [leads_iff g le lg]
  unfold askV
  constructor
  · intro h
    refine List.ext_getElem? fun k => ?_
    by_cases hk : k < W.beds.length
    · have h1 := h _ (List.mem_map_of_mem (List.mem_range.mpr hk))
      have h1 : mvV (bedV W k) (a * gQ (facV W e p) k) = (gs[k]?).getD 0 - (e[k]?).getD 0 := h1
      unfold elderV
      rw [List.getElem?_map, List.getElem?_range hk, List.getElem?_eq_getElem (show k < e.length by omega)]
      rw [List.getElem?_eq_getElem (show k < e.length by omega), Rat.mul_comm] at h1
      show some e[k] = some ((gs[k]?).getD 0 - mvV (bedV W k) (gQ (facV W e p) k * a))
      rw [h1]
      congr 1
      show e[k] = _ - (_ - e[k])
      omega
    · rw [List.getElem?_eq_none (by omega), List.getElem?_eq_none (by rw [elder_len]; omega)]
  · intro h x hx
    obtain ⟨k, hk, rfl⟩ := List.mem_map.mp hx
    have hk := List.mem_range.mp hk
    have h1 := congrArg (fun l : List Int => (l[k]?).getD 0) h
    have h1 : (e[k]?).getD 0 = ((elderV W gs (facV W e p) a W.beds.length)[k]?).getD 0 := h1
    unfold elderV at h1
    rw [List.getElem?_map, List.getElem?_range hk] at h1
    have h1 : (e[k]?).getD 0 = (gs[k]?).getD 0 - mvV (bedV W k) (gQ (facV W e p) k * a) := h1
    show mvV (bedV W k) (a * gQ (facV W e p) k) = (gs[k]?).getD 0 - (e[k]?).getD 0
    rw [h1, Rat.mul_comm]
    omega
def GoodE (W : WebV) (gs : List Int) (p : Nat) (e : List Int) : Prop := e.length = W.beds.length ∧ ∃ s, amtV (askV W e gs p) allS = some s
theorem good_of {W : WebV} (g : GoodWeb W) {gs e : List Int} (lg : gs.length = W.beds.length) {p : Nat} {a : Rat} (a0 : 0 ≤ a) (le : e.length = W.beds.length) (h : leadsTo W e gs p a) : GoodE W gs p e := by
  obtain ⟨s, e1, _⟩ := (told_iff g le lg a0).mpr h
  exact ⟨le, s, e1⟩
theorem good_has {W : WebV} (g : GoodWeb W) {gs e : List Int} (lg : gs.length = W.beds.length) {p : Nat} (h : GoodE W gs p e) {qs : List Rat} (pk : PtsOk (marksE W.beds (facV W e p) (W.beds.zip (facV W e p)).length) qs) (nn : ∀ q ∈ samplesV qs, 0 ≤ q) : ∃ a ∈ samplesV qs, leadsTo W e gs p a := by
  obtain ⟨le, st, est⟩ := h
  obtain ⟨h1, h2, h3⟩ := told_ends g pk est
  obtain ⟨q, hq, hin⟩ := sample_in pk.up h1 h2 h3
  exact ⟨q, hq, (told_iff g le lg (nn q hq)).mp ⟨st, est, hin⟩⟩
/-- the row of a morning, and the depths of that row bear alike -/
theorem row_good {W : WebV} (g : GoodWeb W) (e : List Int) : rowOf W.parts (leadsV (gapsV W e)) ∈ rowsV (twosN W.parts) := mem_rows.mpr (rowOf_len (by rw [leads_len, gaps_len, g.plen]))
theorem row_same {W : WebV} (g : GoodWeb W) {ds e : List Int} (h : ∀ (i : Nat) (ps : List Nat), W.parts[i]? = some ps → ps.length = 2 → (rowOf W.parts (leadsV (gapsV W e)))[twosN (W.parts.take i)]? = some (((leadsV (gapsV W ds))[i]?).getD true)) : leadsV (gapsV W ds) = leadsV (gapsV W e) := by
  refine leads_ext g fun i ps hp h2 => ?_
  have hi : i < W.many := by
    have := (List.getElem?_eq_some_iff.mp hp).1
    have := g.plen
    omega
  have h1 := h i ps hp h2
  rw [rowOf_at (by rw [leads_len, gaps_len, g.plen]) hp h2] at h1
  rw [h1, lead_at hi]
  rfl
end K64

namespace K64
open PySem PySem.Spec PyProof.Rows L2 LamX
/-! ### what beds bear by a row of who was first -/
def spBears (K : PySem.W.Frag) : Sp := fun vs H Q _ => ∃ (t r : Addr) (W : WebV) (ds : List Int) (row : List Bool) (p : Nat), vs = [.ref t, .int (p : Int), .ref r] ∧ WorldAt K H t W ∧ GoodWeb W ∧ ds.length = W.beds.length ∧ SqT K H r (row.map V.bl) ∧
  (∀ (i : Nat) (ps : List Nat), W.parts[i]? = some ps → ps.length = 2 → row[twosN (W.parts.take i)]? = some (((leadsV (gapsV W ds))[i]?).getD true)) ∧
  ∀ (H' : Hp) (l : Addr), Same H H' → PairsT K H' l (facV W ds p) → Q (.ref l) H'
section
variable {P : Program} {w : World} {K : PySem.W.Frag} {mg : Str → Option Value} {base : Heap}
abbrev brN : List Str := ["spec", "spot", "row", "waters", "bears", "here", "beds", "ahead", "rank", "k", "brook", "one"]
theorem scBr : FnScope brN ["spec", "spot", "row"] (defScope d_law_bears) := ⟨rfl, rfl, rfl, by decide +kernel, rfl, by decide +kernel, by decide +kernel⟩
theorem ok_bears {f f1 f3 f4 f5 C : Addr} {fd fd1 fd3 fd4 fd5 : FuncData} (F : Fun K "_law_bears" "_law_bears" d_law_bears f fd) (Y : TxtW mg C) (hrange : mg "range" = none) (hsum : mg "sum" = none)
    (A1 : At P w K mg base CX0 1 "_law_at" ["spec", "spot", "amount"] (spAtL K) f1 fd1)
    (A3 : At P w K mg base CX0 1 "_law_low" ["top", "bottom"] spLowQ f3 fd3) (A4 : At P w K mg base CX0 2 "_law_plus" ["one", "other"] (spTwoP K fun p q => p + q) f4 fd4) (A5 : At P w K mg base CX0 2 "_law_by" ["one", "other"] (spTwoP K fun p q => p * q) f5 fd5) :
    FnOk P w K mg base CX0 3 f fd ["spec", "spot", "row"] (spBears K) := by
  refine F.ok scBr (fun vs H Q E h => ?_) (fun cdv A outer s H vs Q E hr h => ?_)
  · obtain ⟨_, _, _, _, _, _, rfl, _⟩ := h
    rfl
  · obtain ⟨t0, rw_, W, ds, rowv, p, rfl, ⟨rl, sl, h0, ⟨ts, hts, hA⟩, ⟨us, hus, hU⟩⟩, g, ld, hrw, hrow, q⟩ := h
    have r1 : Room 1 _ := hr.mono (by decide)
    refine ⟨_, pss_cons (ps_set (i := 3) scBr.nd rfl (Or.inl rfl) (pe_call A1.G r1 rfl A1.m A1.k A1.b .nil pass0 (pa_cons (pv 0) (pa_cons (pv 1) (pa_cons (pe_tup (pa_cons pe_int (pa_cons pe_int pa_nil))) pa_nil)))))
      (pss_cons (ps_set (i := 4) scBr.nd rfl (Or.inl rfl) (pe_op op_rep (pe_lst (pa_cons (pe_tup (pa_cons pe_int (pa_cons pe_int pa_nil))) pa_nil)) (pe_callB call_len_seq (by rfl) Y.len PySem.boot_len (pa_cons (pe_ix ix_tup (pv 0) pe_int (fun _ _ => rfl)) pa_nil))))
      (pss_cons (ps_for PassesOwn.never rfl (pi_range1 (by rfl) hrange (pa_cons (pe_ix ix_tup (pv 0) pe_int (fun _ _ => rfl)) pa_nil)) (pg_name (i := 5) scBr.nd rfl (.inr rfl))
        (pss_cons (ps_setLc (i := 6) (own := [("k", 9), ("brook", 10)]) (g := gTup K 2 (gCons (gName 9) (gCons (gName 10) gNil))) (by rfl) scBr.nd rfl rfl (sw_true rfl rfl rfl (by decide +kernel)) (pi_enum (by rfl) Y.enumerate (pa_cons (pe_ix ix_tup (pv 0) pe_int (fun _ _ => rfl)) pa_nil)) (blkOk_by (own := [("k", 9), ("brook", 10)]) (N := brN) (sc := defScope d_law_bears) (by decide +kernel))
          (fun _ _ _ _ _ => pg_tup (by rfl) (pgs_cons (pg_name (i := 9) scBr.nd rfl (.inl rfl)) (pgs_cons (pg_name (i := 10) scBr.nd rfl (.inl rfl)) pgs_nil)))
          (fun _ _ _ _ _ => pts_one (pt_cmpR op_eq (pe_ix (show IxR _ (rIxT K) from ix_tup) (pv 10) pe_int (fun _ _ => rfl)) (pv 5) (nomark _))) (fun _ _ _ _ _ => pv 9))
        (pss_cons (ps_set (i := 7) scBr.nd rfl (Or.inl rfl) (pe_callB call_len_seq (by rfl) Y.len PySem.boot_len (pa_cons
            (pe_lc (own := [("one", 11)]) (g := gName 11) (by rfl) scBr.nd (pi_list (pe_slice sl_list (pe_ix ix_tup (pv 0) pe_int (fun _ _ => rfl)) po_none (po_some (pv 5)))) (blkOk_by (own := [("one", 11)]) (N := brN) (sc := defScope d_law_bears) (by decide +kernel)) (fun _ _ _ _ _ => pg_name (i := 11) scBr.nd rfl (.inl rfl))
              (fun _ _ _ _ _ => pts_one (pt_cmpR op_eq (pe_callB (show CallR _ _ (fun xs H Q => ∃ (p : Addr) (ys : List V), xs = [V.ref p] ∧ (SqL K H p ys ∨ SqT K H p ys) ∧ Q (.int ys.length) H) from call_len_seq) (by rfl) Y.len PySem.boot_len (pa_cons (pv 11) pa_nil)) pe_int (nomark _))) (fun _ _ _ _ _ => pv 11)) pa_nil)))
        (C8.pss_cut (ps_if (PW.pt (pw_and (pt_cmpR op_eq (pe_callB call_len_seq (by rfl) Y.len PySem.boot_len (pa_cons (pv 6) pa_nil)) pe_int (nomark _)) (pw_and1 (pt_not (pt_val (pe_ix ix_tup (pv 2) (pv 7) (fun _ _ => rfl)))))))
            (pss_one (ps_set (i := 6) scBr.nd rfl (Or.inl rfl) (pe_revL (pv 6)))) pss_nil)
        (pss_one (ps_for PassesOwn.never rfl (pi_enum (by rfl) Y.enumerate (pa_cons (pv 6) pa_nil)) (pg_tup (by rfl) (pgs_cons (pg_name (i := 8) scBr.nd rfl (.inl rfl)) (pgs_cons (pg_name (i := 9) scBr.nd rfl (.inl rfl)) pgs_nil)))
          (pss_cons (ps_asg (pe_call A5.G hr rfl A5.m A5.k A5.b .nil pass0 (pa_cons (pe_ix ix_list (pv 3) (pv 5) (fun _ _ => rfl)) (pa_cons (pe_call A3.G r1 rfl A3.m A3.k A3.b .nil pass0 (pa_cons (pe_ix ix_tup (pe_ix ix_list (pe_ix ix_tup (pv 0) pe_int (fun _ _ => rfl)) (pv 5) (fun _ _ => rfl)) (pv 8) (fun _ _ => rfl))
              (pa_cons (pe_callB (cr_sumT rfl) (by rfl) hsum (by decide +kernel) (pa_cons (pe_ix ix_list (pe_ix ix_tup (pv 0) pe_int (fun _ _ => rfl)) (pv 5) (fun _ _ => rfl)) pa_nil)) pa_nil))) pa_nil))) (pg_sub (pv 4) (pv 9) set_list))
          (pss_one (ps_asg (pe_call A4.G hr rfl A4.m A4.k A4.b .nil pass0 (pa_cons (pe_ix ix_list (pv 3) (pe_ix ix_tup (pe_ix ix_list (pe_ix ix_tup (pv 0) pe_int (fun _ _ => rfl)) (pv 9) (fun _ _ => rfl)) pe_int (fun _ _ => rfl)) (fun _ _ => rfl)) (pa_cons (pe_ix ix_list (pv 4) (pv 9) (fun _ _ => rfl)) pa_nil)))
              (pg_sub (pv 3) (pe_ix ix_tup (pe_ix ix_list (pe_ix ix_tup (pv 0) pe_int (fun _ _ => rfl)) (pv 9) (fun _ _ => rfl)) pe_int (fun _ _ => rfl)) set_list))))))))))
      (pss_one (ps_ret (pv 4))))), ?_⟩
    have few := g.few
    have m8 := g.m8
    have lts : ts.length = W.beds.length := hA.len
    have lus : us.length = W.many := by
      have := hU.len
      have := g.plen
      omega
    have ro : RainOk W 1 1 (atR W p 1) := at_ok p
    have fl := flow_is g (leadsV (gapsV W ds)) (atR W p 1)
    refine ⟨_, rfl, _, rfl, (by show 2 ≤ sizeLine; decide), fun T2 hT2 => ?_⟩
    have sT : Same H (upd H T2 (.tup [.int 1, .int 1])) := same1 hT2
    have eT2 : (upd H T2 (.tup [.int 1, .int 1]) : Hp) T2 = some (.tup (prV 1)) := upd_same
    generalize upd H T2 (.tup [.int 1, .int 1]) = HT0 at *
    refine ⟨t0, T2, W, p, 1, rfl, ⟨rl, sl, Same.tup sT h0, ⟨ts, sT.seq hts, hA.mono fun _ _ _ _ r => r.mono sT⟩, ⟨us, sT.seq hus, hU.mono fun _ _ _ _ r => Same.tup sT r⟩⟩, g, SqT.of eT2, fun H0 wl sA nwl0 hwl => ?_⟩
    have s0 : Same H H0 := sT.trans sA
    have hwlH : H wl = none := by
      cases c : H wl with
      | none => rfl
      | some o =>
        have := sT _ _ c
        rw [nwl0] at this
        cases this
    obtain ⟨fs, eW, hF⟩ := hwl
    refine ⟨(by show 2 ≤ sizeLine; decide), fun z hz => ?_⟩
    have s1 : Same H0 (upd H0 z (.tup [.int 0, .int 1])) := same1 hz
    have ez : (upd H0 z (.tup [.int 0, .int 1]) : Hp) z = some (.tup (prV 0)) := upd_same
    generalize upd H0 z (.tup [.int 0, .int 1]) = H1 at *
    refine ⟨(by show 1 ≤ sizeLine; decide), fun y hy => ?_⟩
    have s2 : Same H1 (upd H1 y (.lst [.ref z])) := same1 hy
    have ey : (upd H1 y (.lst [.ref z]) : Hp) y = some (.lst [.ref z]) := upd_same
    generalize upd H1 y (.lst [.ref z]) = H2 at *
    have s02 := s0.trans (s1.trans s2)
    refine ⟨_, rfl, t0, _, _, _, rfl, rfl, Same.tup s02 h0, at_k (by decide) rfl, rl, _, rfl, .inl (s02.seq hts), y, _, _, rfl, rfl, ey, by omega, by rw [List.length_map]; omega, ?_, fun bl hbl => ?_⟩
    · rw [List.length_map, Int.toNat_natCast]
      exact Nat.le_trans (show 1 * ts.length ≤ 12 by omega) (show 12 ≤ sizeLine by decide)
    have rep : (List.replicate ((((ts.map V.ref).length : Nat) : Int)).toNat [V.ref z]).flatten = (List.replicate W.beds.length z).map V.ref := by
      rw [Int.toNat_natCast, List.length_map, lts, List.map_replicate]
      generalize W.beds.length = n
      induction n with
      | zero => rfl
      | succ n ih => rw [List.replicate_succ, List.flatten_cons, ih, List.replicate_succ]; rfl
    rw [rep]
    have s3 : Same H2 (upd H2 bl (.lst ((List.replicate W.beds.length z).map V.ref))) := same1 hbl
    have eBl : (upd H2 bl (.lst ((List.replicate W.beds.length z).map V.ref)) : Hp) bl = some (.lst ((List.replicate W.beds.length z).map V.ref)) := upd_same
    generalize upd H2 bl (.lst ((List.replicate W.beds.length z).map V.ref)) = H3 at *
    have s13 := (s1.trans s2).trans s3
    have s03 := s0.trans s13
    have eW3 := s13 _ _ eW
    have nwb : wl ≠ bl := fun c => by
      have := s2 _ _ (s1 _ _ eW)
      rw [c, hbl] at this
      cases this
    have hbl0 : H bl = none := by
      cases c : H bl with
      | none => rfl
      | some o =>
        have := s02 _ _ c
        rw [hbl] at this
        cases this
    have wet0 : Wet W (atR W p 1) (flowV W (leadsV (gapsV W ds)) (atR W p 1) W.many).2 (fun k => sB W k < 0) (atR W p 1) (List.replicate W.beds.length 0) := by
      have z0 : ∀ k, gQ (List.replicate W.beds.length 0) k = 0 := fun k => by
        unfold gQ
        rw [List.getElem?_replicate]
        split <;> rfl
      refine ⟨ro.len, List.length_replicate, fun k _ c => absurd c (Nat.not_lt_zero _), fun k _ _ => z0 k, fun q _ => ?_⟩
      have : sumN W.beds.length (fun k => if eB W k = q then gQ (List.replicate W.beds.length 0) k else 0) = 0 := by
        have := sumN_more (m := 0) (n := W.beds.length) (f := fun k => if eB W k = q then gQ (List.replicate W.beds.length 0) k else 0) (Nat.zero_le _) fun k _ _ => by
          rw [z0]
          split <;> rfl
        rw [this]
        rfl
      rw [this, Rat.add_zero]
    refine ⟨_, rfl, t0, _, _, _, rfl, rfl, Same.tup s03 h0, at_k (by decide) rfl, _, rfl, by omega, by omega, ?_⟩
    refine for_range (lo := 0) (n := W.many) (fun i σ N => ∃ (v5 v6 v7 v8 v9 : Option V) (Wt Bs : List Rat), σ = [some (.ref t0), some (.int (p : Int)), some (.ref rw_), some (.ref wl), some (.ref bl), v5, v6, v7, v8, v9, none, none] ∧
        Wet W (atR W p 1) (flowV W (leadsV (gapsV W ds)) (atR W p 1) W.many).2 (fun k => sB W k < i) Wt Bs ∧ PairsT K N wl Wt ∧ PairsT K N bl Bs ∧ Same H N)
      ⟨none, none, none, none, none, atR W p 1, _, rfl, wet0, ⟨fs, eW3, hF.mono fun _ _ _ _ r => Same.tup s13 r⟩, ⟨_, eBl, by rw [List.length_replicate, List.length_replicate], fun i a b ha hb => ?_⟩, s03⟩ ?_ ?_
    · have ia : i < W.beds.length := by
        have := (List.getElem?_eq_some_iff.mp ha).1
        rw [List.length_replicate] at this
        exact this
      rw [List.getElem?_replicate, if_pos ia] at ha hb
      rw [← Option.some.inj ha, ← Option.some.inj hb]
      exact SqT.of ((s2.trans s3) _ _ ez)
    · rintro i σ N hi ⟨v5, v6, v7, v8, v9, Wt, Bs, rfl, wet, pW, pB, sN⟩
      have iu : i < us.length := by omega
      have ip : i < W.parts.length := by rw [g.plen]; exact hi
      have eip : W.parts[i]? = some W.parts[i] := List.getElem?_eq_getElem ip
      -- the beds of the place
      refine ⟨_, rfl, t0, _, _, _, rfl, rfl, Same.tup sN h0, at_k (by decide) rfl, rl, _, rfl, sN.seq hts, fun D hD => ?_⟩
      refine lc_it (walk_enum (K := K) (a := rl) (xs := ts.map V.ref)) (fun j M => M D = some (.lst (((List.range j).filter fun k => decide ((W.beds[k]?).map Bed.s = some i)).map natV)) ∧ Same N M) ⟨upd_same, same1 hD⟩ ?_ ?_ ?_
      · rintro j M _ ⟨_, sM⟩
        exact (sN.trans sM).seq hts
      · rintro j x M M' hj ⟨eD, sM⟩ ⟨T, x1, x2, rfl, hT, rfl, e1, e2⟩
        obtain rfl := Option.some.inj e1
        have e2 : (ts.map V.ref)[j]? = some x2 := e2
        rw [List.getElem?_map] at e2
        obtain ⟨t, ht, rfl⟩ := Option.map_eq_some_iff.mp e2
        have jl : j < W.beds.length := by
          have := (List.getElem?_eq_some_iff.mp ht).1
          omega
        have hbj : W.beds[j]? = some W.beds[j] := List.getElem?_eq_getElem jl
        have s4 : Same M (upd M T (.tup [.int (j : Nat), .ref t])) := same1 hT
        refine ⟨T, _, rfl, SqT.of upd_same, rfl, _, _, rfl, _, _, rfl, rfl, rfl, ?_⟩
        generalize upd M T (.tup [.int (j : Nat), .ref t]) = M2 at *
        obtain ⟨_, _, q1, _, _⟩ := RowAt.mono (hA.all j t _ ht hbj) (sN.trans (sM.trans s4))
        refine ⟨_, rfl, t, _, _, _, rfl, rfl, q1, at_k (by decide) rfl, _, rfl, rfl, _, rfl, ?_⟩
        have eD2 := s4 _ _ eD
        have sz : (((List.range j).filter fun k => decide ((W.beds[k]?).map Bed.s = some i)).map natV).length < sizeLine := by
          rw [List.length_map]
          refine Nat.lt_of_le_of_lt (List.length_filter_le _ _) ?_
          rw [List.length_range]
          exact Nat.lt_of_lt_of_le (show j < 12 by omega) (show 12 ≤ sizeLine by decide)
        refine ite2 (fun h => ?_) (fun h => ?_)
        · have h : (W.beds[j].s : Int) = 0 + (i : Int) := V.int.inj (of_decide_eq_true h)
          refine ⟨_, rfl, _, eD2, sz, ?_, fun a o ea => ?_⟩
          · rw [List.range_succ, List.filter_append, List.map_append, upd_same]
            have : (([j] : List Nat).filter fun k => decide ((W.beds[k]?).map Bed.s = some i)) = [j] := by
              rw [List.filter_cons, if_pos (by rw [hbj]; simp; omega)]
              rfl
            rw [this]
            rfl
          · rw [upd_ne (ne_of_none ea hD)]
            exact s4 _ _ (sM _ _ ea)
        · have h : ¬ (W.beds[j].s : Int) = 0 + (i : Int) := fun z => h (decide_eq_true (by rw [z]))
          refine ⟨?_, sM.trans s4⟩
          rw [List.range_succ, List.filter_append]
          have : (([j] : List Nat).filter fun k => decide ((W.beds[k]?).map Bed.s = some i)) = [] := by
            rw [List.filter_cons, if_neg (by rw [hbj]; simp; omega)]
            rfl
          rw [this, List.append_nil]
          exact eD2
      rintro N1 ⟨eD, sN1⟩
      have efb : ((List.range (ts.map V.ref).length).filter fun k => decide ((W.beds[k]?).map Bed.s = some i)) = fromB W.beds i := by
        rw [List.length_map, lts]
        rfl
      rw [efb] at eD
      have sH1 := sN.trans sN1
      -- how many places with two are ahead
      refine ⟨_, rfl, t0, _, _, _, rfl, rfl, Same.tup sH1 h0, at_k (by decide) rfl, _, rfl, _, rfl, sl, _, rfl, sH1.seq hus, fun c hc => ?_⟩
      have cutp : cutV (us.map V.ref) none (some (0 + (i : Int))) = (us.take i).map V.ref := by
        unfold cutV
        rw [Int.zero_add, HT.sIx_nat, HT.sIx_none, List.drop_zero, Nat.sub_zero, List.length_map, Nat.min_eq_left (by omega), List.map_take]
      rw [cutp]
      have s5 : Same N1 (upd N1 c (.lst ((us.take i).map V.ref))) := same1 hc
      have ec : (upd N1 c (.lst ((us.take i).map V.ref)) : Hp) c = some (.lst ((us.take i).map V.ref)) := upd_same
      generalize upd N1 c (.lst ((us.take i).map V.ref)) = N2 at *
      have gp := g.part i _ eip
      have lc := List.length_take (i := i) (l := us)
      refine ⟨c, rfl, ⟨_, SqL.of ec⟩, fun D2 hD2 => ?_⟩
      refine lc_list (K := K) (a := c) (xs := (us.take i).map V.ref) (fun j M => ∃ vs : List V, M D2 = some (.lst vs) ∧ vs.length = twosN (W.parts.take j) ∧ Same N2 M) ⟨[], upd_same, rfl, same1 hD2⟩ ?_ ?_ ?_
      · rintro j M _ ⟨_, _, _, sM⟩
        exact SqL.of (sM _ _ ec)
      · rintro j x M hx ⟨vs, eD2, lv, sM⟩
        rw [List.getElem?_map] at hx
        obtain ⟨u, hu, rfl⟩ := Option.map_eq_some_iff.mp hx
        have jl : j < (us.take i).length := (List.getElem?_eq_some_iff.mp hu).1
        have ji : j < i := by omega
        have jp : j < W.parts.length := by omega
        have hu' : us[j]? = some u := by
          rw [List.getElem?_take, if_pos ji] at hu
          exact hu
        have hP : PartsAt K M u W.parts[j] := Same.tup (sH1.trans (s5.trans sM)) (hU.all j u _ hu' (List.getElem?_eq_getElem jp))
        have tk : W.parts.take (j + 1) = W.parts.take j ++ [W.parts[j]] := List.take_succ_eq_append_getElem jp
        generalize W.parts[j] = pj at *
        have tw : twosN (W.parts.take (j + 1)) = twosN (W.parts.take j) + if pj.length = 2 then 1 else 0 := by
          unfold twosN
          rw [tk, List.filter_append, List.length_append]
          congr 1
          by_cases c : pj.length = 2
          · rw [if_pos c, List.filter_cons, if_pos (decide_eq_true c)]
            rfl
          · rw [if_neg c, List.filter_cons, if_neg (fun z => c (of_decide_eq_true z))]
            rfl
        refine ⟨rfl, _, rfl, u, _, rfl, .inr hP, rfl, _, rfl, ?_⟩
        refine ite2 (fun h => ?_) (fun h => ?_)
        · have h : (((pj.map natV).length : Nat) : Int) = 2 := V.int.inj (of_decide_eq_true h)
          rw [List.length_map] at h
          refine ⟨_, rfl, _, eD2, ?_, vs ++ [.ref u], upd_same, ?_, fun a o ea => ?_⟩
          · have := List.length_filter_le (fun ps : List Nat => decide (ps.length = 2)) (W.parts.take j)
            rw [List.length_take] at this
            rw [lv]
            exact Nat.lt_of_le_of_lt (show twosN (W.parts.take j) ≤ 8 by unfold twosN; omega) (by decide)
          · rw [tw, if_pos (by omega), List.length_append, lv]
            rfl
          · rw [upd_ne (ne_of_none ea hD2)]
            exact sM _ _ ea
        · have h : ¬ pj.length = 2 := fun z => h (decide_eq_true (by rw [List.length_map, z]; rfl))
          exact ⟨vs, eD2, by rw [tw, if_neg h, Nat.add_zero]; exact lv, sM⟩
      rintro N3 ⟨vs, eD2, lv, s6⟩
      have ll : ((us.take i).map V.ref).length = i := by rw [List.length_map, lc]; omega
      rw [ll] at lv
      refine ⟨D2, _, rfl, .inl (SqL.of eD2), ?_⟩
      have s13' : Same N1 N3 := s5.trans s6
      have sN3 : Same N N3 := sN1.trans s13'
      have sH3 := sN.trans sN3
      have eD3 := s13' _ _ eD
      have nDw : D ≠ wl := fun z => by
        obtain ⟨_, e1, _⟩ := pW
        rw [← z, hD] at e1
        cases e1
      have nDb : D ≠ bl := fun z => by
        obtain ⟨_, e1, _⟩ := pB
        rw [← z, hD] at e1
        cases e1
      refine ⟨fun σ' G => ∃ (m9 : Addr) (v7' v8' v9' : Option V), σ' = [some (.ref t0), some (.int (p : Int)), some (.ref rw_), some (.ref wl), some (.ref bl), some (.int (0 + (i : Int))), some (.ref m9), v7', v8', v9', none, none] ∧ G m9 = some (.lst ((mineV W ds i).map natV)) ∧ m9 ≠ wl ∧ m9 ≠ bl ∧ Same N G, ?_, ?_⟩
      · have other : (∀ a b, fromB W.beds i = [a, b] → ¬ dsAt ds a < dsAt ds b) → mineV W ds i = fromB W.beds i := fun h => by
          unfold mineV
          match hf : fromB W.beds i with
          | [] => rfl
          | [a] => rfl
          | [a, b] => exact if_neg (h a b hf)
          | a :: b :: c :: r => rfl
        refine ⟨_, rfl, D, _, rfl, .inl (SqL.of eD3), rfl, _, rfl, ?_⟩
        refine ite2 (fun h => ?_) (fun h => ⟨D, _, _, _, rfl, ?_, nDw, nDb, sN3⟩)
        · have h : ((((fromB W.beds i).map natV).length : Nat) : Int) = 2 := V.int.inj (of_decide_eq_true h)
          rw [List.length_map] at h
          obtain ⟨x, y, hxy⟩ : ∃ x y, fromB W.beds i = [x, y] := by
            match hf : fromB W.beds i, h with
            | [x, y], _ => exact ⟨x, y, rfl⟩
            | [], h => simp at h
            | [_], h => simp at h
            | _ :: _ :: _ :: _, h => simp at h; omega
          have l2 : W.parts[i].length = 2 := by
            rw [gp.len]
            have := fromB_is g i
            rw [hxy] at this
            have := congrArg List.length this
            simp at this
            omega
          have hl : (leadsV (gapsV W ds))[i]? = some (decide (0 ≤ dsAt ds x - dsAt ds y)) := by
            unfold leadsV gapsV
            rw [List.getElem?_map, List.getElem?_map, List.getElem?_range hi]
            show some (decide (0 ≤ gap1 ds (fromB W.beds i))) = _
            rw [hxy]
            rfl
          have hr1 := hrow i _ eip l2
          rw [hl] at hr1
          have hr1 : rowv[twosN (W.parts.take i)]? = some (decide (0 ≤ dsAt ds x - dsAt ds y)) := hr1
          rw [← lv] at hr1
          refine ⟨_, rfl, _, rfl, rw_, _, _, .bl (decide (0 ≤ dsAt ds x - dsAt ds y)), rfl, rfl, Same.tup sH3 hrw, atI_nat (by rw [List.getElem?_map, hr1]; rfl), ?_⟩
          by_cases c0 : dsAt ds x < dsAt ds y
          · rw [decide_eq_false (show ¬ 0 ≤ dsAt ds x - dsAt ds y by omega)]
            refine ⟨false, rfl, ?_⟩
            refine ⟨_, rfl, D, _, rfl, SqL.of eD3, fun r hr' => ?_⟩
            have nr : ∀ o, N r ≠ some o := fun o e => by
              have := sN3 _ _ e
              rw [hr'] at this
              cases this
            refine ⟨r, _, _, _, rfl, ?_, fun z => ?_, fun z => ?_, sN3.trans (same1 hr')⟩
            · rw [upd_same]
              unfold mineV
              rw [hxy]
              show some (HO.lst ([natV x, natV y]).reverse) = some (HO.lst ((if dsAt ds x < dsAt ds y then [y, x] else [x, y]).map natV))
              rw [if_pos c0]
              rfl
            · obtain ⟨_, e1, _⟩ := pW
              rw [← z] at e1
              exact nr _ e1
            · obtain ⟨_, e1, _⟩ := pB
              rw [← z] at e1
              exact nr _ e1
          · rw [decide_eq_true (show 0 ≤ dsAt ds x - dsAt ds y by omega)]
            refine ⟨true, rfl, D, _, _, _, rfl, ?_, nDw, nDb, sN3⟩
            rw [other fun a b hab => by rw [hxy] at hab; cases hab; exact c0]
            exact eD3
        · rw [other fun a b hab => absurd (decide_eq_true (show V.int ((((fromB W.beds i).map natV).length : Nat) : Int) = V.int 2 by rw [hab]; rfl)) h]
          exact eD3
      rintro σ' G ⟨m9, v7', v8', v9', rfl, e9, n9w, n9b, sNG⟩
      have pW2 := pW.mono sNG
      have pB2 := pB.mono sNG
      have sG := sN.trans sNG
      refine ⟨_, rfl, m9, _, rfl, SqL.of e9, ?_⟩
      refine for_it (walk_enum (K := K) (a := m9) (xs := (mineV W ds i).map natV)) (fun r σ M => ∃ (v8 v9 : Option V) (Wt Bs : List Rat), σ = [some (.ref t0), some (.int (p : Int)), some (.ref rw_), some (.ref wl), some (.ref bl), some (.int (0 + (i : Int))), some (.ref m9), v7', v8, v9, none, none] ∧
              M m9 = some (.lst ((mineV W ds i).map natV)) ∧ Wet W (atR W p 1) (flowV W (leadsV (gapsV W ds)) (atR W p 1) W.many).2 (fun k => sB W k < i ∨ k ∈ (mineV W ds i).take r) Wt Bs ∧ PairsT K M wl Wt ∧ PairsT K M bl Bs ∧ Same H M)
            ⟨v8', v9', Wt, Bs, rfl, e9, wet.congr fun k _ => by rw [List.take_zero]; simp, pW2, pB2, sG⟩ ?_ ?_ ?_
      · rintro r σ M _ ⟨_, _, _, _, rfl, e, _⟩
        exact SqL.of e
      · rintro r x σ M M' hr' ⟨v8, v9, Wt, Bs, rfl, e9, wet, pW, pB, sM⟩ ⟨T, x1, x2, rfl, hT, rfl, e1, e2⟩
        obtain rfl := Option.some.inj e1
        have e2 : ((mineV W ds i).map natV)[r]? = some x2 := e2
        rw [List.getElem?_map] at e2
        obtain ⟨b, hb, rfl⟩ := Option.map_eq_some_iff.mp e2
        obtain ⟨bl', bs', a, ea, eb⟩ := mine_bear g fl hi hb
        have s4 : Same M (upd M T (.tup [.int (r : Nat), natV b])) := same1 hT
        refine ⟨T, _, rfl, SqT.of upd_same, rfl, _, _, rfl, _, _, rfl, rfl, ?_⟩
        generalize upd M T (.tup [.int (r : Nat), natV b]) = M1 at *
        have e91 := s4 _ _ e9
        have sM1 := sM.trans s4
        obtain ⟨as, eW, hAs⟩ := pW.mono s4
        obtain ⟨cs, eBl, hCs⟩ := pB.mono s4
        have las : as.length = W.many := by
          have := hAs.len
          have := wet.lw
          omega
        have lcs : cs.length = W.beds.length := by
          have := hCs.len
          have := wet.lb
          omega
        have ia : i < as.length := by omega
        have iW : i < Wt.length := by rw [wet.lw]; exact hi
        have wat : gQ Wt i = gQ (flowV W (leadsV (gapsV W ds)) (atR W p 1) W.many).1 i := wet.water g fl hi fun k _ hk => .inl hk
        have eam : Wt[i] = gQ Wt i := by unfold gQ; rw [List.getElem?_eq_getElem iW]; rfl
        have szam : Sz 1500 (gQ Wt i) := wet.sz g ro hi
        have pam : PairAt K M1 as[i] (gQ Wt i) := by
          rw [← eam]
          exact hAs.all i _ _ (List.getElem?_eq_getElem ia) (List.getElem?_eq_getElem iW)
        have hP : PartsAt K M1 us[i] (partsAt W i) := by
          have := hU.all i _ _ (List.getElem?_eq_getElem iu) (List.getElem?_eq_getElem ip)
          unfold partsAt
          rw [List.getElem?_eq_getElem ip]
          exact Same.tup sM1 this
        have hus1 := sM1.seq hus
        have htM1 := sM1.seq hts
        have gp := g.part i _ (List.getElem?_eq_getElem ip)
        have epa : partsAt W i = W.parts[i] := by unfold partsAt; rw [List.getElem?_eq_getElem ip]; rfl
        have amem : a ∈ W.parts[i] := by rw [← epa]; exact List.mem_of_getElem? ea
        obtain ⟨g1, g2, g3⟩ := parts_sum g rfl gp amem
        rw [← epa] at g1 g2 g3
        generalize hps : partsAt W i = ps at *
        refine ⟨_, rfl, _, rfl, wl, _, _, .ref as[i], rfl, (by rw [Int.zero_add]), SqL.of eW, atI_nat (by rw [List.getElem?_map, List.getElem?_eq_getElem ia]; rfl), ?_⟩
        refine ⟨_, rfl, t0, _, _, _, rfl, rfl, Same.tup sM1 h0, at_k (by decide) rfl, _, rfl, sl, _, _, .ref us[i], rfl, (by rw [Int.zero_add]), hus1, atI_nat (by rw [List.getElem?_map, List.getElem?_eq_getElem iu]; rfl), _, rfl, us[i], _, _, natV a, rfl, rfl, hP, atI_nat (by rw [List.getElem?_map, ea]; rfl), ?_⟩
        refine ⟨_, rfl, t0, _, _, _, rfl, rfl, Same.tup sM1 h0, at_k (by decide) rfl, _, rfl, sl, _, _, .ref us[i], rfl, (by rw [Int.zero_add]), hus1, atI_nat (by rw [List.getElem?_map, List.getElem?_eq_getElem iu]; rfl), us[i], ps.map (fun n : Nat => (n : Int)), rfl, (by rw [← natV_map]; exact hP), ?_⟩
        rw [sum_cast]
        refine ⟨((a : Nat) : Int), ((ps.sum : Nat) : Int), rfl, by omega, Nat.lt_of_lt_of_le (show ((a : Nat) : Int).natAbs < 2 ^ 5 by omega) (Nat.pow_le_pow_right (by decide) (by decide)), Nat.lt_of_lt_of_le (show ((ps.sum : Nat) : Int).natAbs < 2 ^ 5 by omega) (Nat.pow_le_pow_right (by decide) (by decide)), fun y hy => ?_⟩
        have szf : Sz 1500 (ratI a / ratI ps.sum) := small_sz (lim_frac (m := (a : Int)) (n := a) (d := ps.sum) (c := 1) (M := ps.sum) (k := 5) rfl (by omega) (by omega) (by decide) (by omega)) (by omega) (Nat.lt_of_lt_of_le (show ps.sum < 2 ^ 5 by omega) (Nat.pow_le_pow_right (by decide) (by decide))) (by decide)
        generalize hoy : HO.tup (prV (((a : Nat) : Int) / ((ps.sum : Nat) : Int) : Rat)) = oy at *
        have t1 : Same M1 (upd M1 y oy) := same1 hy
        have ey' : (upd M1 y oy : Hp) y = some oy := upd_same
        generalize upd M1 y oy = M2 at *
        subst hoy
        refine ⟨as[i], y, gQ Wt i, ratI a / ratI ps.sum, rfl, Same.tup t1 pam, SqT.of ey', szam, szf, fun u hu => ?_⟩
        have ebv : gQ Wt i * (ratI a / ratI ps.sum) = gQ (flowV W (leadsV (gapsV W ds)) (atR W p 1) W.many).2 b := by
          rw [eb, wat]
          rfl
        generalize hou : HO.tup (prV (gQ Wt i * (ratI a / ratI ps.sum))) = ou at *
        have t2 : Same M2 (upd M2 u ou) := same1 hu
        have eu : (upd M2 u ou : Hp) u = some ou := upd_same
        generalize upd M2 u ou = M3 at *
        rw [ebv] at hou
        subst hou
        have t12 := t1.trans t2
        have eB3 := t12 _ _ eBl
        have eW3' := t12 _ _ eW
        refine ⟨_, rfl, _, rfl, bl, _, _, b, rfl, rfl, eB3, ?_, ?_⟩
        · unfold ixN
          rw [if_pos (by omega), if_pos (by rw [List.length_map]; omega), Int.toNat_natCast]
        have sH4 : Same H (upd M3 bl (.lst ((cs.map V.ref).set b (V.ref u)))) := fun c o ec => by
          rw [upd_ne (ne_of_none ec hbl0)]
          exact t12 _ _ (sM1 _ _ ec)
        have kp : KeepL M3 (upd M3 bl (.lst ((cs.map V.ref).set b (V.ref u)))) := keep_put eB3
        have eB4 : (upd M3 bl (.lst ((cs.map V.ref).set b (V.ref u))) : Hp) bl = some (.lst ((cs.set b u).map V.ref)) := by rw [upd_same, List.map_set]
        have eW4 : (upd M3 bl (.lst ((cs.map V.ref).set b (V.ref u))) : Hp) wl = some (.lst (as.map V.ref)) := by rw [upd_ne nwb]; exact eW3'
        have e94 : (upd M3 bl (.lst ((cs.map V.ref).set b (V.ref u))) : Hp) m9 = some (.lst ((mineV W ds i).map natV)) := by rw [upd_ne n9b]; exact t12 _ _ e91
        have hC4 : All2 (PairAt K (upd M3 bl (.lst ((cs.map V.ref).set b (V.ref u))))) (cs.set b u) (Bs.set b (gQ (flowV W (leadsV (gapsV W ds)) (atR W p 1) W.many).2 b)) := All2.set (hCs.mono fun _ _ _ _ r => kp.tup (Same.tup t12 r)) (kp.tup (SqT.of eu))
        have hA4 : All2 (PairAt K (upd M3 bl (.lst ((cs.map V.ref).set b (V.ref u))))) as Wt := hAs.mono fun _ _ _ _ r => kp.tup (Same.tup t12 r)
        generalize upd M3 bl (.lst ((cs.map V.ref).set b (V.ref u))) = M4 at *
        have ht4 := sH4.seq hts
        have bt : b < ts.length := by omega
        obtain ⟨_, _, esb, eeb⟩ := sB_at bl'
        obtain ⟨_, _, q1, _, _⟩ := RowAt.mono (hA.all b ts[b] _ (List.getElem?_eq_getElem bt) (List.getElem?_eq_getElem bl')) sH4
        have el := (sB_lt g bl').2
        have nd : ¬ (sB W b < i ∨ b ∈ (mineV W ds i).take r) := fun z => by
          rcases z with z | z
          · omega
          · obtain ⟨j, hj, ej⟩ := List.mem_take_iff_getElem.mp z
            have n := mine_nodup g ds i
            have rl' := (List.getElem?_eq_some_iff.mp hb).1
            have eb' := (List.getElem?_eq_some_iff.mp hb).2
            exact List.pairwise_iff_getElem.mp n j r (by omega) rl' (by omega) (ej.trans eb'.symm)
        have nx := wet.next g bl' nd
        rw [← eeb] at q1
        generalize eB W b = eb' at *
        have ea2 : eb' < as.length := by omega
        have eW2 : eb' < Wt.length := by rw [wet.lw]; exact el
        have szx : Sz 1500 (gQ Wt eb') := wet.sz g ro el
        have ex : Wt[eb'] = gQ Wt eb' := by unfold gQ; rw [List.getElem?_eq_getElem eW2]; rfl
        have px : PairAt K M4 as[eb'] (gQ Wt eb') := by
          rw [← ex]
          exact hA4.all eb' _ _ (List.getElem?_eq_getElem ea2) (List.getElem?_eq_getElem eW2)
        have bc : b < (cs.set b u).length := by rw [List.length_set, lcs]; exact bl'
        have ec : (cs.set b u)[b]? = some u := by rw [List.getElem?_set, if_pos rfl, if_pos (by rw [lcs]; exact bl')]
        have pu : PairAt K M4 u (gQ (flowV W (leadsV (gapsV W ds)) (atR W p 1) W.many).2 b) := kp.tup (SqT.of eu)
        have szv : Sz 1500 (gQ (flowV W (leadsV (gapsV W ds)) (atR W p 1) W.many).2 b) := (flow_szB g _ ro (Nat.le_refl _)).2 _ (by unfold gQ; exact getD_mem (by rw [flow_all g]; exact bl'))
        refine ⟨_, rfl, _, rfl, t0, _, _, _, rfl, rfl, Same.tup sH4 h0, at_k (by decide) rfl, _, rfl, rl, _, _, .ref ts[b], rfl, rfl, ht4, atI_nat (by rw [List.getElem?_map, List.getElem?_eq_getElem bt]; rfl), ts[b], _, _, _, rfl, rfl, q1, at_k (by decide) rfl, wl, _, _, .ref as[eb'], rfl, rfl, SqL.of eW4, atI_nat (by rw [List.getElem?_map, List.getElem?_eq_getElem ea2]; rfl), ?_⟩
        refine ⟨_, rfl, _, rfl, bl, _, _, .ref u, rfl, rfl, SqL.of eB4, atI_nat (by rw [List.getElem?_map, ec]; rfl), as[eb'], u, _, _, rfl, px, pu, szx, szv, fun v hv => ?_⟩
        have t5 : Same M4 (upd M4 v (.tup (prV (gQ Wt eb' + gQ (flowV W (leadsV (gapsV W ds)) (atR W p 1) W.many).2 b)))) := same1 hv
        have ev : (upd M4 v (.tup (prV (gQ Wt eb' + gQ (flowV W (leadsV (gapsV W ds)) (atR W p 1) W.many).2 b))) : Hp) v = some (.tup (prV (gQ Wt eb' + gQ (flowV W (leadsV (gapsV W ds)) (atR W p 1) W.many).2 b))) := upd_same
        generalize upd M4 v (.tup (prV (gQ Wt eb' + gQ (flowV W (leadsV (gapsV W ds)) (atR W p 1) W.many).2 b))) = M5 at *
        have eW5 := t5 _ _ eW4
        have sH5 := sH4.trans t5
        refine ⟨_, rfl, _, rfl, t0, _, _, _, rfl, rfl, Same.tup sH5 h0, at_k (by decide) rfl, _, rfl, rl, _, _, .ref ts[b], rfl, rfl, t5.seq ht4, atI_nat (by rw [List.getElem?_map, List.getElem?_eq_getElem bt]; rfl), ts[b], _, _, _, rfl, rfl, Same.tup t5 q1, at_k (by decide) rfl, wl, _, _, eb', rfl, rfl, eW5, ?_, ?_⟩
        · unfold ixN
          rw [if_pos (by omega), if_pos (by rw [List.length_map]; omega), Int.toNat_natCast]
        have kp2 : KeepL M5 (upd M5 wl (.lst ((as.map V.ref).set eb' (V.ref v)))) := keep_put eW5
        refine ⟨_, _, _, _, rfl, by rw [upd_ne n9w]; exact t5 _ _ e94, nx.congr fun k hk => ?_, ⟨as.set eb' v, by rw [upd_same, List.map_set], All2.set (hA4.mono fun _ _ _ _ r => kp2.tup (Same.tup t5 r)) (kp2.tup (SqT.of ev))⟩, ⟨cs.set b u, by rw [upd_ne (Ne.symm nwb)]; exact t5 _ _ eB4, hC4.mono fun _ _ _ _ r => kp2.tup (Same.tup t5 r)⟩, fun c o ec => ?_⟩
        · have rl' := (List.getElem?_eq_some_iff.mp hb).1
          rw [List.take_succ_eq_append_getElem rl', (List.getElem?_eq_some_iff.mp hb).2]
          simp
          constructor
          · rintro ((z | z) | z)
            · exact .inl z
            · exact .inr (.inl z)
            · exact .inr (.inr z)
          · rintro (z | z | z)
            · exact .inl (.inl z)
            · exact .inl (.inr z)
            · exact .inr z
        · rw [upd_ne (ne_of_none ec hwlH)]
          exact sH5 _ _ ec
      · rintro σ M ⟨v8, v9, Wt, Bs, rfl, e9, wet, pW, pB, sM⟩
        rw [List.length_map, List.take_length] at wet
        refine ⟨_, _, _, _, _, Wt, Bs, rfl, wet.congr fun k hk => ⟨fun z => ?_, fun z => ?_⟩, pW, pB, sM⟩
        · rcases z with z | z
          · exact Nat.lt_succ_of_lt z
          · obtain ⟨r, hr1, hr2⟩ := List.mem_iff_getElem.mp z
            obtain ⟨_, e, _⟩ := mine_bear g fl hi (r := r) (b := k) (by rw [List.getElem?_eq_getElem hr1, hr2])
            rw [e]
            exact Nat.lt_succ_self _
        · by_cases c : sB W k = i
          · exact .inr (mine_all g hk c)
          · exact .inl (by omega)
    · rintro σ N ⟨v5, v6, v7, v8, v9, Wt, Bs, rfl, wet, pW, pB, sN⟩
      obtain ⟨e1, e2⟩ := wet.done g fl fun k hk => by have := sB_lt g hk; omega
      subst e1 e2
      exact ⟨_, rfl, q N bl sN pB⟩
end
end K64

namespace K64
open PySem PySem.Spec PyProof.Rows L2 LamX
/-! ### all mornings from which some looked at amount leads there -/
/-- tables grow and dicts change, all else stays -/
def KeepD (H H' : Hp) : Prop := ∀ b o, H b = some o → (∀ x, o ≠ .tbl x) → (∀ x, o ≠ .dT x) → H' b = some o
theorem KeepD.refl {H : Hp} : KeepD H H := fun _ _ e _ _ => e
theorem KeepD.trans {H H1 H2 : Hp} (a : KeepD H H1) (b : KeepD H1 H2) : KeepD H H2 := fun c o e t d => b c o (a c o e t d) t d
theorem KeepD.of {H H1 : Hp} (a : ExtN H H1) : KeepD H H1 := fun c o e t _ => a c o e t
theorem KeepD.tup {K : PySem.W.Frag} {H H' : Hp} {a : Addr} {xs : List V} (k : KeepD H H') (h : SqT K H a xs) : SqT K H' a xs := by
  rcases h with (h | ⟨o, h⟩) | h
  · exact .inl (.inl (k _ _ h (fun _ z => nomatch z) fun _ z => nomatch z))
  · exact .inl (.inr ⟨o, k _ _ h (fun _ z => nomatch z) fun _ z => nomatch z⟩)
  · exact .inr h
theorem tabs_put {T : List (Addr × Str)} {H : Hp} {F0 : Addr} {kvs : List (List Key × V)} {o : HO} (t : Tabs T H) (e : H F0 = some (.dT kvs)) : Tabs T (upd H F0 o) := fun x hx => by
  obtain ⟨ps, h1, h2, h3⟩ := t x hx
  have ne : ∀ {b : Addr} {ob : HO}, H b = some ob → (∀ x, ob ≠ .dT x) → upd H F0 o b = some ob := fun {b ob} eb n => by
    rw [upd_ne (fun z => by rw [z, e] at eb; exact n _ (Option.some.inj eb).symm)]
    exact eb
  refine ⟨ps, ne h1 (fun _ z => nomatch z), h2, fun pos cv hc => ?_⟩
  obtain ⟨c, e1, e2⟩ := h3 pos cv hc
  exact ⟨c, e1, ne e2 (fun _ z => nomatch z)⟩
def entK (ks : List (List Int)) : List (List Key × V) := ks.map fun k => (k.map Sum.inl, V.bl true)
theorem inl_inj : ∀ {a b : List Int}, a.map (Sum.inl : Int → Key) = b.map Sum.inl → a = b
  | [], [], _ => rfl
  | [], _ :: _, h => by simp at h
  | _ :: _, [], h => by simp at h
  | x :: a, y :: b, h => by
    simp only [List.map_cons, List.cons.injEq] at h
    rw [inl_inj h.2, Sum.inl.inj h.1]
theorem ent_val (e : List Int) : ∀ ks : List (List Int), valV (entK ks) (e.map (Sum.inl : Int → Key)) = if e ∈ ks then some (.bl true) else none
  | [] => by simp [entK, valV_nil]
  | a :: r => by
    show valV ((a.map Sum.inl, V.bl true) :: entK r) _ = _
    by_cases c : a = e
    · rw [valV_pos (by rw [c]), c, if_pos (List.mem_cons_self ..)]
    · rw [valV_neg (fun z => c (inl_inj z)), ent_val e r]
      have : (e ∈ a :: r) ↔ e ∈ r := by
        rw [List.mem_cons]
        exact ⟨fun z => z.resolve_left fun z => c z.symm, .inr⟩
      simp only [this]
theorem ent_put {ks : List (List Int)} {e : List Int} (h : e ∉ ks) : putK (entK ks) (e.map (Sum.inl : Int → Key)) (.bl true) = entK (ks ++ [e]) := by
  unfold putK
  rw [valV_any, ent_val, if_neg h]
  rw [if_neg (by simp)]
  unfold entK
  rw [List.map_append]
  rfl
theorem kv_ints (e : List Int) : (e.map (Sum.inl : Int → Key)).map kV = e.map V.int := by
  rw [List.map_map]
  rfl
theorem keys_all {H : Hp} : ∀ {ks : List (List Int)} {bs : List Addr}, IsKeys H (entK ks) bs → All2 (fun b (e : List Int) => H b = some (.tup (e.map V.int))) bs ks
  | [], [], _ => .nil
  | [], _ :: _, h => by cases h
  | _ :: _, [], h => by cases h
  | e :: ks, b :: bs, h => by
    have h : PySem.Paired (fun p b => H b = some (.tup (p.1.map kV))) ((e.map Sum.inl, V.bl true) :: entK ks) (b :: bs) := h
    cases h with
    | cons h1 h2 =>
      have ih := keys_all (ks := ks) (bs := bs) h2
      have h1 : H b = some (.tup ((e.map (Sum.inl : Int → Key)).map kV)) := h1
      rw [kv_ints] at h1
      refine ⟨by rw [List.length_cons, List.length_cons, ih.len], fun i x y hx hy => ?_⟩
      match i, hx, hy with
      | 0, hx, hy =>
        obtain rfl : b = x := by simpa using hx
        obtain rfl : e = y := by simpa using hy
        exact h1
      | i + 1, hx, hy => exact ih.all i x y (by simpa using hx) (by simpa using hy)
def spEld (K : PySem.W.Frag) (T : List (Addr × Str)) : Sp := fun vs H Q _ => ∃ (t e : Addr) (W : WebV) (gs : List Int) (p : Nat), vs = [.ref t, .ref e, .int (p : Int)] ∧ WorldAt K H t W ∧ GoodWeb W ∧ (∀ b ∈ W.beds, LimB b) ∧ SqT K H e (gs.map V.int) ∧ gs.length = W.beds.length ∧ p < W.many ∧ Tabs T H ∧
  ∀ (H' : Hp) (l : Addr) (es : List (List Int)), ExtN H H' → Tabs T H' → (∀ xs : List V, H l ≠ some (.lst xs)) → BefAt K H' l es → es.Pairwise (· < ·) → (∀ x, x ∈ es ↔ GoodE W gs p x) → Q (.ref l) H'
section
variable {P : Program} {w : World} {K : PySem.W.Frag} {mg : Str → Option Value} {base : Heap}
abbrev elN : List Str := ["spec", "goal", "spot", "found", "row", "bears", "amount", "elder", "depth", "brook", "part", "one"]
theorem scEl : FnScope elN ["spec", "goal", "spot"] (defScope d_law_elders) := ⟨rfl, rfl, rfl, by decide +kernel, rfl, by decide +kernel, by decide +kernel⟩
theorem ok_elders {T : List (Addr × Str)} {f f1 f2 f3 f4 f5 f6 f7 f8 C : Addr} {fd fd1 fd2 fd3 fd4 fd5 fd6 fd7 fd8 : FuncData} (F : Fun K "_law_elders" "_law_elders" d_law_elders f fd) (Y : TxtW mg C) (hzip : mg "zip" = none)
    (AW : At P w K mg base CX0 1 "_law_rows" ["many"] (spRowsL K) f1 fd1) (AR : At P w K mg base CX0 3 "_law_bears" ["spec", "spot", "row"] (spBears K) f2 fd2) (AK : At P w K mg base CX0 4 "_law_marked" ["spec", "parts"] (spMarked K T) f3 fd3) (AS : At P w K mg base CX0 3 "_law_samples" ["points"] (spSamp K) f4 fd4)
    (AM : At P w K mg base CX0 2 "_law_move" ["brook", "amount"] (spMoveL K) f5 fd5) (AB : At P w K mg base CX0 2 "_law_by" ["one", "other"] (spTwoP K fun p q => p * q) f6 fd6) (AD : At P w K mg base CX0 3 "_law_day" ["spec", "deep", "fallen"] (spDayL K) f7 fd7) (AL : At P w K mg base CX0 1 "_law_at" ["spec", "spot", "amount"] (spAtL K) f8 fd8) :
    FnOk P w K mg base CX0 5 f fd ["spec", "goal", "spot"] (spEld K T) := by
  refine F.ok scEl (fun vs H Q E h => ?_) (fun cdv A outer s H vs Q E hr h => ?_)
  · obtain ⟨_, _, _, _, _, rfl, _⟩ := h
    rfl
  · obtain ⟨t0, e0, W, gs, p, rfl, hW, g, lb, he, lg, hp, hT, q⟩ := h
    have r1 : Room 1 _ := hr.mono (by decide)
    have r2 : Room 2 _ := hr.mono (by decide)
    have r3 : Room 3 _ := hr.mono (by decide)
    have r4 : Room 4 _ := hr.mono (by decide)
    have hu1 : (cxOf CX0 P w K mg base elN "_law_elders" (defScope d_law_elders) f cdv A outer s H E).nox.A.units + 1 < cLine := by
      have h1 := hr.un
      show (A.deeper (envOfC "_law_elders" (defScope d_law_elders) s.heap.objs.size f cdv)).units + 1 < cLine
      omega
    refine ⟨_, pss_cons (ps_set (i := 3) scEl.nd rfl (Or.inl rfl) pe_dnewT)
      (pss_cons (ps_for PassesOwn.never rfl (pi_list (pe_call AW.G r1 rfl AW.m AW.k AW.b .nil pass0 (pa_cons (pe_callB call_len_seq (by rfl) Y.len PySem.boot_len (pa_cons
            (pe_lc (own := [("one", 11)]) (g := gName 11) (by rfl) scEl.nd (pi_list (pe_ix ix_tup (pv 0) pe_int (fun _ _ => rfl))) (blkOk_by (own := [("one", 11)]) (N := elN) (sc := defScope d_law_elders) (by decide +kernel)) (fun _ _ _ _ _ => pg_name (i := 11) scEl.nd rfl (.inl rfl))
              (fun _ _ _ _ _ => pts_one (pt_cmpR op_eq (pe_callB (show CallR _ _ (fun xs H Q => ∃ (p : Addr) (ys : List V), xs = [V.ref p] ∧ (SqL K H p ys ∨ SqT K H p ys) ∧ Q (.int ys.length) H) from call_len_seq) (by rfl) Y.len PySem.boot_len (pa_cons (pv 11) pa_nil)) pe_int (nomark _))) (fun _ _ _ _ _ => pv 11)) pa_nil)) pa_nil))) (pg_name (i := 4) scEl.nd rfl (.inl rfl))
        (pss_cons (ps_set (i := 5) scEl.nd rfl (Or.inl rfl) (pe_call AR.G r3 rfl AR.m AR.k AR.b .nil pass0 (pa_cons (pv 0) (pa_cons (pv 2) (pa_cons (pv 4) pa_nil)))))
        (pss_one (ps_for PassesOwn.never rfl (pi_list (pe_call AS.G r3 rfl AS.m AS.k AS.b .nil pass0 (pa_cons (pe_call AK.G r4 rfl AK.m AK.k AK.b .nil pass0 (pa_cons (pv 0) (pa_cons (pv 5) pa_nil))) pa_nil))) (pg_name (i := 6) scEl.nd rfl (.inl rfl))
          (pss_cons (ps_set (i := 7) scEl.nd rfl (Or.inl rfl) (pe_lst pa_nil))
          (pss_cons (ps_for PassesOwn.never rfl (pi_zipG3 true false false (by rfl) hzip (pa_cons (pv 1) (pa_cons (pe_ix ix_tup (pv 0) pe_int (fun _ _ => rfl)) (pa_cons (pv 5) pa_nil)))) (pg_tup (by rfl) (pgs_cons (pg_name (i := 8) scEl.nd rfl (.inl rfl)) (pgs_cons (pg_name (i := 9) scEl.nd rfl (.inl rfl)) (pgs_cons (pg_name (i := 10) scEl.nd rfl (.inl rfl)) pgs_nil))))
            (pss_one (ps_expr (pe_bm PySem.F.plainAttrs_list PySem.F.slot_list_append PySem.F.type_list_append mt_append (pv 7) (pa_cons (pe_op op_sub (pv 8) (pe_call AM.G r2 rfl AM.m AM.k AM.b .nil pass0 (pa_cons (pv 9) (pa_cons (pe_call AB.G r2 rfl AB.m AB.k AB.b .nil pass0 (pa_cons (pv 10) (pa_cons (pv 6) pa_nil))) pa_nil)))) pa_nil)))))
          (pss_one (ps_if (pt_cmp (pc_dnotin hu1 (pe_callTy (cr_tup (K := K) rfl) (by rfl) Y.tuple (by decide +kernel) (pa_cons (pv 7) pa_nil)) (pv 3)))
            (pss_one (ps_if (pt_cmpR (op_eqD hr.units) (pe_ix ix_tup (pe_call AD.G r3 rfl AD.m AD.k AD.b .nil pass0 (pa_cons (pv 0) (pa_cons (pe_callTy (cr_tup (K := K) rfl) (by rfl) Y.tuple (by decide +kernel) (pa_cons (pv 7) pa_nil)) (pa_cons (pe_call AL.G r1 rfl AL.m AL.k AL.b .nil pass0 (pa_cons (pv 0) (pa_cons (pv 2) (pa_cons (pv 6) pa_nil)))) pa_nil)))) pe_int (fun _ _ => rfl)) (pv 1) (nomark _))
              (pss_one (ps_dput hu1 (pv 3) (pe_callTy (cr_tup (K := K) rfl) (by rfl) Y.tuple (by decide +kernel) (pa_cons (pv 7) pa_nil)) pe_bl rfl)) pss_nil)) pss_nil))))))))
      (pss_one (ps_ret (pe_callB (cr_sortTI hr.units) (by rfl) Y.sorted (by decide +kernel) (pa_cons (pe_callTy (call_list_dT rfl) (by rfl) Y.list (by decide +kernel) (pa_cons (pv 3) pa_nil)) pa_nil))))), ?_⟩
    have m8 := g.m8
    have few := g.few
    have pl := g.plen
    obtain ⟨rl, sl, h0, ⟨ts, hts, hA⟩, ⟨us, hus, hU⟩⟩ := id hW
    have lts := hA.len
    have lus := hU.len
    refine fun F0 hF0 => ?_
    have s1 : Same H (upd H F0 (.dT [])) := same1 hF0
    have eF0 : (upd H F0 (.dT []) : Hp) F0 = some (.dT (entK [])) := upd_same
    generalize upd H F0 (.dT []) = H1 at *
    -- how many places with two
    refine ⟨_, rfl, t0, _, _, _, rfl, rfl, Same.tup s1 h0, at_k (by decide) rfl, sl, rfl, ⟨_, s1.seq hus⟩, fun D hD => ?_⟩
    refine lc_list (K := K) (a := sl) (xs := us.map V.ref) (fun j M => ∃ vs : List V, M D = some (.lst vs) ∧ vs.length = twosN (W.parts.take j) ∧ Same H1 M) ⟨[], upd_same, rfl, same1 hD⟩ ?_ ?_ ?_
    · rintro j M _ ⟨_, _, _, sM⟩
      exact (s1.trans sM).seq hus
    · rintro j x M hx ⟨vs, eD2, lv, sM⟩
      rw [List.getElem?_map] at hx
      obtain ⟨u, hu, rfl⟩ := Option.map_eq_some_iff.mp hx
      have jl : j < us.length := (List.getElem?_eq_some_iff.mp hu).1
      have jp : j < W.parts.length := by omega
      have hP : PartsAt K M u W.parts[j] := Same.tup (s1.trans sM) (hU.all j u _ hu (List.getElem?_eq_getElem jp))
      have tk : W.parts.take (j + 1) = W.parts.take j ++ [W.parts[j]] := List.take_succ_eq_append_getElem jp
      generalize W.parts[j] = pj at *
      have tw : twosN (W.parts.take (j + 1)) = twosN (W.parts.take j) + if pj.length = 2 then 1 else 0 := by
        unfold twosN
        rw [tk, List.filter_append, List.length_append]
        congr 1
        by_cases c : pj.length = 2
        · rw [if_pos c, List.filter_cons, if_pos (decide_eq_true c)]
          rfl
        · rw [if_neg c, List.filter_cons, if_neg (fun z => c (of_decide_eq_true z))]
          rfl
      refine ⟨rfl, _, rfl, u, _, rfl, .inr hP, rfl, _, rfl, ?_⟩
      refine ite2 (fun h => ?_) (fun h => ?_)
      · have h : (((pj.map natV).length : Nat) : Int) = 2 := V.int.inj (of_decide_eq_true h)
        rw [List.length_map] at h
        refine ⟨_, rfl, _, eD2, ?_, vs ++ [.ref u], upd_same, ?_, fun a o ea => ?_⟩
        · have := List.length_filter_le (fun ps : List Nat => decide (ps.length = 2)) (W.parts.take j)
          rw [List.length_take] at this
          rw [lv]
          exact Nat.lt_of_le_of_lt (show twosN (W.parts.take j) ≤ 8 by unfold twosN; omega) (by decide)
        · rw [tw, if_pos (by omega), List.length_append, lv]
          rfl
        · rw [upd_ne (ne_of_none ea hD)]
          exact sM _ _ ea
      · have h : ¬ pj.length = 2 := fun z => h (decide_eq_true (by rw [List.length_map, z]; rfl))
        exact ⟨vs, eD2, by rw [tw, if_neg h, Nat.add_zero]; exact lv, sM⟩
    rintro M ⟨vs, eD, lv, sM⟩
    rw [List.length_map, show us.length = W.parts.length by omega, List.take_length] at lv
    have tl8 : twosN W.parts ≤ 8 := by
      have := List.length_filter_le (fun ps : List Nat => decide (ps.length = 2)) W.parts
      unfold twosN
      omega
    refine ⟨D, _, rfl, .inl (SqL.of eD), twosN W.parts, (by rw [lv]; rfl), tl8, fun H2 RL s2 hRL => ?_⟩
    obtain ⟨ra, eRL, hra⟩ := hRL
    have s12 : Same H1 H2 := sM.trans s2
    have s02 : Same H H2 := s1.trans s12
    have lra := hra.len
    rw [rowsV_len] at lra
    have p8 : 2 ^ twosN W.parts ≤ 256 := Nat.le_trans (Nat.pow_le_pow_right (by decide) tl8) (by decide)
    refine ⟨RL, rfl, ⟨_, SqL.of eRL⟩, ?_⟩
    refine for_list (K := K) (a := RL) (xs := ra.map V.ref) (fun i σ N => ∃ (v4 v5 v6 v7 v8 v9 v10 : Option V) (ks : List (List Int)), σ = [some (.ref t0), some (.ref e0), some (.int (p : Int)), some (.ref F0), v4, v5, v6, v7, v8, v9, v10, none] ∧ N F0 = some (.dT (entK ks)) ∧ ks.Nodup ∧ ks.length ≤ 128 * i ∧ (∀ e ∈ ks, GoodE W gs p e) ∧
        (∀ e, GoodE W gs p e → rowOf W.parts (leadsV (gapsV W e)) ∈ (rowsV (twosN W.parts)).take i → e ∈ ks) ∧ Tabs T N ∧ ExtN H N ∧ KeepD H2 N)
      ⟨none, none, none, none, none, none, none, [], rfl, s12 _ _ eF0, List.nodup_nil, Nat.le_refl _, (fun _ h => nomatch h), (fun _ _ h => by rw [List.take_zero] at h; cases h), hT.ext s02, same_ext s02, KeepD.refl⟩ ?_ ?_ ?_
    · rintro i σ N _ ⟨_, _, _, _, _, _, _, _, rfl, _, _, _, _, _, _, _, kN⟩
      exact SqL.of (kN _ _ eRL (fun _ z => nomatch z) (fun _ z => nomatch z))
    · rintro i x σ N hx ⟨v4, v5, v6, v7, v8, v9, v10, ks, rfl, eN, nd, lk, gk, hk, TN, xN, kN⟩
      rw [List.getElem?_map] at hx
      obtain ⟨ta, hta, rfl⟩ := Option.map_eq_some_iff.mp hx
      have ia : i < ra.length := (List.getElem?_eq_some_iff.mp hta).1
      have ir : i < (rowsV (twosN W.parts)).length := by rw [rowsV_len]; omega
      have hrow : SqT K N ta (((rowsV (twosN W.parts))[i]).map V.bl) := kN.tup (hra.all i ta _ hta (List.getElem?_eq_getElem ir))
      have lrow := mem_rows.mp (List.getElem_mem ir)
      have tkr : (rowsV (twosN W.parts)).take (i + 1) = (rowsV (twosN W.parts)).take i ++ [(rowsV (twosN W.parts))[i]] := List.take_succ_eq_append_getElem ir
      generalize (rowsV (twosN W.parts))[i] = row at *
      obtain ⟨ds, ld, hds⟩ := ds_of g lrow
      have hWN := exn_world xN hW
      refine ⟨_, rfl, _, rfl, _, rfl, t0, ta, W, ds, row, p, rfl, hWN, g, ld, hrow, hds, fun N1 bl n1 hbl => ?_⟩
      have x1 : ExtN H N1 := xN.trans (same_ext n1)
      have lfs : (facV W ds p).length = W.beds.length := flow_all g _ _
      have szfs : ∀ f ∈ facV W ds p, Sz 1500 f := (flow_szB g (leadsV (gapsV W ds)) (at_ok (W := W) p) (Nat.le_refl _)).2
      refine ⟨_, rfl, _, rfl, t0, bl, W, facV W ds p, rfl, exn_world x1 hW, g, lb, hbl, lfs, (fun f hf => ⟨fac_lim g ds p f hf, szfs f hf⟩), TN.ext n1, fun N2 l qs x2 T2 n2 hl pk l64 => ?_⟩
      have ptq : ∀ x ∈ qs, PtOk x ∧ 0 ≤ x := fun x hx => ⟨pt_of g lb ((pk.mem x).mp hx).1, ((pk.mem x).mp hx).2⟩
      have q0 : (0 : Rat) ∈ qs := (pk.mem 0).mpr ⟨List.mem_cons_self .., Rat.le_refl⟩
      have ne : qs ≠ [] := fun z => by rw [z] at q0; cases q0
      have smp : ∀ x ∈ samplesV qs, SmOk x ∧ 0 ≤ x := fun x hx => samples_pt hx ptq
      have lsm : (samplesV qs).length < 128 := by
        rw [samples_len ne]
        omega
      refine ⟨l, qs, rfl, hl, ne, l64, fun x hx => (ptq x hx).1, fun N3 r n3 nr hr3 => ?_⟩
      obtain ⟨as, er, has⟩ := hr3
      have las := has.len
      have x13 : ExtN N1 N3 := x2.trans (same_ext n3)
      have x03 : ExtN N N3 := (same_ext n1).trans x13
      have T3 := T2.ext n3
      refine ⟨r, rfl, ⟨_, SqL.of er⟩, ?_⟩
      refine for_list (K := K) (a := r) (xs := as.map V.ref) (fun j σ Z => ∃ (v6 v7 v8 v9 v10 : Option V) (ks' : List (List Int)), σ = [some (.ref t0), some (.ref e0), some (.int (p : Int)), some (.ref F0), some (.ref ta), some (.ref bl), v6, v7, v8, v9, v10, none] ∧ Z F0 = some (.dT (entK ks')) ∧ ks'.Nodup ∧ ks'.length ≤ 128 * i + j ∧ (∀ e ∈ ks', GoodE W gs p e) ∧
          (∀ e ∈ ks, e ∈ ks') ∧ (∀ a ∈ (samplesV qs).take j, leadsTo W (elderV W gs (facV W ds p) a W.beds.length) gs p a → elderV W gs (facV W ds p) a W.beds.length ∈ ks') ∧ Tabs T Z ∧ ExtN H Z ∧ KeepD N3 Z)
        ⟨v6, v7, v8, v9, v10, ks, rfl, x03 _ _ eN (fun _ z => nomatch z), nd, by omega, gk, fun _ h => h, (fun _ h => by rw [List.take_zero] at h; cases h), T3, xN.trans x03, KeepD.refl⟩ ?_ ?_ ?_
      · rintro j σ Z _ ⟨_, _, _, _, _, _, rfl, _, _, _, _, _, _, _, _, kZ⟩
        exact SqL.of (kZ _ _ er (fun _ z => nomatch z) (fun _ z => nomatch z))
      · rintro j x σ Z hx ⟨v6, v7, v8, v9, v10, ks', rfl, eZ, nd', lk', gk', sub, hk', TZ, xZ, kZ⟩
        rw [List.getElem?_map] at hx
        obtain ⟨ua, hua, rfl⟩ := Option.map_eq_some_iff.mp hx
        have ja : j < (samplesV qs).length := by
          have := (List.getElem?_eq_some_iff.mp hua).1
          omega
        have pua : PairAt K Z ua (samplesV qs)[j] := kZ.tup (has.all j ua _ hua (List.getElem?_eq_getElem ja))
        obtain ⟨sm, nn⟩ := smp _ (List.getElem_mem ja)
        have tks : (samplesV qs).take (j + 1) = (samplesV qs).take j ++ [(samplesV qs)[j]] := List.take_succ_eq_append_getElem ja
        generalize (samplesV qs)[j] = am at *
        obtain ⟨Ra, ro⟩ := at_okq (W := W) (p := p) sm nn
        have lf1 := day_at g ds p am
        have szB : ∀ k, k < W.beds.length → Sz 1500 (gQ (facV W ds p) k * am) := fun k hk => by
          have h1 := (flow_szB g (leadsV (gapsV W ds)) ro (Nat.le_refl _)).2
          have h2 : (flowV W (leadsV (gapsV W ds)) (atR W p am) W.many).2 = (facV W ds p).map (· * am) := lf1
          rw [h2] at h1
          have kf : k < (facV W ds p).length := by omega
          have e9 : gQ (facV W ds p) k = (facV W ds p)[k] := by
            unfold gQ
            rw [List.getElem?_eq_getElem kf]
            rfl
          rw [e9]
          exact h1 _ (List.mem_map_of_mem (f := (· * am)) (List.getElem_mem kf))
        obtain ⟨bs, ebl0, hbs0⟩ := id hbl
        have lbs := hbs0.len
        have kNZ : KeepD N1 Z := (KeepD.of x13).trans kZ
        have eblZ : Z bl = some (.lst (bs.map V.ref)) := kNZ _ _ ebl0 (fun _ z => nomatch z) (fun _ z => nomatch z)
        have hbsZ : All2 (PairAt K Z) bs (facV W ds p) := hbs0.mono fun _ _ _ _ r => kNZ.tup r
        refine ⟨(by show 0 ≤ sizeLine; decide), fun E0 hE0 => ?_⟩
        have z1 : Same Z (upd Z E0 (.lst [])) := same1 hE0
        have eE0 : (upd Z E0 (.lst []) : Hp) E0 = some (.lst ((elderV W gs (facV W ds p) am 0).map V.int)) := upd_same
        have nEF : F0 ≠ E0 := fun z => by
          rw [← z, eZ] at hE0
          cases hE0
        generalize upd Z E0 (.lst []) = Z1 at *
        have xZ1 : ExtN H Z1 := xZ.trans (same_ext z1)
        refine ⟨_, rfl, _, rfl, t0, _, _, _, rfl, rfl, exn_tup xZ1 h0, at_k (by decide) rfl, _, rfl, e0, rl, bl, _, _, _, rfl, exn_tup xZ1 he, exn_seq xZ1 hts, SqL.of (z1 _ _ eblZ), ?_⟩
        refine for_it (walk_zipG3 (K := K) (j := true) (k := false) (m := false) (a := e0) (b := rl) (c := bl) (xs := gs.map V.int) (ys := ts.map V.ref) (zs := bs.map V.ref) (n := W.beds.length) (by rw [List.length_map]; exact lg) (by rw [List.length_map]; exact lts) (by rw [List.length_map]; omega)) (fun k σ M => ∃ v8 v9 v10 : Option V, σ = [some (.ref t0), some (.ref e0), some (.int (p : Int)), some (.ref F0), some (.ref ta), some (.ref bl), some (.ref ua), some (.ref E0), v8, v9, v10, none] ∧ M E0 = some (.lst ((elderV W gs (facV W ds p) am k).map V.int)) ∧ Same Z M)
          ⟨v8, v9, v10, rfl, eE0, z1⟩ ?_ ?_ ?_
        · rintro k σ M _ ⟨_, _, _, rfl, _, sM⟩
          have xM := xZ.trans (same_ext sM)
          exact ⟨exn_tup xM he, exn_seq xM hts, SqL.of (sM _ _ eblZ)⟩
        · rintro k x σ M M' hk ⟨v8, v9, v10, rfl, eM, sM⟩ ⟨T1, x1, x2, x3, rfl, hT1, rfl, e1, e2, e3⟩
          have e1 : (gs.map V.int)[k]? = some x1 := e1
          have e2 : (ts.map V.ref)[k]? = some x2 := e2
          have e3 : (bs.map V.ref)[k]? = some x3 := e3
          have i1 : k < gs.length := by omega
          have i2 : k < ts.length := by omega
          have i3 : k < bs.length := by omega
          have i4 : k < (facV W ds p).length := by omega
          rw [List.getElem?_map, List.getElem?_eq_getElem i1] at e1
          rw [List.getElem?_map, List.getElem?_eq_getElem i2] at e2
          rw [List.getElem?_map, List.getElem?_eq_getElem i3] at e3
          obtain rfl := Option.some.inj e1
          obtain rfl := Option.some.inj e2
          obtain rfl := Option.some.inj e3
          have s3 : Same M (upd M T1 (.tup [.int gs[k], .ref ts[k], .ref bs[k]])) := same1 hT1
          refine ⟨T1, _, rfl, SqT.of upd_same, rfl, _, _, rfl, _, _, rfl, _, _, rfl, rfl, ?_⟩
          generalize upd M T1 (.tup [.int gs[k], .ref ts[k], .ref bs[k]]) = M1 at *
          have sM1 := sM.trans s3
          have eM1 := s3 _ _ eM
          have xM1 := xZ.trans (same_ext sM1)
          have ob := g.bed _ (List.getElem_mem hk)
          have e9 : gQ (facV W ds p) k = (facV W ds p)[k] := by
            unfold gQ
            rw [List.getElem?_eq_getElem i4]
            rfl
          have e8 : bedV W k = W.beds[k] := by
            unfold bedV
            rw [List.getElem?_eq_getElem hk]
            rfl
          have eg : (gs[k]?).getD 0 = gs[k] := by rw [List.getElem?_eq_getElem i1]; rfl
          have szk := szB k hk
          have szf : Sz 1500 (gQ (facV W ds p) k) := by rw [e9]; exact szfs _ (List.getElem_mem i4)
          have pf : PairAt K M1 bs[k] (gQ (facV W ds p) k) := by
            rw [e9]
            exact Same.tup sM1 (hbsZ.all k _ _ (List.getElem?_eq_getElem i3) (List.getElem?_eq_getElem i4))
          have hrw : RowAt K M1 ts[k] (bedV W k) := by
            rw [e8]
            obtain ⟨x, y, q1, q2, q3⟩ := hA.all k _ _ (List.getElem?_eq_getElem i2) (List.getElem?_eq_getElem hk)
            exact ⟨x, y, exn_tup xM1 q1, exn_tup xM1 q2, exn_tup xM1 q3⟩
          have obl : Sz 1500 (bedV W k).lo ∧ Sz 1500 (bedV W k).hi := by rw [e8]; exact ⟨ob.slo, ob.shi⟩
          have tke : elderV W gs (facV W ds p) am (k + 1) = elderV W gs (facV W ds p) am k ++ [gs[k] - mvV (bedV W k) (gQ (facV W ds p) k * am)] := by
            unfold elderV
            rw [List.range_succ, List.map_append, ← eg]
            rfl
          have lel := elder_len W gs (facV W ds p) am k
          generalize gQ (facV W ds p) k = fq at *
          refine ⟨_, rfl, .inl ⟨rfl, _, SqL.of eM1⟩, _, rfl, _, rfl, _, rfl, _, rfl, bs[k], ua, fq, am, rfl, pf, Same.tup sM1 pua, szf, sm.sz, fun y hy => ?_⟩
          have s4 : Same M1 (upd M1 y (.tup (prV (fq * am)))) := same1 hy
          have ey : PairAt K (upd M1 y (.tup (prV (fq * am)))) y (fq * am) := SqT.of upd_same
          generalize upd M1 y (.tup (prV (fq * am))) = M2 at *
          have eM2 := s4 _ _ eM1
          refine ⟨ts[k], y, bedV W k, fq * am, rfl, hrw.mono s4, ey, obl.1, obl.2, szk, _, _, rfl, rfl, E0, _, _, rfl, rfl, eM2, ?_, _, _, _, rfl, ?_, fun c o ec => ?_⟩
          · rw [List.length_map, lel]
            exact Nat.lt_of_lt_of_le (show k < 12 by omega) (show 12 ≤ sizeLine by decide)
          · rw [tke, List.map_append]
            exact upd_same
          · rw [upd_ne (ne_of_none ec hE0)]
            exact s4 _ _ (sM1 _ _ ec)
        rintro σ M ⟨v8, v9, v10, rfl, eM, sM⟩
        have lev := elder_len W gs (facV W ds p) am W.beds.length
        have evk : ∀ a ∈ (samplesV qs).take (j + 1), a ∈ (samplesV qs).take j ∨ a = am := fun a ha => by
          rw [tks] at ha
          exact (List.mem_append.mp ha).imp id fun z => List.mem_singleton.mp z
        generalize hev : elderV W gs (facV W ds p) am W.beds.length = ev at *
        have eFM := sM _ _ eZ
        refine ⟨_, rfl, E0, _, rfl, .inl ⟨SqL.of eM, fun q1 hq1 => ?_⟩⟩
        have s5 : Same M (upd M q1 (.tup (ev.map V.int))) := same1 hq1
        have eq1 : (upd M q1 (.tup (ev.map V.int)) : Hp) q1 = some (.tup (ev.map V.int)) := upd_same
        generalize upd M q1 (.tup (ev.map V.int)) = M1 at *
        have sZM1 := sM.trans s5
        refine ⟨_, rfl, F0, _, rfl, DGet.t (k := ev.map Sum.inl) (s5 _ _ eFM) (by rw [kv_ints]; exact eq1), ?_⟩
        rw [ent_val]
        by_cases c : ev ∈ ks'
        · rw [if_pos c]
          refine ⟨false, rfl, iteF ⟨_, _, _, _, _, ks', rfl, sZM1 _ _ eZ, nd', by omega, gk', sub, fun a ha la => ?_, TZ.ext sZM1, xZ.trans (same_ext sZM1), kZ.trans (KeepD.of (same_ext sZM1))⟩⟩
          rcases evk a ha with z | rfl
          · exact hk' a z la
          · rw [hev]
            exact c
        · rw [if_neg c]
          refine ⟨true, rfl, iteT ?_⟩
          have xM1 := xZ.trans (same_ext sZM1)
          refine ⟨_, rfl, _, rfl, E0, _, rfl, .inl ⟨SqL.of (s5 _ _ eM), fun q2 hq2 => ?_⟩⟩
          have s6 : Same M1 (upd M1 q2 (.tup (ev.map V.int))) := same1 hq2
          have eq2 : (upd M1 q2 (.tup (ev.map V.int)) : Hp) q2 = some (.tup (ev.map V.int)) := upd_same
          generalize upd M1 q2 (.tup (ev.map V.int)) = M2 at *
          have sZM2 := sZM1.trans s6
          have hWM := exn_world (xZ.trans (same_ext sZM2)) hW
          refine ⟨_, rfl, _, rfl, _, rfl, t0, ua, W, p, am, rfl, hWM, g, Same.tup sZM2 pua, fun Y1 al y1 nal hal => ?_⟩
          refine ⟨t0, q2, al, W, ev, atR W p am, Ra, 810, rfl, hWM.mono y1, g, SqT.of (y1 _ _ eq2), lev, hal.old, ro, fun Y2 ud bl2 ee y2 eud hbl2 hee => ?_⟩
          have sZY2 := sZM2.trans (y1.trans y2)
          have xY2 := xZ.trans (same_ext sZY2)
          refine ⟨ud, _, _, _, rfl, rfl, SqT.of eud, at_k (by decide) rfl, _, rfl, .tuple ((stepV W ev (atR W p am)).map PyData.int), .tuple (gs.map PyData.int), .tup hee (dps_ints _), .tup (exn_tup xY2 he) (dps_ints _), shaped_tupI _, shaped_tupI _, _, rfl, ?_⟩
          rw [eqv_tupI]
          by_cases ld9 : leadsTo W ev gs p am
          · have c' : stepV W ev (atR W p am) = gs := ld9
            rw [decide_eq_true c']
            refine iteT ?_
            have eE2 : Y2 E0 = some (.lst (ev.map V.int)) := (s6.trans (y1.trans y2)) _ _ (s5 _ _ eM)
            refine ⟨_, rfl, _, rfl, E0, _, rfl, .inl ⟨SqL.of eE2, fun q3 hq3 => ?_⟩⟩
            have s7 : Same Y2 (upd Y2 q3 (.tup (ev.map V.int))) := same1 hq3
            have eq3 : (upd Y2 q3 (.tup (ev.map V.int)) : Hp) q3 = some (.tup (ev.map V.int)) := upd_same
            generalize upd Y2 q3 (.tup (ev.map V.int)) = Y3 at *
            have sZY3 := sZY2.trans s7
            have eF3 := sZY3 _ _ eZ
            refine ⟨F0, _, rfl, DPut.t (k := ev.map Sum.inl) eF3 (by rw [kv_ints]; exact eq3) ?_, ?_⟩
            · unfold entK
              rw [List.length_map]
              exact Nat.lt_of_lt_of_le (show ks'.length < 2 ^ 16 by omega) (show 2 ^ 16 ≤ sizeLine by decide)
            rw [ent_put c]
            have kF : KeepD Y3 (upd Y3 F0 (.dT (entK (ks' ++ [ev])))) := fun b o eb _ nd9 => by
              rw [upd_ne (fun z => by rw [z, eF3] at eb; exact nd9 _ (Option.some.inj eb).symm)]
              exact eb
            refine ⟨_, _, _, _, _, ks' ++ [ev], rfl, upd_same, ?_, by rw [List.length_append]; show ks'.length + 1 ≤ _; omega, fun e he9 => ?_, fun e he9 => List.mem_append.mpr (.inl (sub e he9)), fun a ha la => ?_, ?_, ?_, kZ.trans ((KeepD.of (same_ext sZY3)).trans kF)⟩
            · rw [List.nodup_append]
              exact ⟨nd', by simp, fun a ha b hb => by rw [List.mem_singleton.mp hb]; exact fun z => c (by rw [← z]; exact ha)⟩
            · rcases List.mem_append.mp he9 with z | z
              · exact gk' e z
              · rw [List.mem_singleton.mp z]
                exact good_of g lg nn lev ld9
            · rcases evk a ha with z | rfl
              · exact List.mem_append.mpr (.inl (hk' a z la))
              · rw [hev]
                exact List.mem_append.mpr (.inr (List.mem_singleton.mpr rfl))
            · exact tabs_put (TZ.ext sZY3) eF3
            · intro b o eb nt
              have h3 := sZY3 _ _ (xZ _ _ eb nt)
              rw [upd_ne (ne_of_none eb hF0)]
              exact h3
          · have c' : ¬ stepV W ev (atR W p am) = gs := ld9
            rw [decide_eq_false c']
            refine iteF ⟨_, _, _, _, _, ks', rfl, sZY2 _ _ eZ, nd', by omega, gk', sub, fun a ha la => ?_, TZ.ext sZY2, xY2, kZ.trans (KeepD.of (same_ext sZY2))⟩
            rcases evk a ha with z | rfl
            · exact hk' a z la
            · rw [hev] at la
              exact absurd la ld9
      · rintro σ Z ⟨v6, v7, v8, v9, v10, ks', rfl, eZ, nd', lk', gk', sub, hk', TZ, xZ, kZ⟩
        rw [List.length_map, las, List.take_length] at hk'
        rw [List.length_map] at lk'
        refine ⟨_, _, _, _, _, _, _, ks', rfl, eZ, nd', by omega, gk', fun e ge me => ?_, TZ, xZ, kN.trans ((KeepD.of x03).trans kZ)⟩
        rw [tkr] at me
        rcases List.mem_append.mp me with z | z
        · exact sub e (hk e ge z)
        · have z := List.mem_singleton.mp z
          have ll := row_same (e := e) g (by rw [z]; exact hds)
          have ef := fac_ext ll p
          rw [ef] at pk
          obtain ⟨a, ha, la⟩ := good_has g lg ge pk fun q hq => (smp q hq).2
          have ee := (elder_iff g lg ge.1).mp la
          rw [← ef] at ee
          have := hk' a ha (by rw [← ee]; exact la)
          rw [← ee] at this
          exact this
    · rintro σ N ⟨v4, v5, v6, v7, v8, v9, v10, ks, rfl, eN, nd, lk, gk, hk, TN, xN, kN⟩
      rw [List.length_map, lra, ← rowsV_len (twosN W.parts), List.take_length] at hk
      refine ⟨_, rfl, F0, _, rfl, .of eN, fun L bs hL hbs => ?_⟩
      have s9 : Same N (upd N L (.lst (bs.map V.ref))) := same1 hL
      have eL : (upd N L (.lst (bs.map V.ref)) : Hp) L = some (.lst (bs.map V.ref)) := upd_same
      have hbs' := keys_all hbs
      generalize upd N L (.lst (bs.map V.ref)) = N2 at *
      obtain ⟨z1, z2, z3⟩ := all2_zip hbs'
      generalize bs.zip ks = ps at *
      subst z1
      refine ⟨L, ps, W.beds.length, rfl, by rw [List.map_map] at eL; exact SqL.of eL, (fun y hy => Same.tup s9 (SqT.of (z3 y hy))), (fun y hy => (gk y.2 (by rw [← z2]; exact List.mem_map_of_mem hy)).1), (fun z => ?_), fun rs b hpm hpw hb => ?_⟩
      · have l1 : ks.length ≤ 1 := by
          match ks, nd, gk with
          | [], _, _ => exact Nat.zero_le _
          | [a], _, _ => exact Nat.le_refl _
          | a :: b :: r, nd, gk =>
            have ha := (gk a (by simp)).1
            have hb := (gk b (by simp)).1
            rw [z] at ha hb
            rw [List.length_eq_zero_iff.mp ha, List.length_eq_zero_iff.mp hb] at nd
            simp at nd
        rw [← z2, List.length_map] at l1
        exact l1
      · have sb : Same N2 (upd N2 b (.lst (rs.map refP))) := same1 hb
        have nb : ∀ xs : List V, H b ≠ some (.lst xs) := fun xs e => by
          have h2 := s9 _ _ (xN _ _ e (fun _ z => nomatch z))
          rw [hb] at h2
          cases h2
        have pk2 : (rs.map Prod.snd).Perm ks := by
          rw [← z2]
          exact hpm.map _
        refine q _ b (rs.map Prod.snd) (xN.trans ((same_ext s9).trans (same_ext sb))) ((TN.ext s9).ext sb) nb ⟨rs, upd_same, (fun y hy => Same.tup (s9.trans sb) (SqT.of (z3 y (hpm.mem_iff.mp hy)))), rfl⟩ ?_ fun x => ?_
        · have nd2 : (rs.map Prod.snd).Nodup := pk2.nodup_iff.mpr nd
          refine (hpw.and nd2).imp fun {x y} h => ?_
          rcases List.le_iff_lt_or_eq.mp (List.not_lt.mp h.1) with z | z
          · exact z
          · exact absurd z h.2
        · rw [pk2.mem_iff]
          exact ⟨gk x, fun gx => hk x gx (row_good g x)⟩
end
end K64

namespace K64
open PySem PySem.Spec PyProof.Rows L2 LamX
/-! ### just the mornings told: mathematics -/
theorem mv_three {s t : Stre} {b : Bed} {f : Rat} {mv : Int} (e : movingV s b f mv = some t) : mv = -1 ∨ mv = 0 ∨ mv = 1 := by
  unfold movingV at e
  split at e
  · split at e
    · rename_i h
      unfold mvV at h
      split at h
      · exact .inr (.inr h.symm)
      · split at h
        · exact .inr (.inl h.symm)
        · exact .inl h.symm
    · cases e
  · split at e
    · rename_i h
      exact .inr (.inr h)
    · split at e
      · rename_i h
        exact .inl h
      · split at e
        · rename_i h
          exact .inr (.inl h)
        · cases e
abbrev trip (z : (Bed × Rat) × Int) : Bed × Rat × Int := (z.1.1, z.1.2, z.2)
theorem mem_parts : ∀ {l : List (Bed × Rat)} {ps : List (Stre × List Int)} {y : Stre × List Int}, y ∈ partsV l ps ↔ ∃ x ∈ ps, ∃ t : List Int, y.2 = x.2 ++ t ∧ t.length = l.length ∧ amtV ((l.zip t).map trip) x.1 = some y.1
  | [], ps, y => by
    constructor
    · intro h
      exact ⟨y, h, [], (List.append_nil _).symm, rfl, rfl⟩
    · rintro ⟨x, hx, t, h1, h2, h3⟩
      have := List.length_eq_zero_iff.mp h2
      subst this
      rw [List.append_nil] at h1
      have h3 : some x.1 = some y.1 := h3
      rw [show y = x from Prod.ext (Option.some.inj h3).symm h1]
      exact hx
  | b :: l, ps, y => by
    show y ∈ partsV l (ps.flatMap (nextP b.1 b.2)) ↔ _
    rw [mem_parts (l := l)]
    constructor
    · rintro ⟨x', hx', t, h1, h2, h3⟩
      obtain ⟨x, hx, hn⟩ := List.mem_flatMap.mp hx'
      obtain ⟨mv, _, e⟩ := List.mem_filterMap.mp hn
      obtain ⟨s, es, rfl⟩ := Option.map_eq_some_iff.mp e
      refine ⟨x, hx, mv :: t, ?_, by rw [List.length_cons, List.length_cons, h2], ?_⟩
      · rw [h1, List.append_assoc]
        rfl
      · show (movingV x.1 b.1 b.2 mv).bind (amtV ((l.zip t).map trip)) = _
        rw [es]
        exact h3
    · rintro ⟨x, hx, t, h1, h2, h3⟩
      match t, h2, h1, h3 with
      | mv :: t, h2, h1, h3 =>
        have h3 : (movingV x.1 b.1 b.2 mv).bind (amtV ((l.zip t).map trip)) = some y.1 := h3
        obtain ⟨s, es, h4⟩ := Option.bind_eq_some_iff.mp h3
        refine ⟨(s, x.2 ++ [mv]), List.mem_flatMap.mpr ⟨x, hx, List.mem_filterMap.mpr ⟨mv, ?_, ?_⟩⟩, t, ?_, by simpa using h2, h4⟩
        · rcases mv_three es with z | z | z <;> rw [z] <;> simp
        · unfold stepP
          rw [es]
          rfl
        · rw [h1, List.append_assoc]
          rfl
theorem ask_zip {W : WebV} {gs e : List Int} {p : Nat} (lg : gs.length = W.beds.length) (le : e.length = W.beds.length) (lf : (facV W e p).length = W.beds.length) : ((W.beds.zip (facV W e p)).zip (subD gs e)).map trip = askV W e gs p := by
  unfold askV
  refine List.ext_getElem? fun k => ?_
  by_cases hk : k < W.beds.length
  · have ls : (subD gs e).length = W.beds.length := by rw [subD_len]; omega
    have hz : (W.beds.zip (facV W e p))[k]? = some (W.beds[k], (facV W e p)[k]) := by
      rw [List.getElem?_zip_eq_some]
      exact ⟨List.getElem?_eq_getElem hk, List.getElem?_eq_getElem (by omega)⟩
    have hs : (subD gs e)[k]? = some (gs[k] - e[k]) := by
      unfold subD
      have : (gs.zip e)[k]? = some (gs[k], e[k]) := by
        rw [List.getElem?_zip_eq_some]
        exact ⟨List.getElem?_eq_getElem (by omega), List.getElem?_eq_getElem (by omega)⟩
      rw [List.getElem?_map, this]
      rfl
    have hzz : ((W.beds.zip (facV W e p)).zip (subD gs e))[k]? = some ((W.beds[k], (facV W e p)[k]), gs[k] - e[k]) := by
      rw [List.getElem?_zip_eq_some]
      exact ⟨hz, hs⟩
    rw [List.getElem?_map, hzz, List.getElem?_map, List.getElem?_range hk]
    unfold bedV gQ
    show some (W.beds[k], (facV W e p)[k], gs[k] - e[k]) = some ((W.beds[k]?).getD ⟨0, 0, 0, 0⟩, ((facV W e p)[k]?).getD 0, (gs[k]?).getD 0 - (e[k]?).getD 0)
    rw [List.getElem?_eq_getElem hk, List.getElem?_eq_getElem (show k < (facV W e p).length by omega), List.getElem?_eq_getElem (show k < gs.length by omega), List.getElem?_eq_getElem (show k < e.length by omega)]
    rfl
  · rw [List.getElem?_eq_none (by rw [List.length_map, List.length_zip, List.length_zip]; omega), List.getElem?_eq_none (by rw [List.length_map, List.length_range]; omega)]
theorem sub_sub : ∀ {gs ms : List Int}, gs.length = ms.length → subD gs (subD gs ms) = ms
  | [], [], _ => rfl
  | g :: gs, m :: ms, h => by
    have ih := sub_sub (gs := gs) (ms := ms) (Nat.succ.inj h)
    show (g - (g - m)) :: subD gs (subD gs ms) = m :: ms
    rw [ih]
    congr 1
    omega
theorem mem_any {W : WebV} (g : GoodWeb W) {gs : List Int} (lg : gs.length = W.beds.length) {p : Nat} {x : List Int × Stre} : x ∈ anyU W gs p ↔ x.1.length = W.beds.length ∧ amtV (askV W x.1 gs p) allS = some x.2 := by
  unfold anyU
  rw [List.mem_flatMap]
  constructor
  · rintro ⟨ls, _, hx⟩
    obtain ⟨y, hy, e⟩ := List.mem_filterMap.mp hx
    obtain ⟨d, ed, rfl⟩ := Option.map_eq_some_iff.mp e
    have lf : (facL W ls p).length = W.beds.length := flow_all g _ _
    obtain ⟨x0, hx0, t, h1, h2, h3⟩ := mem_parts.mp hy
    rw [List.mem_singleton.mp hx0] at h1 h3
    have h1 : y.2 = t := h1
    rw [List.length_zip] at h2
    unfold ledV at ed
    split at ed
    · rename_i hl
      obtain rfl := Option.some.inj ed
      rw [h1] at hl
      have lt : t.length = gs.length := by omega
      have le : (subD gs t).length = W.beds.length := by rw [subD_len]; omega
      have ef : facV W (subD gs t) p = facL W ls p := by
        show (flowV W (leadsV (gapsV W (subD gs t))) (atR W p 1) W.many).2 = _
        rw [hl]
        rfl
      show (subD gs y.2).length = _ ∧ amtV (askV W (subD gs y.2) gs p) allS = some y.1
      rw [h1]
      refine ⟨le, ?_⟩
      rw [← ask_zip lg le (by rw [ef]; exact lf), ef, sub_sub (by omega)]
      exact h3
    · cases ed
  · rintro ⟨le, e⟩
    have lf : (facV W x.1 p).length = W.beds.length := flow_all g _ _
    have ls := subD_len gs x.1
    refine ⟨leadsV (gapsV W x.1), leads_all g x.1, List.mem_filterMap.mpr ⟨(x.2, subD gs x.1), ?_, ?_⟩⟩
    · refine mem_parts.mpr ⟨(allS, []), List.mem_singleton.mpr rfl, subD gs x.1, rfl, ?_, ?_⟩
      · rw [List.length_zip]
        have : (facL W (leadsV (gapsV W x.1)) p).length = W.beds.length := flow_all g _ _
        omega
      · have := ask_zip lg le lf (p := p)
        show amtV (((W.beds.zip (facV W x.1 p)).zip (subD gs x.1)).map trip) allS = some x.2
        rw [this]
        exact e
    · unfold ledV
      rw [sub_sub (by omega), if_pos rfl]
      rfl
theorem parts_nodup : ∀ {l : List (Bed × Rat)} {ps : List (Stre × List Int)} {n : Nat}, ps.Pairwise (fun x y => x.2 ≠ y.2) → (∀ x ∈ ps, x.2.length = n) → (partsV l ps).Pairwise (fun x y => x.2 ≠ y.2)
  | [], _, _, h, _ => h
  | b :: l, ps, n, h, hn => by
    show (partsV l (ps.flatMap (nextP b.1 b.2))).Pairwise _
    have st : ∀ {x z : Stre × List Int}, z ∈ nextP b.1 b.2 x → ∃ mv, z.2 = x.2 ++ [mv] := fun {x z} hz => by
      obtain ⟨mv, _, e⟩ := List.mem_filterMap.mp hz
      obtain ⟨s, _, rfl⟩ := Option.map_eq_some_iff.mp e
      exact ⟨mv, rfl⟩
    refine parts_nodup (n := n + 1) ?_ fun z hz => ?_
    · rw [List.pairwise_flatMap]
      refine ⟨fun x _ => ?_, ?_⟩
      · unfold nextP
        rw [List.pairwise_filterMap]
        have nd : ([-1, 0, 1] : List Int).Pairwise (· ≠ ·) := by decide
        refine nd.imp fun {m1 m2} ne y hy z hz e => ?_
        obtain ⟨_, _, rfl⟩ := Option.map_eq_some_iff.mp hy
        obtain ⟨_, _, rfl⟩ := Option.map_eq_some_iff.mp hz
        have e : x.2 ++ [m1] = x.2 ++ [m2] := e
        have := List.append_cancel_left e
        exact ne (by simpa using this)
      · refine h.imp_of_mem fun {x y} hx hy ne z hz z' hz' e => ?_
        obtain ⟨m1, e1⟩ := st hz
        obtain ⟨m2, e2⟩ := st hz'
        rw [e1, e2] at e
        have := List.append_inj_left e (by rw [hn x hx, hn y hy])
        exact ne this
    · obtain ⟨x, hx, hz⟩ := List.mem_flatMap.mp hz
      obtain ⟨mv, e⟩ := st hz
      rw [e, List.length_append, hn x hx]
      rfl
theorem any_nodup {W : WebV} (g : GoodWeb W) {gs : List Int} (lg : gs.length = W.beds.length) (p : Nat) : (anyU W gs p).Pairwise (fun x y => x.1 ≠ y.1) := by
  unfold anyU
  rw [List.pairwise_flatMap]
  have at_ : ∀ {ls : List Bool} {x : List Int × Stre}, x ∈ anyL W gs p ls → leadsV (gapsV W x.1) = ls := fun {ls x} hx => by
    obtain ⟨y, hy, e⟩ := List.mem_filterMap.mp hx
    obtain ⟨d, ed, rfl⟩ := Option.map_eq_some_iff.mp e
    unfold ledV at ed
    split at ed
    · rename_i hl
      obtain rfl := Option.some.inj ed
      exact hl
    · cases ed
  refine ⟨fun ls _ => ?_, (nodup_allL W.parts).imp fun {a b} ne x hx y hy e => ?_⟩
  · unfold anyL
    rw [List.pairwise_filterMap]
    have lf : (facL W ls p).length = W.beds.length := flow_all g _ _
    have mvl : ∀ y ∈ partsV (W.beds.zip (facL W ls p)) [(allS, [])], y.2.length = gs.length := fun y hy => by
      have := partsV_mv (l := W.beds.zip (facL W ls p)) (ps := [(allS, [])]) (n := 0) (fun z hz => by rw [List.mem_singleton.mp hz]; rfl) y hy
      rw [List.length_zip] at this
      omega
    refine (parts_nodup (l := W.beds.zip (facL W ls p)) (n := 0) (List.pairwise_singleton _ _) fun z hz => by rw [List.mem_singleton.mp hz]; rfl).imp_of_mem fun {y z} hy hz ne x hx x' hx' e => ?_
    obtain ⟨d, ed, rfl⟩ := Option.map_eq_some_iff.mp hx
    obtain ⟨d', ed', rfl⟩ := Option.map_eq_some_iff.mp hx'
    have e : d = d' := e
    unfold ledV at ed ed'
    split at ed
    · split at ed'
      · have e1 := Option.some.inj ed
        have e2 := Option.some.inj ed'
        rw [← e1, ← e2] at e
        have l1 := mvl y hy
        have l2 := mvl z hz
        have := congrArg (subD gs) e
        rw [sub_sub (by omega), sub_sub (by omega)] at this
        exact ne this
      · cases ed'
    · cases ed
  · exact ne (by rw [← at_ hx, ← at_ hy, e])
/-- the depths of what is told, rising -/
theorem any_up {W : WebV} (g : GoodWeb W) {gs : List Int} (lg : gs.length = W.beds.length) (p : Nat) : ((sortY (anyU W gs p)).map Prod.fst).Pairwise (· < ·) := by
  have pm := List.mergeSort_perm (anyU W gs p) leY
  have h := List.pairwise_mergeSort (le := leY) (fun a b c h1 h2 => by
    have h1 : ¬ b.1 < a.1 := by simpa [leY] using h1
    have h2 : ¬ c.1 < b.1 := by simpa [leY] using h2
    have : ¬ c.1 < a.1 := List.not_lt.mpr (List.le_trans (List.not_lt.mp h1) (List.not_lt.mp h2))
    simpa [leY] using this) (fun a b => by
    rcases List.le_total a.1 b.1 with h | h
    · have h : ¬ b.1 < a.1 := List.not_lt.mpr h
      simp [leY, h]
    · have h : ¬ a.1 < b.1 := List.not_lt.mpr h
      simp [leY, h]) (anyU W gs p)
  have nd : (sortY (anyU W gs p)).Pairwise (fun x y => x.1 ≠ y.1) := pm.pairwise_iff (fun {x y} h e => h e.symm) |>.mpr (any_nodup g lg p)
  rw [List.pairwise_map]
  refine (h.and nd).imp fun {x y} h => ?_
  have h1 : ¬ y.1 < x.1 := by simpa [leY] using h.1
  rcases List.le_iff_lt_or_eq.mp (List.not_lt.mp h1) with z | z
  · exact z
  · exact absurd z h.2
/-- .. are just the mornings from which some looked at amount leads there -/
theorem any_eld {W : WebV} (g : GoodWeb W) {gs : List Int} (lg : gs.length = W.beds.length) {p : Nat} {es : List (List Int)} (up : es.Pairwise (· < ·)) (h : ∀ x, x ∈ es ↔ GoodE W gs p x) : es = (sortY (anyU W gs p)).map Prod.fst := by
  have pm := List.mergeSort_perm (anyU W gs p) leY
  have up2 := any_up g lg p
  have nd : ∀ {l : List (List Int)}, l.Pairwise (· < ·) → l.Nodup := fun {l} p => p.imp fun {a b} z e => (by rw [e] at z; exact List.lt_irrefl _ z)
  refine List.Perm.eq_of_pairwise (le := fun x y : List Int => x < y) (fun a b _ _ x y => absurd (List.lt_trans x y) (List.lt_irrefl _)) up up2 ?_
  refine (List.perm_ext_iff_of_nodup (nd up) (nd up2)).mpr fun x => ?_
  rw [h, List.mem_map]
  constructor
  · rintro ⟨le, s, e⟩
    exact ⟨(x, s), pm.mem_iff.mpr ((mem_any g lg).mpr ⟨le, e⟩), rfl⟩
  · rintro ⟨y, hy, rfl⟩
    obtain ⟨le, e⟩ := (mem_any g lg).mp (pm.mem_iff.mp hy)
    exact ⟨le, _, e⟩
end K64

/-! ### != of tuples whose items have an own == -/
namespace K64.GN
open PySem PySem.SeqAt
open AutoSeq1 (wpAny_loadPart')
open MeetsSeq MeetsSeq2 MeetsSeq3 SeqRoads2
section
variable {prog : Program} {w : World} {A : Around} {R : Result → Shared → Prop}
theorem tuple_neG (l b : Addr) (items items2 : Array Value) (n n2 : Nat) (dd dd2 : Option Addr) (sl sl2 : Array (Option Value)) (hsz : items.size = items2.size) (I : Nat → Shared → Prop)
    (turn : ∀ i (h1 : i < items.size) (h2 : i < items2.size) s, I i s → wpAny (model prog w) A.in1 (eqBool items[i] items2[i]) (fun r s' => r = true ∧ I (i + 1) s') (fun e s' => R (.error e) s') s)
    (fin : ∀ s, I items.size s → R (.ok (.ret (.bool false))) s) {s : Shared} (hl1 : s.heap.get? l = some { cls := .type "tuple", dict := dd, data := .seq items n, slots := sl }) (hb1 : s.heap.get? b = some { cls := .type "tuple", dict := dd2, data := .seq items2 n2, slots := sl2 }) (h : I 0 s) :
    wpAny (model prog w) A.in1 (Builtin.«tuple.__ne__» ⟨[.ref l, .ref b], []⟩) (GQ.FinOf prog w A R) (fun e s' => R (.error e) s') s := by
  have sub := AutoSeq1.sub_tuple_tuple
  have lz : (items.toList.zip items2.toList).length = items.size := by simp [hsz]
  have start := h
  obtain ⟨hp, g, d, tk, os⟩ := s
  wp_walk using wpAny_loadPart' hl1, wpAny_loadPart' hb1, wpAny_forIn_list _ (fun rest b s' => b.1 = none ∧ ∃ i, rest = (items.toList.zip items2.toList).drop i ∧ i ≤ items.size ∧ I i s') _
  case turn =>
    rintro ⟨y, x⟩ rest b s' ⟨nb, i, hz, hi, q⟩
    have il : i < (items.toList.zip items2.toList).length := Nat.lt_of_not_le fun c => by
      rw [List.drop_of_length_le c] at hz
      cases hz
    have i1 : i < items.size := by omega
    have i2 : i < items2.size := by omega
    rw [List.drop_eq_getElem_cons il] at hz
    obtain ⟨exy, er⟩ := List.cons.inj hz
    obtain rfl : y = items[i] := by simpa using congrArg Prod.fst exy
    obtain rfl : x = items2[i] := by simpa using congrArg Prod.snd exy
    refine wpAny_bind (wpAny_mono (turn i i1 i2 s' q) (fun r s2 ⟨er', q2⟩ => ?_) fun _ _ z => z)
    subst er'
    wp_walk
    exact ⟨rfl, i + 1, er, i1, q2⟩
  case fin =>
    rintro ⟨b1, b2⟩ s' ⟨nb, i, hz, hi, q⟩
    simp only at nb
    subst nb
    have ge : items.size ≤ i := Nat.le_of_not_lt fun c => by
      rw [List.drop_eq_getElem_cons (by omega)] at hz
      cases hz
    obtain rfl : i = items.size := by omega
    have q' := fin s' q
    wp_walk
    simpa [Builtin.Tuple.tupleCompareSizes, hsz] using q'
  case h =>
    exact ⟨rfl, 0, rfl, Nat.zero_le _, start⟩
end
section
variable {prog : Program} {w : World} {A : Around} {E : Value → Shared → Prop} {s : Shared}
theorem rn_tupG {l b : Addr} {items items2 : Array Value} {Q : Value → Shared → Prop} (hsz : items.size = items2.size) (hu : A.units < cLine) (I : Nat → Shared → Prop) (hl : s.heap.IsTuple l items) (hb : s.heap.IsTuple b items2)
    (turn : ∀ i (h1 : i < items.size) (h2 : i < items2.size) s, I i s → wpAny (model prog w) A.in1 (eqBool items[i] items2[i]) (fun r s' => r = true ∧ I (i + 1) s') E s)
    (fin : ∀ s, I items.size s → Q (.bool false) s) (h : I 0 s) : wpAny (model prog w) A (richCompare .NotEq (.ref l) (.ref b)) Q E s := by
  obtain ⟨⟨cls, dd, data, sl⟩, ho, hc, n, hd⟩ := id hl
  obtain ⟨⟨cls2, dd2, data2, sl2⟩, ho2, hc2, n2, hd2⟩ := id hb
  simp only at hc hd hc2 hd2
  subst hc hd hc2 hd2
  refine wpAny_richCompare_same_room (op := .NotEq) ⟨_, ho, rfl⟩ ⟨_, ho2, rfl⟩ F.slot_tuple_ne (GQ.call_here F.slot_tuple_ne ⟨_, ho, rfl⟩ F.entry_tuple_ne (F.args_tuple_ne_2 _ _) ?_) hu
  exact tuple_neG (R := wants (fun v s' => v ≠ .notImplemented ∧ Q v s') E) l b items items2 n n2 dd dd2 sl sl2 hsz I turn (fun s' q => ⟨(fun x => nomatch x), fin s' q⟩) ho ho2 h
end
end K64.GN
namespace K64
open PySem PySem.Spec PyProof.Rows L2
theorem rcN_tup {X : Cx} {n : Nat} {D : Eqv} (hD : Mon D) (h : EqG X n D) : RcN X (n + 1) (DTup X.K D) := by
  intro A pins s σ H x y u v sb I rx ry d
  obtain ⟨a, b, xs, ys, rfl, rfl, ha, hb, p⟩ := d
  cases rx
  cases ry
  obtain ⟨its, r, e, _⟩ := I.tuple ha
  obtain ⟨its2, r2, e2, _⟩ := I.tuple hb
  have hsz : its.toArray.size = its2.toArray.size := by rw [List.size_toArray, List.size_toArray, ← r.length, ← r2.length]; exact p.1
  exact GN.rn_tupG hsz sb.room.units0 (fun _ s' => LoopI X pins σ H s') e e2 (fun i h1 h2 s' q => turnG hD h sb p r r2 i h1 h2 s' q) (fun s' q => ⟨rfl, q⟩) ⟨H, I, Ext.rfl'⟩
end K64

namespace K64
open PySem PySem.Spec PyProof.Rows L2
/-! ### whether all mornings that lead to depths are told -/
def tupD (e : List Int) : PyData := .tuple (e.map PyData.int)
theorem eqv_intsD : ∀ l m : List Int, PyData.eqvAll (l.map PyData.int) (m.map PyData.int) = decide (l = m)
  | [], [] => by simp [PyData.eqvAll]
  | [], _ :: _ => by simp [PyData.eqvAll]
  | _ :: _, [] => by simp [PyData.eqvAll]
  | a :: l, b :: m => by
    have := eqv_intsD l m
    simp only [List.map_cons, PyData.eqvAll, PyData.eqv, this]
    by_cases h : a = b
    · subst h
      simp
    · have h2 : (a == b) = false := beq_false_of_ne h
      rw [h2]
      simp [h]
theorem eqv_tupD (l m : List Int) : PyData.eqv (tupD l) (tupD m) = decide (l = m) := by
  unfold tupD
  rw [PyData.eqv]
  exact eqv_intsD l m
theorem can_ints : ∀ ns : List Int, PyData.canLayAll0 (ns.map PyData.int) = true
  | [] => by simp [PyData.canLayAll0]
  | n :: r => by simp [PyData.canLayAll0, PyData.canLay0, can_ints r]
theorem dep_ints : ∀ ns : List Int, PyData.depthAll (ns.map PyData.int) ≤ 1
  | [] => by simp [PyData.depthAll]
  | n :: r => by
    have := dep_ints r
    simp only [List.map_cons, PyData.depthAll, PyData.depth]
    omega
theorem can_tups : ∀ es : List (List Int), PyData.canLayAll0 (es.map tupD) = true
  | [] => by simp [PyData.canLayAll0]
  | e :: r => by
    have := can_ints e
    simp [PyData.canLayAll0, PyData.canLay0, tupD, can_tups r]
    simpa using this
theorem dep_tups : ∀ es : List (List Int), PyData.depthAll (es.map tupD) ≤ 2
  | [] => by simp [PyData.depthAll]
  | e :: r => by
    have h1 := dep_tups r
    have h2 := dep_ints e
    simp only [List.map_cons, PyData.depthAll, PyData.depth, tupD]
    omega
theorem shaped_tup (e : List Int) : SeqAt.shaped (tupD e) = true := by
  have h1 := can_ints e
  have h2 := dep_ints e
  have h3 : PyData.depth (tupD e) ≤ 64 := by simp only [PyData.depth, tupD]; omega
  show (PyData.canLay0 (tupD e) && decide (PyData.depth (tupD e) ≤ 64)) = true
  rw [Bool.and_eq_true]
  exact ⟨by simp only [PyData.canLay0, tupD]; exact h1, decide_eq_true h3⟩
theorem shaped_tups (es : List (List Int)) : SeqAt.shaped (.list (es.map tupD)) = true := by
  have h1 := can_tups es
  have h2 := dep_tups es
  have h3 : PyData.depth (.list (es.map tupD)) ≤ 64 := by simp only [PyData.depth]; omega
  show (PyData.canLay0 (.list (es.map tupD)) && decide (PyData.depth (.list (es.map tupD)) ≤ 64)) = true
  rw [Bool.and_eq_true]
  exact ⟨by simp only [PyData.canLay0]; exact h1, decide_eq_true h3⟩
theorem eqv_self {d : PyData} (h : SeqAt.shaped d = true) : PyData.eqv d d = true := by
  refine SeqAt.eqv_refl _ ?_
  unfold SeqAt.shaped at h
  rw [Bool.and_eq_true] at h
  exact h.1
theorem dp_tups {K : PySem.W.Frag} {H : Hp} : ∀ ps : List (Addr × List Int), (∀ p ∈ ps, SqT K H p.1 (p.2.map V.int)) → DpAll K H (ps.map refP) ((ps.map Prod.snd).map tupD)
  | [], _ => .nil
  | p :: r, h => .cons (.tup (h p (List.mem_cons_self ..)) (dps_ints _)) (dp_tups r fun q hq => h q (List.mem_cons_of_mem _ hq))
theorem dp_bef {K : PySem.W.Frag} {H : Hp} {l : Addr} {es : List (List Int)} (h : BefAt K H l es) : Dp K H (.ref l) (.list (es.map tupD)) := by
  obtain ⟨ps, e, a, rfl⟩ := h
  exact .lst (SqL.of e) (dp_tups ps a)
theorem BefAt.mono {K : PySem.W.Frag} {H H' : Hp} {l : Addr} {es : List (List Int)} (h : BefAt K H l es) (s : Same H H') : BefAt K H' l es := by
  obtain ⟨ps, e, a, b⟩ := h
  exact ⟨ps, s _ _ e, fun p hp => Same.tup s (a p hp), b⟩
theorem stepL_len {W : WebV} (g : GoodWeb W) {ds : List Int} (ld : ds.length = W.beds.length) (qs : List Rat) : (stepV W ds qs).length = W.beds.length := by
  have lB : (dayV W ds qs).2.length = W.beds.length := flow_all g _ qs
  unfold stepV addV movesV
  rw [List.length_map, List.length_zip, List.length_map, List.length_zip, lB]
  omega
end K64

namespace K64
open PySem PySem.Spec PyProof.Rows L2 LamX
/-! ### whether depths told have just the amounts that lead on -/
theorem told_sz {W : WebV} (g : GoodWeb W) (lb : ∀ b ∈ W.beds, LimB b) {ds gs : List Int} {p : Nat} {qs : List Rat} (pk : PtsOk (marksE W.beds (facV W ds p) (W.beds.zip (facV W ds p)).length) qs) : ∀ s, amtV (askV W ds gs p) allS = some s → SzS s := fun s e => by
  obtain ⟨m1, m2, _⟩ := told_ends g pk e
  have pt : ∀ x ∈ qs, Sz 1500 x := fun x hx => (pt_of g lb ((pk.mem x).mp hx).1).sz.up (by decide)
  exact ⟨pt _ m1, fun h e => pt _ (m2 h e)⟩
theorem fdiv_sz {W : WebV} (g : GoodWeb W) (lb : ∀ b ∈ W.beds, LimB b) {f : Rat} (hf : Lim (LL ^ W.many) 321 f) (f0 : 0 < f) : ∀ b ∈ W.beds, Sz 1500 (b.lo / f) ∧ Sz 1500 (b.hi / f) := fun b hb => by
  obtain ⟨b1, b2⟩ := lb b hb
  rw [Rat.div_def, Rat.div_def]
  exact ⟨(pt_mark b1 hf (LLp_pos _) (LLp_le8 g.m8) f0).sz.up (by decide), (pt_mark b2 hf (LLp_pos _) (LLp_le8 g.m8) f0).sz.up (by decide)⟩
theorem strN {X : Cx} {n : Nat} {C f : Addr} (O : OwnEq X n C f) : RcN X (n + 1) (DStr X.K C) := by
  have h : RcG X n (DShe C) := by
    intro A pins s σ H x y u v sb I rx ry d
    obtain ⟨a, b, q, rfl, rfl, ha, hb⟩ := d
    cases rx
    cases ry
    refine wpAny_mono (rc_two O sb I ha hb) (fun r s' z => ?_) fun _ _ z => z
    obtain ⟨rfl, I'⟩ := z
    refine ⟨?_, H, I', Ext.rfl'⟩
    rw [decide_eq_true rfl, decide_eq_true rfl]
    rfl
  have e : EqG X n (DShe C) := h.eqG fun _ _ _ d => let ⟨a, b, _, hx, hy, _⟩ := d; ⟨a, b, hx, hy⟩
  exact rcN_tup (mon_flat.or mon_she) ((eqG_flat.mono (Nat.zero_le n)).or e)
def spTdR (K : PySem.W.Frag) (C CW : Addr) (T : List (Addr × Str)) : Sp := fun vs H Q _ => ∃ (nw t e r : Addr) (W : WebV) (gs : List Int) (p : Nat) (x : List Int × Stre), vs = [.ref nw, .ref t, .ref e, .int (p : Int), .ref r] ∧ WebAt K C CW H nw W ∧ WorldAt K H t W ∧ GoodWeb W ∧ (∀ b ∈ W.beds, LimB b) ∧ SqT K H e (gs.map V.int) ∧ gs.length = W.beds.length ∧ p < W.many ∧
  RowY K C H r x ∧ x ∈ anyU W gs p ∧ Tabs T H ∧ ∀ H' : Hp, ExtN H H' → Tabs T H' → Q (.bl true) H'
theorem exn_web {K : PySem.W.Frag} {C CW : Addr} {H H' : Hp} {w : Addr} {W : WebV} (k : ExtN H H') (h : WebAt K C CW H w W) : WebAt K C CW H' w W := by
  obtain ⟨dx, b, pp, e, ⟨ts, u, u2⟩, ⟨us, v, v2⟩, g⟩ := h
  have sh : ∀ {a : Addr} {q : Rat}, ShQ C H a q → ShQ C H' a q := fun {a q} ⟨d, e⟩ => ⟨d, k _ _ e (fun _ z => nomatch z)⟩
  exact ⟨dx, b, pp, k _ _ e (fun _ z => nomatch z), ⟨ts, k _ _ u (fun _ z => nomatch z), u2.mono fun _ _ _ _ ⟨x, y, r1, r2, r3⟩ => ⟨x, y, exn_tup k r1, sh r2, sh r3⟩⟩, ⟨us, k _ _ v (fun _ z => nomatch z), v2.mono fun _ _ _ _ r => exn_tup k r⟩, g⟩
theorem exn_pairs {K : PySem.W.Frag} {H H' : Hp} {l : Addr} {qs : List Rat} (k : ExtN H H') (h : PairsT K H l qs) : PairsT K H' l qs := by
  obtain ⟨ts, u, v⟩ := h
  exact ⟨ts, k _ _ u (fun _ z => nomatch z), v.mono fun _ _ _ _ r => exn_tup k r⟩
section
variable {P : Program} {w : World} {K : PySem.W.Frag} {mg : Str → Option Value} {base : Heap}
abbrev trN : List Str := ["net", "spec", "goal", "spot", "told", "old", "amounts", "points", "some", "shares", "one"]
theorem scTr : FnScope trN ["net", "spec", "goal", "spot", "told"] (defScope d_law_told_right) := ⟨rfl, rfl, rfl, by decide +kernel, rfl, by decide +kernel, by decide +kernel⟩
theorem ok_tdR {T : List (Addr × Str)} {f f1 f2 f3 f4 f5 f6 f7 fE fB fT C CW : Addr} {fd fd1 fd2 fd3 fd4 fd5 fd6 fd7 fdE fdB fdT : FuncData} (F : Fun K "_law_told_right" "_law_told_right" d_law_told_right f fd) (Y : TxtW mg C)
    (GE : FnOk P w K mg base CX0 1 fE fdE ["self", "other"] (spEqS K C)) (bE : Binds K fdE ["self", "other"] []) (atE : PySem.W.findIn K (.ref C) "__eq__" = some (some (.ref fE))) (isE : PySem.W.isFn K (.ref fE) = true)
    (AP : At P w K mg base CX0 5 "_law_points" ["spec", "deep", "spot"] (spPoints K T) f1 fd1) (AE : At P w K mg base CX0 6 "_law_leading" ["spec", "old", "goal", "spot"] (spLeading K T) f2 fd2) (AT : At P w K mg base CX0 2 "_law_is_stretch" ["amounts", "points"] (spIsStr K C) f3 fd3)
    (AS : At P w K mg base CX0 3 "_law_samples" ["points"] (spSamp K) f4 fd4) (AI : At P w K mg base CX0 2 "_law_is_in" ["amounts", "one"] (spIsIn K C) f5 fd5) (AH : At P w K mg base CX0 4 "_law_share" ["pair"] (spShareP K C) f6 fd6) (AL : At P w K mg base CX0 1 "_law_at" ["spec", "spot", "amount"] (spAtL K) f7 fd7)
    (GB : FnOk P w K mg base CX0 7 fB fdB ["web", "depths", "rain"] (spBefore K C CW)) (mB : mg "before" = some (.ref fB)) (kB : PySem.W.keepIn K (.ref fB) = true) (bB : KBn K fdB ["web", "depths", "rain"] 2 ["rain"] (fun us ws => us ++ ws) (fun vs zs => vs ++ zs))
    (GT : FnOk P w K mg base CX0 8 fT fdT ["web", "depths", "later", "place"] (spBetw K C CW)) (mT : mg "rains_between" = some (.ref fT)) (kT : PySem.W.keepIn K (.ref fT) = true) (bT : KBn K fdT ["web", "depths", "later", "place"] 3 ["place"] (fun us ws => us ++ ws) (fun vs zs => vs ++ zs)) :
    FnOk P w K mg base CX0 9 f fd ["net", "spec", "goal", "spot", "told"] (spTdR K C CW T) := by
  refine F.ok scTr (fun vs H Q E h => ?_) (fun cdv A outer s H vs Q E hr h => ?_)
  · obtain ⟨_, _, _, _, _, _, _, _, rfl, _⟩ := h
    rfl
  · obtain ⟨nw, t0, e0, r0, W, gs, p, xv, rfl, hnw, hW, g, lb, he, lg, hp, hrow, hx, hT, q⟩ := h
    have r1 : Room 1 _ := hr.mono (by decide)
    have r2 : Room 2 _ := hr.mono (by decide)
    have r3 : Room 3 _ := hr.mono (by decide)
    have r4 : Room 4 _ := hr.mono (by decide)
    have r5 : Room 5 _ := hr.mono (by decide)
    have r6 : Room 6 _ := hr.mono (by decide)
    have r7 : Room 7 _ := hr.mono (by decide)
    have r8 : Room 8 _ := hr.mono (by decide)
    have hu2 : (A.deeper (envOfC "_law_told_right" (defScope d_law_told_right) s.heap.objs.size f cdv)).units + 65 < cLine := by
      have h1 := hr.un
      omega
    have own : OwnEq (cxOf CX0 P w K mg base trN "_law_told_right" (defScope d_law_told_right) f cdv A outer s H E).nox 1 C fE := ⟨⟨_, _, GE, bE⟩, atE, isE⟩
    refine ⟨_, pss_cons (ps_asg (pv 4) (pg_tup (by rfl) (pgs_cons (pg_name (i := 5) scTr.nd rfl (.inl rfl)) (pgs_cons (pg_name (i := 6) scTr.nd rfl (.inr rfl)) pgs_nil))))
      (pss_cons (ps_set (i := 7) scTr.nd rfl (Or.inl rfl) (pe_call AP.G r5 rfl AP.m AP.k AP.b .nil pass0 (pa_cons (pv 1) (pa_cons (pv 5) (pa_cons (pv 3) pa_nil)))))
      (pss_cons (ps_set (i := 8) scTr.nd rfl (Or.inl rfl) (pe_call AE.G r6 rfl AE.m AE.k AE.b .nil pass0 (pa_cons (pv 1) (pa_cons (pv 5) (pa_cons (pv 2) (pa_cons (pv 3) pa_nil))))))
      (pss_cons (ps_if (PW.pt (pw_or (pt_not (pt_val (pe_call AT.G r2 rfl AT.m AT.k AT.b .nil pass0 (pa_cons (pv 6) (pa_cons (pv 7) pa_nil))))) (pw_or1 (pt_cmpR (op_neG (strN own) r2) (pv 6) (pe_callN GT r8 rfl mT kT bT pass0 (pa_cons (pv 0) (pa_cons (pv 5) (pa_cons (pv 2) pa_nil))) (pk_cons (pv 3) pk_nil)) (nomark _))))) (pss_one (ps_ret pe_bl)) pss_nil)
      (pss_cons (ps_if (pt_cmpR (op_neD hr.units) (pe_lc (own := [("one", 10)]) (g := gName 10) (by rfl) scTr.nd (pi_list (pe_call AS.G r3 rfl AS.m AS.k AS.b .nil pass0 (pa_cons (pv 7) pa_nil))) (blkOk_by (own := [("one", 10)]) (N := trN) (sc := defScope d_law_told_right) (by decide +kernel)) (fun _ _ _ _ _ => pg_name (i := 10) scTr.nd rfl (.inl rfl))
          (fun _ _ _ _ _ => pts_one (pt_val (pe_call AI.G r2 rfl AI.m AI.k AI.b .nil pass0 (pa_cons (pv 6) (pa_cons (pv 10) pa_nil))))) (fun _ _ _ _ _ => pv 10)) (pv 8) (nomark _)) (pss_one (ps_ret pe_bl)) pss_nil)
      (pss_cons (ps_set (i := 9) scTr.nd rfl (Or.inl rfl) (pe_callTy (cr_tup (K := K) rfl) (by rfl) Y.tuple (by decide +kernel) (pa_cons
          (pe_lc (own := [("one", 10)]) (g := gName 10) (by rfl) scTr.nd (pi_list (pe_call AL.G r1 rfl AL.m AL.k AL.b .nil pass0 (pa_cons (pv 1) (pa_cons (pv 3) (pa_cons (pe_ix ix_list (pv 8) pe_int (fun _ _ => rfl)) pa_nil))))) (blkOk_by (own := [("one", 10)]) (N := trN) (sc := defScope d_law_told_right) (by decide +kernel)) (fun _ _ _ _ _ => pg_name (i := 10) scTr.nd rfl (.inl rfl)) (fun _ _ _ _ _ => pts_nil)
            (fun _ _ _ _ _ => pe_call AH.G r4 rfl AH.m AH.k AH.b .nil pass0 (pa_cons (pv 10) pa_nil))) pa_nil)))
      (pss_one (ps_ret (pe_cmpR (op_inD hu2) (pv 5) (pe_callN GB r7 rfl mB kB bB pass0 (pa_cons (pv 0) (pa_cons (pv 2) pa_nil)) (pk_cons (pv 9) pk_nil)) (by rfl))))))))), ?_⟩
    have m8 := g.m8
    have few := g.few
    obtain ⟨d, v, ht1, ht2, ht3⟩ := hrow
    obtain ⟨ld, est⟩ := (mem_any g lg).mp hx
    rcases xv with ⟨ds, st⟩
    have ht2 : SqT K H d (ds.map V.int) := ht2
    have ht3 : StrA K C H v st := ht3
    have ld : ds.length = W.beds.length := ld
    have est : amtV (askV W ds gs p) allS = some st := est
    refine ⟨_, rfl, r0, _, rfl, ht1, rfl, _, _, rfl, _, _, rfl, rfl, ?_⟩
    refine ⟨_, rfl, _, rfl, _, rfl, t0, d, W, ds, p, rfl, hW, g, lb, ht2, ld, hp, hT, fun H1 l qs x1 T1 n1 hl pk l64 => ?_⟩
    refine ⟨_, rfl, _, rfl, _, rfl, _, rfl, t0, d, e0, W, ds, gs, p, rfl, exn_world x1 hW, g, lb, exn_tup x1 ht2, ld, exn_tup x1 he, lg, hp, T1, fun H2 sl qs' x2 T2 n2 pk' l64' hsl => ?_⟩
    obtain rfl := ptsok_one pk pk'
    have x02 := x1.trans x2
    have ptq : ∀ x ∈ qs, PtOk x ∧ 0 ≤ x := fun x hx => ⟨pt_of g lb ((pk.mem x).mp hx).1, ((pk.mem x).mp hx).2⟩
    have q0 : (0 : Rat) ∈ qs := (pk.mem 0).mpr ⟨List.mem_cons_self .., Rat.le_refl⟩
    have ne : qs ≠ [] := fun z => by rw [z] at q0; cases q0
    have smp : ∀ x ∈ samplesV qs, SmOk x ∧ 0 ≤ x := fun x hx => samples_pt hx ptq
    have lsm : (samplesV qs).length < 128 := by
      rw [samples_len ne]
      omega
    obtain ⟨m1, m2, _⟩ := told_ends g pk est
    have nf : nfS st := amt_nf est all_nf
    have zso := told_sz g lb (gs := gs) pk
    have hl2 := exn_pairs x2 hl
    have hv2 : StrA K C H2 v st := exn_stra x02 ht3
    have hd2 : SqT K H2 d (ds.map V.int) := exn_tup x02 ht2
    have he2 : SqT K H2 e0 (gs.map V.int) := exn_tup x02 he
    have hw2 := exn_web x02 hnw
    have hW2 := exn_world x02 hW
    refine ⟨_, rfl, _, rfl, v, l, st, qs, rfl, hv2, hl2, l64, m1, m2, nf, fun H3 n3 => ⟨true, rfl, iteF ?_⟩⟩
    refine ⟨_, rfl, _, rfl, _, rfl, _, rfl, _, rfl, rfl, rfl, nw, d, e0, W, ds, gs, p, rfl, hw2.mono n3, Same.tup n3 hd2, ld, Same.tup n3 he2, lg, hp, fac_nn g ds p, (fun b hb f hf f0 => fdiv_sz g lb (fac_lim g ds p f hf) f0 b hb), fun H4 v4 s4 hv4 => ?_⟩
    have hv4 : StrA K C H4 v4 st := by
      rcases hv4 with ⟨z, _⟩ | ⟨s, z, h⟩
      · rw [est] at z
        cases z
      · rw [est] at z
        obtain rfl := Option.some.inj z
        exact h
    have n34 := n3.trans s4
    refine ⟨str_same (hv2.mono n34) hv4, fun H5 z5 => ⟨false, rfl, iteF ?_⟩⟩
    have s5 : Same H4 H5 := z5
    have n25 : Same H2 H5 := n34.trans s5
    have hv5 : StrO K C H5 v (amtV (askV W ds gs p) allS) := .inr ⟨st, est, hv2.mono n25⟩
    have inq : ∀ x ∈ samplesV qs, inB (amtV (askV W ds gs p) allS) x = decide (leadsTo W ds gs p x) := fun x hx => by
      have h1 := told_iff g ld lg (gs := gs) (p := p) (smp x hx).2
      by_cases c : leadsTo W ds gs p x
      · rw [decide_eq_true c]
        exact inB_iff.mpr (h1.mpr c)
      · rw [decide_eq_false c]
        exact Bool.eq_false_iff.mpr fun z => c (h1.mp (inB_iff.mp z))
    refine ⟨_, rfl, l, qs, rfl, hl2.mono n25, ne, l64, fun x hx => (ptq x hx).1, fun H6 r s6 nr hr6 => ?_⟩
    obtain ⟨us, er, hus⟩ := hr6
    have lus := hus.len
    refine ⟨r, rfl, ⟨_, SqL.of er⟩, fun D hD => ?_⟩
    refine lc_list (K := K) (a := r) (xs := us.map V.ref) (fun i M => ∃ vs : List Addr, M D = some (.lst (vs.map V.ref)) ∧ All2 (PairAt K M) vs (((samplesV qs).take i).filter fun x => decide (leadsTo W ds gs p x)) ∧ Same H6 M) ⟨[], upd_same, .nil, same1 hD⟩ ?_ ?_ ?_
    · rintro i M _ ⟨_, _, _, sM⟩
      exact SqL.of (sM _ _ er)
    · rintro i x M hx ⟨vs, eD, hvs, sM⟩
      rw [List.getElem?_map] at hx
      obtain ⟨u, hu1, rfl⟩ := Option.map_eq_some_iff.mp hx
      have il : i < (samplesV qs).length := by
        have := (List.getElem?_eq_some_iff.mp hu1).1
        omega
      have hqi : (samplesV qs)[i]? = some (samplesV qs)[i] := List.getElem?_eq_getElem il
      have pu : PairAt K M u (samplesV qs)[i] := Same.tup sM (hus.all i u _ hu1 hqi)
      have hin := inq _ (List.getElem_mem il)
      obtain ⟨sm, nn⟩ := smp _ (List.getElem_mem il)
      have tk : ((samplesV qs).take (i + 1)).filter (fun x => decide (leadsTo W ds gs p x)) = (((samplesV qs).take i).filter fun x => decide (leadsTo W ds gs p x)) ++ ([(samplesV qs)[i]].filter fun x => decide (leadsTo W ds gs p x)) := by
        rw [List.take_add_one, hqi, List.filter_append]
        rfl
      generalize (samplesV qs)[i] = xq at *
      refine ⟨rfl, _, rfl, _, rfl, v, u, _, xq, rfl, hv5.mono (s6.trans sM), pu, zso, sm.sz, fun M1 m1' => ⟨_, rfl, ?_⟩⟩
      rw [hin]
      have eD2 := m1' _ _ eD
      by_cases c : leadsTo W ds gs p xq
      · rw [decide_eq_true c]
        have kp : KeepL M1 (upd M1 D (.lst (vs.map V.ref ++ [V.ref u]))) := keep_put eD2
        refine ⟨_, rfl, _, eD2, ?_, vs ++ [u], by rw [List.map_append]; exact upd_same, ?_, fun a o ea => ?_⟩
        · rw [List.length_map, hvs.len]
          have h1 := List.length_filter_le (fun x => decide (leadsTo W ds gs p x)) ((samplesV qs).take i)
          rw [List.length_take] at h1
          exact Nat.lt_of_lt_of_le (show _ < 128 by omega) (show 128 ≤ sizeLine by decide)
        · rw [tk, List.filter_cons, if_pos (decide_eq_true c)]
          exact (hvs.mono fun _ _ _ _ z => kp.tup (Same.tup m1' z)).snoc (kp.tup (Same.tup m1' pu))
        · rw [upd_ne (ne_of_none ea hD)]
          exact m1' _ _ (sM _ _ ea)
      · rw [decide_eq_false c]
        refine ⟨vs, eD2, ?_, sM.trans m1'⟩
        rw [tk, List.filter_cons, if_neg (fun z => c (of_decide_eq_true z)), List.filter_nil, List.append_nil]
        exact hvs.mono fun _ _ _ _ z => Same.tup m1' z
    rintro H7 ⟨vs, eD, hvs, s7⟩
    rw [List.length_map, lus, List.take_length] at hvs
    have n27 : Same H2 H7 := n25.trans (s6.trans s7)
    obtain ⟨a, ha, la⟩ := good_has g lg ⟨ld, st, est⟩ pk fun q hq => (smp q hq).2
    have fne : a ∈ (samplesV qs).filter fun x => decide (leadsTo W ds gs p x) := List.mem_filter.mpr ⟨ha, decide_eq_true la⟩
    have fall_ : ∀ x ∈ (samplesV qs).filter (fun x => decide (leadsTo W ds gs p x)), leadsTo W ds gs p x ∧ SmOk x ∧ 0 ≤ x := fun x hx => by
      obtain ⟨h1, h2⟩ := List.mem_filter.mp hx
      exact ⟨of_decide_eq_true h2, smp x h1⟩
    generalize (samplesV qs).filter (fun x => decide (leadsTo W ds gs p x)) = so at *
    refine ⟨_, rfl, .list (so.map tupQ), .list (so.map tupQ), pairs_dp ⟨vs, eD, hvs⟩, pairs_dp (hsl.mono n27), shaped_qs, shaped_qs, ?_⟩
    rw [eqv_self shaped_qs]
    refine ⟨false, rfl, iteF ?_⟩
    -- by the first of these
    obtain ⟨a0, so', rfl⟩ : ∃ a0 so', so = a0 :: so' := by
      cases so with
      | nil => cases fne
      | cons a b => exact ⟨a, b, rfl⟩
    obtain ⟨la0, sm0, nn0⟩ := fall_ a0 (List.mem_cons_self ..)
    obtain ⟨zs, ezs, hzs⟩ := hsl.mono n27
    obtain ⟨z0, zr, rfl⟩ : ∃ z0 zr, zs = z0 :: zr := by
      have := hzs.len
      cases zs with
      | nil => simp at this
      | cons a b => exact ⟨a, b, rfl⟩
    obtain ⟨R, ro⟩ := at_okq (W := W) (p := p) sm0 nn0
    have lr := ro.len
    refine ⟨_, rfl, _, rfl, _, rfl, sl, _, _, .ref z0, rfl, rfl, SqL.of ezs, at_k (by decide) rfl, t0, z0, W, p, a0, rfl, hW2.mono n27, g, hzs.all 0 z0 a0 rfl rfl, fun H8 al s8 nal hal => ?_⟩
    obtain ⟨fs, eal, hF⟩ := hal
    have lfs := hF.len
    have szr : ∀ x ∈ atR W p a0, Sz 1500 x := fun x hx => by
      unfold atR at hx
      obtain ⟨j, _, rfl⟩ := List.mem_map.mp hx
      split
      · exact sm0.sz
      · exact (lim_zero (M := 1) (k := 1)).sz (by decide) (Nat.one_lt_two_pow (by decide)) (by decide)
    refine ⟨al, rfl, ⟨_, SqL.of eal⟩, fun D2 hD2 => ?_⟩
    refine lc_list (K := K) (a := al) (xs := fs.map V.ref) (fun i N => ∃ us : List Addr, N D2 = some (.lst (us.map V.ref)) ∧ ShQs C N us ((atR W p a0).take i) ∧ Same H8 N) ⟨[], upd_same, .nil, same1 hD2⟩ ?_ ?_ ?_
    · rintro i N _ ⟨_, _, _, sN⟩
      exact SqL.of (sN _ _ eal)
    · rintro i x N hx ⟨us, eD, hus, sN⟩
      rw [List.getElem?_map] at hx
      obtain ⟨t, ht, rfl⟩ := Option.map_eq_some_iff.mp hx
      have il : i < (atR W p a0).length := by
        have := (List.getElem?_eq_some_iff.mp ht).1
        omega
      refine ⟨rfl, _, rfl, t, (atR W p a0)[i], rfl, PairAt.mono (hF.all i t _ ht (List.getElem?_eq_getElem il)) sN, szr _ (List.getElem_mem il), fun N1 p1 m1 hp1 => ?_⟩
      have eD2 := m1 _ _ eD
      refine ⟨_, eD2, ?_, us ++ [p1], by rw [List.map_append]; exact upd_same, ?_, fun a o ea => ?_⟩
      · rw [List.length_map, hus.len, List.length_take]
        exact Nat.lt_of_le_of_lt (Nat.min_le_left _ _) (Nat.lt_of_lt_of_le (show i < 8 by omega) (show 8 ≤ sizeLine by decide))
      · rw [List.take_succ_eq_append_getElem il]
        exact All2.snoc ((ShQs.mono hus m1).put eD2) (hp1.put eD2)
      · rw [upd_ne (ne_of_none ea hD2)]
        exact m1 _ _ (sN _ _ ea)
    rintro H9 ⟨us2, eD2, hus2, s9⟩
    rw [List.length_map, lfs, List.take_length] at hus2
    refine ⟨D2, _, rfl, .inl ⟨SqL.of eD2, fun rr hrr => ?_⟩⟩
    have s10 : Same H9 (upd H9 rr (.tup (us2.map V.ref))) := same1 hrr
    have err : (upd H9 rr (.tup (us2.map V.ref)) : Hp) rr = some (.tup (us2.map V.ref)) := upd_same
    generalize upd H9 rr (.tup (us2.map V.ref)) = G at *
    have n2G : Same H2 G := n27.trans (s8.trans (s9.trans s10))
    refine ⟨_, rfl, _, rfl, _, rfl, _, rfl, rfl, rfl, nw, e0, rr, W, gs, atR W p a0, R, 810, rfl, ⟨hw2.mono n2G, Same.tup n2G he2, lg, ⟨us2, SqT.of err, ShQs.mono hus2 s10⟩, ro⟩, fun G2 fl es sG2 nfl hfl pe oe => ?_⟩
    refine ⟨tupD ds, _, .tup (Same.tup (n2G.trans sG2) hd2) (dps_ints _), dp_bef hfl, shaped_tup _, shaped_tups _, ?_⟩
    have me : ds ∈ es := pe.mem_iff.mpr ((mem_found g lg).mpr ⟨ld, la0⟩)
    have any : ((es.map tupD).any fun z => PyData.eqv z (tupD ds)) = true := List.any_eq_true.mpr ⟨tupD ds, List.mem_map_of_mem me, eqv_self (shaped_tup ds)⟩
    rw [any]
    exact q G2 (x02.trans (same_ext (n2G.trans sG2))) (T2.ext (n2G.trans sG2))
end
end K64

namespace K64
open PySem PySem.Spec PyProof.Rows L2 LamX
/-! ### how many mornings are told at most: mathematics -/
theorem pts_ex : ∀ rs : List Rat, ∃ qs, PtsOk rs qs ∧ qs.length ≤ rs.length
  | [] => ⟨[], ⟨.nil, fun q => by simp⟩, Nat.le_refl _⟩
  | a :: rs => by
    obtain ⟨qs, ⟨up, mem⟩, lq⟩ := pts_ex rs
    by_cases c : a ∈ qs ∨ ¬ 0 ≤ a
    · refine ⟨qs, ⟨up, fun q => ?_⟩, by rw [List.length_cons]; omega⟩
      rw [mem, List.mem_cons]
      constructor
      · rintro ⟨h1, h2⟩
        exact ⟨.inr h1, h2⟩
      · rintro ⟨rfl | h1, h2⟩
        · rcases c with c | c
          · exact (mem q).mp c
          · exact absurd h2 c
        · exact ⟨h1, h2⟩
    · have c1 : a ∉ qs := fun z => c (.inl z)
      have c2 : 0 ≤ a := Decidable.byContradiction fun z => c (.inr z)
      have tri : ∀ q ∈ qs, q < a ∨ a < q := fun q hq => by
        have : q ≠ a := fun z => c1 (by rw [← z]; exact hq)
        grind
      refine ⟨qs.filter (fun q => decide (q < a)) ++ a :: qs.filter (fun q => decide (a < q)), ⟨?_, fun q => ?_⟩, ?_⟩
      · refine List.pairwise_append.mpr ⟨up.filter _, List.pairwise_cons.mpr ⟨fun q hq => of_decide_eq_true (List.mem_filter.mp hq).2, up.filter _⟩, fun x hx y hy => ?_⟩
        have h1 := of_decide_eq_true (List.mem_filter.mp hx).2
        rcases List.mem_cons.mp hy with rfl | hy
        · exact h1
        · have h2 := of_decide_eq_true (List.mem_filter.mp hy).2
          grind
      · rw [List.mem_append, List.mem_cons, List.mem_filter, List.mem_filter, mem, List.mem_cons, decide_eq_true_iff, decide_eq_true_iff]
        constructor
        · rintro (⟨⟨h1, h2⟩, _⟩ | rfl | ⟨⟨h1, h2⟩, _⟩)
          · exact ⟨.inr h1, h2⟩
          · exact ⟨.inl rfl, c2⟩
          · exact ⟨.inr h1, h2⟩
        · rintro ⟨rfl | h1, h2⟩
          · exact .inr (.inl rfl)
          · rcases tri q ((mem q).mpr ⟨h1, h2⟩) with z | z
            · exact .inl ⟨⟨h1, h2⟩, z⟩
            · exact .inr (.inr ⟨⟨h1, h2⟩, z⟩)
      · have h : ∀ l : List Rat, (l.filter fun q => decide (q < a)).length + (l.filter fun q => decide (a < q)).length ≤ l.length := by
          intro l
          induction l with
          | nil => exact Nat.le_refl _
          | cons x l ih =>
            rw [List.filter_cons, List.filter_cons, List.length_cons]
            by_cases h1 : x < a
            · have h2 : ¬ a < x := by grind
              rw [if_pos (decide_eq_true h1), if_neg (fun z => h2 (of_decide_eq_true z)), List.length_cons]
              omega
            · rw [if_neg (fun z => h1 (of_decide_eq_true z))]
              split
              · rw [List.length_cons]
                omega
              · omega
        have := h qs
        rw [List.length_append, List.length_cons, List.length_cons]
        omega
theorem nodup_le {α : Type} [DecidableEq α] : ∀ {l m : List α}, l.Nodup → (∀ x ∈ l, x ∈ m) → l.length ≤ m.length
  | [], _, _, _ => Nat.zero_le _
  | x :: l, m, nd, h => by
    obtain ⟨nx, nd⟩ := List.nodup_cons.mp nd
    have hx := h x (List.mem_cons_self ..)
    have ih := nodup_le (l := l) (m := m.erase x) nd fun y hy => by
      have ne : y ≠ x := fun z => nx (by rw [← z]; exact hy)
      exact (List.mem_erase_of_ne ne).mpr (h y (List.mem_cons_of_mem _ hy))
    rw [List.length_erase_of_mem hx] at ih
    have := List.length_pos_of_mem hx
    rw [List.length_cons]
    omega
theorem anyL_few {W : WebV} (g : GoodWeb W) (lb : ∀ b ∈ W.beds, LimB b) {gs : List Int} (lg : gs.length = W.beds.length) (p : Nat) {ls : List Bool} (hls : ls ∈ allL W.parts) : (anyL W gs p ls).length ≤ 128 := by
  have few := g.few
  obtain ⟨qs, pk, lq⟩ := pts_ex (marksE W.beds (facL W ls p) (W.beds.zip (facL W ls p)).length)
  have lm := marksE_len (bs := W.beds) (fs := facL W ls p) (W.beds.zip (facL W ls p)).length
  have lz : (W.beds.zip (facL W ls p)).length ≤ 12 := by rw [List.length_zip]; omega
  have q0 : (0 : Rat) ∈ qs := (pk.mem 0).mpr ⟨List.mem_cons_self .., Rat.le_refl⟩
  have ne : qs ≠ [] := fun z => by rw [z] at q0; cases q0
  have ls' : (samplesV qs).length ≤ 128 := by
    rw [samples_len ne]
    omega
  have flm : ∀ f ∈ facL W ls p, Lim (LL ^ W.many) 321 f := fun f hf => by
    have h := ((flow_lim g ls (at_ok (W := W) p) W.many (Nat.le_refl _)).2.1 f hf).up (show 1 + 40 * W.many ≤ 321 by have := g.m8; omega)
    rw [Nat.one_mul] at h
    exact h
  have ptq : ∀ x ∈ qs, PtOk x ∧ 0 ≤ x := fun x hx => ⟨pt_of2 g lb flm ((pk.mem x).mp hx).1, ((pk.mem x).mp hx).2⟩
  have smp : ∀ x ∈ samplesV qs, 0 ≤ x := fun x hx => (samples_pt hx ptq).2
  have sub : ∀ e ∈ (anyL W gs p ls).map Prod.fst, e ∈ (samplesV qs).map fun a => elderV W gs (facL W ls p) a W.beds.length := fun e he => by
    obtain ⟨x, hx, rfl⟩ := List.mem_map.mp he
    have mem : x ∈ anyU W gs p := List.mem_flatMap.mpr ⟨ls, hls, hx⟩
    obtain ⟨le, es⟩ := (mem_any g lg).mp mem
    obtain ⟨y, hy, e⟩ := List.mem_filterMap.mp hx
    obtain ⟨d, ed, rfl⟩ := Option.map_eq_some_iff.mp e
    unfold ledV at ed
    split at ed
    · rename_i hl
      obtain rfl := Option.some.inj ed
      have ef : facV W (subD gs y.2) p = facL W ls p := by
        show (flowV W (leadsV (gapsV W (subD gs y.2))) (atR W p 1) W.many).2 = _
        rw [hl]
        rfl
      obtain ⟨a, ha, la⟩ := good_has g lg ⟨le, _, es⟩ (by rw [ef]; exact pk) smp
      have := (elder_iff g lg le).mp la
      rw [ef] at this
      exact List.mem_map.mpr ⟨a, ha, this.symm⟩
    · cases ed
  have nd : ((anyL W gs p ls).map Prod.fst).Nodup := by
    have h := any_nodup g lg p
    unfold anyU at h
    rw [List.pairwise_flatMap] at h
    exact List.pairwise_map.mpr (h.1 ls hls)
  have h := nodup_le nd sub
  rw [List.length_map, List.length_map] at h
  omega
theorem anyU_few {W : WebV} (g : GoodWeb W) (lb : ∀ b ∈ W.beds, LimB b) {gs : List Int} (lg : gs.length = W.beds.length) (p : Nat) : (anyU W gs p).length < 2 ^ 20 := by
  have h : ∀ l : List (List Bool), (∀ ls ∈ l, ls ∈ allL W.parts) → (l.flatMap (anyL W gs p)).length ≤ l.length * 128 := by
    intro l
    induction l with
    | nil => exact fun _ => Nat.le_refl _
    | cons a l ih =>
      intro hl
      have h1 := anyL_few g lb lg p (hl a (List.mem_cons_self ..))
      have h2 := ih fun x hx => hl x (List.mem_cons_of_mem _ hx)
      rw [List.flatMap_cons, List.length_append, List.length_cons]
      omega
  have h1 := h (allL W.parts) fun _ h => h
  have h2 := len_allL W.parts
  rw [g.plen] at h2
  have h3 : 2 ^ W.many ≤ 2 ^ 8 := Nat.pow_le_pow_right (by decide) g.m8
  have h4 : (2 : Nat) ^ 8 = 256 := by decide
  have h5 : (2 : Nat) ^ 20 = 1048576 := by decide
  show ((allL W.parts).flatMap (anyL W gs p)).length < _
  omega
end K64

namespace K64
open PySem PySem.Spec PyProof.Rows L2 LamX
/-! ### whether just the mornings that lead there are told -/
def spRightA (K : PySem.W.Frag) (T : List (Addr × Str)) : Sp := fun vs H Q _ => ∃ (t e : Addr) (W : WebV) (gs : List Int) (p : Nat), vs = [.ref t, .ref e, .int (p : Int)] ∧ WorldAt K H t W ∧ GoodWeb W ∧ (∀ b ∈ W.beds, LimB b) ∧ SqT K H e (gs.map V.int) ∧ gs.length = W.beds.length ∧ p < W.many ∧ Tabs T H ∧
  ∀ H' : Hp, ExtN H H' → Tabs T H' → Q (.bl true) H'
theorem eqv_nilQ (l : List Rat) : PyData.eqv (.list (l.map tupQ)) (.list []) = decide (l = []) := by
  cases l <;> simp [PyData.eqv, PyData.eqvAll]
theorem tabs_lst {T : List (Addr × Str)} {H : Hp} {D : Addr} {xs : List V} {o : HO} (t : Tabs T H) (e : H D = some (.lst xs)) : Tabs T (upd H D o) := fun x hx => by
  obtain ⟨ps, h1, h2, h3⟩ := t x hx
  have ne : ∀ {b : Addr} {ob : HO}, H b = some ob → (∀ x, ob ≠ .lst x) → upd H D o b = some ob := fun {b ob} eb n => by
    rw [upd_ne (fun z => by rw [z, e] at eb; exact n _ (Option.some.inj eb).symm)]
    exact eb
  refine ⟨ps, ne h1 (fun _ z => nomatch z), h2, fun pos cv hc => ?_⟩
  obtain ⟨c, e1, e2⟩ := h3 pos cv hc
  exact ⟨c, e1, ne e2 (fun _ z => nomatch z)⟩
section
variable {K : PySem.W.Frag} {C : Addr} {H : Hp}
abbrev DRows (K : PySem.W.Frag) (C : Addr) : Eqv := DList (DTup K fun x y H => DTup K DFlat x y H ∨ DStr K C x y H)
theorem ref_tup {D : Eqv} (x y : V) (H : Hp) (d : DTup K D x y H) : ∃ a b, x = .ref a ∧ y = .ref b := by
  obtain ⟨a, b, _, _, h1, h2, _⟩ := d
  exact ⟨a, b, h1, h2⟩
theorem rows_rc {X : Cx} {n : Nat} {f : Addr} (O : OwnEq X (n + 1) C f) : RcG X (n + 4) (DRows X.K C) := by
  have e1 : EqG X 1 (DTup X.K DFlat) := (rcG_tup mon_flat eqG_flat).eqG ref_tup
  have e3 : EqG X (n + 2) (DStr X.K C) := (rcG_str O).eqG ref_tup
  have ms : Mon (DStr X.K C) := mon_tup (mon_flat.or mon_she)
  have e4 : EqG X (n + 3) (DTup X.K fun x y H => DTup X.K DFlat x y H ∨ DStr X.K C x y H) := (rcG_tup ((mon_tup mon_flat).or ms) ((e1.mono (by omega)).or e3)).eqG ref_tup
  exact rcG_list (mon_tup ((mon_tup mon_flat).or ms)) e4
theorem prs_ints (l : List Int) : Prs DFlat (l.map V.int) (l.map V.int) H := by
  refine ⟨rfl, fun i x y hx hy => ?_⟩
  rw [hx] at hy
  obtain rfl := Option.some.inj hy
  rw [List.getElem?_map] at hx
  obtain ⟨a, _, rfl⟩ := Option.map_eq_some_iff.mp hx
  exact ⟨rfl, rfl, by unfold eqV; simp⟩
theorem rows_same {a b : Addr} {as bs : List Addr} {ys : List (List Int × Stre)} (ea : H a = some (.lst (as.map V.ref))) (eb : H b = some (.lst (bs.map V.ref))) (ha : All2 (RowY K C H) as ys) (hb : All2 (RowY K C H) bs ys) : DRows K C (.ref a) (.ref b) H := by
  have l1 := ha.len
  have l2 := hb.len
  refine ⟨a, b, _, _, rfl, rfl, ea, eb, by rw [List.length_map, List.length_map]; omega, fun i x y hx hy => ?_⟩
  rw [List.getElem?_map] at hx hy
  obtain ⟨c, hc, rfl⟩ := Option.map_eq_some_iff.mp hx
  obtain ⟨c', hc', rfl⟩ := Option.map_eq_some_iff.mp hy
  have ia : i < as.length := (List.getElem?_eq_some_iff.mp hc).1
  have ix : i < ys.length := by omega
  obtain ⟨e1, v1, t1, d1, m1⟩ := ha.all i c _ hc (List.getElem?_eq_getElem ix)
  obtain ⟨e2, v2, t2, d2, m2⟩ := hb.all i c' _ hc' (List.getElem?_eq_getElem ix)
  exact ⟨c, c', _, _, rfl, rfl, t1, t2, Prs.cons (.inl ⟨e1, e2, _, _, rfl, rfl, d1, d2, prs_ints _⟩) (Prs.cons (.inr (str_same m1 m2)) Prs.nil)⟩
end
section
variable {P : Program} {w : World} {K : PySem.W.Frag} {mg : Str → Option Value} {base : Heap}
abbrev raN : List Str := ["spec", "goal", "spot", "net", "found", "due", "these", "looked", "kept", "some", "old", "amounts", "told"]
theorem scRa : FnScope raN ["spec", "goal", "spot"] (defScope d_law_right) := ⟨rfl, rfl, rfl, by decide +kernel, rfl, by decide +kernel, by decide +kernel⟩
theorem ok_rightA {T : List (Addr × Str)} {f f1 f2 f3 f4 f5 fE fY C CW : Addr} {fd fd1 fd2 fd3 fd4 fd5 fdE fdY : FuncData} (F : Fun K "_law_right" "_law_right" d_law_right f fd) (Y : TxtW mg C)
    (GE : FnOk P w K mg base CX0 1 fE fdE ["self", "other"] (spEqS K C)) (bE : Binds K fdE ["self", "other"] []) (atE : PySem.W.findIn K (.ref C) "__eq__" = some (some (.ref fE))) (isE : PySem.W.isFn K (.ref fE) = true)
    (AW : At P w K mg base CX0 7 "_law_web" ["spec"] (spWebL K C CW) f1 fd1) (AE : At P w K mg base CX0 5 "_law_elders" ["spec", "goal", "spot"] (spEld K T) f2 fd2) (AN : At P w K mg base CX0 1 "_law_neighbours" ["deep"] (spNb K) f3 fd3) (AL : At P w K mg base CX0 6 "_law_leading" ["spec", "old", "goal", "spot"] (spLeading K T) f4 fd4)
    (AT : At P w K mg base CX0 9 "_law_told_right" ["net", "spec", "goal", "spot", "told"] (spTdR K C CW T) f5 fd5)
    (GY : FnOk P w K mg base CX0 8 fY fdY ["web", "depths", "place"] (spAny K C CW T)) (mY : mg "before_any" = some (.ref fY)) (kY : PySem.W.keepIn K (.ref fY) = true) (bY : KBn K fdY ["web", "depths", "place"] 2 ["place"] (fun us ws => us ++ ws) (fun vs zs => vs ++ zs)) :
    FnOk P w K mg base CX0 10 f fd ["spec", "goal", "spot"] (spRightA K T) := by
  refine F.ok scRa (fun vs H Q E h => ?_) (fun cdv A outer s H vs Q E hr h => ?_)
  · obtain ⟨_, _, _, _, _, rfl, _⟩ := h
    rfl
  · obtain ⟨t0, e0, W, gs, p, rfl, hW, g, lb, he, lg, hp, hT, q⟩ := h
    have r1 : Room 1 _ := hr.mono (by decide)
    have r5 : Room 5 _ := hr.mono (by decide)
    have r6 : Room 6 _ := hr.mono (by decide)
    have r7 : Room 7 _ := hr.mono (by decide)
    have r8 : Room 8 _ := hr.mono (by decide)
    have r9 : Room 9 _ := hr.mono (by decide)
    have r4 : Room 4 _ := hr.mono (by decide)
    have own : OwnEq (cxOf CX0 P w K mg base raN "_law_right" (defScope d_law_right) f cdv A outer s H E).nox (0 + 1) C fE := ⟨⟨_, _, GE, bE⟩, atE, isE⟩
    refine ⟨_, pss_cons (ps_set (i := 3) scRa.nd rfl (Or.inr rfl) (pe_call AW.G r7 rfl AW.m AW.k AW.b .nil pass0 (pa_cons (pv 0) pa_nil)))
      (pss_cons (ps_set (i := 4) scRa.nd rfl (Or.inl rfl) (pe_callN GY r8 rfl mY kY bY pass0 (pa_cons (pv 3) (pa_cons (pv 1) pa_nil)) (pk_cons (pv 2) pk_nil)))
      (pss_cons (ps_set (i := 5) scRa.nd rfl (Or.inl rfl) (pe_call AE.G r5 rfl AE.m AE.k AE.b .nil pass0 (pa_cons (pv 0) (pa_cons (pv 1) (pa_cons (pv 2) pa_nil)))))
      (C8.pss_cut (ps_if (pt_cmpR op_lt (pe_callB call_len_seq (by rfl) Y.len PySem.boot_len (pa_cons (pv 1) pa_nil)) pe_int (nomark _))
          (pss_cons (ps_setLc (i := 6) (own := [("some", 9)]) (g := gName 9) (by rfl) scRa.nd rfl rfl (sw_true rfl rfl rfl (by decide +kernel)) (pi_list (pe_call AN.G r1 rfl AN.m AN.k AN.b .nil pass0 (pa_cons (pv 1) pa_nil))) (blkOk_by (own := [("some", 9)]) (N := raN) (sc := defScope d_law_right) (by decide +kernel)) (fun _ _ _ _ _ => pg_name (i := 9) scRa.nd rfl (.inl rfl))
              (fun _ _ _ _ _ => pts_one (pt_cmpR (show OpR _ _ (rNeD K) from op_neD hr.units) (pe_call AL.G r6 rfl AL.m AL.k AL.b .nil pass0 (pa_cons (pv 0) (pa_cons (pv 9) (pa_cons (pv 1) (pa_cons (pv 2) pa_nil))))) (pe_lst pa_nil) (nomark _))) (fun _ _ _ _ _ => pv 9))
          (pss_one (ps_if (pt_cmpR (op_neD hr.units) (pv 5) (pv 6) (nomark _)) (pss_one (ps_ret pe_bl)) pss_nil))) pss_nil)
      (pss_cons (ps_if (PW.pt (pw_or (pt_not (pt_val (pe_callB call_isi (by rfl) Y.isi (by decide +kernel) (pa_cons (pv 4) (pa_cons (pe_bltn (v := .ty "list") (by rfl) Y.list (by decide +kernel) rfl) pa_nil))))) (pw_or1 (pt_cmpR (op_neD hr.units)
          (pe_lc (own := [("old", 10), ("amounts", 11)]) (g := gTup K 2 (gCons (gName 10) (gCons (gName 11) gNil))) (by rfl) scRa.nd (pi_list (pv 4)) (blkOk_by (own := [("old", 10), ("amounts", 11)]) (N := raN) (sc := defScope d_law_right) (by decide +kernel))
            (fun _ _ _ _ _ => pg_tup (by rfl) (pgs_cons (pg_name (i := 10) scRa.nd rfl (.inl rfl)) (pgs_cons (pg_name (i := 11) scRa.nd rfl (.inl rfl)) pgs_nil))) (fun _ _ _ _ _ => pts_nil) (fun _ _ _ _ _ => pv 10)) (pv 5) (nomark _))))) (pss_one (ps_ret pe_bl)) pss_nil)
      (pss_cons (ps_set (i := 7) scRa.nd rfl (Or.inl rfl) (pe_op op_cat (pe_slice sl_list (pv 4) po_none (po_some pe_int)) (pe_slice sl_list (pe_slice sl_list (pv 4) (po_some pe_int) po_none) (po_some (pe_un un_neg pe_int)) po_none)))
      (pss_cons (ps_if (pt_not (pt_val (pe_callB (cr_all rfl) (by rfl) Y.all (by decide +kernel) (pa_cons
          (pe_lc (own := [("told", 12)]) (g := gName 12) (by rfl) scRa.nd (pi_list (pv 7)) (blkOk_by (own := [("told", 12)]) (N := raN) (sc := defScope d_law_right) (by decide +kernel)) (fun _ _ _ _ _ => pg_name (i := 12) scRa.nd rfl (.inl rfl)) (fun _ _ _ _ _ => pts_nil)
            (fun _ _ _ _ _ => pe_call AT.G r9 rfl AT.m AT.k AT.b .nil pass0 (pa_cons (pv 3) (pa_cons (pv 0) (pa_cons (pv 1) (pa_cons (pv 2) (pa_cons (pv 12) pa_nil))))))) pa_nil)))) (pss_one (ps_ret pe_bl)) pss_nil)
      (pss_cons (ps_set (i := 8) scRa.nd rfl (Or.inl rfl) (pe_callTy call_list_of (by rfl) Y.list (by decide +kernel) (pa_cons (pv 4) pa_nil)))
      (pss_cons (ps_expr (pe_bm PySem.F.plainAttrs_list PySem.F.slot_list_append PySem.F.type_list_append mt_append (pv 4) (pa_cons pe_non pa_nil)))
      (pss_one (ps_ret (pe_cmpR (op_eqG (rows_rc own) r4) (pe_callN GY r8 rfl mY kY bY pass0 (pa_cons (pv 3) (pa_cons (pv 1) pa_nil)) (pk_cons (pv 2) pk_nil)) (pv 8) (nomark _)))))))))))), ?_⟩
    have m8 := g.m8
    have few := g.few
    have anyb := anyU_few g lb lg p
    have dvz : ∀ b ∈ W.beds, ∀ ls f, f ∈ facL W ls p → f ≠ 0 → Sz 1500 (b.lo / f) ∧ Sz 1500 (b.hi / f) := fun b hb ls f hf nz => by
      have flm : Lim (LL ^ W.many) 321 f := by
        have h := ((flow_lim g ls (at_ok (W := W) p) W.many (Nat.le_refl _)).2.1 f hf).up (show 1 + 40 * W.many ≤ 321 by have := g.m8; omega)
        rw [Nat.one_mul] at h
        exact h
      have f0 : 0 ≤ f := (flow_nn g ls (at_ok (W := W) p) W.many (Nat.le_refl _)).2 f hf
      exact fdiv_sz g lb flm (by grind) b hb
    refine ⟨_, rfl, t0, W, rfl, hW, g, fun H1 nw s1 hnw => ?_⟩
    refine ⟨_, rfl, _, rfl, _, rfl, rfl, rfl, nw, e0, W, gs, p, rfl, hnw, Same.tup s1 he, lg, hp, anyb, dvz, hT.ext s1, fun H2 F0 as x2 T2 nF eF hF => ?_⟩
    have x02 : ExtN H H2 := (same_ext s1).trans x2
    have nF0 : ∀ o, (∀ x, o ≠ .tbl x) → H F0 ≠ some o := fun o nt e => by
      have h1 := x02 _ _ e nt
      rw [eF] at h1
      obtain rfl := Option.some.inj h1
      exact nF _ (s1 _ _ e)
    refine ⟨_, rfl, _, rfl, _, rfl, t0, e0, W, gs, p, rfl, exn_world x02 hW, g, lb, exn_tup x02 he, lg, hp, T2, fun H3 DL es x3 T3 nD hD up hes => ?_⟩
    have esk : es = (sortY (anyU W gs p)).map Prod.fst := any_eld g lg up hes
    have x03 := x02.trans x3
    have lsy : (sortY (anyU W gs p)).length < 2 ^ 20 := by
      rw [show (sortY (anyU W gs p)).length = (anyU W gs p).length from (List.mergeSort_perm _ _).length_eq]
      exact anyb
    have las := hF.len
    refine ⟨fun σ' G => ∃ v6 : Option V, σ' = [some (.ref t0), some (.ref e0), some (.int (p : Int)), some (.ref nw), some (.ref F0), some (.ref DL), v6, none, none, none, none, none, none] ∧ ExtN H3 G ∧ Tabs T G, ?_, ?_⟩
    · refine ⟨_, rfl, e0, _, rfl, .inr (exn_tup x03 he), _, _, rfl, rfl, _, rfl, ?_⟩
      refine ite2 (fun h => ?_) (fun _ => ⟨_, rfl, ExtN.refl _, T3⟩)
      have h5 : ((gs.map V.int).length : Int) < 5 := of_decide_eq_true h
      rw [List.length_map] at h5
      refine ⟨_, rfl, e0, gs, rfl, exn_tup x03 he, by omega, fun H4 nl s4 nn4 hnl => ?_⟩
      obtain ⟨ps, enl, hps, eps⟩ := hnl
      have lps : ps.length = 3 ^ gs.length := by
        have := congrArg List.length eps
        rw [List.length_map, len_nb] at this
        exact this
      have p81 : 3 ^ gs.length ≤ 81 := Nat.le_trans (Nat.pow_le_pow_right (by decide) (show gs.length ≤ 4 by omega)) (by decide)
      have x04 : ExtN H H4 := x03.trans (same_ext s4)
      refine ⟨nl, rfl, ⟨_, SqL.of enl⟩, fun D hD2 => ?_⟩
      refine lc_list (K := K) (a := nl) (xs := ps.map refP) (fun i M => ∃ qs : List (Addr × List Int), M D = some (.lst (qs.map refP)) ∧ (∀ y ∈ qs, SqT K M y.1 (y.2.map V.int)) ∧ qs.map Prod.snd = ((nbV gs).take i).filter (fun e => (amtV (askV W e gs p) allS).isSome) ∧ ExtN H4 M ∧ Tabs T M) ⟨[], upd_same, (fun _ h => nomatch h), rfl, same_ext (same1 hD2), (T3.ext s4).ext (same1 hD2)⟩ ?_ ?_ ?_
      · rintro i M _ ⟨_, _, _, _, xM, _⟩
        exact exn_seq xM (SqL.of enl)
      · rintro i x M hx ⟨qs, eD, hqs, eqs, xM, TM⟩
        rw [List.getElem?_map] at hx
        obtain ⟨y, hy, rfl⟩ := Option.map_eq_some_iff.mp hx
        have il : i < ps.length := (List.getElem?_eq_some_iff.mp hy).1
        have hyt : SqT K M y.1 (y.2.map V.int) := exn_tup xM (hps y (List.mem_of_getElem? hy))
        have hny : (nbV gs)[i]? = some y.2 := by
          rw [← eps, List.getElem?_map, hy]
          rfl
        have lyd : y.2.length = W.beds.length := by
          rw [← lg]
          exact near_len (mem_nb.mp (List.mem_of_getElem? hny))
        have lqs : qs.length ≤ 81 := by
          have h1 := congrArg List.length eqs
          have h2 := List.length_filter_le (fun e => (amtV (askV W e gs p) allS).isSome) ((nbV gs).take i)
          rw [List.length_map] at h1
          rw [List.length_take] at h2
          omega
        have xHM := x04.trans xM
        refine ⟨rfl, _, rfl, _, rfl, _, rfl, _, rfl, t0, y.1, e0, W, y.2, gs, p, rfl, exn_world xHM hW, g, lb, hyt, lyd, exn_tup xHM he, lg, hp, TM, fun M1 sl qs1 y1 T1 n1 pk l64 hsl => ?_⟩
        refine ⟨(by show 0 ≤ sizeLine; decide), fun L hL => ?_⟩
        have s5 : Same M1 (upd M1 L (.lst [])) := same1 hL
        have eL : (upd M1 L (.lst []) : Hp) L = some (.lst []) := upd_same
        have pso := hsl.mono s5
        generalize upd M1 L (.lst []) = M2 at *
        have ptq : ∀ x ∈ qs1, PtOk x ∧ 0 ≤ x := fun x hx => ⟨pt_of g lb ((pk.mem x).mp hx).1, ((pk.mem x).mp hx).2⟩
        have smp : ∀ x ∈ samplesV qs1, 0 ≤ x := fun x hx => (samples_pt hx ptq).2
        have dec : decide ((samplesV qs1).filter (fun x => decide (leadsTo W y.2 gs p x)) = []) = !(amtV (askV W y.2 gs p) allS).isSome := by
          cases c : amtV (askV W y.2 gs p) allS with
          | none =>
            refine decide_eq_true (List.filter_eq_nil_iff.mpr fun a ha z => ?_)
            obtain ⟨s, e1, _⟩ := (told_iff g lyd lg (smp a ha)).mpr (of_decide_eq_true z)
            rw [c] at e1
            cases e1
          | some st =>
            refine decide_eq_false fun z => ?_
            obtain ⟨a, ha, la⟩ := good_has g lg ⟨lyd, st, c⟩ pk smp
            have : a ∈ (samplesV qs1).filter fun x => decide (leadsTo W y.2 gs p x) := List.mem_filter.mpr ⟨ha, decide_eq_true la⟩
            rw [z] at this
            cases this
        refine ⟨.list (((samplesV qs1).filter fun x => decide (leadsTo W y.2 gs p x)).map tupQ), .list [], pairs_dp pso, .lst (SqL.of eL) .nil, shaped_qs, shaped_qs (qs := []), _, rfl, ?_⟩
        rw [eqv_nilQ, dec, Bool.not_not]
        have yM2 : ExtN M M2 := y1.trans (same_ext s5)
        have eD2 := yM2 _ _ eD (fun _ z => nomatch z)
        have T2' := T1.ext s5
        have tk : ((nbV gs).take (i + 1)).filter (fun e => (amtV (askV W e gs p) allS).isSome) = (((nbV gs).take i).filter fun e => (amtV (askV W e gs p) allS).isSome) ++ [y.2].filter fun e => (amtV (askV W e gs p) allS).isSome := by
          rw [List.take_add_one, hny, List.filter_append]
          rfl
        cases c : (amtV (askV W y.2 gs p) allS).isSome with
        | true =>
          have kp : KeepL M2 (upd M2 D (.lst (qs.map refP ++ [V.ref y.1]))) := keep_put eD2
          refine ⟨_, rfl, _, eD2, ?_, qs ++ [y], by rw [List.map_append]; exact upd_same, fun z hz => ?_, ?_, fun a o ea nt => ?_, ?_⟩
          · rw [List.length_map]
            exact Nat.lt_of_le_of_lt lqs (by decide)
          · rcases List.mem_append.mp hz with z1 | z1
            · exact kp.tup (exn_tup yM2 (hqs z z1))
            · rw [List.mem_singleton.mp z1]
              exact kp.tup (exn_tup yM2 hyt)
          · rw [tk, List.map_append, eqs, List.filter_cons, c]
            rfl
          · rw [upd_ne (ne_of_none ea hD2)]
            exact yM2 _ _ (xM _ _ ea nt) nt
          · exact tabs_lst T2' eD2
        | false =>
          refine ⟨qs, eD2, fun z hz => exn_tup yM2 (hqs z hz), ?_, xM.trans yM2, T2'⟩
          rw [tk, List.filter_cons, c]
          simp only [Bool.false_eq_true, if_false, List.filter_nil, List.append_nil]
          exact eqs
      rintro M ⟨qs, eD, hqs, eqs, xM, TM⟩
      rw [List.length_map, lps, ← len_nb, List.take_length] at eqs
      have etl : qs.map Prod.snd = es := by
        rw [esk]
        refine any_eld g lg (by rw [eqs]; exact (sorted_nb gs).filter _) fun x => ?_
        rw [eqs, List.mem_filter]
        constructor
        · rintro ⟨h1, h2⟩
          obtain ⟨s, hs⟩ := Option.isSome_iff_exists.mp h2
          exact ⟨by rw [← lg]; exact near_len (mem_nb.mp h1), s, hs⟩
        · intro gx
          obtain ⟨qs2, pk2, _⟩ := pts_ex (marksE W.beds (facV W x p) (W.beds.zip (facV W x p)).length)
          have ptq : ∀ z ∈ qs2, PtOk z ∧ 0 ≤ z := fun z hz => ⟨pt_of g lb ((pk2.mem z).mp hz).1, ((pk2.mem z).mp hz).2⟩
          obtain ⟨a, ha, la⟩ := good_has g lg gx pk2 fun z hz => (samples_pt hz ptq).2
          have hm := (mem_due g lg (rain := atR W p a) (e := x)).mpr ⟨gx.1, la⟩
          exact ⟨(List.mem_filter.mp hm).1, by rw [gx.2.choose_spec]; rfl⟩
      refine ⟨_, rfl, _, rfl, .list (es.map tupD), .list (es.map tupD), dp_bef (by obtain ⟨pp, e1, e2, e3⟩ := hD; exact ⟨pp, ((same_ext s4).trans xM) _ _ e1 (fun _ z => nomatch z), fun y hy => exn_tup ((same_ext s4).trans xM) (e2 y hy), e3⟩), dp_bef ⟨qs, eD, hqs, etl⟩, shaped_tups _, shaped_tups _, ?_⟩
      rw [eqv_self (shaped_tups es)]
      exact ⟨false, rfl, iteF ⟨_, rfl, (same_ext s4).trans xM, TM⟩⟩
    rintro σ' G ⟨v6, rfl, xG, TG⟩
    have x2G : ExtN H2 G := x3.trans xG
    have xHG : ExtN H G := x02.trans x2G
    have eFG := x2G _ _ eF (fun _ z => nomatch z)
    have hFG : All2 (RowY K C G) as (sortY (anyU W gs p)) := hF.mono fun _ _ _ _ r => exn_rowY x2G r
    have hDG : BefAt K G DL es := by
      obtain ⟨pp, e1, e2, e3⟩ := hD
      exact ⟨pp, xG _ _ e1 (fun _ z => nomatch z), fun y hy => exn_tup xG (e2 y hy), e3⟩
    refine ⟨_, rfl, _, _, _, _, true, rfl, ClsV.ty _, ty_lst (SqL.of eFG), kit_ty (by decide +kernel), true, rfl, iteF ?_⟩
    refine ⟨_, rfl, F0, rfl, ⟨_, SqL.of eFG⟩, fun D hD2 => ?_⟩
    refine lc_list (K := K) (a := F0) (xs := as.map V.ref) (fun i M => ∃ qs : List (Addr × List Int), M D = some (.lst (qs.map refP)) ∧ (∀ y ∈ qs, SqT K M y.1 (y.2.map V.int)) ∧ qs.map Prod.snd = ((sortY (anyU W gs p)).take i).map Prod.fst ∧ Same G M) ⟨[], upd_same, (fun _ h => nomatch h), rfl, same1 hD2⟩ ?_ ?_ ?_
    · rintro i M _ ⟨_, _, _, _, sM⟩
      exact SqL.of (sM _ _ eFG)
    · rintro i x M hx ⟨qs, eD, hqs, eqs, sM⟩
      rw [List.getElem?_map] at hx
      obtain ⟨t, ht, rfl⟩ := Option.map_eq_some_iff.mp hx
      have il : i < (sortY (anyU W gs p)).length := by
        have := (List.getElem?_eq_some_iff.mp ht).1
        omega
      obtain ⟨ee, vv, ht1, ht2, _⟩ := (keep_same sM).rowY (hFG.all i t _ ht (List.getElem?_eq_getElem il))
      have lqs : qs.length = i := by
        have h1 := congrArg List.length eqs
        rw [List.length_map, List.length_map, List.length_take] at h1
        omega
      refine ⟨t, _, rfl, ht1, rfl, _, _, rfl, _, _, rfl, rfl, rfl, ?_⟩
      have kp : KeepL M (upd M D (.lst (qs.map refP ++ [V.ref ee]))) := keep_put eD
      refine ⟨_, rfl, _, eD, ?_, qs ++ [(ee, (sortY (anyU W gs p))[i].1)], by rw [List.map_append]; exact upd_same, fun z hz => ?_, ?_, fun a o ea => ?_⟩
      · rw [List.length_map, lqs]
        exact Nat.lt_of_lt_of_le (show i < 2 ^ 20 by omega) (by decide)
      · rcases List.mem_append.mp hz with z1 | z1
        · exact kp.tup (hqs z z1)
        · rw [List.mem_singleton.mp z1]
          exact kp.tup ht2
      · rw [List.take_succ_eq_append_getElem il, List.map_append, List.map_append, eqs]
        rfl
      · rw [upd_ne (ne_of_none ea hD2)]
        exact sM _ _ ea
    rintro M ⟨qs, eD, hqs, eqs, sM⟩
    rw [List.length_map, las, List.take_length, ← esk] at eqs
    have hDM : BefAt K M DL es := by
      obtain ⟨pp, e1, e2, e3⟩ := hDG
      exact ⟨pp, sM _ _ e1, fun y hy => Same.tup sM (e2 y hy), e3⟩
    refine ⟨_, rfl, .list (es.map tupD), .list (es.map tupD), dp_bef ⟨qs, eD, hqs, eqs⟩, dp_bef hDM, shaped_tups _, shaped_tups _, ?_⟩
    rw [eqv_self (shaped_tups es)]
    refine ⟨false, rfl, iteF ?_⟩
    have eFM := sM _ _ eFG
    have xHM : ExtN H M := xHG.trans (same_ext sM)
    have TM := TG.ext sM
    -- the looked at ones
    have cut : ∀ (bs : List Addr) (lo hi : Option Int), ∃ cs : List Addr, cutV (bs.map V.ref) lo hi = cs.map V.ref ∧ (∀ c ∈ cs, c ∈ bs) ∧ cs.length ≤ bs.length := fun bs lo hi => by
      refine ⟨(bs.drop (HT.sIx (bs.map V.ref).length 0 lo)).take (HT.sIx (bs.map V.ref).length (bs.map V.ref).length hi - HT.sIx (bs.map V.ref).length 0 lo), ?_, fun c hc => List.mem_of_mem_drop (List.mem_of_mem_take hc), ?_⟩
      · unfold cutV
        rw [List.map_take, List.map_drop]
      · rw [List.length_take, List.length_drop]
        omega
    refine ⟨_, rfl, _, rfl, F0, _, rfl, SqL.of eFM, fun p1 h1 => ?_⟩
    obtain ⟨c1, ec1, hc1, lc1⟩ := cut as none (some 40)
    rw [ec1]
    have s1' : Same M (upd M p1 (.lst (c1.map V.ref))) := same1 h1
    have ep1 : (upd M p1 (.lst (c1.map V.ref)) : Hp) p1 = some (.lst (c1.map V.ref)) := upd_same
    generalize upd M p1 (.lst (c1.map V.ref)) = M1 at *
    refine ⟨_, rfl, _, rfl, F0, _, rfl, SqL.of (s1' _ _ eFM), fun p2 h2 => ?_⟩
    obtain ⟨c2, ec2, hc2, lc2⟩ := cut as (some 40) none
    rw [ec2]
    have s2' : Same M1 (upd M1 p2 (.lst (c2.map V.ref))) := same1 h2
    have ep2 : (upd M1 p2 (.lst (c2.map V.ref)) : Hp) p2 = some (.lst (c2.map V.ref)) := upd_same
    generalize upd M1 p2 (.lst (c2.map V.ref)) = M2 at *
    refine ⟨_, rfl, _, rfl, p2, _, rfl, SqL.of ep2, fun p3 h3 => ?_⟩
    obtain ⟨c3, ec3, hc3, lc3⟩ := cut c2 (some (-20)) none
    rw [ec3]
    have s3' : Same M2 (upd M2 p3 (.lst (c3.map V.ref))) := same1 h3
    have ep3 : (upd M2 p3 (.lst (c3.map V.ref)) : Hp) p3 = some (.lst (c3.map V.ref)) := upd_same
    generalize upd M2 p3 (.lst (c3.map V.ref)) = M3 at *
    refine ⟨p1, p3, _, _, rfl, rfl, (s2'.trans s3') _ _ ep1, ep3, ?_, fun LK hLK => ?_⟩
    · rw [List.length_map, List.length_map]
      exact Nat.le_trans (show c1.length + c3.length ≤ 2 ^ 21 by omega) (by decide)
    rw [← List.map_append]
    have s4' : Same M3 (upd M3 LK (.lst ((c1 ++ c3).map V.ref))) := same1 hLK
    have eLK : (upd M3 LK (.lst ((c1 ++ c3).map V.ref)) : Hp) LK = some (.lst ((c1 ++ c3).map V.ref)) := upd_same
    generalize upd M3 LK (.lst ((c1 ++ c3).map V.ref)) = M4 at *
    have sM4 : Same M M4 := s1'.trans (s2'.trans (s3'.trans s4'))
    have sub : ∀ c ∈ c1 ++ c3, c ∈ as := fun c hc => by
      rcases List.mem_append.mp hc with z | z
      · exact hc1 c z
      · exact hc2 c (hc3 c z)
    have lkk : (c1 ++ c3).length ≤ 2 ^ 21 := by
      rw [List.length_append]
      omega
    generalize c1 ++ c3 = cs at *
    have sG4 : Same G M4 := sM.trans sM4
    have x24 : ExtN H2 M4 := x2G.trans (same_ext sG4)
    refine ⟨_, rfl, LK, rfl, ⟨_, SqL.of eLK⟩, fun D3 hD3 => ?_⟩
    refine lc_list (K := K) (a := LK) (xs := cs.map V.ref) (fun i Z => Z D3 = some (.lst ((List.replicate i true).map V.bl)) ∧ ExtN M4 Z ∧ Tabs T Z) ⟨upd_same, same_ext (same1 hD3), (TM.ext sM4).ext (same1 hD3)⟩ ?_ ?_ ?_
    · rintro i Z _ ⟨_, xZ, _⟩
      exact exn_seq xZ (SqL.of eLK)
    · rintro i x Z hx ⟨eZ, xZ, TZ⟩
      rw [List.getElem?_map] at hx
      obtain ⟨t, ht, rfl⟩ := Option.map_eq_some_iff.mp hx
      have il : i < cs.length := (List.getElem?_eq_some_iff.mp ht).1
      obtain ⟨k, hk⟩ := List.mem_iff_getElem?.mp (sub t (List.mem_of_getElem? ht))
      have kl : k < (sortY (anyU W gs p)).length := by
        have := (List.getElem?_eq_some_iff.mp hk).1
        omega
      have x2Z := x24.trans xZ
      have xHZ := x02.trans x2Z
      have hrow := exn_rowY x2Z (hF.all k t _ hk (List.getElem?_eq_getElem kl))
      have hmem : (sortY (anyU W gs p))[k] ∈ anyU W gs p := (List.mergeSort_perm _ _).mem_iff.mp (List.getElem_mem kl)
      refine ⟨rfl, _, rfl, _, rfl, _, rfl, _, rfl, _, rfl, nw, t0, e0, t, W, gs, p, _, rfl, exn_web (x2.trans x2Z) hnw, exn_world xHZ hW, g, lb, exn_tup xHZ he, lg, hp, hrow, hmem, TZ, fun Z1 z1 T1 => ?_⟩
      have eZ1 := z1 _ _ eZ (fun _ z => nomatch z)
      refine ⟨_, eZ1, ?_, ?_, fun a o ea nt => ?_, tabs_lst T1 eZ1⟩
      · rw [List.length_map, List.length_replicate]
        exact Nat.lt_of_lt_of_le (show i < 2 ^ 21 by omega) (by decide)
      · rw [List.replicate_succ', List.map_append]
        exact upd_same
      · rw [upd_ne (ne_of_none ea hD3)]
        exact z1 _ _ (xZ _ _ ea nt) nt
    rintro Z ⟨eZ, xZ, TZ⟩
    refine ⟨D3, _, rfl, SqL.of eZ, ?_⟩
    rw [all_true]
    refine ⟨true, rfl, iteF ?_⟩
    have x2Z := x24.trans xZ
    have xHZ := x02.trans x2Z
    have eFZ := x2Z _ _ eF (fun _ z => nomatch z)
    refine ⟨_, rfl, F0, _, rfl, .inl (SqL.of eFZ), fun KL hKL => ?_⟩
    have s5 : Same Z (upd Z KL (.lst (as.map V.ref))) := same1 hKL
    have eKL : (upd Z KL (.lst (as.map V.ref)) : Hp) KL = some (.lst (as.map V.ref)) := upd_same
    have nKF : KL ≠ F0 := fun z => by
      rw [z, eFZ] at hKL
      cases hKL
    generalize upd Z KL (.lst (as.map V.ref)) = Z1 at *
    have eF1 := s5 _ _ eFZ
    have x2Z1 := x2Z.trans (same_ext s5)
    refine ⟨_, rfl, .inl ⟨rfl, _, SqL.of eF1⟩, F0, _, _, rfl, rfl, eF1, ?_, ?_⟩
    · rw [List.length_map, las]
      exact Nat.lt_of_lt_of_le lsy (by decide)
    have kp : KeepL Z1 (upd Z1 F0 (.lst (as.map V.ref ++ [V.non]))) := keep_put eF1
    have eK2 : (upd Z1 F0 (.lst (as.map V.ref ++ [V.non])) : Hp) KL = some (.lst (as.map V.ref)) := by
      rw [upd_ne nKF]
      exact eKL
    have hF2 : All2 (RowY K C (upd Z1 F0 (.lst (as.map V.ref ++ [V.non])))) as (sortY (anyU W gs p)) := hF.mono fun _ _ _ _ r => kp.rowY (exn_rowY x2Z1 r)
    have T5 := tabs_lst (o := .lst (as.map V.ref ++ [V.non])) (TZ.ext s5) eF1
    have xH5 : ExtN H (upd Z1 F0 (.lst (as.map V.ref ++ [V.non]))) := fun b o eb nt => by
      rw [upd_ne (fun z => nF0 o nt (by rw [← z]; exact eb))]
      exact x2Z1 _ _ (x02 _ _ eb nt) nt
    have hw5 : WebAt K C CW (upd Z1 F0 (.lst (as.map V.ref ++ [V.non]))) nw W := by
      refine exn_web (H := H1) (fun b o eb nt => ?_) hnw
      rw [upd_ne (fun z => ?_)]
      · exact x2Z1 _ _ (x2 _ _ eb nt) nt
      · have h1 := x2 _ _ eb nt
        rw [z, eF] at h1
        obtain rfl := Option.some.inj h1
        exact nF _ (by rw [← z]; exact eb)
    generalize upd Z1 F0 (.lst (as.map V.ref ++ [V.non])) = Z5 at *
    refine ⟨_, rfl, _, rfl, _, rfl, rfl, rfl, nw, e0, W, gs, p, rfl, hw5, exn_tup xH5 he, lg, hp, anyb, dvz, T5, fun Z6 F1 as1 x6 T6 nF1 eF6 hF6 => ?_⟩
    refine ⟨_, rfl, rows_same eF6 (x6 _ _ eK2 (fun _ z => nomatch z)) hF6 (hF2.mono fun _ _ _ _ r => exn_rowY x6 r), fun Z7 z7 => ?_⟩
    have s7 : Same Z6 Z7 := z7
    exact q Z7 (xH5.trans (x6.trans (same_ext s7))) (T6.ext s7)
end
end K64

namespace K64
open PySem PySem.Spec PyProof.Rows L2 LamX
theorem cells_of (c : Int) (ns : List Int) (lo hi : Option Int) : ∃ cs : List Int, [V.int c] ++ cutV (ns.map V.int) lo hi ++ [V.int 0] = cs.map V.int := by
  refine ⟨[c] ++ (ns.drop (HT.sIx (ns.map V.int).length 0 lo)).take (HT.sIx (ns.map V.int).length (ns.map V.int).length hi - HT.sIx (ns.map V.int).length 0 lo) ++ [0], ?_⟩
  unfold cutV
  simp only [List.map_append, List.map_take, List.map_drop, List.map_cons, List.map_nil]
theorem tabs_but {T : List (Addr × Str)} {p : Addr} {H H' : Hp} (t : Tabs T H) (k : But p H H') (s : SrcAt H p) : Tabs T H' := fun x hx => by
  obtain ⟨ps, h1, h2, h3⟩ := t x hx
  refine ⟨ps, k.nt s h1 (fun _ z => nomatch z), h2, fun pos cv hc => ?_⟩
  obtain ⟨c, e1, e2⟩ := h3 pos cv hc
  exact ⟨c, e1, k.nt s e2 (fun _ z => nomatch z)⟩
theorem well_ext {H H' : Hp} {p : Addr} {n : Nat} (h : WellN H p n) (k : ExtN H H') : WellN H' p n := by
  obtain ⟨z, ⟨x, y, e, b, c⟩, d⟩ := h
  exact ⟨z, ⟨x, y, k _ _ e (fun _ z => nomatch z), b, c⟩, d⟩
end K64

namespace K64
open PySem PySem.Spec PyProof.Rows L2 LamX
/-! ### the law: whole mornings by any amount -/
def spLaw (K : PySem.W.Frag) (Pt Pu : Addr) : Sp := fun vs H Q _ => ∃ (a : Addr) (ns : List Int), vs = [.ref a] ∧ SqL K H a (ns.map V.int) ∧ ns.length ≤ 63 ∧ Tabs [(Pt, baQ), (Pu, mkQ)] H ∧ ∀ H', Q (.bl true) H'
theorem law_told {K : PySem.W.Frag} {Pt Pu a : Addr} {H : Hp} {ns : List Int} (hl : ns.length ≤ 63) (hT : H Pt = some (.tbl #[])) (hU : H Pu = some (.tbl #[])) (hS : SqL K H a (ns.map V.int)) : spLaw K Pt Pu [.ref a] H (fun v _ => v = .bl true) fun _ _ _ => False :=
  ⟨a, ns, rfl, hS, hl, fun p hp => by
    simp only [List.mem_cons, List.not_mem_nil, or_false] at hp
    rcases hp with rfl | rfl
    · exact TabS.nil hT
    · exact TabS.nil hU, fun _ => rfl⟩
section
variable {P : Program} {w : World} {K : PySem.W.Frag} {mg : Str → Option Value} {base : Heap}
abbrev lawN : List Str := ["script", "k", "cell", "well", "unit", "reach", "cap", "spec", "goal"]
theorem scLaw : FnScope lawN ["script"] (defScope d_law) := ⟨rfl, rfl, rfl, by decide +kernel, rfl, by decide +kernel, by decide +kernel⟩
theorem ok_law {f f1 f2 f3 f4 f5 f6 f7 f9 C Pt Pu : Addr} {fd fd1 fd2 fd3 fd4 fd5 fd6 fd7 fd9 : FuncData} (F : Fun K "law" "law" d_law f fd) (Y : TxtW mg C)
    (A1 : At P w K mg base CX0 1 "_law_cell_at" ["script", "k"] (spCell K) f1 fd1) (A2 : At P w K mg base CX0 1 "_law_well" ["cell"] spWellN f2 fd2) (A3 : At P w K mg base CX0 3 "_law_unit" ["well"] (spUnit K) f3 fd3) (A4 : At P w K mg base CX0 4 "_law_spec" ["well", "reach", "cap", "unit"] (spSpecL K) f4 fd4)
    (A5 : At P w K mg base CX0 3 "_law_depths" ["well", "spec"] (spDepthsN K) f5 fd5) (A6 : At P w K mg base CX0 1 "_law_draw" ["well", "many"] spDrawN f6 fd6) (A7 : At P w K mg base CX0 2 "_law_one" ["well", "some"] spOneN f7 fd7)
    (A9 : At P w K mg base CX0 10 "_law_right" ["spec", "goal", "spot"] (spRightA K [(Pt, baQ), (Pu, mkQ)]) f9 fd9) : FnOk P w K mg base CX0 11 f fd ["script"] (spLaw K Pt Pu) := by
  refine F.ok scLaw (fun vs H Q E h => ?_) (fun cdv A outer s H vs Q E hr h => ?_)
  · obtain ⟨_, _, rfl, _⟩ := h
    rfl
  · obtain ⟨a, ns, rfl, hS, hl, hT, q⟩ := h
    have r1 : Room 1 _ := hr.mono (by decide)
    have r2 : Room 2 _ := hr.mono (by decide)
    have r3 : Room 3 _ := hr.mono (by decide)
    have r4 : Room 4 _ := hr.mono (by decide)
    refine ⟨_, pss_cons (ps_for PassesOwn.never rfl (pi_enum (by rfl) Y.enumerate (pa_cons (pe_op op_cat (pe_op op_cat (pe_lst (pa_cons (pe_call A1.G r1 rfl A1.m A1.k A1.b .nil pass0 (pa_cons (pv 0) (pa_cons pe_int pa_nil))) pa_nil)) (pe_slice sl_list (pv 0) (po_some pe_int) (po_some pe_int))) (pe_lst (pa_cons pe_int pa_nil))) pa_nil)) (pg_tup (by rfl) (pgs_cons (pg_name (i := 1) scLaw.nd rfl (.inl rfl)) (pgs_cons (pg_name (i := 2) scLaw.nd rfl (.inl rfl)) pgs_nil)))
        (pss_cons (ps_set (i := 3) scLaw.nd rfl (Or.inl rfl) (pe_call A2.G r1 rfl A2.m A2.k A2.b .nil pass0 (pa_cons (pv 2) pa_nil)))
        (pss_cons (ps_set (i := 4) scLaw.nd rfl (Or.inl rfl) (pe_call A3.G r3 rfl A3.m A3.k A3.b .nil pass0 (pa_cons (pv 3) pa_nil)))
        (pss_cons (ps_asg (pe_call A7.G r2 rfl A7.m A7.k A7.b .nil pass0 (pa_cons (pv 3) (pa_cons (pe_lst (pa_cons (pe_tup (pa_cons pe_int (pa_cons pe_int pa_nil))) (pa_cons (pe_tup (pa_cons pe_int (pa_cons pe_int pa_nil))) (pa_cons (pe_tup (pa_cons pe_int (pa_cons pe_int pa_nil))) (pa_cons (pe_tup (pa_cons pe_int (pa_cons pe_int pa_nil))) pa_nil))))) pa_nil))) (pg_tup (by rfl) (pgs_cons (pg_name (i := 5) scLaw.nd rfl (.inl rfl)) (pgs_cons (pg_name (i := 6) scLaw.nd rfl (.inl rfl)) pgs_nil))))
        (C8.pss_cut (ps_if (pt_cmpR op_gt (pv 1) pe_int (nomark _)) (pss_one (ps_asg (pe_tup (pa_cons pe_int (pa_cons pe_int pa_nil))) (pg_tup (by rfl) (pgs_cons (pg_name (i := 5) scLaw.nd rfl (.inl rfl)) (pgs_cons (pg_name (i := 6) scLaw.nd rfl (.inl rfl)) pgs_nil))))) pss_nil)
        (pss_cons (ps_set (i := 7) scLaw.nd rfl (Or.inl rfl) (pe_call A4.G r4 rfl A4.m A4.k A4.b .nil pass0 (pa_cons (pv 3) (pa_cons (pv 5) (pa_cons (pv 6) (pa_cons (pv 4) pa_nil))))))
        (pss_cons (ps_set (i := 8) scLaw.nd rfl (Or.inl rfl) (pe_call A5.G r3 rfl A5.m A5.k A5.b .nil pass0 (pa_cons (pv 3) (pa_cons (pv 7) pa_nil))))
        (pss_one (ps_if (pt_not (pt_val (pe_call A9.G hr rfl A9.m A9.k A9.b .nil pass0 (pa_cons (pv 7) (pa_cons (pv 8) (pa_cons (pe_call A6.G r1 rfl A6.m A6.k A6.b .nil pass0 (pa_cons (pv 3) (pa_cons (pe_ix ix_tup (pv 7) pe_int (fun _ _ => rfl)) pa_nil))) pa_nil)))))) (pss_one (ps_ret pe_bl)) pss_nil)))))))))
      (pss_one (ps_ret pe_bl)), ?_⟩
    refine ⟨_, rfl, a, ns, 0, rfl, hS, by decide, fun c => ⟨(by show 1 ≤ sizeLine; decide), fun p1 h1 => ?_⟩⟩
    have s1 : Same H (upd H p1 (.lst [.int c])) := same1 h1
    have e1 : (upd H p1 (.lst [.int c]) : Hp) p1 = some (.lst [.int c]) := upd_same
    generalize upd H p1 (.lst [.int c]) = H1 at *
    refine ⟨_, rfl, _, rfl, _, rfl, a, _, rfl, s1.seq hS, fun p2 h2 => ?_⟩
    obtain ⟨cs, ecs⟩ := cells_of c ns (some 1) (some 3)
    have lcut := cutV_length (ns.map V.int) (some 1) (some 3)
    rw [List.length_map] at lcut
    generalize cutV (ns.map V.int) (some 1) (some 3) = mid at *
    have s2 : Same H1 (upd H1 p2 (.lst mid)) := same1 h2
    have e2 : (upd H1 p2 (.lst mid) : Hp) p2 = some (.lst mid) := upd_same
    generalize upd H1 p2 (.lst mid) = H2 at *
    refine ⟨p1, p2, _, _, rfl, rfl, s2 _ _ e1, e2, ?_, fun p3 h3 => ⟨(by show 1 ≤ sizeLine; decide), fun p4 h4 => ?_⟩⟩
    · rw [List.length_singleton]
      exact Nat.le_trans (show 1 + mid.length ≤ 64 by omega) (by decide)
    have s3 : Same H2 (upd H2 p3 (.lst ([.int c] ++ mid))) := same1 h3
    have e3 : (upd H2 p3 (.lst ([.int c] ++ mid)) : Hp) p3 = some (.lst ([.int c] ++ mid)) := upd_same
    generalize upd H2 p3 (.lst ([.int c] ++ mid)) = H3 at *
    have s4 : Same H3 (upd H3 p4 (.lst [.int 0])) := same1 h4
    have e4 : (upd H3 p4 (.lst [.int 0]) : Hp) p4 = some (.lst [.int 0]) := upd_same
    generalize upd H3 p4 (.lst [.int 0]) = H4 at *
    refine ⟨p3, p4, _, _, rfl, rfl, s4 _ _ e3, e4, ?_, fun B0 hB => ?_⟩
    · rw [List.length_append, List.length_singleton, List.length_singleton]
      exact Nat.le_trans (show 1 + mid.length + 1 ≤ 65 by omega) (by decide)
    rw [ecs]
    have s5 : Same H4 (upd H4 B0 (.lst (cs.map V.int))) := same1 hB
    have eB : (upd H4 B0 (.lst (cs.map V.int)) : Hp) B0 = some (.lst (cs.map V.int)) := upd_same
    generalize upd H4 B0 (.lst (cs.map V.int)) = H5 at *
    have T5 := hT.ext (s1.trans (s2.trans (s3.trans (s4.trans s5))))
    refine ⟨B0, _, rfl, SqL.of eB, ?_⟩
    refine for_it (walk_enum (K := K) (a := B0) (xs := cs.map V.int)) (fun i σ G => (∃ v1 v2 v3 v4 v5 v6 v7 v8 : Option V, σ = [some (.ref a), v1, v2, v3, v4, v5, v6, v7, v8]) ∧ G B0 = some (.lst (cs.map V.int)) ∧ Tabs [(Pt, baQ), (Pu, mkQ)] G) ⟨⟨_, _, _, _, _, _, _, _, rfl⟩, eB, T5⟩ ?_ ?_ ?_
    · rintro i σ G _ ⟨_, eG, _⟩
      exact SqL.of eG
    · rintro i x σ G0 G' hi ⟨⟨v1, v2, v3, v4, v5, v6, v7, v8, rfl⟩, eG0, TG0⟩ ⟨T, x1, x2, rfl, hT0, rfl, ex1, ex2⟩
      obtain rfl := Option.some.inj ex1
      have ex2 : (cs.map V.int)[i]? = some x2 := ex2
      rw [List.getElem?_map] at ex2
      obtain ⟨cc, _, rfl⟩ := Option.map_eq_some_iff.mp ex2
      have s6 : Same G0 (upd G0 T (.tup [.int (i : Nat), .int cc])) := same1 hT0
      refine ⟨T, _, rfl, SqT.of upd_same, rfl, _, _, rfl, _, _, rfl, rfl, ?_⟩
      generalize upd G0 T (.tup [.int (i : Nat), .int cc]) = G at *
      have eG := s6 _ _ eG0
      have TG := TG0.ext s6
      refine ⟨_, rfl, cc, rfl, fun G1 p t1 np w1 => ?_⟩
      have nB : B0 ≠ p := fun z => by
        rw [z, np] at eG
        cases eG
      have eG1 := t1 _ _ eG
      have TG1 := TG.ext t1
      refine ⟨_, rfl, p, _, rfl, w1, by decide, fun G2 u uq b2 w2 hu uok => ?_⟩
      refine ⟨_, rfl, (by show 2 ≤ sizeLine; decide), fun T1 h1 => ⟨(by show 2 ≤ sizeLine; decide), fun T2 h2 => ⟨(by show 2 ≤ sizeLine; decide), fun T3 h3 => ⟨(by show 2 ≤ sizeLine; decide), fun T4 h4 => ⟨(by show 4 ≤ sizeLine; decide), fun L hL => ?_⟩⟩⟩⟩⟩
      have q1 := same1 h1 (o := .tup [.int 5, .int 4])
      have f1' : (upd G2 T1 (.tup [.int 5, .int 4]) : Hp) T1 = some (.tup [.int ((5 : Nat) : Int), .int ((4 : Nat) : Int)]) := upd_same
      generalize upd G2 T1 (.tup [.int 5, .int 4]) = K1 at *
      have q2 := same1 h2 (o := .tup [.int 5, .int 4])
      have f2' : (upd K1 T2 (.tup [.int 5, .int 4]) : Hp) T2 = some (.tup [.int ((5 : Nat) : Int), .int ((4 : Nat) : Int)]) := upd_same
      generalize upd K1 T2 (.tup [.int 5, .int 4]) = K2 at *
      have q3 := same1 h3 (o := .tup [.int 6, .int 8])
      have f3' : (upd K2 T3 (.tup [.int 6, .int 8]) : Hp) T3 = some (.tup [.int ((6 : Nat) : Int), .int ((8 : Nat) : Int)]) := upd_same
      generalize upd K2 T3 (.tup [.int 6, .int 8]) = K3 at *
      have q4 := same1 h4 (o := .tup [.int 8, .int 12])
      have f4' : (upd K3 T4 (.tup [.int 8, .int 12]) : Hp) T4 = some (.tup [.int ((8 : Nat) : Int), .int ((12 : Nat) : Int)]) := upd_same
      generalize upd K3 T4 (.tup [.int 8, .int 12]) = K4 at *
      have q14 := q1.trans (q2.trans (q3.trans q4))
      have w4 := w2.same q14
      have nL := w4.ne hL
      have q5 : Same K4 (upd K4 L (.lst [.ref T1, .ref T2, .ref T3, .ref T4])) := same1 hL
      have eL : (upd K4 L (.lst [.ref T1, .ref T2, .ref T3, .ref T4]) : Hp) L = some (.lst [.ref T1, .ref T2, .ref T3, .ref T4]) := upd_same
      generalize upd K4 L (.lst [.ref T1, .ref T2, .ref T3, .ref T4]) = K5 at *
      have q15 := q14.trans q5
      have w5 := w2.same q15
      refine ⟨p, L, _, _, rfl, w5, by decide, eL, nL, (by show 0 < 4; decide), (by show 4 < 1000; decide), fun G3 x b3 w3 hx => ?_⟩
      obtain ⟨TT, rr, cp, rfl, hTT, rr1, rr8, cp12⟩ : ∃ (TT : Addr) (rr cp : Nat), x = .ref TT ∧ SqT K K5 TT [.int (rr : Int), .int (cp : Int)] ∧ 1 ≤ rr ∧ rr ≤ 8 ∧ cp ≤ 12 := by
        simp only [List.mem_cons, List.not_mem_nil, or_false] at hx
        rcases hx with rfl | rfl | rfl | rfl
        · exact ⟨T1, 5, 4, rfl, SqT.of ((q2.trans (q3.trans (q4.trans q5))) _ _ f1'), by decide, by decide, by decide⟩
        · exact ⟨T2, 5, 4, rfl, SqT.of ((q3.trans (q4.trans q5)) _ _ f2'), by decide, by decide, by decide⟩
        · exact ⟨T3, 6, 8, rfl, SqT.of ((q4.trans q5) _ _ f3'), by decide, by decide, by decide⟩
        · exact ⟨T4, 8, 12, rfl, SqT.of (q5 _ _ f4'), by decide, by decide, by decide⟩
      have hTT3 : SqT K G3 TT [.int (rr : Int), .int (cp : Int)] := b3.tup w5.src hTT
      refine ⟨TT, _, rfl, hTT3, rfl, _, _, rfl, _, _, rfl, rfl, ?_⟩
      have b13 : But p G1 G3 := b2.trans ((same_but q15).trans b3)
      have b23 : But p G2 G3 := (same_but q15).trans b3
      refine ⟨fun σ' N => ∃ rr cp : Nat, σ' = [some (.ref a), some (.int (i : Nat)), some (.int cc), some (.ref p), some (.ref u), some (.int (rr : Int)), some (.int (cp : Int)), v7, v8] ∧ 1 ≤ rr ∧ rr ≤ 8 ∧ cp ≤ 12 ∧ Same G3 N, ?_, ?_⟩
      · refine ⟨_, rfl, _, _, rfl, rfl, _, rfl, ?_⟩
        refine ite2 (fun _ => ?_) (fun _ => ⟨rr, cp, rfl, rr1, rr8, cp12, Same.refl _⟩)
        refine ⟨(by show 2 ≤ sizeLine; decide), fun T9 h9 => ?_⟩
        refine ⟨T9, _, rfl, SqT.of upd_same, rfl, _, _, rfl, _, _, rfl, rfl, 5, 4, rfl, by decide, by decide, by decide, same1 h9⟩
      rintro σ' N ⟨r9, c9, rfl, h91, h92, h93, sN⟩
      have wN := w3.same sN
      have b1N : But p G1 N := b13.trans (same_but sN)
      have b2N : But p G2 N := b23.trans (same_but sN)
      have huN : PairAt K N u uq := b2N.tup w2.src hu
      refine ⟨_, rfl, _, rfl, _, rfl, _, rfl, p, u, r9, c9, _, uq, rfl, wN, by decide, h91, h92, h93, huN, uok, fun N1 t W d1 e1' hW g lb _ _ => ?_⟩
      refine ⟨_, rfl, _, rfl, p, t, _, W, rfl, e1', by decide, hW, g, fun N2 d ds d2 e2' hd ld => ?_⟩
      have hW2 := hW.but d2 e1'.src
      have m1 := g.m1
      have m8 := g.m8
      obtain ⟨rl, sl, h0, _⟩ := id hW2
      refine ⟨_, rfl, _, rfl, _, rfl, _, rfl, t, _, _, _, rfl, rfl, h0, at_k (by decide) rfl, p, _, _, rfl, e2', by decide, by omega, by omega, fun N3 sp d3 e3' sp0 sp1 => ?_⟩
      obtain ⟨P0, rfl⟩ : ∃ P0 : Nat, sp = (P0 : Int) := ⟨sp.toNat, by omega⟩
      have b13' : But p G1 N3 := b1N.trans (d1.trans (d2.trans d3))
      have TN3 := tabs_but TG1 b13' w1.src
      refine ⟨t, d, W, ds, P0, rfl, hW2.but d3 e2'.src, g, lb, d3.tup e2'.src hd, ld, by omega, TN3, fun N4 x4 T4 => ⟨true, rfl, iteF ?_⟩⟩
      exact ⟨⟨_, _, _, _, _, _, _, _, rfl⟩, x4 _ _ (b13' _ _ nB eG1) (fun _ z => nomatch z), T4⟩
    · rintro σ G ⟨⟨v1, v2, v3, v4, v5, v6, v7, v8, rfl⟩, _⟩
      exact q _
end
end K64

namespace K64
open PySem PySem.Spec PyProof.Rows L2
theorem exm_own {K : PySem.W.Frag} {S : Addr} (h1 : PySem.W.subIn K (.ref S) (.type "BaseException") = some true) (h2 : PySem.W.isClsIn K S = true) (h3 : PySem.W.typeIn K (.ref S) = some (.type "type")) (h4 : PySem.W.subIn K (.ref S) (.ref S) = some true) :
    PySem.W.exmOne K (.ref S) (.ref S) = some true := by
  have a : (PySem.W.subIn K (.ref S) (.type "BaseException") == some true) = true := by rw [h1] <;> rfl
  have b : ((PySem.W.clsIn K S).isSome && PySem.W.typeIn K (.ref S) == some (.type "type")) = true := by
    rw [show (PySem.W.clsIn K S).isSome = true from h2, h3] <;> rfl
  show (if (PySem.W.subIn K (.ref S) (.type "BaseException") == some true) = true then (if ((PySem.W.clsIn K S).isSome && PySem.W.typeIn K (.ref S) == some (.type "type")) = true then PySem.W.subIn K (.ref S) (.ref S) else none) else none) = some true
  rw [if_pos a, if_pos b]
  exact h4
end K64

namespace K64
open PySem PySem.Spec PyProof.Rows L2
theorem kb_before {K : PySem.W.Frag} {f : Addr} {fd : FuncData} (F : Fun K "before" "before" d_before f fd) : KBn K fd ["web", "depths", "rain"] 2 ["rain"] (fun us ws => us ++ ws) (fun vs zs => vs ++ zs) :=
  kbn_rain F fun _ _ _ _ _ _ us ws l1 l2 => match us, ws, l1, l2 with | [_, _], [_], _, _ => rfl
end K64

namespace K64
open PySem PySem.Spec PyProof.Rows L2
theorem kb_any {K : PySem.W.Frag} {kV doc pm ct : Value} {an : Option Addr} {cc : Addr} : KBn K (PySem.W.fnOf "before_any" "before_any" (defArgs d_before_any) (defBody d_before_any) (defScope d_before_any) .none kV doc pm an (.ref cc) ct) ["web", "depths", "place"] 2 ["place"] (fun us ws => us ++ ws) (fun vs zs => vs ++ zs) :=
  ⟨fun _ us ws _ l1 l2 => .of_eq (match us, ws, l1, l2 with | [_, _], [_], _, _ => rfl), fun r1 r2 => r1.append r2⟩
end K64

namespace K64
open PySem PySem.Spec PyProof.Rows L2 LamX
theorem all_mk {P : Program} {w : World} {K : PySem.W.Frag} {h : Heap} {mg : Str → Option Value} {fa : Addr} (X : K.In h) (G : h.Ns mainGlobals mg) (hfa : mg "law" = some (.ref fa))
    {tk_MOST_PLACES : Tok}
    {tk_MOST_BEDS : Tok}
    {tk_MOST_BEDS_OF_A_PLACE : Tok}
    {tk_MOST_OF_A_PART : Tok}
    {cRillError : Addr}
    {cNoShare : Addr}
    {cShare : Addr}
    {f_Share_init : Addr} {od_Share_init an_Share_init : Option Addr} {sl_Share_init : Array (Option Value)} {oc_Share_init kV_Share_init dc_Share_init pm_Share_init ct_Share_init : Value}
    {cd_Share_init : Value}
    {TD_Share_init : Addr} {ocTD_Share_init : Value} {odTD_Share_init : Option Addr} {nTD_Share_init : Nat} {slTD_Share_init : Array (Option Value)} {tkTD_Share_init : Tok}
    {f_Share_eq : Addr} {od_Share_eq an_Share_eq : Option Addr} {sl_Share_eq : Array (Option Value)} {oc_Share_eq kV_Share_eq dc_Share_eq pm_Share_eq ct_Share_eq : Value}
    {cd_Share_eq : Value}
    {cWeb : Addr}
    {f_Web_init : Addr} {od_Web_init an_Web_init : Option Addr} {sl_Web_init : Array (Option Value)} {oc_Web_init kV_Web_init dc_Web_init pm_Web_init ct_Web_init : Value}
    {cd_Web_init : Value}
    {f_Web_eq : Addr} {od_Web_eq an_Web_eq : Option Addr} {sl_Web_eq : Array (Option Value)} {oc_Web_eq kV_Web_eq dc_Web_eq pm_Web_eq ct_Web_eq : Value}
    {cd_Web_eq : Value}
    {f_is_whole : Addr} {od_is_whole an_is_whole : Option Addr} {sl_is_whole : Array (Option Value)} {oc_is_whole kV_is_whole dc_is_whole pm_is_whole ct_is_whole : Value}
    {cd_is_whole : Value}
    {f_is_between : Addr} {od_is_between an_is_between : Option Addr} {sl_is_between : Array (Option Value)} {oc_is_between kV_is_between dc_is_between pm_is_between ct_is_between : Value}
    {cd_is_between : Value}
    {f_times : Addr} {od_times an_times : Option Addr} {sl_times : Array (Option Value)} {oc_times kV_times dc_times pm_times ct_times : Value}
    {cd_times : Value}
    {f_over : Addr} {od_over an_over : Option Addr} {sl_over : Array (Option Value)} {oc_over kV_over dc_over pm_over ct_over : Value}
    {cd_over : Value}
    {f_less : Addr} {od_less an_less : Option Addr} {sl_less : Array (Option Value)} {oc_less kV_less dc_less pm_less ct_less : Value}
    {cd_less : Value}
    {f_total : Addr} {od_total an_total : Option Addr} {sl_total : Array (Option Value)} {oc_total kV_total dc_total pm_total ct_total : Value}
    {cd_total : Value}
    {f_are_beds : Addr} {od_are_beds an_are_beds : Option Addr} {sl_are_beds : Array (Option Value)} {oc_are_beds kV_are_beds dc_are_beds pm_are_beds ct_are_beds : Value}
    {cd_are_beds : Value}
    {f_is_a_bed : Addr} {od_is_a_bed an_is_a_bed : Option Addr} {sl_is_a_bed : Array (Option Value)} {oc_is_a_bed kV_is_a_bed dc_is_a_bed pm_is_a_bed ct_is_a_bed : Value}
    {cd_is_a_bed : Value}
    {f_are_parts : Addr} {od_are_parts an_are_parts : Option Addr} {sl_are_parts : Array (Option Value)} {oc_are_parts kV_are_parts dc_are_parts pm_are_parts ct_are_parts : Value}
    {cd_are_parts : Value}
    {f_are_parts_of_one : Addr} {od_are_parts_of_one an_are_parts_of_one : Option Addr} {sl_are_parts_of_one : Array (Option Value)} {oc_are_parts_of_one kV_are_parts_of_one dc_are_parts_of_one pm_are_parts_of_one ct_are_parts_of_one : Value}
    {cd_are_parts_of_one : Value}
    {f_is_place : Addr} {od_is_place an_is_place : Option Addr} {sl_is_place : Array (Option Value)} {oc_is_place kV_is_place dc_is_place pm_is_place ct_is_place : Value}
    {cd_is_place : Value}
    {f_beds_from : Addr} {od_beds_from an_beds_from : Option Addr} {sl_beds_from : Array (Option Value)} {oc_beds_from kV_beds_from dc_beds_from pm_beds_from ct_beds_from : Value}
    {cd_beds_from : Value}
    {f_are_depths : Addr} {od_are_depths an_are_depths : Option Addr} {sl_are_depths : Array (Option Value)} {oc_are_depths kV_are_depths dc_are_depths pm_are_depths ct_are_depths : Value}
    {cd_are_depths : Value}
    {f_is_rain : Addr} {od_is_rain an_is_rain : Option Addr} {sl_is_rain : Array (Option Value)} {oc_is_rain kV_is_rain dc_is_rain pm_is_rain ct_is_rain : Value}
    {cd_is_rain : Value}
    {f_parts_borne : Addr} {od_parts_borne an_parts_borne : Option Addr} {sl_parts_borne : Array (Option Value)} {oc_parts_borne kV_parts_borne dc_parts_borne pm_parts_borne ct_parts_borne : Value}
    {cd_parts_borne : Value}
    {f_move_of : Addr} {od_move_of an_move_of : Option Addr} {sl_move_of : Array (Option Value)} {oc_move_of kV_move_of dc_move_of pm_move_of ct_move_of : Value}
    {cd_move_of : Value}
    {f_check_depths : Addr} {od_check_depths an_check_depths : Option Addr} {sl_check_depths : Array (Option Value)} {oc_check_depths kV_check_depths dc_check_depths pm_check_depths ct_check_depths : Value}
    {cd_check_depths : Value}
    {f_check_rain : Addr} {od_check_rain an_check_rain : Option Addr} {sl_check_rain : Array (Option Value)} {oc_check_rain kV_check_rain dc_check_rain pm_check_rain ct_check_rain : Value}
    {cd_check_rain : Value}
    {f_check_place : Addr} {od_check_place an_check_place : Option Addr} {sl_check_place : Array (Option Value)} {oc_check_place kV_check_place dc_check_place pm_check_place ct_check_place : Value}
    {cd_check_place : Value}
    {f_gaps_of : Addr} {od_gaps_of an_gaps_of : Option Addr} {sl_gaps_of : Array (Option Value)} {oc_gaps_of kV_gaps_of dc_gaps_of pm_gaps_of ct_gaps_of : Value}
    {cd_gaps_of : Value}
    {f_leads_of : Addr} {od_leads_of an_leads_of : Option Addr} {sl_leads_of : Array (Option Value)} {oc_leads_of kV_leads_of dc_leads_of pm_leads_of ct_leads_of : Value}
    {cd_leads_of : Value}
    {f_flow_of : Addr} {od_flow_of an_flow_of : Option Addr} {sl_flow_of : Array (Option Value)} {oc_flow_of kV_flow_of dc_flow_of pm_flow_of ct_flow_of : Value}
    {cd_flow_of : Value}
    {f_moves_of : Addr} {od_moves_of an_moves_of : Option Addr} {sl_moves_of : Array (Option Value)} {oc_moves_of kV_moves_of dc_moves_of pm_moves_of ct_moves_of : Value}
    {cd_moves_of : Value}
    {f_all_amounts : Addr} {od_all_amounts an_all_amounts : Option Addr} {sl_all_amounts : Array (Option Value)} {oc_all_amounts kV_all_amounts dc_all_amounts pm_all_amounts ct_all_amounts : Value}
    {cd_all_amounts : Value}
    {f_stretch_or_none : Addr} {od_stretch_or_none an_stretch_or_none : Option Addr} {sl_stretch_or_none : Array (Option Value)} {oc_stretch_or_none kV_stretch_or_none dc_stretch_or_none pm_stretch_or_none ct_stretch_or_none : Value}
    {cd_stretch_or_none : Value}
    {f_part_above : Addr} {od_part_above an_part_above : Option Addr} {sl_part_above : Array (Option Value)} {oc_part_above kV_part_above dc_part_above pm_part_above ct_part_above : Value}
    {cd_part_above : Value}
    {f_part_below : Addr} {od_part_below an_part_below : Option Addr} {sl_part_below : Array (Option Value)} {oc_part_below kV_part_below dc_part_below pm_part_below ct_part_below : Value}
    {cd_part_below : Value}
    {f_part_moving : Addr} {od_part_moving an_part_moving : Option Addr} {sl_part_moving : Array (Option Value)} {oc_part_moving kV_part_moving dc_part_moving pm_part_moving ct_part_moving : Value}
    {cd_part_moving : Value}
    {f_parts_by_moves : Addr} {od_parts_by_moves an_parts_by_moves : Option Addr} {sl_parts_by_moves : Array (Option Value)} {oc_parts_by_moves kV_parts_by_moves dc_parts_by_moves pm_parts_by_moves ct_parts_by_moves : Value}
    {cd_parts_by_moves : Value}
    {f_flow_from : Addr} {od_flow_from an_flow_from : Option Addr} {sl_flow_from : Array (Option Value)} {oc_flow_from kV_flow_from dc_flow_from pm_flow_from ct_flow_from : Value}
    {cd_flow_from : Value}
    {f_all_leads : Addr} {od_all_leads an_all_leads : Option Addr} {sl_all_leads : Array (Option Value)} {oc_all_leads kV_all_leads dc_all_leads pm_all_leads ct_all_leads : Value}
    {cd_all_leads : Value}
    {f_led_back : Addr} {od_led_back an_led_back : Option Addr} {sl_led_back : Array (Option Value)} {oc_led_back kV_led_back dc_led_back pm_led_back ct_led_back : Value}
    {cd_led_back : Value}
    {f_before : Addr} {od_before an_before : Option Addr} {sl_before : Array (Option Value)} {oc_before kV_before dc_before pm_before ct_before : Value}
    {cd_before : Value}
    {f_rains_between : Addr} {od_rains_between an_rains_between : Option Addr} {sl_rains_between : Array (Option Value)} {oc_rains_between kV_rains_between dc_rains_between pm_rains_between ct_rains_between : Value}
    {cd_rains_between : Value}
    {cc Pt : Addr}
    {f_before_any : Addr} {od_before_any an_before_any : Option Addr} {sl_before_any : Array (Option Value)} {oc_before_any kV_before_any dc_before_any pm_before_any ct_before_any : Value}
    {dcC : Option Addr} {vcC : Array Value} {scC : Array (Option Value)}
    {f_law_cell_at : Addr} {od_law_cell_at an_law_cell_at : Option Addr} {sl_law_cell_at : Array (Option Value)} {oc_law_cell_at kV_law_cell_at dc_law_cell_at pm_law_cell_at ct_law_cell_at : Value}
    {cd_law_cell_at : Value}
    {f_law_well : Addr} {od_law_well an_law_well : Option Addr} {sl_law_well : Array (Option Value)} {oc_law_well kV_law_well dc_law_well pm_law_well ct_law_well : Value}
    {cd_law_well : Value}
    {f_law_draw : Addr} {od_law_draw an_law_draw : Option Addr} {sl_law_draw : Array (Option Value)} {oc_law_draw kV_law_draw dc_law_draw pm_law_draw ct_law_draw : Value}
    {cd_law_draw : Value}
    {f_law_one : Addr} {od_law_one an_law_one : Option Addr} {sl_law_one : Array (Option Value)} {oc_law_one kV_law_one dc_law_one pm_law_one ct_law_one : Value}
    {cd_law_one : Value}
    {f_law_low : Addr} {od_law_low an_law_low : Option Addr} {sl_law_low : Array (Option Value)} {oc_law_low kV_law_low dc_law_low pm_law_low ct_law_low : Value}
    {cd_law_low : Value}
    {f_law_plus : Addr} {od_law_plus an_law_plus : Option Addr} {sl_law_plus : Array (Option Value)} {oc_law_plus kV_law_plus dc_law_plus pm_law_plus ct_law_plus : Value}
    {cd_law_plus : Value}
    {f_law_by : Addr} {od_law_by an_law_by : Option Addr} {sl_law_by : Array (Option Value)} {oc_law_by kV_law_by dc_law_by pm_law_by ct_law_by : Value}
    {cd_law_by : Value}
    {f_law_under : Addr} {od_law_under an_law_under : Option Addr} {sl_law_under : Array (Option Value)} {oc_law_under kV_law_under dc_law_under pm_law_under ct_law_under : Value}
    {cd_law_under : Value}
    {f_law_share : Addr} {od_law_share an_law_share : Option Addr} {sl_law_share : Array (Option Value)} {oc_law_share kV_law_share dc_law_share pm_law_share ct_law_share : Value}
    {cd_law_share : Value}
    {f_law_unit : Addr} {od_law_unit an_law_unit : Option Addr} {sl_law_unit : Array (Option Value)} {oc_law_unit kV_law_unit dc_law_unit pm_law_unit ct_law_unit : Value}
    {cd_law_unit : Value}
    {f_law_bed : Addr} {od_law_bed an_law_bed : Option Addr} {sl_law_bed : Array (Option Value)} {oc_law_bed kV_law_bed dc_law_bed pm_law_bed ct_law_bed : Value}
    {cd_law_bed : Value}
    {f_law_spec : Addr} {od_law_spec an_law_spec : Option Addr} {sl_law_spec : Array (Option Value)} {oc_law_spec kV_law_spec dc_law_spec pm_law_spec ct_law_spec : Value}
    {cd_law_spec : Value}
    {f_law_web : Addr} {od_law_web an_law_web : Option Addr} {sl_law_web : Array (Option Value)} {oc_law_web kV_law_web dc_law_web pm_law_web ct_law_web : Value}
    {cd_law_web : Value}
    {f_law_depths : Addr} {od_law_depths an_law_depths : Option Addr} {sl_law_depths : Array (Option Value)} {oc_law_depths kV_law_depths dc_law_depths pm_law_depths ct_law_depths : Value}
    {cd_law_depths : Value}
    {f_law_ranked : Addr} {od_law_ranked an_law_ranked : Option Addr} {sl_law_ranked : Array (Option Value)} {oc_law_ranked kV_law_ranked dc_law_ranked pm_law_ranked ct_law_ranked : Value}
    {cd_law_ranked : Value}
    {f_law_move : Addr} {od_law_move an_law_move : Option Addr} {sl_law_move : Array (Option Value)} {oc_law_move kV_law_move dc_law_move pm_law_move ct_law_move : Value}
    {cd_law_move : Value}
    {f_law_day : Addr} {od_law_day an_law_day : Option Addr} {sl_law_day : Array (Option Value)} {oc_law_day kV_law_day dc_law_day pm_law_day ct_law_day : Value}
    {cd_law_day : Value}
    {f_law_at : Addr} {od_law_at an_law_at : Option Addr} {sl_law_at : Array (Option Value)} {oc_law_at kV_law_at dc_law_at pm_law_at ct_law_at : Value}
    {cd_law_at : Value}
    {cc2 Pt2 : Addr}
    {f_law_marked : Addr} {od_law_marked an_law_marked : Option Addr} {sl_law_marked : Array (Option Value)} {oc_law_marked kV_law_marked dc_law_marked pm_law_marked ct_law_marked : Value}
    {dcC2 : Option Addr} {vcC2 : Array Value} {scC2 : Array (Option Value)}
    {f_law_points : Addr} {od_law_points an_law_points : Option Addr} {sl_law_points : Array (Option Value)} {oc_law_points kV_law_points dc_law_points pm_law_points ct_law_points : Value}
    {cd_law_points : Value}
    {f_law_samples : Addr} {od_law_samples an_law_samples : Option Addr} {sl_law_samples : Array (Option Value)} {oc_law_samples kV_law_samples dc_law_samples pm_law_samples ct_law_samples : Value}
    {cd_law_samples : Value}
    {f_law_pair : Addr} {od_law_pair an_law_pair : Option Addr} {sl_law_pair : Array (Option Value)} {oc_law_pair kV_law_pair dc_law_pair pm_law_pair ct_law_pair : Value}
    {cd_law_pair : Value}
    {f_law_is_in : Addr} {od_law_is_in an_law_is_in : Option Addr} {sl_law_is_in : Array (Option Value)} {oc_law_is_in kV_law_is_in dc_law_is_in pm_law_is_in ct_law_is_in : Value}
    {cd_law_is_in : Value}
    {f_law_is_stretch : Addr} {od_law_is_stretch an_law_is_stretch : Option Addr} {sl_law_is_stretch : Array (Option Value)} {oc_law_is_stretch kV_law_is_stretch dc_law_is_stretch pm_law_is_stretch ct_law_is_stretch : Value}
    {cd_law_is_stretch : Value}
    {f_law_neighbours : Addr} {od_law_neighbours an_law_neighbours : Option Addr} {sl_law_neighbours : Array (Option Value)} {oc_law_neighbours kV_law_neighbours dc_law_neighbours pm_law_neighbours ct_law_neighbours : Value}
    {cd_law_neighbours : Value}
    {f_law_rows : Addr} {od_law_rows an_law_rows : Option Addr} {sl_law_rows : Array (Option Value)} {oc_law_rows kV_law_rows dc_law_rows pm_law_rows ct_law_rows : Value}
    {cd_law_rows : Value}
    {f_law_bears : Addr} {od_law_bears an_law_bears : Option Addr} {sl_law_bears : Array (Option Value)} {oc_law_bears kV_law_bears dc_law_bears pm_law_bears ct_law_bears : Value}
    {cd_law_bears : Value}
    {f_law_elders : Addr} {od_law_elders an_law_elders : Option Addr} {sl_law_elders : Array (Option Value)} {oc_law_elders kV_law_elders dc_law_elders pm_law_elders ct_law_elders : Value}
    {cd_law_elders : Value}
    {f_law_leading : Addr} {od_law_leading an_law_leading : Option Addr} {sl_law_leading : Array (Option Value)} {oc_law_leading kV_law_leading dc_law_leading pm_law_leading ct_law_leading : Value}
    {cd_law_leading : Value}
    {f_law_told_right : Addr} {od_law_told_right an_law_told_right : Option Addr} {sl_law_told_right : Array (Option Value)} {oc_law_told_right kV_law_told_right dc_law_told_right pm_law_told_right ct_law_told_right : Value}
    {cd_law_told_right : Value}
    {f_law_right : Addr} {od_law_right an_law_right : Option Addr} {sl_law_right : Array (Option Value)} {oc_law_right kV_law_right dc_law_right pm_law_right ct_law_right : Value}
    {cd_law_right : Value}
    {f_law : Addr} {od_law an_law : Option Addr} {sl_law : Array (Option Value)} {oc_law kV_law dc_law pm_law ct_law : Value}
    {cd_law : Value}
    (z_ValueError : PySem.W.nsIn K mainGlobals "ValueError" = some none)
    (z_abs : PySem.W.nsIn K mainGlobals "abs" = some none)
    (z_all : PySem.W.nsIn K mainGlobals "all" = some none)
    (z_any : PySem.W.nsIn K mainGlobals "any" = some none)
    (z_bool : PySem.W.nsIn K mainGlobals "bool" = some none)
    (z_enumerate : PySem.W.nsIn K mainGlobals "enumerate" = some none)
    (z_int : PySem.W.nsIn K mainGlobals "int" = some none)
    (z_isinstance : PySem.W.nsIn K mainGlobals "isinstance" = some none)
    (z_len : PySem.W.nsIn K mainGlobals "len" = some none)
    (z_list : PySem.W.nsIn K mainGlobals "list" = some none)
    (z_range : PySem.W.nsIn K mainGlobals "range" = some none)
    (z_set : PySem.W.nsIn K mainGlobals "set" = some none)
    (z_sorted : PySem.W.nsIn K mainGlobals "sorted" = some none)
    (z_sum : PySem.W.nsIn K mainGlobals "sum" = some none)
    (z_super : PySem.W.nsIn K mainGlobals "super" = some none)
    (z_tuple : PySem.W.nsIn K mainGlobals "tuple" = some none)
    (z_zip : PySem.W.nsIn K mainGlobals "zip" = some none)
    (i_gcd : PySem.W.nsIn K mainGlobals "gcd" = some (some (.builtin "math.gcd")))
    (i_lcm : PySem.W.nsIn K mainGlobals "lcm" = some (some (.builtin "math.lcm")))
    (g_MOST_PLACES : PySem.W.nsIn K mainGlobals "MOST_PLACES" = some (some (.int 8 tk_MOST_PLACES)))
    (g_MOST_BEDS : PySem.W.nsIn K mainGlobals "MOST_BEDS" = some (some (.int 12 tk_MOST_BEDS)))
    (g_MOST_BEDS_OF_A_PLACE : PySem.W.nsIn K mainGlobals "MOST_BEDS_OF_A_PLACE" = some (some (.int 2 tk_MOST_BEDS_OF_A_PLACE)))
    (g_MOST_OF_A_PART : PySem.W.nsIn K mainGlobals "MOST_OF_A_PART" = some (some (.int 9 tk_MOST_OF_A_PART)))
    (acRillError : PySem.W.nsIn K mainGlobals "RillError" = some (some (.ref cRillError)))
    (xcRillError : PySem.W.excIn K cRillError [.type "ValueError", .type "Exception", .type "BaseException", .type "object"] "ValueError.__new__" = true)
    (kcRillError : PySem.W.keepIn K (.ref cRillError) = true)
    (bcRillError : PySem.W.subIn K (.ref cRillError) (.type "BaseException") = some true)
    (tcRillError : PySem.W.typeIn K (.ref cRillError) = some (.type "type"))
    (icRillError : PySem.W.isClsIn K cRillError = true)
    (scRillError : PySem.W.subIn K (.ref cRillError) (.ref cRillError) = some true)
    (acNoShare : PySem.W.nsIn K mainGlobals "NoShare" = some (some (.ref cNoShare)))
    (xcNoShare : PySem.W.excIn K cNoShare [.type "ValueError", .type "Exception", .type "BaseException", .type "object"] "ValueError.__new__" = true)
    (kcNoShare : PySem.W.keepIn K (.ref cNoShare) = true)
    (bcNoShare : PySem.W.subIn K (.ref cNoShare) (.type "BaseException") = some true)
    (tcNoShare : PySem.W.typeIn K (.ref cNoShare) = some (.type "type"))
    (icNoShare : PySem.W.isClsIn K cNoShare = true)
    (scNoShare : PySem.W.subIn K (.ref cNoShare) (.ref cNoShare) = some true)
    (acShare : PySem.W.nsIn K mainGlobals "Share" = some (some (.ref cShare)))
    (pgcShare : PySem.W.plainGet K cShare Str.empty = true)
    (hdcShare : PySem.W.hasDictIn K cShare = true)
    (pocShare : PySem.W.plainOver K cShare = true)
    (sacShare : PySem.W.findIn K (.ref cShare) "__setattr__" = some (some (.builtin "object.__setattr__")))
    (mkcShare : PySem.W.makesIn K cShare = true)
    (kccShare : PySem.W.keepIn K (.ref cShare) = true)
    (ncShare_bottom : PySem.W.findIn K (.ref cShare) "bottom" = some none)
    (ncShare_top : PySem.W.findIn K (.ref cShare) "top" = some none)
    (gccShare : PySem.W.findIn K (.ref cShare) "__class__" = some (some (.builtin "object.__class__")))
    (gmcShare : PySem.W.mroIn K cShare (.type "object") = some true)
    (mecShare : PySem.W.kitOne K (.ref cShare) (.ref cShare) = some true)
    (mcShare_tuple : PySem.W.kitOne K (.type "tuple") (.ref cShare) = some false)
    (ucShare_tuple : PySem.W.kitOne K (.ref cShare) (.type "tuple") = some false)
    (mcShare_int : PySem.W.kitOne K (.type "int") (.ref cShare) = some false)
    (ucShare_int : PySem.W.kitOne K (.ref cShare) (.type "int") = some false)
    (mcShare_NoneType : PySem.W.kitOne K (.type "NoneType") (.ref cShare) = some false)
    (mcShare_list : PySem.W.kitOne K (.type "list") (.ref cShare) = some false)
    (ucShare_list : PySem.W.kitOne K (.ref cShare) (.type "list") = some false)
    (mcShare_str : PySem.W.kitOne K (.type "str") (.ref cShare) = some false)
    (mcShare_bool : PySem.W.kitOne K (.type "bool") (.ref cShare) = some false)
    (ucShare_bool : PySem.W.kitOne K (.ref cShare) (.type "bool") = some false)
    (mcShare_dict : PySem.W.kitOne K (.type "dict") (.ref cShare) = some false)
    (ecShare : PySem.W.findIn K (.ref cShare) "__ne__" = some (some (.builtin "object.__ne__")))
    (ocShare : PySem.W.subIn K (.ref cShare) (.type "object") = some true)
    (wcShare_tuple : PySem.W.subIn K (.ref cShare) (.type "tuple") = some false)
    (ycShare_tuple : PySem.W.subIn K (.type "tuple") (.ref cShare) = some false)
    (wcShare_int : PySem.W.subIn K (.ref cShare) (.type "int") = some false)
    (ycShare_int : PySem.W.subIn K (.type "int") (.ref cShare) = some false)
    (wcShare_NoneType : PySem.W.subIn K (.ref cShare) (.type "NoneType") = some false)
    (ycShare_NoneType : PySem.W.subIn K (.type "NoneType") (.ref cShare) = some false)
    (wcShare_list : PySem.W.subIn K (.ref cShare) (.type "list") = some false)
    (ycShare_list : PySem.W.subIn K (.type "list") (.ref cShare) = some false)
    (wcShare_str : PySem.W.subIn K (.ref cShare) (.type "str") = some false)
    (ycShare_str : PySem.W.subIn K (.type "str") (.ref cShare) = some false)
    (wcShare_bool : PySem.W.subIn K (.ref cShare) (.type "bool") = some false)
    (ycShare_bool : PySem.W.subIn K (.type "bool") (.ref cShare) = some false)
    (wcShare_dict : PySem.W.subIn K (.ref cShare) (.type "dict") = some false)
    (ycShare_dict : PySem.W.subIn K (.type "dict") (.ref cShare) = some false)
    (a_Share_init : PySem.W.findIn K (.ref cShare) "__init__" = some (some (.ref f_Share_init)))
    (i_Share_init : PySem.W.isFn K (.ref f_Share_init) = true)
    (l_Share_init : K.lookup f_Share_init = some ⟨oc_Share_init, od_Share_init, .func (PySem.W.fnOf "__init__" "Share.__init__" (defArgs d_Share_init) (defBody d_Share_init) (defScope d_Share_init) (.ref TD_Share_init) kV_Share_init dc_Share_init pm_Share_init an_Share_init cd_Share_init ct_Share_init), sl_Share_init⟩)
    (c_Share_init : PySem.W.codeIn K cd_Share_init "Share.__init__" = true)
    (k_Share_init : PySem.W.keepIn K (.ref f_Share_init) = true)
    (lTD_Share_init : K.lookup TD_Share_init = some ⟨ocTD_Share_init, odTD_Share_init, .seq [Value.int 1 tkTD_Share_init].toArray nTD_Share_init, slTD_Share_init⟩)
    (a_Share_eq : PySem.W.findIn K (.ref cShare) "__eq__" = some (some (.ref f_Share_eq)))
    (i_Share_eq : PySem.W.isFn K (.ref f_Share_eq) = true)
    (l_Share_eq : K.lookup f_Share_eq = some ⟨oc_Share_eq, od_Share_eq, .func (PySem.W.fnOf "__eq__" "Share.__eq__" (defArgs d_Share_eq) (defBody d_Share_eq) (defScope d_Share_eq) .none kV_Share_eq dc_Share_eq pm_Share_eq an_Share_eq cd_Share_eq ct_Share_eq), sl_Share_eq⟩)
    (c_Share_eq : PySem.W.codeIn K cd_Share_eq "Share.__eq__" = true)
    (k_Share_eq : PySem.W.keepIn K (.ref f_Share_eq) = true)
    (acWeb : PySem.W.nsIn K mainGlobals "Web" = some (some (.ref cWeb)))
    (pgcWeb : PySem.W.plainGet K cWeb Str.empty = true)
    (hdcWeb : PySem.W.hasDictIn K cWeb = true)
    (pocWeb : PySem.W.plainOver K cWeb = true)
    (sacWeb : PySem.W.findIn K (.ref cWeb) "__setattr__" = some (some (.builtin "object.__setattr__")))
    (mkcWeb : PySem.W.makesIn K cWeb = true)
    (kccWeb : PySem.W.keepIn K (.ref cWeb) = true)
    (ncWeb_beds : PySem.W.findIn K (.ref cWeb) "beds" = some none)
    (ncWeb_many : PySem.W.findIn K (.ref cWeb) "many" = some none)
    (ncWeb_parts : PySem.W.findIn K (.ref cWeb) "parts" = some none)
    (gccWeb : PySem.W.findIn K (.ref cWeb) "__class__" = some (some (.builtin "object.__class__")))
    (gmcWeb : PySem.W.mroIn K cWeb (.type "object") = some true)
    (mecWeb : PySem.W.kitOne K (.ref cWeb) (.ref cWeb) = some true)
    (mcWeb_tuple : PySem.W.kitOne K (.type "tuple") (.ref cWeb) = some false)
    (ucWeb_tuple : PySem.W.kitOne K (.ref cWeb) (.type "tuple") = some false)
    (mcWeb_int : PySem.W.kitOne K (.type "int") (.ref cWeb) = some false)
    (ucWeb_int : PySem.W.kitOne K (.ref cWeb) (.type "int") = some false)
    (mcWeb_NoneType : PySem.W.kitOne K (.type "NoneType") (.ref cWeb) = some false)
    (mcWeb_list : PySem.W.kitOne K (.type "list") (.ref cWeb) = some false)
    (ucWeb_list : PySem.W.kitOne K (.ref cWeb) (.type "list") = some false)
    (mcWeb_str : PySem.W.kitOne K (.type "str") (.ref cWeb) = some false)
    (mcWeb_bool : PySem.W.kitOne K (.type "bool") (.ref cWeb) = some false)
    (ucWeb_bool : PySem.W.kitOne K (.ref cWeb) (.type "bool") = some false)
    (mcWeb_dict : PySem.W.kitOne K (.type "dict") (.ref cWeb) = some false)
    (ecWeb : PySem.W.findIn K (.ref cWeb) "__ne__" = some (some (.builtin "object.__ne__")))
    (ocWeb : PySem.W.subIn K (.ref cWeb) (.type "object") = some true)
    (wcWeb_tuple : PySem.W.subIn K (.ref cWeb) (.type "tuple") = some false)
    (ycWeb_tuple : PySem.W.subIn K (.type "tuple") (.ref cWeb) = some false)
    (wcWeb_int : PySem.W.subIn K (.ref cWeb) (.type "int") = some false)
    (ycWeb_int : PySem.W.subIn K (.type "int") (.ref cWeb) = some false)
    (wcWeb_NoneType : PySem.W.subIn K (.ref cWeb) (.type "NoneType") = some false)
    (ycWeb_NoneType : PySem.W.subIn K (.type "NoneType") (.ref cWeb) = some false)
    (wcWeb_list : PySem.W.subIn K (.ref cWeb) (.type "list") = some false)
    (ycWeb_list : PySem.W.subIn K (.type "list") (.ref cWeb) = some false)
    (wcWeb_str : PySem.W.subIn K (.ref cWeb) (.type "str") = some false)
    (ycWeb_str : PySem.W.subIn K (.type "str") (.ref cWeb) = some false)
    (wcWeb_bool : PySem.W.subIn K (.ref cWeb) (.type "bool") = some false)
    (ycWeb_bool : PySem.W.subIn K (.type "bool") (.ref cWeb) = some false)
    (wcWeb_dict : PySem.W.subIn K (.ref cWeb) (.type "dict") = some false)
    (ycWeb_dict : PySem.W.subIn K (.type "dict") (.ref cWeb) = some false)
    (a_Web_init : PySem.W.findIn K (.ref cWeb) "__init__" = some (some (.ref f_Web_init)))
    (i_Web_init : PySem.W.isFn K (.ref f_Web_init) = true)
    (l_Web_init : K.lookup f_Web_init = some ⟨oc_Web_init, od_Web_init, .func (PySem.W.fnOf "__init__" "Web.__init__" (defArgs d_Web_init) (defBody d_Web_init) (defScope d_Web_init) .none kV_Web_init dc_Web_init pm_Web_init an_Web_init cd_Web_init ct_Web_init), sl_Web_init⟩)
    (c_Web_init : PySem.W.codeIn K cd_Web_init "Web.__init__" = true)
    (k_Web_init : PySem.W.keepIn K (.ref f_Web_init) = true)
    (a_Web_eq : PySem.W.findIn K (.ref cWeb) "__eq__" = some (some (.ref f_Web_eq)))
    (i_Web_eq : PySem.W.isFn K (.ref f_Web_eq) = true)
    (l_Web_eq : K.lookup f_Web_eq = some ⟨oc_Web_eq, od_Web_eq, .func (PySem.W.fnOf "__eq__" "Web.__eq__" (defArgs d_Web_eq) (defBody d_Web_eq) (defScope d_Web_eq) .none kV_Web_eq dc_Web_eq pm_Web_eq an_Web_eq cd_Web_eq ct_Web_eq), sl_Web_eq⟩)
    (c_Web_eq : PySem.W.codeIn K cd_Web_eq "Web.__eq__" = true)
    (k_Web_eq : PySem.W.keepIn K (.ref f_Web_eq) = true)
    (jShare_Web : PySem.W.kitOne K (.ref cShare) (.ref cWeb) = some false)
    (vShare_Web : PySem.W.subIn K (.ref cShare) (.ref cWeb) = some false)
    (jWeb_Share : PySem.W.kitOne K (.ref cWeb) (.ref cShare) = some false)
    (vWeb_Share : PySem.W.subIn K (.ref cWeb) (.ref cShare) = some false)
    (a_is_whole : PySem.W.nsIn K mainGlobals "is_whole" = some (some (.ref f_is_whole)))
    (l_is_whole : K.lookup f_is_whole = some ⟨oc_is_whole, od_is_whole, .func (PySem.W.fnOf "is_whole" "is_whole" (defArgs d_is_whole) (defBody d_is_whole) (defScope d_is_whole) .none kV_is_whole dc_is_whole pm_is_whole an_is_whole cd_is_whole ct_is_whole), sl_is_whole⟩)
    (c_is_whole : PySem.W.codeIn K cd_is_whole "is_whole" = true)
    (k_is_whole : PySem.W.keepIn K (.ref f_is_whole) = true)
    (a_is_between : PySem.W.nsIn K mainGlobals "is_between" = some (some (.ref f_is_between)))
    (l_is_between : K.lookup f_is_between = some ⟨oc_is_between, od_is_between, .func (PySem.W.fnOf "is_between" "is_between" (defArgs d_is_between) (defBody d_is_between) (defScope d_is_between) .none kV_is_between dc_is_between pm_is_between an_is_between cd_is_between ct_is_between), sl_is_between⟩)
    (c_is_between : PySem.W.codeIn K cd_is_between "is_between" = true)
    (k_is_between : PySem.W.keepIn K (.ref f_is_between) = true)
    (a_times : PySem.W.nsIn K mainGlobals "times" = some (some (.ref f_times)))
    (l_times : K.lookup f_times = some ⟨oc_times, od_times, .func (PySem.W.fnOf "times" "times" (defArgs d_times) (defBody d_times) (defScope d_times) .none kV_times dc_times pm_times an_times cd_times ct_times), sl_times⟩)
    (c_times : PySem.W.codeIn K cd_times "times" = true)
    (k_times : PySem.W.keepIn K (.ref f_times) = true)
    (a_over : PySem.W.nsIn K mainGlobals "over" = some (some (.ref f_over)))
    (l_over : K.lookup f_over = some ⟨oc_over, od_over, .func (PySem.W.fnOf "over" "over" (defArgs d_over) (defBody d_over) (defScope d_over) .none kV_over dc_over pm_over an_over cd_over ct_over), sl_over⟩)
    (c_over : PySem.W.codeIn K cd_over "over" = true)
    (k_over : PySem.W.keepIn K (.ref f_over) = true)
    (a_less : PySem.W.nsIn K mainGlobals "less" = some (some (.ref f_less)))
    (l_less : K.lookup f_less = some ⟨oc_less, od_less, .func (PySem.W.fnOf "less" "less" (defArgs d_less) (defBody d_less) (defScope d_less) .none kV_less dc_less pm_less an_less cd_less ct_less), sl_less⟩)
    (c_less : PySem.W.codeIn K cd_less "less" = true)
    (k_less : PySem.W.keepIn K (.ref f_less) = true)
    (a_total : PySem.W.nsIn K mainGlobals "total" = some (some (.ref f_total)))
    (l_total : K.lookup f_total = some ⟨oc_total, od_total, .func (PySem.W.fnOf "total" "total" (defArgs d_total) (defBody d_total) (defScope d_total) .none kV_total dc_total pm_total an_total cd_total ct_total), sl_total⟩)
    (c_total : PySem.W.codeIn K cd_total "total" = true)
    (k_total : PySem.W.keepIn K (.ref f_total) = true)
    (a_are_beds : PySem.W.nsIn K mainGlobals "are_beds" = some (some (.ref f_are_beds)))
    (l_are_beds : K.lookup f_are_beds = some ⟨oc_are_beds, od_are_beds, .func (PySem.W.fnOf "are_beds" "are_beds" (defArgs d_are_beds) (defBody d_are_beds) (defScope d_are_beds) .none kV_are_beds dc_are_beds pm_are_beds an_are_beds cd_are_beds ct_are_beds), sl_are_beds⟩)
    (c_are_beds : PySem.W.codeIn K cd_are_beds "are_beds" = true)
    (k_are_beds : PySem.W.keepIn K (.ref f_are_beds) = true)
    (a_is_a_bed : PySem.W.nsIn K mainGlobals "is_a_bed" = some (some (.ref f_is_a_bed)))
    (l_is_a_bed : K.lookup f_is_a_bed = some ⟨oc_is_a_bed, od_is_a_bed, .func (PySem.W.fnOf "is_a_bed" "is_a_bed" (defArgs d_is_a_bed) (defBody d_is_a_bed) (defScope d_is_a_bed) .none kV_is_a_bed dc_is_a_bed pm_is_a_bed an_is_a_bed cd_is_a_bed ct_is_a_bed), sl_is_a_bed⟩)
    (c_is_a_bed : PySem.W.codeIn K cd_is_a_bed "is_a_bed" = true)
    (k_is_a_bed : PySem.W.keepIn K (.ref f_is_a_bed) = true)
    (a_are_parts : PySem.W.nsIn K mainGlobals "are_parts" = some (some (.ref f_are_parts)))
    (l_are_parts : K.lookup f_are_parts = some ⟨oc_are_parts, od_are_parts, .func (PySem.W.fnOf "are_parts" "are_parts" (defArgs d_are_parts) (defBody d_are_parts) (defScope d_are_parts) .none kV_are_parts dc_are_parts pm_are_parts an_are_parts cd_are_parts ct_are_parts), sl_are_parts⟩)
    (c_are_parts : PySem.W.codeIn K cd_are_parts "are_parts" = true)
    (k_are_parts : PySem.W.keepIn K (.ref f_are_parts) = true)
    (a_are_parts_of_one : PySem.W.nsIn K mainGlobals "are_parts_of_one" = some (some (.ref f_are_parts_of_one)))
    (l_are_parts_of_one : K.lookup f_are_parts_of_one = some ⟨oc_are_parts_of_one, od_are_parts_of_one, .func (PySem.W.fnOf "are_parts_of_one" "are_parts_of_one" (defArgs d_are_parts_of_one) (defBody d_are_parts_of_one) (defScope d_are_parts_of_one) .none kV_are_parts_of_one dc_are_parts_of_one pm_are_parts_of_one an_are_parts_of_one cd_are_parts_of_one ct_are_parts_of_one), sl_are_parts_of_one⟩)
    (c_are_parts_of_one : PySem.W.codeIn K cd_are_parts_of_one "are_parts_of_one" = true)
    (k_are_parts_of_one : PySem.W.keepIn K (.ref f_are_parts_of_one) = true)
    (a_is_place : PySem.W.nsIn K mainGlobals "is_place" = some (some (.ref f_is_place)))
    (l_is_place : K.lookup f_is_place = some ⟨oc_is_place, od_is_place, .func (PySem.W.fnOf "is_place" "is_place" (defArgs d_is_place) (defBody d_is_place) (defScope d_is_place) .none kV_is_place dc_is_place pm_is_place an_is_place cd_is_place ct_is_place), sl_is_place⟩)
    (c_is_place : PySem.W.codeIn K cd_is_place "is_place" = true)
    (k_is_place : PySem.W.keepIn K (.ref f_is_place) = true)
    (a_beds_from : PySem.W.nsIn K mainGlobals "beds_from" = some (some (.ref f_beds_from)))
    (l_beds_from : K.lookup f_beds_from = some ⟨oc_beds_from, od_beds_from, .func (PySem.W.fnOf "beds_from" "beds_from" (defArgs d_beds_from) (defBody d_beds_from) (defScope d_beds_from) .none kV_beds_from dc_beds_from pm_beds_from an_beds_from cd_beds_from ct_beds_from), sl_beds_from⟩)
    (c_beds_from : PySem.W.codeIn K cd_beds_from "beds_from" = true)
    (k_beds_from : PySem.W.keepIn K (.ref f_beds_from) = true)
    (a_are_depths : PySem.W.nsIn K mainGlobals "are_depths" = some (some (.ref f_are_depths)))
    (l_are_depths : K.lookup f_are_depths = some ⟨oc_are_depths, od_are_depths, .func (PySem.W.fnOf "are_depths" "are_depths" (defArgs d_are_depths) (defBody d_are_depths) (defScope d_are_depths) .none kV_are_depths dc_are_depths pm_are_depths an_are_depths cd_are_depths ct_are_depths), sl_are_depths⟩)
    (c_are_depths : PySem.W.codeIn K cd_are_depths "are_depths" = true)
    (k_are_depths : PySem.W.keepIn K (.ref f_are_depths) = true)
    (a_is_rain : PySem.W.nsIn K mainGlobals "is_rain" = some (some (.ref f_is_rain)))
    (l_is_rain : K.lookup f_is_rain = some ⟨oc_is_rain, od_is_rain, .func (PySem.W.fnOf "is_rain" "is_rain" (defArgs d_is_rain) (defBody d_is_rain) (defScope d_is_rain) .none kV_is_rain dc_is_rain pm_is_rain an_is_rain cd_is_rain ct_is_rain), sl_is_rain⟩)
    (c_is_rain : PySem.W.codeIn K cd_is_rain "is_rain" = true)
    (k_is_rain : PySem.W.keepIn K (.ref f_is_rain) = true)
    (a_parts_borne : PySem.W.nsIn K mainGlobals "parts_borne" = some (some (.ref f_parts_borne)))
    (l_parts_borne : K.lookup f_parts_borne = some ⟨oc_parts_borne, od_parts_borne, .func (PySem.W.fnOf "parts_borne" "parts_borne" (defArgs d_parts_borne) (defBody d_parts_borne) (defScope d_parts_borne) .none kV_parts_borne dc_parts_borne pm_parts_borne an_parts_borne cd_parts_borne ct_parts_borne), sl_parts_borne⟩)
    (c_parts_borne : PySem.W.codeIn K cd_parts_borne "parts_borne" = true)
    (k_parts_borne : PySem.W.keepIn K (.ref f_parts_borne) = true)
    (a_move_of : PySem.W.nsIn K mainGlobals "move_of" = some (some (.ref f_move_of)))
    (l_move_of : K.lookup f_move_of = some ⟨oc_move_of, od_move_of, .func (PySem.W.fnOf "move_of" "move_of" (defArgs d_move_of) (defBody d_move_of) (defScope d_move_of) .none kV_move_of dc_move_of pm_move_of an_move_of cd_move_of ct_move_of), sl_move_of⟩)
    (c_move_of : PySem.W.codeIn K cd_move_of "move_of" = true)
    (k_move_of : PySem.W.keepIn K (.ref f_move_of) = true)
    (a_check_depths : PySem.W.nsIn K mainGlobals "check_depths" = some (some (.ref f_check_depths)))
    (l_check_depths : K.lookup f_check_depths = some ⟨oc_check_depths, od_check_depths, .func (PySem.W.fnOf "check_depths" "check_depths" (defArgs d_check_depths) (defBody d_check_depths) (defScope d_check_depths) .none kV_check_depths dc_check_depths pm_check_depths an_check_depths cd_check_depths ct_check_depths), sl_check_depths⟩)
    (c_check_depths : PySem.W.codeIn K cd_check_depths "check_depths" = true)
    (k_check_depths : PySem.W.keepIn K (.ref f_check_depths) = true)
    (a_check_rain : PySem.W.nsIn K mainGlobals "check_rain" = some (some (.ref f_check_rain)))
    (l_check_rain : K.lookup f_check_rain = some ⟨oc_check_rain, od_check_rain, .func (PySem.W.fnOf "check_rain" "check_rain" (defArgs d_check_rain) (defBody d_check_rain) (defScope d_check_rain) .none kV_check_rain dc_check_rain pm_check_rain an_check_rain cd_check_rain ct_check_rain), sl_check_rain⟩)
    (c_check_rain : PySem.W.codeIn K cd_check_rain "check_rain" = true)
    (k_check_rain : PySem.W.keepIn K (.ref f_check_rain) = true)
    (a_check_place : PySem.W.nsIn K mainGlobals "check_place" = some (some (.ref f_check_place)))
    (l_check_place : K.lookup f_check_place = some ⟨oc_check_place, od_check_place, .func (PySem.W.fnOf "check_place" "check_place" (defArgs d_check_place) (defBody d_check_place) (defScope d_check_place) .none kV_check_place dc_check_place pm_check_place an_check_place cd_check_place ct_check_place), sl_check_place⟩)
    (c_check_place : PySem.W.codeIn K cd_check_place "check_place" = true)
    (k_check_place : PySem.W.keepIn K (.ref f_check_place) = true)
    (a_gaps_of : PySem.W.nsIn K mainGlobals "gaps_of" = some (some (.ref f_gaps_of)))
    (l_gaps_of : K.lookup f_gaps_of = some ⟨oc_gaps_of, od_gaps_of, .func (PySem.W.fnOf "gaps_of" "gaps_of" (defArgs d_gaps_of) (defBody d_gaps_of) (defScope d_gaps_of) .none kV_gaps_of dc_gaps_of pm_gaps_of an_gaps_of cd_gaps_of ct_gaps_of), sl_gaps_of⟩)
    (c_gaps_of : PySem.W.codeIn K cd_gaps_of "gaps_of" = true)
    (k_gaps_of : PySem.W.keepIn K (.ref f_gaps_of) = true)
    (a_leads_of : PySem.W.nsIn K mainGlobals "leads_of" = some (some (.ref f_leads_of)))
    (l_leads_of : K.lookup f_leads_of = some ⟨oc_leads_of, od_leads_of, .func (PySem.W.fnOf "leads_of" "leads_of" (defArgs d_leads_of) (defBody d_leads_of) (defScope d_leads_of) .none kV_leads_of dc_leads_of pm_leads_of an_leads_of cd_leads_of ct_leads_of), sl_leads_of⟩)
    (c_leads_of : PySem.W.codeIn K cd_leads_of "leads_of" = true)
    (k_leads_of : PySem.W.keepIn K (.ref f_leads_of) = true)
    (a_flow_of : PySem.W.nsIn K mainGlobals "flow_of" = some (some (.ref f_flow_of)))
    (l_flow_of : K.lookup f_flow_of = some ⟨oc_flow_of, od_flow_of, .func (PySem.W.fnOf "flow_of" "flow_of" (defArgs d_flow_of) (defBody d_flow_of) (defScope d_flow_of) .none kV_flow_of dc_flow_of pm_flow_of an_flow_of cd_flow_of ct_flow_of), sl_flow_of⟩)
    (c_flow_of : PySem.W.codeIn K cd_flow_of "flow_of" = true)
    (k_flow_of : PySem.W.keepIn K (.ref f_flow_of) = true)
    (a_moves_of : PySem.W.nsIn K mainGlobals "moves_of" = some (some (.ref f_moves_of)))
    (l_moves_of : K.lookup f_moves_of = some ⟨oc_moves_of, od_moves_of, .func (PySem.W.fnOf "moves_of" "moves_of" (defArgs d_moves_of) (defBody d_moves_of) (defScope d_moves_of) .none kV_moves_of dc_moves_of pm_moves_of an_moves_of cd_moves_of ct_moves_of), sl_moves_of⟩)
    (c_moves_of : PySem.W.codeIn K cd_moves_of "moves_of" = true)
    (k_moves_of : PySem.W.keepIn K (.ref f_moves_of) = true)
    (a_all_amounts : PySem.W.nsIn K mainGlobals "all_amounts" = some (some (.ref f_all_amounts)))
    (l_all_amounts : K.lookup f_all_amounts = some ⟨oc_all_amounts, od_all_amounts, .func (PySem.W.fnOf "all_amounts" "all_amounts" (defArgs d_all_amounts) (defBody d_all_amounts) (defScope d_all_amounts) .none kV_all_amounts dc_all_amounts pm_all_amounts an_all_amounts cd_all_amounts ct_all_amounts), sl_all_amounts⟩)
    (c_all_amounts : PySem.W.codeIn K cd_all_amounts "all_amounts" = true)
    (k_all_amounts : PySem.W.keepIn K (.ref f_all_amounts) = true)
    (a_stretch_or_none : PySem.W.nsIn K mainGlobals "stretch_or_none" = some (some (.ref f_stretch_or_none)))
    (l_stretch_or_none : K.lookup f_stretch_or_none = some ⟨oc_stretch_or_none, od_stretch_or_none, .func (PySem.W.fnOf "stretch_or_none" "stretch_or_none" (defArgs d_stretch_or_none) (defBody d_stretch_or_none) (defScope d_stretch_or_none) .none kV_stretch_or_none dc_stretch_or_none pm_stretch_or_none an_stretch_or_none cd_stretch_or_none ct_stretch_or_none), sl_stretch_or_none⟩)
    (c_stretch_or_none : PySem.W.codeIn K cd_stretch_or_none "stretch_or_none" = true)
    (k_stretch_or_none : PySem.W.keepIn K (.ref f_stretch_or_none) = true)
    (a_part_above : PySem.W.nsIn K mainGlobals "part_above" = some (some (.ref f_part_above)))
    (l_part_above : K.lookup f_part_above = some ⟨oc_part_above, od_part_above, .func (PySem.W.fnOf "part_above" "part_above" (defArgs d_part_above) (defBody d_part_above) (defScope d_part_above) .none kV_part_above dc_part_above pm_part_above an_part_above cd_part_above ct_part_above), sl_part_above⟩)
    (c_part_above : PySem.W.codeIn K cd_part_above "part_above" = true)
    (k_part_above : PySem.W.keepIn K (.ref f_part_above) = true)
    (a_part_below : PySem.W.nsIn K mainGlobals "part_below" = some (some (.ref f_part_below)))
    (l_part_below : K.lookup f_part_below = some ⟨oc_part_below, od_part_below, .func (PySem.W.fnOf "part_below" "part_below" (defArgs d_part_below) (defBody d_part_below) (defScope d_part_below) .none kV_part_below dc_part_below pm_part_below an_part_below cd_part_below ct_part_below), sl_part_below⟩)
    (c_part_below : PySem.W.codeIn K cd_part_below "part_below" = true)
    (k_part_below : PySem.W.keepIn K (.ref f_part_below) = true)
    (a_part_moving : PySem.W.nsIn K mainGlobals "part_moving" = some (some (.ref f_part_moving)))
    (l_part_moving : K.lookup f_part_moving = some ⟨oc_part_moving, od_part_moving, .func (PySem.W.fnOf "part_moving" "part_moving" (defArgs d_part_moving) (defBody d_part_moving) (defScope d_part_moving) .none kV_part_moving dc_part_moving pm_part_moving an_part_moving cd_part_moving ct_part_moving), sl_part_moving⟩)
    (c_part_moving : PySem.W.codeIn K cd_part_moving "part_moving" = true)
    (k_part_moving : PySem.W.keepIn K (.ref f_part_moving) = true)
    (a_parts_by_moves : PySem.W.nsIn K mainGlobals "parts_by_moves" = some (some (.ref f_parts_by_moves)))
    (l_parts_by_moves : K.lookup f_parts_by_moves = some ⟨oc_parts_by_moves, od_parts_by_moves, .func (PySem.W.fnOf "parts_by_moves" "parts_by_moves" (defArgs d_parts_by_moves) (defBody d_parts_by_moves) (defScope d_parts_by_moves) .none kV_parts_by_moves dc_parts_by_moves pm_parts_by_moves an_parts_by_moves cd_parts_by_moves ct_parts_by_moves), sl_parts_by_moves⟩)
    (c_parts_by_moves : PySem.W.codeIn K cd_parts_by_moves "parts_by_moves" = true)
    (k_parts_by_moves : PySem.W.keepIn K (.ref f_parts_by_moves) = true)
    (a_flow_from : PySem.W.nsIn K mainGlobals "flow_from" = some (some (.ref f_flow_from)))
    (l_flow_from : K.lookup f_flow_from = some ⟨oc_flow_from, od_flow_from, .func (PySem.W.fnOf "flow_from" "flow_from" (defArgs d_flow_from) (defBody d_flow_from) (defScope d_flow_from) .none kV_flow_from dc_flow_from pm_flow_from an_flow_from cd_flow_from ct_flow_from), sl_flow_from⟩)
    (c_flow_from : PySem.W.codeIn K cd_flow_from "flow_from" = true)
    (k_flow_from : PySem.W.keepIn K (.ref f_flow_from) = true)
    (a_all_leads : PySem.W.nsIn K mainGlobals "all_leads" = some (some (.ref f_all_leads)))
    (l_all_leads : K.lookup f_all_leads = some ⟨oc_all_leads, od_all_leads, .func (PySem.W.fnOf "all_leads" "all_leads" (defArgs d_all_leads) (defBody d_all_leads) (defScope d_all_leads) .none kV_all_leads dc_all_leads pm_all_leads an_all_leads cd_all_leads ct_all_leads), sl_all_leads⟩)
    (c_all_leads : PySem.W.codeIn K cd_all_leads "all_leads" = true)
    (k_all_leads : PySem.W.keepIn K (.ref f_all_leads) = true)
    (a_led_back : PySem.W.nsIn K mainGlobals "led_back" = some (some (.ref f_led_back)))
    (l_led_back : K.lookup f_led_back = some ⟨oc_led_back, od_led_back, .func (PySem.W.fnOf "led_back" "led_back" (defArgs d_led_back) (defBody d_led_back) (defScope d_led_back) .none kV_led_back dc_led_back pm_led_back an_led_back cd_led_back ct_led_back), sl_led_back⟩)
    (c_led_back : PySem.W.codeIn K cd_led_back "led_back" = true)
    (k_led_back : PySem.W.keepIn K (.ref f_led_back) = true)
    (a_before : PySem.W.nsIn K mainGlobals "before" = some (some (.ref f_before)))
    (l_before : K.lookup f_before = some ⟨oc_before, od_before, .func (PySem.W.fnOf "before" "before" (defArgs d_before) (defBody d_before) (defScope d_before) .none kV_before dc_before pm_before an_before cd_before ct_before), sl_before⟩)
    (c_before : PySem.W.codeIn K cd_before "before" = true)
    (k_before : PySem.W.keepIn K (.ref f_before) = true)
    (a_rains_between : PySem.W.nsIn K mainGlobals "rains_between" = some (some (.ref f_rains_between)))
    (l_rains_between : K.lookup f_rains_between = some ⟨oc_rains_between, od_rains_between, .func (PySem.W.fnOf "rains_between" "rains_between" (defArgs d_rains_between) (defBody d_rains_between) (defScope d_rains_between) .none kV_rains_between dc_rains_between pm_rains_between an_rains_between cd_rains_between ct_rains_between), sl_rains_between⟩)
    (c_rains_between : PySem.W.codeIn K cd_rains_between "rains_between" = true)
    (k_rains_between : PySem.W.keepIn K (.ref f_rains_between) = true)
    (a_before_any : PySem.W.nsIn K mainGlobals "before_any" = some (some (.ref f_before_any)))
    (l_before_any : K.lookup f_before_any = some ⟨oc_before_any, od_before_any, .func (PySem.W.fnOf "before_any" "before_any" (defArgs d_before_any) (defBody d_before_any) (defScope d_before_any) .none kV_before_any dc_before_any pm_before_any an_before_any (.ref cc) ct_before_any), sl_before_any⟩)
    (c_before_any : PySem.W.codeIn K (.ref cc) "before_any" = true)
    (k_before_any : PySem.W.keepIn K (.ref f_before_any) = true)
    (lC : K.lookup cc = some ⟨.type "code", dcC, .fields vcC, scC⟩)
    (vC : vcC[11]? = some (.ref Pt))
    (hC : PySem.W.codeHdIn K cc Pt = true)
    (nP : K.lookup Pt = none)
    (tP : h.get? Pt = some { cls := .none, data := .fields #[] })
    (a_law_cell_at : PySem.W.nsIn K mainGlobals "_law_cell_at" = some (some (.ref f_law_cell_at)))
    (l_law_cell_at : K.lookup f_law_cell_at = some ⟨oc_law_cell_at, od_law_cell_at, .func (PySem.W.fnOf "_law_cell_at" "_law_cell_at" (defArgs d_law_cell_at) (defBody d_law_cell_at) (defScope d_law_cell_at) .none kV_law_cell_at dc_law_cell_at pm_law_cell_at an_law_cell_at cd_law_cell_at ct_law_cell_at), sl_law_cell_at⟩)
    (c_law_cell_at : PySem.W.codeIn K cd_law_cell_at "_law_cell_at" = true)
    (k_law_cell_at : PySem.W.keepIn K (.ref f_law_cell_at) = true)
    (a_law_well : PySem.W.nsIn K mainGlobals "_law_well" = some (some (.ref f_law_well)))
    (l_law_well : K.lookup f_law_well = some ⟨oc_law_well, od_law_well, .func (PySem.W.fnOf "_law_well" "_law_well" (defArgs d_law_well) (defBody d_law_well) (defScope d_law_well) .none kV_law_well dc_law_well pm_law_well an_law_well cd_law_well ct_law_well), sl_law_well⟩)
    (c_law_well : PySem.W.codeIn K cd_law_well "_law_well" = true)
    (k_law_well : PySem.W.keepIn K (.ref f_law_well) = true)
    (a_law_draw : PySem.W.nsIn K mainGlobals "_law_draw" = some (some (.ref f_law_draw)))
    (l_law_draw : K.lookup f_law_draw = some ⟨oc_law_draw, od_law_draw, .func (PySem.W.fnOf "_law_draw" "_law_draw" (defArgs d_law_draw) (defBody d_law_draw) (defScope d_law_draw) .none kV_law_draw dc_law_draw pm_law_draw an_law_draw cd_law_draw ct_law_draw), sl_law_draw⟩)
    (c_law_draw : PySem.W.codeIn K cd_law_draw "_law_draw" = true)
    (k_law_draw : PySem.W.keepIn K (.ref f_law_draw) = true)
    (a_law_one : PySem.W.nsIn K mainGlobals "_law_one" = some (some (.ref f_law_one)))
    (l_law_one : K.lookup f_law_one = some ⟨oc_law_one, od_law_one, .func (PySem.W.fnOf "_law_one" "_law_one" (defArgs d_law_one) (defBody d_law_one) (defScope d_law_one) .none kV_law_one dc_law_one pm_law_one an_law_one cd_law_one ct_law_one), sl_law_one⟩)
    (c_law_one : PySem.W.codeIn K cd_law_one "_law_one" = true)
    (k_law_one : PySem.W.keepIn K (.ref f_law_one) = true)
    (a_law_low : PySem.W.nsIn K mainGlobals "_law_low" = some (some (.ref f_law_low)))
    (l_law_low : K.lookup f_law_low = some ⟨oc_law_low, od_law_low, .func (PySem.W.fnOf "_law_low" "_law_low" (defArgs d_law_low) (defBody d_law_low) (defScope d_law_low) .none kV_law_low dc_law_low pm_law_low an_law_low cd_law_low ct_law_low), sl_law_low⟩)
    (c_law_low : PySem.W.codeIn K cd_law_low "_law_low" = true)
    (k_law_low : PySem.W.keepIn K (.ref f_law_low) = true)
    (a_law_plus : PySem.W.nsIn K mainGlobals "_law_plus" = some (some (.ref f_law_plus)))
    (l_law_plus : K.lookup f_law_plus = some ⟨oc_law_plus, od_law_plus, .func (PySem.W.fnOf "_law_plus" "_law_plus" (defArgs d_law_plus) (defBody d_law_plus) (defScope d_law_plus) .none kV_law_plus dc_law_plus pm_law_plus an_law_plus cd_law_plus ct_law_plus), sl_law_plus⟩)
    (c_law_plus : PySem.W.codeIn K cd_law_plus "_law_plus" = true)
    (k_law_plus : PySem.W.keepIn K (.ref f_law_plus) = true)
    (a_law_by : PySem.W.nsIn K mainGlobals "_law_by" = some (some (.ref f_law_by)))
    (l_law_by : K.lookup f_law_by = some ⟨oc_law_by, od_law_by, .func (PySem.W.fnOf "_law_by" "_law_by" (defArgs d_law_by) (defBody d_law_by) (defScope d_law_by) .none kV_law_by dc_law_by pm_law_by an_law_by cd_law_by ct_law_by), sl_law_by⟩)
    (c_law_by : PySem.W.codeIn K cd_law_by "_law_by" = true)
    (k_law_by : PySem.W.keepIn K (.ref f_law_by) = true)
    (a_law_under : PySem.W.nsIn K mainGlobals "_law_under" = some (some (.ref f_law_under)))
    (l_law_under : K.lookup f_law_under = some ⟨oc_law_under, od_law_under, .func (PySem.W.fnOf "_law_under" "_law_under" (defArgs d_law_under) (defBody d_law_under) (defScope d_law_under) .none kV_law_under dc_law_under pm_law_under an_law_under cd_law_under ct_law_under), sl_law_under⟩)
    (c_law_under : PySem.W.codeIn K cd_law_under "_law_under" = true)
    (k_law_under : PySem.W.keepIn K (.ref f_law_under) = true)
    (a_law_share : PySem.W.nsIn K mainGlobals "_law_share" = some (some (.ref f_law_share)))
    (l_law_share : K.lookup f_law_share = some ⟨oc_law_share, od_law_share, .func (PySem.W.fnOf "_law_share" "_law_share" (defArgs d_law_share) (defBody d_law_share) (defScope d_law_share) .none kV_law_share dc_law_share pm_law_share an_law_share cd_law_share ct_law_share), sl_law_share⟩)
    (c_law_share : PySem.W.codeIn K cd_law_share "_law_share" = true)
    (k_law_share : PySem.W.keepIn K (.ref f_law_share) = true)
    (a_law_unit : PySem.W.nsIn K mainGlobals "_law_unit" = some (some (.ref f_law_unit)))
    (l_law_unit : K.lookup f_law_unit = some ⟨oc_law_unit, od_law_unit, .func (PySem.W.fnOf "_law_unit" "_law_unit" (defArgs d_law_unit) (defBody d_law_unit) (defScope d_law_unit) .none kV_law_unit dc_law_unit pm_law_unit an_law_unit cd_law_unit ct_law_unit), sl_law_unit⟩)
    (c_law_unit : PySem.W.codeIn K cd_law_unit "_law_unit" = true)
    (k_law_unit : PySem.W.keepIn K (.ref f_law_unit) = true)
    (a_law_bed : PySem.W.nsIn K mainGlobals "_law_bed" = some (some (.ref f_law_bed)))
    (l_law_bed : K.lookup f_law_bed = some ⟨oc_law_bed, od_law_bed, .func (PySem.W.fnOf "_law_bed" "_law_bed" (defArgs d_law_bed) (defBody d_law_bed) (defScope d_law_bed) .none kV_law_bed dc_law_bed pm_law_bed an_law_bed cd_law_bed ct_law_bed), sl_law_bed⟩)
    (c_law_bed : PySem.W.codeIn K cd_law_bed "_law_bed" = true)
    (k_law_bed : PySem.W.keepIn K (.ref f_law_bed) = true)
    (a_law_spec : PySem.W.nsIn K mainGlobals "_law_spec" = some (some (.ref f_law_spec)))
    (l_law_spec : K.lookup f_law_spec = some ⟨oc_law_spec, od_law_spec, .func (PySem.W.fnOf "_law_spec" "_law_spec" (defArgs d_law_spec) (defBody d_law_spec) (defScope d_law_spec) .none kV_law_spec dc_law_spec pm_law_spec an_law_spec cd_law_spec ct_law_spec), sl_law_spec⟩)
    (c_law_spec : PySem.W.codeIn K cd_law_spec "_law_spec" = true)
    (k_law_spec : PySem.W.keepIn K (.ref f_law_spec) = true)
    (a_law_web : PySem.W.nsIn K mainGlobals "_law_web" = some (some (.ref f_law_web)))
    (l_law_web : K.lookup f_law_web = some ⟨oc_law_web, od_law_web, .func (PySem.W.fnOf "_law_web" "_law_web" (defArgs d_law_web) (defBody d_law_web) (defScope d_law_web) .none kV_law_web dc_law_web pm_law_web an_law_web cd_law_web ct_law_web), sl_law_web⟩)
    (c_law_web : PySem.W.codeIn K cd_law_web "_law_web" = true)
    (k_law_web : PySem.W.keepIn K (.ref f_law_web) = true)
    (a_law_depths : PySem.W.nsIn K mainGlobals "_law_depths" = some (some (.ref f_law_depths)))
    (l_law_depths : K.lookup f_law_depths = some ⟨oc_law_depths, od_law_depths, .func (PySem.W.fnOf "_law_depths" "_law_depths" (defArgs d_law_depths) (defBody d_law_depths) (defScope d_law_depths) .none kV_law_depths dc_law_depths pm_law_depths an_law_depths cd_law_depths ct_law_depths), sl_law_depths⟩)
    (c_law_depths : PySem.W.codeIn K cd_law_depths "_law_depths" = true)
    (k_law_depths : PySem.W.keepIn K (.ref f_law_depths) = true)
    (a_law_ranked : PySem.W.nsIn K mainGlobals "_law_ranked" = some (some (.ref f_law_ranked)))
    (l_law_ranked : K.lookup f_law_ranked = some ⟨oc_law_ranked, od_law_ranked, .func (PySem.W.fnOf "_law_ranked" "_law_ranked" (defArgs d_law_ranked) (defBody d_law_ranked) (defScope d_law_ranked) .none kV_law_ranked dc_law_ranked pm_law_ranked an_law_ranked cd_law_ranked ct_law_ranked), sl_law_ranked⟩)
    (c_law_ranked : PySem.W.codeIn K cd_law_ranked "_law_ranked" = true)
    (k_law_ranked : PySem.W.keepIn K (.ref f_law_ranked) = true)
    (a_law_move : PySem.W.nsIn K mainGlobals "_law_move" = some (some (.ref f_law_move)))
    (l_law_move : K.lookup f_law_move = some ⟨oc_law_move, od_law_move, .func (PySem.W.fnOf "_law_move" "_law_move" (defArgs d_law_move) (defBody d_law_move) (defScope d_law_move) .none kV_law_move dc_law_move pm_law_move an_law_move cd_law_move ct_law_move), sl_law_move⟩)
    (c_law_move : PySem.W.codeIn K cd_law_move "_law_move" = true)
    (k_law_move : PySem.W.keepIn K (.ref f_law_move) = true)
    (a_law_day : PySem.W.nsIn K mainGlobals "_law_day" = some (some (.ref f_law_day)))
    (l_law_day : K.lookup f_law_day = some ⟨oc_law_day, od_law_day, .func (PySem.W.fnOf "_law_day" "_law_day" (defArgs d_law_day) (defBody d_law_day) (defScope d_law_day) .none kV_law_day dc_law_day pm_law_day an_law_day cd_law_day ct_law_day), sl_law_day⟩)
    (c_law_day : PySem.W.codeIn K cd_law_day "_law_day" = true)
    (k_law_day : PySem.W.keepIn K (.ref f_law_day) = true)
    (a_law_at : PySem.W.nsIn K mainGlobals "_law_at" = some (some (.ref f_law_at)))
    (l_law_at : K.lookup f_law_at = some ⟨oc_law_at, od_law_at, .func (PySem.W.fnOf "_law_at" "_law_at" (defArgs d_law_at) (defBody d_law_at) (defScope d_law_at) .none kV_law_at dc_law_at pm_law_at an_law_at cd_law_at ct_law_at), sl_law_at⟩)
    (c_law_at : PySem.W.codeIn K cd_law_at "_law_at" = true)
    (k_law_at : PySem.W.keepIn K (.ref f_law_at) = true)
    (a_law_marked : PySem.W.nsIn K mainGlobals "_law_marked" = some (some (.ref f_law_marked)))
    (l_law_marked : K.lookup f_law_marked = some ⟨oc_law_marked, od_law_marked, .func (PySem.W.fnOf "_law_marked" "_law_marked" (defArgs d_law_marked) (defBody d_law_marked) (defScope d_law_marked) .none kV_law_marked dc_law_marked pm_law_marked an_law_marked (.ref cc2) ct_law_marked), sl_law_marked⟩)
    (c_law_marked : PySem.W.codeIn K (.ref cc2) "_law_marked" = true)
    (k_law_marked : PySem.W.keepIn K (.ref f_law_marked) = true)
    (lC2 : K.lookup cc2 = some ⟨.type "code", dcC2, .fields vcC2, scC2⟩)
    (vC2 : vcC2[11]? = some (.ref Pt2))
    (hC2 : PySem.W.codeHdIn K cc2 Pt2 = true)
    (nP2 : K.lookup Pt2 = none)
    (tP2 : h.get? Pt2 = some { cls := .none, data := .fields #[] })
    (nePt : Pt ≠ Pt2)
    (a_law_points : PySem.W.nsIn K mainGlobals "_law_points" = some (some (.ref f_law_points)))
    (l_law_points : K.lookup f_law_points = some ⟨oc_law_points, od_law_points, .func (PySem.W.fnOf "_law_points" "_law_points" (defArgs d_law_points) (defBody d_law_points) (defScope d_law_points) .none kV_law_points dc_law_points pm_law_points an_law_points cd_law_points ct_law_points), sl_law_points⟩)
    (c_law_points : PySem.W.codeIn K cd_law_points "_law_points" = true)
    (k_law_points : PySem.W.keepIn K (.ref f_law_points) = true)
    (a_law_samples : PySem.W.nsIn K mainGlobals "_law_samples" = some (some (.ref f_law_samples)))
    (l_law_samples : K.lookup f_law_samples = some ⟨oc_law_samples, od_law_samples, .func (PySem.W.fnOf "_law_samples" "_law_samples" (defArgs d_law_samples) (defBody d_law_samples) (defScope d_law_samples) .none kV_law_samples dc_law_samples pm_law_samples an_law_samples cd_law_samples ct_law_samples), sl_law_samples⟩)
    (c_law_samples : PySem.W.codeIn K cd_law_samples "_law_samples" = true)
    (k_law_samples : PySem.W.keepIn K (.ref f_law_samples) = true)
    (a_law_pair : PySem.W.nsIn K mainGlobals "_law_pair" = some (some (.ref f_law_pair)))
    (l_law_pair : K.lookup f_law_pair = some ⟨oc_law_pair, od_law_pair, .func (PySem.W.fnOf "_law_pair" "_law_pair" (defArgs d_law_pair) (defBody d_law_pair) (defScope d_law_pair) .none kV_law_pair dc_law_pair pm_law_pair an_law_pair cd_law_pair ct_law_pair), sl_law_pair⟩)
    (c_law_pair : PySem.W.codeIn K cd_law_pair "_law_pair" = true)
    (k_law_pair : PySem.W.keepIn K (.ref f_law_pair) = true)
    (a_law_is_in : PySem.W.nsIn K mainGlobals "_law_is_in" = some (some (.ref f_law_is_in)))
    (l_law_is_in : K.lookup f_law_is_in = some ⟨oc_law_is_in, od_law_is_in, .func (PySem.W.fnOf "_law_is_in" "_law_is_in" (defArgs d_law_is_in) (defBody d_law_is_in) (defScope d_law_is_in) .none kV_law_is_in dc_law_is_in pm_law_is_in an_law_is_in cd_law_is_in ct_law_is_in), sl_law_is_in⟩)
    (c_law_is_in : PySem.W.codeIn K cd_law_is_in "_law_is_in" = true)
    (k_law_is_in : PySem.W.keepIn K (.ref f_law_is_in) = true)
    (a_law_is_stretch : PySem.W.nsIn K mainGlobals "_law_is_stretch" = some (some (.ref f_law_is_stretch)))
    (l_law_is_stretch : K.lookup f_law_is_stretch = some ⟨oc_law_is_stretch, od_law_is_stretch, .func (PySem.W.fnOf "_law_is_stretch" "_law_is_stretch" (defArgs d_law_is_stretch) (defBody d_law_is_stretch) (defScope d_law_is_stretch) .none kV_law_is_stretch dc_law_is_stretch pm_law_is_stretch an_law_is_stretch cd_law_is_stretch ct_law_is_stretch), sl_law_is_stretch⟩)
    (c_law_is_stretch : PySem.W.codeIn K cd_law_is_stretch "_law_is_stretch" = true)
    (k_law_is_stretch : PySem.W.keepIn K (.ref f_law_is_stretch) = true)
    (a_law_neighbours : PySem.W.nsIn K mainGlobals "_law_neighbours" = some (some (.ref f_law_neighbours)))
    (l_law_neighbours : K.lookup f_law_neighbours = some ⟨oc_law_neighbours, od_law_neighbours, .func (PySem.W.fnOf "_law_neighbours" "_law_neighbours" (defArgs d_law_neighbours) (defBody d_law_neighbours) (defScope d_law_neighbours) .none kV_law_neighbours dc_law_neighbours pm_law_neighbours an_law_neighbours cd_law_neighbours ct_law_neighbours), sl_law_neighbours⟩)
    (c_law_neighbours : PySem.W.codeIn K cd_law_neighbours "_law_neighbours" = true)
    (k_law_neighbours : PySem.W.keepIn K (.ref f_law_neighbours) = true)
    (a_law_rows : PySem.W.nsIn K mainGlobals "_law_rows" = some (some (.ref f_law_rows)))
    (l_law_rows : K.lookup f_law_rows = some ⟨oc_law_rows, od_law_rows, .func (PySem.W.fnOf "_law_rows" "_law_rows" (defArgs d_law_rows) (defBody d_law_rows) (defScope d_law_rows) .none kV_law_rows dc_law_rows pm_law_rows an_law_rows cd_law_rows ct_law_rows), sl_law_rows⟩)
    (c_law_rows : PySem.W.codeIn K cd_law_rows "_law_rows" = true)
    (k_law_rows : PySem.W.keepIn K (.ref f_law_rows) = true)
    (a_law_bears : PySem.W.nsIn K mainGlobals "_law_bears" = some (some (.ref f_law_bears)))
    (l_law_bears : K.lookup f_law_bears = some ⟨oc_law_bears, od_law_bears, .func (PySem.W.fnOf "_law_bears" "_law_bears" (defArgs d_law_bears) (defBody d_law_bears) (defScope d_law_bears) .none kV_law_bears dc_law_bears pm_law_bears an_law_bears cd_law_bears ct_law_bears), sl_law_bears⟩)
    (c_law_bears : PySem.W.codeIn K cd_law_bears "_law_bears" = true)
    (k_law_bears : PySem.W.keepIn K (.ref f_law_bears) = true)
    (a_law_elders : PySem.W.nsIn K mainGlobals "_law_elders" = some (some (.ref f_law_elders)))
    (l_law_elders : K.lookup f_law_elders = some ⟨oc_law_elders, od_law_elders, .func (PySem.W.fnOf "_law_elders" "_law_elders" (defArgs d_law_elders) (defBody d_law_elders) (defScope d_law_elders) .none kV_law_elders dc_law_elders pm_law_elders an_law_elders cd_law_elders ct_law_elders), sl_law_elders⟩)
    (c_law_elders : PySem.W.codeIn K cd_law_elders "_law_elders" = true)
    (k_law_elders : PySem.W.keepIn K (.ref f_law_elders) = true)
    (a_law_leading : PySem.W.nsIn K mainGlobals "_law_leading" = some (some (.ref f_law_leading)))
    (l_law_leading : K.lookup f_law_leading = some ⟨oc_law_leading, od_law_leading, .func (PySem.W.fnOf "_law_leading" "_law_leading" (defArgs d_law_leading) (defBody d_law_leading) (defScope d_law_leading) .none kV_law_leading dc_law_leading pm_law_leading an_law_leading cd_law_leading ct_law_leading), sl_law_leading⟩)
    (c_law_leading : PySem.W.codeIn K cd_law_leading "_law_leading" = true)
    (k_law_leading : PySem.W.keepIn K (.ref f_law_leading) = true)
    (a_law_told_right : PySem.W.nsIn K mainGlobals "_law_told_right" = some (some (.ref f_law_told_right)))
    (l_law_told_right : K.lookup f_law_told_right = some ⟨oc_law_told_right, od_law_told_right, .func (PySem.W.fnOf "_law_told_right" "_law_told_right" (defArgs d_law_told_right) (defBody d_law_told_right) (defScope d_law_told_right) .none kV_law_told_right dc_law_told_right pm_law_told_right an_law_told_right cd_law_told_right ct_law_told_right), sl_law_told_right⟩)
    (c_law_told_right : PySem.W.codeIn K cd_law_told_right "_law_told_right" = true)
    (k_law_told_right : PySem.W.keepIn K (.ref f_law_told_right) = true)
    (a_law_right : PySem.W.nsIn K mainGlobals "_law_right" = some (some (.ref f_law_right)))
    (l_law_right : K.lookup f_law_right = some ⟨oc_law_right, od_law_right, .func (PySem.W.fnOf "_law_right" "_law_right" (defArgs d_law_right) (defBody d_law_right) (defScope d_law_right) .none kV_law_right dc_law_right pm_law_right an_law_right cd_law_right ct_law_right), sl_law_right⟩)
    (c_law_right : PySem.W.codeIn K cd_law_right "_law_right" = true)
    (k_law_right : PySem.W.keepIn K (.ref f_law_right) = true)
    (a_law : PySem.W.nsIn K mainGlobals "law" = some (some (.ref f_law)))
    (l_law : K.lookup f_law = some ⟨oc_law, od_law, .func (PySem.W.fnOf "law" "law" (defArgs d_law) (defBody d_law) (defScope d_law) .none kV_law dc_law pm_law an_law cd_law ct_law), sl_law⟩)
    (c_law : PySem.W.codeIn K cd_law "law" = true)
    (k_law : PySem.W.keepIn K (.ref f_law) = true)
    (gs : PySem.W.specialIn K (.builtin "object.__class__") "__get__" = some (some (.builtin "getset_descriptor.__get__")))
    (gt : PySem.W.takesIn K (.builtin "object.__class__") = some true)
    : ∃ (fd : FuncData) (cc Pt cc2 Pt2 : Addr), h.get? Pt = some { cls := .none, data := .fields #[] } ∧ K.lookup Pt = none ∧ PySem.W.CodeHd h cc Pt ∧ h.get? Pt2 = some { cls := .none, data := .fields #[] } ∧ K.lookup Pt2 = none ∧ PySem.W.CodeHd h cc2 Pt2 ∧ (∀ (s : Shared) (v : Value), BindsTo s fd ⟨[v], []⟩ [("script", v)]) ∧ ∀ base : Heap, K.In base → base.Ns mainGlobals mg → TabB base mg cc Pt → TabB base mg cc2 Pt2 → FnOk P w K mg base CX0 11 fa fd ["script"] (spLaw K Pt Pt2) := by
  have e := hfa.symm.trans (PySem.W.mg_of X G a_law)
  cases e
  have z_ValueError := PySem.W.mg_none_of X G z_ValueError
  have z_abs := PySem.W.mg_none_of X G z_abs
  have z_all := PySem.W.mg_none_of X G z_all
  have z_any := PySem.W.mg_none_of X G z_any
  have z_bool := PySem.W.mg_none_of X G z_bool
  have z_enumerate := PySem.W.mg_none_of X G z_enumerate
  have z_int := PySem.W.mg_none_of X G z_int
  have z_isinstance := PySem.W.mg_none_of X G z_isinstance
  have z_len := PySem.W.mg_none_of X G z_len
  have z_list := PySem.W.mg_none_of X G z_list
  have z_range := PySem.W.mg_none_of X G z_range
  have z_set := PySem.W.mg_none_of X G z_set
  have z_sorted := PySem.W.mg_none_of X G z_sorted
  have z_sum := PySem.W.mg_none_of X G z_sum
  have z_super := PySem.W.mg_none_of X G z_super
  have z_tuple := PySem.W.mg_none_of X G z_tuple
  have z_zip := PySem.W.mg_none_of X G z_zip
  have i_gcd := PySem.W.mg_of X G i_gcd
  have i_lcm := PySem.W.mg_of X G i_lcm
  have g_MOST_PLACES := PySem.W.mg_of X G g_MOST_PLACES
  have g_MOST_BEDS := PySem.W.mg_of X G g_MOST_BEDS
  have g_MOST_BEDS_OF_A_PLACE := PySem.W.mg_of X G g_MOST_BEDS_OF_A_PLACE
  have g_MOST_OF_A_PART := PySem.W.mg_of X G g_MOST_OF_A_PART
  have mcRillError := PySem.W.mg_of X G acRillError
  have mcNoShare := PySem.W.mg_of X G acNoShare
  have mcShare := PySem.W.mg_of X G acShare
  have mcWeb := PySem.W.mg_of X G acWeb
  have F_Share_init : FunD K "__init__" "Share.__init__" (defArgs d_Share_init) (defBody d_Share_init) (defScope d_Share_init) [.int 1] [] f_Share_init _ := ⟨⟨_, _, _, _, _, _, _, _, _, _, rfl, l_Share_init, c_Share_init, .inr ⟨(fun z => nomatch z), TD_Share_init, _, [Value.int 1 tkTD_Share_init], nTD_Share_init, rfl, lTD_Share_init, rfl, .cons ⟨tkTD_Share_init, rfl⟩ .nil⟩, .inl rfl⟩, k_Share_init⟩
  obtain ⟨ds_Share_init3, rd_Share_init3, b_Share_init3⟩ := FunD.binds1 (ps := ["self", "top", "bottom"]) F_Share_init 3 1 (fun z => nomatch z) rfl (fun T kV doc pm an cdv ct us its hu hi => match us, its, hu, hi with | [_, _, _], [_], _, _ => ⟨_, rfl, rfl⟩)
  obtain ⟨ds_Share_init2, rd_Share_init2, b_Share_init2⟩ := FunD.binds1 (ps := ["self", "top", "bottom"]) F_Share_init 2 0 (fun z => nomatch z) rfl (fun T kV doc pm an cdv ct us its hu hi => match us, its, hu, hi with | [_, _], [_], _, _ => ⟨_, rfl, rfl⟩)
  cases rd_Share_init3
  obtain ⟨u0_Share_init, rfl⟩ : ∃ u0, ds_Share_init2 = [u0] := by
    cases rd_Share_init2 with
    | cons r1 rn =>
      cases rn
      exact ⟨_, rfl⟩
  have F_Share_eq := fun_mk (st := d_Share_eq) l_Share_eq c_Share_eq k_Share_eq
  have b_Share_eq := F_Share_eq.binds (ps := ["self", "other"]) fun _ _ _ _ _ _ us hl => match us, hl with | [_, _], _ => rfl
  have F_Web_init := fun_mk (st := d_Web_init) l_Web_init c_Web_init k_Web_init
  have b_Web_init := F_Web_init.binds (ps := ["self", "many", "beds", "parts"]) fun _ _ _ _ _ _ us hl => match us, hl with | [_, _, _, _], _ => rfl
  have F_Web_eq := fun_mk (st := d_Web_eq) l_Web_eq c_Web_eq k_Web_eq
  have b_Web_eq := F_Web_eq.binds (ps := ["self", "other"]) fun _ _ _ _ _ _ us hl => match us, hl with | [_, _], _ => rfl
  have F_is_whole := fun_mk (st := d_is_whole) l_is_whole c_is_whole k_is_whole
  have m_is_whole := PySem.W.mg_of X G a_is_whole
  have b_is_whole := F_is_whole.binds (ps := ["thing"]) fun _ _ _ _ _ _ us hl => match us, hl with | [_], _ => rfl
  have F_is_between := fun_mk (st := d_is_between) l_is_between c_is_between k_is_between
  have m_is_between := PySem.W.mg_of X G a_is_between
  have b_is_between := F_is_between.binds (ps := ["thing", "least", "most"]) fun _ _ _ _ _ _ us hl => match us, hl with | [_, _, _], _ => rfl
  have F_times := fun_mk (st := d_times) l_times c_times k_times
  have m_times := PySem.W.mg_of X G a_times
  have b_times := F_times.binds (ps := ["one", "other"]) fun _ _ _ _ _ _ us hl => match us, hl with | [_, _], _ => rfl
  have F_over := fun_mk (st := d_over) l_over c_over k_over
  have m_over := PySem.W.mg_of X G a_over
  have b_over := F_over.binds (ps := ["one", "other"]) fun _ _ _ _ _ _ us hl => match us, hl with | [_, _], _ => rfl
  have F_less := fun_mk (st := d_less) l_less c_less k_less
  have m_less := PySem.W.mg_of X G a_less
  have b_less := F_less.binds (ps := ["one", "other"]) fun _ _ _ _ _ _ us hl => match us, hl with | [_, _], _ => rfl
  have F_total := fun_mk (st := d_total) l_total c_total k_total
  have m_total := PySem.W.mg_of X G a_total
  have b_total := F_total.binds (ps := ["shares"]) fun _ _ _ _ _ _ us hl => match us, hl with | [_], _ => rfl
  have F_are_beds := fun_mk (st := d_are_beds) l_are_beds c_are_beds k_are_beds
  have m_are_beds := PySem.W.mg_of X G a_are_beds
  have b_are_beds := F_are_beds.binds (ps := ["things", "many"]) fun _ _ _ _ _ _ us hl => match us, hl with | [_, _], _ => rfl
  have F_is_a_bed := fun_mk (st := d_is_a_bed) l_is_a_bed c_is_a_bed k_is_a_bed
  have m_is_a_bed := PySem.W.mg_of X G a_is_a_bed
  have b_is_a_bed := F_is_a_bed.binds (ps := ["thing", "many"]) fun _ _ _ _ _ _ us hl => match us, hl with | [_, _], _ => rfl
  have F_are_parts := fun_mk (st := d_are_parts) l_are_parts c_are_parts k_are_parts
  have m_are_parts := PySem.W.mg_of X G a_are_parts
  have b_are_parts := F_are_parts.binds (ps := ["things", "many", "beds"]) fun _ _ _ _ _ _ us hl => match us, hl with | [_, _, _], _ => rfl
  have F_are_parts_of_one := fun_mk (st := d_are_parts_of_one) l_are_parts_of_one c_are_parts_of_one k_are_parts_of_one
  have m_are_parts_of_one := PySem.W.mg_of X G a_are_parts_of_one
  have b_are_parts_of_one := F_are_parts_of_one.binds (ps := ["thing", "many"]) fun _ _ _ _ _ _ us hl => match us, hl with | [_, _], _ => rfl
  have F_is_place := fun_mk (st := d_is_place) l_is_place c_is_place k_is_place
  have m_is_place := PySem.W.mg_of X G a_is_place
  have b_is_place := F_is_place.binds (ps := ["web", "thing"]) fun _ _ _ _ _ _ us hl => match us, hl with | [_, _], _ => rfl
  have F_beds_from := fun_mk (st := d_beds_from) l_beds_from c_beds_from k_beds_from
  have m_beds_from := PySem.W.mg_of X G a_beds_from
  have b_beds_from := F_beds_from.binds (ps := ["web", "place"]) fun _ _ _ _ _ _ us hl => match us, hl with | [_, _], _ => rfl
  have F_are_depths := fun_mk (st := d_are_depths) l_are_depths c_are_depths k_are_depths
  have m_are_depths := PySem.W.mg_of X G a_are_depths
  have b_are_depths := F_are_depths.binds (ps := ["web", "thing"]) fun _ _ _ _ _ _ us hl => match us, hl with | [_, _], _ => rfl
  have F_is_rain := fun_mk (st := d_is_rain) l_is_rain c_is_rain k_is_rain
  have m_is_rain := PySem.W.mg_of X G a_is_rain
  have b_is_rain := F_is_rain.binds (ps := ["web", "thing"]) fun _ _ _ _ _ _ us hl => match us, hl with | [_, _], _ => rfl
  have F_parts_borne := fun_mk (st := d_parts_borne) l_parts_borne c_parts_borne k_parts_borne
  have m_parts_borne := PySem.W.mg_of X G a_parts_borne
  have b_parts_borne := F_parts_borne.binds (ps := ["parts", "amount", "ahead_is_first"]) fun _ _ _ _ _ _ us hl => match us, hl with | [_, _, _], _ => rfl
  have F_move_of := fun_mk (st := d_move_of) l_move_of c_move_of k_move_of
  have m_move_of := PySem.W.mg_of X G a_move_of
  have b_move_of := F_move_of.binds (ps := ["bed", "share"]) fun _ _ _ _ _ _ us hl => match us, hl with | [_, _], _ => rfl
  have F_check_depths := fun_mk (st := d_check_depths) l_check_depths c_check_depths k_check_depths
  have m_check_depths := PySem.W.mg_of X G a_check_depths
  have b_check_depths := F_check_depths.binds (ps := ["web", "thing"]) fun _ _ _ _ _ _ us hl => match us, hl with | [_, _], _ => rfl
  have F_check_rain := fun_mk (st := d_check_rain) l_check_rain c_check_rain k_check_rain
  have m_check_rain := PySem.W.mg_of X G a_check_rain
  have b_check_rain := F_check_rain.binds (ps := ["web", "thing"]) fun _ _ _ _ _ _ us hl => match us, hl with | [_, _], _ => rfl
  have F_check_place := fun_mk (st := d_check_place) l_check_place c_check_place k_check_place
  have m_check_place := PySem.W.mg_of X G a_check_place
  have b_check_place := F_check_place.binds (ps := ["web", "thing"]) fun _ _ _ _ _ _ us hl => match us, hl with | [_, _], _ => rfl
  have F_gaps_of := fun_mk (st := d_gaps_of) l_gaps_of c_gaps_of k_gaps_of
  have m_gaps_of := PySem.W.mg_of X G a_gaps_of
  have b_gaps_of := F_gaps_of.binds (ps := ["web", "numbers"]) fun _ _ _ _ _ _ us hl => match us, hl with | [_, _], _ => rfl
  have F_leads_of := fun_mk (st := d_leads_of) l_leads_of c_leads_of k_leads_of
  have m_leads_of := PySem.W.mg_of X G a_leads_of
  have b_leads_of := F_leads_of.binds (ps := ["gaps"]) fun _ _ _ _ _ _ us hl => match us, hl with | [_], _ => rfl
  have F_flow_of := fun_mk (st := d_flow_of) l_flow_of c_flow_of k_flow_of
  have m_flow_of := PySem.W.mg_of X G a_flow_of
  have b_flow_of := F_flow_of.binds (ps := ["web", "leads", "rain"]) fun _ _ _ _ _ _ us hl => match us, hl with | [_, _, _], _ => rfl
  have F_moves_of := fun_mk (st := d_moves_of) l_moves_of c_moves_of k_moves_of
  have m_moves_of := PySem.W.mg_of X G a_moves_of
  have b_moves_of := F_moves_of.binds (ps := ["web", "bears"]) fun _ _ _ _ _ _ us hl => match us, hl with | [_, _], _ => rfl
  have F_all_amounts := fun_mk (st := d_all_amounts) l_all_amounts c_all_amounts k_all_amounts
  have m_all_amounts := PySem.W.mg_of X G a_all_amounts
  have b_all_amounts := F_all_amounts.binds (ps := []) fun _ _ _ _ _ _ us hl => match us, hl with | [], _ => rfl
  have F_stretch_or_none := fun_mk (st := d_stretch_or_none) l_stretch_or_none c_stretch_or_none k_stretch_or_none
  have m_stretch_or_none := PySem.W.mg_of X G a_stretch_or_none
  have b_stretch_or_none := F_stretch_or_none.binds (ps := ["low", "has_low", "high", "has_high"]) fun _ _ _ _ _ _ us hl => match us, hl with | [_, _, _, _], _ => rfl
  have F_part_above := fun_mk (st := d_part_above) l_part_above c_part_above k_part_above
  have m_part_above := PySem.W.mg_of X G a_part_above
  have b_part_above := F_part_above.binds (ps := ["stretch", "share", "has_share"]) fun _ _ _ _ _ _ us hl => match us, hl with | [_, _, _], _ => rfl
  have F_part_below := fun_mk (st := d_part_below) l_part_below c_part_below k_part_below
  have m_part_below := PySem.W.mg_of X G a_part_below
  have b_part_below := F_part_below.binds (ps := ["stretch", "share", "has_share"]) fun _ _ _ _ _ _ us hl => match us, hl with | [_, _, _], _ => rfl
  have F_part_moving := fun_mk (st := d_part_moving) l_part_moving c_part_moving k_part_moving
  have m_part_moving := PySem.W.mg_of X G a_part_moving
  have b_part_moving := F_part_moving.binds (ps := ["stretch", "bed", "factor", "move"]) fun _ _ _ _ _ _ us hl => match us, hl with | [_, _, _, _], _ => rfl
  have F_parts_by_moves := fun_mk (st := d_parts_by_moves) l_parts_by_moves c_parts_by_moves k_parts_by_moves
  have m_parts_by_moves := PySem.W.mg_of X G a_parts_by_moves
  have b_parts_by_moves := F_parts_by_moves.binds (ps := ["beds", "factors"]) fun _ _ _ _ _ _ us hl => match us, hl with | [_, _], _ => rfl
  have F_flow_from := fun_mk (st := d_flow_from) l_flow_from c_flow_from k_flow_from
  have m_flow_from := PySem.W.mg_of X G a_flow_from
  have b_flow_from := F_flow_from.binds (ps := ["web", "leads", "place"]) fun _ _ _ _ _ _ us hl => match us, hl with | [_, _, _], _ => rfl
  have F_all_leads := fun_mk (st := d_all_leads) l_all_leads c_all_leads k_all_leads
  have m_all_leads := PySem.W.mg_of X G a_all_leads
  have b_all_leads := F_all_leads.binds (ps := ["web"]) fun _ _ _ _ _ _ us hl => match us, hl with | [_], _ => rfl
  have F_led_back := fun_mk (st := d_led_back) l_led_back c_led_back k_led_back
  have m_led_back := PySem.W.mg_of X G a_led_back
  have b_led_back := F_led_back.binds (ps := ["web", "depths", "leads", "moves"]) fun _ _ _ _ _ _ us hl => match us, hl with | [_, _, _, _], _ => rfl
  have F_before := fun_mk (st := d_before) l_before c_before k_before
  have m_before := PySem.W.mg_of X G a_before
  have F_rains_between := fun_mk (st := d_rains_between) l_rains_between c_rains_between k_rains_between
  have m_rains_between := PySem.W.mg_of X G a_rains_between
  have F_before_any := fun_mk (st := d_before_any) l_before_any c_before_any k_before_any
  have m_before_any := PySem.W.mg_of X G a_before_any
  have F_law_cell_at := fun_mk (st := d_law_cell_at) l_law_cell_at c_law_cell_at k_law_cell_at
  have m_law_cell_at := PySem.W.mg_of X G a_law_cell_at
  have b_law_cell_at := F_law_cell_at.binds (ps := ["script", "k"]) fun _ _ _ _ _ _ us hl => match us, hl with | [_, _], _ => rfl
  have F_law_well := fun_mk (st := d_law_well) l_law_well c_law_well k_law_well
  have m_law_well := PySem.W.mg_of X G a_law_well
  have b_law_well := F_law_well.binds (ps := ["cell"]) fun _ _ _ _ _ _ us hl => match us, hl with | [_], _ => rfl
  have F_law_draw := fun_mk (st := d_law_draw) l_law_draw c_law_draw k_law_draw
  have m_law_draw := PySem.W.mg_of X G a_law_draw
  have b_law_draw := F_law_draw.binds (ps := ["well", "many"]) fun _ _ _ _ _ _ us hl => match us, hl with | [_, _], _ => rfl
  have F_law_one := fun_mk (st := d_law_one) l_law_one c_law_one k_law_one
  have m_law_one := PySem.W.mg_of X G a_law_one
  have b_law_one := F_law_one.binds (ps := ["well", "some"]) fun _ _ _ _ _ _ us hl => match us, hl with | [_, _], _ => rfl
  have F_law_low := fun_mk (st := d_law_low) l_law_low c_law_low k_law_low
  have m_law_low := PySem.W.mg_of X G a_law_low
  have b_law_low := F_law_low.binds (ps := ["top", "bottom"]) fun _ _ _ _ _ _ us hl => match us, hl with | [_, _], _ => rfl
  have F_law_plus := fun_mk (st := d_law_plus) l_law_plus c_law_plus k_law_plus
  have m_law_plus := PySem.W.mg_of X G a_law_plus
  have b_law_plus := F_law_plus.binds (ps := ["one", "other"]) fun _ _ _ _ _ _ us hl => match us, hl with | [_, _], _ => rfl
  have F_law_by := fun_mk (st := d_law_by) l_law_by c_law_by k_law_by
  have m_law_by := PySem.W.mg_of X G a_law_by
  have b_law_by := F_law_by.binds (ps := ["one", "other"]) fun _ _ _ _ _ _ us hl => match us, hl with | [_, _], _ => rfl
  have F_law_under := fun_mk (st := d_law_under) l_law_under c_law_under k_law_under
  have m_law_under := PySem.W.mg_of X G a_law_under
  have b_law_under := F_law_under.binds (ps := ["one", "other"]) fun _ _ _ _ _ _ us hl => match us, hl with | [_, _], _ => rfl
  have F_law_share := fun_mk (st := d_law_share) l_law_share c_law_share k_law_share
  have m_law_share := PySem.W.mg_of X G a_law_share
  have b_law_share := F_law_share.binds (ps := ["pair"]) fun _ _ _ _ _ _ us hl => match us, hl with | [_], _ => rfl
  have F_law_unit := fun_mk (st := d_law_unit) l_law_unit c_law_unit k_law_unit
  have m_law_unit := PySem.W.mg_of X G a_law_unit
  have b_law_unit := F_law_unit.binds (ps := ["well"]) fun _ _ _ _ _ _ us hl => match us, hl with | [_], _ => rfl
  have F_law_bed := fun_mk (st := d_law_bed) l_law_bed c_law_bed k_law_bed
  have m_law_bed := PySem.W.mg_of X G a_law_bed
  have b_law_bed := F_law_bed.binds (ps := ["well", "spot", "many", "unit"]) fun _ _ _ _ _ _ us hl => match us, hl with | [_, _, _, _], _ => rfl
  have F_law_spec := fun_mk (st := d_law_spec) l_law_spec c_law_spec k_law_spec
  have m_law_spec := PySem.W.mg_of X G a_law_spec
  have b_law_spec := F_law_spec.binds (ps := ["well", "reach", "cap", "unit"]) fun _ _ _ _ _ _ us hl => match us, hl with | [_, _, _, _], _ => rfl
  have F_law_web := fun_mk (st := d_law_web) l_law_web c_law_web k_law_web
  have m_law_web := PySem.W.mg_of X G a_law_web
  have b_law_web := F_law_web.binds (ps := ["spec"]) fun _ _ _ _ _ _ us hl => match us, hl with | [_], _ => rfl
  have F_law_depths := fun_mk (st := d_law_depths) l_law_depths c_law_depths k_law_depths
  have m_law_depths := PySem.W.mg_of X G a_law_depths
  have b_law_depths := F_law_depths.binds (ps := ["well", "spec"]) fun _ _ _ _ _ _ us hl => match us, hl with | [_, _], _ => rfl
  have F_law_ranked := fun_mk (st := d_law_ranked) l_law_ranked c_law_ranked k_law_ranked
  have m_law_ranked := PySem.W.mg_of X G a_law_ranked
  have b_law_ranked := F_law_ranked.binds (ps := ["spec", "deep", "spot"]) fun _ _ _ _ _ _ us hl => match us, hl with | [_, _, _], _ => rfl
  have F_law_move := fun_mk (st := d_law_move) l_law_move c_law_move k_law_move
  have m_law_move := PySem.W.mg_of X G a_law_move
  have b_law_move := F_law_move.binds (ps := ["brook", "amount"]) fun _ _ _ _ _ _ us hl => match us, hl with | [_, _], _ => rfl
  have F_law_day := fun_mk (st := d_law_day) l_law_day c_law_day k_law_day
  have m_law_day := PySem.W.mg_of X G a_law_day
  have b_law_day := F_law_day.binds (ps := ["spec", "deep", "fallen"]) fun _ _ _ _ _ _ us hl => match us, hl with | [_, _, _], _ => rfl
  have F_law_at := fun_mk (st := d_law_at) l_law_at c_law_at k_law_at
  have m_law_at := PySem.W.mg_of X G a_law_at
  have b_law_at := F_law_at.binds (ps := ["spec", "spot", "amount"]) fun _ _ _ _ _ _ us hl => match us, hl with | [_, _, _], _ => rfl
  have F_law_marked := fun_mk (st := d_law_marked) l_law_marked c_law_marked k_law_marked
  have m_law_marked := PySem.W.mg_of X G a_law_marked
  have b_law_marked := F_law_marked.binds (ps := ["spec", "parts"]) fun _ _ _ _ _ _ us hl => match us, hl with | [_, _], _ => rfl
  have F_law_points := fun_mk (st := d_law_points) l_law_points c_law_points k_law_points
  have m_law_points := PySem.W.mg_of X G a_law_points
  have b_law_points := F_law_points.binds (ps := ["spec", "deep", "spot"]) fun _ _ _ _ _ _ us hl => match us, hl with | [_, _, _], _ => rfl
  have F_law_samples := fun_mk (st := d_law_samples) l_law_samples c_law_samples k_law_samples
  have m_law_samples := PySem.W.mg_of X G a_law_samples
  have b_law_samples := F_law_samples.binds (ps := ["points"]) fun _ _ _ _ _ _ us hl => match us, hl with | [_], _ => rfl
  have F_law_pair := fun_mk (st := d_law_pair) l_law_pair c_law_pair k_law_pair
  have m_law_pair := PySem.W.mg_of X G a_law_pair
  have b_law_pair := F_law_pair.binds (ps := ["share"]) fun _ _ _ _ _ _ us hl => match us, hl with | [_], _ => rfl
  have F_law_is_in := fun_mk (st := d_law_is_in) l_law_is_in c_law_is_in k_law_is_in
  have m_law_is_in := PySem.W.mg_of X G a_law_is_in
  have b_law_is_in := F_law_is_in.binds (ps := ["amounts", "one"]) fun _ _ _ _ _ _ us hl => match us, hl with | [_, _], _ => rfl
  have F_law_is_stretch := fun_mk (st := d_law_is_stretch) l_law_is_stretch c_law_is_stretch k_law_is_stretch
  have m_law_is_stretch := PySem.W.mg_of X G a_law_is_stretch
  have b_law_is_stretch := F_law_is_stretch.binds (ps := ["amounts", "points"]) fun _ _ _ _ _ _ us hl => match us, hl with | [_, _], _ => rfl
  have F_law_neighbours := fun_mk (st := d_law_neighbours) l_law_neighbours c_law_neighbours k_law_neighbours
  have m_law_neighbours := PySem.W.mg_of X G a_law_neighbours
  have b_law_neighbours := F_law_neighbours.binds (ps := ["deep"]) fun _ _ _ _ _ _ us hl => match us, hl with | [_], _ => rfl
  have F_law_rows := fun_mk (st := d_law_rows) l_law_rows c_law_rows k_law_rows
  have m_law_rows := PySem.W.mg_of X G a_law_rows
  have b_law_rows := F_law_rows.binds (ps := ["many"]) fun _ _ _ _ _ _ us hl => match us, hl with | [_], _ => rfl
  have F_law_bears := fun_mk (st := d_law_bears) l_law_bears c_law_bears k_law_bears
  have m_law_bears := PySem.W.mg_of X G a_law_bears
  have b_law_bears := F_law_bears.binds (ps := ["spec", "spot", "row"]) fun _ _ _ _ _ _ us hl => match us, hl with | [_, _, _], _ => rfl
  have F_law_elders := fun_mk (st := d_law_elders) l_law_elders c_law_elders k_law_elders
  have m_law_elders := PySem.W.mg_of X G a_law_elders
  have b_law_elders := F_law_elders.binds (ps := ["spec", "goal", "spot"]) fun _ _ _ _ _ _ us hl => match us, hl with | [_, _, _], _ => rfl
  have F_law_leading := fun_mk (st := d_law_leading) l_law_leading c_law_leading k_law_leading
  have m_law_leading := PySem.W.mg_of X G a_law_leading
  have b_law_leading := F_law_leading.binds (ps := ["spec", "old", "goal", "spot"]) fun _ _ _ _ _ _ us hl => match us, hl with | [_, _, _, _], _ => rfl
  have F_law_told_right := fun_mk (st := d_law_told_right) l_law_told_right c_law_told_right k_law_told_right
  have m_law_told_right := PySem.W.mg_of X G a_law_told_right
  have b_law_told_right := F_law_told_right.binds (ps := ["net", "spec", "goal", "spot", "told"]) fun _ _ _ _ _ _ us hl => match us, hl with | [_, _, _, _, _], _ => rfl
  have F_law_right := fun_mk (st := d_law_right) l_law_right c_law_right k_law_right
  have m_law_right := PySem.W.mg_of X G a_law_right
  have b_law_right := F_law_right.binds (ps := ["spec", "goal", "spot"]) fun _ _ _ _ _ _ us hl => match us, hl with | [_, _, _], _ => rfl
  have F_law := fun_mk (st := d_law) l_law c_law k_law
  have m_law := PySem.W.mg_of X G a_law
  refine ⟨PySem.W.fnOf "law" "law" (defArgs d_law) (defBody d_law) (defScope d_law) .none kV_law dc_law pm_law an_law cd_law ct_law, cc, Pt, cc2, Pt2, tP, nP, PySem.W.codeHd_of_K X hC, tP2, nP2, PySem.W.codeHd_of_K X hC2, fun s v => .of_eq rfl, fun base _ _ TB TB2 => ?_⟩
  have T : Txt K mg cShare cNoShare := ⟨⟨pgcShare, hdcShare, pocShare, sacShare⟩, ncShare_top, ncShare_bottom, mcShare, i_gcd, z_isinstance, z_int, z_bool, mcNoShare, xcNoShare, kcNoShare, bcNoShare, tcNoShare, exm_own bcNoShare icNoShare tcNoShare scNoShare⟩
  have Y : TxtW mg cShare := ⟨z_isinstance, z_tuple, z_list, z_len, z_all, z_any, z_sorted, z_enumerate, mcShare⟩
  have clW : L2.Cls K cWeb := ⟨pgcWeb, hdcWeb, pocWeb, sacWeb⟩
  have TW : CrsW K cWeb := ⟨clW, ncWeb_many, ncWeb_beds, ncWeb_parts⟩
  have IsSh := isShT T gccShare gs gt gmcShare
  have IsW : ∀ H p dx fs, H p = some (.ins cWeb dx fs) → TyX K H (.ref p) (.ref cWeb) := fun H p dx fs e => .base (.ins e clW gccWeb gs gt gmcWeb)
  have M : Mk K cShare f_Share_init := ⟨mkcShare, a_Share_init, i_Share_init, kccShare⟩
  have MW : Mk K cWeb f_Web_init := ⟨mkcWeb, a_Web_init, i_Web_init, kccWeb⟩
  have ne : cShare ≠ cWeb := fun z => by
    have j := jShare_Web
    rw [← z, mecShare] at j
    cases j
  have G_is_whole := ok_whole (P := P) (w := w) (mg := mg) (base := base) F_is_whole T
  have GI := ok_init (P := P) (w := w) (mg := mg) (base := base) F_Share_init T G_is_whole m_is_whole k_is_whole b_is_whole
  have G_is_between := ok_betweenI (P := P) (w := w) (mg := mg) (base := base) F_is_between ⟨G_is_whole, m_is_whole, k_is_whole, b_is_whole⟩
  have G_less := ok_lessQ (P := P) (w := w) (mg := mg) (base := base) F_less T
  have G_times := ok_timesQ (P := P) (w := w) (mg := mg) (base := base) F_times T M GI b_Share_init3
  have G_total := ok_totalQ (P := P) (w := w) (mg := mg) (base := base) F_total T z_len z_sum i_lcm M GI b_Share_init3
  have G_is_a_bed := ok_bedG (P := P) (w := w) (mg := mg) (base := base) F_is_a_bed T Y IsSh mecShare ⟨G_is_between, m_is_between, k_is_between, b_is_between⟩ ⟨G_less, m_less, k_less, b_less⟩
  have G_are_beds := ok_bedsG (P := P) (w := w) (mg := mg) (base := base) F_are_beds Y g_MOST_BEDS g_MOST_BEDS_OF_A_PLACE ⟨G_is_a_bed, m_is_a_bed, k_is_a_bed, b_is_a_bed⟩
  have G_are_parts_of_one := ok_part1 (P := P) (w := w) (mg := mg) (base := base) F_are_parts_of_one Y g_MOST_OF_A_PART ⟨G_is_between, m_is_between, k_is_between, b_is_between⟩
  have G_are_parts := ok_partsG (P := P) (w := w) (mg := mg) (base := base) F_are_parts Y ⟨G_are_parts_of_one, m_are_parts_of_one, k_are_parts_of_one, b_are_parts_of_one⟩
  have GWi := ok_winit (P := P) (w := w) (mg := mg) (base := base) F_Web_init TW ne Y g_MOST_PLACES ⟨G_is_between, m_is_between, k_is_between, b_is_between⟩ ⟨G_are_beds, m_are_beds, k_are_beds, b_are_beds⟩ ⟨G_are_parts, m_are_parts, k_are_parts, b_are_parts⟩
  have G_beds_from := ok_fromB (P := P) (w := w) (mg := mg) (base := base) F_beds_from TW Y
  have G_gaps_of := ok_gaps (P := P) (w := w) (mg := mg) (base := base) F_gaps_of TW Y z_range ⟨G_beds_from, m_beds_from, k_beds_from, b_beds_from⟩
  have G_leads_of := ok_leads (P := P) (w := w) (mg := mg) (base := base) F_leads_of Y
  have G_are_depths := ok_areD (P := P) (w := w) (mg := mg) (base := base) F_are_depths TW Y ⟨G_is_whole, m_is_whole, k_is_whole, b_is_whole⟩
  have G_is_rain := ok_isR (P := P) (w := w) (mg := mg) (base := base) F_is_rain TW T Y IsSh mecShare
  have G_check_depths := ok_checkD (P := P) (w := w) (mg := mg) (base := base) F_check_depths ⟨G_are_depths, m_are_depths, k_are_depths, b_are_depths⟩
  have G_check_rain := ok_checkR (P := P) (w := w) (mg := mg) (base := base) F_check_rain ⟨G_is_rain, m_is_rain, k_is_rain, b_is_rain⟩
  have G_move_of := ok_move (P := P) (w := w) (mg := mg) (base := base) F_move_of ⟨G_less, m_less, k_less, b_less⟩
  have G_moves_of := ok_moves (P := P) (w := w) (mg := mg) (base := base) F_moves_of TW z_zip ⟨G_move_of, m_move_of, k_move_of, b_move_of⟩
  have G_parts_borne := ok_pb (P := P) (w := w) (mg := mg) (base := base) F_parts_borne T z_sum M GI b_Share_init3 ⟨G_times, m_times, k_times, b_times⟩
  have G_flow_of := ok_flow (P := P) (w := w) (mg := mg) (base := base) F_flow_of TW z_zip z_range ⟨G_total, m_total, k_total, b_total⟩ ⟨G_parts_borne, m_parts_borne, k_parts_borne, b_parts_borne⟩
  have B : TxtB mg := ⟨z_int, z_len, z_abs⟩
  have G_law_cell_at := ok_cell (P := P) (w := w) (mg := mg) (base := base) F_law_cell_at B
  have G_law_well := ok_wellN (P := P) (w := w) (mg := mg) (base := base) F_law_well B
  have G_draw0 := ok_draw (P := P) (w := w) (mg := mg) (base := base) F_law_draw 
  have G_law_draw := ok_drawN (P := P) (w := w) (mg := mg) (base := base) F_law_draw 
  have G_law_one := ok_oneN (P := P) (w := w) (mg := mg) (base := base) F_law_one B G_draw0 m_law_draw k_law_draw b_law_draw
  have G_law_low := ok_lowQ (P := P) (w := w) (mg := mg) (base := base) F_law_low B
  have G_law_plus := ok_lsum (K := K) (P := P) (w := w) (mg := mg) (base := base) F_law_plus ⟨G_law_low, m_law_low, k_law_low, b_law_low⟩
  have G_law_by := ok_lprod (K := K) (P := P) (w := w) (mg := mg) (base := base) F_law_by ⟨G_law_low, m_law_low, k_law_low, b_law_low⟩
  have G_law_under := ok_lessP (K := K) (P := P) (w := w) (mg := mg) (base := base) F_law_under 
  have G_law_share := ok_shareP (P := P) (w := w) (mg := mg) (base := base) F_law_share T M GI b_Share_init3
  have G_law_unit := ok_unit (K := K) (P := P) (w := w) (mg := mg) (base := base) F_law_unit ⟨G_law_one, m_law_one, k_law_one, b_law_one⟩
  have G_law_bed := ok_bedL (K := K) (P := P) (w := w) (mg := mg) (base := base) F_law_bed ⟨G_law_draw, m_law_draw, k_law_draw, b_law_draw⟩ ⟨G_law_one, m_law_one, k_law_one, b_law_one⟩ ⟨G_law_low, m_law_low, k_law_low, b_law_low⟩ ⟨G_law_plus, m_law_plus, k_law_plus, b_law_plus⟩ ⟨G_law_by, m_law_by, k_law_by, b_law_by⟩
  have G_law_spec := ok_specL (P := P) (w := w) (mg := mg) (base := base) F_law_spec Y z_range z_sum ⟨G_law_draw, m_law_draw, k_law_draw, b_law_draw⟩ ⟨G_law_one, m_law_one, k_law_one, b_law_one⟩ ⟨G_law_bed, m_law_bed, k_law_bed, b_law_bed⟩
  have G_law_web := ok_webL (P := P) (w := w) (mg := mg) (base := base) F_law_web Y mcWeb ⟨G_law_share, m_law_share, k_law_share, b_law_share⟩ MW GWi b_Web_init
  have G_law_depths := ok_depthsN (P := P) (w := w) (mg := mg) (base := base) F_law_depths Y z_range ⟨G_law_draw, m_law_draw, k_law_draw, b_law_draw⟩ ⟨G_law_one, m_law_one, k_law_one, b_law_one⟩
  have G_law_ranked := ok_ranked (P := P) (w := w) (mg := mg) (base := base) F_law_ranked Y
  have G_law_move := ok_moveL (P := P) (w := w) (mg := mg) (base := base) F_law_move B ⟨G_law_under, m_law_under, k_law_under, b_law_under⟩
  have G_law_day := ok_dayL (P := P) (w := w) (mg := mg) (base := base) F_law_day Y z_range z_sum z_zip ⟨G_law_ranked, m_law_ranked, k_law_ranked, b_law_ranked⟩ ⟨G_law_move, m_law_move, k_law_move, b_law_move⟩ ⟨G_law_low, m_law_low, k_law_low, b_law_low⟩ ⟨G_law_plus, m_law_plus, k_law_plus, b_law_plus⟩ ⟨G_law_by, m_law_by, k_law_by, b_law_by⟩
  have G_all_leads := ok_allL (P := P) (w := w) (mg := mg) (base := base) F_all_leads TW Y
  have G_led_back := ok_ledB (P := P) (w := w) (mg := mg) (base := base) F_led_back Y z_zip ⟨G_gaps_of, m_gaps_of, k_gaps_of, b_gaps_of⟩ ⟨G_leads_of, m_leads_of, k_leads_of, b_leads_of⟩
  have G_before := ok_before (P := P) (w := w) (mg := mg) (base := base) F_before Y ⟨G_check_depths, m_check_depths, k_check_depths, b_check_depths⟩ ⟨G_check_rain, m_check_rain, k_check_rain, b_check_rain⟩ ⟨G_all_leads, m_all_leads, k_all_leads, b_all_leads⟩ ⟨G_led_back, m_led_back, k_led_back, b_led_back⟩ ⟨G_moves_of, m_moves_of, k_moves_of, b_moves_of⟩ ⟨G_flow_of, m_flow_of, k_flow_of, b_flow_of⟩
  have TI : TxtI K cShare := ⟨gccShare, gs, gt, gmcShare, mecShare, mcShare_tuple, mcShare_int, mcShare_NoneType⟩
  have GSe := ok_eq (P := P) (w := w) (mg := mg) (base := base) F_Share_eq T TI
  have G_stretch_or_none := ok_streN (P := P) (w := w) (mg := mg) (base := base) F_stretch_or_none ⟨G_less, m_less, k_less, b_less⟩ GSe a_Share_eq i_Share_eq b_Share_eq
  have G_over := ok_over (P := P) (w := w) (mg := mg) (base := base) F_over T M GI b_Share_init3
  have G_part_above := ok_above (P := P) (w := w) (mg := mg) (base := base) F_part_above ⟨G_less, m_less, k_less, b_less⟩ ⟨G_stretch_or_none, m_stretch_or_none, k_stretch_or_none, b_stretch_or_none⟩ GSe a_Share_eq i_Share_eq b_Share_eq ecShare ocShare
  have G_part_below := ok_below (P := P) (w := w) (mg := mg) (base := base) F_part_below ⟨G_less, m_less, k_less, b_less⟩ ⟨G_stretch_or_none, m_stretch_or_none, k_stretch_or_none, b_stretch_or_none⟩ GSe a_Share_eq i_Share_eq b_Share_eq ecShare ocShare
  have G_part_moving := ok_moving (P := P) (w := w) (mg := mg) (base := base) F_part_moving T ⟨G_move_of, m_move_of, k_move_of, b_move_of⟩ ⟨G_part_above, m_part_above, k_part_above, b_part_above⟩ ⟨G_part_below, m_part_below, k_part_below, b_part_below⟩ ⟨G_over, m_over, k_over, b_over⟩
  have G_flow_from := ok_flowF (P := P) (w := w) (mg := mg) (base := base) F_flow_from T TW Y z_range M GI b_Share_init2 rd_Share_init2 ⟨G_flow_of, m_flow_of, k_flow_of, b_flow_of⟩
  have G_all_amounts := ok_allA (P := P) (w := w) (mg := mg) (base := base) F_all_amounts T M GI b_Share_init2 rd_Share_init2
  have G_is_place := ok_isP (C := cShare) (P := P) (w := w) (mg := mg) (base := base) F_is_place TW ⟨G_is_between, m_is_between, k_is_between, b_is_between⟩
  have G_check_place := ok_checkP (P := P) (w := w) (mg := mg) (base := base) F_check_place ⟨G_is_place, m_is_place, k_is_place, b_is_place⟩
  have G_rains_between := ok_betw (P := P) (w := w) (mg := mg) (base := base) F_rains_between TW Y ⟨G_check_depths, m_check_depths, k_check_depths, b_check_depths⟩ ⟨G_check_place, m_check_place, k_check_place, b_check_place⟩ ⟨G_gaps_of, m_gaps_of, k_gaps_of, b_gaps_of⟩ ⟨G_leads_of, m_leads_of, k_leads_of, b_leads_of⟩ ⟨G_flow_from, m_flow_from, k_flow_from, b_flow_from⟩ ⟨G_all_amounts, m_all_amounts, k_all_amounts, b_all_amounts⟩ ⟨G_part_moving, m_part_moving, k_part_moving, b_part_moving⟩
  have G_led_backT := ok_ledBT (P := P) (w := w) (mg := mg) (base := base) F_led_back Y z_zip ⟨G_gaps_of, m_gaps_of, k_gaps_of, b_gaps_of⟩ ⟨G_leads_of, m_leads_of, k_leads_of, b_leads_of⟩
  have G_parts_by_moves := ok_parts (P := P) (w := w) (mg := mg) (base := base) F_parts_by_moves z_zip ⟨G_all_amounts, m_all_amounts, k_all_amounts, b_all_amounts⟩ ⟨G_part_moving, m_part_moving, k_part_moving, b_part_moving⟩
  have G_before_any := ok_any (T := [(Pt, baQ), (Pt2, mkQ)]) (P := P) (w := w) (mg := mg) (base := base) l_before_any c_before_any TW Y TB (by simp) (fun p hp e => (List.mem_cons.mp hp).elim (fun h => by subst h; exact rfl) (fun h => by have h := List.mem_singleton.mp h; subst h; exact absurd e.symm nePt)) ⟨G_check_depths, m_check_depths, k_check_depths, b_check_depths⟩ ⟨G_check_place, m_check_place, k_check_place, b_check_place⟩ ⟨G_all_leads, m_all_leads, k_all_leads, b_all_leads⟩ ⟨G_flow_from, m_flow_from, k_flow_from, b_flow_from⟩ ⟨G_parts_by_moves, m_parts_by_moves, k_parts_by_moves, b_parts_by_moves⟩ ⟨G_led_backT, m_led_back, k_led_back, b_led_back⟩
  have G_law_marked := ok_marked (T := [(Pt, baQ), (Pt2, mkQ)]) (P := P) (w := w) (mg := mg) (base := base) l_law_marked c_law_marked Y z_zip z_set TB2 (by simp) (fun p hp e => (List.mem_cons.mp hp).elim (fun h => by subst h; exact absurd e nePt) (fun h => by have h := List.mem_singleton.mp h; subst h; exact rfl)) ⟨G_law_by, m_law_by, k_law_by, b_law_by⟩
  have G_law_at := ok_lat (P := P) (w := w) (mg := mg) (base := base) F_law_at B z_range
  have G_law_pair := ok_pairS (P := P) (w := w) (mg := mg) (base := base) F_law_pair T
  have G_law_points := ok_points (P := P) (w := w) (mg := mg) (base := base) F_law_points ⟨G_law_marked, m_law_marked, k_law_marked, b_law_marked⟩ ⟨G_law_day, m_law_day, k_law_day, b_law_day⟩ ⟨G_law_at, m_law_at, k_law_at, b_law_at⟩
  have G_law_samples := ok_samp (C := cShare) (P := P) (w := w) (mg := mg) (base := base) F_law_samples z_zip ⟨G_law_plus, m_law_plus, k_law_plus, b_law_plus⟩ ⟨G_law_by, m_law_by, k_law_by, b_law_by⟩
  have G_law_is_in := ok_isin (P := P) (w := w) (mg := mg) (base := base) F_law_is_in ⟨G_law_under, m_law_under, k_law_under, b_law_under⟩ ⟨G_law_pair, m_law_pair, k_law_pair, b_law_pair⟩
  have G_law_is_stretch := ok_isstr (CN := cNoShare) (P := P) (w := w) (mg := mg) (base := base) F_law_is_stretch Y z_bool IsSh mecShare ⟨G_law_pair, m_law_pair, k_law_pair, b_law_pair⟩
  have G_law_leading := ok_leading (P := P) (w := w) (mg := mg) (base := base) F_law_leading ⟨G_law_points, m_law_points, k_law_points, b_law_points⟩ ⟨G_law_samples, m_law_samples, k_law_samples, b_law_samples⟩ ⟨G_law_day, m_law_day, k_law_day, b_law_day⟩ ⟨G_law_at, m_law_at, k_law_at, b_law_at⟩
  have G_law_neighbours := ok_nb (P := P) (w := w) (mg := mg) (base := base) F_law_neighbours 
  have G_law_rows := ok_rows (P := P) (w := w) (mg := mg) (base := base) F_law_rows z_range
  have G_law_bears := ok_bears (P := P) (w := w) (mg := mg) (base := base) F_law_bears Y z_range z_sum ⟨G_law_at, m_law_at, k_law_at, b_law_at⟩ ⟨G_law_low, m_law_low, k_law_low, b_law_low⟩ ⟨G_law_plus, m_law_plus, k_law_plus, b_law_plus⟩ ⟨G_law_by, m_law_by, k_law_by, b_law_by⟩
  have G_law_elders := ok_elders (P := P) (w := w) (mg := mg) (base := base) F_law_elders Y z_zip ⟨G_law_rows, m_law_rows, k_law_rows, b_law_rows⟩ ⟨G_law_bears, m_law_bears, k_law_bears, b_law_bears⟩ ⟨G_law_marked, m_law_marked, k_law_marked, b_law_marked⟩ ⟨G_law_samples, m_law_samples, k_law_samples, b_law_samples⟩ ⟨G_law_move, m_law_move, k_law_move, b_law_move⟩ ⟨G_law_by, m_law_by, k_law_by, b_law_by⟩ ⟨G_law_day, m_law_day, k_law_day, b_law_day⟩ ⟨G_law_at, m_law_at, k_law_at, b_law_at⟩
  have G_law_told_right := ok_tdR (P := P) (w := w) (mg := mg) (base := base) F_law_told_right Y GSe b_Share_eq a_Share_eq i_Share_eq ⟨G_law_points, m_law_points, k_law_points, b_law_points⟩ ⟨G_law_leading, m_law_leading, k_law_leading, b_law_leading⟩ ⟨G_law_is_stretch, m_law_is_stretch, k_law_is_stretch, b_law_is_stretch⟩ ⟨G_law_samples, m_law_samples, k_law_samples, b_law_samples⟩ ⟨G_law_is_in, m_law_is_in, k_law_is_in, b_law_is_in⟩ ⟨G_law_share, m_law_share, k_law_share, b_law_share⟩ ⟨G_law_at, m_law_at, k_law_at, b_law_at⟩ G_before m_before k_before (kb_before F_before) G_rains_between m_rains_between k_rains_between (kb_betw F_rains_between)
  have G_law_right := ok_rightA (P := P) (w := w) (mg := mg) (base := base) F_law_right Y GSe b_Share_eq a_Share_eq i_Share_eq ⟨G_law_web, m_law_web, k_law_web, b_law_web⟩ ⟨G_law_elders, m_law_elders, k_law_elders, b_law_elders⟩ ⟨G_law_neighbours, m_law_neighbours, k_law_neighbours, b_law_neighbours⟩ ⟨G_law_leading, m_law_leading, k_law_leading, b_law_leading⟩ ⟨G_law_told_right, m_law_told_right, k_law_told_right, b_law_told_right⟩ G_before_any m_before_any k_before_any kb_any
  exact ok_law F_law Y ⟨G_law_cell_at, m_law_cell_at, k_law_cell_at, b_law_cell_at⟩ ⟨G_law_well, m_law_well, k_law_well, b_law_well⟩ ⟨G_law_unit, m_law_unit, k_law_unit, b_law_unit⟩ ⟨G_law_spec, m_law_spec, k_law_spec, b_law_spec⟩ ⟨G_law_depths, m_law_depths, k_law_depths, b_law_depths⟩ ⟨G_law_draw, m_law_draw, k_law_draw, b_law_draw⟩ ⟨G_law_one, m_law_one, k_law_one, b_law_one⟩ ⟨G_law_right, m_law_right, k_law_right, b_law_right⟩
theorem walk {l : PySem.W.OpenLaw} {q : Program} {loose : List Str} {XP : (Str → Option Value) → Heap → Prop} {YP : World → Heap → Prop} {d : DefRec} {K : Params → PySem.W.Frag} (hn : l.most = some 63) (hdf : d.params.defaults = [])
    (hY : ∀ (w : World) (h : Heap), YP w h → (K w.params).In h)
    (F : ∀ (w : World) (mg : Str → Option Value) (fa : Addr) (h : Heap), YP w h → (K w.params).In h → h.Ns mainGlobals mg → mg d.name = some (.ref fa) →
      ∃ (fd : FuncData) (cc Pt cc2 Pt2 : Addr), h.get? Pt = some { cls := .none, data := .fields #[] } ∧ (K w.params).lookup Pt = none ∧ PySem.W.CodeHd h cc Pt ∧ h.get? Pt2 = some { cls := .none, data := .fields #[] } ∧ (K w.params).lookup Pt2 = none ∧ PySem.W.CodeHd h cc2 Pt2 ∧ (∀ (s : Shared) (v : Value), BindsTo s fd ⟨[v], []⟩ [("script", v)]) ∧ ∀ base : Heap, (K w.params).In base → base.Ns mainGlobals mg → TabB base mg cc Pt → TabB base mg cc2 Pt2 → FnOk l.prog w (K w.params) mg base CX0 11 fa fd ["script"] (spLaw (K w.params) Pt Pt2)) :
    PySem.W.WalkO q loose XP YP l.row.toRowW d [] (fun f vs => PySem.call f vs) := by
  refine walk_ofTs (n := 63) (k := 11) (x := "script") (CX := fun _ => CX0) hn (by decide) hdf ⟨rfl, by decide, by decide⟩ hY (fun w mg fa h Y KX G hm => ?_) (fun _ _ _ _ _ z => z)
  obtain ⟨fd, cc, Pt, cc2, Pt2, t1, t2, t3, u1, u2, u3, hb, hF⟩ := F w mg fa h Y KX G hm
  have two : ∀ {Pr : Addr × Addr → Prop}, Pr (cc, Pt) → Pr (cc2, Pt2) → ∀ p ∈ [(cc, Pt), (cc2, Pt2)], Pr p := fun a b p hp => by
    simp only [List.mem_cons, List.not_mem_nil, or_false] at hp
    rcases hp with rfl | rfl
    · exact a
    · exact b
  have m1 : (cc, Pt) ∈ [(cc, Pt), (cc2, Pt2)] := by simp
  have m2 : (cc2, Pt2) ∈ [(cc, Pt), (cc2, Pt2)] := by simp
  refine ⟨fd, [(cc, Pt), (cc2, Pt2)], spLaw (K w.params) Pt Pt2, two t1 u1, two t2 u2, two t3 u3, hb, fun H a ns hl _ hT hS => ?_, fun base KB GB TB => hF base KB GB (TB _ m1) (TB _ m2)⟩
  exact law_told hl (hT _ m1) (hT _ m2) hS
end K64

open PySem PySem.W PyProof.Rows in
set_option maxRecDepth 100000 in
set_option maxHeartbeats 0 in
theorem PySem.Challenge.cw_rillweb_k64_whole_mornings_by_any_amount_holds : PySem.Challenge.rw_rillweb_k64_whole_mornings_by_any_amount.Holds := by
  w_on; o_law; k_head; (case hw => w_witness2)
  k_fill
  refine K64.walk (l := PySem.Challenge.rw_rillweb_k64_whole_mornings_by_any_amount) rfl rfl (fun w h Y => PySem.W.km_in_of Y) ?F
  case F =>
    intro w mg fa h Y KX G hmg
    refine' K64.all_mk KX G hmg ?z_ValueError ?z_abs ?z_all ?z_any ?z_bool ?z_enumerate ?z_int ?z_isinstance ?z_len ?z_list ?z_range ?z_set ?z_sorted ?z_sum ?z_super ?z_tuple ?z_zip ?i_gcd ?i_lcm ?g_MOST_PLACES ?g_MOST_BEDS ?g_MOST_BEDS_OF_A_PLACE ?g_MOST_OF_A_PART ?acRillError ?xcRillError ?kcRillError ?bcRillError ?tcRillError ?icRillError ?scRillError ?acNoShare ?xcNoShare ?kcNoShare ?bcNoShare ?tcNoShare ?icNoShare ?scNoShare ?acShare ?pgcShare ?hdcShare ?pocShare ?sacShare ?mkcShare ?kccShare ?ncShare_bottom ?ncShare_top ?gccShare ?gmcShare ?mecShare ?mcShare_tuple ?ucShare_tuple ?mcShare_int ?ucShare_int ?mcShare_NoneType ?mcShare_list ?ucShare_list ?mcShare_str ?mcShare_bool ?ucShare_bool ?mcShare_dict ?ecShare ?ocShare ?wcShare_tuple ?ycShare_tuple ?wcShare_int ?ycShare_int ?wcShare_NoneType ?ycShare_NoneType ?wcShare_list ?ycShare_list ?wcShare_str ?ycShare_str ?wcShare_bool ?ycShare_bool ?wcShare_dict ?ycShare_dict ?a_Share_init ?i_Share_init ?l_Share_init ?c_Share_init ?k_Share_init ?lTD_Share_init ?a_Share_eq ?i_Share_eq ?l_Share_eq ?c_Share_eq ?k_Share_eq ?acWeb ?pgcWeb ?hdcWeb ?pocWeb ?sacWeb ?mkcWeb ?kccWeb ?ncWeb_beds ?ncWeb_many ?ncWeb_parts ?gccWeb ?gmcWeb ?mecWeb ?mcWeb_tuple ?ucWeb_tuple ?mcWeb_int ?ucWeb_int ?mcWeb_NoneType ?mcWeb_list ?ucWeb_list ?mcWeb_str ?mcWeb_bool ?ucWeb_bool ?mcWeb_dict ?ecWeb ?ocWeb ?wcWeb_tuple ?ycWeb_tuple ?wcWeb_int ?ycWeb_int ?wcWeb_NoneType ?ycWeb_NoneType ?wcWeb_list ?ycWeb_list ?wcWeb_str ?ycWeb_str ?wcWeb_bool ?ycWeb_bool ?wcWeb_dict ?ycWeb_dict ?a_Web_init ?i_Web_init ?l_Web_init ?c_Web_init ?k_Web_init ?a_Web_eq ?i_Web_eq ?l_Web_eq ?c_Web_eq ?k_Web_eq ?jShare_Web ?vShare_Web ?jWeb_Share ?vWeb_Share ?a_is_whole ?l_is_whole ?c_is_whole ?k_is_whole ?a_is_between ?l_is_between ?c_is_between ?k_is_between ?a_times ?l_times ?c_times ?k_times ?a_over ?l_over ?c_over ?k_over ?a_less ?l_less ?c_less ?k_less ?a_total ?l_total ?c_total ?k_total ?a_are_beds ?l_are_beds ?c_are_beds ?k_are_beds ?a_is_a_bed ?l_is_a_bed ?c_is_a_bed ?k_is_a_bed ?a_are_parts ?l_are_parts ?c_are_parts ?k_are_parts ?a_are_parts_of_one ?l_are_parts_of_one ?c_are_parts_of_one ?k_are_parts_of_one ?a_is_place ?l_is_place ?c_is_place ?k_is_place ?a_beds_from ?l_beds_from ?c_beds_from ?k_beds_from ?a_are_depths ?l_are_depths ?c_are_depths ?k_are_depths ?a_is_rain ?l_is_rain ?c_is_rain ?k_is_rain ?a_parts_borne ?l_parts_borne ?c_parts_borne ?k_parts_borne ?a_move_of ?l_move_of ?c_move_of ?k_move_of ?a_check_depths ?l_check_depths ?c_check_depths ?k_check_depths ?a_check_rain ?l_check_rain ?c_check_rain ?k_check_rain ?a_check_place ?l_check_place ?c_check_place ?k_check_place ?a_gaps_of ?l_gaps_of ?c_gaps_of ?k_gaps_of ?a_leads_of ?l_leads_of ?c_leads_of ?k_leads_of ?a_flow_of ?l_flow_of ?c_flow_of ?k_flow_of ?a_moves_of ?l_moves_of ?c_moves_of ?k_moves_of ?a_all_amounts ?l_all_amounts ?c_all_amounts ?k_all_amounts ?a_stretch_or_none ?l_stretch_or_none ?c_stretch_or_none ?k_stretch_or_none ?a_part_above ?l_part_above ?c_part_above ?k_part_above ?a_part_below ?l_part_below ?c_part_below ?k_part_below ?a_part_moving ?l_part_moving ?c_part_moving ?k_part_moving ?a_parts_by_moves ?l_parts_by_moves ?c_parts_by_moves ?k_parts_by_moves ?a_flow_from ?l_flow_from ?c_flow_from ?k_flow_from ?a_all_leads ?l_all_leads ?c_all_leads ?k_all_leads ?a_led_back ?l_led_back ?c_led_back ?k_led_back ?a_before ?l_before ?c_before ?k_before ?a_rains_between ?l_rains_between ?c_rains_between ?k_rains_between ?a_before_any ?l_before_any ?c_before_any ?k_before_any ?lC ?vC ?hC ?nP ?tP ?a_law_cell_at ?l_law_cell_at ?c_law_cell_at ?k_law_cell_at ?a_law_well ?l_law_well ?c_law_well ?k_law_well ?a_law_draw ?l_law_draw ?c_law_draw ?k_law_draw ?a_law_one ?l_law_one ?c_law_one ?k_law_one ?a_law_low ?l_law_low ?c_law_low ?k_law_low ?a_law_plus ?l_law_plus ?c_law_plus ?k_law_plus ?a_law_by ?l_law_by ?c_law_by ?k_law_by ?a_law_under ?l_law_under ?c_law_under ?k_law_under ?a_law_share ?l_law_share ?c_law_share ?k_law_share ?a_law_unit ?l_law_unit ?c_law_unit ?k_law_unit ?a_law_bed ?l_law_bed ?c_law_bed ?k_law_bed ?a_law_spec ?l_law_spec ?c_law_spec ?k_law_spec ?a_law_web ?l_law_web ?c_law_web ?k_law_web ?a_law_depths ?l_law_depths ?c_law_depths ?k_law_depths ?a_law_ranked ?l_law_ranked ?c_law_ranked ?k_law_ranked ?a_law_move ?l_law_move ?c_law_move ?k_law_move ?a_law_day ?l_law_day ?c_law_day ?k_law_day ?a_law_at ?l_law_at ?c_law_at ?k_law_at ?a_law_marked ?l_law_marked ?c_law_marked ?k_law_marked ?lC2 ?vC2 ?hC2 ?nP2 ?tP2 ?nePt ?a_law_points ?l_law_points ?c_law_points ?k_law_points ?a_law_samples ?l_law_samples ?c_law_samples ?k_law_samples ?a_law_pair ?l_law_pair ?c_law_pair ?k_law_pair ?a_law_is_in ?l_law_is_in ?c_law_is_in ?k_law_is_in ?a_law_is_stretch ?l_law_is_stretch ?c_law_is_stretch ?k_law_is_stretch ?a_law_neighbours ?l_law_neighbours ?c_law_neighbours ?k_law_neighbours ?a_law_rows ?l_law_rows ?c_law_rows ?k_law_rows ?a_law_bears ?l_law_bears ?c_law_bears ?k_law_bears ?a_law_elders ?l_law_elders ?c_law_elders ?k_law_elders ?a_law_leading ?l_law_leading ?c_law_leading ?k_law_leading ?a_law_told_right ?l_law_told_right ?c_law_told_right ?k_law_told_right ?a_law_right ?l_law_right ?c_law_right ?k_law_right ?a_law ?l_law ?c_law ?k_law ?gs ?gt
    (case z_ValueError => k_is)
    (case z_abs => k_is)
    (case z_all => k_is)
    (case z_any => k_is)
    (case z_bool => k_is)
    (case z_enumerate => k_is)
    (case z_int => k_is)
    (case z_isinstance => k_is)
    (case z_len => k_is)
    (case z_list => k_is)
    (case z_range => k_is)
    (case z_set => k_is)
    (case z_sorted => k_is)
    (case z_sum => k_is)
    (case z_super => k_is)
    (case z_tuple => k_is)
    (case z_zip => k_is)
    (case i_gcd => k_is)
    (case i_lcm => k_is)
    (case g_MOST_PLACES => k_is)
    (case g_MOST_BEDS => k_is)
    (case g_MOST_BEDS_OF_A_PLACE => k_is)
    (case g_MOST_OF_A_PART => k_is)
    (case acRillError => k_is)
    (case xcRillError => k_exc)
    (case kcRillError => k_is)
    (case bcRillError => k_is)
    (case tcRillError => k_is)
    (case icRillError => k_is)
    (case scRillError => first | rfl | k_is)
    (case acNoShare => k_is)
    (case xcNoShare => k_exc)
    (case kcNoShare => k_is)
    (case bcNoShare => k_is)
    (case tcNoShare => k_is)
    (case icNoShare => k_is)
    (case scNoShare => first | rfl | k_is)
    (case acShare => k_is)
    (case pgcShare => k_is)
    (case hdcShare => k_is)
    (case pocShare => k_is)
    (case sacShare => k_is)
    (case mkcShare => k_is)
    (case kccShare => k_is)
    (case ncShare_bottom => k_is)
    (case ncShare_top => k_is)
    (case gccShare => k_is)
    (case gmcShare => k_is)
    (case mecShare => first | rfl | k_is)
    (case mcShare_tuple => first | rfl | k_is)
    (case ucShare_tuple => first | rfl | k_is)
    (case mcShare_int => first | rfl | k_is)
    (case ucShare_int => first | rfl | k_is)
    (case mcShare_NoneType => first | rfl | k_is)
    (case mcShare_list => first | rfl | k_is)
    (case ucShare_list => first | rfl | k_is)
    (case mcShare_str => first | rfl | k_is)
    (case mcShare_bool => first | rfl | k_is)
    (case ucShare_bool => first | rfl | k_is)
    (case mcShare_dict => first | rfl | k_is)
    (case ecShare => k_is)
    (case ocShare => first | rfl | k_is)
    (case wcShare_tuple => first | rfl | k_is)
    (case ycShare_tuple => first | rfl | k_is)
    (case wcShare_int => first | rfl | k_is)
    (case ycShare_int => first | rfl | k_is)
    (case wcShare_NoneType => first | rfl | k_is)
    (case ycShare_NoneType => first | rfl | k_is)
    (case wcShare_list => first | rfl | k_is)
    (case ycShare_list => first | rfl | k_is)
    (case wcShare_str => first | rfl | k_is)
    (case ycShare_str => first | rfl | k_is)
    (case wcShare_bool => first | rfl | k_is)
    (case ycShare_bool => first | rfl | k_is)
    (case wcShare_dict => first | rfl | k_is)
    (case ycShare_dict => first | rfl | k_is)
    (case a_Share_init => k_is)
    (case i_Share_init => k_is)
    (case l_Share_init => k_is)
    (case c_Share_init => k_is)
    (case k_Share_init => k_is)
    (case lTD_Share_init => k_is)
    (case a_Share_eq => k_is)
    (case i_Share_eq => k_is)
    (case l_Share_eq => k_is)
    (case c_Share_eq => k_is)
    (case k_Share_eq => k_is)
    (case acWeb => k_is)
    (case pgcWeb => k_is)
    (case hdcWeb => k_is)
    (case pocWeb => k_is)
    (case sacWeb => k_is)
    (case mkcWeb => k_is)
    (case kccWeb => k_is)
    (case ncWeb_beds => k_is)
    (case ncWeb_many => k_is)
    (case ncWeb_parts => k_is)
    (case gccWeb => k_is)
    (case gmcWeb => k_is)
    (case mecWeb => first | rfl | k_is)
    (case mcWeb_tuple => first | rfl | k_is)
    (case ucWeb_tuple => first | rfl | k_is)
    (case mcWeb_int => first | rfl | k_is)
    (case ucWeb_int => first | rfl | k_is)
    (case mcWeb_NoneType => first | rfl | k_is)
    (case mcWeb_list => first | rfl | k_is)
    (case ucWeb_list => first | rfl | k_is)
    (case mcWeb_str => first | rfl | k_is)
    (case mcWeb_bool => first | rfl | k_is)
    (case ucWeb_bool => first | rfl | k_is)
    (case mcWeb_dict => first | rfl | k_is)
    (case ecWeb => k_is)
    (case ocWeb => first | rfl | k_is)
    (case wcWeb_tuple => first | rfl | k_is)
    (case ycWeb_tuple => first | rfl | k_is)
    (case wcWeb_int => first | rfl | k_is)
    (case ycWeb_int => first | rfl | k_is)
    (case wcWeb_NoneType => first | rfl | k_is)
    (case ycWeb_NoneType => first | rfl | k_is)
    (case wcWeb_list => first | rfl | k_is)
    (case ycWeb_list => first | rfl | k_is)
    (case wcWeb_str => first | rfl | k_is)
    (case ycWeb_str => first | rfl | k_is)
    (case wcWeb_bool => first | rfl | k_is)
    (case ycWeb_bool => first | rfl | k_is)
    (case wcWeb_dict => first | rfl | k_is)
    (case ycWeb_dict => first | rfl | k_is)
    (case a_Web_init => k_is)
    (case i_Web_init => k_is)
    (case l_Web_init => k_is)
    (case c_Web_init => k_is)
    (case k_Web_init => k_is)
    (case a_Web_eq => k_is)
    (case i_Web_eq => k_is)
    (case l_Web_eq => k_is)
    (case c_Web_eq => k_is)
    (case k_Web_eq => k_is)
    (case jShare_Web => first | rfl | k_is)
    (case vShare_Web => first | rfl | k_is)
    (case jWeb_Share => first | rfl | k_is)
    (case vWeb_Share => first | rfl | k_is)
    (case a_is_whole => k_is)
    (case l_is_whole => k_is)
    (case c_is_whole => k_is)
    (case k_is_whole => k_is)
    (case a_is_between => k_is)
    (case l_is_between => k_is)
    (case c_is_between => k_is)
    (case k_is_between => k_is)
    (case a_times => k_is)
    (case l_times => k_is)
    (case c_times => k_is)
    (case k_times => k_is)
    (case a_over => k_is)
    (case l_over => k_is)
    (case c_over => k_is)
    (case k_over => k_is)
    (case a_less => k_is)
    (case l_less => k_is)
    (case c_less => k_is)
    (case k_less => k_is)
    (case a_total => k_is)
    (case l_total => k_is)
    (case c_total => k_is)
    (case k_total => k_is)
    (case a_are_beds => k_is)
    (case l_are_beds => k_is)
    (case c_are_beds => k_is)
    (case k_are_beds => k_is)
    (case a_is_a_bed => k_is)
    (case l_is_a_bed => k_is)
    (case c_is_a_bed => k_is)
    (case k_is_a_bed => k_is)
    (case a_are_parts => k_is)
    (case l_are_parts => k_is)
    (case c_are_parts => k_is)
    (case k_are_parts => k_is)
    (case a_are_parts_of_one => k_is)
    (case l_are_parts_of_one => k_is)
    (case c_are_parts_of_one => k_is)
    (case k_are_parts_of_one => k_is)
    (case a_is_place => k_is)
    (case l_is_place => k_is)
    (case c_is_place => k_is)
    (case k_is_place => k_is)
    (case a_beds_from => k_is)
    (case l_beds_from => k_is)
    (case c_beds_from => k_is)
    (case k_beds_from => k_is)
    (case a_are_depths => k_is)
    (case l_are_depths => k_is)
    (case c_are_depths => k_is)
    (case k_are_depths => k_is)
    (case a_is_rain => k_is)
    (case l_is_rain => k_is)
    (case c_is_rain => k_is)
    (case k_is_rain => k_is)
    (case a_parts_borne => k_is)
    (case l_parts_borne => k_is)
    (case c_parts_borne => k_is)
    (case k_parts_borne => k_is)
    (case a_move_of => k_is)
    (case l_move_of => k_is)
    (case c_move_of => k_is)
    (case k_move_of => k_is)
    (case a_check_depths => k_is)
    (case l_check_depths => k_is)
    (case c_check_depths => k_is)
    (case k_check_depths => k_is)
    (case a_check_rain => k_is)
    (case l_check_rain => k_is)
    (case c_check_rain => k_is)
    (case k_check_rain => k_is)
    (case a_check_place => k_is)
    (case l_check_place => k_is)
    (case c_check_place => k_is)
    (case k_check_place => k_is)
    (case a_gaps_of => k_is)
    (case l_gaps_of => k_is)
    (case c_gaps_of => k_is)
    (case k_gaps_of => k_is)
    (case a_leads_of => k_is)
    (case l_leads_of => k_is)
    (case c_leads_of => k_is)
    (case k_leads_of => k_is)
    (case a_flow_of => k_is)
    (case l_flow_of => k_is)
    (case c_flow_of => k_is)
    (case k_flow_of => k_is)
    (case a_moves_of => k_is)
    (case l_moves_of => k_is)
    (case c_moves_of => k_is)
    (case k_moves_of => k_is)
    (case a_all_amounts => k_is)
    (case l_all_amounts => k_is)
    (case c_all_amounts => k_is)
    (case k_all_amounts => k_is)
    (case a_stretch_or_none => k_is)
    (case l_stretch_or_none => k_is)
    (case c_stretch_or_none => k_is)
    (case k_stretch_or_none => k_is)
    (case a_part_above => k_is)
    (case l_part_above => k_is)
    (case c_part_above => k_is)
    (case k_part_above => k_is)
    (case a_part_below => k_is)
    (case l_part_below => k_is)
    (case c_part_below => k_is)
    (case k_part_below => k_is)
    (case a_part_moving => k_is)
    (case l_part_moving => k_is)
    (case c_part_moving => k_is)
    (case k_part_moving => k_is)
    (case a_parts_by_moves => k_is)
    (case l_parts_by_moves => k_is)
    (case c_parts_by_moves => k_is)
    (case k_parts_by_moves => k_is)
    (case a_flow_from => k_is)
    (case l_flow_from => k_is)
    (case c_flow_from => k_is)
    (case k_flow_from => k_is)
    (case a_all_leads => k_is)
    (case l_all_leads => k_is)
    (case c_all_leads => k_is)
    (case k_all_leads => k_is)
    (case a_led_back => k_is)
    (case l_led_back => k_is)
    (case c_led_back => k_is)
    (case k_led_back => k_is)
    (case a_before => k_is)
    (case l_before => k_is)
    (case c_before => k_is)
    (case k_before => k_is)
    (case a_rains_between => k_is)
    (case l_rains_between => k_is)
    (case c_rains_between => k_is)
    (case k_rains_between => k_is)
    (case a_before_any => k_is)
    (case l_before_any => k_is)
    (case c_before_any => k_is)
    (case k_before_any => k_is)
    (case lC => k_is)
    (case vC => rfl)
    (case hC => kernel_rfl)
    (case nP => first | rfl | decide +kernel | kernel_rfl)
    (case tP => exact PySem.W.km_tabs_of Y _ (by first | decide | k_mem | simp))
    (case a_law_cell_at => k_is)
    (case l_law_cell_at => k_is)
    (case c_law_cell_at => k_is)
    (case k_law_cell_at => k_is)
    (case a_law_well => k_is)
    (case l_law_well => k_is)
    (case c_law_well => k_is)
    (case k_law_well => k_is)
    (case a_law_draw => k_is)
    (case l_law_draw => k_is)
    (case c_law_draw => k_is)
    (case k_law_draw => k_is)
    (case a_law_one => k_is)
    (case l_law_one => k_is)
    (case c_law_one => k_is)
    (case k_law_one => k_is)
    (case a_law_low => k_is)
    (case l_law_low => k_is)
    (case c_law_low => k_is)
    (case k_law_low => k_is)
    (case a_law_plus => k_is)
    (case l_law_plus => k_is)
    (case c_law_plus => k_is)
    (case k_law_plus => k_is)
    (case a_law_by => k_is)
    (case l_law_by => k_is)
    (case c_law_by => k_is)
    (case k_law_by => k_is)
    (case a_law_under => k_is)
    (case l_law_under => k_is)
    (case c_law_under => k_is)
    (case k_law_under => k_is)
    (case a_law_share => k_is)
    (case l_law_share => k_is)
    (case c_law_share => k_is)
    (case k_law_share => k_is)
    (case a_law_unit => k_is)
    (case l_law_unit => k_is)
    (case c_law_unit => k_is)
    (case k_law_unit => k_is)
    (case a_law_bed => k_is)
    (case l_law_bed => k_is)
    (case c_law_bed => k_is)
    (case k_law_bed => k_is)
    (case a_law_spec => k_is)
    (case l_law_spec => k_is)
    (case c_law_spec => k_is)
    (case k_law_spec => k_is)
    (case a_law_web => k_is)
    (case l_law_web => k_is)
    (case c_law_web => k_is)
    (case k_law_web => k_is)
    (case a_law_depths => k_is)
    (case l_law_depths => k_is)
    (case c_law_depths => k_is)
    (case k_law_depths => k_is)
    (case a_law_ranked => k_is)
    (case l_law_ranked => k_is)
    (case c_law_ranked => k_is)
    (case k_law_ranked => k_is)
    (case a_law_move => k_is)
    (case l_law_move => k_is)
    (case c_law_move => k_is)
    (case k_law_move => k_is)
    (case a_law_day => k_is)
    (case l_law_day => k_is)
    (case c_law_day => k_is)
    (case k_law_day => k_is)
    (case a_law_at => k_is)
    (case l_law_at => k_is)
    (case c_law_at => k_is)
    (case k_law_at => k_is)
    (case a_law_marked => k_is)
    (case l_law_marked => k_is)
    (case c_law_marked => k_is)
    (case k_law_marked => k_is)
    (case lC2 => k_is)
    (case vC2 => rfl)
    (case hC2 => kernel_rfl)
    (case nP2 => first | rfl | decide +kernel | kernel_rfl)
    (case tP2 => exact PySem.W.km_tabs_of Y _ (by first | decide | k_mem | simp))
    (case nePt => decide)
    (case a_law_points => k_is)
    (case l_law_points => k_is)
    (case c_law_points => k_is)
    (case k_law_points => k_is)
    (case a_law_samples => k_is)
    (case l_law_samples => k_is)
    (case c_law_samples => k_is)
    (case k_law_samples => k_is)
    (case a_law_pair => k_is)
    (case l_law_pair => k_is)
    (case c_law_pair => k_is)
    (case k_law_pair => k_is)
    (case a_law_is_in => k_is)
    (case l_law_is_in => k_is)
    (case c_law_is_in => k_is)
    (case k_law_is_in => k_is)
    (case a_law_is_stretch => k_is)
    (case l_law_is_stretch => k_is)
    (case c_law_is_stretch => k_is)
    (case k_law_is_stretch => k_is)
    (case a_law_neighbours => k_is)
    (case l_law_neighbours => k_is)
    (case c_law_neighbours => k_is)
    (case k_law_neighbours => k_is)
    (case a_law_rows => k_is)
    (case l_law_rows => k_is)
    (case c_law_rows => k_is)
    (case k_law_rows => k_is)
    (case a_law_bears => k_is)
    (case l_law_bears => k_is)
    (case c_law_bears => k_is)
    (case k_law_bears => k_is)
    (case a_law_elders => k_is)
    (case l_law_elders => k_is)
    (case c_law_elders => k_is)
    (case k_law_elders => k_is)
    (case a_law_leading => k_is)
    (case l_law_leading => k_is)
    (case c_law_leading => k_is)
    (case k_law_leading => k_is)
    (case a_law_told_right => k_is)
    (case l_law_told_right => k_is)
    (case c_law_told_right => k_is)
    (case k_law_told_right => k_is)
    (case a_law_right => k_is)
    (case l_law_right => k_is)
    (case c_law_right => k_is)
    (case k_law_right => k_is)
    (case a_law => k_is)
    (case l_law => k_is)
    (case c_law => k_is)
    (case k_law => k_is)
    (case gs => first | rfl | k_is)
    (case gt => first | rfl | k_is)
