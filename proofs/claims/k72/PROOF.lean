import PyProof.Rows.All
import Wide.All
import OpenK.AllK
import Wide.FinOn
import HandS.ForMost
import HandS.Walk
import HandS.ForExc
import HandS.ExcInit
import HandS.ExcIs
import HandS.ExcValue
import HandS.Wide
import HandS.Gcd
import HandS.IsInst
import HandS.Defaults
import HandS.Codes
import HandS.OwnEq
import HandS.Lambda
import KE.KExcIs
import KE.GoesMore
import HandS.Style
import HandS.TryMany
import HandS.EndTab
import HandS.SetFor
import HandS.SortInts
import KE.KSortedM
import HandS.SetFor
import HandS.SortInts
import KE.KSortedM
import HandS.Strs
import HandS.Flow
import HandS.Zip
import KE.GoesZip
import KE.GoesEnum
import KE.KTupSum
import HandS.Defaults
import HandS.TupAny
import HandS.OwnEq
import HandS.ExcField
import HandS.ExcOwn
import PySem.Challenge.RW_rillweb_k72_whole_webs_cut
set_option Elab.async false
set_option linter.all false
set_option maxRecDepth 100000
set_option maxHeartbeats 2000000
set_option exponentiation.threshold 20000
namespace K72
open PySem PySem.Spec PyProof.Rows L2
def top (i : Nat) : Stmt := PySem.Challenge.pw_rillweb_k72_whole_webs_cut.main.body.getD i (.Pass ⟨0, 0, 0, 0⟩)
abbrev d_NoWeb_init : Stmt := inClass (top 4) 0
abbrev d_NoPlace_init : Stmt := inClass (top 7) 0
abbrev d_is_whole : Stmt := top 9
abbrev d_is_between : Stmt := top 10
abbrev d_Share_init : Stmt := inClass (top 12) 0
abbrev d_Share_eq : Stmt := inClass (top 12) 1
abbrev d_times : Stmt := top 13
abbrev d_less : Stmt := top 14
abbrev d_total : Stmt := top 15
abbrev d_Web_init : Stmt := inClass (top 21) 0
abbrev d_Web_eq : Stmt := inClass (top 21) 1
abbrev d_are_beds : Stmt := top 22
abbrev d_is_a_bed : Stmt := top 23
abbrev d_are_parts : Stmt := top 24
abbrev d_are_parts_of_one : Stmt := top 25
abbrev d_beds_from : Stmt := top 26
abbrev d_are_depths : Stmt := top 27
abbrev d_is_rain : Stmt := top 28
abbrev d_parts_borne : Stmt := top 29
abbrev d_move_of : Stmt := top 30
abbrev d_check_depths : Stmt := top 31
abbrev d_check_rain : Stmt := top 32
abbrev d_gaps_of : Stmt := top 33
abbrev d_leads_of : Stmt := top 34
abbrev d_flow_of : Stmt := top 35
abbrev d_moves_of : Stmt := top 36
abbrev d_day_of : Stmt := top 37
abbrev d_borne : Stmt := top 38
abbrev d_water : Stmt := top 39
abbrev d_step : Stmt := top 40
abbrev d_cut : Stmt := top 42
abbrev d_law_cell_at : Stmt := top 44
abbrev d_law_mixed : Stmt := top 45
abbrev d_law_source : Stmt := top 46
abbrev d_law_next : Stmt := top 47
abbrev d_law_pick : Stmt := top 48
abbrev d_law_lowered : Stmt := top 49
abbrev d_law_sum : Stmt := top 50
abbrev d_law_product : Stmt := top 51
abbrev d_law_is_less : Stmt := top 52
abbrev d_law_mark : Stmt := top 53
abbrev d_law_beds_of : Stmt := top 54
abbrev d_law_world : Stmt := top 55
abbrev d_law_made : Stmt := top 56
abbrev d_law_depths : Stmt := top 57
abbrev d_law_falls : Stmt := top 58
abbrev d_law_shares : Stmt := top 59
abbrev d_law_refused : Stmt := top 60
abbrev d_law_day_right : Stmt := top 61
abbrev d_law : Stmt := top 62
end K72
namespace K72
/-- the common part of two whole numbers, with the sign of the second -/
def sg (a b : Int) : Int := if b < 0 then -((Nat.gcd a.natAbs b.natAbs : Nat) : Int) else ((Nat.gcd a.natAbs b.natAbs : Nat) : Int)
/-- the top and the bottom in lowest terms -/
def lowT (a b : Int) : Int := a.fdiv (sg a b)
def lowB (a b : Int) : Int := b.fdiv (sg a b)

theorem gcd_pos {a b : Int} (hb : b ≠ 0) : 0 < Nat.gcd a.natAbs b.natAbs := Nat.gcd_pos_of_pos_right _ (by omega)
theorem sg_ne {a b : Int} (hb : b ≠ 0) : sg a b ≠ 0 := by
  have := gcd_pos (a := a) hb
  unfold sg
  split <;> omega
theorem sg_dvd_left (a b : Int) : sg a b ∣ a := by
  have h : ((Nat.gcd a.natAbs b.natAbs : Nat) : Int) ∣ a := Int.ofNat_dvd_left.mpr (Nat.gcd_dvd_left _ _)
  unfold sg
  split
  · exact Int.neg_dvd.mpr h
  · exact h
theorem sg_dvd_right (a b : Int) : sg a b ∣ b := by
  have h : ((Nat.gcd a.natAbs b.natAbs : Nat) : Int) ∣ b := Int.ofNat_dvd_left.mpr (Nat.gcd_dvd_right _ _)
  unfold sg
  split
  · exact Int.neg_dvd.mpr h
  · exact h
theorem lowT_mul (a b : Int) : lowT a b * sg a b = a := Int.fdiv_mul_cancel (sg_dvd_left a b)
theorem lowB_mul (a b : Int) : lowB a b * sg a b = b := Int.fdiv_mul_cancel (sg_dvd_right a b)
theorem lowB_pos {a b : Int} (hb : b ≠ 0) : 0 < lowB a b := by
  have h := lowB_mul a b
  have hg := gcd_pos (a := a) hb
  have hs : (0 < b ∧ 0 < sg a b) ∨ (b < 0 ∧ sg a b < 0) := by
    unfold sg
    split <;> omega
  rcases hs with ⟨h1, h2⟩ | ⟨h1, h2⟩
  · rcases Int.lt_trichotomy (lowB a b) 0 with h3 | h3 | h3
    · have := Int.mul_neg_of_neg_of_pos h3 h2
      omega
    · rw [h3] at h; omega
    · exact h3
  · rcases Int.lt_trichotomy (lowB a b) 0 with h3 | h3 | h3
    · have := Int.mul_pos_of_neg_of_neg h3 h2
      omega
    · rw [h3] at h; omega
    · exact h3
theorem sg_abs (a b : Int) : (sg a b).natAbs = Nat.gcd a.natAbs b.natAbs := by
  unfold sg
  split <;> omega
theorem low_coprime {a b : Int} (hb : b ≠ 0) : Nat.gcd (lowT a b).natAbs (lowB a b).natAbs = 1 := by
  have h1 : (lowT a b).natAbs * (sg a b).natAbs = a.natAbs := by rw [← Int.natAbs_mul, lowT_mul]
  have h2 : (lowB a b).natAbs * (sg a b).natAbs = b.natAbs := by rw [← Int.natAbs_mul, lowB_mul]
  have hg := gcd_pos (a := a) hb
  have h3 : Nat.gcd ((lowT a b).natAbs * (sg a b).natAbs) ((lowB a b).natAbs * (sg a b).natAbs) = (sg a b).natAbs := by
    rw [h1, h2, sg_abs]
  rw [Nat.gcd_mul_right] at h3
  rw [sg_abs] at h3
  exact Nat.eq_of_mul_eq_mul_right hg (by rw [h3, Nat.one_mul])
theorem same_of {t b t' b' : Int} (hb : 0 < b) (hb' : 0 < b') (h : t * b' = t' * b) (c : Nat.gcd t.natAbs b.natAbs = 1) (c' : Nat.gcd t'.natAbs b'.natAbs = 1) : t = t' ∧ b = b' := by
  have e : t.natAbs * b'.natAbs = t'.natAbs * b.natAbs := by rw [← Int.natAbs_mul, ← Int.natAbs_mul, h]
  have d1 : b.natAbs ∣ b'.natAbs := by
    have : b.natAbs ∣ t.natAbs * b'.natAbs := ⟨t'.natAbs, by rw [e, Nat.mul_comm]⟩
    exact Nat.Coprime.dvd_of_dvd_mul_left (by rw [Nat.Coprime, Nat.gcd_comm]; exact c) this
  have d2 : b'.natAbs ∣ b.natAbs := by
    have : b'.natAbs ∣ t'.natAbs * b.natAbs := ⟨t.natAbs, by rw [← e, Nat.mul_comm]⟩
    exact Nat.Coprime.dvd_of_dvd_mul_left (by rw [Nat.Coprime, Nat.gcd_comm]; exact c') this
  have eb : b = b' := by
    have := Nat.dvd_antisymm d1 d2
    omega
  refine ⟨?_, eb⟩
  rw [← eb] at h
  exact Int.eq_of_mul_eq_mul_right (by omega) h
/-- fractions of one number have one form -/
theorem low_eq {p q p' q' : Int} (hq : q ≠ 0) (hq' : q' ≠ 0) (h : p * q' = p' * q) : lowT p q = lowT p' q' ∧ lowB p q = lowB p' q' := by
  refine same_of (lowB_pos hq) (lowB_pos hq') ?_ (low_coprime hq) (low_coprime hq')
  have h1 := lowT_mul p q
  have h2 := lowB_mul p q
  have h3 := lowT_mul p' q'
  have h4 := lowB_mul p' q'
  have g1 := sg_ne (a := p) hq
  have g2 := sg_ne (a := p') hq'
  have e : (lowT p q * lowB p' q') * (sg p q * sg p' q') = (lowT p' q' * lowB p q) * (sg p q * sg p' q') := by
    have e1 : (lowT p q * lowB p' q') * (sg p q * sg p' q') = (lowT p q * sg p q) * (lowB p' q' * sg p' q') := by grind
    have e2 : (lowT p' q' * lowB p q) * (sg p q * sg p' q') = (lowT p' q' * sg p' q') * (lowB p q * sg p q) := by grind
    rw [e1, e2, h1, h2, h3, h4, h]
  exact Int.eq_of_mul_eq_mul_right (Int.mul_ne_zero g1 g2) e
theorem low_iff {p q p' q' : Int} (hq : q ≠ 0) (hq' : q' ≠ 0) : (lowT p q = lowT p' q' ∧ lowB p q = lowB p' q') ↔ p * q' = p' * q := by
  refine ⟨fun ⟨h1, h2⟩ => ?_, low_eq hq hq'⟩
  have e1 := lowT_mul p q
  have e2 := lowB_mul p q
  have e3 := lowT_mul p' q'
  have e4 := lowB_mul p' q'
  rw [h1] at e1
  rw [h2] at e2
  rw [← e1, ← e2]
  rw [show p' * (lowB p' q' * sg p q) = (p' * lowB p' q') * sg p q by grind]
  have e5 : lowT p' q' * q' = p' * lowB p' q' := by
    calc lowT p' q' * q' = lowT p' q' * (lowB p' q' * sg p' q') := by rw [e4]
      _ = (lowT p' q' * sg p' q') * lowB p' q' := by grind
      _ = p' * lowB p' q' := by rw [e3]
  rw [← e5]
  grind
/-- already in lowest terms -/
theorem low_self {t b : Int} (hb : 0 < b) (c : Nat.gcd t.natAbs b.natAbs = 1) : lowT t b = t ∧ lowB t b = b :=
  same_of (lowB_pos (by omega)) hb (by
    have h1 := lowT_mul t b
    have h2 := lowB_mul t b
    have g := sg_ne (a := t) (b := b) (by omega)
    have e : (lowT t b * b) * sg t b = (t * lowB t b) * sg t b := by
      calc (lowT t b * b) * sg t b = (lowT t b * sg t b) * b := by grind
        _ = t * b := by rw [h1]
        _ = t * (lowB t b * sg t b) := by rw [h2]
        _ = (t * lowB t b) * sg t b := by grind
    exact Int.eq_of_mul_eq_mul_right g e) (low_coprime (by omega)) c
/-- what is cross-multiplied by lowest terms -/
theorem low_cross {p q : Int} : lowT p q * q = p * lowB p q := by
  have h1 := lowT_mul p q
  have h2 := lowB_mul p q
  calc lowT p q * q = lowT p q * (lowB p q * sg p q) := by rw [h2]
    _ = (lowT p q * sg p q) * lowB p q := by grind
    _ = p * lowB p q := by rw [h1]
/-- order -/
theorem lt_mul_pos {x y k : Int} (hk : 0 < k) : x * k < y * k ↔ x < y := ⟨fun h => Int.lt_of_mul_lt_mul_right h (Int.le_of_lt hk), fun h => Int.mul_lt_mul_of_pos_right h hk⟩
theorem less_low {p q p' q' : Int} (hq : 0 < q) (hq' : 0 < q') : lowT p q * lowB p' q' < lowT p' q' * lowB p q ↔ p * q' < p' * q := by
  have b1 := lowB_pos (a := p) (b := q) (by omega)
  have b2 := lowB_pos (a := p') (b := q') (by omega)
  have c1 := low_cross (p := p) (q := q)
  have c2 := low_cross (p := p') (q := q')
  have hk : 0 < q * q' := Int.mul_pos hq hq'
  have hl : 0 < lowB p q * lowB p' q' := Int.mul_pos b1 b2
  rw [← lt_mul_pos hk, ← lt_mul_pos (x := p * q') hl]
  have e1 : lowT p q * lowB p' q' * (q * q') = p * q' * (lowB p q * lowB p' q') := by
    calc lowT p q * lowB p' q' * (q * q') = (lowT p q * q) * (lowB p' q' * q') := by grind
      _ = (p * lowB p q) * (lowB p' q' * q') := by rw [c1]
      _ = p * q' * (lowB p q * lowB p' q') := by grind
  have e2 : lowT p' q' * lowB p q * (q * q') = p' * q * (lowB p q * lowB p' q') := by
    calc lowT p' q' * lowB p q * (q * q') = (lowT p' q' * q') * (lowB p q * q) := by grind
      _ = (p' * lowB p' q') * (lowB p q * q) := by rw [c2]
      _ = p' * q * (lowB p q * lowB p' q') := by grind
  rw [e1, e2]
theorem lowT_neg {p q : Int} (hq : q ≠ 0) : lowT p q < 0 ↔ p * q < 0 := by
  have b := lowB_pos (a := p) hq
  have h1 := lowT_mul p q
  have h2 := lowB_mul p q
  have g := sg_ne (a := p) hq
  have hs : 0 < sg p q * sg p q := by
    rcases Int.lt_or_gt_of_ne g with h | h
    · exact Int.mul_pos_of_neg_of_neg h h
    · exact Int.mul_pos h h
  have e : p * q = lowT p q * (lowB p q * (sg p q * sg p q)) := by
    calc p * q = (lowT p q * sg p q) * (lowB p q * sg p q) := by rw [h1, h2]
      _ = _ := by grind
  have hk := Int.mul_pos b hs
  have := lt_mul_pos (x := lowT p q) (y := 0) hk
  rw [Int.zero_mul] at this
  rw [e]
  exact this.symm
theorem lowT_pos {p q : Int} (hq : q ≠ 0) : 0 < lowT p q ↔ 0 < p * q := by
  have b := lowB_pos (a := p) hq
  have h1 := lowT_mul p q
  have h2 := lowB_mul p q
  have g := sg_ne (a := p) hq
  have hs : 0 < sg p q * sg p q := by
    rcases Int.lt_or_gt_of_ne g with h | h
    · exact Int.mul_pos_of_neg_of_neg h h
    · exact Int.mul_pos h h
  have e : p * q = lowT p q * (lowB p q * (sg p q * sg p q)) := by
    calc p * q = (lowT p q * sg p q) * (lowB p q * sg p q) := by rw [h1, h2]
      _ = _ := by grind
  have hk := Int.mul_pos b hs
  have := lt_mul_pos (x := 0) (y := lowT p q) hk
  rw [Int.zero_mul] at this
  rw [e]
  exact this.symm

/-! what the law puts beside what the program tells -/
section
variable {a b c d : Int}
theorem val_plus (hb : b ≠ 0) (hd : d ≠ 0) : lowT (lowT a b * lowB c d + lowT c d * lowB a b) (lowB a b * lowB c d) = lowT (a * d + c * b) (b * d) ∧
    lowB (lowT a b * lowB c d + lowT c d * lowB a b) (lowB a b * lowB c d) = lowB (a * d + c * b) (b * d) := by
  have b1 := lowB_pos (a := a) hb
  have b2 := lowB_pos (a := c) hd
  have c1 := low_cross (p := a) (q := b)
  have c2 := low_cross (p := c) (q := d)
  refine low_eq (Int.mul_ne_zero (by omega) (by omega)) (Int.mul_ne_zero hb hd) ?_
  generalize lowT a b = x at *
  generalize lowB a b = y at *
  generalize lowT c d = z at *
  generalize lowB c d = w at *
  grind
theorem val_minus (hb : b ≠ 0) (hd : d ≠ 0) : lowT (lowT a b * lowB c d - lowT c d * lowB a b) (lowB a b * lowB c d) = lowT (a * d - c * b) (b * d) ∧
    lowB (lowT a b * lowB c d - lowT c d * lowB a b) (lowB a b * lowB c d) = lowB (a * d - c * b) (b * d) := by
  have b1 := lowB_pos (a := a) hb
  have b2 := lowB_pos (a := c) hd
  have c1 := low_cross (p := a) (q := b)
  have c2 := low_cross (p := c) (q := d)
  refine low_eq (Int.mul_ne_zero (by omega) (by omega)) (Int.mul_ne_zero hb hd) ?_
  generalize lowT a b = x at *
  generalize lowB a b = y at *
  generalize lowT c d = z at *
  generalize lowB c d = w at *
  grind
theorem val_times (hb : b ≠ 0) (hd : d ≠ 0) : lowT (lowT a b * lowT c d) (lowB a b * lowB c d) = lowT (a * c) (b * d) ∧
    lowB (lowT a b * lowT c d) (lowB a b * lowB c d) = lowB (a * c) (b * d) := by
  have b1 := lowB_pos (a := a) hb
  have b2 := lowB_pos (a := c) hd
  have c1 := low_cross (p := a) (q := b)
  have c2 := low_cross (p := c) (q := d)
  refine low_eq (Int.mul_ne_zero (by omega) (by omega)) (Int.mul_ne_zero hb hd) ?_
  generalize lowT a b = x at *
  generalize lowB a b = y at *
  generalize lowT c d = z at *
  generalize lowB c d = w at *
  grind
theorem lowT_zero (hd : d ≠ 0) : lowT c d = 0 ↔ c = 0 := by
  have h := lowT_mul c d
  have g := sg_ne (a := c) hd
  constructor
  · intro e
    rw [e, Int.zero_mul] at h
    exact h.symm
  · intro e
    rw [e] at h ⊢
    rw [e] at g
    rcases Int.mul_eq_zero.mp h with z | z
    · exact z
    · exact absurd z g
theorem val_over (hb : b ≠ 0) (hd : d ≠ 0) (hc : c ≠ 0) : lowT (lowT a b * lowB c d) (lowB a b * lowT c d) = lowT (a * d) (b * c) ∧
    lowB (lowT a b * lowB c d) (lowB a b * lowT c d) = lowB (a * d) (b * c) := by
  have b1 := lowB_pos (a := a) hb
  have t2 : lowT c d ≠ 0 := fun e => hc ((lowT_zero hd).mp e)
  have c1 := low_cross (p := a) (q := b)
  have c2 := low_cross (p := c) (q := d)
  refine low_eq (Int.mul_ne_zero (by omega) t2) (Int.mul_ne_zero hb hc) ?_
  generalize lowT a b = x at *
  generalize lowB a b = y at *
  generalize lowT c d = z at *
  generalize lowB c d = w at *
  grind
theorem num_less (hb : b ≠ 0) (hd : d ≠ 0) : ((a * d - c * b) * (b * d) < 0 ↔ lowT a b * lowB c d < lowT c d * lowB a b) ∧ (0 < (a * d - c * b) * (b * d) ↔ lowT c d * lowB a b < lowT a b * lowB c d) := by
  have h := val_minus (a := a) (c := c) hb hd
  have b1 := lowB_pos (a := a) hb
  have b2 := lowB_pos (a := c) hd
  have hk : 0 < lowB a b * lowB c d := Int.mul_pos b1 b2
  have k1 := lowT_neg (p := a * d - c * b) (q := b * d) (Int.mul_ne_zero hb hd)
  have k2 := lowT_pos (p := a * d - c * b) (q := b * d) (Int.mul_ne_zero hb hd)
  have k3 := lowT_neg (p := lowT a b * lowB c d - lowT c d * lowB a b) (q := lowB a b * lowB c d) (by omega)
  have k4 := lowT_pos (p := lowT a b * lowB c d - lowT c d * lowB a b) (q := lowB a b * lowB c d) (by omega)
  have m1 := lt_mul_pos (x := lowT a b * lowB c d - lowT c d * lowB a b) (y := 0) hk
  have m2 := lt_mul_pos (x := 0) (y := lowT a b * lowB c d - lowT c d * lowB a b) hk
  rw [Int.zero_mul] at m1 m2
  rw [← k1, ← k2, ← h.1, k3, k4, m1, m2]
  omega
theorem val_less (hb : b ≠ 0) (hd : d ≠ 0) : (lowT (a * d - c * b) (b * d) < 0 ↔ lowT a b * lowB c d < lowT c d * lowB a b) ∧ (0 < lowT (a * d - c * b) (b * d) ↔ lowT c d * lowB a b < lowT a b * lowB c d) := by
  have k1 := lowT_neg (p := a * d - c * b) (q := b * d) (Int.mul_ne_zero hb hd)
  have k2 := lowT_pos (p := a * d - c * b) (q := b * d) (Int.mul_ne_zero hb hd)
  have := num_less (a := a) (c := c) hb hd
  rw [k1, k2]
  exact this
end
section
variable {t1 b1 t2 b2 t3 b3 : Int}
theorem ord_plus (h1 : 0 < b1) (h2 : 0 < b2) (h3 : 0 < b3) :
    lowT (t1 * b3 + t3 * b1) (b1 * b3) * lowB (t2 * b3 + t3 * b2) (b2 * b3) < lowT (t2 * b3 + t3 * b2) (b2 * b3) * lowB (t1 * b3 + t3 * b1) (b1 * b3) ↔ t1 * b2 < t2 * b1 := by
  rw [less_low (Int.mul_pos h1 h3) (Int.mul_pos h2 h3)]
  have hk : 0 < b3 * b3 := Int.mul_pos h3 h3
  rw [← lt_mul_pos (x := t1 * b2) hk]
  have e : (t1 * b3 + t3 * b1) * (b2 * b3) - t1 * b2 * (b3 * b3) = (t2 * b3 + t3 * b2) * (b1 * b3) - t2 * b1 * (b3 * b3) := by grind
  omega
theorem ord_times (h1 : 0 < b1) (h2 : 0 < b2) (h3 : 0 < b3) (ht : 0 < t3) :
    lowT (t1 * t3) (b1 * b3) * lowB (t2 * t3) (b2 * b3) < lowT (t2 * t3) (b2 * b3) * lowB (t1 * t3) (b1 * b3) ↔ t1 * b2 < t2 * b1 := by
  rw [less_low (Int.mul_pos h1 h3) (Int.mul_pos h2 h3)]
  have hk : 0 < t3 * b3 := Int.mul_pos ht h3
  rw [← lt_mul_pos (x := t1 * b2) hk]
  have e1 : t1 * t3 * (b2 * b3) = t1 * b2 * (t3 * b3) := by grind
  have e2 : t2 * t3 * (b1 * b3) = t2 * b1 * (t3 * b3) := by grind
  rw [e1, e2]
theorem ord_turned (h1 : 0 < b1) (h2 : 0 < b2) (h3 : 0 < b3) (ht : t3 < 0) :
    lowT (t2 * t3) (b2 * b3) * lowB (t1 * t3) (b1 * b3) < lowT (t1 * t3) (b1 * b3) * lowB (t2 * t3) (b2 * b3) ↔ t1 * b2 < t2 * b1 := by
  rw [less_low (Int.mul_pos h2 h3) (Int.mul_pos h1 h3)]
  have hk : 0 < (-t3) * b3 := Int.mul_pos (by omega) h3
  rw [← lt_mul_pos (x := t1 * b2) hk]
  have e1 : t2 * t3 * (b1 * b3) = -(t2 * b1 * (-t3 * b3)) := by grind
  have e2 : t1 * t3 * (b2 * b3) = -(t1 * b2 * (-t3 * b3)) := by grind
  rw [e1, e2]
  omega
theorem ord_none (h1 : 0 < b1) (h2 : 0 < b2) (h3 : 0 < b3) (ht : t3 = 0) : lowT (t1 * t3) (b1 * b3) = lowT (t2 * t3) (b2 * b3) ∧ lowB (t1 * t3) (b1 * b3) = lowB (t2 * t3) (b2 * b3) := by
  subst ht
  refine low_eq ?_ ?_ (by simp)
  · have := Int.mul_pos h1 h3
    omega
  · have := Int.mul_pos h2 h3
    omega
end
theorem lowT_one (a : Int) : lowT a 1 = a := by
  have h := lowT_mul a 1
  have e : sg a 1 = 1 := by unfold sg; simp
  rw [e] at h
  omega
theorem lowB_one (a : Int) : lowB a 1 = 1 := by
  have h := lowB_mul a 1
  have e : sg a 1 = 1 := by unfold sg; simp
  rw [e] at h
  omega
/-! sizes -/
theorem lowT_le {a b : Int} (hb : b ≠ 0) : (lowT a b).natAbs ≤ a.natAbs := by
  have h : (lowT a b).natAbs * (sg a b).natAbs = a.natAbs := by rw [← Int.natAbs_mul, lowT_mul]
  have g : 0 < (sg a b).natAbs := by have := sg_ne (a := a) hb; omega
  exact Nat.le_trans (Nat.le_mul_of_pos_right _ g) (Nat.le_of_eq h)
theorem lowB_le {a b : Int} (hb : b ≠ 0) : (lowB a b).natAbs ≤ b.natAbs := by
  have h : (lowB a b).natAbs * (sg a b).natAbs = b.natAbs := by rw [← Int.natAbs_mul, lowB_mul]
  have g : 0 < (sg a b).natAbs := by have := sg_ne (a := a) hb; omega
  exact Nat.le_trans (Nat.le_mul_of_pos_right _ g) (Nat.le_of_eq h)
theorem sg_le {a b : Int} (hb : b ≠ 0) : (sg a b).natAbs ≤ b.natAbs := by
  rw [sg_abs]
  exact Nat.le_of_dvd (by omega) (Nat.gcd_dvd_right _ _)
end K72
namespace K72
open PySem PySem.Spec PyProof.Rows L2
abbrev sWhole : Stmt := d_is_whole
abbrev sInit : Stmt := d_Share_init
abbrev sEq : Stmt := d_Share_eq
/-! ### a share on the heap -/
theorem tb_ : ¬ (("top" : Str) = "bottom") := by decide +kernel
theorem bt_ : ¬ (("bottom" : Str) = "top") := by decide +kernel
def shf (t b : Int) : List (Str × V) := putF "bottom" (.int b) (putF "top" (.int t) [])
theorem shf_top (t b : Int) : (shf t b).lookup ("top" : Str) = some (.int t) := by
  unfold shf
  rw [lookup_putF, if_neg tb_, lookup_putF, if_pos rfl]
theorem shf_bottom (t b : Int) : (shf t b).lookup ("bottom" : Str) = some (.int b) := by
  unfold shf
  rw [lookup_putF, if_pos rfl]
/-- a share t over b stands at p -/
def ShAt (C : Addr) (H : Hp) (p : Addr) (t b : Int) : Prop := ∃ dx, H p = some (.ins C dx (shf t b))
theorem ShAt.mono {C : Addr} {H H' : Hp} {p : Addr} {t b : Int} (h : ShAt C H p t b) (s : Same H H') : ShAt C H' p t b := by
  obtain ⟨dx, e⟩ := h
  exact ⟨dx, s _ _ e⟩
/-- what the top says of the program's own names -/
structure Txt (K : PySem.W.Frag) (mg : Str → Option Value) (C CN : Addr) : Prop where
  cl : Cls K C
  nT : NoAttr K C "top"
  nB : NoAttr K C "bottom"
  mgC : mg "Share" = some (.ref C)
  gcd : mg "gcd" = some (.builtin "math.gcd")
  isi : mg "isinstance" = none
  int : mg "int" = none
  bool : mg "bool" = none
  gN : mg "NoShare" = some (.ref CN)
  xN : PySem.W.excIn K CN [.type "ValueError", .type "Exception", .type "BaseException", .type "object"] "ValueError.__new__" = true
  kN : PySem.W.keepIn K (.ref CN) = true
  bN : PySem.W.subIn K (.ref CN) (.type "BaseException") = some true
  tN : PySem.W.typeIn K (.ref CN) = some (.type "type")
  eN : PySem.W.exmOne K (.ref CN) (.ref CN) = some true
/-! ### // by a divisor of either sign -/
def CDivX (_ j : Int) : Prop := j ≠ 0 ∧ j.natAbs.log2 < 9000
section
variable {X : Cx}
theorem op_fdivX : OpR X (binaryOp .FloorDiv) (rI CDivX fun i j => .int (i.fdiv j)) := opI fun i j _ _ _ _ _ hc q => floordiv_int hc.1 q (.inl (PyProof.noPylong_of_log2 hc.2))
end
theorem big_div {i j : Int} {b : Nat} (h : j ≠ 0) (hb : j.natAbs < 2 ^ b) (h0 : 0 < b) (h9 : b ≤ 9000) : CDivX i j := ⟨h, Nat.lt_of_lt_of_le (PySem.Flt.log2_lt_of h0 hb) h9⟩
theorem add_lt {i j : Int} {a : Nat} (hi : i.natAbs < 2 ^ a) (hj : j.natAbs < 2 ^ a) : (i + j).natAbs < 2 ^ (a + 1) := by
  have e : 2 ^ (a + 1) = 2 ^ a * 2 := Nat.pow_succ ..
  omega
theorem sub_lt {i j : Int} {a : Nat} (hi : i.natAbs < 2 ^ a) (hj : j.natAbs < 2 ^ a) : (i - j).natAbs < 2 ^ (a + 1) := by
  have e : 2 ^ (a + 1) = 2 ^ a * 2 := Nat.pow_succ ..
  omega
theorem pow_le {i : Int} {a b : Nat} (h : i.natAbs < 2 ^ a) (hab : a ≤ b) : i.natAbs < 2 ^ b := Nat.lt_of_lt_of_le h (Nat.pow_le_pow_right (by omega) hab)
/-! ### promises -/
def spWhole : Sp := fun vs H Q _ => ∃ i : Int, vs = [.int i] ∧ Q (.bl true) H
def spInit (C CN : Addr) : Sp := fun vs H Q E => ∃ (p dx : Addr) (t b : Int), vs = [.ref p, .int t, .int b] ∧ H p = some (.ins C dx []) ∧ t.natAbs < 2 ^ 4000 ∧ b.natAbs < 2 ^ 4000 ∧
  (b = 0 → E (.ref CN) none H) ∧ (b ≠ 0 → ∀ H' : Hp, H' p = some (.ins C dx (shf (lowT t b) (lowB t b))) → (∀ a, a ≠ p → H' a = H a) → Q .non H')
section
variable {P : Program} {w : World} {K : PySem.W.Frag} {mg : Str → Option Value} {base : Heap}
theorem scWhole : FnScope ["thing"] ["thing"] (defScope sWhole) := ⟨rfl, rfl, rfl, by decide +kernel, rfl, by decide +kernel, by decide +kernel⟩
theorem ok_whole {f C CN : Addr} {fd : FuncData} (F : Fun K "is_whole" "is_whole" sWhole f fd) (T : Txt K mg C CN) : FnOk P w K mg base CX0 1 f fd ["thing"] spWhole := by
  refine F.ok scWhole (fun vs H Q E h => ?_) (fun cdv A outer s H vs Q E hr h => ?_)
  · obtain ⟨i, rfl, _⟩ := h
    rfl
  · obtain ⟨i, rfl, k⟩ := h
    refine ⟨_, pss_one (ps_ret (pe_and (pe_callB call_isi (by rfl) T.isi (by decide +kernel) (pa_cons (pv 0) (pa_cons (pe_bltn (v := .ty "int") (by rfl) T.int (by decide +kernel) rfl) pa_nil)))
      (pe_one (pe_not (pe_callB call_isi (by rfl) T.isi (by decide +kernel) (pa_cons (pv 0) (pa_cons (pe_bltn (v := .ty "bool") (by rfl) T.bool (by decide +kernel) rfl) pa_nil))))))), ?_⟩
    refine ⟨_, rfl, _, _, _, _, true, rfl, ClsV.ty _, TyX.base (TyOf.int _), kit_ty (by decide +kernel), true, rfl, iteT ?_⟩
    exact ⟨_, rfl, _, _, _, _, false, rfl, ClsV.ty _, TyX.base (TyOf.int _), kit_ty (by decide +kernel), false, rfl, k⟩

theorem scInit : FnScope ["self", "top", "bottom", "common"] ["self", "top", "bottom"] (defScope sInit) := ⟨rfl, rfl, rfl, by decide +kernel, rfl, by decide +kernel, by decide +kernel⟩
theorem ok_init {f fW C CN : Addr} {fd fdW : FuncData} (F : FunD K "__init__" "Share.__init__" (defArgs sInit) (defBody sInit) (defScope sInit) [.int 1] [] f fd) (T : Txt K mg C CN)
    (GW : FnOk P w K mg base CX0 1 fW fdW ["thing"] spWhole) (mW : mg "is_whole" = some (.ref fW)) (kW : PySem.W.keepIn K (.ref fW) = true) (bW : Binds K fdW ["thing"] []) :
    FnOk P w K mg base (L2.CX P w) 2 f fd ["self", "top", "bottom"] (spInit C CN) := by
  refine FunD.ok (N := ["self", "top", "bottom", "common"]) F scInit (fun vs H Q E h => ?_) (fun cdv A outer s H vs Q E hr h => ?_)
  · obtain ⟨p, dx, t, b, rfl, _⟩ := h
    rfl
  · obtain ⟨p, dx, t, b, rfl, hp, st, sb, ke, kq⟩ := h
    refine ⟨_, pss_cons (ps_if (PW.pt (pw_or (pt_not (pt_val (pe_call GW hr rfl mW kW bW .nil pass0 (pa_cons (pv 1) pa_nil)))) (pw_or (pt_not (pt_val (pe_call GW hr rfl mW kW bW .nil pass0 (pa_cons (pv 2) pa_nil)))) (pw_or1 (pt_cmpR op_eq (pv 2) pe_int (nomark _))))))
        (pss_one (ps_raise rfl (takes_of rfl rfl rfl rfl) (pmk_own PySem.F.excBase_ValueError T.xN T.gN T.kN (raises_own T.bN T.tN) (by exact rfl)))) pss_nil)
      (pss_cons (ps_set (i := 3) scInit.nd rfl (Or.inl rfl) (pe_callBfun cr_gcd rfl T.gcd (pa_cons (pv 1) (pa_cons (pv 2) pa_nil))))
      (pss_cons (ps_if (pt_cmpR op_lt (pv 2) pe_int (nomark _)) (pss_one (ps_set (i := 3) scInit.nd rfl (Or.inl rfl) (pe_un un_neg (pv 3)))) pss_nil)
      (pss_cons (ps_fld (pv 0) (pe_op op_fdivX (pv 1) (pv 3)) rfl)
      (pss_one (ps_fld (pv 0) (pe_op op_fdivX (pv 2) (pv 3)) rfl))))), ?_⟩
    refine ⟨_, rfl, t, rfl, true, rfl, iteF ?_⟩
    refine ⟨_, rfl, b, rfl, true, rfl, iteF ?_⟩
    refine ⟨_, rfl, rfl, _, rfl, ?_⟩
    refine ite2 (fun h0 => ?_) (fun h0 => ?_)
    · exact ke (by simpa using h0)
    · have hb : b ≠ 0 := fun e => h0 (by rw [e]; exact decide_eq_true rfl)
      have gs : (sg t b).natAbs < 2 ^ 4000 := Nat.lt_of_le_of_lt (sg_le hb) sb
      refine ⟨_, rfl, _, rfl, t, b, rfl, ?_⟩
      refine ⟨_, rfl, _, _, rfl, rfl, _, rfl, ?_⟩
      refine ite2 (fun hn => ?_) (fun hn => ?_)
      · have hn : b < 0 := of_decide_eq_true hn
        have e : -((Nat.gcd t.natAbs b.natAbs : Nat) : Int) = sg t b := by unfold sg; rw [if_pos hn]
        have g0 : -((Nat.gcd t.natAbs b.natAbs : Nat) : Int) ≠ 0 := by rw [e]; exact sg_ne hb
        have gd : ∀ i : Int, CDivX i (-((Nat.gcd t.natAbs b.natAbs : Nat) : Int)) := fun i => big_div (b := 4000) g0 (by rw [e]; exact gs) (by decide) (by decide)
        refine ⟨_, rfl, _, rfl, ?_⟩
        refine ⟨_, rfl, _, rfl, _, _, rfl, rfl, gd _, _, rfl, p, C, dx, _, rfl, hp, T.cl, T.nT, (by show 0 < 1000; decide), ?_⟩
        refine ⟨_, rfl, _, rfl, _, _, rfl, rfl, gd _, _, rfl, p, C, dx, _, rfl, upd_same, T.cl, T.nB, (by show 1 < 1000; decide), ?_⟩
        refine kq hb _ (Eq.trans upd_same ?_) (fun a ha => by rw [upd_ne ha, upd_ne ha])
        rw [e]
        rfl
      · have hn : ¬ b < 0 := fun q => hn (decide_eq_true q)
        have e : ((Nat.gcd t.natAbs b.natAbs : Nat) : Int) = sg t b := by unfold sg; rw [if_neg hn]
        have g0 : ((Nat.gcd t.natAbs b.natAbs : Nat) : Int) ≠ 0 := by rw [e]; exact sg_ne hb
        have gd : ∀ i : Int, CDivX i ((Nat.gcd t.natAbs b.natAbs : Nat) : Int) := fun i => big_div (b := 4000) g0 (by rw [e]; exact gs) (by decide) (by decide)
        refine ⟨_, rfl, _, rfl, _, _, rfl, rfl, gd _, _, rfl, p, C, dx, _, rfl, hp, T.cl, T.nT, (by show 0 < 1000; decide), ?_⟩
        refine ⟨_, rfl, _, rfl, _, _, rfl, rfl, gd _, _, rfl, p, C, dx, _, rfl, upd_same, T.cl, T.nB, (by show 1 < 1000; decide), ?_⟩
        refine kq hb _ (Eq.trans upd_same ?_) (fun a ha => by rw [upd_ne ha, upd_ne ha])
        rw [e]
        rfl

/-- what is made stands beside what stood -/
theorem made_same {H H' : Hp} {x dx C : Addr} {o : HO} (nx : H x = none) (nd : H dx = none) (k : ∀ a, a ≠ x → H' a = (upd (upd H dx (.own x)) x o) a) : Same H H' := fun a u e => by
  have a1 : a ≠ x := fun z => by rw [z, nx] at e; cases e
  have a2 : a ≠ dx := fun z => by rw [z, nd] at e; cases e
  rw [k a a1, upd_ne a1, upd_ne a2]
  exact e
end
end K72

namespace K72
open PySem PySem.Spec PyProof.Rows L2
/-! ### a share as the number that it stands for -/
theorem rat_frac (q : Rat) : (q.num : Rat) / ((q.den : Int) : Rat) = q := by
  have h := Rat.num_divInt_den q
  rw [Rat.divInt_eq_div] at h
  exact h
theorem icast_ne {b : Int} (h : b ≠ 0) : (b : Rat) ≠ 0 := fun z => h (Rat.intCast_inj.mp (by rw [z]; rfl))
theorem den_pos (q : Rat) : (0 : Int) < (q.den : Int) := by
  have := q.den_nz
  omega
theorem low_rat {t b : Int} (hb : b ≠ 0) : lowT t b = ((t : Rat) / (b : Rat)).num ∧ lowB t b = ((((t : Rat) / (b : Rat)).den : Nat) : Int) := by
  have hq := rat_frac ((t : Rat) / (b : Rat))
  have hd := den_pos ((t : Rat) / (b : Rat))
  have hc := ((t : Rat) / (b : Rat)).reduced
  generalize hx : (t : Rat) / (b : Rat) = q at *
  refine same_of (lowB_pos hb) hd ?_ (low_coprime hb) hc
  have nb := icast_ne hb
  have nd := icast_ne (show ((q.den : Nat) : Int) ≠ 0 by omega)
  have cross : t * (q.den : Int) = q.num * b := by
    refine Rat.intCast_inj.mp ?_
    rw [Rat.intCast_mul, Rat.intCast_mul]
    have e : (t : Rat) / (b : Rat) = (q.num : Rat) / ((q.den : Int) : Rat) := by rw [hx, hq]
    grind
  have h1 := lowT_mul t b
  have h2 := lowB_mul t b
  have g := sg_ne (a := t) hb
  refine Int.eq_of_mul_eq_mul_right g ?_
  calc lowT t b * (q.den : Int) * sg t b = (lowT t b * sg t b) * (q.den : Int) := by rw [Int.mul_assoc, Int.mul_comm (q.den : Int), ← Int.mul_assoc]
    _ = t * (q.den : Int) := by rw [h1]
    _ = q.num * b := cross
    _ = q.num * (lowB t b * sg t b) := by rw [h2]
    _ = q.num * lowB t b * sg t b := by rw [Int.mul_assoc]
/-- the share of q stands at p -/
def ShQ (C : Addr) (H : Hp) (p : Addr) (q : Rat) : Prop := ShAt C H p q.num (q.den : Int)
theorem ShQ.mono {C : Addr} {H H' : Hp} {p : Addr} {q : Rat} (h : ShQ C H p q) (s : Same H H') : ShQ C H' p q := ShAt.mono h s
theorem shq_low {C : Addr} {H : Hp} {p : Addr} {t b : Int} (hb : b ≠ 0) (h : ShAt C H p (lowT t b) (lowB t b)) : ShQ C H p ((t : Rat) / (b : Rat)) := by
  unfold ShQ
  rw [← (low_rat hb).1, ← (low_rat hb).2]
  exact h
/-- below 2 ^ k, both top and bottom -/
def Sz (k : Nat) (q : Rat) : Prop := q.num.natAbs < 2 ^ k ∧ ((q.den : Nat) : Int).natAbs < 2 ^ k
theorem Sz.up {j k : Nat} {q : Rat} (h : Sz j q) (e : j ≤ k) : Sz k q := ⟨pow_le h.1 e, pow_le h.2 e⟩
theorem sz_div {k : Nat} {t b : Int} (hb : b ≠ 0) (ht : t.natAbs < 2 ^ k) (hk : b.natAbs < 2 ^ k) : Sz k ((t : Rat) / (b : Rat)) := by
  unfold Sz
  rw [← (low_rat hb).1, ← (low_rat hb).2]
  exact ⟨Nat.lt_of_le_of_lt (lowT_le hb) ht, Nat.lt_of_le_of_lt (lowB_le hb) hk⟩
theorem mul_lt {i j : Int} {a b : Nat} (ha : i.natAbs < 2 ^ a) (hb : j.natAbs < 2 ^ b) : (i * j).natAbs < 2 ^ (a + b) := by
  rw [Int.natAbs_mul, Nat.pow_add]
  exact Nat.mul_lt_mul_of_lt_of_lt ha hb
theorem rat_mul (x y : Rat) : ((x.num * y.num : Int) : Rat) / (((x.den : Int) * (y.den : Int) : Int) : Rat) = x * y := by
  have a := rat_frac x
  have b := rat_frac y
  have n1 := icast_ne (show ((x.den : Nat) : Int) ≠ 0 from by have := den_pos x; omega)
  have n2 := icast_ne (show ((y.den : Nat) : Int) ≠ 0 from by have := den_pos y; omega)
  rw [Rat.intCast_mul, Rat.intCast_mul]
  generalize hx : (x.num : Rat) = xn at *
  generalize hy : (y.num : Rat) = yn at *
  generalize ((x.den : Int) : Rat) = xd at *
  generalize ((y.den : Int) : Rat) = yd at *
  subst a b
  grind
theorem rat_add (x y : Rat) : ((x.num * (y.den : Int) + y.num * (x.den : Int) : Int) : Rat) / (((x.den : Int) * (y.den : Int) : Int) : Rat) = x + y := by
  have a := rat_frac x
  have b := rat_frac y
  have n1 := icast_ne (show ((x.den : Nat) : Int) ≠ 0 from by have := den_pos x; omega)
  have n2 := icast_ne (show ((y.den : Nat) : Int) ≠ 0 from by have := den_pos y; omega)
  rw [Rat.intCast_mul, Rat.intCast_add, Rat.intCast_mul, Rat.intCast_mul]
  generalize hx : (x.num : Rat) = xn at *
  generalize hy : (y.num : Rat) = yn at *
  generalize ((x.den : Int) : Rat) = xd at *
  generalize ((y.den : Int) : Rat) = yd at *
  subst a b
  grind
theorem rat_sub (x y : Rat) : ((x.num * (y.den : Int) - y.num * (x.den : Int) : Int) : Rat) / (((x.den : Int) * (y.den : Int) : Int) : Rat) = x - y := by
  have a := rat_frac x
  have b := rat_frac y
  have n1 := icast_ne (show ((x.den : Nat) : Int) ≠ 0 from by have := den_pos x; omega)
  have n2 := icast_ne (show ((y.den : Nat) : Int) ≠ 0 from by have := den_pos y; omega)
  rw [Rat.intCast_mul, Rat.intCast_sub, Rat.intCast_mul, Rat.intCast_mul]
  generalize hx : (x.num : Rat) = xn at *
  generalize hy : (y.num : Rat) = yn at *
  generalize ((x.den : Int) : Rat) = xd at *
  generalize ((y.den : Int) : Rat) = yd at *
  subst a b
  grind
theorem sz_mul {a b : Nat} {x y : Rat} (hx : Sz a x) (hy : Sz b y) : Sz (a + b) (x * y) := by
  rw [← rat_mul]
  exact sz_div (Int.mul_ne_zero (by have := den_pos x; omega) (by have := den_pos y; omega)) (mul_lt hx.1 hy.1) (mul_lt hx.2 hy.2)
theorem sz_add {a b : Nat} {x y : Rat} (hx : Sz a x) (hy : Sz b y) : Sz (a + b + 1) (x + y) := by
  rw [← rat_add]
  refine sz_div (Int.mul_ne_zero (by have := den_pos x; omega) (by have := den_pos y; omega)) (add_lt (mul_lt hx.1 hy.2) ?_) (pow_le (mul_lt hx.2 hy.2) (by omega))
  rw [Nat.add_comm]
  exact mul_lt hy.1 hx.2
theorem sz_sub {a b : Nat} {x y : Rat} (hx : Sz a x) (hy : Sz b y) : Sz (a + b + 1) (x - y) := by
  rw [← rat_sub]
  refine sz_div (Int.mul_ne_zero (by have := den_pos x; omega) (by have := den_pos y; omega)) (sub_lt (mul_lt hx.1 hy.2) ?_) (pow_le (mul_lt hx.2 hy.2) (by omega))
  rw [Nat.add_comm]
  exact mul_lt hy.1 hx.2
theorem rat_lt (x y : Rat) : decide (x.num * (y.den : Int) < y.num * (x.den : Int)) = decide (x < y) := decide_eq_decide.mpr (Rat.lt_iff x y).symm
theorem rat_eq (x y : Rat) : (decide (x.num = y.num) && decide ((x.den : Int) = (y.den : Int))) = decide (x = y) := by
  rw [← Bool.decide_and]
  refine decide_eq_decide.mpr ⟨fun h => Rat.ext h.1 (by have := h.2; omega), fun h => by rw [h]; exact ⟨rfl, rfl⟩⟩
end K72

namespace K72
open PySem PySem.Spec PyProof.Rows L2
/-! ### two lists side by side -/
structure All2 {α β : Type} (R : α → β → Prop) (as : List α) (bs : List β) : Prop where
  len : as.length = bs.length
  all : ∀ (i : Nat) (a : α) (b : β), as[i]? = some a → bs[i]? = some b → R a b
theorem All2.nil {α β : Type} {R : α → β → Prop} : All2 R [] [] := ⟨rfl, fun i a b h _ => by simp at h⟩
theorem All2.mono {α β : Type} {R S : α → β → Prop} {as : List α} {bs : List β} (h : All2 R as bs) (f : ∀ a b, a ∈ as → b ∈ bs → R a b → S a b) : All2 S as bs :=
  ⟨h.len, fun i a b ha hb => f a b (List.mem_of_getElem? ha) (List.mem_of_getElem? hb) (h.all i a b ha hb)⟩
theorem All2.snoc {α β : Type} {R : α → β → Prop} {as : List α} {bs : List β} {a : α} {b : β} (h : All2 R as bs) (r : R a b) : All2 R (as ++ [a]) (bs ++ [b]) := by
  refine ⟨by rw [List.length_append, List.length_append, h.len]; rfl, fun i x y hx hy => ?_⟩
  by_cases c : i < as.length
  · rw [List.getElem?_append_left c] at hx
    rw [List.getElem?_append_left (by rw [← h.len]; exact c)] at hy
    exact h.all i x y hx hy
  · rw [List.getElem?_append_right (by omega)] at hx
    rw [List.getElem?_append_right (by rw [← h.len]; omega)] at hy
    have c0 : i - as.length = 0 := by
      have := (List.getElem?_eq_some_iff.mp hx).1
      simp at this
      omega
    rw [← h.len, c0] at hy
    rw [c0] at hx
    have e1 : a = x := by simpa using hx
    have e2 : b = y := by simpa using hy
    subst e1 e2
    exact r
theorem All2.one {α β : Type} {R : α → β → Prop} {a : α} {b : β} (r : R a b) : All2 R [a] [b] := All2.nil.snoc r
theorem All2.two {α β : Type} {R : α → β → Prop} {a a' : α} {b b' : β} (r : R a b) (r' : R a' b') : All2 R [a, a'] [b, b'] := (All2.one r).snoc r'
theorem All2.take {α β : Type} {R : α → β → Prop} {as : List α} {bs : List β} (h : All2 R as bs) (n : Nat) : All2 R (as.take n) (bs.take n) :=
  ⟨by rw [List.length_take, List.length_take, h.len], fun i a b ha hb => by
    rw [List.getElem?_take] at ha hb
    split at ha
    · rename_i c
      rw [if_pos c] at hb
      exact h.all i a b ha hb
    · cases ha⟩
theorem All2.rev {α β : Type} {R : α → β → Prop} {as : List α} {bs : List β} (h : All2 R as bs) : All2 R as.reverse bs.reverse :=
  ⟨by rw [List.length_reverse, List.length_reverse, h.len], fun i a b ha hb => by
    have hi : i < as.length := by
      have := (List.getElem?_eq_some_iff.mp ha).1
      simpa using this
    rw [List.getElem?_reverse hi] at ha
    rw [List.getElem?_reverse (by rw [← h.len]; exact hi), ← h.len] at hb
    exact h.all _ a b ha hb⟩
theorem same1 {H : Hp} {p : Addr} {o : HO} (h : H p = none) : Same H (upd H p o) := fun b u e => by rw [upd_ne (ne_of_none e h)]; exact e
theorem Same.tup {K : PySem.W.Frag} {H H' : Hp} {a : Addr} {xs : List V} (e : Same H H') (h : SqT K H a xs) : SqT K H' a xs := SqT.ext h e
theorem at_k {xs : List V} {k : Int} {v : V} (h0 : 0 ≤ k) (h : xs[k.toNat]? = some v) : atI xs k = some v := by
  have e := atI_nat h
  rw [Int.toNat_of_nonneg h0] at e
  exact e
/-- a def at hand: its promise, its name, how it is called -/
structure At (P : Program) (w : World) (K : PySem.W.Frag) (mg : Str → Option Value) (base : Heap) (CX : CXT) (k : Nat) (x : Str) (ps : List Str) (sp : Sp) (f : Addr) (fd : FuncData) : Prop where
  G : FnOk P w K mg base CX k f fd ps sp
  m : mg x = some (.ref f)
  k : PySem.W.keepIn K (.ref f) = true
  b : Binds K fd ps []
end K72

namespace K72
open PySem PySem.Spec PyProof.Rows L2
/-! ### lcm of great numbers, and what comes together -/
theorem sum_le : ∀ (l : List Int) (B : Nat), (∀ x ∈ l, x.natAbs ≤ B) → l.sum.natAbs ≤ l.length * B
  | [], B, _ => by simp
  | a :: l, B, h => by
    have h1 := h a (by simp)
    have h2 := sum_le l B (fun x hx => h x (by simp [hx]))
    rw [List.sum_cons, List.length_cons, Nat.succ_mul]
    have := Int.natAbs_add_le a l.sum
    omega
section
variable {X : Cx}
def rLcmW : List V → Hp → VK → Prop := fun xs H Q => ∃ a b : Int, xs = [.int a, .int b] ∧ a.natAbs < 2 ^ 4000 ∧ b.natAbs < 2 ^ 4000 ∧ Q (.int ((Nat.lcm a.natAbs b.natAbs : Nat) : Int)) H
theorem log_le {n k : Nat} (h0 : 0 < k) (h : n < 2 ^ k) : n.log2 < k := PySem.Flt.log2_lt_of h0 h
theorem cr_lcmW : CallR X (.builtin "math.lcm") rLcmW := by
  intro pins s σ H vs us Q I r h
  obtain ⟨a, b, rfl, ha, hb, q⟩ := h
  obtain ⟨t, u, rfl⟩ := Vals.int2 r
  have l1 : (max 1 a.natAbs).log2 < 4000 := log_le (by decide) (by have : 1 < 2 ^ 4000 := Nat.one_lt_two_pow (by decide); omega)
  have l2 : (max a.natAbs b.natAbs).log2 < 4000 := log_le (by decide) (by omega)
  have sz : ((((Nat.lcm 1 a.natAbs).lcm b.natAbs : Nat) : Int)).natAbs.log2 < bitsLine := by
    rw [PySem.W.mc_lcm_one, Int.natAbs_natCast]
    have m : a.natAbs.lcm b.natAbs < 2 ^ 8000 := by
      refine Nat.lt_of_le_of_lt (PySem.W.mc_lcm_le _ _) ?_
      rw [show 8000 = 4000 + 4000 from rfl, Nat.pow_add]
      exact Nat.mul_lt_mul_of_lt_of_lt ha hb
    exact Nat.lt_of_lt_of_le (log_le (by decide) m) (by decide)
  refine call_function_meets PySem.W.MGF.kind_lcm PySem.W.MGF.plain_lcm PySem.W.MGF.entry_lcm (PySem.W.MGF.args_lcm _ _) (PySem.W.mg_run_lcm a t b u (by omega) (by omega) sz).meets ?_
  rw [PySem.W.mc_lcm_one]
  exact ⟨.int _, H, I.tok _, ⟨_, rfl⟩, q⟩
end
/-- a list of shares at ps -/
def ShQs (C : Addr) (H : Hp) (ps : List Addr) (ws : List Rat) : Prop := All2 (ShQ C H) ps ws
theorem ShQs.mono {C : Addr} {H H' : Hp} {ps : List Addr} {ws : List Rat} (h : ShQs C H ps ws) (s : Same H H') : ShQs C H' ps ws := All2.mono h fun _ _ _ _ r => r.mono s
/-- what is small enough to be added: all bottoms go into M -/
structure Tots (ws : List Rat) (M : Nat) : Prop where
  pos : 0 < M
  lt : M < 2 ^ 2000
  den : ∀ q ∈ ws, q.den ∣ M
  num : ∀ q ∈ ws, q.num.natAbs < 2 ^ 1500
  few : ws.length ≤ 100
def lcmQ (ws : List Rat) : Nat := ws.foldl (fun m q => Nat.lcm m q.den) 1
theorem lcmQ_next {ws : List Rat} {i : Nat} {q : Rat} (h : ws[i]? = some q) : lcmQ (ws.take (i + 1)) = Nat.lcm (lcmQ (ws.take i)) q.den := by
  obtain ⟨hi, e⟩ := List.getElem?_eq_some_iff.mp h
  unfold lcmQ
  rw [List.take_succ_eq_append_getElem hi, List.foldl_append, e]
  rfl
theorem lcmQ_dvd {ws : List Rat} {M : Nat} (h : Tots ws M) : ∀ i, i ≤ ws.length → lcmQ (ws.take i) ∣ M
  | 0, _ => by
    rw [List.take_zero]
    exact Nat.one_dvd _
  | i + 1, hi => by
    have hx : ws[i]? = some ws[i] := List.getElem?_eq_getElem (by omega)
    rw [lcmQ_next hx]
    exact Nat.lcm_dvd (lcmQ_dvd h i (by omega)) (h.den _ (List.getElem_mem _))
theorem lcmQ_all {ws : List Rat} : ∀ i, i ≤ ws.length → ∀ q ∈ ws.take i, q.den ∣ lcmQ (ws.take i)
  | 0, _, q, hq => by simp at hq
  | i + 1, hi, q, hq => by
    have hx : ws[i]? = some ws[i] := List.getElem?_eq_getElem (by omega)
    rw [lcmQ_next hx]
    rw [List.take_succ_eq_append_getElem (by omega)] at hq
    rcases List.mem_append.mp hq with z | z
    · exact Nat.dvd_trans (lcmQ_all i (by omega) q z) (Nat.dvd_lcm_left _ _)
    · rw [List.mem_singleton.mp z]
      exact Nat.dvd_lcm_right _ _
theorem lcmQ_lt {ws : List Rat} {M : Nat} (h : Tots ws M) {i : Nat} (hi : i ≤ ws.length) : 0 < lcmQ (ws.take i) ∧ lcmQ (ws.take i) < 2 ^ 2000 := by
  have d := lcmQ_dvd h i hi
  exact ⟨Nat.pos_of_dvd_of_pos d h.pos, Nat.lt_of_le_of_lt (Nat.le_of_dvd h.pos d) h.lt⟩
/-- by a common bottom -/
def numS (ws : List Rat) (D : Nat) : Int := (ws.map fun q => q.num * ((D : Int) / (q.den : Int))).sum
theorem numS_is {D : Nat} (hD : 0 < D) : ∀ ws : List Rat, (∀ q ∈ ws, q.den ∣ D) → ((numS ws D : Int) : Rat) / ((D : Int) : Rat) = ws.sum
  | [], _ => by
    show ((0 : Int) : Rat) / _ = (0 : Rat)
    rw [show ((0 : Int) : Rat) = 0 from rfl]
    grind
  | q :: r, h => by
    have ih := numS_is hD r (fun x hx => h x (by simp [hx]))
    obtain ⟨k, hk⟩ := h q (by simp)
    have hd := den_pos q
    have nd := icast_ne (show ((q.den : Nat) : Int) ≠ 0 by omega)
    have nD := icast_ne (show ((D : Nat) : Int) ≠ 0 by omega)
    have fr := rat_frac q
    have e : ((D : Int) / (q.den : Int)) = (k : Int) := by
      rw [hk, Int.natCast_mul, Int.mul_ediv_cancel_left _ (by omega)]
    have eD : ((D : Int) : Rat) = ((q.den : Int) : Rat) * ((k : Int) : Rat) := by rw [← Rat.intCast_mul, ← Int.natCast_mul, ← hk]
    show (((q.num * ((D : Int) / (q.den : Int)) + numS r D : Int)) : Rat) / ((D : Int) : Rat) = q + r.sum
    rw [e, Rat.intCast_add, Rat.intCast_mul, ← ih]
    generalize hq : (q.num : Rat) = a at *
    generalize ((q.den : Int) : Rat) = b at *
    generalize ((k : Int) : Rat) = c at *
    generalize ((numS r D : Int) : Rat) = s at *
    rw [eD] at nD ⊢
    rw [← fr]
    grind
theorem numS_lt {ws : List Rat} {M : Nat} (h : Tots ws M) {D : Nat} (hD : D < 2 ^ 2000) : (numS ws D).natAbs < 2 ^ 4000 := by
  have a := sum_le (ws.map fun q => q.num * ((D : Int) / (q.den : Int))) (2 ^ 3500) (fun y hy => by
    obtain ⟨q, hq, rfl⟩ := List.mem_map.mp hy
    have t := h.num q hq
    have d := den_pos q
    have e : ((D : Int) / (q.den : Int)).natAbs ≤ D := by
      have q0 : 0 ≤ (D : Int) / (q.den : Int) := Int.ediv_nonneg (by omega) (by omega)
      have q1 : (D : Int) / (q.den : Int) ≤ (D : Int) := Int.ediv_le_self _ (by omega)
      omega
    rw [Int.natAbs_mul, show (2 : Nat) ^ 3500 = 2 ^ 1500 * 2 ^ 2000 from by rw [← Nat.pow_add]]
    exact Nat.mul_le_mul (Nat.le_of_lt t) (Nat.le_trans e (Nat.le_of_lt hD)))
  rw [List.length_map] at a
  have c : ws.length * 2 ^ 3500 ≤ 2 ^ 7 * 2 ^ 3500 := Nat.mul_le_mul_right _ (Nat.le_trans h.few (by decide))
  rw [← Nat.pow_add] at c
  exact Nat.lt_of_le_of_lt (Nat.le_trans a c) (Nat.pow_lt_pow_right (by decide) (by decide))
def spTotalQ (K : PySem.W.Frag) (C : Addr) : Sp := fun vs H Q _ => ∃ (a : Addr) (ps : List Addr) (ws : List Rat) (M : Nat), vs = [.ref a] ∧ SqL K H a (ps.map V.ref) ∧ ShQs C H ps ws ∧ Tots ws M ∧
  ∀ (H' : Hp) (p : Addr), Same H H' → ShQ C H' p ws.sum → Q (.ref p) H'
section
variable {P : Program} {w : World} {K : PySem.W.Frag} {mg : Str → Option Value} {base : Heap}
abbrev totalQN : List Str := ["shares", "bottom", "share"]
theorem scTotalQ : FnScope totalQN ["shares"] (defScope d_total) := ⟨rfl, rfl, rfl, by decide +kernel, rfl, by decide +kernel, by decide +kernel⟩
theorem ok_totalQ {f fI C CN : Addr} {fd fdI : FuncData} (F : Fun K "total" "total" d_total f fd) (T : Txt K mg C CN) (hlen : mg "len" = none) (hsum : mg "sum" = none) (hlcm : mg "lcm" = some (.builtin "math.lcm"))
    (M : Mk K C fI) (GI : FnOk P w K mg base (L2.CX P w) 2 fI fdI ["self", "top", "bottom"] (spInit C CN)) (bI : Binds K fdI ["self", "top", "bottom"] []) :
    FnOk P w K mg base CX0 4 f fd ["shares"] (spTotalQ K C) := by
  refine F.ok scTotalQ (fun vs H Q E h => ?_) (fun cdv A outer s H vs Q E hr h => ?_)
  · obtain ⟨a, _, _, _, rfl, _⟩ := h
    rfl
  · obtain ⟨a, ps, ws, m, rfl, ha, hw, sm, kq⟩ := h
    refine ⟨_, pss_cons (ps_if (pt_cmpR op_eq (pe_callB call_len_seq (by rfl) hlen PySem.boot_len (pa_cons (pv 0) pa_nil)) pe_int (nomark _)) (pss_one (ps_ret (pe_ix ix_seq (pv 0) pe_int (fun _ _ => rfl)))) pss_nil)
      (pss_cons (ps_set (i := 1) scTotalQ.nd rfl (Or.inr rfl) pe_int)
      (pss_cons (ps_for PassesOwn.never rfl (pi_list (pv 0)) (pg_name (i := 2) scTotalQ.nd rfl (.inl rfl)) (pss_one (ps_set (i := 1) scTotalQ.nd rfl (Or.inr rfl) (pe_callBfun cr_lcmW rfl hlcm (pa_cons (pv 1) (pa_cons (pe_fld (pv 2) rfl) pa_nil))))))
      (pss_one (ps_ret (pe_make M GI hr rfl T.mgC bI .nil passL (pa_cons (pe_callB (cr_sum rfl) (by rfl) hsum (by decide +kernel) (pa_cons
          (pe_lc (own := [("share", 2)]) (g := gName 2) (te := tOp (rI CMulW fun i j => .int (i * j)) (tFld K (tVar 2) "top") (tOp (rI CDivW fun i j => .int (i / j)) (tVar 1) (tFld K (tVar 2) "bottom"))) (by rfl) scTotalQ.nd (pi_list (pv 0)) (blkOk_by (own := [("share", 2)]) (N := totalQN) (sc := defScope d_total) (by decide +kernel)) (fun _ _ _ _ _ => pg_name (i := 2) scTotalQ.nd rfl (.inl rfl)) (fun _ _ _ _ _ => pts_nil)
            (fun _ _ _ _ _ => pe_op op_mulW (pe_fld (pv 2) rfl) (pe_op op_fdivW (pv 1) (pe_fld (pv 2) rfl)))) pa_nil)) (pa_cons (pv 1) pa_nil))))))), ?_⟩
    have lp : (ps.map V.ref).length = ws.length := by rw [List.length_map]; exact hw.len
    have dl : ∀ q ∈ ws, q.den < 2 ^ 2000 := fun q hq => Nat.lt_of_le_of_lt (Nat.le_of_dvd sm.pos (sm.den q hq)) sm.lt
    refine ⟨_, rfl, a, _, rfl, .inl ha, rfl, _, rfl, ?_⟩
    rw [lp]
    refine ite2 (fun h => ?_) (fun h => ?_)
    · have h : ws.length = 1 := by
        have h := of_decide_eq_true h
        injection h with h
        omega
      obtain ⟨x, rfl⟩ : ∃ x, ws = [x] := List.length_eq_one_iff.mp h
      obtain ⟨p, rfl⟩ : ∃ p, ps = [p] := List.length_eq_one_iff.mp hw.len
      have hs := hw.all 0 p x rfl rfl
      refine ⟨_, rfl, .inl ⟨a, _, _, _, rfl, rfl, ha, at_k (by decide) rfl, kq H p (Same.refl H) ?_⟩⟩
      rw [show [x].sum = x from by simp [List.sum_cons]; exact Rat.add_zero x]
      exact hs
    · refine ⟨_, rfl, a, rfl, ⟨_, ha⟩, ?_⟩
      refine for_list (K := K) (a := a) (xs := ps.map V.ref) (fun i σ G => (∃ v2, σ = [some (.ref a), some (.int (lcmQ (ws.take i) : Nat)), v2]) ∧ G = H) ⟨⟨none, rfl⟩, rfl⟩ ?_ ?_ ?_
      · rintro i σ G _ ⟨_, rfl⟩
        exact ha
      · rintro i x σ G hx ⟨⟨v2, rfl⟩, rfl⟩
        rw [List.getElem?_map] at hx
        obtain ⟨p, hp, rfl⟩ := Option.map_eq_some_iff.mp hx
        have il : i < ws.length := by
          have := (List.getElem?_eq_some_iff.mp hp).1
          have := hw.len
          omega
        have hy : ws[i]? = some ws[i] := List.getElem?_eq_getElem il
        obtain ⟨dx, e⟩ := hw.all i p _ hp hy
        have l1 := lcmQ_lt sm (i := i) (by omega)
        have d2 := dl _ (List.getElem_mem il)
        refine ⟨_, rfl, _, rfl, p, C, dx, _, _, rfl, e, T.cl, T.nB, shf_bottom .., _, _, rfl, Nat.lt_trans (by rw [Int.natAbs_natCast]; exact l1.2) (Nat.pow_lt_pow_right (by decide) (by decide)), Nat.lt_trans (by rw [Int.natAbs_natCast]; exact d2) (Nat.pow_lt_pow_right (by decide) (by decide)), ?_⟩
        refine ⟨⟨some (.ref p), ?_⟩, rfl⟩
        rw [lcmQ_next hy, Int.natAbs_natCast, Int.natAbs_natCast]
        rfl
      · rintro σ G ⟨⟨v2, rfl⟩, rfl⟩
        rw [lp, List.take_length]
        have l1 := lcmQ_lt sm (i := ws.length) (Nat.le_refl _)
        have la := lcmQ_all (ws := ws) ws.length (Nat.le_refl _)
        rw [List.take_length] at l1 la
        refine ⟨_, rfl, a, rfl, ⟨_, ha⟩, fun D hD => ?_⟩
        refine lc_list (K := K) (a := a) (xs := ps.map V.ref) (fun i N => N D = some (.lst (((ws.take i).map fun q => q.num * ((lcmQ ws : Nat) / (q.den : Int) : Int)).map V.int)) ∧ Same G N) ⟨upd_same, same1 hD⟩ ?_ ?_ ?_
        · rintro i N _ ⟨_, sN⟩
          exact sN.seq ha
        · rintro i x N hx ⟨eN, sN⟩
          rw [List.getElem?_map] at hx
          obtain ⟨p, hp, rfl⟩ := Option.map_eq_some_iff.mp hx
          have il : i < ws.length := by
            have := (List.getElem?_eq_some_iff.mp hp).1
            have := hw.len
            omega
          have hy : ws[i]? = some ws[i] := List.getElem?_eq_getElem il
          obtain ⟨dx, e⟩ := (hw.mono sN).all i p _ hp hy
          have hm := List.getElem_mem il
          have d2 := dl _ hm
          have tn := sm.num _ hm
          have d0 := den_pos ws[i]
          have q0 : 0 ≤ ((lcmQ ws : Nat) : Int) / (ws[i].den : Int) := Int.ediv_nonneg (by omega) (by omega)
          have q1 : ((lcmQ ws : Nat) : Int) / (ws[i].den : Int) ≤ ((lcmQ ws : Nat) : Int) := Int.ediv_le_self _ (by omega)
          have q2 : (((lcmQ ws : Nat) : Int) / (ws[i].den : Int)).natAbs < 2 ^ 2000 := Nat.lt_of_le_of_lt (by omega) l1.2
          refine ⟨rfl, ?_⟩
          refine ⟨_, rfl, p, C, dx, _, _, rfl, e, T.cl, T.nT, shf_top .., _, rfl, _, rfl, p, C, dx, _, _, rfl, e, T.cl, T.nB, shf_bottom .., _, _, rfl, rfl, wide_div (b := 2000) d0 (by rw [Int.natAbs_natCast]; exact d2) (by decide) (by decide), _, _, rfl, rfl, wide_mul tn q2 (by decide) (by decide) (by decide), _, eN, (by rw [List.length_map, List.length_map, List.length_take]; exact Nat.lt_of_le_of_lt (Nat.min_le_left _ _) (Nat.lt_of_lt_of_le il (Nat.le_trans sm.few (show 100 ≤ sizeLine by decide)))), ?_, fun b o eb => ?_⟩
          · rw [List.take_succ_eq_append_getElem il, List.map_append, List.map_append, upd_same]
            rfl
          · rw [upd_ne (ne_of_none eb hD)]
            exact sN _ _ eb
        · rintro N ⟨eN, sN⟩
          rw [lp, List.take_length] at eN
          refine ⟨D, _, rfl, SqL.of eN, _, rfl, ?_⟩
          intro p dp np ndp nex
          have nb : ((lcmQ ws : Nat) : Int) ≠ 0 := by have := l1.1; omega
          refine ⟨p, dp, _, _, rfl, upd_same, numS_lt sm l1.2, Nat.lt_trans (by rw [Int.natAbs_natCast]; exact l1.2) (Nat.pow_lt_pow_right (by decide) (by decide)), fun z => absurd z nb, fun _ H' e ka => ⟨rfl, ?_⟩⟩
          refine kq H' p (sN.trans (made_same (C := C) np ndp ka)) ?_
          rw [← numS_is l1.1 ws la]
          exact shq_low nb ⟨dp, e⟩
end
end K72

namespace K72
open PySem PySem.Spec PyProof.Rows L2
/-! ### times -/
/-- a new share out of two -/
def spTwoQ (C : Addr) (f : Rat → Rat → Rat) : Sp := fun vs H Q _ => ∃ (x y : Addr) (p q : Rat), vs = [.ref x, .ref y] ∧ ShQ C H x p ∧ ShQ C H y q ∧ Sz 1500 p ∧ Sz 1500 q ∧ ∀ (H' : Hp) (r : Addr), Same H H' → H r = none → ShQ C H' r (f p q) → Q (.ref r) H'
section
variable {P : Program} {w : World} {K : PySem.W.Frag} {mg : Str → Option Value} {base : Heap}
theorem scTimesQ : FnScope ["one", "other"] ["one", "other"] (defScope d_times) := ⟨rfl, rfl, rfl, by decide +kernel, rfl, by decide +kernel, by decide +kernel⟩
theorem ok_timesQ {f fI C CN : Addr} {fd fdI : FuncData} (F : Fun K "times" "times" d_times f fd) (T : Txt K mg C CN) (M : Mk K C fI) (GI : FnOk P w K mg base (L2.CX P w) 2 fI fdI ["self", "top", "bottom"] (spInit C CN)) (bI : Binds K fdI ["self", "top", "bottom"] []) :
    FnOk P w K mg base CX0 4 f fd ["one", "other"] (spTwoQ C fun p q => p * q) := by
  refine F.ok scTimesQ (fun vs H Q E h => ?_) (fun cdv A outer s H vs Q E hr h => ?_)
  · obtain ⟨x, y, p, q, rfl, _⟩ := h
    rfl
  · obtain ⟨x, y, p, q, rfl, ⟨dx, hx⟩, ⟨dy, hy⟩, s1, s2, k⟩ := h
    refine ⟨_, pss_one (ps_ret (pe_make M GI hr rfl T.mgC bI .nil passL (pa_cons (pe_op op_mulW (pe_fld (pv 0) rfl) (pe_fld (pv 1) rfl)) (pa_cons (pe_op op_mulW (pe_fld (pv 0) rfl) (pe_fld (pv 1) rfl)) pa_nil)))), ?_⟩
    refine ⟨_, rfl, x, C, dx, _, _, rfl, hx, T.cl, T.nT, shf_top .., _, rfl, y, C, dy, _, _, rfl, hy, T.cl, T.nT, shf_top .., _, _, rfl, rfl, wide_mul s1.1 s2.1 (by decide) (by decide) (by decide), ?_⟩
    refine ⟨_, rfl, x, C, dx, _, _, rfl, hx, T.cl, T.nB, shf_bottom .., _, rfl, y, C, dy, _, _, rfl, hy, T.cl, T.nB, shf_bottom .., _, _, rfl, rfl, wide_mul s1.2 s2.2 (by decide) (by decide) (by decide), ?_⟩
    intro r dr np ndp nex
    have nz : (p.den : Int) * (q.den : Int) ≠ 0 := Int.mul_ne_zero (by have := den_pos p; omega) (by have := den_pos q; omega)
    refine ⟨r, dr, _, _, rfl, upd_same, pow_le (mul_lt s1.1 s2.1) (by decide), pow_le (mul_lt s1.2 s2.2) (by decide), fun z => absurd z nz, fun _ H' e ka => ⟨rfl, ?_⟩⟩
    refine k H' r (made_same (C := C) np ndp ka) np ?_
    show ShQ C H' r (p * q)
    rw [← rat_mul]
    exact shq_low nz ⟨dr, e⟩
end
end K72

namespace K72
open PySem PySem.Spec PyProof.Rows L2
/-! ### less -/
def spLessQ (C : Addr) : Sp := fun vs H Q _ => ∃ (x y : Addr) (p q : Rat), vs = [.ref x, .ref y] ∧ ShQ C H x p ∧ ShQ C H y q ∧ Sz 1500 p ∧ Sz 1500 q ∧ Q (.bl (decide (p < q))) H
section
variable {P : Program} {w : World} {K : PySem.W.Frag} {mg : Str → Option Value} {base : Heap}
theorem scLessQ : FnScope ["one", "other"] ["one", "other"] (defScope d_less) := ⟨rfl, rfl, rfl, by decide +kernel, rfl, by decide +kernel, by decide +kernel⟩
theorem ok_lessQ {f C CN : Addr} {fd : FuncData} (F : Fun K "less" "less" d_less f fd) (T : Txt K mg C CN) : FnOk P w K mg base CX0 1 f fd ["one", "other"] (spLessQ C) := by
  refine F.ok scLessQ (fun vs H Q E h => ?_) (fun cdv A outer s H vs Q E hr h => ?_)
  · obtain ⟨x, y, p, q, rfl, _⟩ := h
    rfl
  · obtain ⟨x, y, p, q, rfl, ⟨dx, hx⟩, ⟨dy, hy⟩, s1, s2, k⟩ := h
    refine ⟨_, pss_one (ps_ret (pe_cmpR op_lt (pe_op op_mulW (pe_fld (pv 0) rfl) (pe_fld (pv 1) rfl)) (pe_op op_mulW (pe_fld (pv 1) rfl) (pe_fld (pv 0) rfl)) (nomark _))), ?_⟩
    refine ⟨_, rfl, x, C, dx, _, _, rfl, hx, T.cl, T.nT, shf_top .., _, rfl, y, C, dy, _, _, rfl, hy, T.cl, T.nB, shf_bottom .., _, _, rfl, rfl, wide_mul s1.1 s2.2 (by decide) (by decide) (by decide), ?_⟩
    refine ⟨_, rfl, y, C, dy, _, _, rfl, hy, T.cl, T.nT, shf_top .., _, rfl, x, C, dx, _, _, rfl, hx, T.cl, T.nB, shf_bottom .., _, _, rfl, rfl, wide_mul s2.1 s1.2 (by decide) (by decide) (by decide), _, _, rfl, rfl, ?_⟩
    show Q (.bl (decide (p.num * (q.den : Int) < q.num * (p.den : Int)))) H
    rw [rat_lt]
    exact k
end
end K72

namespace K72
open PySem PySem.Spec PyProof.Rows L2
theorem ty_tup {K : PySem.W.Frag} {H : Hp} {a : Addr} {xs : List V} (h : SqT K H a xs) : TyX K H (.ref a) (.type "tuple") := by
  rcases h with (h | ⟨o, h⟩) | ⟨o, its, n, hk, hc, _⟩
  · exact .base (.tup h)
  · exact .fTuple h
  · exact .kTuple hk hc
theorem ty_lst {K : PySem.W.Frag} {H : Hp} {a : Addr} {xs : List V} (h : SqL K H a xs) : TyX K H (.ref a) (.type "list") := by
  rcases h with (h | ⟨o, h⟩) | ⟨o, its, n, hk, hc, _⟩
  · exact .base (.lst h)
  · exact .base (.frz h)
  · exact .kList hk hc
end K72

namespace K72
open PySem PySem.Spec PyProof.Rows L2
/-! ### webs -/
structure Bed where
  s : Nat
  e : Nat
  lo : Rat
  hi : Rat
structure WebV where
  many : Nat
  beds : List Bed
  parts : List (List Nat)
def starts (W : WebV) : List Nat := W.beds.map Bed.s
structure GoodBed (many : Nat) (b : Bed) : Prop where
  up : b.s < b.e
  le : b.e < many
  lt : b.lo < b.hi
  slo : Sz 1500 b.lo
  shi : Sz 1500 b.hi
/-- parts of a place at which n beds begin -/
structure GoodParts (n : Nat) (ps : List Nat) : Prop where
  len : ps.length = n
  le : ∀ p ∈ ps, p ≤ 9
  few : ps.length ≤ 12
  some_ : n = 0 ∨ ∃ p ∈ ps, p ≠ 0
structure GoodWeb (W : WebV) : Prop where
  m1 : 1 ≤ W.many
  m8 : W.many ≤ 8
  few : W.beds.length ≤ 12
  bed : ∀ b ∈ W.beds, GoodBed W.many b
  sorted : (starts W).Pairwise (· ≤ ·)
  two : ∀ s, (starts W).count s ≤ 2
  plen : W.parts.length = W.many
  part : ∀ (i : Nat) (ps : List Nat), W.parts[i]? = some ps → GoodParts ((starts W).count i) ps
def BedAt (K : PySem.W.Frag) (C : Addr) (H : Hp) (t : Addr) (b : Bed) : Prop := ∃ x y, SqT K H t [.int (b.s : Int), .int (b.e : Int), .ref x, .ref y] ∧ ShQ C H x b.lo ∧ ShQ C H y b.hi
theorem BedAt.mono {K : PySem.W.Frag} {C : Addr} {H H' : Hp} {t : Addr} {b : Bed} (h : BedAt K C H t b) (s : Same H H') : BedAt K C H' t b := by
  obtain ⟨x, y, a, u, v⟩ := h
  exact ⟨x, y, Same.tup s a, u.mono s, v.mono s⟩
def natV (n : Nat) : V := .int (n : Int)
def PartsAt (K : PySem.W.Frag) (H : Hp) (t : Addr) (ps : List Nat) : Prop := SqT K H t (ps.map natV)
/-- the builtins that a web's program asks -/
structure TxtW (mg : Str → Option Value) (C : Addr) : Prop where
  isi : mg "isinstance" = none
  tuple : mg "tuple" = none
  list : mg "list" = none
  len : mg "len" = none
  all : mg "all" = none
  any : mg "any" = none
  sorted : mg "sorted" = none
  enumerate : mg "enumerate" = none
  sh : mg "Share" = some (.ref C)
def spBetweenI : Sp := fun vs H Q _ => ∃ i a b : Int, vs = [.int i, .int a, .int b] ∧ Q (.bl (decide (a ≤ i) && decide (i ≤ b))) H
def spBedG (K : PySem.W.Frag) (C : Addr) : Sp := fun vs H Q _ => ∃ (t : Addr) (many : Nat) (b : Bed), vs = [.ref t, .int (many : Int)] ∧ BedAt K C H t b ∧ GoodBed many b ∧ Q (.bl true) H
section
variable {P : Program} {w : World} {K : PySem.W.Frag} {mg : Str → Option Value} {base : Heap}
theorem scBetweenI : FnScope ["thing", "least", "most"] ["thing", "least", "most"] (defScope d_is_between) := ⟨rfl, rfl, rfl, by decide +kernel, rfl, by decide +kernel, by decide +kernel⟩
theorem ok_betweenI {f f1 : Addr} {fd fd1 : FuncData} (F : Fun K "is_between" "is_between" d_is_between f fd) (A1 : At P w K mg base CX0 1 "is_whole" ["thing"] spWhole f1 fd1) :
    FnOk P w K mg base CX0 2 f fd ["thing", "least", "most"] spBetweenI := by
  refine F.ok scBetweenI (fun vs H Q E h => ?_) (fun cdv A outer s H vs Q E hr h => ?_)
  · obtain ⟨_, _, _, rfl, _⟩ := h
    rfl
  · obtain ⟨i, a, b, rfl, q⟩ := h
    refine ⟨_, pss_one (ps_ret (pe_and (pe_call A1.G hr rfl A1.m A1.k A1.b .nil pass0 (pa_cons (pv 0) pa_nil)) (pe_one (pe_chain op_le op_le (pv 1) (pv 0) (pv 2))))), ?_⟩
    refine ⟨_, rfl, i, rfl, true, rfl, iteT ⟨_, rfl, _, rfl, _, _, rfl, rfl, _, rfl, ?_⟩⟩
    refine ite2 (fun h => ?_) (fun h => ?_)
    · refine ⟨_, rfl, _, _, rfl, rfl, ?_⟩
      rw [h] at q
      exact q
    · rw [show decide (a ≤ i) = false from by simpa using h] at q
      exact q
theorem scBedG : FnScope ["thing", "many", "start", "finish", "low", "high"] ["thing", "many"] (defScope d_is_a_bed) := ⟨rfl, rfl, rfl, by decide +kernel, rfl, by decide +kernel, by decide +kernel⟩
theorem ok_bedG {f f1 f2 C CN : Addr} {fd fd1 fd2 : FuncData} (F : Fun K "is_a_bed" "is_a_bed" d_is_a_bed f fd) (T : Txt K mg C CN) (Y : TxtW mg C) (IsSh : ∀ H p q, ShQ C H p q → TyX K H (.ref p) (.ref C)) (me : PySem.W.kitOne K (.ref C) (.ref C) = some true)
    (A1 : At P w K mg base CX0 2 "is_between" ["thing", "least", "most"] spBetweenI f1 fd1) (A2 : At P w K mg base CX0 1 "less" ["one", "other"] (spLessQ C) f2 fd2) :
    FnOk P w K mg base CX0 3 f fd ["thing", "many"] (spBedG K C) := by
  refine F.ok scBedG (fun vs H Q E h => ?_) (fun cdv A outer s H vs Q E hr h => ?_)
  · obtain ⟨_, _, _, rfl, _⟩ := h
    rfl
  · obtain ⟨t, many, b, rfl, ⟨x, y, ht, hx, hy⟩, g, q⟩ := h
    have r1 : Room 1 _ := hr.mono (by decide)
    refine ⟨_, pss_cons (ps_if (PW.pt (pw_or (pt_not (pt_val (pe_callB call_isi (by rfl) Y.isi (by decide +kernel) (pa_cons (pv 0) (pa_cons (pe_bltn (v := .ty "tuple") (by rfl) Y.tuple (by decide +kernel) rfl) pa_nil)))))
          (pw_or1 (pt_cmpR op_ne (pe_callB call_len_seq (by rfl) Y.len PySem.boot_len (pa_cons (pv 0) pa_nil)) pe_int (nomark _))))) (pss_one (ps_ret pe_bl)) pss_nil)
      (pss_cons (ps_asg (pv 0) (pg_tup (by rfl) (pgs_cons (pg_name (i := 2) scBedG.nd rfl (.inl rfl)) (pgs_cons (pg_name (i := 3) scBedG.nd rfl (.inl rfl)) (pgs_cons (pg_name (i := 4) scBedG.nd rfl (.inl rfl)) (pgs_cons (pg_name (i := 5) scBedG.nd rfl (.inl rfl)) pgs_nil))))))
      (pss_cons (ps_if (PW.pt (pw_or (pt_not (pt_val (pe_call A1.G hr rfl A1.m A1.k A1.b .nil pass0 (pa_cons (pv 2) (pa_cons pe_int (pa_cons (pe_op op_sub (pv 1) pe_int) pa_nil))))))
          (pw_or1 (pt_not (pt_val (pe_call A1.G hr rfl A1.m A1.k A1.b .nil pass0 (pa_cons (pv 3) (pa_cons (pe_op op_add (pv 2) pe_int) (pa_cons (pe_op op_sub (pv 1) pe_int) pa_nil))))))))) (pss_one (ps_ret pe_bl)) pss_nil)
      (pss_one (ps_ret (pe_and (pe_callB call_isi (by rfl) Y.isi (by decide +kernel) (pa_cons (pv 4) (pa_cons (pe_glob (v := .ref C) rfl Y.sh rfl) pa_nil))) (pe_and (pe_callB call_isi (by rfl) Y.isi (by decide +kernel) (pa_cons (pv 5) (pa_cons (pe_glob (v := .ref C) rfl Y.sh rfl) pa_nil)))
        (pe_one (pe_call A2.G r1 rfl A2.m A2.k A2.b .nil pass0 (pa_cons (pv 4) (pa_cons (pv 5) pa_nil)))))))))), ?_⟩
    have g1 := g.up
    have g2 := g.le
    refine ⟨_, rfl, _, _, _, _, true, rfl, ClsV.ty _, ty_tup ht, kit_ty (by decide +kernel), true, rfl, iteF ?_⟩
    refine ⟨_, rfl, t, _, rfl, .inr ht, rfl, _, rfl, iteF ?_⟩
    refine ⟨_, rfl, t, _, rfl, ht, rfl, _, _, rfl, _, _, rfl, _, _, rfl, _, _, rfl, rfl, ?_⟩
    refine ⟨_, rfl, _, rfl, _, _, rfl, rfl, _, _, _, rfl, _, rfl, ?_⟩
    rw [decide_eq_true (show (0 : Int) ≤ (b.s : Int) by omega), decide_eq_true (show (b.s : Int) ≤ (many : Int) - 1 by omega)]
    refine iteF ?_
    refine ⟨_, rfl, _, rfl, _, _, rfl, rfl, _, rfl, _, _, rfl, rfl, _, _, _, rfl, _, rfl, ?_⟩
    rw [decide_eq_true (show (b.s : Int) + 1 ≤ (b.e : Int) by omega), decide_eq_true (show (b.e : Int) ≤ (many : Int) - 1 by omega)]
    refine iteF ?_
    refine ⟨_, rfl, _, _, _, _, true, rfl, ClsV.own C, IsSh _ _ _ hx, me, true, rfl, iteT ?_⟩
    refine ⟨_, rfl, _, _, _, _, true, rfl, ClsV.own C, IsSh _ _ _ hy, me, true, rfl, iteT ?_⟩
    refine ⟨_, rfl, _, rfl, x, y, _, _, rfl, hx, hy, g.slo, g.shi, ?_⟩
    rw [decide_eq_true g.lt]
    exact q
end
end K72

namespace K72
open PySem PySem.Spec PyProof.Rows L2
def WBeds (K : PySem.W.Frag) (C : Addr) (H : Hp) (l : Addr) (bs : List Bed) : Prop := ∃ ts : List Addr, SqL K H l (ts.map V.ref) ∧ All2 (BedAt K C H) ts bs
theorem WBeds.mono {K : PySem.W.Frag} {C : Addr} {H H' : Hp} {l : Addr} {bs : List Bed} (h : WBeds K C H l bs) (s : Same H H') : WBeds K C H' l bs := by
  obtain ⟨ts, a, b⟩ := h
  exact ⟨ts, s.seq a, b.mono fun _ _ _ _ r => r.mono s⟩
def WParts (K : PySem.W.Frag) (H : Hp) (l : Addr) (pss : List (List Nat)) : Prop := ∃ ts : List Addr, SqL K H l (ts.map V.ref) ∧ All2 (PartsAt K H) ts pss
theorem WParts.mono {K : PySem.W.Frag} {H H' : Hp} {l : Addr} {pss : List (List Nat)} (h : WParts K H l pss) (s : Same H H') : WParts K H' l pss := by
  obtain ⟨ts, a, b⟩ := h
  exact ⟨ts, s.seq a, b.mono fun _ _ _ _ r => Same.tup s r⟩
structure GoodBeds (many : Nat) (bs : List Bed) : Prop where
  few : bs.length ≤ 12
  bed : ∀ b ∈ bs, GoodBed many b
  sorted : (bs.map Bed.s).Pairwise (· ≤ ·)
  two : ∀ s, (bs.map Bed.s).count s ≤ 2
def intsOf (bs : List Bed) : List Int := bs.map fun b => (b.s : Int)
theorem intsOf_map (bs : List Bed) : intsOf bs = (bs.map Bed.s).map fun n : Nat => (n : Int) := by
  unfold intsOf
  rw [List.map_map]
  rfl
theorem count_cast (ns : List Nat) (k : Nat) : (ns.map fun n : Nat => (n : Int)).count (k : Int) = ns.count k := by
  induction ns with
  | nil => rfl
  | cons a r ih =>
    rw [List.map_cons, List.count_cons, List.count_cons, ih]
    have e : ((a : Int) == (k : Int)) = (a == k) := by
      by_cases h : a = k
      · subst h
        simp
      · rw [beq_eq_false_iff_ne.mpr h, beq_eq_false_iff_ne.mpr (by omega)]
    rw [e]
theorem sorted_cast {ns : List Nat} (h : ns.Pairwise (· ≤ ·)) : (ns.map fun n : Nat => (n : Int)).Pairwise (· ≤ ·) := by
  rw [List.pairwise_map]
  exact h.imp fun h => by omega
theorem dps_ints {K : PySem.W.Frag} {H : Hp} : ∀ ns : List Int, DpAll K H (ns.map V.int) (ns.map PyData.int)
  | [] => .nil
  | n :: r => .cons (.int n) (dps_ints r)
theorem eqv_ints (ns : List Int) : PyData.eqv (.list (ns.map PyData.int)) (.list (ns.map PyData.int)) = true := by
  refine SeqAt.eqv_refl _ ?_
  have h := PySem.W.shaped_ints ns
  unfold SeqAt.shaped at h
  rw [Bool.and_eq_true] at h
  exact h.1
theorem all_true (n : Nat) : (List.replicate n true).all id = true := by simp
def spBedsG (K : PySem.W.Frag) (C : Addr) : Sp := fun vs H Q _ => ∃ (l : Addr) (many : Nat) (bs : List Bed), vs = [.ref l, .int (many : Int)] ∧ WBeds K C H l bs ∧ GoodBeds many bs ∧ ∀ H', Same H H' → Q (.bl true) H'
def spPart1G (K : PySem.W.Frag) : Sp := fun vs H Q _ => ∃ (t : Addr) (n : Nat) (ps : List Nat), vs = [.ref t, .int (n : Int)] ∧ PartsAt K H t ps ∧ GoodParts n ps ∧ ∀ H', Same H H' → Q (.bl true) H'
theorem isShT {K : PySem.W.Frag} {mg : Str → Option Value} {C CN : Addr} (T : Txt K mg C CN) (ha : PySem.W.findIn K (.ref C) "__class__" = some (some (.builtin "object.__class__"))) (hn : PySem.W.specialIn K (.builtin "object.__class__") "__get__" = some (some (.builtin "getset_descriptor.__get__")))
    (htk : PySem.W.takesIn K (.builtin "object.__class__") = some true) (hm : PySem.W.mroIn K C (.type "object") = some true) : ∀ H p q, ShQ C H p q → TyX K H (.ref p) (.ref C) := fun H p q ⟨dx, e⟩ => .base (.ins e T.cl ha hn htk hm)
section
variable {P : Program} {w : World} {K : PySem.W.Frag} {mg : Str → Option Value} {base : Heap}
abbrev bedsN : List Str := ["things", "many", "thing", "starts", "bed", "start"]
theorem scBedsG : FnScope bedsN ["things", "many"] (defScope d_are_beds) := ⟨rfl, rfl, rfl, by decide +kernel, rfl, by decide +kernel, by decide +kernel⟩
theorem ok_bedsG {f f1 C : Addr} {fd fd1 : FuncData} {tk1 tk2 : Tok} (F : Fun K "are_beds" "are_beds" d_are_beds f fd) (Y : TxtW mg C) (g1 : mg "MOST_BEDS" = some (.int 12 tk1)) (g2 : mg "MOST_BEDS_OF_A_PLACE" = some (.int 2 tk2))
    (A1 : At P w K mg base CX0 3 "is_a_bed" ["thing", "many"] (spBedG K C) f1 fd1) : FnOk P w K mg base CX0 4 f fd ["things", "many"] (spBedsG K C) := by
  refine F.ok scBedsG (fun vs H Q E h => ?_) (fun cdv A outer s H vs Q E hr h => ?_)
  · obtain ⟨_, _, _, rfl, _⟩ := h
    rfl
  · obtain ⟨l, many, bs, rfl, ⟨ts, hl, hts⟩, g, q⟩ := h
    refine ⟨_, pss_cons (ps_if (PW.pt (pw_or (pt_not (pt_val (pe_callB call_isi (by rfl) Y.isi (by decide +kernel) (pa_cons (pv 0) (pa_cons (pe_bltn (v := .ty "list") (by rfl) Y.list (by decide +kernel) rfl) pa_nil)))))
          (pw_or1 (pt_cmpR op_gt (pe_callB call_len_seq (by rfl) Y.len PySem.boot_len (pa_cons (pv 0) pa_nil)) (pe_glob (v := .int 12) rfl g1 ⟨tk1, rfl⟩) (nomark _))))) (pss_one (ps_ret pe_bl)) pss_nil)
      (pss_cons (ps_if (pt_not (pt_val (pe_callB (cr_all rfl) (by rfl) Y.all (by decide +kernel) (pa_cons
        (pe_lc (own := [("thing", 2)]) (g := gName 2) (by rfl) scBedsG.nd (pi_list (pv 0)) (blkOk_by (own := [("thing", 2)]) (N := bedsN) (sc := defScope d_are_beds) (by decide +kernel)) (fun _ _ _ _ _ => pg_name (i := 2) scBedsG.nd rfl (.inl rfl)) (fun _ _ _ _ _ => pts_nil)
          (fun _ _ _ _ _ => pe_call A1.G hr rfl A1.m A1.k A1.b .nil pass0 (pa_cons (pv 2) (pa_cons (pv 1) pa_nil)))) pa_nil)))) (pss_one (ps_ret pe_bl)) pss_nil)
      (pss_cons (ps_set (i := 3) scBedsG.nd rfl (Or.inr rfl) (pe_lc (own := [("bed", 4)]) (g := gName 4) (by rfl) scBedsG.nd (pi_list (pv 0)) (blkOk_by (own := [("bed", 4)]) (N := bedsN) (sc := defScope d_are_beds) (by decide +kernel)) (fun _ _ _ _ _ => pg_name (i := 4) scBedsG.nd rfl (.inl rfl)) (fun _ _ _ _ _ => pts_nil)
          (fun _ _ _ _ _ => pe_ix (show IxR _ (rIxT K) from ix_tup) (pv 4) pe_int (fun _ _ => rfl))))
      (pss_one (ps_ret (pe_and (pe_cmpR (op_eqD hr.units) (pv 3) (pe_callB cr_sorted (by rfl) Y.sorted (by decide +kernel) (pa_cons (pv 3) pa_nil)) (nomark _))
        (pe_one (pe_callB (cr_all rfl) (by rfl) Y.all (by decide +kernel) (pa_cons
          (pe_lc (own := [("start", 5)]) (g := gName 5) (by rfl) scBedsG.nd (pi_list (pv 3)) (blkOk_by (own := [("start", 5)]) (N := bedsN) (sc := defScope d_are_beds) (by decide +kernel)) (fun _ _ _ _ _ => pg_name (i := 5) scBedsG.nd rfl (.inl rfl)) (fun _ _ _ _ _ => pts_nil)
            (fun _ _ _ _ _ => pe_cmpR op_le (show PE _ _ (tBM K "list" (rCntI K) (tVar 3) (tCons (tVar 5) tNil)) from pe_bm PySem.F.plainAttrs_list PySem.F.slot_list_count PySem.F.type_list_count mt_lcount (pv 3) (pa_cons (pv 5) pa_nil)) (pe_glob (v := .int 2) rfl g2 ⟨tk2, rfl⟩) (nomark _))) pa_nil)))))))), ?_⟩
    have few := g.few
    have lt : ts.length = bs.length := hts.len
    have lp : (ts.map V.ref).length = bs.length := by rw [List.length_map, lt]
    refine ⟨_, rfl, _, _, _, _, true, rfl, ClsV.ty _, ty_lst hl, kit_ty (by decide +kernel), true, rfl, iteF ?_⟩
    refine ⟨_, rfl, l, _, rfl, .inl hl, _, _, rfl, rfl, _, rfl, ?_⟩
    rw [lp, decide_eq_false (show ¬ (12 : Int) < (bs.length : Int) by omega)]
    refine iteF ?_
    refine ⟨_, rfl, l, rfl, ⟨_, hl⟩, fun D hD => ?_⟩
    refine lc_list (K := K) (a := l) (xs := ts.map V.ref) (fun i M => M D = some (.lst ((List.replicate i true).map V.bl)) ∧ Same H M) ⟨upd_same, same1 hD⟩ ?_ ?_ ?_
    · rintro i M _ ⟨_, sm⟩
      exact sm.seq hl
    · rintro i x M hx ⟨eD, sm⟩
      rw [List.getElem?_map] at hx
      obtain ⟨t, ht, rfl⟩ := Option.map_eq_some_iff.mp hx
      have il : i < bs.length := by
        have := (List.getElem?_eq_some_iff.mp ht).1
        omega
      have hb : bs[i]? = some bs[i] := List.getElem?_eq_getElem il
      refine ⟨rfl, ?_⟩
      refine ⟨_, rfl, _, rfl, t, many, bs[i], rfl, (hts.all i t _ ht hb).mono sm, g.bed _ (List.getElem_mem il), ?_⟩
      refine ⟨_, eD, (by rw [List.length_map, List.length_replicate]; exact Nat.lt_of_lt_of_le il (Nat.le_trans few (show 12 ≤ sizeLine by decide))), ?_, fun b o e => ?_⟩
      · rw [List.replicate_succ', List.map_append]
        exact upd_same
      · rw [upd_ne (ne_of_none e hD)]
        exact sm _ _ e
    · rintro M ⟨eD, sm⟩
      refine ⟨D, _, rfl, SqL.of eD, ?_⟩
      rw [all_true]
      refine ⟨true, rfl, iteF ?_⟩
      have hlM := sm.seq hl
      refine ⟨_, rfl, l, rfl, ⟨_, hlM⟩, fun S hS => ?_⟩
      refine lc_list (K := K) (a := l) (xs := ts.map V.ref) (fun i N => N S = some (.lst ((intsOf (bs.take i)).map V.int)) ∧ Same M N) ⟨upd_same, same1 hS⟩ ?_ ?_ ?_
      · rintro i N _ ⟨_, sN⟩
        exact sN.seq hlM
      · rintro i x N hx ⟨eS, sN⟩
        rw [List.getElem?_map] at hx
        obtain ⟨t, ht, rfl⟩ := Option.map_eq_some_iff.mp hx
        have il : i < bs.length := by
          have := (List.getElem?_eq_some_iff.mp ht).1
          omega
        have hb : bs[i]? = some bs[i] := List.getElem?_eq_getElem il
        obtain ⟨_, _, q1, _, _⟩ := (hts.all i t _ ht hb).mono (sm.trans sN)
        refine ⟨rfl, ?_⟩
        refine ⟨_, rfl, t, _, _, _, rfl, rfl, q1, at_k (by decide) rfl, ?_⟩
        refine ⟨_, eS, ?_, ?_, fun b o e => ?_⟩
        · unfold intsOf
          rw [List.length_map, List.length_map, List.length_take]
          exact Nat.lt_of_le_of_lt (Nat.min_le_left _ _) (Nat.lt_of_lt_of_le il (Nat.le_trans few (show 12 ≤ sizeLine by decide)))
        · unfold intsOf
          rw [List.take_succ_eq_append_getElem il, List.map_append, List.map_append]
          exact upd_same
        · rw [upd_ne (ne_of_none e hS)]
          exact sN _ _ e
      · rintro N ⟨eS, sN⟩
        rw [lp, List.take_length] at eS
        have li : (intsOf bs).length ≤ 12 := by
          unfold intsOf
          rw [List.length_map]
          exact few
        have so : (intsOf bs).Pairwise (· ≤ ·) := by
          rw [intsOf_map]
          exact sorted_cast g.sorted
        refine ⟨_, rfl, _, rfl, S, _, rfl, SqL.of eS, by omega, fun ns' p pm ri hp => ?_⟩
        have en : ns' = intsOf bs := PySem.W.ksm_same pm ri so
        subst en
        have s3 : Same N (upd N p (.lst ((intsOf bs).map V.int))) := same1 hp
        refine ⟨_, _, .lst (SqL.of (s3 _ _ eS)) (dps_ints _), .lst (SqL.of upd_same) (dps_ints _), PySem.W.shaped_ints _, PySem.W.shaped_ints _, ?_⟩
        rw [eqv_ints]
        refine ⟨true, rfl, iteT ?_⟩
        generalize upd N p (.lst ((intsOf bs).map V.int)) = N3 at *
        have eS3 := s3 _ _ eS
        refine ⟨_, rfl, S, rfl, ⟨_, SqL.of eS3⟩, fun E2 hE2 => ?_⟩
        refine lc_list (K := K) (a := S) (xs := (intsOf bs).map V.int) (fun i M' => M' E2 = some (.lst ((List.replicate i true).map V.bl)) ∧ Same N3 M') ⟨upd_same, same1 hE2⟩ ?_ ?_ ?_
        · rintro i M' _ ⟨_, s4⟩
          exact SqL.of (s4 _ _ eS3)
        · rintro i x M' hx ⟨eE, s4⟩
          rw [List.getElem?_map] at hx
          obtain ⟨k, hk, rfl⟩ := Option.map_eq_some_iff.mp hx
          have ki : i < (intsOf bs).length := (List.getElem?_eq_some_iff.mp hk).1
          have c2 : (intsOf bs).count k ≤ 2 := by
            rw [intsOf_map] at hk ⊢
            rw [List.getElem?_map] at hk
            obtain ⟨n, _, rfl⟩ := Option.map_eq_some_iff.mp hk
            rw [count_cast]
            exact g.two n
          refine ⟨rfl, ?_⟩
          refine ⟨_, rfl, .inl ⟨rfl, _, SqL.of (s4 _ _ eS3)⟩, _, rfl, S, _, k, rfl, rfl, SqL.of (s4 _ _ eS3), _, _, rfl, rfl, ?_⟩
          have de : decide (((List.count k (intsOf bs) : Nat) : Int) ≤ 2) = true := decide_eq_true (by omega)
          refine ⟨_, eE, (by rw [List.length_map, List.length_replicate]; exact Nat.lt_of_lt_of_le ki (Nat.le_trans li (show 12 ≤ sizeLine by decide))), ?_, fun b o e => ?_⟩
          · refine Eq.trans upd_same ?_
            show some (HO.lst (_ ++ [V.bl (decide (((List.count k (intsOf bs) : Nat) : Int) ≤ 2))])) = _
            rw [de, List.replicate_succ', List.map_append]
            rfl
          · rw [upd_ne (ne_of_none e hE2)]
            exact s4 _ _ e
        · rintro M' ⟨eE, s4⟩
          refine ⟨E2, _, rfl, SqL.of eE, ?_⟩
          rw [all_true]
          exact q _ (sm.trans (sN.trans (s3.trans s4)))
end
end K72

namespace K72
open PySem PySem.Spec PyProof.Rows L2
structure CrsW (K : PySem.W.Frag) (CW : Addr) : Prop where
  cl : L2.Cls K CW
  nm : NoAttr K CW "many"
  nb : NoAttr K CW "beds"
  np : NoAttr K CW "parts"
def webF (m : Int) (b p : Addr) : List (Str × V) := putF "parts" (.ref p) (putF "beds" (.ref b) (putF "many" (.int m) []))
theorem webF_many (m : Int) (b p : Addr) : (webF m b p).lookup ("many" : Str) = some (.int m) := by
  unfold webF
  rw [lookup_putF, if_neg (by decide +kernel), lookup_putF, if_neg (by decide +kernel), lookup_putF, if_pos rfl]
theorem webF_beds (m : Int) (b p : Addr) : (webF m b p).lookup ("beds" : Str) = some (.ref b) := by
  unfold webF
  rw [lookup_putF, if_neg (by decide +kernel), lookup_putF, if_pos rfl]
theorem webF_parts (m : Int) (b p : Addr) : (webF m b p).lookup ("parts" : Str) = some (.ref p) := by
  unfold webF
  rw [lookup_putF, if_pos rfl]
/-- lists of a web's own -/
def WBedsT (K : PySem.W.Frag) (C : Addr) (H : Hp) (l : Addr) (bs : List Bed) : Prop := ∃ ts : List Addr, H l = some (.lst (ts.map V.ref)) ∧ All2 (BedAt K C H) ts bs
theorem WBedsT.mono {K : PySem.W.Frag} {C : Addr} {H H' : Hp} {l : Addr} {bs : List Bed} (h : WBedsT K C H l bs) (s : Same H H') : WBedsT K C H' l bs := by
  obtain ⟨ts, a, b⟩ := h
  exact ⟨ts, s _ _ a, b.mono fun _ _ _ _ r => r.mono s⟩
theorem WBedsT.old {K : PySem.W.Frag} {C : Addr} {H : Hp} {l : Addr} {bs : List Bed} (h : WBedsT K C H l bs) : WBeds K C H l bs := by
  obtain ⟨ts, a, b⟩ := h
  exact ⟨ts, SqL.of a, b⟩
def WPartsT (K : PySem.W.Frag) (H : Hp) (l : Addr) (pss : List (List Nat)) : Prop := ∃ ts : List Addr, H l = some (.lst (ts.map V.ref)) ∧ All2 (PartsAt K H) ts pss
theorem WPartsT.mono {K : PySem.W.Frag} {H H' : Hp} {l : Addr} {pss : List (List Nat)} (h : WPartsT K H l pss) (s : Same H H') : WPartsT K H' l pss := by
  obtain ⟨ts, a, b⟩ := h
  exact ⟨ts, s _ _ a, b.mono fun _ _ _ _ r => Same.tup s r⟩
theorem WPartsT.old {K : PySem.W.Frag} {H : Hp} {l : Addr} {pss : List (List Nat)} (h : WPartsT K H l pss) : WParts K H l pss := by
  obtain ⟨ts, a, b⟩ := h
  exact ⟨ts, SqL.of a, b⟩
/-- a web at w -/
def WebAt (K : PySem.W.Frag) (C CW : Addr) (H : Hp) (w : Addr) (W : WebV) : Prop := ∃ dx b p, H w = some (.ins CW dx (webF (W.many : Int) b p)) ∧ WBedsT K C H b W.beds ∧ WPartsT K H p W.parts ∧ GoodWeb W
theorem WebAt.mono {K : PySem.W.Frag} {C CW : Addr} {H H' : Hp} {w : Addr} {W : WebV} (h : WebAt K C CW H w W) (s : Same H H') : WebAt K C CW H' w W := by
  obtain ⟨dx, b, p, e, u, v, g⟩ := h
  exact ⟨dx, b, p, s _ _ e, u.mono s, v.mono s, g⟩
theorem WebAt.old {K : PySem.W.Frag} {C CW : Addr} {H : Hp} {w : Addr} {W : WebV} (h : WebAt K C CW H w W) : ∃ dx b p, H w = some (.ins CW dx (webF (W.many : Int) b p)) ∧ WBeds K C H b W.beds ∧ WParts K H p W.parts ∧ GoodWeb W := by
  obtain ⟨dx, b, p, e, u, v, g⟩ := h
  exact ⟨dx, b, p, e, u.old, v.old, g⟩
/-- what is no object still being made stays -/
def Keep2 (H H' : Hp) : Prop := ∀ b o, H b = some o → (∀ C d, o ≠ .ins C d []) → H' b = some o
theorem Keep2.tup {K : PySem.W.Frag} {H H' : Hp} {a : Addr} {xs : List V} (k : Keep2 H H') (h : SqT K H a xs) : SqT K H' a xs :=
  h.elim (fun h => .inl (h.elim (fun h => .inl (k _ _ h (fun _ _ z => nomatch z))) fun ⟨o, h⟩ => .inr ⟨o, k _ _ h (fun _ _ z => nomatch z)⟩)) fun h => .inr h
theorem Keep2.seq {K : PySem.W.Frag} {H H' : Hp} {a : Addr} {xs : List V} (k : Keep2 H H') (h : SqL K H a xs) : SqL K H' a xs :=
  h.elim (fun h => .inl (h.elim (fun h => .inl (k _ _ h (fun _ _ z => nomatch z))) fun ⟨o, h⟩ => .inr ⟨o, k _ _ h (fun _ _ z => nomatch z)⟩)) fun h => .inr h
theorem Keep2.sh {C : Addr} {H H' : Hp} {p : Addr} {q : Rat} (k : Keep2 H H') (h : ShQ C H p q) : ShQ C H' p q := by
  obtain ⟨dx, e⟩ := h
  refine ⟨dx, k _ _ e (fun C' d z => ?_)⟩
  injection z with _ _ z
  have t := shf_top q.num (q.den : Int)
  rw [z] at t
  cases t
theorem Keep2.bed {K : PySem.W.Frag} {C : Addr} {H H' : Hp} {t : Addr} {b : Bed} (k : Keep2 H H') (h : BedAt K C H t b) : BedAt K C H' t b := by
  obtain ⟨x, y, a, u, v⟩ := h
  exact ⟨x, y, k.tup a, k.sh u, k.sh v⟩
theorem keep2_ins {H : Hp} {p CC dx : Addr} {o : HO} (h : H p = some (.ins CC dx [])) : Keep2 H (upd H p o) := fun b u e n => by
  rw [upd_ne (fun z => by rw [z, h] at e; exact n _ _ (Option.some.inj e).symm)]
  exact e
/-- but x, an object of the class at CW, all stays -/
structure Wo (CW x : Addr) (H H' : Hp) : Prop where
  at_ : ∃ dx fs, H x = some (.ins CW dx fs)
  keep : ∀ a o, a ≠ x → H a = some o → H' a = some o
theorem Wo.of {CW x : Addr} {H H' : Hp} (k : Wo CW x H H') {a : Addr} {o : HO} (e : H a = some o) (n : ∀ dx fs, o ≠ .ins CW dx fs) : H' a = some o := by
  obtain ⟨dx, fs, ex⟩ := k.at_
  exact k.keep a o (fun z => by rw [z, ex] at e; exact n _ _ (Option.some.inj e).symm) e
theorem Wo.tup {K : PySem.W.Frag} {CW x : Addr} {H H' : Hp} {a : Addr} {xs : List V} (k : Wo CW x H H') (h : SqT K H a xs) : SqT K H' a xs :=
  h.elim (fun h => .inl (h.elim (fun h => .inl (k.of h (fun _ _ z => nomatch z))) fun ⟨o, h⟩ => .inr ⟨o, k.of h (fun _ _ z => nomatch z)⟩)) fun h => .inr h
theorem Wo.seq {K : PySem.W.Frag} {CW x : Addr} {H H' : Hp} {a : Addr} {xs : List V} (k : Wo CW x H H') (h : SqL K H a xs) : SqL K H' a xs :=
  h.elim (fun h => .inl (h.elim (fun h => .inl (k.of h (fun _ _ z => nomatch z))) fun ⟨o, h⟩ => .inr ⟨o, k.of h (fun _ _ z => nomatch z)⟩)) fun h => .inr h
theorem Wo.sh {C CW x : Addr} {H H' : Hp} {p : Addr} {q : Rat} (k : Wo CW x H H') (ne : C ≠ CW) (h : ShQ C H p q) : ShQ C H' p q := by
  obtain ⟨dx, e⟩ := h
  refine ⟨dx, k.of e (fun d fs z => ?_)⟩
  injection z with z
  exact ne z
theorem Wo.bed {K : PySem.W.Frag} {C CW x : Addr} {H H' : Hp} {t : Addr} {b : Bed} (k : Wo CW x H H') (ne : C ≠ CW) (h : BedAt K C H t b) : BedAt K C H' t b := by
  obtain ⟨y, z, a, u, v⟩ := h
  exact ⟨y, z, k.tup a, k.sh ne u, k.sh ne v⟩
def spPartsG (K : PySem.W.Frag) (C : Addr) : Sp := fun vs H Q _ => ∃ (l b : Addr) (W : WebV), vs = [.ref l, .int (W.many : Int), .ref b] ∧ WParts K H l W.parts ∧ WBeds K C H b W.beds ∧ GoodWeb W ∧ ∀ H', Same H H' → Q (.bl true) H'
def spWInit (K : PySem.W.Frag) (C CW : Addr) : Sp := fun vs H Q _ => ∃ (w dx b p : Addr) (W : WebV), vs = [.ref w, .int (W.many : Int), .ref b, .ref p] ∧ H w = some (.ins CW dx []) ∧ WBeds K C H b W.beds ∧ WParts K H p W.parts ∧ GoodWeb W ∧
  ∀ H', WebAt K C CW H' w W → (∀ a o, a ≠ w → H a = some o → H' a = some o) → Q .non H'
/-- as spWInit; nothing that it holds is a list that was there -/
def KeepW (H H' : Hp) : Prop := ∀ b o, H b = some o → (∀ xs, o ≠ .lst xs) → H' b = some o
theorem KeepW.tup {K : PySem.W.Frag} {H H' : Hp} {a : Addr} {xs : List V} (k : KeepW H H') (h : SqT K H a xs) : SqT K H' a xs :=
  h.elim (fun h => .inl (h.elim (fun h => .inl (k _ _ h (fun _ z => nomatch z))) fun ⟨o, h⟩ => .inr ⟨o, k _ _ h (fun _ z => nomatch z)⟩)) fun h => .inr h
theorem KeepW.bed {K : PySem.W.Frag} {C : Addr} {H H' : Hp} {t : Addr} {b : Bed} (k : KeepW H H') (h : BedAt K C H t b) : BedAt K C H' t b := by
  obtain ⟨x, y, a, ⟨d1, u⟩, ⟨d2, v⟩⟩ := h
  exact ⟨x, y, k.tup a, ⟨d1, k _ _ u (fun _ z => nomatch z)⟩, ⟨d2, k _ _ v (fun _ z => nomatch z)⟩⟩
theorem keepw_put {H : Hp} {D : Addr} {xs : List V} {o : HO} (e : H D = some (.lst xs)) : KeepW H (upd H D o) := fun b u eb n => by
  rw [upd_ne (fun z => by rw [z, e] at eb; exact n _ (Option.some.inj eb).symm)]
  exact eb
def FreeOf (K : PySem.W.Frag) (C CW : Addr) (H H' : Hp) (w : Addr) (W : WebV) : Prop := ∀ (D : Addr) (xs : List V), H D = some (.lst xs) → ∀ ys : List V, WebAt K C CW (upd H' D (.lst ys)) w W
def spWInitF (K : PySem.W.Frag) (C CW : Addr) : Sp := fun vs H Q _ => ∃ (w dx b p : Addr) (W : WebV), vs = [.ref w, .int (W.many : Int), .ref b, .ref p] ∧ H w = some (.ins CW dx []) ∧ WBeds K C H b W.beds ∧ WParts K H p W.parts ∧ GoodWeb W ∧
  ∀ H', WebAt K C CW H' w W → FreeOf K C CW H H' w W → (∀ a o, a ≠ w → H a = some o → H' a = some o) → Q .non H'
theorem fn_weaken {P : Program} {w : World} {K : PySem.W.Frag} {mg : Str → Option Value} {base : Heap} {CX : CXT} {k : Nat} {f : Addr} {fd : FuncData} {ps : List Str} {sp sp' : Sp} (h : FnOk P w K mg base CX k f fd ps sp) (i : ∀ vs H Q E, sp' vs H Q E → sp vs H Q E) : FnOk P w K mg base CX k f fd ps sp' :=
  ⟨fun vs H Q E x => h.len vs H Q E (i vs H Q E x), fun A outer s H args us vs Q E room env binds rel wish => h.run A outer s H args us vs Q E room env binds rel (i vs H Q E wish)⟩
section
variable {P : Program} {w : World} {K : PySem.W.Frag} {mg : Str → Option Value} {base : Heap}
theorem scPart1 : FnScope ["thing", "many", "part"] ["thing", "many"] (defScope d_are_parts_of_one) := ⟨rfl, rfl, rfl, by decide +kernel, rfl, by decide +kernel, by decide +kernel⟩
theorem ok_part1 {f f1 C : Addr} {fd fd1 : FuncData} {tk : Tok} (F : Fun K "are_parts_of_one" "are_parts_of_one" d_are_parts_of_one f fd) (Y : TxtW mg C) (g1 : mg "MOST_OF_A_PART" = some (.int 9 tk))
    (A1 : At P w K mg base CX0 2 "is_between" ["thing", "least", "most"] spBetweenI f1 fd1) : FnOk P w K mg base CX0 3 f fd ["thing", "many"] (spPart1G K) := by
  refine F.ok scPart1 (fun vs H Q E h => ?_) (fun cdv A outer s H vs Q E hr h => ?_)
  · obtain ⟨_, _, _, rfl, _⟩ := h
    rfl
  · obtain ⟨t, n, ps, rfl, ht, g, q⟩ := h
    refine ⟨_, pss_cons (ps_if (PW.pt (pw_or (pt_not (pt_val (pe_callB call_isi (by rfl) Y.isi (by decide +kernel) (pa_cons (pv 0) (pa_cons (pe_bltn (v := .ty "tuple") (by rfl) Y.tuple (by decide +kernel) rfl) pa_nil)))))
          (pw_or1 (pt_cmpR op_ne (pe_callB call_len_seq (by rfl) Y.len PySem.boot_len (pa_cons (pv 0) pa_nil)) (pv 1) (nomark _))))) (pss_one (ps_ret pe_bl)) pss_nil)
      (pss_cons (ps_if (pt_not (pt_val (pe_callB (cr_all rfl) (by rfl) Y.all (by decide +kernel) (pa_cons
        (pe_lc (own := [("part", 2)]) (g := gName 2) (by rfl) scPart1.nd (pi_tup (pv 0)) (blkOk_by (own := [("part", 2)]) (N := ["thing", "many", "part"]) (sc := defScope d_are_parts_of_one) (by decide +kernel)) (fun _ _ _ _ _ => pg_name (i := 2) scPart1.nd rfl (.inl rfl)) (fun _ _ _ _ _ => pts_nil)
          (fun _ _ _ _ _ => pe_call A1.G hr rfl A1.m A1.k A1.b .nil pass0 (pa_cons (pv 2) (pa_cons pe_int (pa_cons (pe_glob (v := .int 9) rfl g1 ⟨tk, rfl⟩) pa_nil))))) pa_nil)))) (pss_one (ps_ret pe_bl)) pss_nil)
      (pss_one (ps_ret (pe_or (pe_cmpR op_eq (pv 1) pe_int (nomark _)) (pe_one (pe_callB (cr_any rfl) (by rfl) Y.any (by decide +kernel) (pa_cons
        (pe_lc (own := [("part", 2)]) (g := gName 2) (by rfl) scPart1.nd (pi_tup (pv 0)) (blkOk_by (own := [("part", 2)]) (N := ["thing", "many", "part"]) (sc := defScope d_are_parts_of_one) (by decide +kernel)) (fun _ _ _ _ _ => pg_name (i := 2) scPart1.nd rfl (.inl rfl)) (fun _ _ _ _ _ => pts_nil)
          (fun _ _ _ _ _ => pe_cmpR op_ne (pv 2) pe_int (nomark _))) pa_nil))))))), ?_⟩
    have lp : (ps.map natV).length = n := by rw [List.length_map, g.len]
    have few := g.few
    refine ⟨_, rfl, _, _, _, _, true, rfl, ClsV.ty _, ty_tup ht, kit_ty (by decide +kernel), true, rfl, iteF ?_⟩
    refine ⟨_, rfl, t, _, rfl, .inr ht, _, rfl, rfl, _, rfl, iteNS (by rw [lp]) ?_⟩
    refine ⟨_, rfl, t, rfl, ⟨_, ht⟩, fun D hD => ?_⟩
    refine lc_tup (K := K) (a := t) (xs := ps.map natV) (fun i M => M D = some (.lst ((List.replicate i true).map V.bl)) ∧ Same H M) ⟨upd_same, same1 hD⟩ ?_ ?_ ?_
    · rintro i M _ ⟨_, sm⟩
      exact Same.tup sm ht
    · rintro i x M hx ⟨eD, sm⟩
      rw [List.getElem?_map] at hx
      obtain ⟨k, hk, rfl⟩ := Option.map_eq_some_iff.mp hx
      have ki : i < ps.length := (List.getElem?_eq_some_iff.mp hk).1
      have k9 := g.le k (List.mem_of_getElem? hk)
      refine ⟨rfl, ?_⟩
      have de : (decide ((0 : Int) ≤ (k : Int)) && decide ((k : Int) ≤ 9)) = true := by
        rw [decide_eq_true (show (0 : Int) ≤ (k : Int) by omega), decide_eq_true (show (k : Int) ≤ 9 by omega)]
        rfl
      refine ⟨_, rfl, (k : Int), 0, 9, rfl, _, eD, (by rw [List.length_map, List.length_replicate]; exact Nat.lt_of_lt_of_le ki (Nat.le_trans few (show 12 ≤ sizeLine by decide))), ?_, fun b o e => ?_⟩
      · refine Eq.trans upd_same ?_
        rw [de, List.replicate_succ', List.map_append]
        rfl
      · rw [upd_ne (ne_of_none e hD)]
        exact sm _ _ e
    · rintro M ⟨eD, sm⟩
      refine ⟨D, _, rfl, SqL.of eD, ?_⟩
      rw [all_true]
      refine ⟨true, rfl, iteF ?_⟩
      refine ⟨_, rfl, rfl, _, rfl, ite2 (fun _ => q _ sm) (fun hn => ?_)⟩
      have tM := Same.tup sm ht
      refine ⟨_, rfl, t, rfl, ⟨_, tM⟩, fun D2 hD2 => ?_⟩
      refine lc_tup (K := K) (a := t) (xs := ps.map natV) (fun i N => N D2 = some (.lst (((ps.take i).map fun k => !decide (k = 0)).map V.bl)) ∧ Same M N) ⟨upd_same, same1 hD2⟩ ?_ ?_ ?_
      · rintro i N _ ⟨_, sN⟩
        exact Same.tup sN tM
      · rintro i x N hx ⟨eD2, sN⟩
        rw [List.getElem?_map] at hx
        obtain ⟨k, hk, rfl⟩ := Option.map_eq_some_iff.mp hx
        have ki : i < ps.length := (List.getElem?_eq_some_iff.mp hk).1
        refine ⟨rfl, ?_⟩
        refine ⟨_, rfl, rfl, _, eD2, (by rw [List.length_map, List.length_map, List.length_take]; exact Nat.lt_of_le_of_lt (Nat.min_le_left _ _) (Nat.lt_of_lt_of_le ki (Nat.le_trans few (show 12 ≤ sizeLine by decide)))), ?_, fun b o e => ?_⟩
        · have ek : ps[i] = k := Option.some.inj ((List.getElem?_eq_getElem ki).symm.trans hk)
          have ed : decide (natV k = V.int 0) = decide (k = 0) := decide_eq_decide.mpr ⟨fun z => by
            have z : ((k : Nat) : Int) = 0 := V.int.inj z
            omega, fun z => by rw [z]; rfl⟩
          refine Eq.trans upd_same ?_
          rw [List.take_succ_eq_append_getElem ki, List.map_append, List.map_append, ek, ed]
          rfl
        · rw [upd_ne (ne_of_none e hD2)]
          exact sN _ _ e
      · rintro N ⟨eD2, sN⟩
        rw [List.length_map, List.take_length] at eD2
        refine ⟨D2, _, rfl, SqL.of eD2, ?_⟩
        have ha : ((ps.map fun k => !decide (k = 0)).any id) = true := by
          rcases g.some_ with z | ⟨k, hk, k0⟩
          · exact absurd (decide_eq_true (by rw [z]; rfl)) hn
          · rw [List.any_eq_true]
            exact ⟨true, List.mem_map.mpr ⟨k, hk, by simp [k0]⟩, rfl⟩
        rw [ha]
        exact q _ (sm.trans sN)
abbrev partsN : List Str := ["things", "many", "beds", "starts", "bed", "place", "thing"]
theorem scParts : FnScope partsN ["things", "many", "beds"] (defScope d_are_parts) := ⟨rfl, rfl, rfl, by decide +kernel, rfl, by decide +kernel, by decide +kernel⟩
theorem ok_partsG {f f1 C : Addr} {fd fd1 : FuncData} (F : Fun K "are_parts" "are_parts" d_are_parts f fd) (Y : TxtW mg C)
    (A1 : At P w K mg base CX0 3 "are_parts_of_one" ["thing", "many"] (spPart1G K) f1 fd1) : FnOk P w K mg base CX0 4 f fd ["things", "many", "beds"] (spPartsG K C) := by
  refine F.ok scParts (fun vs H Q E h => ?_) (fun cdv A outer s H vs Q E hr h => ?_)
  · obtain ⟨_, _, _, rfl, _⟩ := h
    rfl
  · obtain ⟨l, b, W, rfl, ⟨ts, hl, hts⟩, ⟨us, hb, hus⟩, g, q⟩ := h
    refine ⟨_, pss_cons (ps_if (PW.pt (pw_or (pt_not (pt_val (pe_callB call_isi (by rfl) Y.isi (by decide +kernel) (pa_cons (pv 0) (pa_cons (pe_bltn (v := .ty "list") (by rfl) Y.list (by decide +kernel) rfl) pa_nil)))))
          (pw_or1 (pt_cmpR op_ne (pe_callB call_len_seq (by rfl) Y.len PySem.boot_len (pa_cons (pv 0) pa_nil)) (pv 1) (nomark _))))) (pss_one (ps_ret pe_bl)) pss_nil)
      (pss_cons (ps_set (i := 3) scParts.nd rfl (Or.inr rfl) (pe_lc (own := [("bed", 4)]) (g := gName 4) (by rfl) scParts.nd (pi_list (pv 2)) (blkOk_by (own := [("bed", 4)]) (N := partsN) (sc := defScope d_are_parts) (by decide +kernel)) (fun _ _ _ _ _ => pg_name (i := 4) scParts.nd rfl (.inl rfl)) (fun _ _ _ _ _ => pts_nil)
          (fun _ _ _ _ _ => pe_ix (show IxR _ (rIxT K) from ix_tup) (pv 4) pe_int (fun _ _ => rfl))))
      (pss_one (ps_ret (pe_callB (cr_all rfl) (by rfl) Y.all (by decide +kernel) (pa_cons
          (pe_lc (own := [("place", 5), ("thing", 6)]) (g := gTup K 2 (gCons (gName 5) (gCons (gName 6) gNil))) (by rfl) scParts.nd (pi_enum (by rfl) Y.enumerate (pa_cons (pv 0) pa_nil)) (blkOk_by (own := [("place", 5), ("thing", 6)]) (N := partsN) (sc := defScope d_are_parts) (by decide +kernel))
            (fun _ _ _ _ _ => pg_tup (by rfl) (pgs_cons (pg_name (i := 5) scParts.nd rfl (.inl rfl)) (pgs_cons (pg_name (i := 6) scParts.nd rfl (.inl rfl)) pgs_nil))) (fun _ _ _ _ _ => pts_nil)
            (fun _ _ _ _ _ => pe_call A1.G hr rfl A1.m A1.k A1.b .nil pass0 (pa_cons (pv 6) (pa_cons (show PE _ _ (tBM K "list" (rCntI K) (tVar 3) (tCons (tVar 5) tNil)) from pe_bm PySem.F.plainAttrs_list PySem.F.slot_list_count PySem.F.type_list_count mt_lcount (pv 3) (pa_cons (pv 5) pa_nil)) pa_nil)))) pa_nil)))))
      , ?_⟩
    have m8 := g.m8
    have pl := g.plen
    have lt : ts.length = W.parts.length := hts.len
    have lu : us.length = W.beds.length := hus.len
    have few := g.few
    refine ⟨_, rfl, _, _, _, _, true, rfl, ClsV.ty _, ty_lst hl, kit_ty (by decide +kernel), true, rfl, iteF ?_⟩
    refine ⟨_, rfl, l, _, rfl, .inl hl, _, rfl, rfl, _, rfl, iteNS (by rw [List.length_map, lt, pl]) ?_⟩
    refine ⟨_, rfl, b, rfl, ⟨_, hb⟩, fun S hS => ?_⟩
    refine lc_list (K := K) (a := b) (xs := us.map V.ref) (fun i N => N S = some (.lst ((intsOf (W.beds.take i)).map V.int)) ∧ Same H N) ⟨upd_same, same1 hS⟩ ?_ ?_ ?_
    · rintro i N _ ⟨_, sN⟩
      exact sN.seq hb
    · rintro i x N hx ⟨eS, sN⟩
      rw [List.getElem?_map] at hx
      obtain ⟨t, ht, rfl⟩ := Option.map_eq_some_iff.mp hx
      have il : i < W.beds.length := by
        have := (List.getElem?_eq_some_iff.mp ht).1
        omega
      have hbi : W.beds[i]? = some W.beds[i] := List.getElem?_eq_getElem il
      obtain ⟨_, _, q1, _, _⟩ := (hus.all i t _ ht hbi).mono sN
      refine ⟨rfl, ?_⟩
      refine ⟨_, rfl, t, _, _, _, rfl, rfl, q1, at_k (by decide) rfl, ?_⟩
      refine ⟨_, eS, ?_, ?_, fun a o e => ?_⟩
      · unfold intsOf
        rw [List.length_map, List.length_map, List.length_take]
        exact Nat.lt_of_le_of_lt (Nat.min_le_left _ _) (Nat.lt_of_lt_of_le il (Nat.le_trans few (show 12 ≤ sizeLine by decide)))
      · unfold intsOf
        rw [List.take_succ_eq_append_getElem il, List.map_append, List.map_append]
        exact upd_same
      · rw [upd_ne (ne_of_none e hS)]
        exact sN _ _ e
    · rintro N ⟨eS, sN⟩
      rw [List.length_map, lu, List.take_length] at eS
      have hlN := sN.seq hl
      refine ⟨_, rfl, l, _, rfl, hlN, fun D hD => ?_⟩
      refine lc_it (walk_enum (K := K) (a := l) (xs := ts.map V.ref)) (fun i M => M D = some (.lst ((List.replicate i true).map V.bl)) ∧ Same N M) ⟨upd_same, same1 hD⟩ ?_ ?_ ?_
      · rintro i M _ ⟨_, sM⟩
        exact sM.seq hlN
      · rintro i x M M' hi ⟨eD, sM⟩ ⟨T, x1, x2, rfl, hT, rfl, e1, e2⟩
        obtain rfl := Option.some.inj e1
        have e2 : (ts.map V.ref)[i]? = some x2 := e2
        rw [List.getElem?_map] at e2
        obtain ⟨t, ht, rfl⟩ := Option.map_eq_some_iff.mp e2
        have il : i < W.parts.length := by
          have := (List.getElem?_eq_some_iff.mp ht).1
          omega
        have hpi : W.parts[i]? = some W.parts[i] := List.getElem?_eq_getElem il
        have s3 : Same M (upd M T (.tup [.int (i : Nat), .ref t])) := same1 hT
        refine ⟨T, _, rfl, SqT.of upd_same, rfl, _, _, rfl, _, _, rfl, rfl, rfl, ?_⟩
        generalize upd M T (.tup [.int (i : Nat), .ref t]) = M3 at *
        have sNM := sM.trans s3
        have eS3 := sNM _ _ eS
        refine ⟨_, rfl, _, rfl, .inl ⟨rfl, _, SqL.of eS3⟩, _, rfl, S, _, (i : Int), rfl, rfl, SqL.of eS3, ?_⟩
        refine ⟨t, (intsOf W.beds).count (i : Int), W.parts[i], rfl, Same.tup (sN.trans sNM) (hts.all i t _ ht hpi), ?_, fun M4 s4 => ?_⟩
        · rw [intsOf_map, count_cast]
          exact g.part i _ hpi
        · have s34 := s3.trans s4
          refine ⟨_, s34 _ _ eD, (by rw [List.length_map, List.length_replicate]; exact Nat.lt_of_lt_of_le il (Nat.le_trans (show W.parts.length ≤ 8 by omega) (show 8 ≤ sizeLine by decide))), ?_, fun a o e => ?_⟩
          · rw [List.replicate_succ', List.map_append]
            exact upd_same
          · rw [upd_ne (ne_of_none e hD)]
            exact s34 _ _ (sM _ _ e)
      · rintro M ⟨eD, sM⟩
        refine ⟨D, _, rfl, SqL.of eD, ?_⟩
        rw [all_true]
        exact q _ (sN.trans sM)
theorem scWInit : FnScope ["self", "many", "beds", "parts"] ["self", "many", "beds", "parts"] (defScope d_Web_init) := ⟨rfl, rfl, rfl, by decide +kernel, rfl, by decide +kernel, by decide +kernel⟩
theorem ok_winitF {f f1 f2 f3 C CW : Addr} {fd fd1 fd2 fd3 : FuncData} {tk : Tok} (F : Fun K "__init__" "Web.__init__" d_Web_init f fd) (TW : CrsW K CW) (ne : C ≠ CW) (Y : TxtW mg C) (g1 : mg "MOST_PLACES" = some (.int 8 tk))
    (A1 : At P w K mg base CX0 2 "is_between" ["thing", "least", "most"] spBetweenI f1 fd1) (A2 : At P w K mg base CX0 4 "are_beds" ["things", "many"] (spBedsG K C) f2 fd2) (A3 : At P w K mg base CX0 4 "are_parts" ["things", "many", "beds"] (spPartsG K C) f3 fd3) :
    FnOk P w K mg base CX0 5 f fd ["self", "many", "beds", "parts"] (spWInitF K C CW) := by
  refine F.ok scWInit (fun vs H Q E h => ?_) (fun cdv A outer s H vs Q E hr h => ?_)
  · obtain ⟨_, _, _, _, _, rfl, _⟩ := h
    rfl
  · obtain ⟨x, dx, b, p, W, rfl, hx, hb, hp, g, q⟩ := h
    have r2 : Room 2 _ := hr.mono (by decide)
    refine ⟨_, pss_cons (ps_if (pt_not (pt_val (pe_call A1.G r2 rfl A1.m A1.k A1.b .nil pass0 (pa_cons (pv 1) (pa_cons pe_int (pa_cons (pe_glob (v := .int 8) rfl g1 ⟨tk, rfl⟩) pa_nil)))))) (pss_one ps_never) pss_nil)
      (pss_cons (ps_if (pt_not (pt_val (pe_call A2.G hr rfl A2.m A2.k A2.b .nil pass0 (pa_cons (pv 2) (pa_cons (pv 1) pa_nil))))) (pss_one ps_never) pss_nil)
      (pss_cons (ps_if (pt_not (pt_val (pe_call A3.G hr rfl A3.m A3.k A3.b .nil pass0 (pa_cons (pv 3) (pa_cons (pv 1) (pa_cons (pv 2) pa_nil)))))) (pss_one ps_never) pss_nil)
      (pss_cons (ps_fld (pv 0) (pv 1) rfl)
      (pss_cons (ps_fld (pv 0) (pe_callTy call_list_of (by rfl) Y.list (by decide +kernel) (pa_cons (pv 2) pa_nil)) rfl)
      (pss_one (ps_fld (pv 0) (pe_callTy call_list_of (by rfl) Y.list (by decide +kernel) (pa_cons (pv 3) pa_nil)) rfl)))))), ?_⟩
    have m1 := g.m1
    have m8 := g.m8
    refine ⟨_, rfl, (W.many : Int), 1, 8, rfl, ?_⟩
    rw [decide_eq_true (show (1 : Int) ≤ (W.many : Int) by omega), decide_eq_true (show (W.many : Int) ≤ 8 by omega)]
    refine ⟨true, rfl, iteF ?_⟩
    refine ⟨_, rfl, _, rfl, b, W.many, W.beds, rfl, hb, ⟨g.few, g.bed, g.sorted, g.two⟩, fun H1 s1 => ⟨true, rfl, iteF ?_⟩⟩
    refine ⟨_, rfl, _, rfl, _, rfl, p, b, W, rfl, hp.mono s1, hb.mono s1, g, fun H2 s2 => ⟨true, rfl, iteF ?_⟩⟩
    have s12 := s1.trans s2
    have hx2 := s12 _ _ hx
    obtain ⟨us, ub, uall⟩ := hb.mono s12
    obtain ⟨ts, tb, tall⟩ := hp.mono s12
    refine ⟨_, rfl, _, rfl, x, CW, dx, _, rfl, hx2, TW.cl, TW.nm, (by show 0 < 1000; decide), ?_⟩
    have kx : Keep2 H2 (upd H2 x (.ins CW dx (putF "many" (.int (W.many : Int)) []))) := keep2_ins hx2
    have e1 : (upd H2 x (.ins CW dx (putF "many" (.int (W.many : Int)) [])) : Hp) x = some (.ins CW dx (putF "many" (.int (W.many : Int)) [])) := upd_same
    have o1 : ∀ a o, a ≠ x → H2 a = some o → upd H2 x (.ins CW dx (putF "many" (.int (W.many : Int)) [])) a = some o := fun a o n e => by rw [upd_ne n]; exact e
    generalize upd H2 x (.ins CW dx (putF "many" (.int (W.many : Int)) [])) = H3 at *
    have ub3 := kx.seq ub
    have tb3 := kx.seq tb
    have ua3 := uall.mono fun a c _ _ r => kx.bed r
    have ta3 := tall.mono fun a c _ _ r => (kx.tup r : PartsAt K H3 a c)
    refine ⟨_, rfl, b, _, rfl, .inl ub3, fun lb hlb => ?_⟩
    have s4 : Same H3 (upd H3 lb (.lst (us.map V.ref))) := same1 hlb
    have eb : (upd H3 lb (.lst (us.map V.ref)) : Hp) lb = some (.lst (us.map V.ref)) := upd_same
    have e4 := s4 _ _ e1
    generalize upd H3 lb (.lst (us.map V.ref)) = H4 at *
    refine ⟨_, rfl, x, CW, dx, _, rfl, e4, TW.cl, TW.nb, (by show 1 < 1000; decide), ?_⟩
    have nbx : lb ≠ x := fun z => by rw [z, e4] at eb; cases eb
    have k5 : ∀ a o, a ≠ x → H4 a = some o → upd H4 x (.ins CW dx (putF "beds" (.ref lb) (putF "many" (.int (W.many : Int)) []))) a = some o := fun a o n e => by rw [upd_ne n]; exact e
    have e5 : (upd H4 x (.ins CW dx (putF "beds" (.ref lb) (putF "many" (.int (W.many : Int)) []))) : Hp) x = some (.ins CW dx (putF "beds" (.ref lb) (putF "many" (.int (W.many : Int)) []))) := upd_same
    generalize upd H4 x (.ins CW dx (putF "beds" (.ref lb) (putF "many" (.int (W.many : Int)) []))) = H5 at *
    have w45 : Wo CW x H4 H5 := ⟨⟨_, _, e4⟩, k5⟩
    have tb5 := w45.seq (s4.seq tb3)
    have ua5 := ua3.mono fun a c _ _ r => w45.bed ne (r.mono s4)
    have ta5 := ta3.mono fun a c _ _ r => (w45.tup (Same.tup s4 r) : PartsAt K H5 a c)
    refine ⟨_, rfl, p, _, rfl, .inl tb5, fun lp hlp => ?_⟩
    have s6 : Same H5 (upd H5 lp (.lst (ts.map V.ref))) := same1 hlp
    have ep : (upd H5 lp (.lst (ts.map V.ref)) : Hp) lp = some (.lst (ts.map V.ref)) := upd_same
    have e6 := s6 _ _ e5
    have eb6 := s6 _ _ (k5 _ _ nbx eb)
    generalize upd H5 lp (.lst (ts.map V.ref)) = H6 at *
    refine ⟨_, rfl, x, CW, dx, _, rfl, e6, TW.cl, TW.np, (by show 2 < 1000; decide), ?_⟩
    have npx : lp ≠ x := fun z => by rw [z, e6] at ep; cases ep
    have k7 : ∀ a o, a ≠ x → H6 a = some o → upd H6 x (.ins CW dx (webF (W.many : Int) lb lp)) a = some o := fun a o n e => by rw [upd_ne n]; exact e
    have w67 : Wo CW x H6 (upd H6 x (.ins CW dx (webF (W.many : Int) lb lp))) := ⟨⟨_, _, e6⟩, k7⟩
    have hub : All2 (BedAt K C (upd H6 x (.ins CW dx (webF (W.many : Int) lb lp)))) us W.beds := ua5.mono fun a c _ _ r => w67.bed ne (r.mono s6)
    have htp : All2 (PartsAt K (upd H6 x (.ins CW dx (webF (W.many : Int) lb lp)))) ts W.parts := ta5.mono fun a c _ _ r => w67.tup (Same.tup s6 r)
    refine q _ ⟨dx, lb, lp, upd_same, ⟨us, k7 _ _ nbx eb6, hub⟩, ⟨ts, k7 _ _ npx ep, htp⟩, g⟩ (fun D xs hD ys => ?_) (fun a o n e => ?_)
    · have nDx : D ≠ x := fun z => by rw [z, hx] at hD; cases hD
      have e2 := s12 _ _ hD
      have e3 := o1 _ _ nDx e2
      have e4 := s4 _ _ e3
      have e5 := k5 _ _ nDx e4
      have nl : lb ≠ D := fun z => by rw [z] at hlb; rw [e3] at hlb; cases hlb
      have np : lp ≠ D := fun z => by rw [z] at hlp; rw [e5] at hlp; cases hlp
      have kp : KeepW (upd H6 x (.ins CW dx (webF (W.many : Int) lb lp))) (upd (upd H6 x (.ins CW dx (webF (W.many : Int) lb lp))) D (.lst ys)) := keepw_put (k7 _ _ nDx (s6 _ _ e5))
      exact ⟨dx, lb, lp, by rw [upd_ne (Ne.symm nDx)]; exact upd_same, ⟨us, by rw [upd_ne nl]; exact k7 _ _ nbx eb6, hub.mono fun a c _ _ r => kp.bed r⟩, ⟨ts, by rw [upd_ne np]; exact k7 _ _ npx ep, htp.mono fun a c _ _ r => (kp.tup r : PartsAt K _ a c)⟩, g⟩
    · exact k7 _ _ n (s6 _ _ (k5 _ _ n (s4 _ _ (o1 _ _ n (s12 _ _ e)))))
theorem ok_winit {f f1 f2 f3 C CW : Addr} {fd fd1 fd2 fd3 : FuncData} {tk : Tok} (F : Fun K "__init__" "Web.__init__" d_Web_init f fd) (TW : CrsW K CW) (ne : C ≠ CW) (Y : TxtW mg C) (g1 : mg "MOST_PLACES" = some (.int 8 tk))
    (A1 : At P w K mg base CX0 2 "is_between" ["thing", "least", "most"] spBetweenI f1 fd1) (A2 : At P w K mg base CX0 4 "are_beds" ["things", "many"] (spBedsG K C) f2 fd2) (A3 : At P w K mg base CX0 4 "are_parts" ["things", "many", "beds"] (spPartsG K C) f3 fd3) :
    FnOk P w K mg base CX0 5 f fd ["self", "many", "beds", "parts"] (spWInit K C CW) :=
  fn_weaken (ok_winitF F TW ne Y g1 A1 A2 A3) fun vs H Q E ⟨w, dx, b, p, W, e, e1, e2, e3, g, q⟩ => ⟨w, dx, b, p, W, e, e1, e2, e3, g, fun H' h _ k => q H' h k⟩
end
end K72

namespace K72
open PySem PySem.Spec PyProof.Rows L2
/-! ### zip of lists and tuples, in any order -/
/-- a tuple (true) or a list (false) to be read -/
def SqK (K : PySem.W.Frag) : Bool → Hp → Addr → List V → Prop
  | true, H, a, xs => SqT K H a xs
  | false, H, a, xs => SqL K H a xs
def HeapK : Bool → Heap → Addr → Array Value → Prop
  | true, h, a, its => h.IsTuple a its
  | false, h, a, its => h.IsList a its
def IterK : Bool → Heap → Addr → Addr → Nat → Prop
  | true, h, it, a, i => h.IsTupleIter it a i
  | false, h, it, a, i => h.IsListIter it a i
def iterO : Bool → Addr → Obj
  | true, a => { cls := .type "tuple_iterator", data := .fields #[.ref a, .int 0 0] }
  | false, a => { cls := .type "list_iterator", data := .fields #[.ref a, .int 0 0] }
theorem beginsK (k : Bool) (a : Addr) (its : Array Value) : Begins (.ref a) (iterO k a) (fun h => HeapK k h a its) := by
  cases k
  · exact begins_list a its
  · exact begins_tuple a its
theorem drawsK {P : Program} {w : World} {A : Around} (k : Bool) (hh : A.handled = none) (it a : Addr) (ne : a ≠ it) (its : Array Value) :
    Draws P w A it [it, a] its.size (fun i v => its[i]? = some v) (fun i h => IterK k h it a i ∧ HeapK k h a its) := by
  cases k
  · exact Draws.list hh it a ne its
  · exact Draws.tuple hh it a ne its
theorem IterK.obj {k : Bool} {h : Heap} {it a : Addr} {i : Nat} (e : IterK k h it a i) : ∃ o, h.get? it = some o ∧ o.data = .fields #[.ref a, .int i 0] := by
  cases k <;> (obtain ⟨o, x, _, y⟩ := e; exact ⟨o, x, y⟩)
theorem IterK.at_ {k : Bool} {h h' : Heap} {it a : Addr} {i : Nat} (e : IterK k h it a i) (f : ∀ o, h.get? it = some o → h'.get? it = some o) : IterK k h' it a i := by
  cases k
  · exact Heap.IsListIter.at e f
  · exact Heap.IsTupleIter.at e f
theorem IterK.new {k : Bool} {h : Heap} {it a : Addr} (e : h.get? it = some (iterO k a)) : IterK k h it a 0 := by
  cases k <;> exact ⟨_, e, rfl, rfl⟩
theorem SqK.ext {K : PySem.W.Frag} {k : Bool} {H H' : Hp} {a : Addr} {xs : List V} (h : SqK K k H a xs) (s : Same H H') : SqK K k H' a xs := by
  cases k
  · exact s.seq h
  · exact Same.tup s h
section
variable {X : Cx} {pins : List (Addr × Obj)} {σ : L2.St} {H : Hp} {s : Shared}
theorem inv_sqK (I : Inv X pins σ H s) {k : Bool} {a : Addr} {xs : List V} (h : SqK X.K k H a xs) : ∃ its, Vals xs its ∧ HeapK k s.heap a its.toArray ∧ a < s.heap.objs.size := by
  cases k
  · obtain ⟨its, rv, p, _⟩ := I.list h
    exact ⟨its, rv, p.isList, p.lt⟩
  · obtain ⟨its, rv, p, _⟩ := I.tuple h
    obtain ⟨o, e, _⟩ := id p
    exact ⟨its, rv, p, Heap.lt_size e⟩
theorem inv_injK (I : Inv X pins σ H s) {k : Bool} {a : Addr} {xs ys : List V} (h : SqK X.K k H a xs) (g : SqK X.K k H a ys) : xs = ys := by
  cases k
  · exact I.list_inj h g
  · exact I.tuple_inj h g
end
def ItzG (K : PySem.W.Frag) (j k : Bool) (a b : Addr) : It where
  go i H := ∃ (xs ys : List V) (x y : V), SqK K j H a xs ∧ SqK K k H b ys ∧ xs[i]? = some x ∧ ys[i]? = some y
  yld i H v H' := ∃ (t : Addr) (x y : V), v = .ref t ∧ H t = none ∧ H' = upd H t (.tup [x, y]) ∧ (∀ us, SqK K j H a us → us[i]? = some x) ∧ (∀ us, SqK K k H b us → us[i]? = some y)
  stop i H := ∃ xs ys : List V, SqK K j H a xs ∧ SqK K k H b ys ∧ i ≤ xs.length ∧ i ≤ ys.length ∧ (i = xs.length ∨ i = ys.length)
def ZipAt (j k : Bool) (a b z TI TO i1 i2 : Addr) (i : Nat) (h : Heap) : Prop :=
  IsZip h z TI TO .none ∧ IsTupOf2 h TI (.ref i1) (.ref i2) ∧ (∃ u v, IsTupOf2 h TO u v) ∧ IterK j h i1 a i ∧ IterK k h i2 b i
theorem zg_turn {P : Program} {w : World} {K : PySem.W.Frag} {elts : List Expr} {kk : Nat} {tp : Pos} {j k : Bool} {a b z TI TO i1 i2 : Addr} (S : ZipSep2 z TI TO i1 i2 [i1, a] [i2, b]) (n1 : a ≠ i1) (n2 : b ≠ i2) :
    Turn P w K (.Tuple elts kk tp) (ItzG K j k a b) [z, TI, TO, i1, i2] z (ZipAt j k a b z TI TO i1 i2) where
  mem := List.mem_cons_self ..
  obj i h := by
    rintro ⟨e1, e2, ⟨u, v, e3⟩, e4, e5⟩ c hc
    obtain ⟨o4, g4, d4⟩ := e4.obj
    obtain ⟨o5, g5, d5⟩ := e5.obj
    have q : c = z ∨ c = TI ∨ c = TO ∨ c = i1 ∨ c = i2 := by simpa using hc
    rcases q with q | q | q | q | q <;> rw [q]
    · exact ⟨_, e1, fun v q => nomatch q⟩
    · exact ⟨_, e2, fun v q => nomatch q⟩
    · exact ⟨_, e3, fun v q => nomatch q⟩
    · exact ⟨o4, g4, fun v q => by rw [d4] at q; cases q⟩
    · exact ⟨o5, g5, fun v q => by rw [d5] at q; cases q⟩
  keep i h h' := by
    rintro ⟨e1, e2, ⟨u, v, e3⟩, e4, e5⟩ f
    exact ⟨f z (by simp) _ e1, f TI (by simp) _ e2, ⟨u, v, f TO (by simp) _ e3⟩, e4.at_ fun o q => f i1 (by simp) o q, e5.at_ fun o q => f i2 (by simp) o q⟩
  item := by
    intro X hP hw hK hc i pins s σ H E I hf st hg
    subst hP hw hK
    obtain ⟨e1, e2, ⟨u0, v0, e3⟩, e4, e5⟩ := st
    obtain ⟨xs, ys, x, y, qx, qy, hx, hy⟩ := hg
    obtain ⟨its, rv, p, _⟩ := inv_sqK I qx
    obtain ⟨its2, rv2, p2, _⟩ := inv_sqK I qy
    obtain ⟨u, hu, ru⟩ := rv.get hx
    obtain ⟨u2, hu2, ru2⟩ := rv2.get hy
    have l1 : i < its.toArray.size := by
      have := (List.getElem?_eq_some_iff.mp hu).1
      simpa using this
    have l2 : i < its2.toArray.size := by
      have := (List.getElem?_eq_some_iff.mp hu2).1
      simpa using this
    have zl : z < s.heap.objs.size := Heap.lt_size e1
    have hd : X.A.in1.handled = none := I.ok.hd hc
    have zi1 : z ≠ i1 := fun q => S.zf1 (by rw [q]; simp)
    have zi2 : z ≠ i2 := fun q => S.zf2 (by rw [q]; simp)
    have o4 := e4.obj
    have o5 := e5.obj
    refine wpAny_pyNext_zipD2_item S (drawsK j hd i1 a n1 its.toArray) (drawsK k hd i2 b n2 its2.toArray) e1 e2 e3 ⟨e4, p⟩ ⟨e5, p2⟩ l1 l2 fun y1 y2 h' tk hy1 hy2 zo to s1 s2 hT hsz hk => ?_
    have g1 : y1 = u := by
      have hy1 : its.toArray[i]? = some y1 := hy1
      have hy1 : its[i]? = some y1 := by simpa using hy1
      rw [hu] at hy1
      exact (Option.some.inj hy1).symm
    have g2 : y2 = u2 := by
      have hy2 : its2.toArray[i]? = some y2 := hy2
      have hy2 : its2[i]? = some y2 := by simpa using hy2
      rw [hu2] at hy2
      exact (Option.some.inj hy2).symm
    subst g1 g2
    refine ⟨_, rfl, wpAny_letOwnedTupleGo_zip (s := { s with heap := h', toks := tk }) zo fun h2 z2 sb => ?_⟩
    have t2 : h2.get? s.heap.objs.size = some { cls := .type "tuple", data := .seq #[y1, y2] } := (sb.2 _ (Nat.ne_of_gt zl)).trans hT
    have nw : ObjOk X.prog X.w (upd H s.heap.objs.size (.tup [x, y])) h2 s.heap.objs.size (.tup [x, y]) :=
      ⟨(by show 2 ≤ sizeLine; decide), [y1, y2], .cons ru (.cons ru2 .nil), ⟨_, t2, rfl, _, rfl⟩⟩
    have I2 : Inv X pins σ (upd H s.heap.objs.size (.tup [x, y])) { s with heap := h2, toks := tk } := by
      refine I.turnedNew (ch := [z, TI, TO, i1, i2]) (fun c oc hb q => ?_) hf (Nat.le_refl _) nw
      have c1 : c ≠ z := fun q => hb (by simp [q])
      exact (sb.2 c c1).trans (hk c oc c1 (fun q => hb (by simp [q])) (fun q => hb (by simp [q])) (fun q => hb (by simp [q])) q)
    refine ⟨.ref s.heap.objs.size, _, I2, rfl, ⟨_, x, y, rfl, I.hok.fresh (Nat.le_refl _), rfl, fun us hq => ?_, fun us hq => ?_⟩, ⟨z2, ?_, ⟨y1, y2, ?_⟩, ?_, ?_⟩, fun c hcm => ?_⟩
    · rw [inv_injK I hq qx]
      exact hx
    · rw [inv_injK I hq qy]
      exact hy
    · exact (sb.2 _ S.TIz).trans (hk _ _ S.TIz S.TITO S.TIi1 S.TIi2 e2)
    · exact (sb.2 _ S.TOz).trans to
    · exact s1.1.at_ fun o q => (sb.2 _ (Ne.symm zi1)).trans q
    · exact s2.1.at_ fun o q => (sb.2 _ (Ne.symm zi2)).trans q
    · have lt : c < s.heap.objs.size := by
        have q : c = z ∨ c = TI ∨ c = TO ∨ c = i1 ∨ c = i2 := by simpa using hcm
        rcases q with q | q | q | q | q <;> rw [q]
        · exact zl
        · exact Heap.lt_size e2
        · exact Heap.lt_size e3
        · obtain ⟨_, q, _⟩ := o4
          exact Heap.lt_size q
        · obtain ⟨_, q, _⟩ := o5
          exact Heap.lt_size q
      rw [upd_ne (Nat.ne_of_lt lt)]
      exact (hf c hcm).1
  done := by
    intro X hP hw hK hc i pins s σ H E I hf st hg
    subst hP hw hK
    obtain ⟨e1, e2, ⟨u0, v0, e3⟩, e4, e5⟩ := st
    obtain ⟨xs, ys, qx, qy, h1, h2, he⟩ := hg
    obtain ⟨its, rv, p, _⟩ := inv_sqK I qx
    obtain ⟨its2, rv2, p2, _⟩ := inv_sqK I qy
    have a1 : its.toArray.size = xs.length := by
      have := rv.length
      simp
      omega
    have a2 : its2.toArray.size = ys.length := by
      have := rv2.length
      simp
      omega
    have hd : X.A.in1.handled = none := I.ok.hd hc
    refine wpAny_pyNext_zipD2_end S (drawsK j hd i1 a n1 its.toArray) (drawsK k hd i2 b n2 its2.toArray) e1 e2 e3 ⟨e4, p⟩ ⟨e5, p2⟩ (by omega) (by omega) (by omega) fun h' tk hk => ?_
    refine ⟨rfl, I.turnedL (t' := tk) (ch := [z, TI, TO, i1, i2]) (fun c o hb q => ?_) hf⟩
    exact hk c o (fun q => hb (by simp [q])) (fun q => hb (by simp [q])) (fun q => hb (by simp [q])) (fun q => hb (by simp [q])) q
  self _ i s Q E st h := wpAny_pyIter_zip st.1 h
def iZipG (K : PySem.W.Frag) (j k : Bool) (ta : TA) : TI := fun σ H R => ta σ H fun vs H1 => ∃ a b xs ys, vs = [.ref a, .ref b] ∧ SqK K j H1 a xs ∧ SqK K k H1 b ys ∧ R (ItzG K j k a b) H1
theorem pi_zipG {X : Cx} (j k : Bool) {e e2 : Expr} {ta : TA} {p pos tp : Pos} {elts : List Expr} {kk : Nat} (hg : Gl X "zip") (hm : X.mg "zip" = none) (ha : PA X [e, e2] ta)
    (hs : starEach [e, e2] X.env = (false, eval e X.env) :: starEach [e2] X.env := by rfl) (hpl : (backTo pos (starEach [e2] X.env)).any (·.1) = false := by rfl) :
    PI X (.Tuple elts kk tp) (.Call (.Name "zip" p) [e, e2] [] pos) (iZipG X.K j k ta) := by
  constructor
  intro pins s σ H R I h
  refine Call_ (ld_blt I hg hm PyProof.Rows.boot_zip (PyProof.Rows.callWith_type1 (thn (ha.run pos pins s σ H _ I h) fun us s1 ⟨vs, H1, I1, r1, q1⟩ => ?_) hs hpl))
  obtain ⟨a, b, xs, ys, ex, qx, qy, q⟩ := q1
  subst ex
  rcases r1 with _ | ⟨r, rr⟩
  rcases rr with _ | ⟨r', rr⟩
  cases rr
  cases r
  cases r'
  obtain ⟨its, rv, p1, la⟩ := inv_sqK I1 qx
  obtain ⟨its2, rv2, p2, lb⟩ := inv_sqK I1 qy
  refine zip_begins2 (beginsK j a its.toArray) (beginsK k b its2.toArray) p1 p2 fun h' hz hTI hTO h1 h2 hsz hk => wpAny_pyIter_zip hz ?_
  have I2 : Inv X pins σ H1 { s1 with heap := h' } := I1.kept (t' := s1.toks) hk
  have S := zip_sep2 (N := s1.heap.objs.size) (fp1 := [a]) (fp2 := [b]) (fun c hc => by rw [List.mem_singleton.mp hc]; exact la) (fun c hc => by rw [List.mem_singleton.mp hc]; exact lb)
  have nb : b ≠ s1.heap.objs.size + 1 := Nat.ne_of_lt (Nat.lt_succ_of_lt lb)
  refine ⟨s1.heap.objs.size + 4, [s1.heap.objs.size + 4, s1.heap.objs.size + 2, s1.heap.objs.size + 3, s1.heap.objs.size, s1.heap.objs.size + 1], _, _, H1, rfl, I2, zg_turn (j := j) (k := k) S (Nat.ne_of_lt la) nb, ⟨hz, hTI, ⟨_, _, hTO⟩, .new h1, .new h2⟩, fun c hcm => ?_, q⟩
  have e : c = s1.heap.objs.size + 4 ∨ c = s1.heap.objs.size + 2 ∨ c = s1.heap.objs.size + 3 ∨ c = s1.heap.objs.size ∨ c = s1.heap.objs.size + 1 := by simpa using hcm
  have le : s1.heap.objs.size ≤ c := by
    rcases e with z | z | z | z | z <;> rw [z]
    · exact Nat.le_add_right _ _
    · exact Nat.le_add_right _ _
    · exact Nat.le_add_right _ _
    · exact Nat.le_refl _
    · exact Nat.le_add_right _ _
  exact I1.fpOk le (I1.hok.fresh le)
theorem walk_zipG {K : PySem.W.Frag} {j k : Bool} {a b : Addr} {xs ys : List V} {n : Nat} (hn : n = min xs.length ys.length) : Walk (ItzG K j k a b) n (fun H => SqK K j H a xs ∧ SqK K k H b ys) (YPair (fun i => xs[i]?) (fun i => ys[i]?)) := by
  subst hn
  refine ⟨fun i H hi q => ?_, fun H q => ?_, fun i H v H' _ q y => ?_⟩
  · have h1 : i < xs.length := by omega
    have h2 : i < ys.length := by omega
    exact ⟨xs, ys, xs[i], ys[i], q.1, q.2, by simp [h1], by simp [h2]⟩
  · exact ⟨xs, ys, q.1, q.2, by omega, by omega, by omega⟩
  · obtain ⟨t, x, z, h1, h2, h3, h4, h5⟩ := y
    exact ⟨t, x, z, h1, h2, h3, h4 xs q.1, h5 ys q.2⟩
end K72

namespace K72
open PySem PySem.Spec PyProof.Rows L2
/-! ### what a day does, as plain functions -/
def fromB (bs : List Bed) (p : Nat) : List Nat := (List.range bs.length).filter fun k => decide ((bs[k]?).map Bed.s = some p)
def gap1 (ds : List Int) : List Nat → Int
  | [i, j] => (ds[i]?).getD 0 - (ds[j]?).getD 0
  | _ => 0
def gapsV (W : WebV) (ds : List Int) : List Int := (List.range W.many).map fun p => gap1 ds (fromB W.beds p)
def leadsV (gs : List Int) : List Bool := gs.map fun g => decide (0 ≤ g)
def ratI (n : Nat) : Rat := ((n : Int) : Rat)
def partV (ps : List Nat) (am : Rat) (a : Nat) : Rat := am * (ratI a / ratI ps.sum)
def bornV (ps : List Nat) (am : Rat) (first : Bool) : List Rat := if first = true then ps.map (partV ps am) else (ps.map (partV ps am)).reverse
def intoV (bs : List Bed) (bears : List Rat) (p : Nat) : List Rat := ((bears.zip bs).filter fun x => decide (x.2.e = p)).map Prod.fst
def amL (W : WebV) (rain : List Rat) (bears : List Rat) (p : Nat) : List Rat := (rain[p]?).getD 0 :: intoV W.beds bears p
def flowV (W : WebV) (leads : List Bool) (rain : List Rat) : Nat → List Rat × List Rat
  | 0 => ([], [])
  | p + 1 => ((flowV W leads rain p).1 ++ [(amL W rain (flowV W leads rain p).2 p).sum],
      (flowV W leads rain p).2 ++ bornV ((W.parts[p]?).getD []) (amL W rain (flowV W leads rain p).2 p).sum ((leads[p]?).getD true))
def mvV (b : Bed) (q : Rat) : Int := if b.hi ≤ q then 1 else if b.lo < q then 0 else -1
def movesV (bs : List Bed) (qs : List Rat) : List Int := (bs.zip qs).map fun x => mvV x.1 x.2
/-- how many beds begin ahead of a place -/
def cntB (l : List Nat) (p : Nat) : Nat := (l.filter fun s => decide (s < p)).length
theorem cntB_zero (l : List Nat) : cntB l 0 = 0 := by
  unfold cntB
  simp
theorem cntB_succ (l : List Nat) (p : Nat) : cntB l (p + 1) = cntB l p + l.count p := by
  induction l with
  | nil => rfl
  | cons a r ih =>
    unfold cntB at *
    rw [List.filter_cons, List.filter_cons, List.count_cons]
    by_cases h1 : a < p
    · rw [if_pos (by simp; omega), if_pos (by simp [h1]), List.length_cons, List.length_cons, ih, if_neg (by simp; omega)]
      omega
    · by_cases h2 : a = p
      · rw [if_pos (by simp; omega), if_neg (by simp; omega), List.length_cons, ih, if_pos (by simp [h2])]
        omega
      · rw [if_neg (by simp; omega), if_neg (by simp; omega), ih, if_neg (by simp [h2])]
        omega
theorem cntB_le (l : List Nat) (p : Nat) : cntB l p ≤ l.length := List.length_filter_le _ _
theorem cntB_all {l : List Nat} {p : Nat} (h : ∀ s ∈ l, s < p) : cntB l p = l.length := by
  unfold cntB
  rw [List.filter_eq_self.mpr (fun s hs => by simp [h s hs])]
/-- of starts in order the ones ahead of a place stand first -/
theorem cntB_lt : ∀ {l : List Nat} {p k : Nat} {s : Nat}, l.Pairwise (· ≤ ·) → l[k]? = some s → (k < cntB l p ↔ s < p)
  | [], p, k, s, _, h => by simp at h
  | a :: r, p, 0, s, hs, h => by
    have e : a = s := by simpa using h
    subst e
    unfold cntB
    rw [List.filter_cons]
    by_cases c : a < p
    · rw [if_pos (by simp [c])]
      simp [c]
    · rw [if_neg (by simp [c])]
      have z : r.filter (fun s => decide (s < p)) = [] := by
        rw [List.filter_eq_nil_iff]
        intro x hx
        have := List.rel_of_pairwise_cons hs hx
        simp
        omega
      rw [z]
      simp [c]
  | a :: r, p, k + 1, s, hs, h => by
    have h : r[k]? = some s := by simpa using h
    have ih := cntB_lt (p := p) (List.Pairwise.of_cons hs) h
    have le : a ≤ s := List.rel_of_pairwise_cons hs (List.mem_of_getElem? h)
    unfold cntB at *
    rw [List.filter_cons]
    by_cases c : a < p
    · rw [if_pos (by simp [c]), List.length_cons]
      omega
    · rw [if_neg (by simp [c])]
      have z : r.filter (fun s => decide (s < p)) = [] := by
        rw [List.filter_eq_nil_iff]
        intro x hx
        have := List.rel_of_pairwise_cons hs hx
        simp
        omega
      rw [z]
      simp
      omega
theorem born_len (ps : List Nat) (am : Rat) (first : Bool) : (bornV ps am first).length = ps.length := by
  unfold bornV
  split <;> simp
theorem flow_len1 (W : WebV) (leads : List Bool) (rain : List Rat) : ∀ p, (flowV W leads rain p).1.length = p
  | 0 => rfl
  | p + 1 => by
    show ((flowV W leads rain p).1 ++ [_]).length = p + 1
    rw [List.length_append, flow_len1 W leads rain p]
    rfl
theorem parts_at {W : WebV} (g : GoodWeb W) {p : Nat} (h : p < W.many) : ∃ ps, W.parts[p]? = some ps ∧ GoodParts ((starts W).count p) ps := by
  have hp := g.plen
  exact ⟨_, List.getElem?_eq_getElem (by omega), g.part p _ (List.getElem?_eq_getElem (by omega))⟩
theorem flow_len2 {W : WebV} (g : GoodWeb W) (leads : List Bool) (rain : List Rat) : ∀ p, p ≤ W.many → (flowV W leads rain p).2.length = cntB (starts W) p
  | 0, _ => (cntB_zero _).symm
  | p + 1, h => by
    obtain ⟨ps, e, gp⟩ := parts_at g (p := p) (by omega)
    show ((flowV W leads rain p).2 ++ bornV _ _ _).length = _
    rw [List.length_append, flow_len2 g leads rain p (by omega), born_len, cntB_succ, e]
    show _ + ps.length = _
    rw [gp.len]
theorem starts_len (W : WebV) : (starts W).length = W.beds.length := List.length_map ..
theorem flow_few {W : WebV} (g : GoodWeb W) (leads : List Bool) (rain : List Rat) {p : Nat} (h : p ≤ W.many) : (flowV W leads rain p).2.length ≤ W.beds.length := by
  rw [flow_len2 g leads rain p h, ← starts_len]
  exact cntB_le _ _
theorem flow_all {W : WebV} (g : GoodWeb W) (leads : List Bool) (rain : List Rat) : (flowV W leads rain W.many).2.length = W.beds.length := by
  rw [flow_len2 g leads rain _ (Nat.le_refl _), ← starts_len]
  refine cntB_all fun s hs => ?_
  obtain ⟨b, hb, rfl⟩ := List.mem_map.mp hs
  have := g.bed b hb
  have h1 := this.up
  have h2 := this.le
  omega
/-! ### sizes -/
/-- a whole number, below 2 ^ k, over M -/
def Lim (M k : Nat) (q : Rat) : Prop := ∃ n : Int, q = (n : Rat) / ((M : Int) : Rat) ∧ n.natAbs < 2 ^ k
theorem Lim.up {M k k' : Nat} {q : Rat} (h : Lim M k q) (e : k ≤ k') : Lim M k' q := by
  obtain ⟨n, a, b⟩ := h
  exact ⟨n, a, pow_le b e⟩
theorem Lim.den {M k : Nat} {q : Rat} (h : Lim M k q) (m : 0 < M) : q.den ∣ M := by
  obtain ⟨n, a, b⟩ := h
  have e := (low_rat (t := n) (b := (M : Int)) (by omega)).2
  rw [← a] at e
  have d : lowB n (M : Int) ∣ (M : Int) := ⟨sg n M, (lowB_mul n (M : Int)).symm⟩
  rw [e] at d
  exact Int.natCast_dvd_natCast.mp d
theorem Lim.num {M k : Nat} {q : Rat} (h : Lim M k q) (m : 0 < M) : q.num.natAbs < 2 ^ k := by
  obtain ⟨n, a, b⟩ := h
  have e := (low_rat (t := n) (b := (M : Int)) (by omega)).1
  rw [← a] at e
  rw [← e]
  exact Nat.lt_of_le_of_lt (lowT_le (by omega)) b
theorem Lim.sz {M k j : Nat} {q : Rat} (h : Lim M k q) (m : 0 < M) (hm : M < 2 ^ j) (hk : k ≤ j) : Sz j q := by
  refine ⟨pow_le (h.num m) hk, ?_⟩
  have := Nat.le_of_dvd m (h.den m)
  rw [Int.natAbs_natCast]
  omega
theorem lim_zero {M k : Nat} : Lim M k 0 := ⟨0, by rw [show ((0 : Int) : Rat) = 0 from rfl]; grind, by simp; exact Nat.two_pow_pos k⟩
theorem Lim.mul {M k L j : Nat} {q : Rat} (h : Lim M k q) (l0 : 0 < L) (hl : L ≤ 2 ^ j) : Lim (M * L) (k + j) q := by
  obtain ⟨n, a, b⟩ := h
  refine ⟨n * L, ?_, ?_⟩
  · have nl := icast_ne (show ((L : Nat) : Int) ≠ 0 by omega)
    rw [a, Int.natCast_mul, Rat.intCast_mul, Rat.intCast_mul]
    generalize ((n : Int) : Rat) = x at *
    generalize ((L : Int) : Rat) = y at *
    generalize ((M : Int) : Rat) = z at *
    by_cases hz : z = 0
    · rw [hz]
      grind
    · grind
  · rw [Int.natAbs_mul, Int.natAbs_natCast, Nat.pow_add]
    exact Nat.mul_lt_mul_of_lt_of_le b hl (Nat.two_pow_pos j)
theorem lim_sum {M k : Nat} : ∀ {l : List Rat}, (∀ q ∈ l, Lim M k q) → ∃ n : Int, l.sum = (n : Rat) / ((M : Int) : Rat) ∧ n.natAbs ≤ l.length * 2 ^ k
  | [], _ => ⟨0, by rw [show ((0 : Int) : Rat) = 0 from rfl]; show (0 : Rat) = _; grind, by simp⟩
  | q :: r, h => by
    obtain ⟨n, a, b⟩ := h q (by simp)
    obtain ⟨m, c, d⟩ := lim_sum (fun x hx => h x (by simp [hx]) : ∀ x ∈ r, Lim M k x)
    refine ⟨n + m, ?_, ?_⟩
    · rw [List.sum_cons, a, c, Rat.intCast_add]
      generalize ((M : Int) : Rat) = z
      by_cases hz : z = 0
      · rw [hz]
        grind
      · grind
    · rw [List.length_cons, Nat.succ_mul]
      have := Int.natAbs_add_le n m
      omega
theorem Lim.sum {M k : Nat} {l : List Rat} (h : ∀ q ∈ l, Lim M k q) (few : l.length ≤ 15) : Lim M (k + 4) l.sum := by
  obtain ⟨n, a, b⟩ := lim_sum h
  refine ⟨n, a, Nat.lt_of_le_of_lt b ?_⟩
  rw [Nat.pow_add]
  have := Nat.two_pow_pos k
  have : l.length * 2 ^ k ≤ 15 * 2 ^ k := Nat.mul_le_mul_right _ few
  omega
abbrev LL : Nat := 12252240
theorem LL_dvd {S : Nat} (h1 : 1 ≤ S) (h2 : S ≤ 18) : S ∣ LL := by
  have : S = 1 ∨ S = 2 ∨ S = 3 ∨ S = 4 ∨ S = 5 ∨ S = 6 ∨ S = 7 ∨ S = 8 ∨ S = 9 ∨ S = 10 ∨ S = 11 ∨ S = 12 ∨ S = 13 ∨ S = 14 ∨ S = 15 ∨ S = 16 ∨ S = 17 ∨ S = 18 := by omega
  rcases this with h | h | h | h | h | h | h | h | h | h | h | h | h | h | h | h | h | h <;> subst h <;> decide
theorem LL_pos : 0 < LL := by decide
theorem LL_lt : LL ≤ 2 ^ 24 := by decide
theorem Lim.part {M k S a : Nat} {q : Rat} (h : Lim M k q) (h1 : 1 ≤ S) (h2 : S ≤ 18) (ha : a ≤ S) : Lim (M * LL) (k + 24) (q * (ratI a / ratI S)) := by
  obtain ⟨n, e, b⟩ := h
  obtain ⟨c, hc⟩ := LL_dvd h1 h2
  refine ⟨n * (a * c : Nat), ?_, ?_⟩
  · have ns := icast_ne (show ((S : Nat) : Int) ≠ 0 by omega)
    have nc := icast_ne (show ((c : Nat) : Int) ≠ 0 from by
      intro z
      have : c = 0 := by omega
      rw [this, Nat.mul_zero] at hc
      exact absurd hc (by decide))
    unfold ratI
    rw [e, hc, Int.natCast_mul, Int.natCast_mul, Int.natCast_mul, Rat.intCast_mul, Rat.intCast_mul, Rat.intCast_mul, Rat.intCast_mul]
    generalize ((n : Int) : Rat) = x at *
    generalize ((S : Int) : Rat) = y at *
    generalize ((M : Int) : Rat) = z at *
    generalize ((c : Int) : Rat) = u at *
    generalize ((a : Int) : Rat) = v at *
    by_cases hz : z = 0
    · rw [hz]
      grind
    · grind
  · rw [Int.natAbs_mul, Int.natAbs_natCast, Nat.pow_add]
    refine Nat.mul_lt_mul_of_lt_of_le b ?_ (Nat.two_pow_pos 24)
    have : a * c ≤ S * c := Nat.mul_le_mul_right _ ha
    rw [← hc] at this
    exact Nat.le_trans this LL_lt
structure RainOk (W : WebV) (R k0 : Nat) (rain : List Rat) : Prop where
  len : rain.length = W.many
  lim : ∀ q ∈ rain, Lim R k0 q
  nn : ∀ q ∈ rain, 0 ≤ q
  r0 : 0 < R
  rlt : R < 2 ^ 200
  k : k0 ≤ 400
theorem sum_nat_le : ∀ (l : List Nat), (∀ p ∈ l, p ≤ 9) → l.sum ≤ 9 * l.length
  | [], _ => by simp
  | a :: r, h => by
    have h1 := h a (by simp)
    have h2 := sum_nat_le r (fun x hx => h x (by simp [hx]))
    rw [List.sum_cons, List.length_cons]
    omega
theorem sum_nat_mem : ∀ {l : List Nat} {p : Nat}, p ∈ l → p ≤ l.sum
  | a :: r, p, h => by
    rw [List.sum_cons]
    rcases List.mem_cons.mp h with z | z
    · omega
    · have := sum_nat_mem z
      omega
theorem parts_sum {W : WebV} (g : GoodWeb W) {i n : Nat} {ps : List Nat} (hn : n = (starts W).count i) (h : GoodParts n ps) {a : Nat} (ha : a ∈ ps) : 1 ≤ ps.sum ∧ ps.sum ≤ 18 ∧ a ≤ ps.sum := by
  have h2 := g.two i
  have hl := h.len
  have h3 := sum_nat_le ps h.le
  have h4 := sum_nat_mem ha
  refine ⟨?_, by omega, h4⟩
  rcases h.some_ with z | ⟨p, hp, p0⟩
  · have := List.length_pos_of_mem ha
    omega
  · have := sum_nat_mem hp
    omega
theorem LLp_pos (p : Nat) : 0 < LL ^ p := Nat.pow_pos LL_pos
theorem LLp_le (p : Nat) : LL ^ p ≤ 2 ^ (24 * p) := by
  rw [Nat.pow_mul]
  exact Nat.pow_le_pow_left LL_lt p
theorem into_mem {bs : List Bed} {bears : List Rat} {p : Nat} {q : Rat} (h : q ∈ intoV bs bears p) : q ∈ bears := by
  unfold intoV at h
  obtain ⟨x, hx, rfl⟩ := List.mem_map.mp h
  exact (List.of_mem_zip (List.mem_filter.mp hx).1).1
theorem into_len (bs : List Bed) (bears : List Rat) (p : Nat) : (intoV bs bears p).length ≤ bs.length := by
  unfold intoV
  rw [List.length_map]
  refine Nat.le_trans (List.length_filter_le _ _) ?_
  rw [List.length_zip]
  omega
theorem getD_mem {α : Type} {l : List α} {i : Nat} {d : α} (h : i < l.length) : (l[i]?).getD d ∈ l := by
  rw [List.getElem?_eq_getElem h]
  exact List.getElem_mem h
theorem flow_lim {W : WebV} {R k0 : Nat} {rain : List Rat} (g : GoodWeb W) (leads : List Bool) (r : RainOk W R k0 rain) : ∀ p, p ≤ W.many →
    (∀ q ∈ (flowV W leads rain p).1, Lim (R * LL ^ p) (k0 + 40 * p) q) ∧ (∀ q ∈ (flowV W leads rain p).2, Lim (R * LL ^ p) (k0 + 40 * p) q) ∧
    (p < W.many → (∀ q ∈ amL W rain (flowV W leads rain p).2 p, Lim (R * LL ^ p) (k0 + 40 * p) q) ∧ Lim (R * LL ^ p) (k0 + 40 * p + 4) (amL W rain (flowV W leads rain p).2 p).sum)
  | p, hp => by
    have base : (∀ q ∈ (flowV W leads rain p).1, Lim (R * LL ^ p) (k0 + 40 * p) q) ∧ (∀ q ∈ (flowV W leads rain p).2, Lim (R * LL ^ p) (k0 + 40 * p) q) := by
      match p, hp with
      | 0, _ => exact ⟨(fun q h => nomatch h), (fun q h => nomatch h)⟩
      | p + 1, hp =>
        obtain ⟨h1, h2, h3⟩ := flow_lim g leads r p (by omega)
        obtain ⟨h4, h5⟩ := h3 (by omega)
        obtain ⟨ps, e, gp⟩ := parts_at g (p := p) (by omega)
        have up : ∀ q, Lim (R * LL ^ p) (k0 + 40 * p + 4) q → Lim (R * LL ^ (p + 1)) (k0 + 40 * (p + 1)) q := fun q h => by
          rw [Nat.pow_succ, ← Nat.mul_assoc]
          exact (h.mul LL_pos LL_lt).up (by omega)
        refine ⟨fun q hq => ?_, fun q hq => ?_⟩
        · rcases List.mem_append.mp (show q ∈ (flowV W leads rain p).1 ++ [_] from hq) with z | z
          · exact up q ((h1 q z).up (by omega))
          · rw [List.mem_singleton.mp z]
            exact up _ h5
        · rcases List.mem_append.mp (show q ∈ (flowV W leads rain p).2 ++ bornV _ _ _ from hq) with z | z
          · exact up q ((h2 q z).up (by omega))
          · rw [e] at z
            have z : q ∈ ps.map (partV ps (amL W rain (flowV W leads rain p).2 p).sum) := by
              have z : q ∈ bornV ps _ _ := z
              unfold bornV at z
              split at z
              · exact z
              · exact List.mem_reverse.mp z
            obtain ⟨a, ha, rfl⟩ := List.mem_map.mp z
            obtain ⟨s1, s2, s3⟩ := parts_sum g rfl gp ha
            rw [Nat.pow_succ, ← Nat.mul_assoc]
            exact (h5.part s1 s2 s3).up (by omega)
    refine ⟨base.1, base.2, fun hlt => ?_⟩
    have h4 : ∀ q ∈ amL W rain (flowV W leads rain p).2 p, Lim (R * LL ^ p) (k0 + 40 * p) q := fun q hq => by
      rcases List.mem_cons.mp (show q ∈ _ :: intoV _ _ _ from hq) with z | z
      · rw [z]
        exact ((r.lim _ (getD_mem (by rw [r.len]; exact hlt))).mul (LLp_pos p) (LLp_le p)).up (by omega)
      · exact base.2 q (into_mem z)
    refine ⟨h4, Lim.sum h4 ?_⟩
    have := into_len W.beds (flowV W leads rain p).2 p
    have := g.few
    show (_ :: intoV _ _ _).length ≤ 15
    rw [List.length_cons]
    omega
theorem RLL_pos {W : WebV} {R k0 : Nat} {rain : List Rat} (r : RainOk W R k0 rain) (p : Nat) : 0 < R * LL ^ p := Nat.mul_pos r.r0 (LLp_pos p)
theorem RLL_lt {W : WebV} {R k0 : Nat} {rain : List Rat} (r : RainOk W R k0 rain) {p : Nat} (h : p ≤ 8) : R * LL ^ p < 2 ^ 400 := by
  have : R * LL ^ p < 2 ^ 200 * 2 ^ 200 := by
    refine Nat.mul_lt_mul_of_lt_of_le r.rlt (Nat.le_trans (LLp_le p) (Nat.pow_le_pow_right (by decide) (by omega))) (Nat.two_pow_pos 200)
  rwa [← Nat.pow_add] at this
theorem flow_tots {W : WebV} {R k0 : Nat} {rain : List Rat} (g : GoodWeb W) (leads : List Bool) (r : RainOk W R k0 rain) {p : Nat} (h : p < W.many) : Tots (amL W rain (flowV W leads rain p).2 p) (R * LL ^ p) := by
  have h8 := g.m8
  have hk := r.k
  obtain ⟨_, _, h3⟩ := flow_lim g leads r p (by omega)
  obtain ⟨h4, _⟩ := h3 h
  refine ⟨RLL_pos r p, Nat.lt_trans (RLL_lt r (by omega)) (Nat.pow_lt_pow_right (by decide) (by decide)), fun q hq => (h4 q hq).den (RLL_pos r p), fun q hq => pow_le ((h4 q hq).num (RLL_pos r p)) (by omega), ?_⟩
  have := into_len W.beds (flowV W leads rain p).2 p
  have := g.few
  show (_ :: intoV _ _ _).length ≤ 100
  rw [List.length_cons]
  omega
theorem flow_szA {W : WebV} {R k0 : Nat} {rain : List Rat} (g : GoodWeb W) (leads : List Bool) (r : RainOk W R k0 rain) {p : Nat} (h : p < W.many) : Sz 1500 (amL W rain (flowV W leads rain p).2 p).sum := by
  have h8 := g.m8
  have hk := r.k
  obtain ⟨_, _, h3⟩ := flow_lim g leads r p (by omega)
  obtain ⟨_, h5⟩ := h3 h
  exact h5.sz (RLL_pos r p) (Nat.lt_trans (RLL_lt r (by omega)) (Nat.pow_lt_pow_right (by decide) (by decide))) (by omega)
theorem flow_szB {W : WebV} {R k0 : Nat} {rain : List Rat} (g : GoodWeb W) (leads : List Bool) (r : RainOk W R k0 rain) {p : Nat} (h : p ≤ W.many) : (∀ q ∈ (flowV W leads rain p).1, Sz 1500 q) ∧ ∀ q ∈ (flowV W leads rain p).2, Sz 1500 q := by
  have h8 := g.m8
  have hk := r.k
  obtain ⟨h1, h2, _⟩ := flow_lim g leads r p (by omega)
  exact ⟨fun q hq => (h1 q hq).sz (RLL_pos r p) (Nat.lt_trans (RLL_lt r (by omega)) (Nat.pow_lt_pow_right (by decide) (by decide))) (by omega),
    fun q hq => (h2 q hq).sz (RLL_pos r p) (Nat.lt_trans (RLL_lt r (by omega)) (Nat.pow_lt_pow_right (by decide) (by decide))) (by omega)⟩
end K72

namespace K72
open PySem PySem.Spec PyProof.Rows L2
/-! ### tuple(..) of a list or a tuple -/
def rTupO (K : PySem.W.Frag) : List V → Hp → VK → Prop := fun xs H Q => ∃ p ys, xs = [.ref p] ∧ ((SqL K H p ys ∧ ∀ l, H l = none → Q (.ref l) (upd H l (.tup ys))) ∨ (SqT K H p ys ∧ Q (.ref p) H))
theorem cr_tup {X : Cx} {K : PySem.W.Frag} (e : X.K = K) : CallR X (.type "tuple") (rTupO K) := by
  subst e
  exact call_tuple_of
end K72

namespace K72
open PySem PySem.Spec PyProof.Rows L2
/-! ### beds of a place, gaps, leads -/
theorem fromB_lt {bs : List Bed} {p k : Nat} (h : k ∈ fromB bs p) : k < bs.length := List.mem_range.mp (List.mem_filter.mp h).1
theorem fromB_len {bs : List Bed} {p : Nat} : (fromB bs p).length ≤ bs.length := by
  have := List.length_filter_le (fun k => decide ((bs[k]?).map Bed.s = some p)) (List.range bs.length)
  rw [List.length_range] at this
  exact this
def spFromB (K : PySem.W.Frag) (C CW : Addr) : Sp := fun vs H Q _ => ∃ (w : Addr) (W : WebV) (p : Nat), vs = [.ref w, .int (p : Int)] ∧ WebAt K C CW H w W ∧
  ∀ (H' : Hp) (l : Addr), Same H H' → H l = none → H' l = some (.lst ((fromB W.beds p).map natV)) → Q (.ref l) H'
def spGaps (K : PySem.W.Frag) (C CW : Addr) : Sp := fun vs H Q _ => ∃ (w d : Addr) (W : WebV) (ds : List Int), vs = [.ref w, .ref d] ∧ WebAt K C CW H w W ∧ SqT K H d (ds.map V.int) ∧ ds.length = W.beds.length ∧
  ∀ (H' : Hp) (t : Addr), Same H H' → H' t = some (.tup ((gapsV W ds).map V.int)) → Q (.ref t) H'
def spLeads (K : PySem.W.Frag) : Sp := fun vs H Q _ => ∃ (t : Addr) (gs : List Int), vs = [.ref t] ∧ SqT K H t (gs.map V.int) ∧ gs.length ≤ 100 ∧
  ∀ (H' : Hp) (u : Addr), Same H H' → H' u = some (.tup ((leadsV gs).map V.bl)) → Q (.ref u) H'
section
variable {P : Program} {w : World} {K : PySem.W.Frag} {mg : Str → Option Value} {base : Heap}
abbrev fromN : List Str := ["web", "place", "number", "bed"]
theorem scFromB : FnScope fromN ["web", "place"] (defScope d_beds_from) := ⟨rfl, rfl, rfl, by decide +kernel, rfl, by decide +kernel, by decide +kernel⟩
theorem ok_fromB {f C CW : Addr} {fd : FuncData} (F : Fun K "beds_from" "beds_from" d_beds_from f fd) (TW : CrsW K CW) (Y : TxtW mg C) : FnOk P w K mg base CX0 1 f fd ["web", "place"] (spFromB K C CW) := by
  refine F.ok scFromB (fun vs H Q E h => ?_) (fun cdv A outer s H vs Q E hr h => ?_)
  · obtain ⟨_, _, _, rfl, _⟩ := h
    rfl
  · obtain ⟨w0, W, p, rfl, hw, q⟩ := h
    obtain ⟨dx, b, pp, e, ⟨ts, hb, hts⟩, _, g⟩ := hw.old
    refine ⟨_, pss_one (ps_ret (pe_lc (own := [("number", 2), ("bed", 3)]) (g := gTup K 2 (gCons (gName 2) (gCons (gName 3) gNil))) (by rfl) scFromB.nd (pi_enum (by rfl) Y.enumerate (pa_cons (pe_fld (pv 0) rfl) pa_nil)) (blkOk_by (own := [("number", 2), ("bed", 3)]) (N := fromN) (sc := defScope d_beds_from) (by decide +kernel))
        (fun _ _ _ _ _ => pg_tup (by rfl) (pgs_cons (pg_name (i := 2) scFromB.nd rfl (.inl rfl)) (pgs_cons (pg_name (i := 3) scFromB.nd rfl (.inl rfl)) pgs_nil)))
        (fun _ _ _ _ _ => pts_one (pt_cmpR op_eq (pe_ix (show IxR _ (rIxT K) from ix_tup) (pv 3) pe_int (fun _ _ => rfl)) (pv 1) (nomark _))) (fun _ _ _ _ _ => pv 2))), ?_⟩
    have few := g.few
    have lt : ts.length = W.beds.length := hts.len
    refine ⟨_, rfl, w0, CW, dx, _, _, rfl, e, TW.cl, TW.nb, webF_beds .., b, _, rfl, hb, fun D hD => ?_⟩
    refine lc_it (walk_enum (K := K) (a := b) (xs := ts.map V.ref)) (fun i N => N D = some (.lst (((List.range i).filter fun k => decide ((W.beds[k]?).map Bed.s = some p)).map natV)) ∧ Same H N) ⟨upd_same, same1 hD⟩ ?_ ?_ ?_
    · rintro i N _ ⟨_, sN⟩
      exact sN.seq hb
    · rintro i x N N' hi ⟨eD, sN⟩ ⟨T, x1, x2, rfl, hT, rfl, e1, e2⟩
      obtain rfl := Option.some.inj e1
      have e2 : (ts.map V.ref)[i]? = some x2 := e2
      rw [List.getElem?_map] at e2
      obtain ⟨t, ht, rfl⟩ := Option.map_eq_some_iff.mp e2
      have il : i < W.beds.length := by
        have := (List.getElem?_eq_some_iff.mp ht).1
        omega
      have hbi : W.beds[i]? = some W.beds[i] := List.getElem?_eq_getElem il
      have s3 : Same N (upd N T (.tup [.int (i : Nat), .ref t])) := same1 hT
      refine ⟨T, _, rfl, SqT.of upd_same, rfl, _, _, rfl, _, _, rfl, rfl, rfl, ?_⟩
      generalize upd N T (.tup [.int (i : Nat), .ref t]) = N2 at *
      obtain ⟨_, _, q1, _, _⟩ := (hts.all i t _ ht hbi).mono (sN.trans s3)
      refine ⟨_, rfl, t, _, _, _, rfl, rfl, q1, at_k (by decide) rfl, _, rfl, rfl, _, rfl, ?_⟩
      have eD2 := s3 _ _ eD
      have sz : (((List.range i).filter fun k => decide ((W.beds[k]?).map Bed.s = some p)).map natV).length < sizeLine := by
        rw [List.length_map]
        refine Nat.lt_of_le_of_lt (List.length_filter_le _ _) ?_
        rw [List.length_range]
        exact Nat.lt_of_lt_of_le (show i < 12 by omega) (show 12 ≤ sizeLine by decide)
      refine ite2 (fun h => ?_) (fun h => ?_)
      · have h : (W.beds[i].s : Int) = (p : Int) := V.int.inj (of_decide_eq_true h)
        refine ⟨_, rfl, _, eD2, sz, ?_, fun a o ea => ?_⟩
        · rw [List.range_succ, List.filter_append, List.map_append, upd_same]
          have : (([i] : List Nat).filter fun k => decide ((W.beds[k]?).map Bed.s = some p)) = [i] := by
            rw [List.filter_cons, if_pos (by rw [hbi]; simp; omega)]
            rfl
          rw [this]
          rfl
        · rw [upd_ne (ne_of_none ea hD)]
          exact s3 _ _ (sN _ _ ea)
      · have h : ¬ (W.beds[i].s : Int) = (p : Int) := fun z => h (decide_eq_true (by rw [z]))
        refine ⟨?_, sN.trans s3⟩
        rw [List.range_succ, List.filter_append]
        have : (([i] : List Nat).filter fun k => decide ((W.beds[k]?).map Bed.s = some p)) = [] := by
          rw [List.filter_cons, if_neg (by rw [hbi]; simp; omega)]
          rfl
        rw [this, List.append_nil]
        exact eD2
    · rintro N ⟨eD, sN⟩
      rw [List.length_map, lt] at eD
      exact q N D sN hD eD
abbrev gapsN : List Str := ["web", "numbers", "gaps", "place", "here"]
theorem scGaps : FnScope gapsN ["web", "numbers"] (defScope d_gaps_of) := ⟨rfl, rfl, rfl, by decide +kernel, rfl, by decide +kernel, by decide +kernel⟩
theorem ok_gaps {f f1 C CW : Addr} {fd fd1 : FuncData} (F : Fun K "gaps_of" "gaps_of" d_gaps_of f fd) (TW : CrsW K CW) (Y : TxtW mg C) (hrange : mg "range" = none)
    (A1 : At P w K mg base CX0 1 "beds_from" ["web", "place"] (spFromB K C CW) f1 fd1) : FnOk P w K mg base CX0 2 f fd ["web", "numbers"] (spGaps K C CW) := by
  refine F.ok scGaps (fun vs H Q E h => ?_) (fun cdv A outer s H vs Q E hr h => ?_)
  · obtain ⟨_, _, _, _, rfl, _⟩ := h
    rfl
  · obtain ⟨w0, d, W, ds, rfl, hw, hd, ld, q⟩ := h
    refine ⟨_, pss_cons (ps_set (i := 2) scGaps.nd rfl (Or.inl rfl) (pe_lst pa_nil))
      (pss_cons (ps_for PassesOwn.never rfl (pi_range1 (by rfl) hrange (pa_cons (pe_fld (pv 0) rfl) pa_nil)) (pg_name (i := 3) scGaps.nd rfl (.inl rfl))
        (pss_cons (ps_set (i := 4) scGaps.nd rfl (Or.inl rfl) (pe_call A1.G hr rfl A1.m A1.k A1.b .nil pass0 (pa_cons (pv 0) (pa_cons (pv 3) pa_nil))))
        (pss_one (ps_expr (pe_bm PySem.F.plainAttrs_list PySem.F.slot_list_append PySem.F.type_list_append mt_append (pv 2) (pa_cons (pe_ifExp (pt_cmpR op_eq (pe_callB call_len_seq (by rfl) Y.len PySem.boot_len (pa_cons (pv 4) pa_nil)) pe_int (nomark _))
          (pe_op op_sub (pe_ix ix_tup (pv 1) (pe_ix ix_list (pv 4) pe_int (fun _ _ => rfl)) (fun _ _ => rfl)) (pe_ix ix_tup (pv 1) (pe_ix ix_list (pv 4) pe_int (fun _ _ => rfl)) (fun _ _ => rfl))) pe_int) pa_nil))))))
      (pss_one (ps_ret (pe_callTy (cr_tup (K := K) rfl) (by rfl) Y.tuple (by decide +kernel) (pa_cons (pv 2) pa_nil))))), ?_⟩
    have hw0 := hw
    obtain ⟨dx, b, pp, e, _, _, g⟩ := hw0
    have m8 := g.m8
    have few := g.few
    refine ⟨(by show 0 ≤ sizeLine; decide), fun D hD => ?_⟩
    have s0 : Same H (upd H D (.lst [])) := same1 hD
    have eD : (upd H D (.lst []) : Hp) D = some (.lst []) := upd_same
    generalize upd H D (.lst []) = H0 at *
    refine ⟨_, rfl, w0, CW, dx, _, _, rfl, s0 _ _ e, TW.cl, TW.nm, webF_many .., _, rfl, by omega, by omega, ?_⟩
    refine for_range (lo := 0) (n := W.many) (fun i σ N => (∃ v3 v4, σ = [some (.ref w0), some (.ref d), some (.ref D), v3, v4]) ∧ N D = some (.lst (((List.range i).map fun p => gap1 ds (fromB W.beds p)).map V.int)) ∧ Same H N) ⟨⟨none, none, rfl⟩, eD, s0⟩ ?_ ?_
    · rintro i σ N hi ⟨⟨v3, v4, rfl⟩, eN, sN⟩
      refine ⟨_, rfl, _, rfl, w0, W, i, ?_, hw.mono sN, fun N2 l s2 nl el => ?_⟩
      · rw [Int.zero_add]
        rfl
      have eN2 := s2 _ _ eN
      have nD : D ≠ l := fun z => by rw [z, nl] at eN; cases eN
      refine ⟨_, rfl, .inl ⟨rfl, _, SqL.of eN2⟩, _, rfl, l, _, rfl, .inl (SqL.of el), rfl, _, rfl, ?_⟩
      have fin : ∀ x : Int, gap1 ds (fromB W.beds i) = x → ∃ lp xs v, V.ref D = .ref lp ∧ [V.int x] = [v] ∧ N2 lp = some (.lst xs) ∧ xs.length < sizeLine ∧ ((∃ v3 v4, [some (V.ref w0), some (V.ref d), some (V.ref D), some (V.int (0 + (i : Int))), some (V.ref l)] = [some (.ref w0), some (.ref d), some (.ref D), v3, v4]) ∧ upd N2 lp (.lst (xs ++ [v])) D = some (.lst (((List.range (i + 1)).map fun p => gap1 ds (fromB W.beds p)).map V.int)) ∧ Same H (upd N2 lp (.lst (xs ++ [v])))) := fun x hx => by
        refine ⟨D, _, _, rfl, rfl, eN2, ?_, ⟨_, _, rfl⟩, ?_, fun a o ea => ?_⟩
        · rw [List.length_map, List.length_map, List.length_range]
          exact Nat.lt_of_lt_of_le (show i < 8 by omega) (show 8 ≤ sizeLine by decide)
        · rw [List.range_succ, List.map_append, List.map_append, upd_same]
          show some (HO.lst (_ ++ [V.int x])) = some (HO.lst (_ ++ [V.int (gap1 ds (fromB W.beds i))]))
          rw [hx]
        · rw [upd_ne (ne_of_none ea hD)]
          exact s2 _ _ (sN _ _ ea)
      refine ite2 (fun h => ?_) (fun h => ?_)
      · have h : (((fromB W.beds i).map natV).length : Int) = 2 := V.int.inj (of_decide_eq_true h)
        rw [List.length_map] at h
        obtain ⟨x, y, hxy⟩ : ∃ x y, fromB W.beds i = [x, y] := by
          match hf : fromB W.beds i, h with
          | [x, y], _ => exact ⟨x, y, rfl⟩
          | [], h => simp at h
          | [_], h => simp at h
          | _ :: _ :: _ :: _, h => simp at h; omega
        have hx : x < ds.length := by rw [ld]; exact fromB_lt (p := i) (by rw [hxy]; simp)
        have hy : y < ds.length := by rw [ld]; exact fromB_lt (p := i) (by rw [hxy]; simp)
        rw [hxy] at el
        have hdN := Same.tup (sN.trans s2) hd
        refine ⟨_, rfl, _, rfl, l, _, _, _, rfl, rfl, SqL.of el, at_k (by decide) rfl, d, _, _, _, rfl, rfl, hdN, atI_nat (v := .int ds[x]) (by rw [List.getElem?_map, List.getElem?_eq_getElem hx]; rfl), ?_⟩
        refine ⟨_, rfl, _, rfl, l, _, _, _, rfl, rfl, SqL.of el, at_k (by decide) rfl, d, _, _, _, rfl, rfl, hdN, atI_nat (v := .int ds[y]) (by rw [List.getElem?_map, List.getElem?_eq_getElem hy]; rfl), _, _, rfl, rfl, ?_⟩
        refine fin _ ?_
        rw [hxy]
        show (ds[x]?).getD 0 - (ds[y]?).getD 0 = _
        rw [List.getElem?_eq_getElem hx, List.getElem?_eq_getElem hy]
        rfl
      · refine fin _ ?_
        have h : ¬ (fromB W.beds i).length = 2 := fun z => h (decide_eq_true (by rw [List.length_map, z]; rfl))
        match hf : fromB W.beds i, h with
        | [x, y], h => exact absurd rfl h
        | [], h => rfl
        | [_], h => rfl
        | _ :: _ :: _ :: _, h => rfl
    · rintro σ N ⟨⟨v3, v4, rfl⟩, eN, sN⟩
      refine ⟨_, rfl, D, _, rfl, .inl ⟨SqL.of eN, fun u hu => ?_⟩⟩
      exact q _ u (sN.trans (same1 hu)) upd_same
theorem scLeads : FnScope ["gaps", "gap"] ["gaps"] (defScope d_leads_of) := ⟨rfl, rfl, rfl, by decide +kernel, rfl, by decide +kernel, by decide +kernel⟩
theorem ok_leads {f C : Addr} {fd : FuncData} (F : Fun K "leads_of" "leads_of" d_leads_of f fd) (Y : TxtW mg C) : FnOk P w K mg base CX0 1 f fd ["gaps"] (spLeads K) := by
  refine F.ok scLeads (fun vs H Q E h => ?_) (fun cdv A outer s H vs Q E hr h => ?_)
  · obtain ⟨_, _, rfl, _⟩ := h
    rfl
  · obtain ⟨t, gs, rfl, ht, few, q⟩ := h
    refine ⟨_, pss_one (ps_ret (pe_callTy (cr_tup (K := K) rfl) (by rfl) Y.tuple (by decide +kernel) (pa_cons
      (pe_lc (own := [("gap", 1)]) (g := gName 1) (by rfl) scLeads.nd (pi_tup (pv 0)) (blkOk_by (own := [("gap", 1)]) (N := ["gaps", "gap"]) (sc := defScope d_leads_of) (by decide +kernel)) (fun _ _ _ _ _ => pg_name (i := 1) scLeads.nd rfl (.inl rfl)) (fun _ _ _ _ _ => pts_nil)
        (fun _ _ _ _ _ => pe_cmpR op_ge (pv 1) pe_int (nomark _))) pa_nil))), ?_⟩
    refine ⟨_, rfl, t, rfl, ⟨_, ht⟩, fun D hD => ?_⟩
    refine lc_tup (K := K) (a := t) (xs := gs.map V.int) (fun i M => M D = some (.lst ((leadsV (gs.take i)).map V.bl)) ∧ Same H M) ⟨upd_same, same1 hD⟩ ?_ ?_ ?_
    · rintro i M _ ⟨_, sm⟩
      exact Same.tup sm ht
    · rintro i x M hx ⟨eD, sm⟩
      rw [List.getElem?_map] at hx
      obtain ⟨k, hk, rfl⟩ := Option.map_eq_some_iff.mp hx
      have ki : i < gs.length := (List.getElem?_eq_some_iff.mp hk).1
      have ek : gs[i] = k := Option.some.inj ((List.getElem?_eq_getElem ki).symm.trans hk)
      refine ⟨rfl, ?_⟩
      refine ⟨_, rfl, _, _, rfl, rfl, _, eD, ?_, ?_, fun b o e => ?_⟩
      · unfold leadsV
        rw [List.length_map, List.length_map, List.length_take]
        exact Nat.lt_of_le_of_lt (Nat.min_le_left _ _) (Nat.lt_of_lt_of_le ki (Nat.le_trans few (show 100 ≤ sizeLine by decide)))
      · refine Eq.trans upd_same ?_
        unfold leadsV
        rw [List.take_succ_eq_append_getElem ki, List.map_append, List.map_append, ek]
        rfl
      · rw [upd_ne (ne_of_none e hD)]
        exact sm _ _ e
    · rintro M ⟨eD, sm⟩
      rw [List.length_map, List.take_length] at eD
      refine ⟨D, _, rfl, .inl ⟨SqL.of eD, fun u hu => ?_⟩⟩
      exact q _ u (sm.trans (same1 hu)) upd_same
end
end K72

namespace K72
open PySem PySem.Spec PyProof.Rows L2
/-! ### sum(t) of a tuple of ints -/
def rSumT (K : PySem.W.Frag) : List V → Hp → VK → Prop := fun vs H Q => ∃ (a : Addr) (ns : List Int), vs = [V.ref a] ∧ SqT K H a (ns.map V.int) ∧ Q (.int ns.sum) H
theorem cr_sumT {X : Cx} (hc : X.calm = true) : CallR X (.builtin "sum") (rSumT X.K) := by
  intro pins s σ H vs us Q I r h
  obtain ⟨a, ns, rfl, hs, q⟩ := h
  obtain ⟨its, rv, ht, hz⟩ := I.tuple hs
  rw [Vals.ref1 r]
  have hi : IntsAre its ns := ints_of_vals rv
  have ht : s.heap.IsTuple a its.toArray := ht
  obtain ⟨xs, hx⟩ := hi.allInts.items
  have hn : numsOf its.toArray.toList = ns := by rw [show its.toArray.toList = its from rfl, hi.numsOf]
  rw [hx] at ht hn
  rw [nums_intItems] at hn
  refine PySem.W.ktm_sumG (I.ok.hd hc) ht fun h' tk t' hk => ?_
  rw [preSum_eq, List.take_of_length_le (by simp), hn]
  exact ⟨.int _, H, I.kept hk, ⟨_, rfl⟩, q⟩
end K72

namespace K72
open PySem PySem.Spec PyProof.Rows L2
/-! ### depths and rains that are ones, what beds of a place bear, how they move -/
def RainAt (C : Addr) (K : PySem.W.Frag) (H : Hp) (t : Addr) (qs : List Rat) : Prop := ∃ ps : List Addr, SqT K H t (ps.map V.ref) ∧ ShQs C H ps qs
theorem RainAt.mono {C : Addr} {K : PySem.W.Frag} {H H' : Hp} {t : Addr} {qs : List Rat} (h : RainAt C K H t qs) (s : Same H H') : RainAt C K H' t qs := by
  obtain ⟨ps, a, b⟩ := h
  exact ⟨ps, Same.tup s a, ShQs.mono b s⟩
/-- shares in a list of our own -/
def ShL (C : Addr) (H : Hp) (l : Addr) (qs : List Rat) : Prop := ∃ ps : List Addr, H l = some (.lst (ps.map V.ref)) ∧ ShQs C H ps qs
theorem ShL.mono {C : Addr} {H H' : Hp} {l : Addr} {qs : List Rat} (h : ShL C H l qs) (s : Same H H') : ShL C H' l qs := by
  obtain ⟨ps, a, b⟩ := h
  exact ⟨ps, s _ _ a, ShQs.mono b s⟩
def spDepthsG (K : PySem.W.Frag) (C CW : Addr) : Sp := fun vs H Q _ => ∃ (w d : Addr) (W : WebV) (ds : List Int), vs = [.ref w, .ref d] ∧ WebAt K C CW H w W ∧ SqT K H d (ds.map V.int) ∧ ds.length = W.beds.length ∧ ∀ H', Same H H' → Q (.bl true) H'
def spRainG (K : PySem.W.Frag) (C CW : Addr) : Sp := fun vs H Q _ => ∃ (w t : Addr) (W : WebV) (qs : List Rat), vs = [.ref w, .ref t] ∧ WebAt K C CW H w W ∧ RainAt C K H t qs ∧ qs.length = W.many ∧ (∀ q ∈ qs, 0 ≤ q) ∧ ∀ H', Same H H' → Q (.bl true) H'
def spCheckD (K : PySem.W.Frag) (C CW : Addr) : Sp := fun vs H Q _ => ∃ (w d : Addr) (W : WebV) (ds : List Int), vs = [.ref w, .ref d] ∧ WebAt K C CW H w W ∧ SqT K H d (ds.map V.int) ∧ ds.length = W.beds.length ∧ ∀ H', Same H H' → Q .non H'
def spCheckR (K : PySem.W.Frag) (C CW : Addr) : Sp := fun vs H Q _ => ∃ (w t : Addr) (W : WebV) (qs : List Rat), vs = [.ref w, .ref t] ∧ WebAt K C CW H w W ∧ RainAt C K H t qs ∧ qs.length = W.many ∧ (∀ q ∈ qs, 0 ≤ q) ∧ ∀ H', Same H H' → Q .non H'
def spBorneP (K : PySem.W.Frag) (C : Addr) : Sp := fun vs H Q _ => ∃ (t s : Addr) (ps : List Nat) (am : Rat) (b : Bool), vs = [.ref t, .ref s, .bl b] ∧ PartsAt K H t ps ∧ ShQ C H s am ∧ Sz 1500 am ∧ (∀ a ∈ ps, 1 ≤ ps.sum) ∧ ps.sum ≤ 18 ∧ ps.length ≤ 12 ∧
  ∀ (H' : Hp) (l : Addr), Same H H' → H l = none → ShL C H' l (bornV ps am b) → Q (.ref l) H'
def spMove (K : PySem.W.Frag) (C : Addr) : Sp := fun vs H Q _ => ∃ (t s : Addr) (b : Bed) (q : Rat), vs = [.ref t, .ref s] ∧ BedAt K C H t b ∧ ShQ C H s q ∧ Sz 1500 b.lo ∧ Sz 1500 b.hi ∧ Sz 1500 q ∧ Q (.int (mvV b q)) H
def spMoves (K : PySem.W.Frag) (C CW : Addr) : Sp := fun vs H Q _ => ∃ (w l : Addr) (W : WebV) (ps : List Addr) (qs : List Rat), vs = [.ref w, .ref l] ∧ WebAt K C CW H w W ∧ SqL K H l (ps.map V.ref) ∧ ShQs C H ps qs ∧ (∀ q ∈ qs, Sz 1500 q) ∧
  ∀ (H' : Hp) (r : Addr), Same H H' → H r = none → H' r = some (.lst ((movesV W.beds qs).map V.int)) → Q (.ref r) H'
theorem sum_cast : ∀ ps : List Nat, (ps.map fun n : Nat => (n : Int)).sum = ((ps.sum : Nat) : Int)
  | [] => rfl
  | a :: r => by
    rw [List.map_cons, List.sum_cons, sum_cast r, List.sum_cons]
    omega
theorem natV_map (ps : List Nat) : ps.map natV = (ps.map fun n : Nat => (n : Int)).map V.int := by
  rw [List.map_map]
  rfl
theorem num_nn {q : Rat} (h : 0 ≤ q) : (0 : Int) ≤ q.num := Rat.num_nonneg.mpr h
theorem lt_18 {n : Int} (h0 : 0 ≤ n) (h : n ≤ 18) : n.natAbs < 2 ^ 1500 := Nat.lt_of_lt_of_le (show n.natAbs < 2 ^ 5 by omega) (Nat.pow_le_pow_right (by decide) (by decide))
section
variable {P : Program} {w : World} {K : PySem.W.Frag} {mg : Str → Option Value} {base : Heap}
theorem scAreD : FnScope ["web", "thing", "depth"] ["web", "thing"] (defScope d_are_depths) := ⟨rfl, rfl, rfl, by decide +kernel, rfl, by decide +kernel, by decide +kernel⟩
theorem ok_areD {f f1 C CW : Addr} {fd fd1 : FuncData} (F : Fun K "are_depths" "are_depths" d_are_depths f fd) (TW : CrsW K CW) (Y : TxtW mg C)
    (A1 : At P w K mg base CX0 1 "is_whole" ["thing"] spWhole f1 fd1) : FnOk P w K mg base CX0 2 f fd ["web", "thing"] (spDepthsG K C CW) := by
  refine F.ok scAreD (fun vs H Q E h => ?_) (fun cdv A outer s H vs Q E hr h => ?_)
  · obtain ⟨_, _, _, _, rfl, _⟩ := h
    rfl
  · obtain ⟨w0, d, W, ds, rfl, hw, hd, ld, q⟩ := h
    refine ⟨_, pss_one (ps_ret (pe_and (pe_callB call_isi (by rfl) Y.isi (by decide +kernel) (pa_cons (pv 1) (pa_cons (pe_bltn (v := .ty "tuple") (by rfl) Y.tuple (by decide +kernel) rfl) pa_nil)))
      (pe_and (pe_cmpR op_eq (pe_callB call_len_seq (by rfl) Y.len PySem.boot_len (pa_cons (pv 1) pa_nil)) (pe_callB call_len_seq (by rfl) Y.len PySem.boot_len (pa_cons (pe_fld (pv 0) rfl) pa_nil)) (nomark _))
      (pe_one (pe_callB (cr_all rfl) (by rfl) Y.all (by decide +kernel) (pa_cons
        (pe_lc (own := [("depth", 2)]) (g := gName 2) (by rfl) scAreD.nd (pi_tup (pv 1)) (blkOk_by (own := [("depth", 2)]) (N := ["web", "thing", "depth"]) (sc := defScope d_are_depths) (by decide +kernel)) (fun _ _ _ _ _ => pg_name (i := 2) scAreD.nd rfl (.inl rfl)) (fun _ _ _ _ _ => pts_nil)
          (fun _ _ _ _ _ => pe_call A1.G hr rfl A1.m A1.k A1.b .nil pass0 (pa_cons (pv 2) pa_nil))) pa_nil)))))), ?_⟩
    obtain ⟨dx, b, pp, e, ⟨ts, hb, hts⟩, _, g⟩ := hw.old
    have few := g.few
    refine ⟨_, rfl, _, _, _, _, true, rfl, ClsV.ty _, ty_tup hd, kit_ty (by decide +kernel), true, rfl, iteT ?_⟩
    refine ⟨_, rfl, d, _, rfl, .inr hd, _, rfl, w0, CW, dx, _, _, rfl, e, TW.cl, TW.nb, webF_beds .., b, _, rfl, .inl hb, rfl, _, rfl, ?_⟩
    refine ite2 (fun _ => ?_) (fun hn => absurd (decide_eq_true (by rw [List.length_map, List.length_map, ld, hts.len])) hn)
    refine ⟨_, rfl, d, rfl, ⟨_, hd⟩, fun D hD => ?_⟩
    refine lc_tup (K := K) (a := d) (xs := ds.map V.int) (fun i M => M D = some (.lst ((List.replicate i true).map V.bl)) ∧ Same H M) ⟨upd_same, same1 hD⟩ ?_ ?_ ?_
    · rintro i M _ ⟨_, sm⟩
      exact Same.tup sm hd
    · rintro i x M hx ⟨eD, sm⟩
      rw [List.getElem?_map] at hx
      obtain ⟨k, hk, rfl⟩ := Option.map_eq_some_iff.mp hx
      have ki : i < ds.length := (List.getElem?_eq_some_iff.mp hk).1
      refine ⟨rfl, _, rfl, k, rfl, _, eD, (by rw [List.length_map, List.length_replicate]; exact Nat.lt_of_lt_of_le (show i < 12 by omega) (show 12 ≤ sizeLine by decide)), ?_, fun b o e => ?_⟩
      · rw [List.replicate_succ', List.map_append]
        exact upd_same
      · rw [upd_ne (ne_of_none e hD)]
        exact sm _ _ e
    · rintro M ⟨eD, sm⟩
      refine ⟨D, _, rfl, SqL.of eD, ?_⟩
      rw [all_true]
      exact q _ sm
theorem scIsR : FnScope ["web", "thing", "share"] ["web", "thing"] (defScope d_is_rain) := ⟨rfl, rfl, rfl, by decide +kernel, rfl, by decide +kernel, by decide +kernel⟩
theorem ok_isR {f C CW CN : Addr} {fd : FuncData} (F : Fun K "is_rain" "is_rain" d_is_rain f fd) (TW : CrsW K CW) (T : Txt K mg C CN) (Y : TxtW mg C) (IsSh : ∀ H p q, ShQ C H p q → TyX K H (.ref p) (.ref C)) (me : PySem.W.kitOne K (.ref C) (.ref C) = some true) :
    FnOk P w K mg base CX0 1 f fd ["web", "thing"] (spRainG K C CW) := by
  refine F.ok scIsR (fun vs H Q E h => ?_) (fun cdv A outer s H vs Q E hr h => ?_)
  · obtain ⟨_, _, _, _, rfl, _⟩ := h
    rfl
  · obtain ⟨w0, t, W, qs, rfl, hw, ⟨ps, ht, hps⟩, lq, nn, q⟩ := h
    refine ⟨_, pss_cons (ps_if (PW.pt (pw_or (pt_not (pt_val (pe_callB call_isi (by rfl) Y.isi (by decide +kernel) (pa_cons (pv 1) (pa_cons (pe_bltn (v := .ty "tuple") (by rfl) Y.tuple (by decide +kernel) rfl) pa_nil)))))
          (pw_or1 (pt_cmpR op_ne (pe_callB call_len_seq (by rfl) Y.len PySem.boot_len (pa_cons (pv 1) pa_nil)) (pe_fld (pv 0) rfl) (nomark _))))) (pss_one (ps_ret pe_bl)) pss_nil)
      (pss_one (ps_ret (pe_callB (cr_all rfl) (by rfl) Y.all (by decide +kernel) (pa_cons
        (pe_lc (own := [("share", 2)]) (g := gName 2) (by rfl) scIsR.nd (pi_tup (pv 1)) (blkOk_by (own := [("share", 2)]) (N := ["web", "thing", "share"]) (sc := defScope d_is_rain) (by decide +kernel)) (fun _ _ _ _ _ => pg_name (i := 2) scIsR.nd rfl (.inl rfl)) (fun _ _ _ _ _ => pts_nil)
          (fun _ _ _ _ _ => pe_and (pe_callB (show CallR _ (.builtin "isinstance") (rIsi K) from call_isi) (by rfl) Y.isi (by decide +kernel) (pa_cons (pv 2) (pa_cons (pe_glob (v := .ref C) rfl Y.sh rfl) pa_nil))) (pe_one (pe_cmpR op_ge (show PE _ _ (tFld K (tVar 2) "top") from pe_fld (pv 2) rfl) pe_int (nomark _))))) pa_nil)))), ?_⟩
    obtain ⟨dx, b, pp, e, _, _, g⟩ := hw
    have m8 := g.m8
    have lp : (ps.map V.ref).length = W.many := by rw [List.length_map, hps.len, lq]
    refine ⟨_, rfl, _, _, _, _, true, rfl, ClsV.ty _, ty_tup ht, kit_ty (by decide +kernel), true, rfl, iteF ?_⟩
    refine ⟨_, rfl, t, _, rfl, .inr ht, _, rfl, w0, CW, dx, _, _, rfl, e, TW.cl, TW.nm, webF_many .., rfl, _, rfl, iteNS (by rw [lp]) ?_⟩
    refine ⟨_, rfl, t, rfl, ⟨_, ht⟩, fun D hD => ?_⟩
    refine lc_tup (K := K) (a := t) (xs := ps.map V.ref) (fun i M => M D = some (.lst ((List.replicate i true).map V.bl)) ∧ Same H M) ⟨upd_same, same1 hD⟩ ?_ ?_ ?_
    · rintro i M _ ⟨_, sm⟩
      exact Same.tup sm ht
    · rintro i x M hx ⟨eD, sm⟩
      rw [List.getElem?_map] at hx
      obtain ⟨p, hp, rfl⟩ := Option.map_eq_some_iff.mp hx
      have il : i < qs.length := by
        have := (List.getElem?_eq_some_iff.mp hp).1
        have h2 := hps.len
        omega
      have hq : qs[i]? = some qs[i] := List.getElem?_eq_getElem il
      have hs := (hps.all i p _ hp hq).mono sm
      have n0 := num_nn (nn _ (List.getElem_mem il))
      have hs2 := hs
      obtain ⟨dp, ep⟩ := hs2
      refine ⟨rfl, ?_⟩
      refine ⟨_, rfl, _, _, _, _, true, rfl, ClsV.own C, IsSh _ _ _ hs, me, true, rfl, iteT ?_⟩
      refine ⟨_, rfl, p, C, dp, _, _, rfl, ep, T.cl, T.nT, shf_top .., _, _, rfl, rfl, _, eD, (by rw [List.length_map, List.length_replicate]; exact Nat.lt_of_lt_of_le (show i < 8 by omega) (show 8 ≤ sizeLine by decide)), ?_, fun b o e => ?_⟩
      · refine Eq.trans upd_same ?_
        show some (HO.lst (_ ++ [V.bl (decide ((0 : Int) ≤ qs[i].num))])) = _
        rw [decide_eq_true n0, List.replicate_succ', List.map_append]
        rfl
      · rw [upd_ne (ne_of_none e hD)]
        exact sm _ _ e
    · rintro M ⟨eD, sm⟩
      refine ⟨D, _, rfl, SqL.of eD, ?_⟩
      rw [all_true]
      exact q _ sm
theorem scCheckD : FnScope ["web", "thing"] ["web", "thing"] (defScope d_check_depths) := ⟨rfl, rfl, rfl, by decide +kernel, rfl, by decide +kernel, by decide +kernel⟩
theorem ok_checkD {f f1 C CW : Addr} {fd fd1 : FuncData} (F : Fun K "check_depths" "check_depths" d_check_depths f fd)
    (A1 : At P w K mg base CX0 2 "are_depths" ["web", "thing"] (spDepthsG K C CW) f1 fd1) : FnOk P w K mg base CX0 3 f fd ["web", "thing"] (spCheckD K C CW) := by
  refine F.ok scCheckD (fun vs H Q E h => ?_) (fun cdv A outer s H vs Q E hr h => ?_)
  · obtain ⟨_, _, _, _, rfl, _⟩ := h
    rfl
  · obtain ⟨w0, d, W, ds, rfl, hw, hd, ld, q⟩ := h
    refine ⟨_, pss_one (ps_if (pt_not (pt_val (pe_call A1.G hr rfl A1.m A1.k A1.b .nil pass0 (pa_cons (pv 0) (pa_cons (pv 1) pa_nil))))) (pss_one ps_never) pss_nil), ?_⟩
    exact ⟨_, rfl, _, rfl, w0, d, W, ds, rfl, hw, hd, ld, fun H1 s1 => ⟨true, rfl, iteF (q H1 s1)⟩⟩
theorem scCheckR : FnScope ["web", "thing"] ["web", "thing"] (defScope d_check_rain) := ⟨rfl, rfl, rfl, by decide +kernel, rfl, by decide +kernel, by decide +kernel⟩
theorem ok_checkR {f f1 C CW : Addr} {fd fd1 : FuncData} (F : Fun K "check_rain" "check_rain" d_check_rain f fd)
    (A1 : At P w K mg base CX0 1 "is_rain" ["web", "thing"] (spRainG K C CW) f1 fd1) : FnOk P w K mg base CX0 2 f fd ["web", "thing"] (spCheckR K C CW) := by
  refine F.ok scCheckR (fun vs H Q E h => ?_) (fun cdv A outer s H vs Q E hr h => ?_)
  · obtain ⟨_, _, _, _, rfl, _⟩ := h
    rfl
  · obtain ⟨w0, t, W, qs, rfl, hw, ht, lq, nn, q⟩ := h
    refine ⟨_, pss_one (ps_if (pt_not (pt_val (pe_call A1.G hr rfl A1.m A1.k A1.b .nil pass0 (pa_cons (pv 0) (pa_cons (pv 1) pa_nil))))) (pss_one ps_never) pss_nil), ?_⟩
    exact ⟨_, rfl, _, rfl, w0, t, W, qs, rfl, hw, ht, lq, nn, fun H1 s1 => ⟨true, rfl, iteF (q H1 s1)⟩⟩
theorem scMove : FnScope ["bed", "share", "_", "low", "high"] ["bed", "share"] (defScope d_move_of) := ⟨rfl, rfl, rfl, by decide +kernel, rfl, by decide +kernel, by decide +kernel⟩
theorem ok_move {f f1 C : Addr} {fd fd1 : FuncData} (F : Fun K "move_of" "move_of" d_move_of f fd)
    (A1 : At P w K mg base CX0 1 "less" ["one", "other"] (spLessQ C) f1 fd1) : FnOk P w K mg base CX0 2 f fd ["bed", "share"] (spMove K C) := by
  refine F.ok scMove (fun vs H Q E h => ?_) (fun cdv A outer s H vs Q E hr h => ?_)
  · obtain ⟨_, _, _, _, rfl, _⟩ := h
    rfl
  · obtain ⟨t, s0, b, q, rfl, ⟨x, y, ht, hx, hy⟩, hs, slo, shi, sq, kq⟩ := h
    refine ⟨_, pss_cons (ps_asg (pv 0) (pg_tup (by rfl) (pgs_cons (pg_name (i := 2) scMove.nd rfl (.inl rfl)) (pgs_cons (pg_name (i := 2) scMove.nd rfl (.inl rfl)) (pgs_cons (pg_name (i := 3) scMove.nd rfl (.inl rfl)) (pgs_cons (pg_name (i := 4) scMove.nd rfl (.inl rfl)) pgs_nil))))))
      (pss_cons (ps_if (pt_not (pt_val (pe_call A1.G hr rfl A1.m A1.k A1.b .nil pass0 (pa_cons (pv 1) (pa_cons (pv 4) pa_nil))))) (pss_one (ps_ret pe_int)) pss_nil)
      (pss_one (ps_ret (pe_ifExp (pt_val (pe_call A1.G hr rfl A1.m A1.k A1.b .nil pass0 (pa_cons (pv 3) (pa_cons (pv 1) pa_nil)))) pe_int (pe_un un_neg pe_int))))), ?_⟩
    refine ⟨_, rfl, t, _, rfl, ht, rfl, _, _, rfl, _, _, rfl, _, _, rfl, _, _, rfl, rfl, ?_⟩
    refine ⟨_, rfl, _, rfl, s0, y, q, b.hi, rfl, hs, hy, sq, shi, _, rfl, ?_⟩
    by_cases c1 : q < b.hi
    · rw [decide_eq_true c1]
      refine iteF ?_
      refine ⟨_, rfl, _, rfl, x, s0, b.lo, q, rfl, hx, hs, slo, sq, _, rfl, ?_⟩
      have n1 : ¬ b.hi ≤ q := Rat.not_le.mpr c1
      by_cases c2 : b.lo < q
      · rw [decide_eq_true c2]
        refine iteT ?_
        have e : mvV b q = 0 := by unfold mvV; rw [if_neg n1, if_pos c2]
        rw [e] at kq
        exact kq
      · rw [decide_eq_false c2]
        refine iteF ?_
        have e : mvV b q = -1 := by unfold mvV; rw [if_neg n1, if_neg c2]
        rw [e] at kq
        exact ⟨_, rfl, kq⟩
    · rw [decide_eq_false c1]
      refine iteT ?_
      have e : mvV b q = 1 := by unfold mvV; rw [if_pos (Rat.not_lt.mp c1)]
      rw [e] at kq
      exact kq
theorem scMoves : FnScope ["web", "bears", "bed", "share"] ["web", "bears"] (defScope d_moves_of) := ⟨rfl, rfl, rfl, by decide +kernel, rfl, by decide +kernel, by decide +kernel⟩
theorem ok_moves {f f1 C CW : Addr} {fd fd1 : FuncData} (F : Fun K "moves_of" "moves_of" d_moves_of f fd) (TW : CrsW K CW) (hzip : mg "zip" = none)
    (A1 : At P w K mg base CX0 2 "move_of" ["bed", "share"] (spMove K C) f1 fd1) : FnOk P w K mg base CX0 3 f fd ["web", "bears"] (spMoves K C CW) := by
  refine F.ok scMoves (fun vs H Q E h => ?_) (fun cdv A outer s H vs Q E hr h => ?_)
  · obtain ⟨_, _, _, _, _, rfl, _⟩ := h
    rfl
  · obtain ⟨w0, l, W, ps, qs, rfl, hw, hl, hps, sz, q⟩ := h
    refine ⟨_, pss_one (ps_ret (pe_lc (own := [("bed", 2), ("share", 3)]) (g := gTup K 2 (gCons (gName 2) (gCons (gName 3) gNil))) (by rfl) scMoves.nd (pi_zip (by rfl) hzip (pa_cons (pe_fld (pv 0) rfl) (pa_cons (pv 1) pa_nil))) (blkOk_by (own := [("bed", 2), ("share", 3)]) (N := ["web", "bears", "bed", "share"]) (sc := defScope d_moves_of) (by decide +kernel))
        (fun _ _ _ _ _ => pg_tup (by rfl) (pgs_cons (pg_name (i := 2) scMoves.nd rfl (.inl rfl)) (pgs_cons (pg_name (i := 3) scMoves.nd rfl (.inl rfl)) pgs_nil))) (fun _ _ _ _ _ => pts_nil)
        (fun _ _ _ _ _ => pe_call A1.G hr rfl A1.m A1.k A1.b .nil pass0 (pa_cons (pv 2) (pa_cons (pv 3) pa_nil))))), ?_⟩
    obtain ⟨dx, b, pp, e, ⟨ts, hb, hts⟩, _, g⟩ := hw.old
    have few := g.few
    have lt : ts.length = W.beds.length := hts.len
    have lp : ps.length = qs.length := hps.len
    refine ⟨_, rfl, w0, CW, dx, _, _, rfl, e, TW.cl, TW.nb, webF_beds .., _, rfl, b, l, _, _, rfl, hb, hl, fun D hD => ?_⟩
    refine lc_it (walk_zip (K := K) (a := b) (b := l) (xs := ts.map V.ref) (ys := ps.map V.ref) rfl) (fun i N => N D = some (.lst ((((W.beds.zip qs).take i).map fun x => mvV x.1 x.2).map V.int)) ∧ Same H N) ⟨upd_same, same1 hD⟩ ?_ ?_ ?_
    · rintro i N _ ⟨_, sN⟩
      exact ⟨sN.seq hb, sN.seq hl⟩
    · rintro i x N N' hi ⟨eD, sN⟩ ⟨T, x1, x2, rfl, hT, rfl, e1, e2⟩
      have e1 : (ts.map V.ref)[i]? = some x1 := e1
      have e2 : (ps.map V.ref)[i]? = some x2 := e2
      rw [List.getElem?_map] at e1 e2
      obtain ⟨t, ht, rfl⟩ := Option.map_eq_some_iff.mp e1
      obtain ⟨p, hp, rfl⟩ := Option.map_eq_some_iff.mp e2
      have il : i < W.beds.length := by
        have := (List.getElem?_eq_some_iff.mp ht).1
        omega
      have iq : i < qs.length := by
        have := (List.getElem?_eq_some_iff.mp hp).1
        omega
      have hbi : W.beds[i]? = some W.beds[i] := List.getElem?_eq_getElem il
      have hqi : qs[i]? = some qs[i] := List.getElem?_eq_getElem iq
      have s3 : Same N (upd N T (.tup [.ref t, .ref p])) := same1 hT
      refine ⟨T, _, rfl, SqT.of upd_same, rfl, _, _, rfl, _, _, rfl, rfl, rfl, ?_⟩
      generalize upd N T (.tup [.ref t, .ref p]) = N2 at *
      have s2 := sN.trans s3
      have gb := g.bed _ (List.getElem_mem il)
      have iz : i < (W.beds.zip qs).length := by rw [List.length_zip]; omega
      refine ⟨_, rfl, _, rfl, t, p, W.beds[i], qs[i], rfl, (hts.all i t _ ht hbi).mono s2, (hps.all i p _ hp hqi).mono s2, gb.slo, gb.shi, sz _ (List.getElem_mem iq), ?_⟩
      refine ⟨_, s3 _ _ eD, ?_, ?_, fun a o ea => ?_⟩
      · rw [List.length_map, List.length_map, List.length_take]
        exact Nat.lt_of_le_of_lt (Nat.min_le_left _ _) (Nat.lt_of_lt_of_le (show i < 12 by omega) (show 12 ≤ sizeLine by decide))
      · rw [List.take_succ_eq_append_getElem iz, List.map_append, List.map_append, upd_same, List.getElem_zip]
        rfl
      · rw [upd_ne (ne_of_none ea hD)]
        exact s3 _ _ (sN _ _ ea)
    · rintro N ⟨eD, sN⟩
      rw [List.length_map, List.length_map, lt, lp, List.take_of_length_le (by rw [List.length_zip]; omega)] at eD
      exact q N D sN hD eD
abbrev pbN : List Str := ["parts", "amount", "ahead_is_first", "whole", "shares", "part"]
theorem scPB : FnScope pbN ["parts", "amount", "ahead_is_first"] (defScope d_parts_borne) := ⟨rfl, rfl, rfl, by decide +kernel, rfl, by decide +kernel, by decide +kernel⟩
theorem ok_pb {f f1 fI C CN : Addr} {fd fd1 fdI : FuncData} (F : Fun K "parts_borne" "parts_borne" d_parts_borne f fd) (T : Txt K mg C CN) (hsum : mg "sum" = none)
    (M : Mk K C fI) (GI : FnOk P w K mg base (L2.CX P w) 2 fI fdI ["self", "top", "bottom"] (spInit C CN)) (bI : Binds K fdI ["self", "top", "bottom"] [])
    (A1 : At P w K mg base CX0 4 "times" ["one", "other"] (spTwoQ C fun p q => p * q) f1 fd1) : FnOk P w K mg base CX0 5 f fd ["parts", "amount", "ahead_is_first"] (spBorneP K C) := by
  refine F.ok scPB (fun vs H Q E h => ?_) (fun cdv A outer s H vs Q E hr h => ?_)
  · obtain ⟨_, _, _, _, _, rfl, _⟩ := h
    rfl
  · obtain ⟨t, s0, ps, am, b, rfl, ht, hs, sA, s1, s18, few, q⟩ := h
    have r3 : Room 3 _ := hr.mono (by decide)
    refine ⟨_, pss_cons (ps_set (i := 3) scPB.nd rfl (Or.inr rfl) (pe_callB (cr_sumT rfl) (by rfl) hsum (by decide +kernel) (pa_cons (pv 0) pa_nil)))
      (pss_cons (ps_setLc (i := 4) (own := [("part", 5)]) (g := gName 5) (by rfl) scPB.nd rfl rfl (sw_true rfl rfl rfl (by decide +kernel)) (pi_tup (pv 0)) (blkOk_by (own := [("part", 5)]) (N := pbN) (sc := defScope d_parts_borne) (by decide +kernel)) (fun _ _ _ _ _ => pg_name (i := 5) scPB.nd rfl (.inl rfl)) (fun _ _ _ _ _ => pts_nil)
          (fun _ _ _ _ _ => pe_call A1.G hr rfl A1.m A1.k A1.b .nil pass0 (pa_cons (pv 1) (pa_cons (pe_make M GI r3 rfl T.mgC bI .nil passL (pa_cons (pv 5) (pa_cons (pv 3) pa_nil))) pa_nil))))
      (pss_one (ps_ret (pe_ifExp (pt_val (pv 2)) (pv 4) (pe_revL (pv 4)))))), ?_⟩
    refine ⟨_, rfl, t, ps.map (fun n : Nat => (n : Int)), rfl, (by rw [← natV_map]; exact ht), ?_⟩
    rw [sum_cast]
    refine ⟨_, rfl, t, rfl, ⟨_, ht⟩, fun D hD => ?_⟩
    refine lc_tup (K := K) (a := t) (xs := ps.map natV) (fun i N => ∃ us : List Addr, N D = some (.lst (us.map V.ref)) ∧ ShQs C N us ((ps.take i).map (partV ps am)) ∧ Same H N) ⟨[], upd_same, .nil, same1 hD⟩ ?_ ?_ ?_
    · rintro i N _ ⟨_, _, _, sN⟩
      exact Same.tup sN ht
    · rintro i x N hx ⟨us, eD, hus, sN⟩
      rw [List.getElem?_map] at hx
      obtain ⟨k, hk, rfl⟩ := Option.map_eq_some_iff.mp hx
      have ki : i < ps.length := (List.getElem?_eq_some_iff.mp hk).1
      have ek : ps[i] = k := Option.some.inj ((List.getElem?_eq_getElem ki).symm.trans hk)
      have km := List.mem_of_getElem? hk
      have w1 := s1 k km
      have kle := sum_nat_mem km
      refine ⟨rfl, _, rfl, _, rfl, _, rfl, fun p dp np nd nex => ?_⟩
      have nz : ((ps.sum : Nat) : Int) ≠ 0 := by omega
      have z1 : ((k : Nat) : Int).natAbs < 2 ^ 1500 := lt_18 (by omega) (by omega)
      have z2 : ((ps.sum : Nat) : Int).natAbs < 2 ^ 1500 := lt_18 (by omega) (by omega)
      refine ⟨p, dp, _, _, rfl, upd_same, pow_le z1 (by decide), pow_le z2 (by decide), fun z => absurd z nz, fun _ N1 e1 ka => ⟨rfl, ?_⟩⟩
      have m1 : Same N N1 := made_same (C := C) np nd ka
      have hp : ShQ C N1 p (ratI k / ratI ps.sum) := shq_low nz ⟨dp, e1⟩
      refine ⟨s0, p, am, _, rfl, hs.mono (sN.trans m1), hp, sA, sz_div nz z1 z2, fun N2 r m2 nr hr2 => ?_⟩
      have m12 := m1.trans m2
      have eD2 := m12 _ _ eD
      refine ⟨_, eD2, ?_, us ++ [r], by rw [List.map_append]; exact upd_same, ?_, fun a o ea => ?_⟩
      · rw [List.length_map, hus.len, List.length_map, List.length_take]
        exact Nat.lt_of_le_of_lt (Nat.min_le_left _ _) (Nat.lt_of_lt_of_le (show i < 12 by omega) (show 12 ≤ sizeLine by decide))
      · rw [List.take_succ_eq_append_getElem ki, List.map_append, ek]
        have kk : ∀ {a : Addr} {q : Rat}, ShQ C N2 a q → ShQ C (upd N2 D (.lst (us.map V.ref ++ [.ref r]))) a q := fun {a q} ⟨d0, z⟩ => ⟨d0, by rw [upd_ne (fun y => by rw [y, eD2] at z; cases z)]; exact z⟩
        exact (All2.mono hus fun a q _ _ z => kk (ShQ.mono z m12)).snoc (kk hr2)
      · rw [upd_ne (ne_of_none ea hD)]
        exact m12 _ _ (sN _ _ ea)
    · rintro N ⟨us, eD, hus, sN⟩
      rw [List.length_map, List.take_length] at hus
      refine ⟨_, rfl, b, rfl, ?_⟩
      cases b with
      | true =>
        refine iteT ⟨_, rfl, q N D sN hD ⟨us, eD, ?_⟩⟩
        exact hus
      | false =>
        refine iteF ⟨_, rfl, D, _, rfl, SqL.of eD, fun r nr => ?_⟩
        have m2 : Same N (upd N r (.lst (us.map V.ref).reverse)) := same1 nr
        refine q _ r (sN.trans m2) ?_ ⟨us.reverse, by rw [List.map_reverse]; exact upd_same, (ShQs.mono hus m2).rev⟩
        cases e : H r with
        | none => rfl
        | some o =>
          have := sN _ _ e
          rw [nr] at this
          cases this
end
end K72

namespace K72
open PySem PySem.Spec PyProof.Rows L2
/-! ### what the waters of a day do -/
def spFlow (K : PySem.W.Frag) (C CW : Addr) : Sp := fun vs H Q _ => ∃ (w t r : Addr) (W : WebV) (leads : List Bool) (rain : List Rat) (R k0 : Nat), vs = [.ref w, .ref t, .ref r] ∧ WebAt K C CW H w W ∧ SqT K H t (leads.map V.bl) ∧ leads.length = W.many ∧ RainAt C K H r rain ∧ RainOk W R k0 rain ∧
  ∀ (H' : Hp) (u wl bl : Addr), Same H H' → H' u = some (.tup [.ref wl, .ref bl]) → H wl = none → H bl = none → wl ≠ bl → ShL C H' wl (flowV W leads rain W.many).1 → ShL C H' bl (flowV W leads rain W.many).2 → Q (.ref u) H'
/-- all but the list at D stays, which is a list -/
theorem ShQs.put {C : Addr} {H : Hp} {D : Addr} {xs ys : List V} {us : List Addr} {qs : List Rat} (e : H D = some (.lst xs)) (h : ShQs C H us qs) : ShQs C (upd H D (.lst ys)) us qs :=
  All2.mono h fun a q _ _ ⟨d0, z⟩ => ⟨d0, by rw [upd_ne (fun y => by rw [y, e] at z; cases z)]; exact z⟩
theorem ShQ.put {C : Addr} {H : Hp} {D : Addr} {xs ys : List V} {a : Addr} {q : Rat} (e : H D = some (.lst xs)) (h : ShQ C H a q) : ShQ C (upd H D (.lst ys)) a q := by
  obtain ⟨d0, z⟩ := h
  exact ⟨d0, by rw [upd_ne (fun y => by rw [y, e] at z; cases z)]; exact z⟩
theorem All2.app {α β : Type} {R : α → β → Prop} {as as' : List α} {bs bs' : List β} (h : All2 R as bs) (g : All2 R as' bs') : All2 R (as ++ as') (bs ++ bs') := by
  refine ⟨by rw [List.length_append, List.length_append, h.len, g.len], fun i x y hx hy => ?_⟩
  by_cases c : i < as.length
  · rw [List.getElem?_append_left c] at hx
    rw [List.getElem?_append_left (by rw [← h.len]; exact c)] at hy
    exact h.all i x y hx hy
  · rw [List.getElem?_append_right (by omega)] at hx
    rw [List.getElem?_append_right (by rw [← h.len]; omega), ← h.len] at hy
    exact g.all _ x y hx hy
theorem into_take {bs : List Bed} {bears : List Rat} {p i : Nat} (h : i < (bears.zip bs).length) :
    ((((bears.zip bs).take (i + 1)).filter fun x => decide (x.2.e = p)).map Prod.fst) = ((((bears.zip bs).take i).filter fun x => decide (x.2.e = p)).map Prod.fst) ++ (if ((bears.zip bs)[i]).2.e = p then [((bears.zip bs)[i]).1] else []) := by
  rw [List.take_succ_eq_append_getElem h, List.filter_append, List.map_append]
  by_cases c : ((bears.zip bs)[i]).2.e = p
  · rw [if_pos c, List.filter_cons, if_pos (by simp only [decide_eq_true_eq]; exact c)]
    rfl
  · rw [if_neg c, List.filter_cons, if_neg (by simp only [decide_eq_true_eq]; exact c)]
    rfl
section
variable {P : Program} {w : World} {K : PySem.W.Frag} {mg : Str → Option Value} {base : Heap}
abbrev flowN : List Str := ["web", "leads", "rain", "waters", "bears", "place", "amount", "share", "bed"]
theorem scFlow : FnScope flowN ["web", "leads", "rain"] (defScope d_flow_of) := ⟨rfl, rfl, rfl, by decide +kernel, rfl, by decide +kernel, by decide +kernel⟩
theorem ok_flow {f f1 f2 C CW : Addr} {fd fd1 fd2 : FuncData} (F : Fun K "flow_of" "flow_of" d_flow_of f fd) (TW : CrsW K CW) (hzip : mg "zip" = none) (hrange : mg "range" = none)
    (A1 : At P w K mg base CX0 4 "total" ["shares"] (spTotalQ K C) f1 fd1) (A2 : At P w K mg base CX0 5 "parts_borne" ["parts", "amount", "ahead_is_first"] (spBorneP K C) f2 fd2) : FnOk P w K mg base CX0 6 f fd ["web", "leads", "rain"] (spFlow K C CW) := by
  refine F.ok scFlow (fun vs H Q E h => ?_) (fun cdv A outer s H vs Q E hr h => ?_)
  · obtain ⟨_, _, _, _, _, _, _, _, rfl, _⟩ := h
    rfl
  · obtain ⟨w0, t, r, W, leads, rain, R, k0, rfl, hw, ht, lt, hrn, ro, q⟩ := h
    have r4 : Room 4 _ := hr.mono (by decide)
    refine ⟨_, pss_cons (ps_set (i := 3) scFlow.nd rfl (Or.inl rfl) (pe_lst pa_nil))
      (pss_cons (ps_set (i := 4) scFlow.nd rfl (Or.inl rfl) (pe_lst pa_nil))
      (pss_cons (ps_for PassesOwn.never rfl (pi_range1 (by rfl) hrange (pa_cons (pe_fld (pv 0) rfl) pa_nil)) (pg_name (i := 5) scFlow.nd rfl (.inr rfl))
        (pss_cons (ps_set (i := 6) scFlow.nd rfl (Or.inl rfl) (pe_call A1.G r4 rfl A1.m A1.k A1.b .nil pass0 (pa_cons (pe_op op_cat (pe_lst (pa_cons (pe_ix ix_tup (pv 2) (pv 5) (fun _ _ => rfl)) pa_nil))
          (pe_lc (own := [("share", 7), ("bed", 8)]) (g := gTup K 2 (gCons (gName 7) (gCons (gName 8) gNil))) (by rfl) scFlow.nd (pi_zip (by rfl) hzip (pa_cons (pv 4) (pa_cons (pe_fld (pv 0) rfl) pa_nil))) (blkOk_by (own := [("share", 7), ("bed", 8)]) (N := flowN) (sc := defScope d_flow_of) (by decide +kernel))
            (fun _ _ _ _ _ => pg_tup (by rfl) (pgs_cons (pg_name (i := 7) scFlow.nd rfl (.inl rfl)) (pgs_cons (pg_name (i := 8) scFlow.nd rfl (.inl rfl)) pgs_nil)))
            (fun _ _ _ _ _ => pts_one (pt_cmpR op_eq (pe_ix (show IxR _ (rIxT K) from ix_tup) (pv 8) pe_int (fun _ _ => rfl)) (pv 5) (nomark _))) (fun _ _ _ _ _ => pv 7))) pa_nil)))
        (pss_cons (ps_expr (pe_bm PySem.F.plainAttrs_list PySem.F.slot_list_append PySem.F.type_list_append mt_append (pv 3) (pa_cons (pv 6) pa_nil)))
        (pss_one (ps_set (i := 4) scFlow.nd rfl (Or.inl rfl) (pe_op op_cat (pv 4) (pe_call A2.G hr rfl A2.m A2.k A2.b .nil pass0 (pa_cons (pe_ix ix_list (pe_fld (pv 0) rfl) (pv 5) (fun _ _ => rfl)) (pa_cons (pv 6) (pa_cons (pe_ix ix_tup (pv 1) (pv 5) (fun _ _ => rfl)) pa_nil))))))))))
      (pss_one (ps_ret (pe_tup (pa_cons (pv 3) (pa_cons (pv 4) pa_nil))))))), ?_⟩
    obtain ⟨dx, b, pp, e, ⟨ts, hb, hts⟩, ⟨us, hp, hus⟩, g⟩ := hw.old
    obtain ⟨rs, hr0, hrs⟩ := hrn
    have m8 := g.m8
    have few := g.few
    have lts : ts.length = W.beds.length := hts.len
    have lrs : rs.length = rain.length := hrs.len
    have lrn := ro.len
    have lus : us.length = W.parts.length := hus.len
    have lpt := g.plen
    refine ⟨(by show 0 ≤ sizeLine; decide), fun wl hwl => ?_⟩
    have s0 : Same H (upd H wl (.lst [])) := same1 hwl
    have ew : (upd H wl (.lst []) : Hp) wl = some (.lst []) := upd_same
    generalize upd H wl (.lst []) = H0 at *
    refine ⟨(by show 0 ≤ sizeLine; decide), fun bl hbl => ?_⟩
    have s1 : Same H0 (upd H0 bl (.lst [])) := same1 hbl
    have eb : (upd H0 bl (.lst []) : Hp) bl = some (.lst []) := upd_same
    have ew := s1 _ _ ew
    have nwb : wl ≠ bl := fun z => by rw [z] at hwl ew; rename_i ew0; rw [z, hbl] at ew0; cases ew0
    have hbl0 : H bl = none := by
      cases c : H bl with
      | none => rfl
      | some o =>
        have := s0 _ _ c
        rw [hbl] at this
        cases this
    have s01 := s0.trans s1
    generalize upd H0 bl (.lst []) = H1 at *
    refine ⟨_, rfl, w0, CW, dx, _, _, rfl, s01 _ _ e, TW.cl, TW.nm, webF_many .., _, rfl, by omega, by omega, ?_⟩
    refine for_range (lo := 0) (n := W.many) (fun i σ N => ∃ (v5 v6 : Option V) (bl : Addr) (as bs : List Addr), σ = [some (.ref w0), some (.ref t), some (.ref r), some (.ref wl), some (.ref bl), v5, v6, none, none] ∧
      N wl = some (.lst (as.map V.ref)) ∧ ShQs C N as (flowV W leads rain i).1 ∧ N bl = some (.lst (bs.map V.ref)) ∧ ShQs C N bs (flowV W leads rain i).2 ∧ wl ≠ bl ∧ H bl = none ∧ Same H N)
      ⟨none, none, bl, [], [], rfl, ew, .nil, eb, .nil, nwb, hbl0, s01⟩ ?_ ?_
    · rintro i σ N hi ⟨v5, v6, B, as, bs, rfl, eW, hA, eB, hB, nWB, hB0, sN⟩
      have hrN := Same.tup sN hr0
      have il : i < rs.length := by omega
      have iq : i < rain.length := by omega
      refine ⟨_, rfl, _, rfl, r, _, _, .ref rs[i], rfl, (by rw [Int.zero_add]), hrN, atI_nat (by rw [List.getElem?_map, List.getElem?_eq_getElem il]; rfl), ?_⟩
      refine ⟨(by show 1 ≤ sizeLine; decide), fun L hL => ?_⟩
      have s2 : Same N (upd N L (.lst [V.ref rs[i]])) := same1 hL
      have eL : (upd N L (.lst [V.ref rs[i]]) : Hp) L = some (.lst [V.ref rs[i]]) := upd_same
      generalize upd N L (.lst [V.ref rs[i]]) = N2 at *
      have sN2 := sN.trans s2
      have eB2 := s2 _ _ eB
      refine ⟨_, rfl, _, rfl, w0, CW, dx, _, _, rfl, sN2 _ _ e, TW.cl, TW.nb, webF_beds .., B, b, _, _, rfl, SqL.of eB2, sN2.seq hb, fun D hD => ?_⟩
      have lbs : bs.length = (flowV W leads rain i).2.length := hB.len
      refine lc_it (walk_zip (K := K) (a := B) (b := b) (xs := bs.map V.ref) (ys := ts.map V.ref) rfl) (fun j M => ∃ qs : List Addr, M D = some (.lst (qs.map V.ref)) ∧ ShQs C M qs (((((flowV W leads rain i).2.zip W.beds).take j).filter fun x => decide (x.2.e = i)).map Prod.fst) ∧ Same N2 M) ⟨[], upd_same, .nil, same1 hD⟩ ?_ ?_ ?_
      · rintro j M _ ⟨_, _, _, sM⟩
        exact ⟨SqL.of (sM _ _ eB2), (sN2.trans sM).seq hb⟩
      · rintro j x M M' hj ⟨qs, eD, hqs, sM⟩ ⟨T, x1, x2, rfl, hT, rfl, e1, e2⟩
        have e1 : (bs.map V.ref)[j]? = some x1 := e1
        have e2 : (ts.map V.ref)[j]? = some x2 := e2
        rw [List.getElem?_map] at e1 e2
        obtain ⟨c, hc, rfl⟩ := Option.map_eq_some_iff.mp e1
        obtain ⟨d, hd, rfl⟩ := Option.map_eq_some_iff.mp e2
        have jl : j < W.beds.length := by
          have := (List.getElem?_eq_some_iff.mp hd).1
          omega
        have jq : j < (flowV W leads rain i).2.length := by
          have := (List.getElem?_eq_some_iff.mp hc).1
          omega
        have jz : j < ((flowV W leads rain i).2.zip W.beds).length := by rw [List.length_zip]; omega
        have s3 : Same M (upd M T (.tup [.ref c, .ref d])) := same1 hT
        refine ⟨T, _, rfl, SqT.of upd_same, rfl, _, _, rfl, _, _, rfl, rfl, rfl, ?_⟩
        generalize upd M T (.tup [.ref c, .ref d]) = M2 at *
        have s23 := sM.trans s3
        have hcs : ShQ C M2 c ((flowV W leads rain i).2[j]) := ((ShQs.mono hB s2).mono s23).all j c _ hc (List.getElem?_eq_getElem jq)
        obtain ⟨_, _, q1, _, _⟩ := (hts.all j d _ hd (List.getElem?_eq_getElem jl)).mono (sN2.trans s23)
        refine ⟨_, rfl, d, _, _, _, rfl, rfl, q1, at_k (by decide) rfl, _, rfl, rfl, _, rfl, ?_⟩
        have eD2 := s3 _ _ eD
        have hq2 := ShQs.mono hqs s3
        have nxt := into_take (p := i) jz
        rw [List.getElem_zip] at nxt
        have sz : (qs.map V.ref).length < sizeLine := by
          rw [List.length_map, hqs.len, List.length_map]
          refine Nat.lt_of_le_of_lt (List.length_filter_le _ _) ?_
          rw [List.length_take]
          exact Nat.lt_of_le_of_lt (Nat.min_le_left _ _) (Nat.lt_of_lt_of_le (show j < 12 by omega) (show 12 ≤ sizeLine by decide))
        refine ite2 (fun h => ?_) (fun h => ?_)
        · have h : ((W.beds[j].e : Nat) : Int) = 0 + (i : Int) := V.int.inj (of_decide_eq_true h)
          refine ⟨_, rfl, _, eD2, sz, qs ++ [c], by rw [List.map_append]; exact upd_same, ?_, fun a o ea => ?_⟩
          · rw [nxt, if_pos (by show W.beds[j].e = i; omega)]
            exact All2.snoc (hq2.put eD2) (hcs.put eD2)
          · rw [upd_ne (ne_of_none ea hD)]
            exact s23 _ _ ea
        · have h : ¬ ((W.beds[j].e : Nat) : Int) = 0 + (i : Int) := fun z => h (decide_eq_true (by rw [z]))
          refine ⟨qs, eD2, ?_, s23⟩
          rw [nxt, if_neg (by show ¬ W.beds[j].e = i; omega), List.append_nil]
          exact hq2
      · rintro M ⟨qs, eD, hqs, sM⟩
        have eI : (((((flowV W leads rain i).2.zip W.beds).take (min (bs.map V.ref).length (ts.map V.ref).length)).filter fun x => decide (x.2.e = i)).map Prod.fst) = intoV W.beds (flowV W leads rain i).2 i := by
          rw [List.take_of_length_le (by rw [List.length_zip, List.length_map, List.length_map]; omega)]
          rfl
        rw [eI] at hqs
        have lq := hqs.len
        have li := into_len W.beds (flowV W leads rain i).2 i
        have eL2 := sM _ _ eL
        refine ⟨L, D, _, _, rfl, rfl, eL2, eD, (by rw [List.length_map]; exact Nat.le_trans (show 1 + qs.length ≤ 13 by omega) (show 13 ≤ sizeLine by decide)), fun G hG => ?_⟩
        have s4 : Same M (upd M G (.lst ([V.ref rs[i]] ++ qs.map V.ref))) := same1 hG
        have eG : (upd M G (.lst ([V.ref rs[i]] ++ qs.map V.ref)) : Hp) G = some (.lst ([V.ref rs[i]] ++ qs.map V.ref)) := upd_same
        generalize upd M G (.lst ([V.ref rs[i]] ++ qs.map V.ref)) = M4 at *
        have s24 := sM.trans s4
        have sH4 := sN2.trans s24
        have hw4 : ShQs C M4 (rs[i] :: qs) (amL W rain (flowV W leads rain i).2 i) := by
          have h1 : ShQ C M4 rs[i] ((rain[i]?).getD 0) := by
            rw [List.getElem?_eq_getElem iq]
            exact (hrs.mono sH4).all i _ _ (List.getElem?_eq_getElem il) (List.getElem?_eq_getElem iq)
          exact All2.app (All2.one h1) (ShQs.mono hqs s4)
        refine ⟨G, rs[i] :: qs, _, _, rfl, SqL.of eG, hw4, flow_tots g leads ro hi, fun M5 p s5 hp5 => ?_⟩
        have sN5 : Same N M5 := s2.trans (s24.trans s5)
        have eW5 := sN5 _ _ eW
        have eB5 := sN5 _ _ eB
        refine ⟨_, rfl, .inl ⟨rfl, _, SqL.of eW5⟩, _, rfl, wl, _, _, rfl, rfl, eW5, ?_, ?_⟩
        · rw [List.length_map, hA.len, flow_len1]
          exact Nat.lt_of_lt_of_le (show i < 8 by omega) (show 8 ≤ sizeLine by decide)
        have sH6 : Same H (upd M5 wl (.lst (as.map V.ref ++ [.ref p]))) := fun a o ea => by
          rw [upd_ne (ne_of_none ea hwl)]
          exact (sN.trans sN5) _ _ ea
        have hA6 : ShQs C (upd M5 wl (.lst (as.map V.ref ++ [.ref p]))) (as ++ [p]) (flowV W leads rain (i + 1)).1 := All2.snoc ((ShQs.mono hA sN5).put eW5) (hp5.put eW5)
        have hB6 := (ShQs.mono hB sN5).put (ys := as.map V.ref ++ [.ref p]) eW5
        have hp6 := hp5.put (ys := as.map V.ref ++ [.ref p]) eW5
        have eW6 : (upd M5 wl (.lst (as.map V.ref ++ [.ref p])) : Hp) wl = some (.lst (as.map V.ref ++ [.ref p])) := upd_same
        have eB6 : (upd M5 wl (.lst (as.map V.ref ++ [.ref p])) : Hp) B = some (.lst (bs.map V.ref)) := by
          rw [upd_ne (Ne.symm nWB)]
          exact eB5
        generalize upd M5 wl (.lst (as.map V.ref ++ [.ref p])) = M6 at *
        have iu : i < us.length := by omega
        have ip : i < W.parts.length := by omega
        have it : i < leads.length := by omega
        have gp := g.part i _ (List.getElem?_eq_getElem ip)
        have gs : ∀ a ∈ W.parts[i], 1 ≤ W.parts[i].sum ∧ W.parts[i].sum ≤ 18 ∧ a ≤ W.parts[i].sum := fun a ha => parts_sum g rfl gp ha
        have g18 : W.parts[i].sum ≤ 18 := by
          have h2 := g.two i
          have hl := gp.len
          have h3 := sum_nat_le W.parts[i] gp.le
          omega
        refine ⟨_, rfl, _, rfl, w0, CW, dx, _, _, rfl, sH6 _ _ e, TW.cl, TW.np, webF_parts .., _, rfl, pp, _, _, .ref us[i], rfl, (by rw [Int.zero_add]), sH6.seq hp, atI_nat (by rw [List.getElem?_map, List.getElem?_eq_getElem iu]; rfl), _, rfl, _, rfl, _, rfl, t, _, _, .bl leads[i], rfl, (by rw [Int.zero_add]), Same.tup sH6 ht, atI_nat (by rw [List.getElem?_map, List.getElem?_eq_getElem it]; rfl), ?_⟩
        refine ⟨us[i], p, W.parts[i], _, leads[i], rfl, Same.tup sH6 (hus.all i _ _ (List.getElem?_eq_getElem iu) (List.getElem?_eq_getElem ip)), hp6, flow_szA g leads ro hi, fun a ha => (gs a ha).1, g18, gp.few, fun M7 l s7 nl ⟨vs7, el7, hv7⟩ => ?_⟩
        have lB : (bs.map V.ref).length ≤ 12 := by
          have := flow_few g leads rain (p := i) (by omega)
          rw [List.length_map]
          omega
        have lv : (vs7.map V.ref).length ≤ 12 := by
          have h1 := hv7.len
          rw [born_len] at h1
          have := gp.few
          rw [List.length_map]
          omega
        refine ⟨B, l, _, _, rfl, rfl, s7 _ _ eB6, el7, Nat.le_trans (show _ ≤ 24 by omega) (show 24 ≤ sizeLine by decide), fun S hS => ?_⟩
        have s8 : Same M7 (upd M7 S (.lst (bs.map V.ref ++ vs7.map V.ref))) := same1 hS
        have s78 := s7.trans s8
        refine ⟨_, _, S, as ++ [p], bs ++ vs7, rfl, by rw [List.map_append]; exact s8 _ _ (s7 _ _ eW6), ShQs.mono hA6 s78, by rw [List.map_append]; exact upd_same, ?_, fun z => ?_, ?_, sH6.trans s78⟩
        · show ShQs C _ _ ((flowV W leads rain i).2 ++ bornV ((W.parts[i]?).getD []) _ ((leads[i]?).getD true))
          rw [List.getElem?_eq_getElem ip, List.getElem?_eq_getElem it]
          exact All2.app (ShQs.mono hB6 s78) (ShQs.mono hv7 s8)
        · have := s7 _ _ eW6
          rw [z, hS] at this
          cases this
        · cases c : H S with
          | none => rfl
          | some o =>
            have := s7 _ _ (sH6 _ _ c)
            rw [hS] at this
            cases this
    · rintro σ N ⟨v5, v6, B, as, bs, rfl, eW, hA, eB, hB, nWB, hB0, sN⟩
      refine ⟨_, rfl, _, rfl, (by show 2 ≤ sizeLine; decide), fun u hu => ?_⟩
      have s2 : Same N (upd N u (.tup [.ref wl, .ref B])) := same1 hu
      exact q _ u wl B (sN.trans s2) upd_same hwl hB0 nWB ⟨as, s2 _ _ eW, ShQs.mono hA s2⟩ ⟨bs, s2 _ _ eB, ShQs.mono hB s2⟩
end
end K72

namespace K72
open PySem PySem.Spec PyProof.Rows L2
/-! ### a day -/
def dayV (W : WebV) (ds : List Int) (rain : List Rat) : List Rat × List Rat := flowV W (leadsV (gapsV W ds)) rain W.many
def addV (ds ms : List Int) : List Int := (ds.zip ms).map fun x => x.1 + x.2
def stepV (W : WebV) (ds : List Int) (rain : List Rat) : List Int := addV ds (movesV W.beds (dayV W ds rain).2)
/-- what a day is asked of -/
structure DayAsk (K : PySem.W.Frag) (C CW : Addr) (H : Hp) (w d r : Addr) (W : WebV) (ds : List Int) (rain : List Rat) (R k0 : Nat) : Prop where
  web : WebAt K C CW H w W
  dep : SqT K H d (ds.map V.int)
  len : ds.length = W.beds.length
  fall : RainAt C K H r rain
  ok : RainOk W R k0 rain
def spDay (K : PySem.W.Frag) (C CW : Addr) : Sp := fun vs H Q _ => ∃ (w d r : Addr) (W : WebV) (ds : List Int) (rain : List Rat) (R k0 : Nat), vs = [.ref w, .ref d, .ref r] ∧ DayAsk K C CW H w d r W ds rain R k0 ∧
  ∀ (H' : Hp) (u wl bl : Addr), Same H H' → H' u = some (.tup [.ref wl, .ref bl]) → H wl = none → H bl = none → wl ≠ bl → ShL C H' wl (dayV W ds rain).1 → ShL C H' bl (dayV W ds rain).2 → Q (.ref u) H'
def spBorne (K : PySem.W.Frag) (C CW : Addr) : Sp := fun vs H Q _ => ∃ (w d r : Addr) (W : WebV) (ds : List Int) (rain : List Rat) (R k0 : Nat), vs = [.ref w, .ref d, .ref r] ∧ DayAsk K C CW H w d r W ds rain R k0 ∧
  ∀ (H' : Hp) (l : Addr), Same H H' → H l = none → ShL C H' l (dayV W ds rain).2 → Q (.ref l) H'
def spWater (K : PySem.W.Frag) (C CW : Addr) : Sp := fun vs H Q _ => ∃ (w d r : Addr) (W : WebV) (ds : List Int) (rain : List Rat) (R k0 : Nat), vs = [.ref w, .ref d, .ref r] ∧ DayAsk K C CW H w d r W ds rain R k0 ∧
  ∀ (H' : Hp) (l : Addr), Same H H' → H l = none → ShL C H' l (dayV W ds rain).1 → Q (.ref l) H'
def spStep (K : PySem.W.Frag) (C CW : Addr) : Sp := fun vs H Q _ => ∃ (w d r : Addr) (W : WebV) (ds : List Int) (rain : List Rat) (R k0 : Nat), vs = [.ref w, .ref d, .ref r] ∧ DayAsk K C CW H w d r W ds rain R k0 ∧
  ∀ (H' : Hp) (u : Addr), Same H H' → H' u = some (.tup ((stepV W ds rain).map V.int)) → Q (.ref u) H'
/-- a def of two parameters and one by its name -/
theorem kbn_rain {K : PySem.W.Frag} {x qual : Str} {st : Stmt} {f : Addr} {fd : FuncData} (F : Fun K x qual st f fd) {ps ks : List Str}
    (h : ∀ (kV doc pm : Value) (an : Option Addr) (cdv ct : Value) (us ws : List Value), us.length = 2 → ws.length = ks.length → bindArgs (PySem.W.fnOf x qual (defArgs st) (defBody st) (defScope st) .none kV doc pm an cdv ct) ⟨us, ks.zip ws⟩ = pure (ps.zip (us ++ ws))) :
    KBn K fd ps 2 ks (fun us ws => us ++ ws) (fun vs zs => vs ++ zs) := by
  obtain ⟨oc, od, kV, doc, pm, an, cdv, ct, osl, rfl, lk, hcd⟩ := F.ex
  exact ⟨fun s us ws _ l1 l2 => .of_eq (h kV doc pm an cdv ct us ws l1 l2), fun r1 r2 => r1.append r2⟩
section
variable {P : Program} {w : World} {K : PySem.W.Frag} {mg : Str → Option Value} {base : Heap}
theorem gaps_len (W : WebV) (ds : List Int) : (gapsV W ds).length = W.many := by
  unfold gapsV
  rw [List.length_map, List.length_range]
theorem leads_len (gs : List Int) : (leadsV gs).length = gs.length := List.length_map ..
theorem scDay : FnScope ["web", "depths", "rain"] ["web", "depths", "rain"] (defScope d_day_of) := ⟨rfl, rfl, rfl, by decide +kernel, rfl, by decide +kernel, by decide +kernel⟩
theorem ok_day {f f1 f2 f3 f4 f5 C CW : Addr} {fd fd1 fd2 fd3 fd4 fd5 : FuncData} (F : Fun K "day_of" "day_of" d_day_of f fd)
    (A1 : At P w K mg base CX0 3 "check_depths" ["web", "thing"] (spCheckD K C CW) f1 fd1) (A2 : At P w K mg base CX0 2 "check_rain" ["web", "thing"] (spCheckR K C CW) f2 fd2)
    (A3 : At P w K mg base CX0 2 "gaps_of" ["web", "numbers"] (spGaps K C CW) f3 fd3) (A4 : At P w K mg base CX0 1 "leads_of" ["gaps"] (spLeads K) f4 fd4)
    (A5 : At P w K mg base CX0 6 "flow_of" ["web", "leads", "rain"] (spFlow K C CW) f5 fd5) : FnOk P w K mg base CX0 7 f fd ["web", "depths", "rain"] (spDay K C CW) := by
  refine F.ok scDay (fun vs H Q E h => ?_) (fun cdv A outer s H vs Q E hr h => ?_)
  · obtain ⟨_, _, _, _, _, _, _, _, rfl, _⟩ := h
    rfl
  · obtain ⟨w0, d, r, W, ds, rain, R, k0, rfl, D, q⟩ := h
    refine ⟨_, pss_cons (ps_expr (pe_call A1.G (hr.mono (by decide)) rfl A1.m A1.k A1.b .nil pass0 (pa_cons (pv 0) (pa_cons (pv 1) pa_nil))))
      (pss_cons (ps_expr (pe_call A2.G (hr.mono (by decide)) rfl A2.m A2.k A2.b .nil pass0 (pa_cons (pv 0) (pa_cons (pv 2) pa_nil))))
      (pss_one (ps_ret (pe_call A5.G hr rfl A5.m A5.k A5.b .nil pass0 (pa_cons (pv 0) (pa_cons (pe_call A4.G (hr.mono (by decide)) rfl A4.m A4.k A4.b .nil pass0 (pa_cons (pe_call A3.G (hr.mono (by decide)) rfl A3.m A3.k A3.b .nil pass0 (pa_cons (pv 0) (pa_cons (pv 1) pa_nil))) pa_nil)) (pa_cons (pv 2) pa_nil))))))), ?_⟩
    have g := D.web
    obtain ⟨_, _, _, _, _, _, g⟩ := g
    have m8 := g.m8
    refine ⟨_, rfl, _, rfl, w0, d, W, ds, rfl, D.web, D.dep, D.len, fun H1 s1 => ?_⟩
    refine ⟨_, rfl, _, rfl, w0, r, W, rain, rfl, D.web.mono s1, D.fall.mono s1, D.ok.len, D.ok.nn, fun H2 s2 => ?_⟩
    have s12 := s1.trans s2
    refine ⟨_, rfl, _, rfl, _, rfl, w0, d, W, ds, rfl, D.web.mono s12, Same.tup s12 D.dep, D.len, fun H3 t s3 et => ?_⟩
    refine ⟨t, gapsV W ds, rfl, SqT.of et, by rw [gaps_len]; omega, fun H4 u s4 eu => ?_⟩
    have s14 := s12.trans (s3.trans s4)
    refine ⟨_, rfl, w0, u, r, W, leadsV (gapsV W ds), rain, R, k0, rfl, D.web.mono s14, SqT.of eu, by rw [leads_len, gaps_len], D.fall.mono s14, D.ok, fun H5 v wl bl s5 ev nw nb ne sw sb => ?_⟩
    have none : ∀ {a : Addr}, H4 a = none → H a = none := fun {a} h => by
      cases c : H a with
      | none => rfl
      | some o =>
        have := s14 _ _ c
        rw [h] at this
        cases this
    exact q H5 v wl bl (s14.trans s5) ev (none nw) (none nb) ne sw sb
end
end K72

namespace K72
open PySem PySem.Spec PyProof.Rows L2
theorem kb_borne {K : PySem.W.Frag} {f : Addr} {fd : FuncData} (F : Fun K "borne" "borne" d_borne f fd) : KBn K fd ["web", "depths", "rain"] 2 ["rain"] (fun us ws => us ++ ws) (fun vs zs => vs ++ zs) :=
  kbn_rain F fun _ _ _ _ _ _ us ws l1 l2 => match us, ws, l1, l2 with | [_, _], [_], _, _ => rfl
section
variable {P : Program} {w : World} {K : PySem.W.Frag} {mg : Str → Option Value} {base : Heap}
theorem scBorne : FnScope ["web", "depths", "rain"] ["web", "depths", "rain"] (defScope d_borne) := ⟨rfl, rfl, rfl, by decide +kernel, rfl, by decide +kernel, by decide +kernel⟩
theorem ok_borne {f f1 C CW : Addr} {fd fd1 : FuncData} (F : Fun K "borne" "borne" d_borne f fd)
    (A1 : At P w K mg base CX0 7 "day_of" ["web", "depths", "rain"] (spDay K C CW) f1 fd1) : FnOk P w K mg base CX0 8 f fd ["web", "depths", "rain"] (spBorne K C CW) := by
  refine F.ok scBorne (fun vs H Q E h => ?_) (fun cdv A outer s H vs Q E hr h => ?_)
  · obtain ⟨_, _, _, _, _, _, _, _, rfl, _⟩ := h
    rfl
  · obtain ⟨w0, d, r, W, ds, rain, R, k0, rfl, D, q⟩ := h
    refine ⟨_, pss_one (ps_ret (pe_ix ix_tup (pe_call A1.G hr rfl A1.m A1.k A1.b .nil pass0 (pa_cons (pv 0) (pa_cons (pv 1) (pa_cons (pv 2) pa_nil)))) pe_int (fun _ _ => rfl))), ?_⟩
    exact ⟨_, rfl, _, rfl, _, rfl, w0, d, r, W, ds, rain, R, k0, rfl, D, fun H1 u wl bl s1 eu nw nb ne sw sb => ⟨u, _, _, _, rfl, rfl, SqT.of eu, at_k (by decide) rfl, q H1 bl s1 nb sb⟩⟩
end
end K72

namespace K72
open PySem PySem.Spec PyProof.Rows L2
theorem kb_water {K : PySem.W.Frag} {f : Addr} {fd : FuncData} (F : Fun K "water" "water" d_water f fd) : KBn K fd ["web", "depths", "rain"] 2 ["rain"] (fun us ws => us ++ ws) (fun vs zs => vs ++ zs) :=
  kbn_rain F fun _ _ _ _ _ _ us ws l1 l2 => match us, ws, l1, l2 with | [_, _], [_], _, _ => rfl
section
variable {P : Program} {w : World} {K : PySem.W.Frag} {mg : Str → Option Value} {base : Heap}
theorem scWater : FnScope ["web", "depths", "rain"] ["web", "depths", "rain"] (defScope d_water) := ⟨rfl, rfl, rfl, by decide +kernel, rfl, by decide +kernel, by decide +kernel⟩
theorem ok_water {f f1 C CW : Addr} {fd fd1 : FuncData} (F : Fun K "water" "water" d_water f fd)
    (A1 : At P w K mg base CX0 7 "day_of" ["web", "depths", "rain"] (spDay K C CW) f1 fd1) : FnOk P w K mg base CX0 8 f fd ["web", "depths", "rain"] (spWater K C CW) := by
  refine F.ok scWater (fun vs H Q E h => ?_) (fun cdv A outer s H vs Q E hr h => ?_)
  · obtain ⟨_, _, _, _, _, _, _, _, rfl, _⟩ := h
    rfl
  · obtain ⟨w0, d, r, W, ds, rain, R, k0, rfl, D, q⟩ := h
    refine ⟨_, pss_one (ps_ret (pe_ix ix_tup (pe_call A1.G hr rfl A1.m A1.k A1.b .nil pass0 (pa_cons (pv 0) (pa_cons (pv 1) (pa_cons (pv 2) pa_nil)))) pe_int (fun _ _ => rfl))), ?_⟩
    exact ⟨_, rfl, _, rfl, _, rfl, w0, d, r, W, ds, rain, R, k0, rfl, D, fun H1 u wl bl s1 eu nw nb ne sw sb => ⟨u, _, _, _, rfl, rfl, SqT.of eu, at_k (by decide) rfl, q H1 wl s1 nw sw⟩⟩
end
end K72

namespace K72
open PySem PySem.Spec PyProof.Rows L2
theorem kb_step {K : PySem.W.Frag} {f : Addr} {fd : FuncData} (F : Fun K "step" "step" d_step f fd) : KBn K fd ["web", "depths", "rain"] 2 ["rain"] (fun us ws => us ++ ws) (fun vs zs => vs ++ zs) :=
  kbn_rain F fun _ _ _ _ _ _ us ws l1 l2 => match us, ws, l1, l2 with | [_, _], [_], _, _ => rfl
section
variable {P : Program} {w : World} {K : PySem.W.Frag} {mg : Str → Option Value} {base : Heap}
abbrev stepN : List Str := ["web", "depths", "rain", "moves", "depth", "move"]
theorem scStep : FnScope stepN ["web", "depths", "rain"] (defScope d_step) := ⟨rfl, rfl, rfl, by decide +kernel, rfl, by decide +kernel, by decide +kernel⟩
theorem ok_step {f f1 f2 C CW : Addr} {fd fd1 fd2 : FuncData} (F : Fun K "step" "step" d_step f fd) (htuple : mg "tuple" = none) (hzip : mg "zip" = none)
    (A1 : At P w K mg base CX0 7 "day_of" ["web", "depths", "rain"] (spDay K C CW) f1 fd1) (A2 : At P w K mg base CX0 3 "moves_of" ["web", "bears"] (spMoves K C CW) f2 fd2) : FnOk P w K mg base CX0 8 f fd ["web", "depths", "rain"] (spStep K C CW) := by
  refine F.ok scStep (fun vs H Q E h => ?_) (fun cdv A outer s H vs Q E hr h => ?_)
  · obtain ⟨_, _, _, _, _, _, _, _, rfl, _⟩ := h
    rfl
  · obtain ⟨w0, d, r, W, ds, rain, R, k0, rfl, D, q⟩ := h
    refine ⟨_, pss_cons (ps_set (i := 3) scStep.nd rfl (Or.inl rfl) (pe_call A2.G (hr.mono (by decide)) rfl A2.m A2.k A2.b .nil pass0 (pa_cons (pv 0) (pa_cons (pe_ix ix_tup (pe_call A1.G hr rfl A1.m A1.k A1.b .nil pass0 (pa_cons (pv 0) (pa_cons (pv 1) (pa_cons (pv 2) pa_nil)))) pe_int (fun _ _ => rfl)) pa_nil))))
      (pss_one (ps_ret (pe_callTy (cr_tup (K := K) rfl) (by rfl) htuple (by decide +kernel) (pa_cons
        (pe_lc (own := [("depth", 4), ("move", 5)]) (g := gTup K 2 (gCons (gName 4) (gCons (gName 5) gNil))) (te := tOp (rI0 fun i j => .int (i + j)) (tVar 4) (tVar 5)) (by rfl) scStep.nd (pi_zipG true false (by rfl) hzip (pa_cons (pv 1) (pa_cons (pv 3) pa_nil))) (blkOk_by (own := [("depth", 4), ("move", 5)]) (N := stepN) (sc := defScope d_step) (by decide +kernel))
          (fun _ _ _ _ _ => pg_tup (by rfl) (pgs_cons (pg_name (i := 4) scStep.nd rfl (.inl rfl)) (pgs_cons (pg_name (i := 5) scStep.nd rfl (.inl rfl)) pgs_nil))) (fun _ _ _ _ _ => pts_nil)
          (fun _ _ _ _ _ => pe_op op_add (pv 4) (pv 5))) pa_nil)))), ?_⟩
    have g := D.web
    obtain ⟨_, _, _, _, _, _, g⟩ := g
    have few := g.few
    have ld := D.len
    refine ⟨_, rfl, _, rfl, _, rfl, _, rfl, w0, d, r, W, ds, rain, R, k0, rfl, D, fun H1 u wl bl s1 eu nw nb ne sw ⟨ps, eb, hps⟩ => ⟨u, _, _, _, rfl, rfl, SqT.of eu, at_k (by decide) rfl, ?_⟩⟩
    refine ⟨w0, bl, W, ps, _, rfl, D.web.mono s1, SqL.of eb, hps, (flow_szB g _ D.ok (Nat.le_refl _)).2, fun H2 m s2 nm em => ?_⟩
    have s12 := s1.trans s2
    have hd := Same.tup s12 D.dep
    have lm : (movesV W.beds (dayV W ds rain).2).length = W.beds.length := by
      unfold movesV
      rw [List.length_map, List.length_zip]
      have : (dayV W ds rain).2.length = W.beds.length := flow_all g _ rain
      omega
    refine ⟨_, rfl, _, rfl, d, m, _, _, rfl, hd, SqL.of em, fun D2 hD2 => ?_⟩
    refine lc_it (walk_zipG (K := K) (j := true) (k := false) (a := d) (b := m) (xs := ds.map V.int) (ys := (movesV W.beds (dayV W ds rain).2).map V.int) rfl) (fun i N => N D2 = some (.lst ((((ds.zip (movesV W.beds (dayV W ds rain).2)).take i).map fun x => x.1 + x.2).map V.int)) ∧ Same H2 N) ⟨upd_same, same1 hD2⟩ ?_ ?_ ?_
    · rintro i N _ ⟨_, sN⟩
      exact ⟨Same.tup sN hd, SqL.of (sN _ _ em)⟩
    · rintro i x N N' hi ⟨eD, sN⟩ ⟨T, x1, x2, rfl, hT, rfl, e1, e2⟩
      have e1 : (ds.map V.int)[i]? = some x1 := e1
      have e2 : ((movesV W.beds (dayV W ds rain).2).map V.int)[i]? = some x2 := e2
      rw [List.getElem?_map] at e1 e2
      obtain ⟨c, hc, rfl⟩ := Option.map_eq_some_iff.mp e1
      obtain ⟨v, hv, rfl⟩ := Option.map_eq_some_iff.mp e2
      obtain ⟨ic, ec⟩ := List.getElem?_eq_some_iff.mp hc
      obtain ⟨iv, ev⟩ := List.getElem?_eq_some_iff.mp hv
      have iz : i < (ds.zip (movesV W.beds (dayV W ds rain).2)).length := by rw [List.length_zip]; omega
      have s3 : Same N (upd N T (.tup [.int c, .int v])) := same1 hT
      refine ⟨T, _, rfl, SqT.of upd_same, rfl, _, _, rfl, _, _, rfl, rfl, rfl, ?_⟩
      refine ⟨_, rfl, _, rfl, _, _, rfl, rfl, _, s3 _ _ eD, ?_, ?_, fun a o ea => ?_⟩
      · rw [List.length_map, List.length_map, List.length_take]
        exact Nat.lt_of_le_of_lt (Nat.min_le_left _ _) (Nat.lt_of_lt_of_le (show i < 12 by omega) (show 12 ≤ sizeLine by decide))
      · rw [List.take_succ_eq_append_getElem iz, List.map_append, List.map_append, upd_same, List.getElem_zip]
        show some (HO.lst (_ ++ [V.int (c + v)])) = some (HO.lst (_ ++ [V.int (ds[i] + (movesV W.beds (dayV W ds rain).2)[i])]))
        rw [ec, ev]
      · rw [upd_ne (ne_of_none ea hD2)]
        exact s3 _ _ (sN _ _ ea)
    · rintro N ⟨eD, sN⟩
      rw [List.take_of_length_le (by rw [List.length_zip, List.length_map, List.length_map]; omega)] at eD
      refine ⟨D2, _, rfl, .inl ⟨SqL.of eD, fun v hv => ?_⟩⟩
      exact q _ v (s12.trans (sN.trans (same1 hv))) upd_same
end
end K72

namespace K72
open PySem PySem.Spec PyProof.Rows L2
/-! ### the law's draws -/
/-- the builtins that the law asks by name -/
structure TxtB (mg : Str → Option Value) : Prop where
  int : mg "int" = none
  len : mg "len" = none
  abs : mg "abs" = none
/-- all but p stays -/
def But (p : Addr) (H H' : Hp) : Prop := ∀ b o, b ≠ p → H b = some o → H' b = some o
/-- a list of three numbers to draw from -/
def SrcAt (H : Hp) (p : Addr) : Prop := ∃ x y z : Int, H p = some (.lst [.int x, .int y, .int z])
theorem But.trans {p : Addr} {H H1 H2 : Hp} (a : But p H H1) (b : But p H1 H2) : But p H H2 := fun c o h e => b c o h (a c o h e)
theorem same_but {p : Addr} {H H' : Hp} (s : Same H H') : But p H H' := fun b o _ e => s b o e
theorem But.refl (p : Addr) (H : Hp) : But p H H := fun _ _ _ e => e
theorem SrcAt.same {H H' : Hp} {p : Addr} (h : SrcAt H p) (s : Same H H') : SrcAt H' p := by
  obtain ⟨x, y, z, e⟩ := h
  exact ⟨x, y, z, s _ _ e⟩
theorem SrcAt.ne {H : Hp} {p q : Addr} (h : SrcAt H p) (e : H q = none) : q ≠ p := fun z => by
  obtain ⟨_, _, _, e2⟩ := h
  rw [z, e2] at e
  cases e
theorem SrcAt.put {H : Hp} {p D : Addr} {o : HO} (h : SrcAt H p) (n : D ≠ p) : SrcAt (upd H D o) p := by
  obtain ⟨x, y, z, e⟩ := h
  exact ⟨x, y, z, by rw [upd_ne (Ne.symm n)]; exact e⟩
theorem But.none {p : Addr} {H H' : Hp} {q : Addr} (b : But p H H') (s : SrcAt H p) (e : H' q = .none) (s' : SrcAt H' p) : H q = .none := by
  cases c : H q with
  | none => rfl
  | some o =>
    have := b q o (s'.ne e) c
    rw [e] at this
    cases this
/-- what is no list stays -/
theorem But.nt {p : Addr} {H H' : Hp} (k : But p H H') (s : SrcAt H p) {b : Addr} {o : HO} (e : H b = some o) (n : ∀ xs, o ≠ .lst xs) : H' b = some o :=
  k b o (fun z => by
    obtain ⟨_, _, _, e2⟩ := s
    rw [z, e2] at e
    exact n _ (Option.some.inj e).symm) e
theorem But.tup {K : PySem.W.Frag} {p : Addr} {H H' : Hp} (k : But p H H') (s : SrcAt H p) {a : Addr} {xs : List V} (h : SqT K H a xs) : SqT K H' a xs :=
  h.elim (fun h => .inl (h.elim (fun h => .inl (k.nt s h (fun _ z => nomatch z))) fun ⟨o, h⟩ => .inr ⟨o, k.nt s h (fun _ z => nomatch z)⟩)) fun h => .inr h
/-- a list of objects -/
theorem But.seqR {K : PySem.W.Frag} {p : Addr} {H H' : Hp} (k : But p H H') (s : SrcAt H p) {a : Addr} {ts : List Addr} (h : SqL K H a (ts.map V.ref)) : SqL K H' a (ts.map V.ref) :=
  h.elim (fun h => .inl (h.elim (fun h => .inl (k _ _ (fun z => by
    obtain ⟨_, _, _, e2⟩ := s
    rw [z, e2] at h
    cases ts with
    | nil => cases h
    | cons t r => cases h) h)) fun ⟨o, h⟩ => .inr ⟨o, k.nt s h (fun _ z => nomatch z)⟩)) fun h => .inr h
/-- any list but this one -/
theorem But.seqN {K : PySem.W.Frag} {p : Addr} {H H' : Hp} (k : But p H H') (s : SrcAt H p) {a : Addr} {xs : List V} (h : SqL K H a xs) (n : a ≠ p) : SqL K H' a xs :=
  h.elim (fun h => .inl (h.elim (fun h => .inl (k _ _ n h)) fun ⟨o, h⟩ => .inr ⟨o, k.nt s h (fun _ z => nomatch z)⟩)) fun h => .inr h
def spCell (K : PySem.W.Frag) : Sp := fun vs H Q _ => ∃ (a : Addr) (ns : List Int) (k : Int), vs = [.ref a, .int k] ∧ SqL K H a (ns.map V.int) ∧ 0 ≤ k ∧ ∀ c : Int, Q (.int c) H
def spMixed : Sp := fun vs H Q _ => ∃ c k : Int, vs = [.int c, .int k] ∧ ∀ r : Int, 0 ≤ r → r < 2147483563 → Q (.int r) H
def spSource (K : PySem.W.Frag) : Sp := fun vs H Q _ => ∃ (a : Addr) (ns : List Int) (k : Int), vs = [.ref a, .int k] ∧ SqL K H a (ns.map V.int) ∧ 0 ≤ k ∧
  ∀ (p : Addr) (x y z : Int), H p = none → Q (.ref p) (upd H p (.lst [.int x, .int y, .int z]))
def spNext : Sp := fun vs H Q _ => ∃ (p : Addr) (m : Int), vs = [.ref p, .int m] ∧ SrcAt H p ∧ 0 < m ∧ m < 2 ^ 62 ∧
  ∀ (H' : Hp) (d : Int), But p H H' → SrcAt H' p → 0 ≤ d → d < m → Q (.int d) H'
def spPick (K : PySem.W.Frag) : Sp := fun vs H Q _ => ∃ (p l : Addr) (k : Bool) (xs : List V), vs = [.ref p, .ref l] ∧ SrcAt H p ∧ SqK K k H l xs ∧ (∀ H', But p H H' → SqK K k H' l xs) ∧ 0 < xs.length ∧ xs.length < 1000 ∧
  ∀ (H' : Hp) (x : V), But p H H' → SrcAt H' p → x ∈ xs → Q x H'
section
variable {P : Program} {w : World} {K : PySem.W.Frag} {mg : Str → Option Value} {base : Heap}
theorem scCell : FnScope ["script", "k"] ["script", "k"] (defScope d_law_cell_at) := ⟨rfl, rfl, rfl, by decide +kernel, rfl, by decide +kernel, by decide +kernel⟩
theorem ok_cell {f : Addr} {fd : FuncData} (F : Fun K "_law_cell_at" "_law_cell_at" d_law_cell_at f fd) (B : TxtB mg) : FnOk P w K mg base CX0 1 f fd ["script", "k"] (spCell K) := by
  refine F.ok scCell (fun vs H Q E h => ?_) (fun cdv A outer s H vs Q E hr h => ?_)
  · obtain ⟨_, _, _, rfl, _⟩ := h
    rfl
  · obtain ⟨a, ns, k, rfl, ha, k0, q⟩ := h
    refine ⟨_, pss_cons (ps_if (pt_cmpR op_lt (pv 1) (pe_callB call_len_seq (by rfl) B.len PySem.boot_len (pa_cons (pv 0) pa_nil)) (nomark _)) (pss_one (ps_ret (pe_ix ix_list (pv 0) (pv 1) (fun _ _ => rfl)))) pss_nil)
      (pss_one (ps_ret pe_int)), ?_⟩
    refine ⟨_, rfl, _, rfl, a, _, rfl, .inl ha, _, _, rfl, rfl, _, rfl, ?_⟩
    refine ite2 (fun h => ?_) (fun _ => q 0)
    have h : k < ((ns.map V.int).length : Int) := of_decide_eq_true h
    rw [List.length_map] at h
    have hk : k.toNat < ns.length := by omega
    exact ⟨_, rfl, _, rfl, a, _, _, _, rfl, rfl, ha, at_k k0 (by rw [List.getElem?_map, List.getElem?_eq_getElem hk]; rfl), q _⟩
theorem scMixed : FnScope ["cell", "k", "low"] ["cell", "k"] (defScope d_law_mixed) := ⟨rfl, rfl, rfl, by decide +kernel, rfl, by decide +kernel, by decide +kernel⟩
theorem wd {i j : Int} (h0 : 0 < j) (h : j < 2 ^ 62) : CDivW i j := wide_div (b := 62) h0 (by omega) (by decide) (by decide)
theorem ok_mixed {f : Addr} {fd : FuncData} (F : Fun K "_law_mixed" "_law_mixed" d_law_mixed f fd) : FnOk P w K mg base CX0 1 f fd ["cell", "k"] spMixed := by
  refine F.ok scMixed (fun vs H Q E h => ?_) (fun cdv A outer s H vs Q E hr h => ?_)
  · obtain ⟨_, _, rfl, _⟩ := h
    rfl
  · obtain ⟨c, k, rfl, q⟩ := h
    refine ⟨_, pss_cons (ps_set (i := 2) scMixed.nd rfl (Or.inl rfl) (pe_op op_add (pe_op op_mod (pv 0) pe_int) (pe_op op_mul (pe_op op_fdivW (pv 0) pe_int) pe_int)))
      (pss_cons (ps_set (i := 2) scMixed.nd rfl (Or.inl rfl) (pe_op op_mod (pe_op op_mul (pe_op op_add (pe_op op_add (pv 2) (pe_op op_mul pe_int (pv 1))) pe_int) pe_int) pe_int))
      (pss_cons (ps_set (i := 2) scMixed.nd rfl (Or.inl rfl) (pe_op op_mod (pe_op op_mul (pv 2) (pe_op op_add (pe_op op_add (pe_op op_fdivW (pv 2) pe_int) pe_int) (pv 1))) pe_int))
      (pss_one (ps_ret (pe_op op_mod (pe_op op_mul (pv 2) (pe_op op_add (pe_op op_fdivW (pv 2) pe_int) pe_int)) pe_int))))), ?_⟩
    refine ⟨_, rfl, _, _, rfl, rfl, (by show (0 : Int) < 2147483629; decide), _, rfl, _, _, rfl, rfl, wd (by decide) (by decide), _, _, rfl, rfl, .inr ⟨by decide, by decide⟩, _, _, rfl, rfl, ?_⟩
    refine ⟨_, rfl, _, rfl, _, _, rfl, rfl, .inl ⟨by decide, by decide⟩, _, _, rfl, rfl, _, _, rfl, rfl, _, _, rfl, rfl, .inr ⟨by decide, by decide⟩, _, _, rfl, rfl, (by show (0 : Int) < 2147483629; decide), ?_⟩
    have e0 : ∀ x : Int, 0 ≤ x % 2147483629 ∧ x % 2147483629 < 2147483629 := fun x => ⟨Int.emod_nonneg _ (by decide), Int.emod_lt_of_pos _ (by decide)⟩
    have e1 : ∀ x : Int, 0 ≤ x % 2147483587 ∧ x % 2147483587 < 2147483587 := fun x => ⟨Int.emod_nonneg _ (by decide), Int.emod_lt_of_pos _ (by decide)⟩
    have h0 := e0 ((c % 2147483629 + c / 2147483629 * 30011 + 69621 * k + 1) * 48271)
    generalize (c % 2147483629 + c / 2147483629 * 30011 + 69621 * k + 1) * 48271 % 2147483629 = low at *
    refine ⟨_, rfl, _, rfl, _, _, rfl, rfl, wd (by decide) (by decide), _, _, rfl, rfl, _, rfl, _, _, rfl, rfl, _, _, rfl, rfl, .inl ⟨by omega, by omega⟩, _, _, rfl, rfl, (by show (0 : Int) < 2147483587; decide), ?_⟩
    have h1 := e1 (low * (low / 907 + 16831 + k))
    generalize low * (low / 907 + 16831 + k) % 2147483587 = l2 at *
    refine ⟨_, rfl, _, rfl, _, _, rfl, rfl, wd (by decide) (by decide), _, _, rfl, rfl, _, _, rfl, rfl, .inl ⟨by omega, by omega⟩, _, _, rfl, rfl, (by show (0 : Int) < 2147483563; decide), ?_⟩
    exact q _ (Int.emod_nonneg _ (by decide)) (Int.emod_lt_of_pos _ (by decide))
theorem scSource : FnScope ["script", "k", "cell"] ["script", "k"] (defScope d_law_source) := ⟨rfl, rfl, rfl, by decide +kernel, rfl, by decide +kernel, by decide +kernel⟩
theorem ok_source {f f1 f2 : Addr} {fd fd1 fd2 : FuncData} (F : Fun K "_law_source" "_law_source" d_law_source f fd) (B : TxtB mg)
    (A1 : At P w K mg base CX0 1 "_law_cell_at" ["script", "k"] (spCell K) f1 fd1) (A2 : At P w K mg base CX0 1 "_law_mixed" ["cell", "k"] spMixed f2 fd2) : FnOk P w K mg base CX0 2 f fd ["script", "k"] (spSource K) := by
  refine F.ok scSource (fun vs H Q E h => ?_) (fun cdv A outer s H vs Q E hr h => ?_)
  · obtain ⟨_, _, _, rfl, _⟩ := h
    rfl
  · obtain ⟨a, ns, k, rfl, ha, k0, q⟩ := h
    refine ⟨_, pss_cons (ps_if (pt_cmpR op_lt (pv 1) (pe_callB call_len_seq (by rfl) B.len PySem.boot_len (pa_cons (pv 0) pa_nil)) (nomark _)) (pss_one (ps_ret (pe_lst (pa_cons (pe_ix ix_list (pv 0) (pv 1) (fun _ _ => rfl)) (pa_cons (pe_ix ix_list (pv 0) (pv 1) (fun _ _ => rfl)) (pa_cons pe_int pa_nil)))))) pss_nil)
      (pss_cons (ps_set (i := 2) scSource.nd rfl (Or.inl rfl) (pe_call A2.G hr rfl A2.m A2.k A2.b .nil pass0 (pa_cons (pe_call A1.G hr rfl A1.m A1.k A1.b .nil pass0 (pa_cons (pv 0) (pa_cons pe_int pa_nil))) (pa_cons (pe_op op_add pe_int (pv 1)) pa_nil))))
      (pss_one (ps_ret (pe_lst (pa_cons (pv 2) (pa_cons (pv 2) (pa_cons pe_int pa_nil))))))), ?_⟩
    refine ⟨_, rfl, _, rfl, a, _, rfl, .inl ha, _, _, rfl, rfl, _, rfl, ?_⟩
    refine ite2 (fun h => ?_) (fun _ => ?_)
    · have h : k < ((ns.map V.int).length : Int) := of_decide_eq_true h
      rw [List.length_map] at h
      have hk : k.toNat < ns.length := by omega
      have hx : atI (ns.map V.int) k = some (.int ns[k.toNat]) := at_k k0 (by rw [List.getElem?_map, List.getElem?_eq_getElem hk]; rfl)
      exact ⟨_, rfl, _, rfl, a, _, _, _, rfl, rfl, ha, hx, _, rfl, _, rfl, a, _, _, _, rfl, rfl, ha, hx, (by show 3 ≤ sizeLine; decide), fun p hp => q p _ _ _ hp⟩
    · refine ⟨_, rfl, a, ns, 0, rfl, ha, by decide, fun c => ?_⟩
      refine ⟨_, rfl, _, _, rfl, rfl, c, 1000 + k, rfl, fun r r0 r1 => ?_⟩
      exact ⟨_, rfl, _, rfl, (by show 3 ≤ sizeLine; decide), fun p hp => q p _ _ _ hp⟩
theorem scNext : FnScope ["source", "many", "found"] ["source", "many"] (defScope d_law_next) := ⟨rfl, rfl, rfl, by decide +kernel, rfl, by decide +kernel, by decide +kernel⟩
theorem ok_next {f f1 : Addr} {fd fd1 : FuncData} (F : Fun K "_law_next" "_law_next" d_law_next f fd) (A1 : At P w K mg base CX0 1 "_law_mixed" ["cell", "k"] spMixed f1 fd1) : FnOk P w K mg base CX0 2 f fd ["source", "many"] spNext := by
  refine F.ok scNext (fun vs H Q E h => ?_) (fun cdv A outer s H vs Q E hr h => ?_)
  · obtain ⟨_, _, rfl, _⟩ := h
    rfl
  · obtain ⟨p, m, rfl, ⟨x, y, z, hp⟩, m0, m1, q⟩ := h
    refine ⟨_, pss_cons (ps_if (pt_cmpR op_ge (pe_ix ix_list (pv 0) pe_int (fun _ _ => rfl)) (pe_op op_pow pe_int pe_int) (nomark _))
        (pss_cons (ps_set (i := 2) scNext.nd rfl (Or.inl rfl) (pe_op op_mod (pe_ix ix_list (pv 0) pe_int (fun _ _ => rfl)) (pv 1)))
        (pss_cons (ps_asg (pe_op op_fdivW (pe_ix ix_list (pv 0) pe_int (fun _ _ => rfl)) (pv 1)) (pg_sub (pv 0) pe_int set_list))
        (pss_one (ps_ret (pv 2))))) pss_nil)
      (pss_cons (ps_asg (pe_op op_add (pe_ix ix_list (pv 0) pe_int (fun _ _ => rfl)) pe_int) (pg_sub (pv 0) pe_int set_list))
      (pss_one (ps_ret (pe_op op_mod (pe_call A1.G hr rfl A1.m A1.k A1.b .nil pass0 (pa_cons (pe_ix ix_list (pv 0) pe_int (fun _ _ => rfl)) (pa_cons (pe_ix ix_list (pv 0) pe_int (fun _ _ => rfl)) pa_nil))) (pv 1))))), ?_⟩
    refine ⟨_, rfl, p, _, _, _, rfl, rfl, SqL.of hp, at_k (by decide) rfl, _, _, rfl, rfl, ⟨by decide, by decide, by decide⟩, _, _, rfl, rfl, _, rfl, ?_⟩
    refine ite2 (fun h => ?_) (fun h => ?_)
    · refine ⟨_, rfl, p, _, _, _, rfl, rfl, SqL.of hp, at_k (by decide) rfl, _, rfl, _, _, rfl, rfl, m0, ?_⟩
      refine ⟨_, rfl, p, _, _, _, rfl, rfl, SqL.of hp, at_k (by decide) rfl, _, rfl, _, _, rfl, rfl, wd m0 m1, ?_⟩
      refine ⟨_, rfl, p, _, _, 0, rfl, rfl, hp, rfl, ?_⟩
      exact ⟨_, rfl, q _ _ (fun b o hb e => by rw [upd_ne hb]; exact e) ⟨_, _, _, upd_same⟩ (Int.emod_nonneg _ (by omega)) (Int.emod_lt_of_pos _ m0)⟩
    · refine ⟨_, rfl, p, _, _, _, rfl, rfl, SqL.of hp, at_k (by decide) rfl, _, _, rfl, rfl, ?_⟩
      refine ⟨_, rfl, p, _, _, 2, rfl, rfl, hp, rfl, ?_⟩
      have hp2 : upd H p (.lst [.int x, .int y, .int (z + 1)]) p = some (.lst [.int x, .int y, .int (z + 1)]) := upd_same
      refine ⟨_, rfl, p, _, _, _, rfl, rfl, SqL.of hp2, at_k (by decide) rfl, _, rfl, p, _, _, _, rfl, rfl, SqL.of hp2, at_k (by decide) rfl, _, _, rfl, fun r r0 r1 => ?_⟩
      refine ⟨_, rfl, _, _, rfl, rfl, m0, ?_⟩
      exact q _ _ (fun b o hb e => by rw [upd_ne hb]; exact e) ⟨_, _, _, hp2⟩ (Int.emod_nonneg _ (by omega)) (Int.emod_lt_of_pos _ m0)
theorem scPick : FnScope ["source", "some"] ["source", "some"] (defScope d_law_pick) := ⟨rfl, rfl, rfl, by decide +kernel, rfl, by decide +kernel, by decide +kernel⟩
theorem ok_pick {f f1 : Addr} {fd fd1 : FuncData} (F : Fun K "_law_pick" "_law_pick" d_law_pick f fd) (B : TxtB mg) (A1 : At P w K mg base CX0 2 "_law_next" ["source", "many"] spNext f1 fd1) : FnOk P w K mg base CX0 3 f fd ["source", "some"] (spPick K) := by
  refine F.ok scPick (fun vs H Q E h => ?_) (fun cdv A outer s H vs Q E hr h => ?_)
  · obtain ⟨_, _, _, _, rfl, _⟩ := h
    rfl
  · obtain ⟨p, l, k, xs, rfl, hp, hl, hst, l0, l1, q⟩ := h
    refine ⟨_, pss_one (ps_ret (pe_ix ix_seq (pv 1) (pe_call A1.G hr rfl A1.m A1.k A1.b .nil pass0 (pa_cons (pv 0) (pa_cons (pe_callB call_len_seq (by rfl) B.len PySem.boot_len (pa_cons (pv 1) pa_nil)) pa_nil))) (fun _ _ => rfl))), ?_⟩
    refine ⟨_, rfl, _, rfl, _, rfl, l, xs, rfl, (by cases k; exact .inl hl; exact .inr hl), ?_⟩
    refine ⟨p, _, rfl, hp, (by omega), (by omega), fun H' d bt hp' d0 d1 => ?_⟩
    have hd : d.toNat < xs.length := by omega
    have at_ : atI xs d = some xs[d.toNat] := at_k d0 (by simp [hd])
    have hl' := hst H' bt
    have fin := q H' _ bt hp' (List.getElem_mem hd)
    cases k with
    | false => exact .inl ⟨l, xs, _, _, rfl, rfl, hl', at_, fin⟩
    | true => exact .inr (.inl ⟨l, xs, _, _, rfl, rfl, hl', at_, fin⟩)
end
end K72

namespace K72
open PySem PySem.Spec PyProof.Rows L2
/-! ### the law's fractions -/
def prV (x : Rat) : List V := [.int x.num, .int ((x.den : Nat) : Int)]
def PairAt (K : PySem.W.Frag) (H : Hp) (q : Addr) (x : Rat) : Prop := SqT K H q (prV x)
theorem PairAt.mono {K : PySem.W.Frag} {H H' : Hp} {q : Addr} {x : Rat} (h : PairAt K H q x) (s : Same H H') : PairAt K H' q x := Same.tup s h
def spLowQ : Sp := fun vs H Q _ => ∃ a b : Int, vs = [.int a, .int b] ∧ b ≠ 0 ∧ a.natAbs < 2 ^ 4000 ∧ b.natAbs < 2 ^ 4000 ∧ ∀ p : Addr, H p = none → Q (.ref p) (upd H p (.tup (prV ((a : Rat) / (b : Rat)))))
def spTwoP (K : PySem.W.Frag) (f : Rat → Rat → Rat) : Sp := fun vs H Q _ => ∃ (x y : Addr) (p q : Rat), vs = [.ref x, .ref y] ∧ PairAt K H x p ∧ PairAt K H y q ∧ Sz 1500 p ∧ Sz 1500 q ∧
  ∀ r : Addr, H r = none → Q (.ref r) (upd H r (.tup (prV (f p q))))
def spMark : Sp := fun vs H Q _ => ∃ p : Addr, vs = [.ref p] ∧ SrcAt H p ∧ ∀ (H' : Hp) (q : Addr) (x : Rat), But p H H' → SrcAt H' p → H q = none → H' q = some (.tup (prV x)) → Lim 42 11 x → Q (.ref q) H'
def leftOf : L2.St → Nat
  | [_, _, _, some (.int l)] => l.toNat
  | _ => 0
theorem absV (i : Int) : (if i < 0 then -i else i) = ((i.natAbs : Nat) : Int) := by split <;> omega
theorem low_pr {a b : Int} (hb : b ≠ 0) : [V.int (lowT a b), V.int (lowB a b)] = prV ((a : Rat) / (b : Rat)) := by
  rw [(low_rat hb).1, (low_rat hb).2]
  rfl
theorem lim_frac {n d M c k : Nat} {m : Int} (hm : m.natAbs = n) (hc : M = d * c) (d0 : d ≠ 0) (c0 : c ≠ 0) (hk : n * c < 2 ^ k) : Lim M k ((m : Rat) / (((d : Nat) : Int) : Rat)) := by
  refine ⟨m * (c : Int), ?_, ?_⟩
  · have nd := icast_ne (show ((d : Nat) : Int) ≠ 0 by omega)
    have nc := icast_ne (show ((c : Nat) : Int) ≠ 0 by omega)
    rw [hc, Int.natCast_mul, Rat.intCast_mul, Rat.intCast_mul]
    generalize ((m : Int) : Rat) = x at *
    generalize ((d : Int) : Rat) = y at *
    generalize ((c : Int) : Rat) = z at *
    grind
  · rw [Int.natAbs_mul, Int.natAbs_natCast, hm]
    exact hk
section
variable {P : Program} {w : World} {K : PySem.W.Frag} {mg : Str → Option Value} {base : Heap}
theorem scLow : FnScope ["one", "other", "high", "low"] ["one", "other"] (defScope d_law_lowered) := ⟨rfl, rfl, rfl, by decide +kernel, rfl, by decide +kernel, by decide +kernel⟩
theorem ok_lowQ {f : Addr} {fd : FuncData} (F : Fun K "_law_lowered" "_law_lowered" d_law_lowered f fd) (B : TxtB mg) : FnOk P w K mg base CX0 1 f fd ["one", "other"] spLowQ := by
  refine F.ok scLow (fun vs H Q E h => ?_) (fun cdv A outer s H vs Q E hr h => ?_)
  · obtain ⟨_, _, rfl, _⟩ := h
    rfl
  · obtain ⟨a, b, rfl, hb, sa, sb, kq⟩ := h
    refine ⟨_, pss_cons (ps_par (i := 2) (j := 3) rfl scLow.nd rfl rfl (by decide) rfl rfl (pa_cons (pe_callB call_abs (by rfl) B.abs (by decide +kernel) (pa_cons (pv 0) pa_nil)) (pa_cons (pe_callB call_abs (by rfl) B.abs (by decide +kernel) (pa_cons (pv 1) pa_nil)) pa_nil)) (by rfl))
      (pss_cons (ps_while PassesOwn.never (pt_cmpR op_ne (pv 3) pe_int (nomark _)) (pss_one (ps_par (i := 2) (j := 3) rfl scLow.nd rfl rfl (by decide) rfl rfl (pa_cons (pv 3) (pa_cons (pe_op op_mod (pv 2) (pv 3)) pa_nil)) (by rfl))))
      (pss_cons (ps_if (pt_cmpR op_lt (pv 1) pe_int (nomark _)) (pss_one (ps_set (i := 2) scLow.nd rfl (Or.inl rfl) (pe_op op_sub pe_int (pv 2)))) pss_nil)
      (pss_one (ps_ret (pe_tup (pa_cons (pe_op op_fdivX (pv 0) (pv 2)) (pa_cons (pe_op op_fdivX (pv 1) (pv 2)) pa_nil))))))), ?_⟩
    refine ⟨_, rfl, a, rfl, _, rfl, b, rfl, _, _, rfl, ?_⟩
    rw [absV, absV]
    refine while_by (fun σ H' => H' = H ∧ ∃ g l : Nat, σ = [some (.int a), some (.int b), some (.int (g : Int)), some (.int (l : Int))] ∧ Nat.gcd g l = Nat.gcd a.natAbs b.natAbs) (fun σ _ => leftOf σ) ⟨rfl, _, _, rfl, rfl⟩ ?_ ?_
    · rintro σ H' ⟨rfl, g, l, rfl, hg⟩
      refine ⟨_, rfl, rfl, _, rfl, ?_⟩
      by_cases hl : l = 0
      · subst hl
        refine ite2 (fun h => ?_) (fun _ => ?_)
        · exact absurd h (by simp)
        have ge : g = Nat.gcd a.natAbs b.natAbs := by rw [← hg, Nat.gcd_zero_right]
        refine ⟨_, rfl, _, _, rfl, rfl, _, rfl, ?_⟩
        have gs : (sg a b).natAbs < 2 ^ 4000 := Nat.lt_of_le_of_lt (sg_le hb) sb
        have fin : ∀ g2 : Int, g2 = sg a b → ∀ p, H' p = none → Q (.ref p) (upd H' p (.tup [V.int (a.fdiv g2), V.int (b.fdiv g2)])) := fun g2 e p hp => by
          have z := kq p hp
          rw [← low_pr hb] at z
          unfold lowT lowB at z
          rw [← e] at z
          exact z
        refine ite2 (fun hn => ?_) (fun hn => ?_)
        · have hn : b < 0 := of_decide_eq_true hn
          have e : 0 - (g : Int) = sg a b := by unfold sg; rw [if_pos hn, ge]; omega
          have g0 : 0 - (g : Int) ≠ 0 := by rw [e]; exact sg_ne hb
          have gd : ∀ i : Int, CDivX i (0 - (g : Int)) := fun i => big_div (b := 4000) g0 (by rw [e]; exact gs) (by decide) (by decide)
          refine ⟨_, rfl, _, _, rfl, rfl, ?_⟩
          exact ⟨_, rfl, _, rfl, _, _, rfl, rfl, gd _, _, rfl, _, rfl, _, _, rfl, rfl, gd _, (by show 2 ≤ sizeLine; decide), fun p hp => fin _ e p hp⟩
        · have hn : ¬ b < 0 := fun q => hn (decide_eq_true q)
          have e : (g : Int) = sg a b := by unfold sg; rw [if_neg hn, ge]
          have g0 : (g : Int) ≠ 0 := by rw [e]; exact sg_ne hb
          have gd : ∀ i : Int, CDivX i (g : Int) := fun i => big_div (b := 4000) g0 (by rw [e]; exact gs) (by decide) (by decide)
          exact ⟨_, rfl, _, rfl, _, _, rfl, rfl, gd _, _, rfl, _, rfl, _, _, rfl, rfl, gd _, (by show 2 ≤ sizeLine; decide), fun p hp => fin _ e p hp⟩
      · refine ite2 (fun _ => ?_) (fun h => ?_)
        · refine ⟨_, rfl, _, rfl, _, rfl, _, _, rfl, rfl, (by show (0 : Int) < (l : Int); omega), _, _, rfl, ⟨rfl, l, g % l, ?_, ?_⟩, ?_⟩
          · show [some (V.int a), some (V.int b), some (V.int (l : Int)), some (V.int ((g : Int) % (l : Int)))] = _
            rw [Int.natCast_emod]
          · rw [← hg, Nat.gcd_comm g l, Nat.gcd_rec l g, Nat.gcd_comm]
          · show ((g : Int) % (l : Int)).toNat < ((l : Int)).toNat
            have h1 : (g : Int) % (l : Int) = ((g % l : Nat) : Int) := (Int.natCast_emod g l).symm
            rw [h1, Int.toNat_natCast, Int.toNat_natCast]
            exact Nat.mod_lt _ (by omega)
        · exfalso
          apply h
          have : ¬ V.int (l : Int) = V.int 0 := fun z => by
            have := V.int.inj z
            omega
          simp [this]
    · intro σ H' Q1 Q2 m h
      obtain ⟨v, e, z, k, ek, q⟩ := h
      exact ⟨v, e, z, k, ek, m _ _ q⟩
theorem scLSum : FnScope ["one", "other"] ["one", "other"] (defScope d_law_sum) := ⟨rfl, rfl, rfl, by decide +kernel, rfl, by decide +kernel, by decide +kernel⟩
theorem ok_lsum {f f1 : Addr} {fd fd1 : FuncData} (F : Fun K "_law_sum" "_law_sum" d_law_sum f fd) (A1 : At P w K mg base CX0 1 "_law_lowered" ["one", "other"] spLowQ f1 fd1) : FnOk P w K mg base CX0 2 f fd ["one", "other"] (spTwoP K fun p q => p + q) := by
  refine F.ok scLSum (fun vs H Q E h => ?_) (fun cdv A outer s H vs Q E hr h => ?_)
  · obtain ⟨_, _, _, _, rfl, _⟩ := h
    rfl
  · obtain ⟨x, y, p, q, rfl, hx, hy, s1, s2, kq⟩ := h
    refine ⟨_, pss_one (ps_ret (pe_call A1.G hr rfl A1.m A1.k A1.b .nil pass0 (pa_cons (pe_op op_add (pe_op op_mulW (pe_ix ix_tup (pv 0) pe_int (fun _ _ => rfl)) (pe_ix ix_tup (pv 1) pe_int (fun _ _ => rfl))) (pe_op op_mulW (pe_ix ix_tup (pv 1) pe_int (fun _ _ => rfl)) (pe_ix ix_tup (pv 0) pe_int (fun _ _ => rfl))))
      (pa_cons (pe_op op_mulW (pe_ix ix_tup (pv 0) pe_int (fun _ _ => rfl)) (pe_ix ix_tup (pv 1) pe_int (fun _ _ => rfl))) pa_nil)))), ?_⟩
    have x0 : atI (prV p) 0 = some (.int p.num) := at_k (by decide) rfl
    have x1 : atI (prV p) 1 = some (.int ((p.den : Nat) : Int)) := at_k (by decide) rfl
    have y0 : atI (prV q) 0 = some (.int q.num) := at_k (by decide) rfl
    have y1 : atI (prV q) 1 = some (.int ((q.den : Nat) : Int)) := at_k (by decide) rfl
    refine ⟨_, rfl, x, _, _, _, rfl, rfl, hx, x0, _, rfl, y, _, _, _, rfl, rfl, hy, y1, _, _, rfl, rfl, wide_mul s1.1 s2.2 (by decide) (by decide) (by decide), _, rfl, y, _, _, _, rfl, rfl, hy, y0, _, rfl, x, _, _, _, rfl, rfl, hx, x1, _, _, rfl, rfl, wide_mul s2.1 s1.2 (by decide) (by decide) (by decide), _, _, rfl, rfl, ?_⟩
    refine ⟨_, rfl, x, _, _, _, rfl, rfl, hx, x1, _, rfl, y, _, _, _, rfl, rfl, hy, y1, _, _, rfl, rfl, wide_mul s1.2 s2.2 (by decide) (by decide) (by decide), ?_⟩
    have nz : (p.den : Int) * (q.den : Int) ≠ 0 := Int.mul_ne_zero (by have := den_pos p; omega) (by have := den_pos q; omega)
    refine ⟨_, _, rfl, nz, pow_le (add_lt (mul_lt s1.1 s2.2) (mul_lt s2.1 s1.2)) (by decide), pow_le (mul_lt s1.2 s2.2) (by decide), fun r nr => ?_⟩
    rw [rat_add]
    exact kq r nr
theorem scLProd : FnScope ["one", "other"] ["one", "other"] (defScope d_law_product) := ⟨rfl, rfl, rfl, by decide +kernel, rfl, by decide +kernel, by decide +kernel⟩
theorem ok_lprod {f f1 : Addr} {fd fd1 : FuncData} (F : Fun K "_law_product" "_law_product" d_law_product f fd) (A1 : At P w K mg base CX0 1 "_law_lowered" ["one", "other"] spLowQ f1 fd1) : FnOk P w K mg base CX0 2 f fd ["one", "other"] (spTwoP K fun p q => p * q) := by
  refine F.ok scLProd (fun vs H Q E h => ?_) (fun cdv A outer s H vs Q E hr h => ?_)
  · obtain ⟨_, _, _, _, rfl, _⟩ := h
    rfl
  · obtain ⟨x, y, p, q, rfl, hx, hy, s1, s2, kq⟩ := h
    refine ⟨_, pss_one (ps_ret (pe_call A1.G hr rfl A1.m A1.k A1.b .nil pass0 (pa_cons (pe_op op_mulW (pe_ix ix_tup (pv 0) pe_int (fun _ _ => rfl)) (pe_ix ix_tup (pv 1) pe_int (fun _ _ => rfl)))
      (pa_cons (pe_op op_mulW (pe_ix ix_tup (pv 0) pe_int (fun _ _ => rfl)) (pe_ix ix_tup (pv 1) pe_int (fun _ _ => rfl))) pa_nil)))), ?_⟩
    have x0 : atI (prV p) 0 = some (.int p.num) := at_k (by decide) rfl
    have x1 : atI (prV p) 1 = some (.int ((p.den : Nat) : Int)) := at_k (by decide) rfl
    have y0 : atI (prV q) 0 = some (.int q.num) := at_k (by decide) rfl
    have y1 : atI (prV q) 1 = some (.int ((q.den : Nat) : Int)) := at_k (by decide) rfl
    refine ⟨_, rfl, x, _, _, _, rfl, rfl, hx, x0, _, rfl, y, _, _, _, rfl, rfl, hy, y0, _, _, rfl, rfl, wide_mul s1.1 s2.1 (by decide) (by decide) (by decide), ?_⟩
    refine ⟨_, rfl, x, _, _, _, rfl, rfl, hx, x1, _, rfl, y, _, _, _, rfl, rfl, hy, y1, _, _, rfl, rfl, wide_mul s1.2 s2.2 (by decide) (by decide) (by decide), ?_⟩
    have nz : (p.den : Int) * (q.den : Int) ≠ 0 := Int.mul_ne_zero (by have := den_pos p; omega) (by have := den_pos q; omega)
    refine ⟨_, _, rfl, nz, pow_le (mul_lt s1.1 s2.1) (by decide), pow_le (mul_lt s1.2 s2.2) (by decide), fun r nr => ?_⟩
    rw [rat_mul]
    exact kq r nr
theorem scMark : FnScope ["source", "whole"] ["source"] (defScope d_law_mark) := ⟨rfl, rfl, rfl, by decide +kernel, rfl, by decide +kernel, by decide +kernel⟩
theorem ok_mark {f f1 f2 : Addr} {fd fd1 fd2 : FuncData} (F : Fun K "_law_mark" "_law_mark" d_law_mark f fd) (A1 : At P w K mg base CX0 2 "_law_next" ["source", "many"] spNext f1 fd1) (A2 : At P w K mg base CX0 1 "_law_lowered" ["one", "other"] spLowQ f2 fd2) :
    FnOk P w K mg base CX0 3 f fd ["source"] spMark := by
  refine F.ok scMark (fun vs H Q E h => ?_) (fun cdv A outer s H vs Q E hr h => ?_)
  · obtain ⟨_, rfl, _⟩ := h
    rfl
  · obtain ⟨p, rfl, hp, q⟩ := h
    refine ⟨_, pss_cons (ps_set (i := 1) scMark.nd rfl (Or.inl rfl) (pe_ix ix_list (pe_lst (pa_cons (pe_call A1.G hr rfl A1.m A1.k A1.b .nil pass0 (pa_cons (pv 0) (pa_cons pe_int pa_nil))) (pa_cons (pe_call A1.G hr rfl A1.m A1.k A1.b .nil pass0 (pa_cons (pv 0) (pa_cons pe_int pa_nil)))
          (pa_cons (pe_op op_sub pe_int (pe_call A1.G hr rfl A1.m A1.k A1.b .nil pass0 (pa_cons (pv 0) (pa_cons pe_int pa_nil)))) pa_nil)))) (pe_op op_fdiv (pe_call A1.G hr rfl A1.m A1.k A1.b .nil pass0 (pa_cons (pv 0) (pa_cons pe_int pa_nil))) pe_int) (fun _ _ => rfl)))
      (pss_one (ps_ret (pe_call A2.G (hr.mono (by decide)) rfl A2.m A2.k A2.b .nil pass0 (pa_cons (pv 1) (pa_cons (pe_ix ix_list (pe_lst (pa_cons pe_int (pa_cons pe_int (pa_cons pe_int (pa_cons pe_int (pa_cons pe_int pa_nil)))))) (pe_call A1.G hr rfl A1.m A1.k A1.b .nil pass0 (pa_cons (pv 0) (pa_cons pe_int pa_nil))) (fun _ _ => rfl)) pa_nil))))), ?_⟩
    refine ⟨_, rfl, p, 5, rfl, hp, by decide, by decide, fun H1 a b1 w1 a0 a1 => ?_⟩
    refine ⟨_, rfl, p, 40, rfl, w1, by decide, by decide, fun H2 b b2 w2 c0 c1 => ?_⟩
    refine ⟨_, rfl, p, 4, rfl, w2, by decide, by decide, fun H3 c b3 w3 d0 d1 => ?_⟩
    refine ⟨_, _, rfl, rfl, (by show 3 ≤ sizeLine; decide), fun l hl => ?_⟩
    have nl := w3.ne hl
    have b4 : But p H3 (upd H3 l (.lst [.int a, .int b, .int (0 - c)])) := same_but (same1 hl)
    have w4 : SrcAt (upd H3 l (.lst [.int a, .int b, .int (0 - c)])) p := w3.put nl
    have el : (upd H3 l (.lst [.int a, .int b, .int (0 - c)]) : Hp) l = some (.lst [.int a, .int b, .int (0 - c)]) := upd_same
    generalize upd H3 l (.lst [.int a, .int b, .int (0 - c)]) = H4 at *
    refine ⟨_, rfl, p, 7, rfl, w4, by decide, by decide, fun H5 d b5 w5 e0 e1 => ?_⟩
    have el5 := b5 _ _ nl el
    obtain ⟨n, hn, n1⟩ : ∃ n : Int, atI [V.int a, V.int b, V.int (0 - c)] (d / 3) = some (V.int n) ∧ n.natAbs ≤ 40 := by
      have h : d / 3 = 0 ∨ d / 3 = 1 ∨ d / 3 = 2 := by omega
      rcases h with h | h | h <;> rw [h]
      · exact ⟨a, at_k (by decide) rfl, by omega⟩
      · exact ⟨b, at_k (by decide) rfl, by omega⟩
      · exact ⟨0 - c, at_k (by decide) rfl, by omega⟩
    refine ⟨_, _, rfl, rfl, ⟨by decide, by decide⟩, l, _, _, _, rfl, rfl, SqL.of el5, hn, ?_⟩
    refine ⟨_, rfl, (by show 5 ≤ sizeLine; decide), fun l2 hl2 => ?_⟩
    have nl2 := w5.ne hl2
    have b6 : But p H5 (upd H5 l2 (.lst [.int 1, .int 1, .int 2, .int 3, .int 7])) := same_but (same1 hl2)
    have w6 : SrcAt (upd H5 l2 (.lst [.int 1, .int 1, .int 2, .int 3, .int 7])) p := w5.put nl2
    have el2 : (upd H5 l2 (.lst [.int 1, .int 1, .int 2, .int 3, .int 7]) : Hp) l2 = some (.lst [.int 1, .int 1, .int 2, .int 3, .int 7]) := upd_same
    generalize upd H5 l2 (.lst [.int 1, .int 1, .int 2, .int 3, .int 7]) = H6 at *
    refine ⟨_, rfl, p, 5, rfl, w6, by decide, by decide, fun H7 e b7 w7 f0 f1 => ?_⟩
    have el7 := b7 _ _ nl2 el2
    obtain ⟨m, co, hm, m0, mc, c0, cl⟩ : ∃ m co : Nat, atI [V.int 1, V.int 1, V.int 2, V.int 3, V.int 7] e = some (V.int (m : Int)) ∧ m ≠ 0 ∧ 42 = m * co ∧ co ≠ 0 ∧ co ≤ 42 := by
      have h : e = 0 ∨ e = 1 ∨ e = 2 ∨ e = 3 ∨ e = 4 := by omega
      rcases h with h | h | h | h | h <;> rw [h]
      · exact ⟨1, 42, at_k (by decide) rfl, by decide, by decide, by decide, by decide⟩
      · exact ⟨1, 42, at_k (by decide) rfl, by decide, by decide, by decide, by decide⟩
      · exact ⟨2, 21, at_k (by decide) rfl, by decide, by decide, by decide, by decide⟩
      · exact ⟨3, 14, at_k (by decide) rfl, by decide, by decide, by decide, by decide⟩
      · exact ⟨7, 6, at_k (by decide) rfl, by decide, by decide, by decide, by decide⟩
    have mle : m ≤ 42 := Nat.le_of_dvd (by decide) ⟨co, mc⟩
    have up : ∀ x : Nat, x < 2 ^ 6 → x < 2 ^ 4000 := fun x h => Nat.lt_of_lt_of_le h (Nat.pow_le_pow_right (by decide) (by decide))
    refine ⟨l2, _, _, _, rfl, rfl, SqL.of el7, hm, n, (m : Int), rfl, by omega, up _ (by omega), up _ (by omega), fun r hr => ?_⟩
    have B := b1.trans (b2.trans (b3.trans (b4.trans (b5.trans (b6.trans b7)))))
    have nr := w7.ne hr
    refine q _ r _ (B.trans (same_but (same1 hr))) (w7.put nr) (B.none hp hr w7) upd_same (lim_frac rfl mc m0 c0 ?_)
    have : n.natAbs * co ≤ 40 * 42 := Nat.mul_le_mul n1 cl
    exact Nat.lt_of_le_of_lt this (by decide)
end
end K72

namespace K72
open PySem PySem.Spec PyProof.Rows L2
/-! ### what stays where lists alone change -/
def KeepL (H H' : Hp) : Prop := ∀ b o, H b = some o → (∀ xs, o ≠ .lst xs) → H' b = some o
theorem But.keep {p : Addr} {H H' : Hp} (k : But p H H') (s : SrcAt H p) : KeepL H H' := fun _ _ e n => k.nt s e n
theorem keep_same {H H' : Hp} (s : Same H H') : KeepL H H' := fun b o e _ => s b o e
theorem keep_put {H : Hp} {D : Addr} {xs : List V} {o : HO} (e : H D = some (.lst xs)) : KeepL H (upd H D o) := fun b u eb n => by
  rw [upd_ne (fun z => by rw [z, e] at eb; exact n _ (Option.some.inj eb).symm)]
  exact eb
theorem KeepL.trans {H H1 H2 : Hp} (a : KeepL H H1) (b : KeepL H1 H2) : KeepL H H2 := fun c o e n => b c o (a c o e n) n
theorem KeepL.tup {K : PySem.W.Frag} {H H' : Hp} {a : Addr} {xs : List V} (k : KeepL H H') (h : SqT K H a xs) : SqT K H' a xs :=
  h.elim (fun h => .inl (h.elim (fun h => .inl (k _ _ h (fun _ z => nomatch z))) fun ⟨o, h⟩ => .inr ⟨o, k _ _ h (fun _ z => nomatch z)⟩)) fun h => .inr h
theorem KeepL.sh {C : Addr} {H H' : Hp} {a : Addr} {q : Rat} (k : KeepL H H') (h : ShQ C H a q) : ShQ C H' a q := by
  obtain ⟨dx, e⟩ := h
  exact ⟨dx, k _ _ e (fun _ z => nomatch z)⟩
def RowAt (K : PySem.W.Frag) (H : Hp) (t : Addr) (b : Bed) : Prop := ∃ x y, SqT K H t [.int (b.s : Int), .int (b.e : Int), .ref x, .ref y] ∧ PairAt K H x b.lo ∧ PairAt K H y b.hi
theorem KeepL.row {K : PySem.W.Frag} {H H' : Hp} {a : Addr} {b : Bed} (k : KeepL H H') (h : RowAt K H a b) : RowAt K H' a b := by
  obtain ⟨x, y, u, v, w⟩ := h
  exact ⟨x, y, k.tup u, k.tup v, k.tup w⟩
theorem RowAt.mono {K : PySem.W.Frag} {H H' : Hp} {a : Addr} {b : Bed} (h : RowAt K H a b) (s : Same H H') : RowAt K H' a b := (keep_same s).row h
/-- rows of beds in a list of our own -/
def RowsAt (K : PySem.W.Frag) (H : Hp) (l : Addr) (bs : List Bed) : Prop := ∃ ts : List Addr, SqL K H l (ts.map V.ref) ∧ All2 (RowAt K H) ts bs
theorem RowsAt.mono {K : PySem.W.Frag} {H H' : Hp} {a : Addr} {bs : List Bed} (h : RowsAt K H a bs) (s : Same H H') : RowsAt K H' a bs := by
  obtain ⟨ts, u, v⟩ := h
  exact ⟨ts, s.seq u, v.mono fun _ _ _ _ r => r.mono s⟩
theorem RowsAt.but {K : PySem.W.Frag} {H H' : Hp} {p a : Addr} {bs : List Bed} (h : RowsAt K H a bs) (k : But p H H') (s : SrcAt H p) : RowsAt K H' a bs := by
  obtain ⟨ts, u, v⟩ := h
  exact ⟨ts, k.seqR s u, v.mono fun _ _ _ _ r => (k.keep s).row r⟩
theorem WParts.but {K : PySem.W.Frag} {H H' : Hp} {p a : Addr} {pss : List (List Nat)} (h : WParts K H a pss) (k : But p H H') (s : SrcAt H p) : WParts K H' a pss := by
  obtain ⟨ts, u, v⟩ := h
  exact ⟨ts, k.seqR s u, v.mono fun _ _ _ _ r => (k.keep s).tup r⟩
theorem WBeds.but {K : PySem.W.Frag} {C : Addr} {H H' : Hp} {p a : Addr} {bs : List Bed} (h : WBeds K C H a bs) (k : But p H H') (s : SrcAt H p) : WBeds K C H' a bs := by
  obtain ⟨ts, u, v⟩ := h
  refine ⟨ts, k.seqR s u, v.mono fun _ _ _ _ ⟨x, y, r1, r2, r3⟩ => ?_⟩
  have kk := k.keep s
  exact ⟨x, y, kk.tup r1, kk.sh r2, kk.sh r3⟩
theorem But.lstR {p : Addr} {H H' : Hp} (k : But p H H') (s : SrcAt H p) {a : Addr} {ts : List Addr} (h : H a = some (.lst (ts.map V.ref))) : H' a = some (.lst (ts.map V.ref)) :=
  k _ _ (fun z => by
    obtain ⟨_, _, _, e2⟩ := s
    rw [z, e2] at h
    cases ts with
    | nil => cases h
    | cons t r => cases h) h
theorem WebAt.but {K : PySem.W.Frag} {C CW : Addr} {H H' : Hp} {p w : Addr} {W : WebV} (h : WebAt K C CW H w W) (k : But p H H') (s : SrcAt H p) : WebAt K C CW H' w W := by
  obtain ⟨dx, b, pp, e, ⟨ts, u, u2⟩, ⟨us, v, v2⟩, g⟩ := h
  have kk := k.keep s
  refine ⟨dx, b, pp, k.nt s e (fun _ z => nomatch z), ⟨ts, k.lstR s u, u2.mono fun _ _ _ _ ⟨x, y, r1, r2, r3⟩ => ⟨x, y, kk.tup r1, kk.sh r2, kk.sh r3⟩⟩, ⟨us, k.lstR s v, v2.mono fun _ _ _ _ r => kk.tup r⟩, g⟩
/-- a bed as the law draws it -/
structure BedOk (many : Nat) (b : Bed) : Prop where
  up : b.s < b.e
  le : b.e < many
  lt : b.lo < b.hi
  lo : Lim 42 11 b.lo
  hi : Lim 42 13 b.hi
theorem lim_sz42 {k : Nat} {q : Rat} (h : Lim 42 k q) (e : k ≤ 1500) : Sz 1500 q := h.sz (by decide) (Nat.lt_of_lt_of_le (show 42 < 2 ^ 6 by decide) (Nat.pow_le_pow_right (by decide) (by decide))) e
theorem BedOk.good {many : Nat} {b : Bed} (h : BedOk many b) : GoodBed many b := ⟨h.up, h.le, h.lt, lim_sz42 h.lo (by decide), lim_sz42 h.hi (by decide)⟩
structure RowsOk (many : Nat) (bs : List Bed) : Prop where
  few : bs.length ≤ 12
  bed : ∀ b ∈ bs, BedOk many b
  sorted : (bs.map Bed.s).Pairwise (· ≤ ·)
  two : ∀ s, (bs.map Bed.s).count s ≤ 2
theorem Lim.add {M j k n : Nat} {x y : Rat} (hx : Lim M j x) (hy : Lim M k y) (h1 : j < n) (h2 : k < n) : Lim M n (x + y) := by
  obtain ⟨a, e1, l1⟩ := hx
  obtain ⟨b, e2, l2⟩ := hy
  refine ⟨a + b, ?_, ?_⟩
  · rw [e1, e2, Rat.intCast_add]
    generalize ((M : Int) : Rat) = z
    by_cases hz : z = 0
    · rw [hz]
      grind
    · grind
  · have p1 := pow_le l1 (show j ≤ n - 1 by omega)
    have p2 := pow_le l2 (show k ≤ n - 1 by omega)
    have := add_lt p1 p2
    rwa [show n - 1 + 1 = n from by omega] at this
theorem Lim.neg {M k : Nat} {x : Rat} (h : Lim M k x) : Lim M k (-x) := by
  obtain ⟨a, e, l⟩ := h
  refine ⟨-a, ?_, by omega⟩
  rw [e, Rat.intCast_neg]
  generalize ((M : Int) : Rat) = z
  by_cases hz : z = 0
  · rw [hz]
    grind
  · grind
/-- a fraction above 0 -/
def posV (y : Rat) : Rat := if y = 0 then 1 else if y < 0 then -y else y
theorem posV_pos (y : Rat) : 0 < posV y := by
  unfold posV
  by_cases h : y = 0
  · rw [if_pos h]
    decide
  · rw [if_neg h]
    by_cases h2 : y < 0
    · rw [if_pos h2]
      grind
    · rw [if_neg h2]
      grind
theorem posV_lim {y : Rat} (h : Lim 42 11 y) : Lim 42 11 (posV y) := by
  unfold posV
  by_cases h0 : y = 0
  · rw [if_pos h0]
    exact ⟨42, by rw [show (((42 : Nat) : Int) : Rat) = ((42 : Int) : Rat) from rfl]; have := icast_ne (show (42 : Int) ≠ 0 by decide); generalize ((42 : Int) : Rat) = z at *; grind, by decide⟩
  · rw [if_neg h0]
    by_cases h2 : y < 0
    · rw [if_pos h2]
      exact h.neg
    · rw [if_neg h2]
      exact h
theorem posV_pr (y : Rat) : [V.int (((y.num.natAbs : Nat) : Int) + (if y.num = 0 then 1 else 0)), V.int ((y.den : Nat) : Int)] = prV (posV y) := by
  unfold posV prV
  by_cases h : y = 0
  · subst h
    rfl
  · rw [if_neg h]
    have nn : y.num ≠ 0 := fun z => h (Rat.num_eq_zero.mp z)
    rw [if_neg nn]
    by_cases h2 : y < 0
    · rw [if_pos h2]
      have : ¬ 0 ≤ y.num := fun z => absurd (Rat.num_nonneg.mp z) (Rat.not_le.mpr h2)
      rw [show (((y.num.natAbs : Nat) : Int) + 0) = -y.num by omega]
      rfl
    · rw [if_neg h2]
      have : 0 ≤ y.num := Rat.num_nonneg.mpr (Rat.not_lt.mp h2)
      rw [show (((y.num.natAbs : Nat) : Int) + 0) = y.num by omega]
theorem RowsOk.nil {many : Nat} : RowsOk many [] := ⟨by decide, (fun b h => nomatch h), .nil, fun s => by simp⟩
theorem RowsOk.snoc {many i k : Nat} {bs : List Bed} {b : Bed} (h : RowsOk many bs) (few : bs.length < 12) (ob : BedOk many b) (es : b.s = i) (le : ∀ c ∈ bs, c.s ≤ i) (cn : (bs.map Bed.s).count i = k) (k2 : k < 2) :
    RowsOk many (bs ++ [b]) ∧ (∀ c ∈ bs ++ [b], c.s ≤ i) ∧ ((bs ++ [b]).map Bed.s).count i = k + 1 := by
  have mm : ∀ c ∈ bs ++ [b], c ∈ bs ∨ c = b := fun c hc => by
    rcases List.mem_append.mp hc with z | z
    · exact .inl z
    · exact .inr (List.mem_singleton.mp z)
  have cnt : ∀ s, ((bs ++ [b]).map Bed.s).count s = (bs.map Bed.s).count s + if i = s then 1 else 0 := fun s => by
    rw [List.map_append, List.count_append, List.map_cons, List.map_nil, List.count_cons, List.count_nil, es]
    by_cases z : i = s
    · simp [z]
    · simp [z]
  refine ⟨⟨by rw [List.length_append]; exact few, fun c hc => ?_, ?_, fun s => ?_⟩, fun c hc => ?_, ?_⟩
  · rcases mm c hc with z | z
    · exact h.bed c z
    · rw [z]
      exact ob
  · rw [List.map_append, List.pairwise_append]
    refine ⟨h.sorted, by simp, fun a ha b' hb => ?_⟩
    obtain ⟨c, hc, rfl⟩ := List.mem_map.mp ha
    have e : b' = b.s := by simpa using hb
    rw [e, es]
    exact le c hc
  · rw [cnt]
    by_cases z : i = s
    · subst z
      rw [cn, if_pos rfl]
      omega
    · rw [if_neg z]
      exact h.two s
  · rcases mm c hc with z | z
    · exact le c z
    · rw [z, es]
      exact Nat.le_refl _
  · rw [cnt, cn, if_pos rfl]
def spBedsOf (K : PySem.W.Frag) : Sp := fun vs H Q _ => ∃ (p : Addr) (m : Nat), vs = [.ref p, .int (m : Int)] ∧ SrcAt H p ∧ 1 ≤ m ∧ m ≤ 8 ∧
  ∀ (H' : Hp) (l : Addr) (bs : List Bed), But p H H' → SrcAt H' p → H l = none → l ≠ p → RowsAt K H' l bs → RowsOk m bs → Q (.ref l) H'
section
variable {P : Program} {w : World} {K : PySem.W.Frag} {mg : Str → Option Value} {base : Heap}
abbrev boN : List Str := ["source", "many", "found", "place", "k", "finish", "low", "more"]
theorem scBO : FnScope boN ["source", "many"] (defScope d_law_beds_of) := ⟨rfl, rfl, rfl, by decide +kernel, rfl, by decide +kernel, by decide +kernel⟩
theorem ok_bedsOf {f f1 f2 f3 : Addr} {fd fd1 fd2 fd3 : FuncData} (F : Fun K "_law_beds_of" "_law_beds_of" d_law_beds_of f fd) (B : TxtB mg) (hrange : mg "range" = none) (hmin : mg "min" = none)
    (A1 : At P w K mg base CX0 2 "_law_next" ["source", "many"] spNext f1 fd1) (A2 : At P w K mg base CX0 3 "_law_mark" ["source"] spMark f2 fd2) (A3 : At P w K mg base CX0 2 "_law_sum" ["one", "other"] (spTwoP K fun p q => p + q) f3 fd3) :
    FnOk P w K mg base CX0 4 f fd ["source", "many"] (spBedsOf K) := by
  refine F.ok scBO (fun vs H Q E h => ?_) (fun cdv A outer s H vs Q E hr h => ?_)
  · obtain ⟨_, _, rfl, _⟩ := h
    rfl
  · obtain ⟨p, m, rfl, hp, m1, m8, q⟩ := h
    have r2 : Room 2 _ := hr.mono (by decide)
    refine ⟨_, pss_cons (ps_set (i := 2) scBO.nd rfl (Or.inl rfl) (pe_lst pa_nil))
      (pss_cons (ps_for PassesOwn.never rfl (pi_range1 (by rfl) hrange (pa_cons (pe_op op_sub (pv 1) pe_int) pa_nil)) (pg_name (i := 3) scBO.nd rfl (.inl rfl))
        (pss_one (ps_for PassesOwn.never rfl (pi_range1 (by rfl) hrange (pa_cons (pe_callB (call_min2 rfl) (by rfl) hmin (by decide +kernel) (pa_cons (pe_op op_sub pe_int (pe_callB call_len_seq (by rfl) B.len PySem.boot_len (pa_cons (pv 2) pa_nil)))
            (pa_cons (pe_ix ix_list (pe_lst (pa_cons pe_int (pa_cons pe_int (pa_cons pe_int (pa_cons pe_int pa_nil))))) (pe_call A1.G r2 rfl A1.m A1.k A1.b .nil pass0 (pa_cons (pv 0) (pa_cons pe_int pa_nil))) (fun _ _ => rfl)) pa_nil))) pa_nil)) (pg_name (i := 4) scBO.nd rfl (.inl rfl))
          (pss_cons (ps_set (i := 5) scBO.nd rfl (Or.inl rfl) (pe_op op_add (pe_op op_add (pv 3) pe_int) (pe_call A1.G r2 rfl A1.m A1.k A1.b .nil pass0 (pa_cons (pv 0) (pa_cons (pe_op op_sub (pe_op op_sub (pv 1) pe_int) (pv 3)) pa_nil)))))
          (pss_cons (ps_par (i := 6) (j := 7) rfl scBO.nd rfl rfl (by decide) rfl rfl (pa_cons (pe_call A2.G hr rfl A2.m A2.k A2.b .nil pass0 (pa_cons (pv 0) pa_nil)) (pa_cons (pe_call A2.G hr rfl A2.m A2.k A2.b .nil pass0 (pa_cons (pv 0) pa_nil)) pa_nil)) (by rfl))
          (pss_cons (ps_set (i := 7) scBO.nd rfl (Or.inl rfl) (pe_tup (pa_cons (pe_op op_add (pe_callB call_abs (by rfl) B.abs (by decide +kernel) (pa_cons (pe_ix ix_tup (pv 7) pe_int (fun _ _ => rfl)) pa_nil)) (pe_callTy call_int1 (by rfl) B.int (by decide +kernel) (pa_cons (pe_cmpR op_eq (pe_ix ix_tup (pv 7) pe_int (fun _ _ => rfl)) pe_int (nomark _)) pa_nil)))
              (pa_cons (pe_ix ix_tup (pv 7) pe_int (fun _ _ => rfl)) pa_nil))))
          (pss_one (ps_expr (pe_bm PySem.F.plainAttrs_list PySem.F.slot_list_append PySem.F.type_list_append mt_append (pv 2) (pa_cons (pe_tup (pa_cons (pv 3) (pa_cons (pv 5) (pa_cons (pv 6) (pa_cons (pe_call A3.G r2 rfl A3.m A3.k A3.b .nil pass0 (pa_cons (pv 6) (pa_cons (pv 7) pa_nil))) pa_nil))))) pa_nil)))))))))) 
      (pss_one (ps_ret (pv 2)))), ?_⟩
    refine ⟨(by show 0 ≤ sizeLine; decide), fun F hF => ?_⟩
    have nF := hp.ne hF
    have b0 : But p H (upd H F (.lst [])) := same_but (same1 hF)
    have w0 : SrcAt (upd H F (.lst [])) p := hp.put nF
    have eF : (upd H F (.lst []) : Hp) F = some (.lst ([].map V.ref)) := upd_same
    generalize upd H F (.lst []) = H0 at *
    refine ⟨_, rfl, _, _, rfl, rfl, _, rfl, by omega, by omega, ?_⟩
    refine for_range (lo := 0) (n := ((m : Int) - 1).toNat) (fun i σ N => ∃ (v3 v4 v5 v6 v7 : Option V) (ts : List Addr) (bs : List Bed), σ = [some (.ref p), some (.int (m : Int)), some (.ref F), v3, v4, v5, v6, v7] ∧ N F = some (.lst (ts.map V.ref)) ∧ All2 (RowAt K N) ts bs ∧ RowsOk m bs ∧ (∀ b ∈ bs, b.s < i) ∧ SrcAt N p ∧ But p H N)
      ⟨none, none, none, none, none, [], [], rfl, eF, .nil, .nil, (fun b h => nomatch h), w0, b0⟩ ?_ ?_
    · rintro i σ N hi ⟨v3, v4, v5, v6, v7, ts, bs, rfl, eN, hA, ok, ob, wN, bN⟩
      have im : (i : Int) < (m : Int) - 1 := by omega
      refine ⟨_, rfl, F, _, rfl, .inl (SqL.of eN), _, _, rfl, rfl, ?_⟩
      refine ⟨(by show 4 ≤ sizeLine; decide), fun l hl => ?_⟩
      have nl := wN.ne hl
      have s1 : Same N (upd N l (.lst [.int 0, .int 1, .int 2, .int 2])) := same1 hl
      have w1 : SrcAt (upd N l (.lst [.int 0, .int 1, .int 2, .int 2])) p := wN.put nl
      have el : (upd N l (.lst [.int 0, .int 1, .int 2, .int 2]) : Hp) l = some (.lst [.int 0, .int 1, .int 2, .int 2]) := upd_same
      generalize upd N l (.lst [.int 0, .int 1, .int 2, .int 2]) = N1 at *
      refine ⟨_, rfl, p, 4, rfl, w1, by decide, by decide, fun N2 d b2 w2 d0 d1 => ?_⟩
      have el2 := b2 _ _ nl el
      have bN2 : But p N N2 := (same_but s1).trans b2
      obtain ⟨c, hc, c0, c2⟩ : ∃ c : Int, atI [V.int 0, V.int 1, V.int 2, V.int 2] d = some (V.int c) ∧ 0 ≤ c ∧ c ≤ 2 := by
        have h : d = 0 ∨ d = 1 ∨ d = 2 ∨ d = 3 := by omega
        rcases h with h | h | h | h <;> rw [h]
        · exact ⟨0, at_k (by decide) rfl, by decide, by decide⟩
        · exact ⟨1, at_k (by decide) rfl, by decide, by decide⟩
        · exact ⟨2, at_k (by decide) rfl, by decide, by decide⟩
        · exact ⟨2, at_k (by decide) rfl, by decide, by decide⟩
      refine ⟨l, _, _, _, rfl, rfl, SqL.of el2, hc, _, _, rfl, _, rfl, ?_⟩
      have lts : (ts.map V.ref).length = bs.length := by rw [List.length_map, hA.len]
      rw [lts]
      have few := ok.few
      generalize hmn : (if c < 12 - ((bs.length : Nat) : Int) then c else 12 - ((bs.length : Nat) : Int)) = mn
      have mn2 : mn ≤ 2 ∧ mn + bs.length ≤ 12 := by
        rw [← hmn]
        split <;> omega
      have mn0 : 0 ≤ mn := by
        rw [← hmn]
        split <;> omega
      refine ⟨by omega, by omega, ?_⟩
      have bHN2 := bN.trans bN2
      have kN2 := bN2.keep wN
      have z0 : (bs.map Bed.s).count i = 0 := List.count_eq_zero.mpr fun z => by
        obtain ⟨b, hb, e⟩ := List.mem_map.mp z
        have := ob b hb
        omega
      refine for_range (lo := 0) (n := mn.toNat) (fun k σ G => ∃ (v4 v5 v6 v7 : Option V) (ts' : List Addr) (bs' : List Bed), σ = [some (.ref p), some (.int (m : Int)), some (.ref F), some (.int (0 + (i : Int))), v4, v5, v6, v7] ∧ G F = some (.lst (ts'.map V.ref)) ∧ All2 (RowAt K G) ts' bs' ∧ RowsOk m bs' ∧ (∀ b ∈ bs', b.s ≤ i) ∧ (bs'.map Bed.s).count i = k ∧ bs'.length = bs.length + k ∧ SrcAt G p ∧ But p H G)
        ⟨v4, v5, v6, v7, ts, bs, rfl, bN2 _ _ nF eN, hA.mono fun _ _ _ _ r => kN2.row r, ok, fun b hb => Nat.le_of_lt (ob b hb), z0, rfl, w2, bHN2⟩ ?_ ?_
      · rintro k σ G hk ⟨v4, v5, v6, v7, ts', bs', rfl, eG, hA', ok', ob', cn, ln, wG, bG⟩
        refine ⟨_, rfl, _, _, rfl, rfl, _, rfl, _, rfl, _, _, rfl, rfl, _, rfl, _, _, rfl, rfl, p, _, rfl, wG, by omega, by omega, fun G1 d1 b1 w1 e0 e1 => ⟨_, _, rfl, rfl, ?_⟩⟩
        refine ⟨_, rfl, p, rfl, w1, fun G2 x lo b2 w2 nx ex llo => ⟨_, rfl, p, rfl, w2, fun G3 y mo b3 w3 ny ey lmo => ⟨_, _, rfl, ?_⟩⟩⟩
        have m0 : atI (prV mo) 0 = some (.int mo.num) := at_k (by decide) rfl
        have m1' : atI (prV mo) 1 = some (.int ((mo.den : Nat) : Int)) := at_k (by decide) rfl
        have hy : SqT K G3 y (prV mo) := SqT.of ey
        refine ⟨_, rfl, y, _, _, _, rfl, rfl, hy, m0, _, rfl, _, rfl, y, _, _, _, rfl, rfl, hy, m0, rfl, .inr ⟨_, rfl, _, _, rfl, rfl, _, rfl, y, _, _, _, rfl, rfl, hy, m1', (by show 2 ≤ sizeLine; decide), fun z hz => ?_⟩⟩
        have ez : (upd G3 z (.tup [V.int ((if mo.num < 0 then -mo.num else mo.num) + (if decide (V.int mo.num = V.int 0) = true then 1 else 0)), V.int ((mo.den : Nat) : Int)]) : Hp) z = some (.tup (prV (posV mo))) := by
          rw [upd_same, ← posV_pr, absV]
          by_cases c : mo.num = 0
          · rw [c]
            rfl
          · have : ¬ V.int mo.num = V.int 0 := fun z => c (V.int.inj z)
            rw [if_neg c, decide_eq_false this]
            rfl
        have s4 : Same G3 (upd G3 z (.tup [V.int ((if mo.num < 0 then -mo.num else mo.num) + (if decide (V.int mo.num = V.int 0) = true then 1 else 0)), V.int ((mo.den : Nat) : Int)])) := same1 hz
        generalize upd G3 z (.tup [V.int ((if mo.num < 0 then -mo.num else mo.num) + (if decide (V.int mo.num = V.int 0) = true then 1 else 0)), V.int ((mo.den : Nat) : Int)]) = G4 at *
        have k3 : KeepL G2 G3 := b3.keep w2
        have ex4 : G4 x = some (.tup (prV lo)) := s4 _ _ (k3 _ _ ex (fun _ z => nomatch z))
        have bG3 := b1.trans (b2.trans b3)
        have eF3 := bG3 _ _ nF eG
        have eF4 := s4 _ _ eF3
        have kG4 : KeepL G G4 := ((b1.keep wG).trans ((b2.keep w1).trans k3)).trans (keep_same s4)
        refine ⟨_, rfl, .inl ⟨rfl, _, SqL.of eF4⟩, _, rfl, _, rfl, _, rfl, _, rfl, _, rfl, x, z, lo, posV mo, rfl, SqT.of ex4, SqT.of ez, lim_sz42 llo (by decide), lim_sz42 (posV_lim lmo) (by decide), fun u hu => ?_⟩
        have s5 : Same G4 (upd G4 u (.tup (prV (lo + posV mo)))) := same1 hu
        have eu : (upd G4 u (.tup (prV (lo + posV mo))) : Hp) u = some (.tup (prV (lo + posV mo))) := upd_same
        generalize upd G4 u (.tup (prV (lo + posV mo))) = G5 at *
        refine ⟨(by show 4 ≤ sizeLine; decide), fun t ht => ?_⟩
        have s6 : Same G5 (upd G5 t (.tup [.int (0 + (i : Int)), .int (0 + (i : Int) + 1 + d1), .ref x, .ref u])) := same1 ht
        have et : (upd G5 t (.tup [.int (0 + (i : Int)), .int (0 + (i : Int) + 1 + d1), .ref x, .ref u]) : Hp) t = some (.tup [.int (0 + (i : Int)), .int (0 + (i : Int) + 1 + d1), .ref x, .ref u]) := upd_same
        generalize upd G5 t (.tup [.int (0 + (i : Int)), .int (0 + (i : Int) + 1 + d1), .ref x, .ref u]) = G6 at *
        have s46 := s5.trans s6
        have eF6 := s46 _ _ eF4
        have few' := ok'.few
        refine ⟨F, _, _, rfl, rfl, eF6, ?_, ?_⟩
        · rw [List.length_map, hA'.len]
          exact Nat.lt_of_le_of_lt few' (show 12 < sizeLine by decide)
        have k7 : KeepL G6 (upd G6 F (.lst (ts'.map V.ref ++ [V.ref t]))) := keep_put eF6
        have kG7 : KeepL G (upd G6 F (.lst (ts'.map V.ref ++ [V.ref t]))) := kG4.trans ((keep_same s46).trans k7)
        have bd : RowAt K (upd G6 F (.lst (ts'.map V.ref ++ [V.ref t]))) t ⟨i, i + 1 + d1.toNat, lo, lo + posV mo⟩ := by
          refine ⟨x, u, SqT.of (k7 _ _ ?_ (fun _ z => nomatch z)), SqT.of (k7 _ _ (s46 _ _ ex4) (fun _ z => nomatch z)), SqT.of (k7 _ _ (s6 _ _ eu) (fun _ z => nomatch z))⟩
          rw [et]
          show some (HO.tup [V.int (0 + (i : Int)), V.int (0 + (i : Int) + 1 + d1), V.ref x, V.ref u]) = some (HO.tup [V.int ((i : Nat) : Int), V.int ((i + 1 + d1.toNat : Nat) : Int), V.ref x, V.ref u])
          rw [show 0 + (i : Int) = ((i : Nat) : Int) from by omega, show ((i : Nat) : Int) + 1 + d1 = ((i + 1 + d1.toNat : Nat) : Int) from by omega]
        have kmn : k < mn.toNat := hk
        obtain ⟨g1, g2, g3⟩ := ok'.snoc (b := ⟨i, i + 1 + d1.toNat, lo, lo + posV mo⟩) (by omega) ⟨by show i < i + 1 + d1.toNat; omega, by show i + 1 + d1.toNat < m; omega, by
          have := posV_pos mo
          show lo < lo + posV mo
          grind, llo, llo.add (posV_lim lmo) (by decide) (by decide)⟩ rfl ob' cn (by omega)
        refine ⟨_, _, _, _, ts' ++ [t], _, rfl, by rw [List.map_append]; exact upd_same, (hA'.mono fun _ _ _ _ r => kG7.row r).snoc bd, g1, g2, g3, by rw [List.length_append, ln]; rfl, ?_, fun a o na ea => ?_⟩
        · exact ((w3.same s4).same s46).put nF
        · have := (s4.trans s46) _ _ (bG3 _ _ na (bG _ _ na ea))
          rw [upd_ne (ne_of_none ea hF)]
          exact this
      · rintro σ G ⟨v4, v5, v6, v7, ts', bs', rfl, eG, hA', ok', ob', cn, ln, wG, bG⟩
        exact ⟨_, v4, v5, v6, v7, ts', bs', rfl, eG, hA', ok', fun b hb => Nat.lt_succ_of_le (ob' b hb), wG, bG⟩
    · rintro σ N ⟨v3, v4, v5, v6, v7, ts, bs, rfl, eN, hA, ok, ob, wN, bN⟩
      exact ⟨_, rfl, q N F bs bN wN hF nF ⟨ts, SqL.of eN, hA⟩ ok⟩
end
end K72

namespace K72
open PySem PySem.Spec PyProof.Rows L2
/-! ### a web of the law's, and the program's of it -/
def WorldAt (K : PySem.W.Frag) (H : Hp) (t : Addr) (W : WebV) : Prop := ∃ rl sl, SqT K H t [.int (W.many : Int), .ref rl, .ref sl] ∧ RowsAt K H rl W.beds ∧ WParts K H sl W.parts
theorem WorldAt.mono {K : PySem.W.Frag} {H H' : Hp} {t : Addr} {W : WebV} (h : WorldAt K H t W) (s : Same H H') : WorldAt K H' t W := by
  obtain ⟨rl, sl, u, v, w⟩ := h
  exact ⟨rl, sl, Same.tup s u, v.mono s, w.mono s⟩
theorem WorldAt.but {K : PySem.W.Frag} {H H' : Hp} {p t : Addr} {W : WebV} (h : WorldAt K H t W) (k : But p H H') (s : SrcAt H p) : WorldAt K H' t W := by
  obtain ⟨rl, sl, u, v, w⟩ := h
  exact ⟨rl, sl, (k.keep s).tup u, v.but k s, w.but k s⟩
structure WorldOk (W : WebV) : Prop where
  m1 : 1 ≤ W.many
  m8 : W.many ≤ 8
  rows : RowsOk W.many W.beds
  plen : W.parts.length = W.many
  part : ∀ (i : Nat) (ps : List Nat), W.parts[i]? = some ps → GoodParts ((starts W).count i) ps
theorem WorldOk.good {W : WebV} (h : WorldOk W) : GoodWeb W := ⟨h.m1, h.m8, h.rows.few, fun b hb => (h.rows.bed b hb).good, h.rows.sorted, h.rows.two, h.plen, h.part⟩
def spWorld (K : PySem.W.Frag) : Sp := fun vs H Q _ => ∃ (p : Addr) (m : Nat), vs = [.ref p, .int (m : Int)] ∧ SrcAt H p ∧ 1 ≤ m ∧ m ≤ 8 ∧
  ∀ (H' : Hp) (t : Addr) (W : WebV), But p H H' → SrcAt H' p → WorldAt K H' t W → WorldOk W → W.many ≤ m → Q (.ref t) H'
theorem sum_some : ∀ {ps : List Nat}, ps.sum ≠ 0 → ∃ p ∈ ps, p ≠ 0
  | [], h => absurd rfl h
  | a :: r, h => by
    by_cases c : a = 0
    · subst c
      rw [List.sum_cons, Nat.zero_add] at h
      obtain ⟨p, hp, p0⟩ := sum_some h
      exact ⟨p, List.mem_cons_of_mem _ hp, p0⟩
    · exact ⟨a, List.mem_cons_self .., c⟩
theorem cut1 (a b : V) : cutV [a] (some 1) none = [] ∧ cutV [a, b] (some 1) none = [b] := ⟨rfl, rfl⟩
section
variable {P : Program} {w : World} {K : PySem.W.Frag} {mg : Str → Option Value} {base : Heap}
abbrev woN : List Str := ["source", "most_places", "many", "rows", "shared", "place", "wanted", "one", "some", "k"]
theorem scWo : FnScope woN ["source", "most_places"] (defScope d_law_world) := ⟨rfl, rfl, rfl, by decide +kernel, rfl, by decide +kernel, by decide +kernel⟩
theorem ok_world {f f1 f2 C : Addr} {fd fd1 fd2 : FuncData} (F : Fun K "_law_world" "_law_world" d_law_world f fd) (Y : TxtW mg C) (hrange : mg "range" = none) (hsum : mg "sum" = none)
    (A1 : At P w K mg base CX0 2 "_law_next" ["source", "many"] spNext f1 fd1) (A2 : At P w K mg base CX0 4 "_law_beds_of" ["source", "many"] (spBedsOf K) f2 fd2) : FnOk P w K mg base CX0 5 f fd ["source", "most_places"] (spWorld K) := by
  refine F.ok scWo (fun vs H Q E h => ?_) (fun cdv A outer s H vs Q E hr h => ?_)
  · obtain ⟨_, _, rfl, _⟩ := h
    rfl
  · obtain ⟨p, m, rfl, hp, m1, m8, q⟩ := h
    have r2 : Room 2 _ := hr.mono (by decide)
    refine ⟨_, pss_cons (ps_set (i := 2) scWo.nd rfl (Or.inl rfl) (pe_op op_add pe_int (pe_call A1.G r2 rfl A1.m A1.k A1.b .nil pass0 (pa_cons (pv 0) (pa_cons (pv 1) pa_nil)))))
      (pss_cons (ps_set (i := 3) scWo.nd rfl (Or.inl rfl) (pe_call A2.G hr rfl A2.m A2.k A2.b .nil pass0 (pa_cons (pv 0) (pa_cons (pv 2) pa_nil))))
      (pss_cons (ps_set (i := 4) scWo.nd rfl (Or.inl rfl) (pe_lst pa_nil))
      (pss_cons (ps_for PassesOwn.never rfl (pi_range1 (by rfl) hrange (pa_cons (pv 2) pa_nil)) (pg_name (i := 5) scWo.nd rfl (.inr rfl))
        (pss_cons (ps_set (i := 6) scWo.nd rfl (Or.inl rfl) (pe_callB call_len_seq (by rfl) Y.len PySem.boot_len (pa_cons
          (pe_lc (own := [("one", 7)]) (g := gName 7) (by rfl) scWo.nd (pi_list (pv 3)) (blkOk_by (own := [("one", 7)]) (N := woN) (sc := defScope d_law_world) (by decide +kernel)) (fun _ _ _ _ _ => pg_name (i := 7) scWo.nd rfl (.inl rfl))
            (fun _ _ _ _ _ => pts_one (pt_cmpR op_eq (pe_ix (show IxR _ (rIxT K) from ix_tup) (pv 7) pe_int (fun _ _ => rfl)) (pv 5) (nomark _))) (fun _ _ _ _ _ => pv 7)) pa_nil)))
        (pss_cons (ps_set (i := 8) scWo.nd rfl (Or.inl rfl) (pe_callTy (cr_tup (K := K) rfl) (by rfl) Y.tuple (by decide +kernel) (pa_cons
          (pe_lc (own := [("k", 9)]) (g := gName 9) (by rfl) scWo.nd (pi_range1 (by rfl) hrange (pa_cons (pv 6) pa_nil)) (blkOk_by (own := [("k", 9)]) (N := woN) (sc := defScope d_law_world) (by decide +kernel)) (fun _ _ _ _ _ => pg_name (i := 9) scWo.nd rfl (.inl rfl)) (fun _ _ _ _ _ => pts_nil)
            (fun _ _ _ _ _ => pe_call A1.G r2 rfl A1.m A1.k A1.b .nil pass0 (pa_cons (pv 0) (pa_cons (pe_ix (show IxR _ (rIxL K) from ix_list) (pe_lst (pa_cons pe_int (pa_cons pe_int pa_nil))) (pe_call A1.G r2 rfl A1.m A1.k A1.b .nil pass0 (pa_cons (pv 0) (pa_cons pe_int pa_nil))) (fun _ _ => rfl)) pa_nil)))) pa_nil)))
        (pss_cons (ps_if (PW.pt (pw_and (pt_cmpR op_gt (pv 6) pe_int (nomark _)) (pw_and1 (pt_cmpR op_eq (pe_callB (cr_sumT rfl) (by rfl) hsum (by decide +kernel) (pa_cons (pv 8) pa_nil)) pe_int (nomark _)))))
          (pss_one (ps_set (i := 8) scWo.nd rfl (Or.inl rfl) (pe_op op_catT (pe_tup (pa_cons (pe_op op_add pe_int (pe_call A1.G r2 rfl A1.m A1.k A1.b .nil pass0 (pa_cons (pv 0) (pa_cons pe_int pa_nil)))) pa_nil)) (pe_slice sl_tupA (pv 8) (po_some pe_int) po_none)))) pss_nil)
        (pss_one (ps_expr (pe_bm PySem.F.plainAttrs_list PySem.F.slot_list_append PySem.F.type_list_append mt_append (pv 4) (pa_cons (pv 8) pa_nil))))))))
      (pss_one (ps_ret (pe_tup (pa_cons (pv 2) (pa_cons (pv 3) (pa_cons (pv 4) pa_nil))))))))), ?_⟩
    refine ⟨_, rfl, _, rfl, p, _, rfl, hp, by omega, by omega, fun H1 d b1 w1 d0 d1 => ⟨_, _, rfl, rfl, ?_⟩⟩
    obtain ⟨mm, hmm⟩ : ∃ mm : Nat, 1 + d = (mm : Int) := ⟨(1 + d).toNat, by omega⟩
    show gName 2 (V.int (1 + d)) _ H1 _
    rw [hmm]
    refine ⟨_, rfl, _, rfl, p, mm, rfl, w1, by omega, by omega, fun H2 rl bs b2 w2 nrl rlp ⟨ts, hts, hA⟩ ok => ?_⟩
    refine ⟨(by show 0 ≤ sizeLine; decide), fun S hS => ?_⟩
    have nS := w2.ne hS
    have b3 : But p H2 (upd H2 S (.lst [])) := same_but (same1 hS)
    have s3 : Same H2 (upd H2 S (.lst [])) := same1 hS
    have w3 : SrcAt (upd H2 S (.lst [])) p := w2.put nS
    have eS : (upd H2 S (.lst []) : Hp) S = some (.lst ([].map V.ref)) := upd_same
    generalize upd H2 S (.lst []) = H3 at *
    refine ⟨_, rfl, _, rfl, by omega, by omega, ?_⟩
    refine for_range (lo := 0) (n := ((mm : Int)).toNat) (fun i σ N => ∃ (v5 v6 v8 : Option V) (us : List Addr) (pss : List (List Nat)), σ = [some (.ref p), some (.int (m : Int)), some (.int (mm : Int)), some (.ref rl), some (.ref S), v5, v6, none, v8, none] ∧
        N S = some (.lst (us.map V.ref)) ∧ All2 (PartsAt K N) us pss ∧ pss.length = i ∧ (∀ (j : Nat) (ps : List Nat), pss[j]? = some ps → GoodParts ((bs.map Bed.s).count j) ps) ∧ SrcAt N p ∧ But p H2 N)
      ⟨none, none, none, [], [], rfl, eS, .nil, rfl, (fun j ps h => by simp at h), w3, b3⟩ ?_ ?_
    · rintro i σ N hi ⟨v5, v6, v8, us, pss, rfl, eN, hU, lp, gp, wN, bN⟩
      have hrl : SqL K N rl (ts.map V.ref) := bN.seqR w2 hts
      have hAN : All2 (RowAt K N) ts bs := hA.mono fun _ _ _ _ r => (bN.keep w2).row r
      refine ⟨_, rfl, rl, rfl, ⟨_, hrl⟩, fun D hD => ?_⟩
      refine lc_list (K := K) (a := rl) (xs := ts.map V.ref) (fun j M => ∃ qs : List Addr, M D = some (.lst (qs.map V.ref)) ∧ qs.length = ((bs.take j).map Bed.s).count i ∧ Same N M) ⟨[], upd_same, rfl, same1 hD⟩ ?_ ?_ ?_
      · rintro j M _ ⟨_, _, _, sM⟩
        exact sM.seq hrl
      · rintro j x M hx ⟨qs, eD, lq, sM⟩
        rw [List.getElem?_map] at hx
        obtain ⟨t, ht, rfl⟩ := Option.map_eq_some_iff.mp hx
        have jl : j < bs.length := by
          have := (List.getElem?_eq_some_iff.mp ht).1
          have := hA.len
          omega
        have hb : bs[j]? = some bs[j] := List.getElem?_eq_getElem jl
        obtain ⟨_, _, q1, _, _⟩ := (hAN.all j t _ ht hb).mono sM
        have few := ok.few
        have nxt : ((bs.take (j + 1)).map Bed.s).count i = ((bs.take j).map Bed.s).count i + if bs[j].s = i then 1 else 0 := by
          rw [List.take_succ_eq_append_getElem jl, List.map_append, List.count_append, List.map_cons, List.map_nil, List.count_cons, List.count_nil]
          by_cases c : bs[j].s = i
          · simp [c]
          · simp [c]
        refine ⟨rfl, _, rfl, t, _, _, _, rfl, rfl, q1, at_k (by decide) rfl, _, rfl, rfl, _, rfl, ?_⟩
        refine ite2 (fun h => ?_) (fun h => ?_)
        · have h : ((bs[j].s : Nat) : Int) = 0 + (i : Int) := V.int.inj (of_decide_eq_true h)
          refine ⟨_, rfl, _, eD, ?_, qs ++ [t], by rw [List.map_append]; exact upd_same, ?_, fun a o ea => ?_⟩
          · rw [List.length_map, lq]
            refine Nat.lt_of_le_of_lt List.count_le_length ?_
            rw [List.length_map, List.length_take]
            exact Nat.lt_of_le_of_lt (Nat.min_le_left _ _) (Nat.lt_of_lt_of_le (show j < 12 by omega) (show 12 ≤ sizeLine by decide))
          · rw [List.length_append, lq, nxt, if_pos (by omega)]
            rfl
          · rw [upd_ne (ne_of_none ea hD)]
            exact sM _ _ ea
        · have h : ¬ ((bs[j].s : Nat) : Int) = 0 + (i : Int) := fun z => h (decide_eq_true (by rw [z]))
          refine ⟨qs, eD, ?_, sM⟩
          rw [lq, nxt, if_neg (by omega)]
          rfl
      · rintro M ⟨qs, eD, lq, sM⟩
        rw [List.length_map, hA.len, List.take_length] at lq
        have two := ok.two i
        refine ⟨D, _, rfl, .inl (SqL.of eD), ?_⟩
        rw [show (qs.map V.ref).length = qs.length from List.length_map ..]
        have wM := wN.same sM
        refine ⟨_, rfl, _, rfl, by omega, by omega, fun G hG => ?_⟩
        have nG := wM.ne hG
        refine lc_range (lo := 0) (n := ((qs.length : Int)).toNat) (fun j M2 => ∃ ps : List Nat, M2 G = some (.lst (ps.map natV)) ∧ ps.length = j ∧ (∀ a ∈ ps, a ≤ 9) ∧ SrcAt M2 p ∧ But p M M2) ⟨[], upd_same, rfl, (fun a h => nomatch h), wM.put nG, same_but (same1 hG)⟩ ?_ ?_
        · rintro j M2 hj ⟨ps, eG, lps, h9, w4, b4⟩
          refine ⟨rfl, _, rfl, (by show 2 ≤ sizeLine; decide), fun l hl => ?_⟩
          have nl := w4.ne hl
          have s5 : Same M2 (upd M2 l (.lst [.int 2, .int 10])) := same1 hl
          have w5 : SrcAt (upd M2 l (.lst [.int 2, .int 10])) p := w4.put nl
          have el : (upd M2 l (.lst [.int 2, .int 10]) : Hp) l = some (.lst [.int 2, .int 10]) := upd_same
          generalize upd M2 l (.lst [.int 2, .int 10]) = M3 at *
          refine ⟨_, rfl, p, 2, rfl, w5, by decide, by decide, fun M4 e b6 w6 e0 e1 => ?_⟩
          have el2 := b6 _ _ nl el
          obtain ⟨c, hc, c1, c2⟩ : ∃ c : Int, atI [V.int 2, V.int 10] e = some (V.int c) ∧ 0 < c ∧ c ≤ 10 := by
            have h : e = 0 ∨ e = 1 := by omega
            rcases h with h | h <;> rw [h]
            · exact ⟨2, at_k (by decide) rfl, by decide, by decide⟩
            · exact ⟨10, at_k (by decide) rfl, by decide, by decide⟩
          refine ⟨l, _, _, _, rfl, rfl, SqL.of el2, hc, p, c, rfl, w6, c1, by omega, fun M5 v b7 w7 v0 v1 => ?_⟩
          have bM5 := (same_but s5).trans (b6.trans b7)
          have eG5 := bM5 _ _ nG eG
          refine ⟨_, eG5, ?_, ps ++ [v.toNat], ?_, ?_, ?_, w7.put nG, fun a o na ea => ?_⟩
          · rw [List.length_map, lps]
            exact Nat.lt_of_lt_of_le (show j < 12 by omega) (show 12 ≤ sizeLine by decide)
          · rw [List.map_append, upd_same]
            show some (HO.lst (_ ++ [V.int v])) = some (HO.lst (_ ++ [V.int ((v.toNat : Nat) : Int)]))
            rw [show ((v.toNat : Nat) : Int) = v by omega]
          · rw [List.length_append, lps]
            rfl
          · intro a ha
            rcases List.mem_append.mp ha with z | z
            · exact h9 a z
            · rw [List.mem_singleton.mp z]
              omega
          · have := bM5 _ _ na (b4 _ _ na ea)
            rw [upd_ne (ne_of_none ea hG)]
            exact this
        · rintro M2 ⟨ps, eG, lps, h9, w4, b4⟩
          rw [Int.toNat_natCast] at lps
          refine ⟨G, _, rfl, .inl ⟨SqL.of eG, fun t ht => ?_⟩⟩
          have s5 : Same M2 (upd M2 t (.tup (ps.map natV))) := same1 ht
          have w5 := w4.same s5
          have et : (upd M2 t (.tup (ps.map natV)) : Hp) t = some (.tup (ps.map natV)) := upd_same
          generalize upd M2 t (.tup (ps.map natV)) = M3 at *
          have bN3 : But p N M3 := (same_but sM).trans (b4.trans (same_but s5))
          have fin : ∀ (G3 : Hp) (u : Addr) (ps' : List Nat), But p M3 G3 → SrcAt G3 p → PartsAt K G3 u ps' → GoodParts qs.length ps' →
              ∃ lp xs v, V.ref S = .ref lp ∧ [V.ref u] = [v] ∧ G3 lp = some (.lst xs) ∧ xs.length < sizeLine ∧ ∃ (v5 v6 v8 : Option V) (us : List Addr) (pss : List (List Nat)), [some (V.ref p), some (V.int (m : Int)), some (V.int (mm : Int)), some (V.ref rl), some (V.ref S), some (V.int (0 + (i : Int))), some (V.int (qs.length : Int)), none, some (V.ref u), none] = [some (.ref p), some (.int (m : Int)), some (.int (mm : Int)), some (.ref rl), some (.ref S), v5, v6, none, v8, none] ∧
                upd G3 lp (.lst (xs ++ [v])) S = some (.lst (us.map V.ref)) ∧ All2 (PartsAt K (upd G3 lp (.lst (xs ++ [v])))) us pss ∧ pss.length = i + 1 ∧ (∀ (j : Nat) (ps : List Nat), pss[j]? = some ps → GoodParts ((bs.map Bed.s).count j) ps) ∧ SrcAt (upd G3 lp (.lst (xs ++ [v]))) p ∧ But p H2 (upd G3 lp (.lst (xs ++ [v]))) := fun G3 u ps' b6 w6 hu gps => by
            have bG := bN3.trans b6
            have eS3 := bG _ _ nS eN
            have k7 : KeepL G3 (upd G3 S (.lst (us.map V.ref ++ [V.ref u]))) := keep_put eS3
            refine ⟨S, _, _, rfl, rfl, eS3, ?_, _, _, _, us ++ [u], pss ++ [ps'], rfl, by rw [List.map_append]; exact upd_same, ?_, by rw [List.length_append, lp]; rfl, fun j ps0 hj => ?_, w6.put nS, fun a o na ea => ?_⟩
            · rw [List.length_map, hU.len, lp]
              exact Nat.lt_of_lt_of_le (show i < 12 by omega) (show 12 ≤ sizeLine by decide)
            · have kk : KeepL N (upd G3 S (.lst (us.map V.ref ++ [V.ref u]))) := (bG.keep wN).trans k7
              exact (hU.mono fun _ _ _ _ r => kk.tup r).snoc (k7.tup hu)
            · by_cases c : j < pss.length
              · rw [List.getElem?_append_left c] at hj
                exact gp j ps0 hj
              · rw [List.getElem?_append_right (by omega)] at hj
                have c0 : j - pss.length = 0 := by
                  have := (List.getElem?_eq_some_iff.mp hj).1
                  simp at this
                  omega
                rw [c0] at hj
                have e : ps' = ps0 := by simpa using hj
                rw [← e, show j = i from by omega, ← lq]
                exact gps
            · have := bG _ _ na (bN _ _ na ea)
              rw [upd_ne (ne_of_none ea hS)]
              exact this
          have lq2 : ps.length = qs.length := lps
          refine ⟨_, rfl, _, _, rfl, rfl, _, rfl, ?_⟩
          refine ite2 (fun h => ?_) (fun h => ?_)
          · have h0 : 0 < qs.length := by
              have h : (0 : Int) < ((qs.length : Nat) : Int) := of_decide_eq_true h
              omega
            refine ⟨_, rfl, t, ps.map (fun n : Nat => (n : Int)), rfl, (by rw [← natV_map]; exact SqT.of et), ?_⟩
            rw [sum_cast]
            refine ⟨rfl, _, rfl, ?_⟩
            refine ite2 (fun h2 => ?_) (fun h2 => ?_)
            · refine ⟨_, rfl, p, 9, rfl, w5, by decide, by decide, fun M4 v b6 w6 v0 v1 => ⟨_, _, rfl, rfl, (by show 1 ≤ sizeLine; decide), fun a ha => ?_⟩⟩
              have s7 : Same M4 (upd M4 a (.tup [.int (1 + v)])) := same1 ha
              have ea : (upd M4 a (.tup [.int (1 + v)]) : Hp) a = some (.tup [natV (1 + v.toNat)]) := by
                rw [upd_same]
                show some (HO.tup [V.int (1 + v)]) = some (HO.tup [V.int ((1 + v.toNat : Nat) : Int)])
                rw [show ((1 + v.toNat : Nat) : Int) = 1 + v by omega]
              have w7 := w6.same s7
              generalize upd M4 a (.tup [.int (1 + v)]) = M5 at *
              have b57 := b6.trans (same_but s7)
              have et5 := (b57.keep w5) _ _ et (fun _ z => nomatch z)
              have more : ∀ (ps' : List Nat) (M6 : Hp) (u : Addr), Same M5 M6 → M6 u = some (.tup (ps'.map natV)) → ps'.length = qs.length → (∀ a ∈ ps', a ≤ 9) → (∃ a ∈ ps', a ≠ 0) → But p M3 M6 ∧ SrcAt M6 p ∧ PartsAt K M6 u ps' ∧ GoodParts qs.length ps' ∧ M6 S = some (.lst (us.map V.ref)) := fun ps' M6 u s8 e8 l8 n8 o8 =>
                ⟨b57.trans (same_but s8), w7.same s8, SqT.of e8, ⟨l8, n8, by omega, .inr o8⟩, s8 _ _ (b57 _ _ nS (bN3 _ _ nS eN))⟩
              match hps : ps, lq2 with
              | [], z => exact absurd z (by rw [List.length_nil]; omega)
              | [x], z =>
                refine ⟨_, rfl, _, rfl, t, [natV x], rfl, SqT.of et5, fun ⟨y, _⟩ => absurd y (show ¬ HT.sIx 1 0 (some 1) = 0 from by decide), fun _ r hr => ?_⟩
                have s8 : Same M5 (upd M5 r (.tup (cutV [natV x] (some 1) none))) := same1 hr
                have e8 : (upd M5 r (.tup (cutV [natV x] (some 1) none)) : Hp) r = some (.tup []) := upd_same
                generalize upd M5 r (.tup (cutV [natV x] (some 1) none)) = M6 at *
                refine ⟨a, r, _, _, rfl, rfl, SqT.of (s8 _ _ ea), SqT.of e8, (fun z => nomatch z), (by show 1 ≤ sizeLine; decide), fun _ => ?_, fun z => absurd rfl z⟩
                obtain ⟨g1, g2, g3, g4, g5⟩ := more [1 + v.toNat] M6 a s8 (s8 _ _ ea) z (fun c hc => by rw [List.mem_singleton.mp hc]; omega) ⟨_, List.mem_singleton.mpr rfl, by omega⟩
                exact ⟨_, rfl, .inl ⟨rfl, _, SqL.of g5⟩, _, rfl, fin M6 a _ g1 g2 g3 g4⟩
              | [x, y], z =>
                refine ⟨_, rfl, _, rfl, t, [natV x, natV y], rfl, SqT.of et5, fun ⟨y, _⟩ => absurd y (show ¬ HT.sIx 2 0 (some 1) = 0 from by decide), fun _ r hr => ?_⟩
                have s8 : Same M5 (upd M5 r (.tup (cutV [natV x, natV y] (some 1) none))) := same1 hr
                have e8 : (upd M5 r (.tup (cutV [natV x, natV y] (some 1) none)) : Hp) r = some (.tup [natV y]) := upd_same
                generalize upd M5 r (.tup (cutV [natV x, natV y] (some 1) none)) = M6 at *
                refine ⟨a, r, _, _, rfl, rfl, SqT.of (s8 _ _ ea), SqT.of e8, (fun z => nomatch z), (by show 2 ≤ sizeLine; decide), (fun z => nomatch z), fun _ u hu => ?_⟩
                have s9 : Same M6 (upd M6 u (.tup ([natV (1 + v.toNat)] ++ [natV y]))) := same1 hu
                have e9 : (upd M6 u (.tup ([natV (1 + v.toNat)] ++ [natV y])) : Hp) u = some (.tup ([1 + v.toNat, y].map natV)) := upd_same
                generalize upd M6 u (.tup ([natV (1 + v.toNat)] ++ [natV y])) = M7 at *
                obtain ⟨g1, g2, g3, g4, g5⟩ := more [1 + v.toNat, y] M7 u (s8.trans s9) e9 z (fun c hc => by
                  rcases List.mem_cons.mp hc with q1 | q1
                  · omega
                  · rw [List.mem_singleton.mp q1]
                    exact h9 y (by simp)) ⟨_, List.mem_cons_self .., by omega⟩
                exact ⟨_, rfl, .inl ⟨rfl, _, SqL.of g5⟩, _, rfl, fin M7 u _ g1 g2 g3 g4⟩
              | _ :: _ :: _ :: _, z => exact absurd z (by rw [List.length_cons, List.length_cons, List.length_cons]; omega)
            · exact ⟨_, rfl, .inl ⟨rfl, _, SqL.of (bN3 _ _ nS eN)⟩, _, rfl, fin M3 t ps (But.refl _ _) w5 (SqT.of et) ⟨lq2, h9, by omega, .inr (sum_some fun z => h2 (decide_eq_true (by rw [z]; rfl)))⟩⟩
          · have h0 : qs.length = 0 := by
              have h : ¬ (0 : Int) < ((qs.length : Nat) : Int) := fun z => h (decide_eq_true z)
              omega
            exact ⟨_, rfl, .inl ⟨rfl, _, SqL.of (bN3 _ _ nS eN)⟩, _, rfl, fin M3 t ps (But.refl _ _) w5 (SqT.of et) ⟨lq2, h9, by omega, .inl h0⟩⟩
    · rintro σ N ⟨v5, v6, v8, us, pss, rfl, eN, hU, lp, gp, wN, bN⟩
      rw [Int.toNat_natCast] at lp
      refine ⟨_, rfl, _, rfl, _, rfl, (by show 3 ≤ sizeLine; decide), fun t ht => ?_⟩
      have s5 : Same N (upd N t (.tup [.int (mm : Int), .ref rl, .ref S])) := same1 ht
      refine q _ t ⟨mm, bs, pss⟩ ((b1.trans b2).trans (bN.trans (same_but s5))) (wN.same s5) ⟨rl, S, SqT.of upd_same, ?_, us, SqL.of (s5 _ _ eN), hU.mono fun _ _ _ _ r => Same.tup s5 r⟩ ⟨by show 1 ≤ mm; omega, by show mm ≤ 8; omega, ok, lp, gp⟩ (by show mm ≤ m; omega)
      exact RowsAt.mono ⟨ts, bN.seqR w2 hts, hA.mono fun _ _ _ _ r => (bN.keep w2).row r⟩ s5
end
end K72

namespace K72
open PySem PySem.Spec PyProof.Rows L2
/-! ### made, depths, falls, shares -/
def spMadeW (K : PySem.W.Frag) (C CW : Addr) : Sp := fun vs H Q _ => ∃ (t : Addr) (W : WebV), vs = [.ref t] ∧ WorldAt K H t W ∧ WorldOk W ∧ ∀ (H' : Hp) (w : Addr), Same H H' → WebAt K C CW H' w W → Q (.ref w) H'
def spDepthsL (K : PySem.W.Frag) : Sp := fun vs H Q _ => ∃ (p t : Addr) (W : WebV), vs = [.ref p, .ref t] ∧ SrcAt H p ∧ WorldAt K H t W ∧ WorldOk W ∧
  ∀ (H' : Hp) (d : Addr) (ds : List Int), But p H H' → SrcAt H' p → H' d = some (.tup (ds.map V.int)) → ds.length = W.beds.length → Q (.ref d) H'
/-- pairs in a list of our own -/
def PairsL (K : PySem.W.Frag) (H : Hp) (l : Addr) (qs : List Rat) : Prop := ∃ ts : List Addr, SqL K H l (ts.map V.ref) ∧ All2 (PairAt K H) ts qs
theorem PairsL.mono {K : PySem.W.Frag} {H H' : Hp} {a : Addr} {bs : List Rat} (h : PairsL K H a bs) (s : Same H H') : PairsL K H' a bs := by
  obtain ⟨ts, u, v⟩ := h
  exact ⟨ts, s.seq u, v.mono fun _ _ _ _ r => Same.tup s r⟩
theorem PairsL.but {K : PySem.W.Frag} {H H' : Hp} {p a : Addr} {bs : List Rat} (h : PairsL K H a bs) (k : But p H H') (s : SrcAt H p) : PairsL K H' a bs := by
  obtain ⟨ts, u, v⟩ := h
  exact ⟨ts, k.seqR s u, v.mono fun _ _ _ _ r => (k.keep s).tup r⟩
def spFalls (K : PySem.W.Frag) : Sp := fun vs H Q _ => ∃ (p t : Addr) (W : WebV), vs = [.ref p, .ref t] ∧ SrcAt H p ∧ WorldAt K H t W ∧ WorldOk W ∧
  ∀ (H' : Hp) (l : Addr) (qs : List Rat), But p H H' → SrcAt H' p → PairsL K H' l qs → RainOk W 105840 40 qs → Q (.ref l) H'
def spSharesL (K : PySem.W.Frag) (C : Addr) : Sp := fun vs H Q _ => ∃ (l : Addr) (qs : List Rat), vs = [.ref l] ∧ PairsL K H l qs ∧ (∀ q ∈ qs, Sz 1500 q) ∧ qs.length ≤ 100 ∧ ∀ (H' : Hp) (t : Addr), Same H H' → RainAt C K H' t qs → Q (.ref t) H'
theorem sz_int {n : Nat} {k : Nat} (h : n < 2 ^ k) (e : k ≤ 4000) : n < 2 ^ 4000 := Nat.lt_of_lt_of_le h (Nat.pow_le_pow_right (by decide) e)
section
variable {P : Program} {w : World} {K : PySem.W.Frag} {mg : Str → Option Value} {base : Heap}
abbrev maN : List Str := ["world", "many", "rows", "shared", "told", "start", "finish", "low", "high"]
theorem scMa : FnScope maN ["world"] (defScope d_law_made) := ⟨rfl, rfl, rfl, by decide +kernel, rfl, by decide +kernel, by decide +kernel⟩
/-- a share of a pair -/
theorem shq_pr {C : Addr} {H : Hp} {p : Addr} {x : Rat} (h : ShAt C H p (lowT x.num (x.den : Int)) (lowB x.num (x.den : Int))) : ShQ C H p x := by
  have z := shq_low (t := x.num) (b := (x.den : Int)) (by have := den_pos x; omega) h
  rw [rat_frac] at z
  exact z
theorem ok_madeW {f fI fW C CN CW : Addr} {fd fdI fdW : FuncData} (F : Fun K "_law_made" "_law_made" d_law_made f fd) (T : Txt K mg C CN) (Y : TxtW mg C) (hW : mg "Web" = some (.ref CW)) (ne : C ≠ CW)
    (M : Mk K C fI) (GI : FnOk P w K mg base (L2.CX P w) 2 fI fdI ["self", "top", "bottom"] (spInit C CN)) (bI : Binds K fdI ["self", "top", "bottom"] [])
    (MW : Mk K CW fW) (GW : FnOk P w K mg base CX0 5 fW fdW ["self", "many", "beds", "parts"] (spWInit K C CW)) (bW : Binds K fdW ["self", "many", "beds", "parts"] []) : FnOk P w K mg base CX0 7 f fd ["world"] (spMadeW K C CW) := by
  refine F.ok scMa (fun vs H Q E h => ?_) (fun cdv A outer s H vs Q E hr h => ?_)
  · obtain ⟨_, _, rfl, _⟩ := h
    rfl
  · obtain ⟨t0, W, rfl, ⟨rl, sl, h0, ⟨ts, hts, hA⟩, ⟨us, hus, hU⟩⟩, ok, q⟩ := h
    have r3 : Room 3 _ := hr.mono (by decide)
    refine ⟨_, pss_cons (ps_asg (pv 0) (pg_tup (by rfl) (pgs_cons (pg_name (i := 1) scMa.nd rfl (.inl rfl)) (pgs_cons (pg_name (i := 2) scMa.nd rfl (.inl rfl)) (pgs_cons (pg_name (i := 3) scMa.nd rfl (.inl rfl)) pgs_nil)))))
      (pss_cons (ps_set (i := 4) scMa.nd rfl (Or.inl rfl) (pe_lst pa_nil))
      (pss_cons (ps_for PassesOwn.never rfl (pi_list (pv 2)) (pg_tup (by rfl) (pgs_cons (pg_name (i := 5) scMa.nd rfl (.inl rfl)) (pgs_cons (pg_name (i := 6) scMa.nd rfl (.inl rfl)) (pgs_cons (pg_name (i := 7) scMa.nd rfl (.inl rfl)) (pgs_cons (pg_name (i := 8) scMa.nd rfl (.inl rfl)) pgs_nil)))))
        (pss_one (ps_expr (pe_bm PySem.F.plainAttrs_list PySem.F.slot_list_append PySem.F.type_list_append mt_append (pv 4) (pa_cons (pe_tup (pa_cons (pv 5) (pa_cons (pv 6)
          (pa_cons (pe_make M GI r3 rfl T.mgC bI .nil passL (pa_cons (pe_ix ix_tup (pv 7) pe_int (fun _ _ => rfl)) (pa_cons (pe_ix ix_tup (pv 7) pe_int (fun _ _ => rfl)) pa_nil)))
          (pa_cons (pe_make M GI r3 rfl T.mgC bI .nil passL (pa_cons (pe_ix ix_tup (pv 8) pe_int (fun _ _ => rfl)) (pa_cons (pe_ix ix_tup (pv 8) pe_int (fun _ _ => rfl)) pa_nil))) pa_nil))))) pa_nil)))))
      (pss_one (ps_ret (pe_make MW GW hr rfl hW bW .nil pass0 (pa_cons (pv 1) (pa_cons (pv 4) (pa_cons (pe_callTy call_list_of (by rfl) Y.list (by decide +kernel) (pa_cons (pv 3) pa_nil)) pa_nil)))))))), ?_⟩
    refine ⟨_, rfl, t0, _, rfl, h0, rfl, _, _, rfl, _, _, rfl, _, _, rfl, rfl, ?_⟩
    refine ⟨(by show 0 ≤ sizeLine; decide), fun F hF => ?_⟩
    have s0 : Same H (upd H F (.lst [])) := same1 hF
    have eF : (upd H F (.lst []) : Hp) F = some (.lst ([].map V.ref)) := upd_same
    generalize upd H F (.lst []) = H0 at *
    have htsH := s0.seq hts
    refine ⟨_, rfl, rl, rfl, ⟨_, htsH⟩, ?_⟩
    refine for_list (K := K) (a := rl) (xs := ts.map V.ref) (fun i σ N => ∃ (v5 v6 v7 v8 : Option V) (vs : List Addr), σ = [some (.ref t0), some (.int (W.many : Int)), some (.ref rl), some (.ref sl), some (.ref F), v5, v6, v7, v8] ∧ N F = some (.lst (vs.map V.ref)) ∧ All2 (BedAt K C N) vs (W.beds.take i) ∧ Same H N) ⟨none, none, none, none, [], rfl, eF, .nil, s0⟩ ?_ ?_ ?_
    · rintro i σ N _ ⟨_, _, _, _, _, rfl, _, _, sN⟩
      exact sN.seq hts
    · rintro i x σ N hx ⟨v5, v6, v7, v8, vs, rfl, eN, hV, sN⟩
      rw [List.getElem?_map] at hx
      obtain ⟨t, ht, rfl⟩ := Option.map_eq_some_iff.mp hx
      have il : i < W.beds.length := by
        have := (List.getElem?_eq_some_iff.mp ht).1
        have := hA.len
        omega
      have hbi : W.beds[i]? = some W.beds[i] := List.getElem?_eq_getElem il
      obtain ⟨x, y, q1, hx1, hy1⟩ := (hA.all i t _ ht hbi).mono sN
      have ob := ok.rows.bed _ (List.getElem_mem il)
      have few := ok.rows.few
      generalize hb : W.beds[i] = b at *
      have s1 := lim_sz42 ob.lo (by decide)
      have s2 := lim_sz42 ob.hi (by decide)
      refine ⟨t, _, rfl, q1, rfl, _, _, rfl, _, _, rfl, _, _, rfl, _, _, rfl, rfl, ?_⟩
      have n0 : ∀ z : Rat, atI (prV z) 0 = some (.int z.num) := fun z => at_k (by decide) rfl
      have n1 : ∀ z : Rat, atI (prV z) 1 = some (.int ((z.den : Nat) : Int)) := fun z => at_k (by decide) rfl
      refine ⟨_, rfl, .inl ⟨rfl, _, SqL.of eN⟩, _, rfl, _, rfl, _, rfl, x, _, _, _, rfl, rfl, hx1, n0 _, _, rfl, x, _, _, _, rfl, rfl, hx1, n1 _, fun p1 d1 np nd nex => ?_⟩
      refine ⟨p1, d1, _, _, rfl, upd_same, pow_le s1.1 (by decide), pow_le s1.2 (by decide), fun z => absurd z (by have := den_pos b.lo; omega), fun _ N1 e1 ka => ⟨rfl, ?_⟩⟩
      have m1 : Same N N1 := made_same (C := C) np nd ka
      have hp1 : ShQ C N1 p1 b.lo := shq_pr ⟨d1, e1⟩
      have hy2 := Same.tup m1 hy1
      refine ⟨_, rfl, y, _, _, _, rfl, rfl, hy2, n0 _, _, rfl, y, _, _, _, rfl, rfl, hy2, n1 _, fun p2 d2 np2 nd2 nex2 => ?_⟩
      refine ⟨p2, d2, _, _, rfl, upd_same, pow_le s2.1 (by decide), pow_le s2.2 (by decide), fun z => absurd z (by have := den_pos b.hi; omega), fun _ N2 e2 ka2 => ⟨rfl, ?_⟩⟩
      have m2 : Same N1 N2 := made_same (C := C) np2 nd2 ka2
      have hp2 : ShQ C N2 p2 b.hi := shq_pr ⟨d2, e2⟩
      refine ⟨(by show 4 ≤ sizeLine; decide), fun u hu => ?_⟩
      have m3 : Same N2 (upd N2 u (.tup [.int (b.s : Int), .int (b.e : Int), .ref p1, .ref p2])) := same1 hu
      have eu : (upd N2 u (.tup [.int (b.s : Int), .int (b.e : Int), .ref p1, .ref p2]) : Hp) u = some (.tup [.int (b.s : Int), .int (b.e : Int), .ref p1, .ref p2]) := upd_same
      generalize upd N2 u (.tup [.int (b.s : Int), .int (b.e : Int), .ref p1, .ref p2]) = N3 at *
      have m13 := m1.trans (m2.trans m3)
      have eN3 := m13 _ _ eN
      refine ⟨F, _, _, rfl, rfl, eN3, ?_, ?_⟩
      · rw [List.length_map, hV.len, List.length_take]
        exact Nat.lt_of_le_of_lt (Nat.min_le_left _ _) (Nat.lt_of_lt_of_le (show i < 12 by omega) (show 12 ≤ sizeLine by decide))
      have kp : KeepL N3 (upd N3 F (.lst (vs.map V.ref ++ [V.ref u]))) := keep_put eN3
      have kb : ∀ {a : Addr} {b : Bed}, BedAt K C N3 a b → BedAt K C (upd N3 F (.lst (vs.map V.ref ++ [V.ref u]))) a b := fun {a b} ⟨x, y, r1, r2, r3⟩ => ⟨x, y, kp.tup r1, kp.sh r2, kp.sh r3⟩
      refine ⟨_, _, _, _, vs ++ [u], rfl, by rw [List.map_append]; exact upd_same, ?_, fun a o ea => ?_⟩
      · rw [List.take_succ_eq_append_getElem il, hb]
        exact (hV.mono fun _ _ _ _ r => kb (r.mono m13)).snoc (kb ⟨p1, p2, SqT.of eu, hp1.mono (m2.trans m3), hp2.mono m3⟩)
      · rw [upd_ne (ne_of_none ea hF)]
        exact m13 _ _ (sN _ _ ea)
    · rintro σ N ⟨v5, v6, v7, v8, vs, rfl, eN, hV, sN⟩
      rw [List.length_map, hA.len, List.take_length] at hV
      refine ⟨_, rfl, _, rfl, _, rfl, sl, _, rfl, .inl (sN.seq hus), fun l2 hl2 => ?_⟩
      have s3 : Same N (upd N l2 (.lst (us.map V.ref))) := same1 hl2
      have e3 : (upd N l2 (.lst (us.map V.ref)) : Hp) l2 = some (.lst (us.map V.ref)) := upd_same
      generalize upd N l2 (.lst (us.map V.ref)) = N3 at *
      intro x dx nx ndx nex
      have s4 : Same N3 (upd (upd N3 dx (.own x)) x (.ins CW dx [])) := made_same (C := CW) nx ndx (fun a _ => rfl)
      have s34 := s3.trans s4
      refine ⟨x, dx, F, l2, W, rfl, upd_same, ⟨vs, SqL.of (s34 _ _ eN), hV.mono fun _ _ _ _ r => r.mono s34⟩, ⟨us, SqL.of (s4 _ _ e3), hU.mono fun _ _ _ _ r => Same.tup (sN.trans s34) r⟩, ok.good, fun H' hw kp => ⟨rfl, ?_⟩⟩
      exact q H' x (fun a o ea => kp a o (ne_of_none (s3 _ _ (sN _ _ ea)) nx) ((sN.trans s34) _ _ ea)) hw
end
end K72

namespace K72
open PySem PySem.Spec PyProof.Rows L2
/-! ### depths, falls, shares -/
def spProdR (K : PySem.W.Frag) : Sp := fun vs H Q _ => ∃ (x y : Addr) (a b c d : Int), vs = [.ref x, .ref y] ∧ SqT K H x [.int a, .int b] ∧ SqT K H y [.int c, .int d] ∧ b ≠ 0 ∧ d ≠ 0 ∧ a.natAbs < 2 ^ 1500 ∧ b.natAbs < 2 ^ 1500 ∧ c.natAbs < 2 ^ 1500 ∧ d.natAbs < 2 ^ 1500 ∧
  ∀ r : Addr, H r = none → Q (.ref r) (upd H r (.tup (prV (((a * c : Int) : Rat) / ((b * d : Int) : Rat)))))
theorem eqv_nil (n : Int) (r : List Int) : PyData.eqv (.list ((n :: r).map PyData.int)) (.list []) = false := by
  simp [PyData.eqv, PyData.eqvAll]
def absQ (q : Rat) : Rat := if q < 0 then -q else q
theorem absQ_nn (q : Rat) : 0 ≤ absQ q := by
  unfold absQ
  by_cases h : q < 0
  · rw [if_pos h]
    grind
  · rw [if_neg h]
    exact Rat.not_lt.mp h
theorem absQ_pr (q : Rat) : [V.int ((q.num.natAbs : Nat) : Int), V.int ((q.den : Nat) : Int)] = prV (absQ q) := by
  unfold absQ prV
  by_cases h : q < 0
  · rw [if_pos h]
    have : ¬ 0 ≤ q.num := fun z => absurd (Rat.num_nonneg.mp z) (Rat.not_le.mpr h)
    rw [show ((q.num.natAbs : Nat) : Int) = -q.num by omega]
    rfl
  · rw [if_neg h]
    have : 0 ≤ q.num := Rat.num_nonneg.mpr (Rat.not_lt.mp h)
    rw [show ((q.num.natAbs : Nat) : Int) = q.num by omega]
theorem absQ_lim {M k : Nat} {q : Rat} (h : Lim M k q) : Lim M k (absQ q) := by
  unfold absQ
  by_cases c : q < 0
  · rw [if_pos c]
    exact h.neg
  · rw [if_neg c]
    exact h
theorem lim_mark {k : Nat} {q : Rat} (h : Lim 42 k q) (e : k + 12 ≤ 40) : Lim 105840 40 q := (h.mul (L := 2520) (j := 12) (by decide) (by decide)).up e
theorem lim_share {q : Rat} {S a : Nat} (h : Lim 42 13 q) (a1 : 1 ≤ a) (a9 : a ≤ 9) (hS : S ≤ 18) : Lim 105840 40 (((q.num * (S : Int) : Int) : Rat) / (((q.den : Nat) : Int) * (a : Int) : Int)) := by
  obtain ⟨n, e, l⟩ := h
  obtain ⟨c, hc⟩ : ∃ c, 2520 = a * c := by
    have : a = 1 ∨ a = 2 ∨ a = 3 ∨ a = 4 ∨ a = 5 ∨ a = 6 ∨ a = 7 ∨ a = 8 ∨ a = 9 := by omega
    rcases this with h | h | h | h | h | h | h | h | h <;> subst h
    · exact ⟨2520, rfl⟩
    · exact ⟨1260, rfl⟩
    · exact ⟨840, rfl⟩
    · exact ⟨630, rfl⟩
    · exact ⟨504, rfl⟩
    · exact ⟨420, rfl⟩
    · exact ⟨360, rfl⟩
    · exact ⟨315, rfl⟩
    · exact ⟨280, rfl⟩
  have cle : c ≤ 2520 := Nat.le_of_dvd (by decide) ⟨a, by rw [hc, Nat.mul_comm]⟩
  refine ⟨n * (S : Int) * (c : Int), ?_, ?_⟩
  · have na := icast_ne (show ((a : Nat) : Int) ≠ 0 by omega)
    have nd := icast_ne (show ((q.den : Nat) : Int) ≠ 0 from by have := den_pos q; omega)
    have nc := icast_ne (show ((c : Nat) : Int) ≠ 0 from by
      intro z
      have : c = 0 := by omega
      rw [this, Nat.mul_zero] at hc
      exact absurd hc (by decide))
    have fr := (rat_frac q).trans e
    rw [show (105840 : Nat) = 42 * (a * c) from by rw [← hc], Int.natCast_mul, Int.natCast_mul, Rat.intCast_mul, Rat.intCast_mul, Rat.intCast_mul, Rat.intCast_mul, Rat.intCast_mul, Rat.intCast_mul]
    have n42 := icast_ne (show ((42 : Nat) : Int) ≠ 0 by decide)
    generalize ((q.num : Int) : Rat) = x at *
    generalize (((q.den : Nat) : Int) : Rat) = y at *
    generalize (((42 : Nat) : Int) : Rat) = z at *
    generalize ((n : Int) : Rat) = m at *
    generalize ((a : Int) : Rat) = u at *
    generalize ((c : Int) : Rat) = v at *
    generalize ((S : Int) : Rat) = s at *
    have hx : x = m / z * y := by grind
    rw [hx]
    grind
  · rw [Int.natAbs_mul, Int.natAbs_mul, Int.natAbs_natCast, Int.natAbs_natCast]
    have h1 : n.natAbs * S ≤ 2 ^ 13 * 18 := Nat.mul_le_mul (Nat.le_of_lt l) hS
    exact Nat.lt_of_le_of_lt (Nat.mul_le_mul h1 cle) (by decide)
theorem sz_105840 {k : Nat} {q : Rat} (h : Lim 105840 k q) (e : k ≤ 1500) : Sz 1500 q := h.sz (by decide) (Nat.lt_of_lt_of_le (show 105840 < 2 ^ 17 by decide) (Nat.pow_le_pow_right (by decide) (by decide))) e
section
variable {P : Program} {w : World} {K : PySem.W.Frag} {mg : Str → Option Value} {base : Heap}
theorem ok_lprodR {f f1 : Addr} {fd fd1 : FuncData} (F : Fun K "_law_product" "_law_product" d_law_product f fd) (A1 : At P w K mg base CX0 1 "_law_lowered" ["one", "other"] spLowQ f1 fd1) : FnOk P w K mg base CX0 2 f fd ["one", "other"] (spProdR K) := by
  refine F.ok scLProd (fun vs H Q E h => ?_) (fun cdv A outer s H vs Q E hr h => ?_)
  · obtain ⟨_, _, _, _, _, _, rfl, _⟩ := h
    rfl
  · obtain ⟨x, y, a, b, c, d, rfl, hx, hy, nb, nd, la, lb, lc, ld, kq⟩ := h
    refine ⟨_, pss_one (ps_ret (pe_call A1.G hr rfl A1.m A1.k A1.b .nil pass0 (pa_cons (pe_op op_mulW (pe_ix ix_tup (pv 0) pe_int (fun _ _ => rfl)) (pe_ix ix_tup (pv 1) pe_int (fun _ _ => rfl)))
      (pa_cons (pe_op op_mulW (pe_ix ix_tup (pv 0) pe_int (fun _ _ => rfl)) (pe_ix ix_tup (pv 1) pe_int (fun _ _ => rfl))) pa_nil)))), ?_⟩
    refine ⟨_, rfl, x, _, _, _, rfl, rfl, hx, at_k (by decide) rfl, _, rfl, y, _, _, _, rfl, rfl, hy, at_k (by decide) rfl, _, _, rfl, rfl, wide_mul la lc (by decide) (by decide) (by decide), ?_⟩
    refine ⟨_, rfl, x, _, _, _, rfl, rfl, hx, at_k (by decide) rfl, _, rfl, y, _, _, _, rfl, rfl, hy, at_k (by decide) rfl, _, _, rfl, rfl, wide_mul lb ld (by decide) (by decide) (by decide), ?_⟩
    exact ⟨_, _, rfl, Int.mul_ne_zero nb nd, pow_le (mul_lt la lc) (by decide), pow_le (mul_lt lb ld) (by decide), fun r nr => kq r nr⟩
abbrev ldN : List Str := ["source", "world", "found", "start", "finish", "low", "high", "deep"]
theorem scLD : FnScope ldN ["source", "world"] (defScope d_law_depths) := ⟨rfl, rfl, rfl, by decide +kernel, rfl, by decide +kernel, by decide +kernel⟩
theorem ok_depthsL {f f1 : Addr} {fd fd1 : FuncData} (F : Fun K "_law_depths" "_law_depths" d_law_depths f fd) (htuple : mg "tuple" = none)
    (A1 : At P w K mg base CX0 2 "_law_next" ["source", "many"] spNext f1 fd1) : FnOk P w K mg base CX0 3 f fd ["source", "world"] (spDepthsL K) := by
  refine F.ok scLD (fun vs H Q E h => ?_) (fun cdv A outer s H vs Q E hr h => ?_)
  · obtain ⟨_, _, _, rfl, _⟩ := h
    rfl
  · obtain ⟨p, t0, W, rfl, hp, ⟨rl, sl, h0, ⟨ts, hts, hA⟩, _⟩, ok, q⟩ := h
    refine ⟨_, pss_cons (ps_set (i := 2) scLD.nd rfl (Or.inl rfl) (pe_lst pa_nil))
      (pss_cons (ps_for PassesOwn.never rfl (pi_list (pe_ix ix_tup (pv 1) pe_int (fun _ _ => rfl))) (pg_tup (by rfl) (pgs_cons (pg_name (i := 3) scLD.nd rfl (.inl rfl)) (pgs_cons (pg_name (i := 4) scLD.nd rfl (.inl rfl)) (pgs_cons (pg_name (i := 5) scLD.nd rfl (.inl rfl)) (pgs_cons (pg_name (i := 6) scLD.nd rfl (.inl rfl)) pgs_nil)))))
        (pss_cons (ps_set (i := 7) scLD.nd rfl (Or.inl rfl) (pe_ix ix_list (pe_lst (pa_cons pe_int (pa_cons pe_int (pa_cons (pe_op op_sub (pe_call A1.G hr rfl A1.m A1.k A1.b .nil pass0 (pa_cons (pv 0) (pa_cons pe_int pa_nil))) pe_int)
            (pa_cons (pe_op op_sub (pe_call A1.G hr rfl A1.m A1.k A1.b .nil pass0 (pa_cons (pv 0) (pa_cons (pe_op op_pow pe_int pe_int) pa_nil))) (pe_op op_pow pe_int pe_int)) pa_nil))))) (pe_call A1.G hr rfl A1.m A1.k A1.b .nil pass0 (pa_cons (pv 0) (pa_cons pe_int pa_nil))) (fun _ _ => rfl)))
        (pss_one (ps_expr (pe_bm PySem.F.plainAttrs_list PySem.F.slot_list_append PySem.F.type_list_append mt_append (pv 2) (pa_cons (pv 7) pa_nil))))))
      (pss_one (ps_ret (pe_callTy (cr_tup (K := K) rfl) (by rfl) htuple (by decide +kernel) (pa_cons (pv 2) pa_nil))))), ?_⟩
    have few := ok.rows.few
    refine ⟨(by show 0 ≤ sizeLine; decide), fun F hF => ?_⟩
    have nF := hp.ne hF
    have s0 : Same H (upd H F (.lst [])) := same1 hF
    have w0 : SrcAt (upd H F (.lst [])) p := hp.put nF
    have eF : (upd H F (.lst []) : Hp) F = some (.lst ([].map V.int)) := upd_same
    generalize upd H F (.lst []) = H0 at *
    refine ⟨_, rfl, t0, _, _, _, rfl, rfl, Same.tup s0 h0, at_k (by decide) rfl, rl, rfl, ⟨_, s0.seq hts⟩, ?_⟩
    refine for_list (K := K) (a := rl) (xs := ts.map V.ref) (fun i σ N => ∃ (v3 v4 v5 v6 v7 : Option V) (ds : List Int), σ = [some (.ref p), some (.ref t0), some (.ref F), v3, v4, v5, v6, v7] ∧ N F = some (.lst (ds.map V.int)) ∧ ds.length = i ∧ SrcAt N p ∧ But p H N) ⟨none, none, none, none, none, [], rfl, eF, rfl, w0, same_but s0⟩ ?_ ?_ ?_
    · rintro i σ N _ ⟨_, _, _, _, _, _, rfl, _, _, wN, bN⟩
      exact bN.seqR hp hts
    · rintro i x σ N hx ⟨v3, v4, v5, v6, v7, ds, rfl, eN, ln, wN, bN⟩
      rw [List.getElem?_map] at hx
      obtain ⟨t, ht, rfl⟩ := Option.map_eq_some_iff.mp hx
      have il : i < W.beds.length := by
        have := (List.getElem?_eq_some_iff.mp ht).1
        have := hA.len
        omega
      obtain ⟨x, y, q1, hx1, hy1⟩ := (bN.keep hp).row (hA.all i t _ ht (List.getElem?_eq_getElem il))
      refine ⟨t, _, rfl, q1, rfl, _, _, rfl, _, _, rfl, _, _, rfl, _, _, rfl, rfl, ?_⟩
      refine ⟨_, rfl, p, 7, rfl, wN, by decide, by decide, fun N1 a b1 w1 a0 a1 => ⟨_, _, rfl, rfl, ?_⟩⟩
      refine ⟨_, rfl, _, _, rfl, rfl, ⟨by decide, by decide, by decide⟩, p, _, rfl, w1, by decide, by decide, fun N2 b b2 w2 c0 c1 => ⟨_, _, rfl, rfl, ⟨by decide, by decide, by decide⟩, _, _, rfl, rfl, (by show 4 ≤ sizeLine; decide), fun l hl => ?_⟩⟩
      have nl := w2.ne hl
      generalize hgl : HO.lst [V.int 0, V.int 3, V.int (a - 3), V.int (b - 10 ^ (11 : Int).toNat)] = ol at *
      have s3 : Same N2 (upd N2 l ol) := same1 hl
      have w3 : SrcAt (upd N2 l ol) p := w2.put nl
      have el : (upd N2 l ol : Hp) l = some ol := upd_same
      generalize upd N2 l ol = N3 at *
      subst hgl
      refine ⟨_, rfl, p, 4, rfl, w3, by decide, by decide, fun N4 d b4 w4 d0 d1 => ?_⟩
      have el4 := b4 _ _ nl el
      obtain ⟨c, hc⟩ : ∃ c : Int, atI [V.int 0, V.int 3, V.int (a - 3), V.int (b - 10 ^ (11 : Int).toNat)] d = some (V.int c) := by
        have h : d = 0 ∨ d = 1 ∨ d = 2 ∨ d = 3 := by omega
        rcases h with h | h | h | h <;> rw [h]
        · exact ⟨0, at_k (by decide) rfl⟩
        · exact ⟨3, at_k (by decide) rfl⟩
        · exact ⟨_, at_k (by decide) rfl⟩
        · exact ⟨_, at_k (by decide) rfl⟩
      have bN4 := b1.trans (b2.trans ((same_but s3).trans b4))
      have eF4 := bN4 _ _ nF eN
      refine ⟨l, _, _, _, rfl, rfl, SqL.of el4, hc, ?_⟩
      refine ⟨_, rfl, .inl ⟨rfl, _, SqL.of eF4⟩, _, rfl, F, _, _, rfl, rfl, eF4, ?_, _, _, _, _, _, ds ++ [c], rfl, by rw [List.map_append]; exact upd_same, by rw [List.length_append, ln]; rfl, w4.put nF, fun u o nu eu => ?_⟩
      · rw [List.length_map, ln]
        exact Nat.lt_of_lt_of_le (show i < 12 by omega) (show 12 ≤ sizeLine by decide)
      · have := bN4 _ _ nu (bN _ _ nu eu)
        rw [upd_ne (ne_of_none eu hF)]
        exact this
    · rintro σ N ⟨v3, v4, v5, v6, v7, ds, rfl, eN, ln, wN, bN⟩
      rw [List.length_map, hA.len] at ln
      refine ⟨_, rfl, F, _, rfl, .inl ⟨SqL.of eN, fun u hu => ?_⟩⟩
      exact q _ u ds (bN.trans (same_but (same1 hu))) (wN.put (wN.ne hu)) upd_same ln
theorem scSh : FnScope ["told", "one"] ["told"] (defScope d_law_shares) := ⟨rfl, rfl, rfl, by decide +kernel, rfl, by decide +kernel, by decide +kernel⟩
theorem ok_sharesL {f fI C CN : Addr} {fd fdI : FuncData} (F : Fun K "_law_shares" "_law_shares" d_law_shares f fd) (T : Txt K mg C CN) (htuple : mg "tuple" = none)
    (M : Mk K C fI) (GI : FnOk P w K mg base (L2.CX P w) 2 fI fdI ["self", "top", "bottom"] (spInit C CN)) (bI : Binds K fdI ["self", "top", "bottom"] []) : FnOk P w K mg base CX0 4 f fd ["told"] (spSharesL K C) := by
  refine F.ok scSh (fun vs H Q E h => ?_) (fun cdv A outer s H vs Q E hr h => ?_)
  · obtain ⟨_, _, rfl, _⟩ := h
    rfl
  · obtain ⟨l, qs, rfl, ⟨ts, hts, hA⟩, sz, few, q⟩ := h
    refine ⟨_, pss_one (ps_ret (pe_callTy (cr_tup (K := K) rfl) (by rfl) htuple (by decide +kernel) (pa_cons
      (pe_lc (own := [("one", 1)]) (g := gName 1) (by rfl) scSh.nd (pi_list (pv 0)) (blkOk_by (own := [("one", 1)]) (N := ["told", "one"]) (sc := defScope d_law_shares) (by decide +kernel)) (fun _ _ _ _ _ => pg_name (i := 1) scSh.nd rfl (.inl rfl)) (fun _ _ _ _ _ => pts_nil)
        (fun _ _ _ _ _ => pe_make M GI hr rfl T.mgC bI .nil passL (pa_cons (pe_ix (show IxR _ (rIxT K) from ix_tup) (pv 1) pe_int (fun _ _ => rfl)) (pa_cons (pe_ix (show IxR _ (rIxT K) from ix_tup) (pv 1) pe_int (fun _ _ => rfl)) pa_nil)))) pa_nil))), ?_⟩
    refine ⟨_, rfl, l, rfl, ⟨_, hts⟩, fun D hD => ?_⟩
    refine lc_list (K := K) (a := l) (xs := ts.map V.ref) (fun i N => ∃ us : List Addr, N D = some (.lst (us.map V.ref)) ∧ ShQs C N us (qs.take i) ∧ Same H N) ⟨[], upd_same, .nil, same1 hD⟩ ?_ ?_ ?_
    · rintro i N _ ⟨_, _, _, sN⟩
      exact sN.seq hts
    · rintro i x N hx ⟨us, eD, hus, sN⟩
      rw [List.getElem?_map] at hx
      obtain ⟨t, ht, rfl⟩ := Option.map_eq_some_iff.mp hx
      have il : i < qs.length := by
        have := (List.getElem?_eq_some_iff.mp ht).1
        have := hA.len
        omega
      have hb : PairAt K N t qs[i] := PairAt.mono (hA.all i t _ ht (List.getElem?_eq_getElem il)) sN
      have s1 := sz _ (List.getElem_mem il)
      generalize hq : qs[i] = b at *
      refine ⟨rfl, _, rfl, t, _, _, _, rfl, rfl, hb, at_k (by decide) rfl, _, rfl, t, _, _, _, rfl, rfl, hb, at_k (by decide) rfl, fun p1 d1 np nd nex => ?_⟩
      refine ⟨p1, d1, _, _, rfl, upd_same, pow_le s1.1 (by decide), pow_le s1.2 (by decide), fun z => absurd z (by have := den_pos b; omega), fun _ N1 e1 ka => ⟨rfl, ?_⟩⟩
      have m1 : Same N N1 := made_same (C := C) np nd ka
      have hp1 : ShQ C N1 p1 b := shq_pr ⟨d1, e1⟩
      have eD2 := m1 _ _ eD
      refine ⟨_, eD2, ?_, us ++ [p1], by rw [List.map_append]; exact upd_same, ?_, fun a o ea => ?_⟩
      · rw [List.length_map, hus.len, List.length_take]
        exact Nat.lt_of_le_of_lt (Nat.min_le_left _ _) (Nat.lt_of_lt_of_le (show i < 100 by omega) (show 100 ≤ sizeLine by decide))
      · rw [List.take_succ_eq_append_getElem il, hq]
        exact All2.snoc ((ShQs.mono hus m1).put eD2) (hp1.put eD2)
      · rw [upd_ne (ne_of_none ea hD)]
        exact m1 _ _ (sN _ _ ea)
    · rintro N ⟨us, eD, hus, sN⟩
      rw [List.length_map, hA.len, List.take_length] at hus
      refine ⟨D, _, rfl, .inl ⟨SqL.of eD, fun u hu => ?_⟩⟩
      exact q _ u (sN.trans (same1 hu)) ⟨us, SqT.of upd_same, ShQs.mono hus (same1 hu)⟩
end
end K72

namespace K72
open PySem PySem.Spec PyProof.Rows L2
/-! ### what falls -/
theorem pr_0 : prV 0 = [V.int 0, V.int 1] := rfl
theorem lim_frac2 {n d M c k : Nat} {m e : Int} (he : e = (d : Int)) (hm : m.natAbs = n) (hc : M = d * c) (d0 : d ≠ 0) (c0 : c ≠ 0) (hk : n * c < 2 ^ k) : Lim M k ((m : Rat) / (e : Rat)) := by
  rw [he]
  exact lim_frac hm hc d0 c0 hk
section
variable {P : Program} {w : World} {K : PySem.W.Frag} {mg : Str → Option Value} {base : Heap}
abbrev faN : List Str := ["source", "world", "found", "place", "some", "mine", "k", "mark", "part", "one"]
theorem scFa : FnScope faN ["source", "world"] (defScope d_law_falls) := ⟨rfl, rfl, rfl, by decide +kernel, rfl, by decide +kernel, by decide +kernel⟩
theorem ok_falls {f f1 f2 f3 f4 C : Addr} {fd fd1 fd2 fd3 fd4 : FuncData} (F : Fun K "_law_falls" "_law_falls" d_law_falls f fd) (B : TxtB mg) (Y : TxtW mg C) (hrange : mg "range" = none) (hmax : mg "max" = none) (hsum : mg "sum" = none)
    (A1 : At P w K mg base CX0 2 "_law_next" ["source", "many"] spNext f1 fd1) (A2 : At P w K mg base CX0 1 "_law_lowered" ["one", "other"] spLowQ f2 fd2) (A3 : At P w K mg base CX0 3 "_law_pick" ["source", "some"] (spPick K) f3 fd3)
    (A4 : At P w K mg base CX0 2 "_law_product" ["one", "other"] (spProdR K) f4 fd4) : FnOk P w K mg base CX0 4 f fd ["source", "world"] (spFalls K) := by
  refine F.ok scFa (fun vs H Q E h => ?_) (fun cdv A outer s H vs Q E hr h => ?_)
  · obtain ⟨_, _, _, rfl, _⟩ := h
    rfl
  · obtain ⟨p, t0, W, rfl, hp, ⟨rl, sl, h0, ⟨ts, hts, hA⟩, ⟨us, hus, hU⟩⟩, ok, q⟩ := h
    have r1 : Room 1 _ := hr.mono (by decide)
    have r2 : Room 2 _ := hr.mono (by decide)
    refine ⟨_, pss_cons (ps_set (i := 2) scFa.nd rfl (Or.inl rfl) (pe_lst pa_nil))
      (pss_cons (ps_for PassesOwn.never rfl (pi_range1 (by rfl) hrange (pa_cons (pe_ix ix_tup (pv 1) pe_int (fun _ _ => rfl)) pa_nil)) (pg_name (i := 3) scFa.nd rfl (.inr rfl))
        (pss_cons (ps_set (i := 4) scFa.nd rfl (Or.inl rfl) (pe_lst (pa_cons (pe_tup (pa_cons pe_int (pa_cons pe_int pa_nil))) (pa_cons (pe_call A2.G r1 rfl A2.m A2.k A2.b .nil pass0 (pa_cons (pe_call A1.G r2 rfl A1.m A1.k A1.b .nil pass0 (pa_cons (pv 0) (pa_cons pe_int pa_nil)))
            (pa_cons (pe_op op_add pe_int (pe_call A1.G r2 rfl A1.m A1.k A1.b .nil pass0 (pa_cons (pv 0) (pa_cons pe_int pa_nil)))) pa_nil))) pa_nil))))
        (pss_cons (ps_setLc (i := 5) (own := [("k", 6)]) (g := gName 6) (by rfl) scFa.nd rfl rfl (sw_true rfl rfl rfl (by decide +kernel)) (pi_range1 (by rfl) hrange (pa_cons (pe_callB call_len_seq (by rfl) Y.len PySem.boot_len (pa_cons (pe_ix ix_tup (pv 1) pe_int (fun _ _ => rfl)) pa_nil)) pa_nil)) (blkOk_by (own := [("k", 6)]) (N := faN) (sc := defScope d_law_falls) (by decide +kernel))
            (fun _ _ _ _ _ => pg_name (i := 6) scFa.nd rfl (.inl rfl)) (fun _ _ _ _ _ => pts_one (pt_cmpR op_eq (pe_ix (show IxR _ (rIxT K) from ix_tup) (pe_ix (show IxR _ (rIxL K) from ix_list) (pe_ix (show IxR _ (rIxT K) from ix_tup) (pv 1) pe_int (fun _ _ => rfl)) (pv 6) (fun _ _ => rfl)) pe_int (fun _ _ => rfl)) (pv 3) (nomark _))) (fun _ _ _ _ _ => pv 6))
        (C8.pss_cut (ps_if (pt_cmpR (op_neD hr.units) (pv 5) (pe_lst pa_nil) (nomark _))
            (pss_cons (ps_set (i := 7) scFa.nd rfl (Or.inl rfl) (pe_ix ix_tup (pe_ix ix_list (pe_ix ix_tup (pv 1) pe_int (fun _ _ => rfl)) (pe_call A3.G hr rfl A3.m A3.k A3.b .nil pass0 (pa_cons (pv 0) (pa_cons (pv 5) pa_nil))) (fun _ _ => rfl)) (pe_op op_add pe_int (pe_call A1.G r2 rfl A1.m A1.k A1.b .nil pass0 (pa_cons (pv 0) (pa_cons pe_int pa_nil)))) (fun _ _ => rfl)))
            (pss_cons (ps_set (i := 8) scFa.nd rfl (Or.inl rfl) (pe_callB (call_max2 rfl) (by rfl) hmax (by decide +kernel) (pa_cons pe_int (pa_cons (pe_call A3.G hr rfl A3.m A3.k A3.b .nil pass0 (pa_cons (pv 0) (pa_cons (pe_ix ix_list (pe_ix ix_tup (pv 1) pe_int (fun _ _ => rfl)) (pv 3) (fun _ _ => rfl)) pa_nil))) pa_nil))))
            (pss_one (ps_set (i := 4) scFa.nd rfl (Or.inl rfl) (pe_op op_cat (pv 4) (pe_lst (pa_cons (pv 7) (pa_cons (pe_call A4.G r2 rfl A4.m A4.k A4.b .nil pass0 (pa_cons (pv 7) (pa_cons (pe_tup (pa_cons (pe_callB (cr_sumT rfl) (by rfl) hsum (by decide +kernel) (pa_cons (pe_ix ix_list (pe_ix ix_tup (pv 1) pe_int (fun _ _ => rfl)) (pv 3) (fun _ _ => rfl)) pa_nil)) (pa_cons (pv 8) pa_nil))) pa_nil))) pa_nil)))))))) pss_nil)
        (pss_cons (ps_set (i := 9) scFa.nd rfl (Or.inl rfl) (pe_call A3.G hr rfl A3.m A3.k A3.b .nil pass0 (pa_cons (pv 0) (pa_cons (pv 4) pa_nil))))
        (pss_one (ps_expr (pe_bm PySem.F.plainAttrs_list PySem.F.slot_list_append PySem.F.type_list_append mt_append (pv 2) (pa_cons (pe_tup (pa_cons (pe_callB call_abs (by rfl) B.abs (by decide +kernel) (pa_cons (pe_ix ix_tup (pv 9) pe_int (fun _ _ => rfl)) pa_nil)) (pa_cons (pe_ix ix_tup (pv 9) pe_int (fun _ _ => rfl)) pa_nil))) pa_nil)))))))))
      (pss_one (ps_ret (pv 2)))), ?_⟩
    have few := ok.rows.few
    have m8 := ok.m8
    refine ⟨(by show 0 ≤ sizeLine; decide), fun F hF => ?_⟩
    have nF := hp.ne hF
    have s0 : Same H (upd H F (.lst [])) := same1 hF
    have w0 : SrcAt (upd H F (.lst [])) p := hp.put nF
    have eF : (upd H F (.lst []) : Hp) F = some (.lst ([].map V.ref)) := upd_same
    generalize upd H F (.lst []) = H0 at *
    refine ⟨_, rfl, t0, _, _, _, rfl, rfl, Same.tup s0 h0, at_k (by decide) rfl, _, rfl, by omega, by omega, ?_⟩
    refine for_range (lo := 0) (n := W.many) (fun i σ N => ∃ (v3 v4 v5 v7 v8 v9 : Option V) (vs : List Addr) (qs : List Rat), σ = [some (.ref p), some (.ref t0), some (.ref F), v3, v4, v5, none, v7, v8, v9] ∧ N F = some (.lst (vs.map V.ref)) ∧ All2 (PairAt K N) vs qs ∧ qs.length = i ∧ (∀ x ∈ qs, Lim 105840 40 x ∧ 0 ≤ x) ∧ SrcAt N p ∧ But p H N)
      ⟨none, none, none, none, none, none, [], [], rfl, eF, .nil, rfl, (fun x h => nomatch h), w0, same_but s0⟩ ?_ ?_
    · rintro i σ N hi ⟨v3, v4, v5, v7, v8, v9, vs, qs, rfl, eN, hV, lq, lim, wN, bN⟩
      have st : ∀ {M : Hp}, But p H M → SqT K M t0 [.int (W.many : Int), .ref rl, .ref sl] ∧ SqL K M rl (ts.map V.ref) ∧ All2 (RowAt K M) ts W.beds ∧ SqL K M sl (us.map V.ref) ∧ All2 (PartsAt K M) us W.parts := fun {M} b =>
        ⟨(b.keep hp).tup h0, b.seqR hp hts, hA.mono fun _ _ _ _ r => (b.keep hp).row r, b.seqR hp hus, hU.mono fun _ _ _ _ r => (b.keep hp).tup r⟩
      refine ⟨(by show 2 ≤ sizeLine; decide), fun a ha => ?_⟩
      have s1 : Same N (upd N a (.tup [.int 0, .int 1])) := same1 ha
      have w1 := wN.same s1
      have ea : (upd N a (.tup [.int 0, .int 1]) : Hp) a = some (.tup (prV 0)) := upd_same
      generalize upd N a (.tup [.int 0, .int 1]) = N1 at *
      refine ⟨_, rfl, p, 40, rfl, w1, by decide, by decide, fun N2 d b2 w2 d0 d1 => ?_⟩
      refine ⟨_, rfl, p, 6, rfl, w2, by decide, by decide, fun N3 e b3 w3 e0 e1 => ⟨_, _, rfl, rfl, ?_⟩⟩
      have up : ∀ x : Nat, x < 2 ^ 7 → x < 2 ^ 4000 := fun x h => Nat.lt_of_lt_of_le h (Nat.pow_le_pow_right (by decide) (by decide))
      refine ⟨d, 1 + e, rfl, by omega, up _ (by omega), up _ (by omega), fun r hrr => ?_⟩
      have lr : Lim 105840 40 ((d : Rat) / ((1 + e : Int) : Rat)) := by
        have h : e = 0 ∨ e = 1 ∨ e = 2 ∨ e = 3 ∨ e = 4 ∨ e = 5 := by omega
        have big : ∀ c : Nat, c ≤ 105840 → d.natAbs * c < 2 ^ 40 := fun c hc => Nat.lt_of_le_of_lt (Nat.mul_le_mul (show d.natAbs ≤ 40 by omega) hc) (by decide)
        rcases h with h | h | h | h | h | h <;> subst h
        · exact lim_frac2 (d := 1) (c := 105840) rfl rfl rfl (by decide) (by decide) (big _ (by decide))
        · exact lim_frac2 (d := 2) (c := 52920) rfl rfl rfl (by decide) (by decide) (big _ (by decide))
        · exact lim_frac2 (d := 3) (c := 35280) rfl rfl rfl (by decide) (by decide) (big _ (by decide))
        · exact lim_frac2 (d := 4) (c := 26460) rfl rfl rfl (by decide) (by decide) (big _ (by decide))
        · exact lim_frac2 (d := 5) (c := 21168) rfl rfl rfl (by decide) (by decide) (big _ (by decide))
        · exact lim_frac2 (d := 6) (c := 17640) rfl rfl rfl (by decide) (by decide) (big _ (by decide))
      generalize (d : Rat) / ((1 + e : Int) : Rat) = xr at *
      have s4 : Same N3 (upd N3 r (.tup (prV xr))) := same1 hrr
      have w4 := w3.same s4
      have er : (upd N3 r (.tup (prV xr)) : Hp) r = some (.tup (prV xr)) := upd_same
      generalize upd N3 r (.tup (prV xr)) = N4 at *
      have k14 : KeepL N1 N4 := ((b2.keep w1).trans (b3.keep w2)).trans (keep_same s4)
      have ea4 := k14 _ _ ea (fun _ z => nomatch z)
      refine ⟨(by show 2 ≤ sizeLine; decide), fun L hL => ?_⟩
      have nL := w4.ne hL
      have s5 : Same N4 (upd N4 L (.lst [.ref a, .ref r])) := same1 hL
      have w5 := w4.same s5
      have eL : (upd N4 L (.lst [.ref a, .ref r]) : Hp) L = some (.lst ([a, r].map V.ref)) := upd_same
      generalize upd N4 L (.lst [.ref a, .ref r]) = N5 at *
      have ea5 := s5 _ _ ea4
      have er5 := s5 _ _ er
      have bN5 : But p N N5 := (same_but s1).trans (b2.trans (b3.trans (same_but (s4.trans s5))))
      have bH5 := bN.trans bN5
      obtain ⟨h05, ht5, hA5, hu5, hU5⟩ := st bH5
      have lts : ts.length = W.beds.length := hA.len
      refine ⟨_, rfl, t0, _, _, _, rfl, rfl, h05, at_k (by decide) rfl, rl, _, rfl, .inl ht5, _, rfl, by rw [List.length_map]; omega, by rw [List.length_map]; omega, fun D hD => ?_⟩
      have nD := w5.ne hD
      refine lc_range (lo := 0) (n := (((ts.map V.ref).length : Nat) : Int).toNat) (fun j M => ∃ ks : List Nat, M D = some (.lst (ks.map natV)) ∧ (∀ k ∈ ks, ∃ b, W.beds[k]? = some b ∧ b.s = i) ∧ ks.length ≤ j ∧ Same N5 M) ⟨[], upd_same, (fun k h => nomatch h), Nat.le_refl _, same1 hD⟩ ?_ ?_
      · rintro j M hj ⟨ks, eD, hks, lks, sM⟩
        have jt : j < ts.length := by
          have hj : j < (((ts.map V.ref).length : Nat) : Int).toNat := hj
          rw [Int.toNat_natCast, List.length_map] at hj
          exact hj
        have jl : j < W.beds.length := by omega
        obtain ⟨_, _, q1, _, _⟩ := RowAt.mono (hA5.all j ts[j] _ (List.getElem?_eq_getElem jt) (List.getElem?_eq_getElem jl)) sM
        refine ⟨rfl, _, rfl, t0, _, _, _, rfl, rfl, Same.tup sM h05, at_k (by decide) rfl, _, rfl, rl, _, _, .ref ts[j], rfl, (by rw [Int.zero_add]), sM.seq ht5, atI_nat (by rw [List.getElem?_map, List.getElem?_eq_getElem jt]; rfl), ts[j], _, _, _, rfl, rfl, q1, at_k (by decide) rfl, _, rfl, rfl, _, rfl, ?_⟩
        refine ite2 (fun h => ?_) (fun h => ⟨ks, eD, hks, by omega, sM⟩)
        have h : ((W.beds[j].s : Nat) : Int) = 0 + (i : Int) := V.int.inj (of_decide_eq_true h)
        refine ⟨_, rfl, _, eD, ?_, ks ++ [j], ?_, fun k hk => ?_, by rw [List.length_append]; exact Nat.succ_le_succ lks, fun u o eu => ?_⟩
        · rw [List.length_map]
          exact Nat.lt_of_le_of_lt lks (Nat.lt_of_lt_of_le (show j < 12 by omega) (show 12 ≤ sizeLine by decide))
        · rw [List.map_append, upd_same]
          show some (HO.lst (_ ++ [V.int (0 + (j : Int))])) = some (HO.lst (_ ++ [V.int ((j : Nat) : Int)]))
          rw [Int.zero_add]
        · rcases List.mem_append.mp hk with z | z
          · exact hks k z
          · rw [List.mem_singleton.mp z]
            exact ⟨_, List.getElem?_eq_getElem jl, by omega⟩
        · rw [upd_ne (ne_of_none eu hD)]
          exact sM _ _ eu
      · rintro M ⟨ks, eD, hks, lks, sM⟩
        rw [Int.toNat_natCast, List.length_map] at lks
        have wM := w5.same sM
        have bM := bH5.trans (same_but sM)
        have kNM : KeepL N M := (bN5.keep wN).trans (keep_same sM)
        have eF6 := sM _ _ (bN5 _ _ nF eN)
        have hV6 := hV.mono fun _ _ _ _ r => kNM.tup r
        have eLM := sM _ _ eL
        refine ⟨fun σ' G => ∃ (v5 v7 v8 : Option V) (S : Addr) (as : List Addr), σ' = [some (.ref p), some (.ref t0), some (.ref F), some (.int (0 + (i : Int))), some (.ref S), v5, none, v7, v8, v9] ∧ SrcAt G p ∧ But p H G ∧ G S = some (.lst (as.map V.ref)) ∧ S ≠ p ∧ 0 < as.length ∧ as.length ≤ 4 ∧ (∀ a ∈ as, ∃ x, PairAt K G a x ∧ Lim 105840 40 x) ∧ G F = some (.lst (vs.map V.ref)) ∧ All2 (PairAt K G) vs qs, ?_, ?_⟩
        · refine ⟨_, rfl, (by show 0 ≤ sizeLine; decide), fun e hE => ?_⟩
          have s6 : Same M (upd M e (.lst [])) := same1 hE
          have e6 : (upd M e (.lst []) : Hp) e = some (.lst []) := upd_same
          generalize upd M e (.lst []) = M1 at *
          have s16 := sM.trans s6
          have eD1 := s6 _ _ eD
          rw [natV_map] at eD1
          refine ⟨_, _, .lst (SqL.of eD1) (dps_ints _), .lst (SqL.of e6) .nil, PySem.W.shaped_ints _, PySem.W.shaped_ints [], ?_⟩
          rw [← natV_map] at eD1
          have two : ∀ a' ∈ [a, r], ∃ x, PairAt K M1 a' x ∧ Lim 105840 40 x := fun a' h => by
            rcases List.mem_cons.mp h with z | z
            · rw [z]
              exact ⟨0, SqT.of (s16 _ _ ea5), lim_zero⟩
            · rw [List.mem_singleton.mp z]
              exact ⟨xr, SqT.of (s16 _ _ er5), lr⟩
          have w6 := wM.same s6
          have bM1 := bM.trans (same_but s6)
          have hV7 := hV6.mono fun _ _ _ _ r => PairAt.mono r s6
          match hk : ks, eD1 with
          | [], _ =>
            refine ⟨false, rfl, iteF ?_⟩
            exact ⟨_, _, _, L, [a, r], rfl, w6, bM1, s6 _ _ eLM, nL, Nat.succ_pos _, (show 2 ≤ 4 by decide), two, s6 _ _ eF6, hV7⟩
          | k0 :: kr, eD1 =>
            rw [List.map_cons, eqv_nil]
            refine ⟨true, rfl, iteT ?_⟩
            obtain ⟨h06, ht6, hA6, hu6, hU6⟩ := st bM1
            have nk : ((k0 :: kr).map natV).length < 1000 := by
              rw [List.length_map]
              omega
            refine ⟨_, rfl, t0, _, _, _, rfl, rfl, h06, at_k (by decide) rfl, _, rfl, _, rfl, p, D, false, _, rfl, w6, SqL.of eD1, fun G b => b.seqN w6 (SqL.of eD1) nD, by rw [List.length_map]; exact Nat.succ_pos _, nk, fun M2 x b7 w7 hx => ?_⟩
            obtain ⟨k, hkm, rfl⟩ := List.mem_map.mp hx
            obtain ⟨bd, hbd, hbs⟩ := hks k hkm
            have kl := (List.getElem?_eq_some_iff.mp hbd).1
            have kt : k < ts.length := by omega
            have bM2 := bM1.trans b7
            obtain ⟨h07, ht7, hA7, hu7, hU7⟩ := st bM2
            refine ⟨rl, _, _, .ref ts[k], rfl, rfl, ht7, atI_nat (by rw [List.getElem?_map, List.getElem?_eq_getElem kt]; rfl), ?_⟩
            refine ⟨_, rfl, p, 2, rfl, w7, by decide, by decide, fun M3 f b8 w8 f0 f1 => ⟨_, _, rfl, rfl, ?_⟩⟩
            have bM3 := bM2.trans b8
            obtain ⟨h08, ht8, hA8, hu8, hU8⟩ := st bM3
            obtain ⟨mx, my, qm, qx, qy⟩ := hA8.all k ts[k] bd (List.getElem?_eq_getElem kt) hbd
            have okb := ok.rows.bed bd (List.mem_of_getElem? hbd)
            obtain ⟨mp, mq, em, pm, lm⟩ : ∃ (mp : Addr) (mq : Rat), atI [V.int (bd.s : Int), V.int (bd.e : Int), V.ref mx, V.ref my] (2 + f) = some (V.ref mp) ∧ PairAt K M3 mp mq ∧ Lim 42 13 mq := by
              have h : f = 0 ∨ f = 1 := by omega
              rcases h with h | h <;> rw [h]
              · exact ⟨mx, bd.lo, at_k (by decide) rfl, qx, okb.lo.up (by decide)⟩
              · exact ⟨my, bd.hi, at_k (by decide) rfl, qy, okb.hi⟩
            refine ⟨ts[k], _, _, _, rfl, rfl, qm, em, ?_⟩
            have iu : i < us.length := by
              have := hU.len
              have := ok.plen
              omega
            have ip : i < W.parts.length := by
              have := ok.plen
              omega
            have gp := ok.part i _ (List.getElem?_eq_getElem ip)
            have cpos : 0 < (starts W).count i := List.count_pos_iff.mpr (List.mem_map.mpr ⟨bd, List.mem_of_getElem? hbd, hbs⟩)
            have gs : ∀ a ∈ W.parts[i], 1 ≤ W.parts[i].sum ∧ W.parts[i].sum ≤ 18 ∧ a ≤ W.parts[i].sum := fun a ha => parts_sum ok.good rfl gp ha
            have lpos : 0 < W.parts[i].length := by rw [gp.len]; exact cpos
            have s18 : W.parts[i].sum ≤ 18 := (gs _ (List.getElem_mem lpos)).2.1
            have l9 := gp.le
            have lfew := gp.few
            have hP8 : PartsAt K M3 us[i] W.parts[i] := hU8.all i _ _ (List.getElem?_eq_getElem iu) (List.getElem?_eq_getElem ip)
            generalize W.parts[i] = ps at *
            refine ⟨_, rfl, _, rfl, t0, _, _, _, rfl, rfl, h08, at_k (by decide) rfl, _, rfl, sl, _, _, .ref us[i], rfl, (by rw [Int.zero_add]), hu8, atI_nat (by rw [List.getElem?_map, List.getElem?_eq_getElem iu]; rfl), p, us[i], true, ps.map natV, rfl, w8, hP8, fun G b => (b.keep w8).tup hP8, by rw [List.length_map]; exact lpos, by rw [List.length_map]; omega, fun M4 x b9 w9 hx => ?_⟩
            obtain ⟨pa, hpa, rfl⟩ := List.mem_map.mp hx
            have pa9 := l9 pa hpa
            obtain ⟨pt, ept, pt1, pt9⟩ : ∃ pt : Nat, (if ((pa : Nat) : Int) > 1 then ((pa : Nat) : Int) else 1) = ((pt : Nat) : Int) ∧ 1 ≤ pt ∧ pt ≤ 9 := by
              by_cases c : ((pa : Nat) : Int) > 1
              · rw [if_pos c]
                exact ⟨pa, rfl, by omega, pa9⟩
              · rw [if_neg c]
                exact ⟨1, rfl, by decide, by decide⟩
            refine ⟨_, _, rfl, ?_⟩
            show gName 8 (V.int (if ((pa : Nat) : Int) > 1 then ((pa : Nat) : Int) else 1)) _ M4 _
            rw [ept]
            have bM4 := bM3.trans b9
            obtain ⟨h09, ht9, hA9, hu9, hU9⟩ := st bM4
            have hP9 := (b9.keep w8).tup hP8
            have pm9 := (b9.keep w8).tup pm
            refine ⟨_, rfl, _, rfl, _, rfl, _, rfl, t0, _, _, _, rfl, rfl, h09, at_k (by decide) rfl, _, rfl, sl, _, _, .ref us[i], rfl, (by rw [Int.zero_add]), hu9, atI_nat (by rw [List.getElem?_map, List.getElem?_eq_getElem iu]; rfl), us[i], ps.map (fun n : Nat => (n : Int)), rfl, (by rw [← natV_map]; exact hP9), ?_⟩
            rw [sum_cast]
            refine ⟨_, rfl, (by show 2 ≤ sizeLine; decide), fun z hz => ?_⟩
            have t1 : Same M4 (upd M4 z (.tup [.int ((ps.sum : Nat) : Int), .int ((pt : Nat) : Int)])) := same1 hz
            have ez : (upd M4 z (.tup [.int ((ps.sum : Nat) : Int), .int ((pt : Nat) : Int)]) : Hp) z = some (.tup [.int ((ps.sum : Nat) : Int), .int ((pt : Nat) : Int)]) := upd_same
            generalize upd M4 z (.tup [.int ((ps.sum : Nat) : Int), .int ((pt : Nat) : Int)]) = M5 at *
            have sm := lim_sz42 lm (by decide)
            refine ⟨mp, z, mq.num, ((mq.den : Nat) : Int), ((ps.sum : Nat) : Int), ((pt : Nat) : Int), rfl, Same.tup t1 pm9, SqT.of ez, by have := den_pos mq; omega, by omega, sm.1, sm.2, lt_18 (by omega) (by omega), lt_18 (by omega) (by omega), fun u hu => ?_⟩
            have lsh := lim_share lm pt1 pt9 s18
            generalize (((mq.num * ((ps.sum : Nat) : Int) : Int) : Rat) / ((((mq.den : Nat) : Int) * ((pt : Nat) : Int) : Int) : Rat)) = sx at *
            have t2 : Same M5 (upd M5 u (.tup (prV sx))) := same1 hu
            have eu : (upd M5 u (.tup (prV sx)) : Hp) u = some (.tup (prV sx)) := upd_same
            generalize upd M5 u (.tup (prV sx)) = M6 at *
            refine ⟨(by show 2 ≤ sizeLine; decide), fun L2 hL2 => ?_⟩
            have t3 : Same M6 (upd M6 L2 (.lst [.ref mp, .ref u])) := same1 hL2
            have eL2 : (upd M6 L2 (.lst [.ref mp, .ref u]) : Hp) L2 = some (.lst [.ref mp, .ref u]) := upd_same
            generalize upd M6 L2 (.lst [.ref mp, .ref u]) = M7 at *
            have t13 := t1.trans (t2.trans t3)
            have b14 : But p M1 M4 := b7.trans (b8.trans b9)
            have eL7 := t13 _ _ (b14 _ _ nL (s6 _ _ eLM))
            refine ⟨L, L2, _, _, rfl, rfl, eL7, eL2, (by show 4 ≤ sizeLine; decide), fun S hS => ?_⟩
            have t4 : Same M7 (upd M7 S (.lst ([a, r].map V.ref ++ [.ref mp, .ref u]))) := same1 hS
            have t14 := t13.trans t4
            have w10 := w9.same t14
            have k1 : KeepL M1 (upd M7 S (.lst ([a, r].map V.ref ++ [.ref mp, .ref u]))) := (b14.keep w6).trans (keep_same t14)
            refine ⟨_, _, _, S, [a, r, mp, u], rfl, w10, bM4.trans (same_but t14), upd_same, (w9.same t13).ne hS, Nat.succ_pos _, (show 4 ≤ 4 by decide), fun a' h => ?_, t14 _ _ (b14 _ _ nF (s6 _ _ eF6)), hV7.mono fun _ _ _ _ r => k1.tup r⟩
            rcases List.mem_cons.mp h with z1 | h
            · rw [z1]
              obtain ⟨x, p1, p2⟩ := two a (by simp)
              exact ⟨x, k1.tup p1, p2⟩
            rcases List.mem_cons.mp h with z1 | h
            · rw [z1]
              obtain ⟨x, p1, p2⟩ := two r (by simp)
              exact ⟨x, k1.tup p1, p2⟩
            rcases List.mem_cons.mp h with z1 | h
            · rw [z1]
              exact ⟨mq, Same.tup t14 pm9, lim_mark lm (by decide)⟩
            · rw [List.mem_singleton.mp h]
              exact ⟨sx, SqT.of ((t3.trans t4) _ _ eu), lsh⟩
        · rintro σ' G ⟨v5, v7, v8, S, as, rfl, wG, bG, eS, nS, a0, a4, hal, eFG, hVG⟩
          refine ⟨_, rfl, _, rfl, p, S, false, _, rfl, wG, SqL.of eS, fun G' b => b.seqR wG (SqL.of eS), by rw [List.length_map]; exact a0, by rw [List.length_map]; omega, fun G1 x b1 w1 hx => ?_⟩
          obtain ⟨c, hc, rfl⟩ := List.mem_map.mp hx
          obtain ⟨xc, pc, lc⟩ := hal c hc
          have pc1 := (b1.keep wG).tup pc
          have eF1 := b1 _ _ nF eFG
          refine ⟨_, rfl, .inl ⟨rfl, _, SqL.of eF1⟩, _, rfl, c, _, _, _, rfl, rfl, pc1, at_k (by decide) rfl, _, rfl, _, rfl, c, _, _, _, rfl, rfl, pc1, at_k (by decide) rfl, (by show 2 ≤ sizeLine; decide), fun z hz => ?_⟩
          have ez : (upd G1 z (.tup [V.int (if xc.num < 0 then -xc.num else xc.num), V.int ((xc.den : Nat) : Int)]) : Hp) z = some (.tup (prV (absQ xc))) := by
            rw [upd_same, ← absQ_pr, absV]
          have t1 : Same G1 (upd G1 z (.tup [V.int (if xc.num < 0 then -xc.num else xc.num), V.int ((xc.den : Nat) : Int)])) := same1 hz
          generalize upd G1 z (.tup [V.int (if xc.num < 0 then -xc.num else xc.num), V.int ((xc.den : Nat) : Int)]) = G2 at *
          have eF2 := t1 _ _ eF1
          have k3 : KeepL G2 (upd G2 F (.lst (vs.map V.ref ++ [V.ref z]))) := keep_put eF2
          have kG3 : KeepL G (upd G2 F (.lst (vs.map V.ref ++ [V.ref z]))) := ((b1.keep wG).trans (keep_same t1)).trans k3
          refine ⟨F, _, _, rfl, rfl, eF2, ?_, _, _, _, _, _, _, vs ++ [z], qs ++ [absQ xc], rfl, by rw [List.map_append]; exact upd_same, (hVG.mono fun _ _ _ _ r => kG3.tup r).snoc (k3.tup (SqT.of ez)), by rw [List.length_append, lq]; rfl, fun x hx => ?_, (w1.same t1).put nF, fun a' o na ea => ?_⟩
          · rw [List.length_map, hV.len, lq]
            exact Nat.lt_of_lt_of_le (show i < 12 by omega) (show 12 ≤ sizeLine by decide)
          · rcases List.mem_append.mp hx with z1 | z1
            · exact lim x z1
            · rw [List.mem_singleton.mp z1]
              exact ⟨absQ_lim lc, absQ_nn xc⟩
          · have := t1 _ _ (b1 _ _ na (bG _ _ na ea))
            rw [upd_ne (ne_of_none ea hF)]
            exact this
    · rintro σ N ⟨v3, v4, v5, v7, v8, v9, vs, qs, rfl, eN, hV, lq, lim, wN, bN⟩
      exact ⟨_, rfl, q N F qs bN wN ⟨vs, SqL.of eN, hV⟩ ⟨lq, fun x hx => (lim x hx).1, fun x hx => (lim x hx).2, by decide, Nat.lt_of_lt_of_le (show 105840 < 2 ^ 17 by decide) (Nat.pow_le_pow_right (by decide) (by decide)), by decide⟩⟩
end
end K72

namespace K72
open PySem PySem.Spec PyProof.Rows L2
/-! ### what the waters of a day are told by -/
def gQ (l : List Rat) (i : Nat) : Rat := (l[i]?).getD 0
def sumN (n : Nat) (f : Nat → Rat) : Rat := ((List.range n).map f).sum
def eB (W : WebV) (k : Nat) : Nat := ((W.beds[k]?).map Bed.e).getD 0
def sB (W : WebV) (k : Nat) : Nat := ((W.beds[k]?).map Bed.s).getD 0
theorem sumQ_app (l m : List Rat) : (l ++ m).sum = l.sum + m.sum := by
  induction l with
  | nil => rw [List.nil_append, List.sum_nil, Rat.zero_add]
  | cons a r ih => rw [List.cons_append, List.sum_cons, List.sum_cons, ih, Rat.add_assoc]
theorem sumQ_one (a : Rat) : [a].sum = a := by
  rw [List.sum_cons, List.sum_nil, Rat.add_zero]
theorem sumN_zero (f : Nat → Rat) : sumN 0 f = 0 := rfl
theorem sumN_succ (n : Nat) (f : Nat → Rat) : sumN (n + 1) f = sumN n f + f n := by
  unfold sumN
  rw [List.range_succ, List.map_append, sumQ_app, List.map_cons, List.map_nil, sumQ_one]
theorem sumN_congr {n : Nat} {f g : Nat → Rat} (h : ∀ k, k < n → f k = g k) : sumN n f = sumN n g := by
  unfold sumN
  rw [List.map_congr_left fun k hk => h k (List.mem_range.mp hk)]
theorem sumN_more {f : Nat → Rat} {m : Nat} : ∀ {n : Nat}, m ≤ n → (∀ k, m ≤ k → k < n → f k = 0) → sumN n f = sumN m f
  | 0, h, _ => by
    have : m = 0 := by omega
    rw [this]
  | n + 1, h, z => by
    by_cases c : m = n + 1
    · rw [c]
    · rw [sumN_succ, z n (by omega) (by omega), Rat.add_zero]
      exact sumN_more (by omega) fun k h1 h2 => z k h1 (by omega)
theorem sumN_at {f g : Nat → Rat} {v : Rat} {k0 : Nat} : ∀ {n : Nat}, k0 < n → (∀ k, k < n → k ≠ k0 → g k = f k) → g k0 = f k0 + v → sumN n g = sumN n f + v
  | 0, h, _, _ => by omega
  | n + 1, h, e, e0 => by
    rw [sumN_succ, sumN_succ]
    by_cases c : k0 = n
    · subst c
      rw [e0, sumN_congr (f := g) (g := f) fun k hk => e k (by omega) (by omega)]
      grind
    · rw [sumN_at (n := n) (by omega) (fun k h1 h2 => e k (by omega) h2) e0, e n (by omega) (fun z => c z.symm)]
      grind
theorem into_sum (W : WebV) (bears : List Rat) (p : Nat) (h : bears.length ≤ W.beds.length) : (intoV W.beds bears p).sum = sumN bears.length fun k => if eB W k = p then gQ bears k else 0 := by
  have step : ∀ i, i ≤ bears.length → ((((bears.zip W.beds).take i).filter fun x => decide (x.2.e = p)).map Prod.fst).sum = sumN i fun k => if eB W k = p then gQ bears k else 0 := by
    intro i
    induction i with
    | zero => intro _; rfl
    | succ i ih =>
      intro hi
      have il : i < bears.length := hi
      have ib : i < W.beds.length := by omega
      have iz : i < (bears.zip W.beds).length := by rw [List.length_zip]; omega
      rw [into_take iz, sumQ_app, ih (by omega), sumN_succ, List.getElem_zip]
      have e1 : eB W i = W.beds[i].e := by
        unfold eB
        rw [List.getElem?_eq_getElem ib]
        rfl
      have e2 : gQ bears i = bears[i] := by
        unfold gQ
        rw [List.getElem?_eq_getElem il]
        rfl
      rw [e1, e2]
      by_cases c : W.beds[i].e = p
      · rw [if_pos c, if_pos c, sumQ_one]
      · rw [if_neg c, if_neg c, List.sum_nil]
  have := step bears.length (Nat.le_refl _)
  rw [List.take_of_length_le (by rw [List.length_zip]; omega)] at this
  exact this
/-- what is told of a place stays -/
theorem flow_pre {W : WebV} (leads : List Bool) (rain : List Rat) : ∀ {p q : Nat}, p ≤ q → (∃ l, (flowV W leads rain q).1 = (flowV W leads rain p).1 ++ l) ∧ ∃ l, (flowV W leads rain q).2 = (flowV W leads rain p).2 ++ l
  | p, 0, h => by
    have : p = 0 := by omega
    subst this
    exact ⟨⟨[], rfl⟩, ⟨[], rfl⟩⟩
  | p, q + 1, h => by
    by_cases c : p = q + 1
    · subst c
      exact ⟨⟨[], (List.append_nil _).symm⟩, ⟨[], (List.append_nil _).symm⟩⟩
    · obtain ⟨⟨l, e1⟩, ⟨m, e2⟩⟩ := flow_pre (W := W) leads rain (p := p) (q := q) (by omega)
      refine ⟨⟨l ++ [(amL W rain (flowV W leads rain q).2 q).sum], ?_⟩, ⟨m ++ bornV ((W.parts[q]?).getD []) (amL W rain (flowV W leads rain q).2 q).sum ((leads[q]?).getD true), ?_⟩⟩
      · show (flowV W leads rain q).1 ++ _ = _
        rw [e1, List.append_assoc]
      · show (flowV W leads rain q).2 ++ _ = _
        rw [e2, List.append_assoc]
theorem gQ_app1 {l m : List Rat} {i : Nat} (h : i < l.length) : gQ (l ++ m) i = gQ l i := by
  unfold gQ
  rw [List.getElem?_append_left h]
theorem gQ_app2 {l m : List Rat} {i : Nat} : gQ (l ++ m) (l.length + i) = gQ m i := by
  unfold gQ
  rw [List.getElem?_append_right (by omega), show l.length + i - l.length = i from by omega]
def partsAt (W : WebV) (p : Nat) : List Nat := (W.parts[p]?).getD []
def leadAt (leads : List Bool) (p : Nat) : Bool := (leads[p]?).getD true
/-- the waters of places and what beds bear, by which beds are first -/
structure IsFlow (W : WebV) (leads : List Bool) (rain ws bs : List Rat) : Prop where
  lw : ws.length = W.many
  lb : bs.length = W.beds.length
  water : ∀ p, p < W.many → gQ ws p = gQ rain p + sumN W.beds.length fun k => if eB W k = p then gQ bs k else 0
  bear : ∀ p r, p < W.many → r < (starts W).count p → gQ bs (cntB (starts W) p + r) = gQ (bornV (partsAt W p) (gQ ws p) (leadAt leads p)) r
theorem sB_at {W : WebV} {k : Nat} (h : k < W.beds.length) : (starts W)[k]? = some (sB W k) ∧ W.beds[k]? = some W.beds[k] ∧ sB W k = W.beds[k].s ∧ eB W k = W.beds[k].e := by
  have e := List.getElem?_eq_getElem h
  unfold starts sB eB
  rw [List.getElem?_map, e]
  exact ⟨rfl, rfl, rfl, rfl⟩
theorem sB_lt {W : WebV} (g : GoodWeb W) {k : Nat} (h : k < W.beds.length) : sB W k < eB W k ∧ eB W k < W.many := by
  obtain ⟨_, _, e1, e2⟩ := sB_at h
  have gb := g.bed _ (List.getElem_mem h)
  rw [e1, e2]
  exact ⟨gb.up, gb.le⟩
theorem sB_cnt {W : WebV} (g : GoodWeb W) {k p : Nat} (h : k < W.beds.length) : k < cntB (starts W) p ↔ sB W k < p := cntB_lt g.sorted (sB_at h).1
/-- a bed is one of its place's -/
theorem sB_block {W : WebV} (g : GoodWeb W) {k : Nat} (h : k < W.beds.length) : ∃ r, k = cntB (starts W) (sB W k) + r ∧ r < (starts W).count (sB W k) := by
  have a := sB_cnt g h (p := sB W k)
  have b := sB_cnt g h (p := sB W k + 1)
  rw [cntB_succ] at b
  exact ⟨k - cntB (starts W) (sB W k), by omega, by omega⟩
theorem block_sB {W : WebV} (g : GoodWeb W) {p r : Nat} (h : r < (starts W).count p) : cntB (starts W) p + r < W.beds.length ∧ sB W (cntB (starts W) p + r) = p := by
  have l := cntB_le (starts W) (p + 1)
  rw [cntB_succ, starts_len] at l
  have kl : cntB (starts W) p + r < W.beds.length := by omega
  have a := sB_cnt g kl (p := p)
  have b := sB_cnt g kl (p := p + 1)
  rw [cntB_succ] at b
  exact ⟨kl, by omega⟩
theorem flow_is {W : WebV} (g : GoodWeb W) (leads : List Bool) (rain : List Rat) : IsFlow W leads rain (flowV W leads rain W.many).1 (flowV W leads rain W.many).2 := by
  have wat : ∀ p, p < W.many → gQ (flowV W leads rain W.many).1 p = (amL W rain (flowV W leads rain p).2 p).sum := fun p hp => by
    obtain ⟨⟨l, e⟩, _⟩ := flow_pre (W := W) leads rain (p := p + 1) (q := W.many) (by omega)
    rw [e]
    have l1 := flow_len1 W leads rain p
    rw [gQ_app1 (by rw [flow_len1]; omega)]
    show gQ ((flowV W leads rain p).1 ++ [_]) p = _
    have := gQ_app2 (l := (flowV W leads rain p).1) (m := [(amL W rain (flowV W leads rain p).2 p).sum]) (i := 0)
    rw [l1, Nat.add_zero] at this
    rw [this]
    rfl
  refine ⟨flow_len1 .., flow_all g leads rain, fun p hp => ?_, fun p r hp hr => ?_⟩
  · rw [wat p hp]
    show ((rain[p]?).getD 0 :: intoV W.beds (flowV W leads rain p).2 p).sum = _
    have l2 := flow_len2 g leads rain p (by omega)
    have le := cntB_le (starts W) p
    rw [starts_len] at le
    rw [List.sum_cons, into_sum W _ p (by rw [l2]; exact le), l2]
    show gQ rain p + _ = _
    congr 1
    obtain ⟨_, ⟨l, e⟩⟩ := flow_pre (W := W) leads rain (p := p) (q := W.many) (by omega)
    rw [sumN_more (m := cntB (starts W) p) (n := W.beds.length) (f := fun k => if eB W k = p then gQ (flowV W leads rain W.many).2 k else 0) le fun k h1 h2 => ?_]
    · refine sumN_congr fun k hk => ?_
      rw [e, gQ_app1 (by rw [l2]; exact hk)]
    · have a := sB_cnt g h2 (p := p)
      have b := (sB_lt g h2).1
      rw [if_neg (by omega)]
  · obtain ⟨_, ⟨l, e⟩⟩ := flow_pre (W := W) leads rain (p := p + 1) (q := W.many) (by omega)
    have l2 := flow_len2 g leads rain p (by omega)
    have l3 := flow_len2 g leads rain (p + 1) (by omega)
    rw [cntB_succ] at l3
    rw [wat p hp, e, gQ_app1 (by rw [l3]; omega)]
    show gQ ((flowV W leads rain p).2 ++ bornV _ _ _) _ = _
    rw [← l2, gQ_app2]
    rfl
theorem gQ_ext {l m : List Rat} (h : l.length = m.length) (e : ∀ i, i < l.length → gQ l i = gQ m i) : l = m := by
  refine List.ext_getElem h fun i h1 h2 => ?_
  have := e i h1
  unfold gQ at this
  rw [List.getElem?_eq_getElem h1, List.getElem?_eq_getElem h2] at this
  exact this
/-- they are told by this alone -/
theorem flow_one {W : WebV} (g : GoodWeb W) {leads : List Bool} {rain ws bs ws' bs' : List Rat} (h : IsFlow W leads rain ws bs) (h' : IsFlow W leads rain ws' bs') : ws = ws' ∧ bs = bs' := by
  have both : ∀ p, p ≤ W.many → (∀ q, q < p → gQ ws q = gQ ws' q) ∧ ∀ k, k < W.beds.length → sB W k < p → gQ bs k = gQ bs' k := by
    intro p
    induction p with
    | zero => exact fun _ => ⟨fun q hq => by omega, fun k _ hk => by omega⟩
    | succ p ih =>
      intro hp
      obtain ⟨i1, i2⟩ := ih (by omega)
      have wp : gQ ws p = gQ ws' p := by
        rw [h.water p (by omega), h'.water p (by omega)]
        congr 1
        refine sumN_congr fun k hk => ?_
        by_cases c : eB W k = p
        · rw [if_pos c, if_pos c]
          have := (sB_lt g hk).1
          exact i2 k hk (by omega)
        · rw [if_neg c, if_neg c]
      refine ⟨fun q hq => ?_, fun k hk hs => ?_⟩
      · by_cases c : q = p
        · rw [c]
          exact wp
        · exact i1 q (by omega)
      · by_cases c : sB W k = p
        · obtain ⟨r, e, hr⟩ := sB_block g hk
          rw [c] at e hr
          rw [e, h.bear p r (by omega) hr, h'.bear p r (by omega) hr, wp]
        · exact i2 k hk (by omega)
  obtain ⟨b1, b2⟩ := both W.many (Nat.le_refl _)
  exact ⟨gQ_ext (by rw [h.lw, h'.lw]) fun i hi => b1 i (by rw [h.lw] at hi; exact hi), gQ_ext (by rw [h.lb, h'.lb]) fun i hi => b2 i (by rw [h.lb] at hi; exact hi) (by
    rw [h.lb] at hi
    have := sB_lt g hi
    omega)⟩
/-! the beds of a place stand one behind the other -/
theorem range_cut {n c d : Nat} (h1 : c ≤ d) (h2 : d ≤ n) : (List.range n).filter (fun k => decide (c ≤ k ∧ k < d)) = List.range' c (d - c) := by
  induction n with
  | zero =>
    have : d - c = 0 := by omega
    rw [this]
    rfl
  | succ n ih =>
    rw [List.range_succ, List.filter_append]
    by_cases e : d = n + 1
    · subst e
      have pre : ∀ m, m ≤ n → (List.range m).filter (fun k => decide (c ≤ k ∧ k < n + 1)) = List.range' c (m - c) := by
        intro m
        induction m with
        | zero =>
          intro _
          rw [Nat.zero_sub]
          rfl
        | succ m ihm =>
          intro hm
          rw [List.range_succ, List.filter_append, ihm (by omega)]
          by_cases z : c ≤ m
          · rw [List.filter_cons, if_pos (by simp; omega), show m + 1 - c = (m - c) + 1 from by omega, List.range'_concat, show c + 1 * (m - c) = m from by omega]
            rfl
          · rw [List.filter_cons, if_neg (by simp; omega), show m + 1 - c = 0 from by omega, show m - c = 0 from by omega]
            rfl
      rw [pre n (Nat.le_refl _)]
      by_cases z : c ≤ n
      · rw [List.filter_cons, if_pos (by simp; omega), show n + 1 - c = (n - c) + 1 from by omega, List.range'_concat, show c + 1 * (n - c) = n from by omega]
        rfl
      · rw [List.filter_cons, if_neg (by simp; omega), show n + 1 - c = 0 from by omega, show n - c = 0 from by omega]
        rfl
    · rw [ih (by omega), List.filter_cons, if_neg (by simp; omega)]
      exact List.append_nil _
theorem fromB_is {W : WebV} (g : GoodWeb W) (p : Nat) : fromB W.beds p = List.range' (cntB (starts W) p) ((starts W).count p) := by
  have l := cntB_le (starts W) (p + 1)
  rw [cntB_succ, starts_len] at l
  have := range_cut (n := W.beds.length) (c := cntB (starts W) p) (d := cntB (starts W) p + (starts W).count p) (by omega) l
  rw [show cntB (starts W) p + (starts W).count p - cntB (starts W) p = (starts W).count p from by omega] at this
  rw [← this]
  unfold fromB
  refine List.filter_congr fun k hk => decide_eq_decide.mpr ?_
  have hk := List.mem_range.mp hk
  obtain ⟨_, e, es, _⟩ := sB_at hk
  have a := sB_cnt g hk (p := p)
  have b := sB_cnt g hk (p := p + 1)
  rw [cntB_succ] at b
  rw [e]
  constructor
  · intro z
    have z : W.beds[k].s = p := Option.some.inj z
    rw [es] at a b
    omega
  · intro z
    rw [es] at a b
    show some W.beds[k].s = some p
    congr 1
    omega
end K72

namespace K72
open PySem PySem.Spec PyProof.Rows L2
/-! ### sums -/
theorem sumN_add (f g : Nat → Rat) : ∀ n, sumN n (fun k => f k + g k) = sumN n f + sumN n g
  | 0 => by rw [sumN_zero, sumN_zero, sumN_zero, Rat.add_zero]
  | n + 1 => by
    rw [sumN_succ, sumN_succ, sumN_succ, sumN_add f g n]
    grind
theorem sumN_nil {f : Nat → Rat} {n : Nat} (h : ∀ k, k < n → f k = 0) : sumN n f = 0 := by
  have := sumN_more (f := f) (m := 0) (n := n) (Nat.zero_le _) fun k _ hk => h k hk
  rw [this, sumN_zero]
theorem sumN_swap (f : Nat → Nat → Rat) (m : Nat) : ∀ n, sumN n (fun p => sumN m (fun k => f p k)) = sumN m (fun k => sumN n (fun p => f p k))
  | 0 => by
    rw [sumN_zero]
    exact (sumN_nil fun k _ => sumN_zero _).symm
  | n + 1 => by
    rw [sumN_succ, sumN_swap f m n, ← sumN_add]
    exact sumN_congr fun k _ => (sumN_succ n _).symm
theorem sumN_pick {e n : Nat} (h : e < n) (v : Rat) : sumN n (fun p => if e = p then v else 0) = v := by
  have := sumN_at (f := fun _ => 0) (g := fun p => if e = p then v else 0) (v := v) (k0 := e) (n := n) h (fun k _ ne => if_neg fun z => ne z.symm) (by rw [if_pos rfl, Rat.zero_add])
  rw [this, sumN_nil (fun _ _ => rfl), Rat.zero_add]
theorem day_is {W : WebV} (g : GoodWeb W) (ds : List Int) (r : List Rat) : IsFlow W (leadsV (gapsV W ds)) r (dayV W ds r).1 (dayV W ds r).2 := flow_is g _ r
end K72

namespace K72
open PySem PySem.Spec PyProof.Rows L2
theorem lead_is {W : WebV} {ds : List Int} {i : Nat} (h : i < W.many) : leadAt (leadsV (gapsV W ds)) i = decide (0 ≤ gap1 ds (fromB W.beds i)) := by
  unfold leadAt leadsV gapsV
  rw [List.getElem?_map, List.getElem?_map, List.getElem?_range h]
  rfl
theorem step_at {bs : List Bed} {ds : List Int} {qs : List Rat} {k : Nat} (h1 : k < ds.length) (h2 : k < bs.length) (h3 : k < qs.length) : (addV ds (movesV bs qs))[k]? = some (ds[k] + mvV bs[k] qs[k]) := by
  unfold addV movesV
  rw [List.getElem?_map, List.getElem?_eq_getElem (by rw [List.length_zip, List.length_map, List.length_zip]; omega), List.getElem_zip, List.getElem_map, List.getElem_zip]
  rfl
end K72

namespace K72
open PySem PySem.Spec PyProof.Rows L2
/-! ### nothing below 0 flows -/
theorem ratI_nn (n : Nat) : 0 ≤ ratI n := by
  unfold ratI
  exact_mod_cast Int.natCast_nonneg n
theorem ratI_le {m n : Nat} (h : m ≤ n) : ratI m ≤ ratI n := by
  unfold ratI
  have : (m : Int) ≤ (n : Int) := by omega
  exact Rat.intCast_le_intCast.mpr this
theorem inv_nn {q : Rat} (h : 0 ≤ q) : 0 ≤ q⁻¹ := by
  by_cases c : q = 0
  · rw [c, Rat.inv_zero]
    exact Rat.le_refl
  · exact Rat.le_of_lt (Rat.inv_pos.mpr (by grind))
theorem part_nn {ps : List Nat} {am : Rat} (h : 0 ≤ am) (a : Nat) : 0 ≤ partV ps am a := by
  unfold partV
  refine Rat.mul_nonneg h ?_
  rw [Rat.div_def]
  refine Rat.mul_nonneg (ratI_nn a) ?_
  exact inv_nn (ratI_nn _)
theorem part_le {ps : List Nat} {am : Rat} (h : 0 ≤ am) {a b : Nat} (e : a ≤ b) : partV ps am a ≤ partV ps am b := by
  unfold partV
  refine Rat.mul_le_mul_of_nonneg_left ?_ h
  rw [Rat.div_def, Rat.div_def]
  exact Rat.mul_le_mul_of_nonneg_right (ratI_le e) (inv_nn (ratI_nn _))
theorem sumQ_nn : ∀ {l : List Rat}, (∀ q ∈ l, 0 ≤ q) → 0 ≤ l.sum
  | [], _ => by rw [List.sum_nil]; exact Rat.le_refl
  | a :: r, h => by
    rw [List.sum_cons]
    have h1 := h a (List.mem_cons_self ..)
    have h2 : 0 ≤ r.sum := sumQ_nn fun q hq => h q (List.mem_cons_of_mem _ hq)
    grind
theorem flow_nn {W : WebV} {R k0 : Nat} {rain : List Rat} (g : GoodWeb W) (leads : List Bool) (r : RainOk W R k0 rain) : ∀ p, p ≤ W.many → (∀ q ∈ (flowV W leads rain p).1, 0 ≤ q) ∧ ∀ q ∈ (flowV W leads rain p).2, 0 ≤ q
  | 0, _ => ⟨(fun q h => nomatch h), (fun q h => nomatch h)⟩
  | p + 1, hp => by
    obtain ⟨h1, h2⟩ := flow_nn g leads r p (by omega)
    have am : 0 ≤ (amL W rain (flowV W leads rain p).2 p).sum := sumQ_nn fun q hq => by
      rcases List.mem_cons.mp (show q ∈ _ :: intoV _ _ _ from hq) with z | z
      · rw [z]
        exact r.nn _ (getD_mem (by rw [r.len]; omega))
      · exact h2 q (into_mem z)
    refine ⟨fun q hq => ?_, fun q hq => ?_⟩
    · rcases List.mem_append.mp (show q ∈ (flowV W leads rain p).1 ++ [_] from hq) with z | z
      · exact h1 q z
      · rw [List.mem_singleton.mp z]
        exact am
    · rcases List.mem_append.mp (show q ∈ (flowV W leads rain p).2 ++ bornV _ _ _ from hq) with z | z
      · exact h2 q z
      · have z : q ∈ ((W.parts[p]?).getD []).map (partV ((W.parts[p]?).getD []) (amL W rain (flowV W leads rain p).2 p).sum) := by
          have z : q ∈ bornV _ _ _ := z
          unfold bornV at z
          split at z
          · exact z
          · exact List.mem_reverse.mp z
        obtain ⟨a, _, rfl⟩ := List.mem_map.mp z
        exact part_nn am a
end K72

namespace K72
open PySem PySem.Spec PyProof.Rows L2
/-! ### a web that is cut -/
def cutB (W : WebV) (n : Nat) : Nat := cntB (starts W) n
def cutW (W : WebV) (n : Nat) : WebV := ⟨W.many, W.beds.take (cutB W n), W.parts.take n ++ List.replicate (W.many - n) []⟩
theorem filter_cut (n : Nat) : ∀ {l : List Bed}, (l.map Bed.s).Pairwise (· ≤ ·) → (l.filter fun b => decide (b.s < n)) = l.take (cntB (l.map Bed.s) n)
  | [], _ => rfl
  | a :: r, h => by
    rw [List.map_cons, List.pairwise_cons] at h
    obtain ⟨h1, h2⟩ := h
    by_cases c : a.s < n
    · have e : cntB (a.s :: r.map Bed.s) n = cntB (r.map Bed.s) n + 1 := by
        unfold cntB
        rw [List.filter_cons, if_pos (decide_eq_true c)]
        rfl
      rw [List.filter_cons, if_pos (decide_eq_true c), List.map_cons, e, List.take_succ_cons, filter_cut n h2]
    · have z : ∀ s ∈ r.map Bed.s, ¬ s < n := fun s hs => by have := h1 s hs; omega
      have e : cntB (a.s :: r.map Bed.s) n = 0 := by
        unfold cntB
        rw [List.filter_cons, if_neg (by rw [decide_eq_false c]; exact Bool.false_ne_true), List.filter_eq_nil_iff.mpr fun s hs => by rw [decide_eq_false (z s hs)]; exact Bool.false_ne_true]
        rfl
      rw [List.filter_cons, if_neg (by rw [decide_eq_false c]; exact Bool.false_ne_true), List.map_cons, e, List.take_zero]
      exact List.filter_eq_nil_iff.mpr fun b hb => by rw [decide_eq_false (z b.s (List.mem_map.mpr ⟨b, hb, rfl⟩))]; exact Bool.false_ne_true
theorem cutB_le (W : WebV) (n : Nat) : cutB W n ≤ W.beds.length := by
  have := cntB_le (starts W) n
  rw [starts_len] at this
  exact this
theorem cutW_len (W : WebV) (n : Nat) : (cutW W n).beds.length = cutB W n := by
  show (W.beds.take (cutB W n)).length = _
  rw [List.length_take]
  exact Nat.min_eq_left (cutB_le W n)
theorem cutW_at {W : WebV} {n k : Nat} (h : k < cutB W n) : (cutW W n).beds[k]? = some (W.beds[k]'(Nat.lt_of_lt_of_le h (cutB_le W n))) := by
  show (W.beds.take (cutB W n))[k]? = _
  rw [List.getElem?_take, if_pos h, List.getElem?_eq_getElem]
theorem cutW_sB {W : WebV} {n k : Nat} (h : k < cutB W n) : sB (cutW W n) k = sB W k ∧ eB (cutW W n) k = eB W k := by
  unfold sB eB
  rw [cutW_at h, List.getElem?_eq_getElem (Nat.lt_of_lt_of_le h (cutB_le W n))]
  exact ⟨rfl, rfl⟩
theorem cut_lt {W : WebV} (g : GoodWeb W) {n k : Nat} (h : k < W.beds.length) : k < cutB W n ↔ sB W k < n := sB_cnt g h
theorem cutW_starts (W : WebV) (n : Nat) : starts (cutW W n) = (starts W).take (cutB W n) := by
  show (W.beds.take (cutB W n)).map Bed.s = (W.beds.map Bed.s).take (cutB W n)
  rw [List.map_take]
theorem filter_lt_take : ∀ {l : List Nat}, l.Pairwise (· ≤ ·) → ∀ n, l.take (cntB l n) = l.filter fun s => decide (s < n)
  | [], _, _ => rfl
  | a :: r, h, n => by
    obtain ⟨h1, h2⟩ := List.pairwise_cons.mp h
    by_cases c : a < n
    · have e : cntB (a :: r) n = cntB r n + 1 := by
        unfold cntB
        rw [List.filter_cons, if_pos (decide_eq_true c)]
        rfl
      rw [e, List.take_succ_cons, filter_lt_take h2 n, List.filter_cons, if_pos (decide_eq_true c)]
    · have z : ∀ s ∈ a :: r, ¬ s < n := fun s hs => by
        rcases List.mem_cons.mp hs with y | y
        · omega
        · have := h1 s y; omega
      have f : ((a :: r).filter fun s => decide (s < n)) = [] := List.filter_eq_nil_iff.mpr fun s hs => by rw [decide_eq_false (z s hs)]; exact Bool.false_ne_true
      have e : cntB (a :: r) n = 0 := by
        unfold cntB
        rw [f]
        rfl
      rw [e, f, List.take_zero]
theorem cutW_count {W : WebV} (g : GoodWeb W) {n p : Nat} : (starts (cutW W n)).count p = if p < n then (starts W).count p else 0 := by
  rw [cutW_starts]
  show ((starts W).take (cntB (starts W) n)).count p = _
  rw [filter_lt_take g.sorted n]
  by_cases c : p < n
  · rw [if_pos c, List.count_filter (by rw [decide_eq_true c])]
  · rw [if_neg c]
    exact List.count_eq_zero.mpr fun h => c (of_decide_eq_true (List.mem_filter.mp h).2)
theorem cutW_cnt {W : WebV} (g : GoodWeb W) {n p : Nat} (h : p ≤ n) : cntB (starts (cutW W n)) p = cntB (starts W) p := by
  rw [cutW_starts]
  show cntB ((starts W).take (cntB (starts W) n)) p = _
  rw [filter_lt_take g.sorted n]
  unfold cntB
  rw [List.filter_filter]
  congr 1
  refine List.filter_congr fun s _ => ?_
  by_cases c : s < p
  · rw [decide_eq_true c, decide_eq_true (show s < n by omega)]
    rfl
  · rw [decide_eq_false c]
    rfl
theorem cutW_ok {W : WebV} (ok : WorldOk W) {n : Nat} (hn : n ≤ W.many) : WorldOk (cutW W n) := by
  have g := ok.good
  have tk : ∀ b ∈ (cutW W n).beds, b ∈ W.beds := fun b hb => List.mem_of_mem_take hb
  refine ⟨ok.m1, ok.m8, ⟨by rw [cutW_len]; exact Nat.le_trans (cutB_le W n) ok.rows.few, fun b hb => ok.rows.bed b (tk b hb), ?_, fun s => ?_⟩, ?_, fun i ps h => ?_⟩
  · have : (cutW W n).beds.map Bed.s = (starts W).take (cutB W n) := cutW_starts W n
    rw [this]
    exact g.sorted.sublist (List.take_sublist ..)
  · have e : ((cutW W n).beds.map Bed.s).count s = (starts (cutW W n)).count s := rfl
    rw [e, cutW_count g]
    split
    · exact g.two s
    · exact Nat.zero_le _
  · show (W.parts.take n ++ List.replicate (W.many - n) []).length = W.many
    rw [List.length_append, List.length_take, List.length_replicate, ok.plen]
    omega
  · rw [cutW_count g]
    have h : (W.parts.take n ++ List.replicate (W.many - n) [])[i]? = some ps := h
    have lt : (W.parts.take n).length = n := by rw [List.length_take, ok.plen]; omega
    by_cases c : i < n
    · rw [List.getElem?_append_left (by omega), List.getElem?_take, if_pos c] at h
      rw [if_pos c]
      exact ok.part i ps h
    · rw [List.getElem?_append_right (by omega), lt, List.getElem?_replicate] at h
      rw [if_neg c]
      split at h
      · rw [← Option.some.inj h]
        exact ⟨rfl, (fun p hp => nomatch hp), by decide, .inl rfl⟩
      · cases h
theorem cutW_parts {W : WebV} (ok : WorldOk W) {n p : Nat} (hn : n ≤ W.many) (hp : p < n) : partsAt (cutW W n) p = partsAt W p := by
  unfold partsAt
  show (((W.parts.take n ++ List.replicate (W.many - n) [])[p]?).getD []) = _
  rw [List.getElem?_append_left (by rw [List.length_take, ok.plen]; omega), List.getElem?_take, if_pos hp]
theorem cut_lead {W : WebV} (ok : WorldOk W) {n p : Nat} (hn : n ≤ W.many) (hp : p < n) (ds : List Int) : leadAt (leadsV (gapsV (cutW W n) (ds.take (cutB W n)))) p = leadAt (leadsV (gapsV W ds)) p := by
  have g := ok.good
  have g' := (cutW_ok ok hn).good
  have hp' : p < (cutW W n).many := show p < W.many by omega
  rw [lead_is hp', lead_is (show p < W.many by omega), fromB_is g', fromB_is g, cutW_cnt g (by omega), cutW_count g, if_pos hp]
  have two := g.two p
  by_cases c : (starts W).count p = 2
  · rw [c]
    show decide (0 ≤ ((ds.take (cutB W n))[cntB (starts W) p]?).getD 0 - ((ds.take (cutB W n))[cntB (starts W) p + 1]?).getD 0) = decide (0 ≤ (ds[cntB (starts W) p]?).getD 0 - (ds[cntB (starts W) p + 1]?).getD 0)
    obtain ⟨h0, e0⟩ := block_sB g (p := p) (r := 0) (by omega)
    obtain ⟨h1, e1⟩ := block_sB g (p := p) (r := 1) (by omega)
    have l0 := (cut_lt g (n := n) h0).mpr (by omega)
    have l1 := (cut_lt g (n := n) h1).mpr (by omega)
    rw [List.getElem?_take, List.getElem?_take, if_pos (by omega), if_pos l1]
  · have : (starts W).count p = 0 ∨ (starts W).count p = 1 := by omega
    rcases this with z | z <;> rw [z] <;> rfl
section
variable {W : WebV} {n : Nat} {ds : List Int} {rain ws bs ws' bs' : List Rat}
theorem cut_water (ok : WorldOk W) (hn : n ≤ W.many) (f : IsFlow W (leadsV (gapsV W ds)) rain ws bs) (f' : IsFlow (cutW W n) (leadsV (gapsV (cutW W n) (ds.take (cutB W n)))) rain ws' bs') {p : Nat} (hp : p < n)
    (A : ∀ k, k < cutB W n → sB W k < p → gQ bs' k = gQ bs k) : gQ ws' p = gQ ws p := by
  have g := ok.good
  rw [f.water p (by omega), f'.water p (show p < W.many by omega), cutW_len]
  congr 1
  rw [sumN_more (m := cutB W n) (n := W.beds.length) (f := fun k => if eB W k = p then gQ bs k else 0) (cutB_le W n) fun k h1 h2 => ?_]
  · refine sumN_congr fun k hk => ?_
    have hl := Nat.lt_of_lt_of_le hk (cutB_le W n)
    rw [(cutW_sB hk).2]
    by_cases c : eB W k = p
    · rw [if_pos c, if_pos c]
      exact A k hk (by have := (sB_lt g hl).1; omega)
    · rw [if_neg c, if_neg c]
  · have a := cut_lt g (n := n) h2
    have b := (sB_lt g h2).1
    rw [if_neg (by omega)]
theorem cut_bears (ok : WorldOk W) (hn : n ≤ W.many) (f : IsFlow W (leadsV (gapsV W ds)) rain ws bs) (f' : IsFlow (cutW W n) (leadsV (gapsV (cutW W n) (ds.take (cutB W n)))) rain ws' bs') :
    ∀ p, p ≤ n → ∀ k, k < cutB W n → sB W k < p → gQ bs' k = gQ bs k
  | 0, _ => fun k _ h => absurd h (Nat.not_lt_zero _)
  | p + 1, hp => by
    have g := ok.good
    have A := cut_bears ok hn f f' p (by omega)
    have B := cut_water ok hn f f' (show p < n by omega) A
    intro k hk hs
    by_cases c : sB W k < p
    · exact A k hk c
    have sp : sB W k = p := by omega
    have hl := Nat.lt_of_lt_of_le hk (cutB_le W n)
    obtain ⟨r, e, hr⟩ := sB_block g hl
    rw [sp] at e hr
    have h1 := f.bear p r (by omega) hr
    have h2 := f'.bear p r (show p < W.many by omega) (by rw [cutW_count g, if_pos (by omega)]; exact hr)
    rw [cutW_cnt g (by omega), cutW_parts ok hn (by omega), cut_lead ok hn (by omega), B] at h2
    rw [e, h1, h2]
end
/-- what the beds of the cut web bear, what its places have -/
theorem cut_day {W : WebV} (ok : WorldOk W) {n : Nat} (hn : n ≤ W.many) (ds : List Int) (qs : List Rat) : (dayV (cutW W n) (ds.take (cutB W n)) qs).2 = (dayV W ds qs).2.take (cutB W n) ∧ ∀ p, p < n → gQ (dayV (cutW W n) (ds.take (cutB W n)) qs).1 p = gQ (dayV W ds qs).1 p := by
  have g := ok.good
  have g' := (cutW_ok ok hn).good
  have f := day_is g ds qs
  have f' := day_is g' (ds.take (cutB W n)) qs
  have lb := f.lb
  have lb' := f'.lb
  have cl := cutB_le W n
  rw [cutW_len] at lb'
  refine ⟨gQ_ext (by rw [lb', List.length_take]; omega) fun k hk => ?_, fun p hp => cut_water ok hn f f' hp (cut_bears ok hn f f' p (by omega))⟩
  have hk' : k < cutB W n := by omega
  have hl := Nat.lt_of_lt_of_le hk' cl
  rw [cut_bears ok hn f f' n (Nat.le_refl _) k hk' ((cut_lt g hl).mp hk')]
  unfold gQ
  rw [List.getElem?_take, if_pos hk']
theorem cut_less {W : WebV} (ok : WorldOk W) {n : Nat} (hn : n ≤ W.many) (ds : List Int) {R k0 : Nat} {qs : List Rat} (ro : RainOk W R k0 qs) {p : Nat} (hp : p < W.many) : gQ (dayV (cutW W n) (ds.take (cutB W n)) qs).1 p ≤ gQ (dayV W ds qs).1 p := by
  have g := ok.good
  have g' := (cutW_ok ok hn).good
  have f := day_is g ds qs
  have f' := day_is g' (ds.take (cutB W n)) qs
  have A := cut_bears ok hn f f' n (Nat.le_refl _)
  have nn := (flow_nn g (leadsV (gapsV W ds)) ro W.many (Nat.le_refl _)).2
  have nn : ∀ q ∈ (dayV W ds qs).2, 0 ≤ q := nn
  rw [f.water p hp, f'.water p hp, cutW_len]
  have e : sumN (cutB W n) (fun k => if eB (cutW W n) k = p then gQ (dayV (cutW W n) (ds.take (cutB W n)) qs).2 k else 0) = sumN (cutB W n) (fun k => if eB W k = p then gQ (dayV W ds qs).2 k else 0) := sumN_congr fun k hk => by
    have hl := Nat.lt_of_lt_of_le hk (cutB_le W n)
    rw [(cutW_sB hk).2, A k hk ((cut_lt g hl).mp hk)]
  rw [e]
  have more : ∀ m, cutB W n ≤ m → m ≤ W.beds.length → sumN (cutB W n) (fun k => if eB W k = p then gQ (dayV W ds qs).2 k else 0) ≤ sumN m (fun k => if eB W k = p then gQ (dayV W ds qs).2 k else 0) := by
    intro m h1
    induction m with
    | zero =>
      intro _
      have : cutB W n = 0 := by omega
      rw [this]
      exact Rat.le_refl
    | succ m ih =>
      intro h2
      by_cases c : cutB W n = m + 1
      · rw [c]
        exact Rat.le_refl
      · have h := ih (by omega) (by omega)
        have lb : (dayV W ds qs).2.length = W.beds.length := f.lb
        have z : 0 ≤ (if eB W m = p then gQ (dayV W ds qs).2 m else 0) := by
          split
          · unfold gQ
            exact nn _ (getD_mem (by omega))
          · exact Rat.le_refl
        rw [sumN_succ]
        grind
  have := more W.beds.length (cutB_le W n) (Nat.le_refl _)
  grind
theorem zip_take {α β : Type} (l : List α) (m : List β) (i : Nat) : (l.take i).zip (m.take i) = (l.zip m).take i := by
  show List.zipWith Prod.mk _ _ = (List.zipWith Prod.mk l m).take i
  exact List.take_zipWith.symm
theorem cut_step {W : WebV} (ok : WorldOk W) {n : Nat} (hn : n ≤ W.many) {ds : List Int} (ld : ds.length = W.beds.length) (qs : List Rat) : stepV (cutW W n) (ds.take (cutB W n)) qs = (stepV W ds qs).take (cutB W n) := by
  have e := (cut_day ok hn ds qs).1
  unfold stepV addV movesV
  rw [e]
  show ((ds.take (cutB W n)).zip (((W.beds.take (cutB W n)).zip ((dayV W ds qs).2.take (cutB W n))).map fun x => mvV x.1 x.2)).map (fun x => x.1 + x.2) = _
  rw [zip_take, List.map_take, zip_take, List.map_take]
end K72

namespace K72
open PySem PySem.Spec PyProof.Rows L2
theorem cut_to {xs : List V} {n : Nat} : cutV xs none (some (n : Int)) = xs.take n := by
  unfold cutV
  rw [HT.sIx_nat, HT.sIx_none, List.drop_zero, Nat.sub_zero]
  by_cases h : n ≤ xs.length
  · rw [Nat.min_eq_left h]
  · rw [Nat.min_eq_right (by omega), List.take_of_length_le (Nat.le_refl _), List.take_of_length_le (by omega)]
end K72

namespace K72
open PySem PySem.Spec PyProof.Rows L2
/-! ### cut, where the place is one -/
def spCutG (K : PySem.W.Frag) (C CW : Addr) : Sp := fun vs H Q _ => ∃ (w : Addr) (W : WebV) (n : Nat), vs = [.ref w, .int (n : Int)] ∧ WebAt K C CW H w W ∧ WorldOk W ∧ n ≤ W.many ∧ ∀ (H' : Hp) (u : Addr), Same H H' → WebAt K C CW H' u (cutW W n) → FreeOf K C CW H H' u (cutW W n) → Q (.ref u) H'
section
variable {P : Program} {w : World} {K : PySem.W.Frag} {mg : Str → Option Value} {base : Heap}
abbrev cuN : List Str := ["web", "place", "beds", "bed"]
theorem scCu : FnScope cuN ["web", "place"] (defScope d_cut) := ⟨rfl, rfl, rfl, by decide +kernel, rfl, by decide +kernel, by decide +kernel⟩
theorem ok_cutG {f f1 fW C CW : Addr} {fd fd1 fdW : FuncData} (F : Fun K "cut" "cut" d_cut f fd) (TW : CrsW K CW) (hW : mg "Web" = some (.ref CW)) (A1 : At P w K mg base CX0 2 "is_between" ["thing", "least", "most"] spBetweenI f1 fd1)
    (MW : Mk K CW fW) (GWi : FnOk P w K mg base CX0 5 fW fdW ["self", "many", "beds", "parts"] (spWInitF K C CW)) (bWi : Binds K fdW ["self", "many", "beds", "parts"] []) : FnOk P w K mg base CX0 7 f fd ["web", "place"] (spCutG K C CW) := by
  refine F.ok scCu (fun vs H Q E h => ?_) (fun cdv A outer s H vs Q E hr h => ?_)
  · obtain ⟨_, _, _, rfl, _⟩ := h
    rfl
  · obtain ⟨w0, W, n, rfl, hw, ok, hn, q⟩ := h
    have r2 : Room 2 _ := hr.mono (by decide)
    refine ⟨_, pss_cons (ps_if (pt_not (pt_val (pe_call A1.G r2 rfl A1.m A1.k A1.b .nil pass0 (pa_cons (pv 1) (pa_cons pe_int (pa_cons (pe_fld (pv 0) rfl) pa_nil)))))) (pss_one ps_never) pss_nil)
      (pss_cons (ps_setLc (i := 2) (own := [("bed", 3)]) (g := gName 3) (by rfl) scCu.nd rfl rfl (sw_true rfl rfl rfl (by decide +kernel)) (pi_list (pe_fld (pv 0) rfl)) (blkOk_by (own := [("bed", 3)]) (N := cuN) (sc := defScope d_cut) (by decide +kernel)) (fun _ _ _ _ _ => pg_name (i := 3) scCu.nd rfl (.inl rfl))
          (fun _ _ _ _ _ => pts_one (pt_cmpR op_lt (pe_ix (show IxR _ (rIxT K) from ix_tup) (pv 3) pe_int (fun _ _ => rfl)) (pv 1) (nomark _))) (fun _ _ _ _ _ => pv 3))
      (pss_one (ps_ret (pe_make MW GWi hr rfl hW bWi .nil pass0 (pa_cons (pe_fld (pv 0) rfl) (pa_cons (pv 2) (pa_cons (pe_op op_cat (pe_slice sl_list (pe_fld (pv 0) rfl) po_none (po_some (pv 1)))
          (pe_op op_rep (pe_lst (pa_cons (pe_tup pa_nil) pa_nil)) (pe_op op_sub (pe_fld (pv 0) rfl) (pv 1)))) pa_nil))))))), ?_⟩
    have g := ok.good
    have few := g.few
    have m8 := g.m8
    obtain ⟨dx, bl, pl, ew, ⟨ts, hb, hts⟩, ⟨us, hp, hus⟩, _⟩ := id hw
    have lts : ts.length = W.beds.length := hts.len
    have lus : us.length = W.many := by
      have := hus.len
      have := g.plen
      omega
    refine ⟨_, rfl, _, rfl, w0, CW, dx, _, _, rfl, ew, TW.cl, TW.nm, webF_many .., _, _, _, rfl, _, rfl, ?_⟩
    have hbt : (decide ((0 : Int) ≤ (n : Int)) && decide ((n : Int) ≤ (W.many : Int))) = true := by
      rw [decide_eq_true (show (0 : Int) ≤ (n : Int) by omega), decide_eq_true (show (n : Int) ≤ (W.many : Int) by omega)]
      rfl
    refine ite2 (fun h => absurd h (by rw [hbt]; decide)) (fun _ => ?_)
    refine ⟨_, rfl, w0, CW, dx, _, _, rfl, ew, TW.cl, TW.nb, webF_beds .., bl, rfl, ⟨_, SqL.of hb⟩, fun D hD => ?_⟩
    refine lc_list (K := K) (a := bl) (xs := ts.map V.ref) (fun i N => ∃ zs : List Addr, N D = some (.lst (zs.map V.ref)) ∧ zs.length ≤ i ∧ All2 (BedAt K C N) zs ((W.beds.take i).filter fun b => decide (b.s < n)) ∧ Same H N) ⟨[], upd_same, Nat.le_refl _, .nil, same1 hD⟩ ?_ ?_ ?_
    · rintro i N _ ⟨_, _, _, _, sN⟩
      exact SqL.of (sN _ _ hb)
    · rintro i x N hx ⟨zs, eD, lz, hzs, sN⟩
      rw [List.getElem?_map] at hx
      obtain ⟨t, ht, rfl⟩ := Option.map_eq_some_iff.mp hx
      have il : i < W.beds.length := by
        have := (List.getElem?_eq_some_iff.mp ht).1
        omega
      have hbed := (hts.all i t _ ht (List.getElem?_eq_getElem il)).mono sN
      obtain ⟨x, y, q1, hx1, hy1⟩ := id hbed
      refine ⟨rfl, _, rfl, t, _, _, _, rfl, rfl, q1, at_k (by decide) rfl, _, rfl, _, _, rfl, rfl, _, rfl, ?_⟩
      refine ite2 (fun h => ?_) (fun h => ?_)
      · have h : ((W.beds[i].s : Nat) : Int) < (n : Int) := of_decide_eq_true h
        have kp : KeepL N (upd N D (.lst (zs.map V.ref ++ [V.ref t]))) := keep_put eD
        have kb : ∀ {a : Addr} {b : Bed}, BedAt K C N a b → BedAt K C (upd N D (.lst (zs.map V.ref ++ [V.ref t]))) a b := fun {a b} ⟨x, y, r1, r2, r3⟩ => ⟨x, y, kp.tup r1, kp.sh r2, kp.sh r3⟩
        refine ⟨_, rfl, _, eD, ?_, zs ++ [t], by rw [List.map_append]; exact upd_same, by rw [List.length_append]; exact Nat.succ_le_succ lz, ?_, fun a o ea => ?_⟩
        · rw [List.length_map]
          exact Nat.lt_of_le_of_lt lz (Nat.lt_of_lt_of_le (show i < 12 by omega) (show 12 ≤ sizeLine by decide))
        · rw [List.take_succ_eq_append_getElem il, List.filter_append, List.filter_cons, if_pos (decide_eq_true (by omega)), List.filter_nil]
          exact (hzs.mono fun _ _ _ _ r => kb r).snoc (kb hbed)
        · rw [upd_ne (ne_of_none ea hD)]
          exact sN _ _ ea
      · have h : ¬ ((W.beds[i].s : Nat) : Int) < (n : Int) := fun z => h (decide_eq_true z)
        refine ⟨zs, eD, Nat.le_succ_of_le lz, ?_, sN⟩
        rw [List.take_succ_eq_append_getElem il, List.filter_append, List.filter_cons, if_neg (by rw [decide_eq_false (show ¬ W.beds[i].s < n by omega)]; exact Bool.false_ne_true), List.filter_nil, List.append_nil]
        exact hzs
    · rintro N ⟨zs, eD, _, hzs, sN⟩
      rw [List.length_map, hts.len, List.take_length, filter_cut n g.sorted] at hzs
      refine ⟨_, rfl, w0, CW, dx, _, _, rfl, sN _ _ ew, TW.cl, TW.nm, webF_many .., _, rfl, ?_⟩
      refine ⟨_, rfl, w0, CW, dx, _, _, rfl, sN _ _ ew, TW.cl, TW.np, webF_parts .., _, rfl, _, rfl, pl, _, rfl, SqL.of (sN _ _ hp), fun L1 hL1 => ?_⟩
      rw [cut_to, ← List.map_take]
      have s1 : Same N (upd N L1 (.lst ((us.take n).map V.ref))) := same1 hL1
      have eL1 : (upd N L1 (.lst ((us.take n).map V.ref)) : Hp) L1 = some (.lst ((us.take n).map V.ref)) := upd_same
      generalize upd N L1 (.lst ((us.take n).map V.ref)) = N1 at *
      refine ⟨(by show 0 ≤ sizeLine; decide), fun T hT => ⟨(by show 1 ≤ sizeLine; decide), fun L2 hL2 => ?_⟩⟩
      have s2 : Same N1 (upd N1 T (.tup [])) := same1 hT
      have eT : (upd N1 T (.tup []) : Hp) T = some (.tup []) := upd_same
      generalize upd N1 T (.tup []) = N2 at *
      have s3 : Same N2 (upd N2 L2 (.lst [.ref T])) := same1 hL2
      have eL2 : (upd N2 L2 (.lst [.ref T]) : Hp) L2 = some (.lst [.ref T]) := upd_same
      generalize upd N2 L2 (.lst [.ref T]) = N3 at *
      have s13 := s1.trans (s2.trans s3)
      have k1 : ((W.many : Int) - (n : Int)).toNat = W.many - n := by omega
      refine ⟨_, rfl, w0, CW, dx, _, _, rfl, (sN.trans s13) _ _ ew, TW.cl, TW.nm, webF_many .., _, rfl, _, _, rfl, rfl, L2, _, _, rfl, rfl, eL2, by omega, by omega, ?_, fun L3 hL3 => ?_⟩
      · rw [k1]
        exact Nat.le_trans (show 1 * (W.many - n) ≤ 8 by omega) (show 8 ≤ sizeLine by decide)
      have rep : (List.replicate ((W.many : Int) - (n : Int)).toNat [V.ref T]).flatten = (List.replicate (W.many - n) T).map V.ref := by
        rw [k1, List.map_replicate]
        generalize W.many - n = j
        induction j with
        | zero => rfl
        | succ j ih => rw [List.replicate_succ, List.flatten_cons, ih, List.replicate_succ]; rfl
      rw [rep]
      have s4 : Same N3 (upd N3 L3 (.lst ((List.replicate (W.many - n) T).map V.ref))) := same1 hL3
      have eL3 : (upd N3 L3 (.lst ((List.replicate (W.many - n) T).map V.ref)) : Hp) L3 = some (.lst ((List.replicate (W.many - n) T).map V.ref)) := upd_same
      generalize upd N3 L3 (.lst ((List.replicate (W.many - n) T).map V.ref)) = N4 at *
      refine ⟨L1, L3, _, _, rfl, rfl, (s2.trans (s3.trans s4)) _ _ eL1, eL3, ?_, fun L4 hL4 => ?_⟩
      · rw [List.length_map, List.length_map, List.length_take, List.length_replicate]
        exact Nat.le_trans (show min n us.length + (W.many - n) ≤ 8 by omega) (show 8 ≤ sizeLine by decide)
      rw [← List.map_append]
      have s5 : Same N4 (upd N4 L4 (.lst ((us.take n ++ List.replicate (W.many - n) T).map V.ref))) := same1 hL4
      have eL4 : (upd N4 L4 (.lst ((us.take n ++ List.replicate (W.many - n) T).map V.ref)) : Hp) L4 = some (.lst ((us.take n ++ List.replicate (W.many - n) T).map V.ref)) := upd_same
      generalize upd N4 L4 (.lst ((us.take n ++ List.replicate (W.many - n) T).map V.ref)) = N5 at *
      have s15 := s13.trans (s4.trans s5)
      intro x xd nx ndx nex
      have t4 : Same N5 (upd (upd N5 xd (.own x)) x (.ins CW xd [])) := made_same (C := CW) nx ndx (fun a _ => rfl)
      have s16 := s15.trans t4
      have hP : All2 (PartsAt K (upd (upd N5 xd (.own x)) x (.ins CW xd []))) (us.take n ++ List.replicate (W.many - n) T) (cutW W n).parts := by
        refine All2.app ((hus.take n).mono fun _ _ _ _ r => Same.tup (sN.trans s16) r) ⟨by rw [List.length_replicate, List.length_replicate], fun i a b ha hb' => ?_⟩
        obtain rfl := List.eq_of_mem_replicate (List.mem_of_getElem? ha)
        obtain rfl := List.eq_of_mem_replicate (List.mem_of_getElem? hb')
        exact SqT.of ((s3.trans (s4.trans (s5.trans t4))) _ _ eT)
      refine ⟨x, xd, D, L4, cutW W n, rfl, upd_same, ⟨zs, SqL.of (s16 _ _ eD), hzs.mono fun _ _ _ _ r => r.mono s16⟩, ⟨_, SqL.of (t4 _ _ eL4), hP⟩, (cutW_ok ok hn).good, fun H' hw' fr kp => ⟨rfl, ?_⟩⟩
      exact q H' x (fun a o ea => kp a o (ne_of_none ((sN.trans s15) _ _ ea) nx) ((sN.trans s16) _ _ ea)) hw' (fun D xs hD ys => fr D xs ((sN.trans s16) _ _ hD) ys)
end
end K72

namespace K72
open PySem PySem.Spec PyProof.Rows L2
/-! ### is_whole of anything, is_day, on -/
/-- what a value is, for is_whole: its type, and whether that is int, bool -/
def Kind (K : PySem.W.Frag) (H : Hp) (v : V) (bi bb : Bool) : Prop := ∃ t, TyX K H v t ∧ PySem.W.kitOne K t (.type "int") = some bi ∧ PySem.W.kitOne K t (.type "bool") = some bb
def spWholeX (K : PySem.W.Frag) : Sp := fun vs H Q _ => ∃ (v : V) (bi bb : Bool), vs = [v] ∧ Kind K H v bi bb ∧ Q (.bl (bi && !bb)) H
theorem kind_int {K : PySem.W.Frag} {H : Hp} (i : Int) : Kind K H (.int i) true false := ⟨_, TyX.base (TyOf.int i), kit_ty (by decide +kernel), kit_ty (by decide +kernel)⟩
section
variable {P : Program} {w : World} {K : PySem.W.Frag} {mg : Str → Option Value} {base : Heap}
theorem ok_wholeX {f : Addr} {fd : FuncData} (F : Fun K "is_whole" "is_whole" d_is_whole f fd) (h1 : mg "isinstance" = none) (h2 : mg "int" = none) (h3 : mg "bool" = none) : FnOk P w K mg base CX0 1 f fd ["thing"] (spWholeX K) := by
  refine F.ok scWhole (fun vs H Q E h => ?_) (fun cdv A outer s H vs Q E hr h => ?_)
  · obtain ⟨v, _, _, rfl, _⟩ := h
    rfl
  · obtain ⟨v, bi, bb, rfl, ⟨t, ht, k1, k2⟩, kq⟩ := h
    refine ⟨_, pss_one (ps_ret (pe_and (pe_callB call_isi (by rfl) h1 (by decide +kernel) (pa_cons (pv 0) (pa_cons (pe_bltn (v := .ty "int") (by rfl) h2 (by decide +kernel) rfl) pa_nil)))
      (pe_one (pe_not (pe_callB call_isi (by rfl) h1 (by decide +kernel) (pa_cons (pv 0) (pa_cons (pe_bltn (v := .ty "bool") (by rfl) h3 (by decide +kernel) rfl) pa_nil))))))), ?_⟩
    refine ⟨_, rfl, _, _, t, _, bi, rfl, ClsV.ty _, ht, k1, bi, rfl, ?_⟩
    cases bi with
    | false => exact iteF kq
    | true => exact iteT ⟨_, rfl, _, _, t, _, bb, rfl, ClsV.ty _, ht, k2, bb, rfl, kq⟩
end
end K72

namespace K72
open PySem PySem.Spec PyProof.Rows L2
def spBetween (K : PySem.W.Frag) : Sp := fun vs H Q _ => ∃ (v : V) (a b : Int) (bi bb : Bool), vs = [v, .int a, .int b] ∧ Kind K H v bi bb ∧ ((∃ i, v = .int i ∧ bi = true ∧ bb = false ∧ Q (.bl (decide (a ≤ i) && decide (i ≤ b))) H) ∨ ((bi && !bb) = false ∧ Q (.bl false) H))
section
variable {P : Program} {w : World} {K : PySem.W.Frag} {mg : Str → Option Value} {base : Heap}
theorem scBetween : FnScope ["thing", "least", "most"] ["thing", "least", "most"] (defScope d_is_between) := ⟨rfl, rfl, rfl, by decide +kernel, rfl, by decide +kernel, by decide +kernel⟩
theorem ok_between {f fW : Addr} {fd fdW : FuncData} (F : Fun K "is_between" "is_between" d_is_between f fd) (GW : FnOk P w K mg base CX0 1 fW fdW ["thing"] (spWholeX K)) (mW : mg "is_whole" = some (.ref fW)) (kW : PySem.W.keepIn K (.ref fW) = true) (bW : Binds K fdW ["thing"] []) :
    FnOk P w K mg base CX0 2 f fd ["thing", "least", "most"] (spBetween K) := by
  refine F.ok scBetween (fun vs H Q E h => ?_) (fun cdv A outer s H vs Q E hr h => ?_)
  · obtain ⟨v, _, _, _, _, rfl, _⟩ := h
    rfl
  · obtain ⟨v, a, b, bi, bb, rfl, hk, kq⟩ := h
    refine ⟨_, pss_one (ps_ret (pe_and (pe_call GW hr rfl mW kW bW .nil pass0 (pa_cons (pv 0) pa_nil)) (pe_one (pe_chain op_le op_le (pv 1) (pv 0) (pv 2))))), ?_⟩
    refine ⟨_, rfl, v, bi, bb, rfl, hk, bi && !bb, rfl, ?_⟩
    rcases kq with ⟨i, rfl, rfl, rfl, q⟩ | ⟨e, q⟩
    · refine iteT ⟨_, rfl, _, rfl, _, _, rfl, rfl, _, rfl, ?_⟩
      refine ite2 (fun h => ?_) (fun h => ?_)
      · refine ⟨_, rfl, _, _, rfl, rfl, ?_⟩
        rw [h] at q
        exact q
      · rw [show decide (a ≤ i) = false from by simpa using h] at q
        exact q
    · rw [e]
      exact iteF q
end
end K72

namespace K72
open PySem PySem.Spec PyProof.Rows
open PySem.W PySem.Calls
/-! ### super().__init__('..') and one attribute, in an own exception's __init__ -/
/-- what the written part says of such a class, at C, and of its __init__, at fI -/
structure OwnX (prog : Program) (K : Frag) (mg : Str → Option Value) (C fI : Addr) (cn qual fld : Str) (st : Stmt) : Prop where
  gC : mg cn = some (.ref C)
  cls : ∃ nm q N bs bm sn sub ab col dd k0 k1 k2 k3 k5, K.lookup C = some (excClassObj nm q C N bs bm true sn sub ab col dd k0 k1 k2 k3 k5 "ValueError.__new__") ∧ HandSPX.refsVE bm = true
  sa : findIn K (.ref C) "__setattr__" = some (some (.builtin "object.__setattr__"))
  noN : findIn K (.ref C) fld = some none
  iC : findIn K (.ref C) "__init__" = some (some (.ref fI))
  tC : typeIn K (.ref fI) = some (.type "function")
  kC : keepIn K (.ref C) = true
  sup : ks_superIn K C C "__init__" = some (some (.builtin "ValueError.__init__"))
  opq : nsIn K cStatics "thirdparty.any" = some none
  sub : subIn K (.ref C) (.type "ValueError") = some true
  me : mroIn K C (.ref C) = some true
  ms : mg "super" = none
  top : (prog.main.scope.names.lookup ("super" : Str)).isSome = false
  fn : ∃ (oc : Value) (od : Option Addr) (kV doc pm : Value) (an : Option Addr) (cda : Addr) (ct : Value) (osl : Array (Option Value)) (cc : Addr),
    K.lookup fI = some ⟨oc, od, .func (ksFn "__init__" qual (L2.defArgs st) (L2.defBody st) (L2.defScope st) .none kV doc pm an (.ref cda) ct cc), osl⟩ ∧ codeIn K (.ref cda) qual = true ∧
    (∃ ccl cdd vs ccs file tf, K.lookup cda = some ⟨ccl, cdd, .fields vs, ccs⟩ ∧ vs[2]? = some (.str file tf) ∧ ((prog.main.file : Str) == file) = true) ∧ ∃ cl cld csl, K.lookup cc = some ⟨cl, cld, .cell (some (.ref C)), csl⟩
theorem ns_but {h h' : Heap} {L x : Addr} {m : Str → Option Value} (hn : h.Ns L m) (k : ∀ b o, b ≠ x → h.get? b = some o → h'.get? b = some o) (n : L ≠ x) : h'.Ns L m := by
  obtain ⟨oL, es, ep, hL, r⟩ := hn
  exact ⟨oL, es, ep, k _ _ n hL, r⟩
/-- what an __init__ leaves -/
structure Left (h h' : Heap) (x C dx t1 : Addr) (fld : Str) (v : Value) : Prop where
  keep : ∀ b o, b ≠ x → h.get? b = some o → h'.get? b = some o
  obj : h'.get? x = some { cls := .ref C, dict := some dx, data := .fields #[.ref t1, .none, .none, .none, .bool false, .none] }
  big : h.objs.size ≤ dx
  ne : dx ≠ x
  ns : h'.Ns1 dx (fun y => if y = fld then some v else none)
section
variable {prog : Program} {w : World} {A : Around} {E : Value → Shared → Prop} {R : Result → Shared → Prop} {s : Shared} {K : Frag} {mg mb : Str → Option Value} {C fI : Addr} {cn qual fld : Str}
/-- the wrapper of ValueError.__init__, called: the args are laid anew -/
theorem wrap_call {u e t0 : Addr} {rest : List Value} {Q : Value → Shared → Prop} {nm q : Str} {N : Addr} {bs bm : List Value} {hdct : Bool} {sn : List Str} {sub : List Value} {ab : Bool} {col : Option Bool} {dd : Option Addr} {k0 k1 k2 k3 k5 : Option Value}
    (hC : s.heap.get? C = some (excClassObj nm q C N bs bm hdct sn sub ab col dd k0 k1 k2 k3 k5 "ValueError.__new__")) (he : s.heap.get? e = some (HandSPX.excO C t0)) (hu : s.heap.get? u = some (kxs_mw "ValueError.__init__" e)) (hrest : rest.length ≤ sizeLine)
    (hq : ∀ h' t1, (∀ b o, b ≠ e → s.heap.get? b = some o → h'.get? b = some o) → h'.get? e = some (HandSPX.excO C t1) → Q .none { s with heap := h' }) :
    wpAny (model prog w) A (call (.ref u) rest) Q E s := by
  obtain ⟨hh, g, d, tk, os⟩ := s
  refine wpAny_call (codeAny_of_tree ?_)
  show wpAny _ A.in1 (callAny (.ref u) ⟨rest, []⟩) _ _ _
  simp only [callAny]
  refine wpAny_bind (wpAny_load hu ?_)
  simp only [kxs_mw, show (Value.type "method-wrapper" == Value.type "method" || Value.type "method-wrapper" == Value.type "builtin_function_or_method" || Value.type "method-wrapper" == Value.type "method-wrapper") = true by decide, if_true]
  refine KFB.if_so (by decide) ?_
  refine wpAny_bind (check_bound_init F.excBase_ValueError.toExcCallFacts hC he rfl ?_)
  refine wpAny_bind (wpAny_pure (wpAny_pure ?_))
  refine ⟨plainId_quiet F.excBase_ValueError.init.plain _, codeAny_builtin F.excBase_ValueError.initEntry ?_⟩
  exact exc_init_tree (cls := .ref C) (t0 := t0) (dv := none) (c2 := .none) (c3 := .none) (b4 := .bool false) he hrest fun h' keep obj _ => hq h' _ keep obj
end
end K72
namespace K72
open PySem PySem.Spec PyProof.Rows
open PySem.W PySem.Calls
section
variable {prog : Program} {w : World} {A : Around} {E : Value → Shared → Prop} {R : Result → Shared → Prop} {s : Shared} {K : Frag} {mg mb : Str → Option Value} {C fI : Addr} {cn qual : Str}
theorem init_place (T : OwnX prog K mg C fI cn qual "place" d_NoPlace_init) {x t0 : Addr} {v : Value} (X : K.In s.heap) (G : s.heap.Ns mainGlobals mg) (Bn : s.heap.Ns builtinsNs mb) (hbb : ∀ y : Str, y ≠ "__name__" → mb y = bootBuiltins y) (hlim : s.heap.NoLimit)
    (hx : s.heap.get? x = some (HandSPX.excO C t0)) (hnx : K.lookup x = none) (hroom : A.depth < recursionLimit)
    (hq : ∀ h' tk dx t1, Left s.heap h' x C dx t1 "place" v → R (.ok (.ret .none)) { s with heap := h', toks := tk }) :
    codeAny (model prog w) A (.call (.ref fI) ⟨[.ref x, v], []⟩) R s := by
  obtain ⟨oc, od, kV, doc, pm, an, cda, ct, osl, cc, ho, hcd, ⟨ccl, cdd, vs, ccs, file, tf, hcode, hvs, hfile⟩, cl, cld, csl, hcell⟩ := T.fn
  obtain ⟨nm, q, N, bs, bm, sn, sub, ab, col, dd, k0, k1, k2, k3, k5, hC, hbm⟩ := T.cls
  have hcl : clsIn K C = some { name := nm, bases := bs, mro := .ref C :: bm, ns := N, qualname := q, hasDict := true, slotNames := sn, subclasses := sub, abstract := ab, collection := col, hasDel := false } := by unfold clsIn; rw [hC] <;> rfl
  refine ks_codeAny_call_defAt (fd := ksFn "__init__" qual (L2.defArgs d_NoPlace_init) (L2.defBody d_NoPlace_init) (L2.defScope d_NoPlace_init) .none kV doc pm an (.ref cda) ct cc) (body := L2.defBody d_NoPlace_init) (binds := [("self", .ref x), ("place", v)])
    hroom (X _ _ ho) rfl hlim (codeRec_of X hcd) rfl (BindsTo.of_eq rfl) (show ∀ y ∈ (L2.defScope d_NoPlace_init).names, y.2 ≠ .cell by decide +kernel) (locs rfl) (fun h₁ hns k₁ => ?_) rfl rfl rfl
  have X₁ : K.In h₁ := X.keeps k₁
  have hx₁ := k₁ _ _ hx
  have xL : s.heap.objs.size ≠ x := Nat.ne_of_gt (Heap.lt_size hx)
  show _root_.PySem.wpAt _ _ _ (execs _ (ksEnv qual (L2.defScope d_NoPlace_init) s.heap.objs.size fI (.ref cda) cc)) _ _ _
  refine ks_wpAt_execs_cons (ks_wpAt_Expr_any (ks_wpAt_MethodCall ?_))
  refine ks_wpAt_super_base (env := ksEnv qual (L2.defScope d_NoPlace_init) s.heap.objs.size fI (.ref cda) cc) rfl rfl rfl rfl (X₁ _ _ ho) rfl rfl rfl (X₁ _ _ hcode) rfl hvs hfile T.top ?_
  refine ks_loadName_global rfl rfl (loadGlobal_builtin (env := ksEnv qual (L2.defScope d_NoPlace_init) s.heap.objs.size fI (.ref cda) cc) (G.keeps k₁) T.ms (Bn.keeps k₁) ((hbb _ (by decide +kernel)).trans (by kernel_rfl)) ⟨rfl, ?_⟩)
  refine wpAny_loadName_free rfl rfl rfl ⟨_, X₁ _ _ hcell, rfl⟩ ?_
  refine wpAny_loadName_local rfl rfl hns rfl ?_
  refine ks_wpAny_isType_cls (X₁ _ _ hC) rfl ⟨rfl, ?_⟩
  refine ks_wpAny_call_super (X₁ _ _ hC) rfl hx₁ rfl (fun c e => by cases e) (looks_mroIn X₁ T.me) (fun h₂ e₂ k₂ => ?_)
  have X₂ : K.In h₂ := X₁.keeps k₂
  have hx₂ := k₂ _ _ hx₁
  have I₂ : InstAt h₂ x (HandSPX.excO C t0) C none := ⟨hx₂, rfl, rfl, trivial⟩
  have hsup := T.sup
  unfold ks_superIn at hsup
  rw [hcl] at hsup
  refine kxs_getMethod kxs_ValueError e₂ (looks_opaque X₂ T.opq) (l₀ := .ref C :: bm) (fun A Q E s k q => wpAny_bind ((looks_clsIn X₂ hcl) A _ E s k (wpAny_pure q))) rfl X₂ hsup (I₂.type.andThen (looks_subIn X₂ T.sub)) (ks_ne X₂ I₂ hcl) rfl ?_
  have k₃ : ∀ b o, h₂.get? b = some o → (h₂.push (kxs_mw "ValueError.__init__" x)).get? b = some o := fun b o e => Heap.get?_push_of_some _ e
  have hu₃ : (h₂.push (kxs_mw "ValueError.__init__" x)).get? h₂.objs.size = some (kxs_mw "ValueError.__init__" x) := Heap.get?_push_at rfl rfl
  refine kxs_callWith (i := "ValueError.__init__") (x := x) rfl (evalArgs_plain (Calls.spliced_cons (Calls.Constant_str (k := 0) (pos := ⟨0, 0, 0, 0⟩) (Calls.spliced_nil ⟨hu₃, ?_⟩))))
  refine wrap_call (X₂.keeps k₃ _ _ hC) (k₃ _ _ hx₂) hu₃ (by show 1 ≤ sizeLine; rw [sizeLine_eq]; decide) fun h₄ t₄ k₄ hx₄ => ?_
  have k₁₄ : ∀ b o, b ≠ x → h₁.get? b = some o → h₄.get? b = some o := fun b o hb e => k₄ b o hb (k₃ b o (k₂ b o e))
  have k₀₄ : ∀ b o, b ≠ x → s.heap.get? b = some o → h₄.get? b = some o := fun b o hb e => k₁₄ b o hb (k₁ b o e)
  have X₄ : K.In h₄ := fun a o e => k₁₄ a o (fun z => by rw [z, hnx] at e; cases e) (X₁ a o e)
  have hns₄ := ns_but hns k₁₄ xL
  have z₁ : s.heap.objs.size < h₁.objs.size := hns.lt
  have z₄ : s.heap.objs.size < h₄.objs.size := hns₄.lt
  refine ks_wpAt_execs_cons (wpAt_of_wpAny (plainObj_wpAny_Assign_Attribute ?_))
  refine wpAny_Name (wpAny_loadName_local rfl rfl hns₄ rfl ?_) (by decide)
  refine wpAny_Name (wpAny_loadName_local rfl rfl hns₄ rfl ?_) (by decide)
  refine set_plain X₄ (ox := HandSPX.excO C t₄) (od := none) ⟨hx₄, rfl, rfl, trivial⟩ T.sa ?_
  refine HandSPX.exc_osa X₄ hx₄ hcl (show HandSPX.refsVE (.ref C :: bm) = true from hbm) rfl T.noN (fun h₅ tk₅ dx k₅ dn dne hx₅ hn₅ => ?_)
  show _root_.PySem.wpAt _ _ _ (execs _ _) _ _ _
  exact wpAt_of_wpAny (wpAny_execs_nil (hq h₅ tk₅ dx t₄ ⟨fun b o hb e => k₅ b o hb (k₀₄ b o hb e), hx₅, Nat.le_of_lt (Nat.lt_of_lt_of_le z₄ dn), dne, hn₅⟩))
end
end K72
namespace K72
open PySem PySem.Spec PyProof.Rows L2
/-- the heap without a place that is new -/
theorem part {h h' : Heap} {a : Addr} (k : ∀ b o, h.get? b = some o → h'.get? b = some o) (n : h.get? a = none) :
    ∃ G : Heap, (∀ b o, h.get? b = some o → G.get? b = some o) ∧ (∀ b o, G.get? b = some o → h'.get? b = some o) ∧ G.get? a = none ∧ ∀ b, b ≠ a → G.get? b = h'.get? b := by
  obtain ⟨G, g1, g2⟩ := restrict h' fun b => decide (b ≠ a)
  have gk : ∀ b, b ≠ a → G.get? b = h'.get? b := fun b hb => g1 b (decide_eq_true hb)
  have ga : G.get? a = none := g2 a (by simp)
  refine ⟨G, fun b o e => ?_, fun b o e => ?_, ga, gk⟩
  · exact (gk b (fun z => by rw [z, n] at e; cases e)).trans (k b o e)
  · by_cases hb : b = a
    · rw [hb, ga] at e; cases e
    · exact (gk b hb).symm.trans e
/-- the __init__ at fI, called with an object and a value, does its part -/
def InitOk (prog : Program) (w : World) (K : PySem.W.Frag) (mg : Str → Option Value) (C fI : Addr) (fld : Str) : Prop :=
  ∀ (A : Around) (R : Result → Shared → Prop) (s : Shared) (mb : Str → Option Value) (x t0 : Addr) (v : Value), K.In s.heap → s.heap.Ns mainGlobals mg → s.heap.Ns builtinsNs mb → (∀ y : Str, y ≠ "__name__" → mb y = bootBuiltins y) → s.heap.NoLimit →
    s.heap.get? x = some (PySem.HandSPX.excO C t0) → K.lookup x = none → A.depth < recursionLimit → (∀ h' tk dx t1, Left s.heap h' x C dx t1 fld v → R (.ok (.ret .none)) { s with heap := h', toks := tk }) →
    codeAny (model prog w) A (.call (.ref fI) ⟨[.ref x, v], []⟩) R s
/-- what a call of the class leaves -/
structure Made (h h' : Heap) (e C d t1 : Addr) (fld : Str) (v : Value) : Prop where
  keep : ∀ b o, h.get? b = some o → h'.get? b = some o
  new : h.get? e = none
  obj : h'.get? e = some { cls := .ref C, dict := some d, data := .fields #[.ref t1, .none, .none, .none, .bool false, .none] }
  dnew : h.get? d = none
  dne : d ≠ e
  ns : h'.Ns1 d (fun y => if y = fld then some v else none)
theorem none_big {h : Heap} {a : Addr} (b : h.objs.size ≤ a) : h.get? a = none := by
  cases e : h.get? a with
  | none => rfl
  | some o => exact absurd (Heap.lt_size e) (Nat.not_lt_of_le b)
section
variable {prog : Program} {w : World} {A : Around} {E : Value → Shared → Prop} {s : Shared} {K : PySem.W.Frag} {mg mb : Str → Option Value} {C fI : Addr} {cn qual fld : Str} {st : Stmt}
theorem made_own (T : OwnX prog K mg C fI cn qual fld st) (Z : InitOk prog w K mg C fI fld) {v : Value} {Q : Value → Shared → Prop} (X : K.In s.heap) (G : s.heap.Ns mainGlobals mg) (Bn : s.heap.Ns builtinsNs mb) (hbb : ∀ y : Str, y ≠ "__name__" → mb y = bootBuiltins y)
    (hlim : s.heap.NoLimit) (hroom : A.depth + 1 < recursionLimit) (hq : ∀ h' tk e d t1, Made s.heap h' e C d t1 fld v → Q (.ref e) { s with heap := h', toks := tk }) : wpAny (model prog w) A (call (.ref C) [v]) Q E s := by
  obtain ⟨nm, q, N, bs, bm, sn, sub, ab, col, dd, k0, k1, k2, k3, k5, hC, hbm⟩ := T.cls
  obtain ⟨hp, g, dr, tk, os⟩ := s
  have k : ∀ b o, hp.get? b = some o → ((hp.push (PySem.W.kdv_tup [v])).push (PySem.HandSPX.excO C hp.objs.size)).get? b = some o := fun b o e => Heap.get?_push_of_some _ (Heap.get?_push_of_some _ e)
  have hget : ((hp.push (PySem.W.kdv_tup [v])).push (PySem.HandSPX.excO C hp.objs.size)).get? (hp.objs.size + 1) = some (PySem.HandSPX.excO C hp.objs.size) := by heap_get
  have hnx : K.lookup (hp.objs.size + 1) = none := by
    cases e : K.lookup (hp.objs.size + 1) with
    | none => rfl
    | some o => exact absurd (Nat.lt_of_succ_lt (Heap.lt_size (X _ _ e))) (Nat.lt_irrefl _)
  refine wpAny_call (PySem.HandSPX.call_own F.excBase_ValueError (fun Y => PySem.HandSPX.refsVE_contains Y bm hbm) (X _ _ hC) (PySem.W.looks_findIn X T.iC) (fun self => PySem.W.bind_fn X self T.tC) (by show 1 ≤ sizeLine; rw [sizeLine_eq]; omega) ?_)
  refine Z _ _ ⟨(hp.push (PySem.W.kdv_tup [v])).push (PySem.HandSPX.excO C hp.objs.size), g, dr, tk, os⟩ mb _ _ v (X.keeps k) (G.keeps k) (Bn.keeps k) hbb (hlim.keeps k) hget hnx ?_ fun h' tk' dx t1 ⟨k', hx, dn, dne, hns⟩ => ?_
  · show A.depth + 1 < recursionLimit
    exact hroom
  · have old : ∀ b o, hp.get? b = some o → h'.get? b = some o := fun b o e => k' b o (Nat.ne_of_lt (Nat.lt_succ_of_lt (Heap.lt_size e))) (k b o e)
    have z : hp.objs.size ≤ dx := by
      have q := dn
      simp only [Heap.size_push] at q
      omega
    exact ⟨rfl, hq h' tk' (hp.objs.size + 1) dx t1 ⟨old, none_big (Nat.le_succ _), hx, none_big z, dne, hns⟩⟩
end
section
variable {X : Cx} {C fI : Addr} {cn qual fld : Str} {st : Stmt}
/-- C(e), to be raised: its field is what was handed in -/
def tOwnX (C : Addr) (fld : Str) (te : TE) : L2.St → Hp → XK → Prop := fun σ H Q => te σ H fun v H1 => ∀ d, H1 d = none → Q (.ref C) (some d) (upd H1 d (.xd [(fld, v)]))
theorem pmk_ownX {x : Str} {e : Expr} {te : TE} {p pos : Pos} {k : Nat} (T : OwnX X.prog X.K X.mg C fI x qual fld st) (Z : InitOk X.prog X.w X.K X.mg C fI fld) (r : Raises X (.ref C)) (hr : Room k X.A) (hg : Gl X x)
    (he : PE X e te) (hs : starEach [e] X.env = (false, eval e X.env) :: starEach [] X.env := by rfl) (hdb : (x == ("__debug__" : Str)) = false := by decide) :
    PMk X (.Call (.Name x p) [e] [] pos) (tOwnX C fld te) := by
  intro pins s σ H Q I h
  refine wpAny_Call_Name_kw (ld_glob I hg T.gC ?_ hdb)
  refine PySem.W.callWith_K (h₀ := X.base) I.ok.mod.kin T.kC ?_ hs (by rfl)
  rw [hs]
  show wpAny _ _ (spliced ((false, eval e X.env) :: backTo pos (starEach [] X.env))) _ _ s
  refine Calls.spliced_cons (thn (he.run pins s σ H _ I h) fun u s1 ⟨v, H1, I1, r1, q1⟩ => ?_)
  refine Calls.spliced_nil ⟨I1.kIn, ?_⟩
  show wpAny _ _ (call (.ref C) [u]) _ _ _
  obtain ⟨mb, hb1, hb2⟩ := I1.mod.blt
  refine made_own T Z I1.kIn (I1.mod.glob.keeps I1.bk) (hb1.keeps I1.bk) hb2 I1.nolimit (by have := hr.dp; omega) fun h' tk a d t1 M => ?_
  obtain ⟨G, k1, k2, ga, gk⟩ := part M.keep M.new
  have Hd := I1.hok.gone M.dnew
  have Ha := I1.hok.gone M.new
  have J : Inv X pins σ (upd H1 d (.xd [(fld, v)])) { s1 with heap := G, toks := tk } :=
    I1.laidN k1 M.dnew Hd ⟨_, M.ns.at fun o e => (gk d M.dne).trans e, fun f => relO_put (fs := []) (mA := fun _ => none) r1 (fun _ => True.intro) f⟩
  exact ⟨a, _, _, { s1 with heap := G, toks := tk }, _, .ref C, some d, rfl, J, k2, ga, M.obj, ⟨rfl, rfl⟩, rfl, rfl, by rw [upd_ne (Ne.symm M.dne)]; exact Ha, rfl, J.bare, r, q1 d Hd⟩
end
end K72

namespace K72
open PySem PySem.Spec PyProof.Rows L2
/-! ### defs that ask for the text of a list: nothing that is being written out may stand below -/
structure FnG (P : Program) (w : World) (K : PySem.W.Frag) (mg : Str → Option Value) (base : Heap) (k : Nat) (f : Addr) (fd : FuncData) (ps : List Str) (sp : Sp) : Prop where
  len : ∀ vs H Q E, sp vs H Q E → vs.length = ps.length
  run : ∀ (A : Around) (outer : List Env) (s : Shared) (H : Hp) (args : Args) (us : List Value) (vs : List V) (Q : VK) (E : XK), Room k A → A.guards = some [] →
    Env0 P w K mg base A outer s H → BindsTo s fd args (ps.zip us) → Vals vs us → sp vs H Q E → codeAny (model P w) A (.call (.ref f) args) (CR CX0 outer P w H s Q E) s
section
variable {P : Program} {w : World} {K : PySem.W.Frag} {mg : Str → Option Value} {base : Heap}
/-- Fun.ok for such a def -/
theorem okG {x qual : Str} {st : Stmt} {f : Addr} {fd : FuncData} {N ps : List Str} {k : Nat} {sp : Sp} (F : Fun K x qual st f fd) (S : FnScope N ps (defScope st)) (len : ∀ vs H Q E, sp vs H Q E → vs.length = ps.length)
    (hbody : ∀ (cdv : Value) (A : Around) (outer : List Env) (s : Shared) (H : Hp) (vs : List V) (Q : VK) (E : XK), Room k (A.deeper (envOfC qual (defScope st) s.heap.objs.size f cdv)) →
      (A.deeper (envOfC qual (defScope st) s.heap.objs.size f cdv)).guards = some [] → sp vs H Q E →
      ∃ t, PSs (cxOf CX0 P w K mg base N qual (defScope st) f cdv A outer s H E).nox (defBody st) t ∧ t { nx := fun _ H' => Q .non H', rt := Q } (start N vs) H) : FnG P w K mg base (k + 1) f fd ps sp := by
  obtain ⟨oc, od, kV, doc, pm, an, cdv, ct, osl, rfl, lk, hcd⟩ := F.ex
  refine ⟨len, ?_⟩
  intro A outer s H args us vs Q E room guards env binds rel wish
  have same : vs.length = ps.length := len vs H Q E wish
  have inK : K.In s.heap := env.mod.kin.keeps fun b o e => (env.bs b o e).1
  have noLim : s.heap.NoLimit := env.mod.nolimit.keeps fun b o e => (env.bs b o e).1
  refine codeAny_call_function room.depth (inK _ _ lk) rfl S.co S.gen rfl (PySem.W.codeRec_of inK hcd) (binds _ _ _ _ ?_)
  refine wpAny_newFunctionEnv_cells S.kind ?_ ?_
  · rintro ⟨n, v⟩ hy
    rcases S.par n (List.of_mem_zip hy).1 with loc | cel
    · exact Or.inl loc
    · exact Or.inr ⟨cel, PySem.W.cellsFrom_some _ _ _ (Or.inl cel)⟩
  · intro env' eq' s1 x
    subst eq'
    refine ⟨noLim.keeps x.toInCall.keep, codeAny_func ?_⟩
    obtain ⟨t, der, red⟩ := hbody cdv A outer s H vs Q E (room.deeper _) guards wish
    have I : Inv (cxOf CX0 P w K mg base N qual (defScope st) f cdv A outer s H E) [] (start N vs) H s1 := inv_start S room.hd env same rel x
    refine wpAny_mono (der.nox.run [] s1 (start N vs) H _ I red) ?_ (fun _ _ z => z)
    intro fl s' after
    cases fl with
    | brk =>
      obtain ⟨_, _, _, no⟩ := after
      exact no.elim
    | cont =>
      obtain ⟨_, _, _, no⟩ := after
      exact no.elim
    | next =>
      obtain ⟨σ', H', J, q⟩ := after
      exact ⟨V.non, H', J.os, J.bare, J.base, J.hok, rfl, q⟩
    | ret u =>
      obtain ⟨v, σ', H', J, rv, q⟩ := after
      exact ⟨v, H', J.os, J.bare, J.base, J.hok, rv, q⟩
end
section
variable {X : Cx} {k : Nat} {f : Addr} {fd : FuncData} {ps : List Str} {sp : Sp} {x : Str} {p pos : Pos} {e : Expr} {es : List Expr} {t : TA}
def tCallG (sp : Sp) (t : TA) : TE := fun σ H Q => t σ H fun vs H1 => sp vs H1 Q E0
/-- such a def, called -/
theorem pe_callG (F : FnG X.prog X.w X.K X.mg X.base k f fd ps sp) (hr : Room k X.A) (hgu : X.A.guards = some []) (hg : Gl X x) (hm : X.mg x = some (.ref f)) (hk : PySem.W.keepIn X.K (.ref f) = true) (hb : Binds X.K fd ps [])
    (ha : PA X (e :: es) t) (hdb : (x == ("__debug__" : Str)) = false := by decide) (he : starEach (e :: es) X.env = (false, eval e X.env) :: starEach es X.env := by rfl) (hpl : (backTo pos (starEach es X.env)).any (·.1) = false := by rfl) :
    PE X (.Call (.Name x p) (e :: es) [] pos) (tCallG sp t) := by
  refine ⟨?_⟩
  intro pins s σ H Q I red
  refine wpAny_Call_Name_kw (ld_glob I hg hm ?_ hdb)
  refine PySem.W.callWith_K (h₀ := X.base) I.ok.mod.kin hk (thn (ha.run pos pins s σ H _ I red) ?_) he hpl
  rintro us s1 ⟨vs, H1, I1, rel, wish⟩
  refine ⟨I1.kIn, ?_⟩
  have same : us.length = ps.length := rel.length.symm.trans (F.len _ _ _ _ wish)
  have bnd := hb s1 us I1.kIn (by rw [List.append_nil]; exact same)
  rw [List.append_nil] at bnd
  refine wpAny_call (codeAny_mono (F.run X.A X.stack s1 H1 ⟨us, []⟩ us vs Q E0 hr hgu I1.env0 bnd rel wish) ?_)
  intro r s' after
  cases r with
  | error _ => exact after.elim
  | ok fl =>
    cases fl with
    | ret _ => exact I1.after after
    | next => exact False.elim after
    | brk => exact False.elim after
    | cont => exact False.elim after
/-- what is written out of a value, u deep -/
inductive Wr (K : PySem.W.Frag) (u : Nat) (H : Hp) : V → Str → Prop where
  | int {i : Int} (h : i.natAbs.log2 < 1920) : Wr K u H (.int i) (toString i)
  | str {x : Str} (h : (reprText x).length ≤ sizeLine) : Wr K u H (.str x) (reprText x)
  | bl (b : Bool) : Wr K u H (.bl b) (if b then "True" else "False")
  | non : Wr K u H .non "None"
  | ref {a : Addr} {d : PyData} (hd : Dp K H (.ref a) d) (h1 : d.showable = true) (h2 : d.hasDict = false) (h3 : u + (d.depth + 1) < cLine) (h4 : d.shown.length ≤ sizeLine) : Wr K u H (.ref a) d.shown
def rRepr (K : PySem.W.Frag) (A : Around) : List V → Hp → VK → Prop := fun vs H Q => ∃ (x : V) (m : Str), vs = [x] ∧ Wr K A.units H x m ∧ Q (.str m) H
theorem call_repr (hgu : X.A.guards = some []) : CallR X (.builtin "repr") (rRepr X.K X.A) := by
  intro pins s σ H vs us Q I rel red
  obtain ⟨x, m, rfl, wr, q⟩ := red
  cases rel with
  | cons r1 rn =>
    cases rn
    cases wr with
    | int h =>
      obtain ⟨t, rfl⟩ := r1
      refine PySem.P.repr_of_int h ?_
      exact ⟨.str _, H, I.tok _, ⟨_, rfl⟩, q⟩
    | str h =>
      obtain ⟨t, rfl⟩ := r1
      refine PySem.P.repr_of_str ?_ h
      exact ⟨.str _, H, I.tok _, ⟨_, rfl⟩, q⟩
    | bl b =>
      cases r1
      refine PySem.P.repr_of_bool ?_
      exact ⟨.str _, H, I.tok _, ⟨_, rfl⟩, q⟩
    | non =>
      cases r1
      refine PySem.P.repr_of_none ?_
      exact ⟨.str _, H, I.tok _, ⟨_, rfl⟩, q⟩
    | ref hd h1 h2 h3 h4 =>
      cases r1
      obtain ⟨as, rd⟩ := Dp.reads I _ _ _ hd rfl
      refine repr_of_reads' (h₀ := s.heap) rd h1 (fun z => by rw [h2] at z; cases z) hgu h3 (fun _ _ e => e) ?_ h4
      intro h' u tk keep
      exact ⟨.str _, H, I.kept (t' := tk) keep, ⟨u, rfl⟩, q⟩
end
end K72
namespace K72
open PySem PySem.Spec PyProof.Rows L2
/-! ### the law's end, for a def that asks for the text of a list -/
theorem law_callG {P : Program} {w : World} {K : PySem.W.Frag} {mg mb : Str → Option Value} {k : Nat} {fa a : Addr} {fd : FuncData} {x : Str} {sp : Sp} {s₁ : Shared} {vs : List Value} {ns : List Int}
    (KX : K.In s₁.heap) (hns : s₁.heap.Ns mainGlobals mg) (hb : s₁.heap.Ns builtinsNs mb) (hbb : ∀ x : Str, x ≠ "__name__" → mb x = bootBuiltins x) (hlim : s₁.heap.NoLimit) (hg : s₁.gens = #[])
    (ha : s₁.heap.get? a = some { cls := .type "list", data := .seq vs.toArray }) (hi : IntsAre vs ns) (hl : ns.length ≤ sizeLine) (hr : Room k callerA)
    (F : ∀ base : Heap, K.In base → base.Ns mainGlobals mg → FnG P w K mg base k fa fd [x] sp) (hbind : ∀ (s : Shared) (u : Value), BindsTo s fd ⟨[u], []⟩ [(x, u)])
    (hsp : ∀ H : Hp, Only H → SqL K H a (ns.map V.int) → sp [.ref a] H (fun v _ => v = .bl true) E0) :
    codeAny (model P w) callerA (.call (.ref fa) ⟨[.ref a], []⟩) (fun r s' => r = .ok (.ret (.bool true)) ∧ OldK s₁.heap s'.heap ∧ s'.os = s₁.os ∧ AllBare s'.gens) s₁ := by
  have rel := vals_ints hi
  have many := hi.length
  -- H tracks the script at most
  have main : ∀ H : Hp, Only H → SqL K H a (ns.map V.int) → HOk P w H s₁.heap → (∀ b, H b ≠ none → b = a ∧ K.lookup a = none) →
      codeAny (model P w) callerA (.call (.ref fa) ⟨[.ref a], []⟩) (fun r s' => r = .ok (.ret (.bool true)) ∧ OldK s₁.heap s'.heap ∧ s'.os = s₁.os ∧ AllBare s'.gens) s₁ := by
    intro H only seq ok at_
    have untracked : ∀ {b : Addr} {o : Obj}, s₁.heap.get? b = some o → (b = a → K.lookup a ≠ none ∨ ∃ es ep, o.data = .dict es ep) → H b = none := by
      intro b o e h
      cases q : H b with
      | none => rfl
      | some u =>
        obtain ⟨ba, ka⟩ := at_ b (by rw [q]; simp)
        rcases h ba with h | ⟨es, ep, h⟩
        · exact absurd ka h
        · rw [ba, ha] at e
          cases e
          cases h
    have nsp : ∀ {b : Addr} {m : Str → Option Value}, s₁.heap.Ns b m → (hidT s₁.heap H).Ns b m := by
      rintro b m ⟨o, es, ep, e, d, r⟩
      exact ⟨o, es, ep, hidT_get e (untracked e fun _ => .inr ⟨es, ep, d⟩), d, r⟩
    have inB : K.In (hidT s₁.heap H) := by
      intro b o e
      refine hidT_get (KX b o e) (untracked (KX b o e) fun z => .inl ?_)
      rw [← z, e]
      simp
    have md : Mod K mg (hidT s₁.heap H) := ⟨inB, nsp hns, ⟨mb, nsp hb, hbb⟩, hlim.elim fun mc h => ⟨mc, nsp h.1, h.2⟩⟩
    have env : Env0 P w K mg (hidT s₁.heap H) callerA [] s₁ H := ⟨rfl, md, fun b o e => of_hidT e, Nat.le_of_eq (hidT_size _ _), trivial, fun b z => absurd (show b ∈ ([] : List Addr) from z) (by simp), ok, .of_eq hg⟩
    refine codeAny_mono ((F _ inB (nsp hns)).run callerA [] s₁ H ⟨[.ref a], []⟩ [.ref a] [.ref a] _ _ hr rfl env (hbind s₁ (.ref a)) (.cons rfl .nil) (hsp H only seq)) ?_
    intro r s' after
    cases r with
    | error e => exact after.elim
    | ok fl =>
      cases fl with
      | next => exact False.elim after
      | brk => exact False.elim after
      | cont => exact False.elim after
      | ret u =>
        obtain ⟨v, H', os, bare, un, ok', rv, ev⟩ := after
        have ev : v = .bl true := ev
        rw [ev] at rv
        obtain rfl : u = Value.bool true := rv
        refine ⟨rfl, OldK.of_keep ?_, os, bare⟩
        intro b o e
        cases q : H b with
        | none => exact un.keep b o e q (by intro z; exact absurd (show b ∈ ([] : List Addr) from z) (by simp)) (by simp)
        | some u =>
          rcases only b with z | ⟨ob, xs, z⟩
          · rw [q] at z
            cases z
          · obtain ⟨g1, _⟩ := ok b _ z
            obtain ⟨g2, _⟩ := ok' b _ (un.frzs b ob _ z)
            rw [e] at g1
            cases g1
            exact g2
  cases hk : K.lookup a with
  | some o =>
    have e := KX a o hk
    rw [ha] at e
    cases e
    refine main (fun _ => none) (fun _ => .inl rfl) (.inr ⟨_, vs.toArray, _, hk, rfl, rfl, rfl, ?_, by simpa using rel⟩) (fun b u z => ?_) (fun b z => absurd rfl z)
    · rw [List.size_toArray, many]
      exact hl
    · cases (show (none : Option HO) = some u from z)
  | none =>
    refine main (fun b => if b = a then some (.frz { cls := .type "list", data := .seq vs.toArray } (.lst (ns.map V.int))) else none) (fun b => ?_) (.inl (.inr ⟨{ cls := .type "list", data := .seq vs.toArray }, if_pos rfl⟩)) (fun b u z => ?_) (fun b z => ?_)
    · by_cases q : b = a
      · exact .inr ⟨_, _, if_pos q⟩
      · exact .inl (if_neg q)
    · by_cases q : b = a
      · have e := (if_pos q).symm.trans z
        cases e
        subst q
        exact ⟨ha, by rw [List.length_map]; exact hl, vs, _, rel, ha⟩
      · have e := (if_neg q).symm.trans z
        cases e
    · by_cases q : b = a
      · exact ⟨q, hk⟩
      · exact absurd (if_neg q) z
theorem walkG {l : PySem.W.OpenLaw} {n k : Nat} {q : Program} {loose : List Str} {XP : (Str → Option Value) → Heap → Prop} {YP : World → Heap → Prop} {d : DefRec} {K : Params → PySem.W.Frag} {sp : World → Sp} {x : Str}
    (hn : l.most = some n) (hn2 : n ≤ sizeLine) (hdf : d.params.defaults = []) (hr : Room k callerA) (hY : ∀ (w : World) (h : Heap), YP w h → (K w.params).In h)
    (F : ∀ (w : World) (mg : Str → Option Value) (fa : Addr) (h : Heap), (K w.params).In h → h.Ns mainGlobals mg → mg d.name = some (.ref fa) →
      ∃ fd : FuncData, (∀ (s : Shared) (u : Value), BindsTo s fd ⟨[u], []⟩ [(x, u)]) ∧ ∀ base : Heap, (K w.params).In base → base.Ns mainGlobals mg → FnG l.prog w (K w.params) mg base k fa fd [x] (sp w))
    (hsp : ∀ (w : World) (H : Hp) (a : Addr) (ns : List Int), ns.length ≤ n → Only H → SqL (K w.params) H a (ns.map V.int) → sp w [.ref a] H (fun v _ => v = .bl true) E0) :
    PySem.W.WalkO q loose XP YP l.row.toRowW d [] (fun f vs => PySem.call f vs) := by
  refine Att.attach_call hn hdf ?_
  intro w s₀ s₁ mg mb fa o pm cd doc a vs ns G Y _ _ _ hmg hobj hints hlen hg
  have KX := hY w _ Y
  obtain ⟨fd, hb, hF⟩ := F w mg fa _ KX G.T.g hmg
  exact law_callG KX G.T.g G.T.b G.T.builtins G.T.nolimit hg hobj hints (Nat.le_trans hlen hn2) hr hF hb fun H only seq => hsp w H a ns hlen only seq
end K72

namespace K72
open PySem PySem.Spec PyProof.Rows L2
/-! ### cut, where the place is none; what is refused -/
/-- what is no number from 0 to n -/
def OddX (K : PySem.W.Frag) (H : Hp) (v : V) (n : Nat) : Prop := ∃ bi bb, Kind K H v bi bb ∧ ((∃ i : Int, v = .int i ∧ bi = true ∧ bb = false ∧ (decide ((0 : Int) ≤ i) && decide (i ≤ (n : Int))) = false) ∨ (bi && !bb) = false)
def spCutX (K : PySem.W.Frag) (C CW CN : Addr) : Sp := fun vs H _ E => ∃ (w : Addr) (W : WebV) (v : V), vs = [.ref w, v] ∧ WebAt K C CW H w W ∧ OddX K H v W.many ∧ ∀ d, H d = none → E (.ref CN) (some d) (upd H d (.xd [("place", v)]))
/-- what can be written out, and how -/
def Shown (K : PySem.W.Frag) (H : Hp) (v : V) : Prop := ∀ u : Nat, u + 64 < cLine → ∃ m : Str, Wr K u H v m
def spRefused (K : PySem.W.Frag) (C CW : Addr) : Sp := fun vs H Q _ => ∃ (w : Addr) (W : WebV) (v : V), vs = [.ref w, v] ∧ WebAt K C CW H w W ∧ OddX K H v W.many ∧ (∀ H', Same H H' → Shown K H' v) ∧ ∀ H', Same H H' → Q (.bl true) H'
section
variable {P : Program} {w : World} {K : PySem.W.Frag} {mg : Str → Option Value} {base : Heap}
theorem ok_cutX {f f1 fN C CW CN : Addr} {fd fd1 : FuncData} (F : Fun K "cut" "cut" d_cut f fd) (TW : CrsW K CW) (A1 : At P w K mg base CX0 2 "is_between" ["thing", "least", "most"] (spBetween K) f1 fd1)
    (TX : OwnX P K mg CN fN "NoPlace" "NoPlace.__init__" "place" d_NoPlace_init) (Z : InitOk P w K mg CN fN "place") (hb : PySem.W.subIn K (.ref CN) (.type "BaseException") = some true) (ht : PySem.W.typeIn K (.ref CN) = some (.type "type")) :
    FnOk P w K mg base (L2.CX P w) 3 f fd ["web", "place"] (spCutX K C CW CN) := by
  refine F.okX scCu (fun vs H Q E h => ?_) (fun cdv A outer s H vs Q E hr h => ?_)
  · obtain ⟨_, _, _, rfl, _⟩ := h
    rfl
  · obtain ⟨w0, W, v, rfl, hw, ⟨bi, bb, hk, odd⟩, q⟩ := h
    have r2 : Room 2 _ := hr.mono (by decide)
    refine ⟨_, pss_cons (ps_if (pt_not (pt_val (pe_call A1.G r2 rfl A1.m A1.k A1.b .nil pass0 (pa_cons (pv 1) (pa_cons pe_int (pa_cons (pe_fld (pv 0) rfl) pa_nil))))))
        (pss_one (ps_raise rfl (takes_of rfl rfl rfl rfl) (pmk_ownX TX Z (raises_own hb ht) r2 (by exact rfl) (pv 1)))) pss_nil) pss_never, ?_⟩
    obtain ⟨dx, bl, pl, ew, _⟩ := id hw
    refine ⟨_, rfl, _, rfl, w0, CW, dx, _, _, rfl, ew, TW.cl, TW.nm, webF_many .., v, 0, _, bi, bb, rfl, hk, ?_⟩
    rcases odd with ⟨i, rfl, rfl, rfl, no⟩ | no
    · refine .inl ⟨i, rfl, rfl, rfl, _, rfl, ?_⟩
      rw [no]
      exact iteT ⟨_, rfl, fun d hd => q d hd⟩
    · exact .inr ⟨no, _, rfl, iteT ⟨_, rfl, fun d hd => q d hd⟩⟩
theorem scRefd : FnScope ["made", "odd", "e"] ["made", "odd"] (defScope d_law_refused) := ⟨rfl, rfl, rfl, by decide +kernel, rfl, by decide +kernel, by decide +kernel⟩
theorem ok_refused {f f1 C CW CN : Addr} {fd fd1 : FuncData} (F : Fun K "_law_refused" "_law_refused" d_law_refused f fd) (hrepr : mg "repr" = none) (hx : PySem.W.exmOne K (.ref CN) (.ref CN) = some true) (mN : mg "NoPlace" = some (.ref CN)) (XF : XfC K CN) (hno : PySem.W.findIn K (.ref CN) "place" = some none)
    (G1 : FnOk P w K mg base (L2.CX P w) 3 f1 fd1 ["web", "place"] (spCutX K C CW CN)) (m1 : mg "cut" = some (.ref f1)) (k1 : PySem.W.keepIn K (.ref f1) = true) (b1 : Binds K fd1 ["web", "place"] []) :
    FnG P w K mg base 5 f fd ["made", "odd"] (spRefused K C CW) := by
  refine okG F scRefd (fun vs H Q E h => ?_) (fun cdv A outer s H vs Q E hr hgu h => ?_)
  · obtain ⟨_, _, _, rfl, _⟩ := h
    rfl
  · obtain ⟨w0, W, v, rfl, hw, odd, shown, q⟩ := h
    have r3 : Room 3 _ := hr.mono (by decide)
    refine ⟨_, pss_cons (ps_try_as (i := 2) (tb := fun W => tDrop (tCallS (spCutX K C CW CN) (fun σ => WE W σ) (tCons (tVar 0) (tCons (tVar 1) tNil))))
        rfl rfl scRefd.nd rfl rfl ⟨by exact rfl, by decide, .inl mN⟩ takes_none5
        (fun W pn xe tk _ => pss_one (ps_expr (pe_callS G1 r3 rfl m1 k1 b1 (fun σ => passAt tk σ) (pa_cons (pv 0) (pa_cons (pv 1) pa_nil)))))
        (ts := fun a cls d => tRet (tOp rEq (tCB (rRepr K (A.deeper (envOfC "_law_refused" (defScope d_law_refused) s.heap.objs.size f cdv))) (tCons (tXf a cls d CN "place" (tVar 2)) tNil)) (tCB (rRepr K (A.deeper (envOfC "_law_refused" (defScope d_law_refused) s.heap.objs.size f cdv))) (tCons (tVar 1) tNil)))) (fun a oe cls d pn hz hf => by
          exact pss_one (ps_ret (pe_cmpR op_eq (pe_callB (call_repr hgu) (by rfl) hrepr (by decide +kernel) (pa_cons (pe_xf XF hno hz hf (pv 2)) pa_nil)) (pe_callB (call_repr hgu) (by rfl) hrepr (by decide +kernel) (pa_cons (pv 1) pa_nil)) (nomark _)))))
      (pss_one (ps_ret pe_bl)), ?_⟩
    have un := hr.units
    refine ⟨_, rfl, _, rfl, w0, W, v, rfl, hw, odd, fun dd hdd => ?_⟩
    have s1 : Same H (upd H dd (.xd [("place", v)])) := same1 hdd
    refine ⟨true, hx, fun _ a na => ?_, fun z => nomatch z⟩
    obtain ⟨m, wr⟩ := shown _ s1 _ un
    refine ⟨_, rfl, rfl, rfl, dd, _, v, rfl, upd_same, rfl, v, m, rfl, wr, _, rfl, v, m, rfl, wr, rfl, ?_⟩
    have e : decide (V.str m = V.str m) = true := decide_eq_true rfl
    rw [e]
    exact q _ s1
end
end K72

namespace K72
open PySem PySem.Spec PyProof.Rows L2
/-! ### == and != of webs that are alike -/
/-- two shares of one number -/
def RSh (C : Addr) : Addr → Addr → Hp → Prop := fun a b H => ∃ q : Rat, ShQ C H a q ∧ ShQ C H b q
/-- two webs of one kind -/
def RWeb (K : PySem.W.Frag) (C CW : Addr) : Addr → Addr → Hp → Prop := fun a b H => ∃ W : WebV, WebAt K C CW H a W ∧ WebAt K C CW H b W
theorem rsh_mon {C : Addr} : ∀ a b H H', Ext H H' → RSh C a b H → RSh C a b H' := fun _ _ _ _ e ⟨q, h1, h2⟩ => ⟨q, h1.mono e, h2.mono e⟩
/-- what stands in a bed -/
def DItem (C : Addr) : Eqv := fun x y H => DFlat x y H ∨ DIns C (RSh C) x y H
theorem mon_item {C : Addr} : Mon (DItem C) := mon_flat.or (mon_ins rsh_mon)
theorem flat_int (i : Int) (H : Hp) : DFlat (.int i) (.int i) H := ⟨rfl, rfl, by unfold eqV; simp⟩
theorem item_sh {C : Addr} {H : Hp} {a b : Addr} {q : Rat} (h1 : ShQ C H a q) (h2 : ShQ C H b q) : DItem C (.ref a) (.ref b) H := by
  obtain ⟨d1, e1⟩ := id h1
  obtain ⟨d2, e2⟩ := id h2
  exact .inr ⟨a, b, d1, d2, _, _, rfl, rfl, e1, e2, q, h1, h2⟩
theorem bed_eq {K : PySem.W.Frag} {C : Addr} {H : Hp} {s t : Addr} {b : Bed} (h1 : BedAt K C H s b) (h2 : BedAt K C H t b) : DTup K (DItem C) (.ref s) (.ref t) H := by
  obtain ⟨x, y, a1, a2, a3⟩ := h1
  obtain ⟨u, v, c1, c2, c3⟩ := h2
  exact ⟨s, t, _, _, rfl, rfl, a1, c1, .cons (.inl (flat_int _ _)) (.cons (.inl (flat_int _ _)) (.cons (item_sh a2 c2) (.cons (item_sh a3 c3) .nil)))⟩
theorem beds_eq {K : PySem.W.Frag} {C : Addr} {H : Hp} {l m : Addr} {bs : List Bed} (h1 : WBedsT K C H l bs) (h2 : WBedsT K C H m bs) : DList (DTup K (DItem C)) (.ref l) (.ref m) H := by
  obtain ⟨ss, e1, a1⟩ := h1
  obtain ⟨ts, e2, a2⟩ := h2
  refine ⟨l, m, _, _, rfl, rfl, e1, e2, by rw [List.length_map, List.length_map, a1.len, a2.len], fun i x y hx hy => ?_⟩
  rw [List.getElem?_map] at hx hy
  obtain ⟨s, hs, rfl⟩ := Option.map_eq_some_iff.mp hx
  obtain ⟨t, ht, rfl⟩ := Option.map_eq_some_iff.mp hy
  have il : i < bs.length := by
    have := (List.getElem?_eq_some_iff.mp hs).1
    have := a1.len
    omega
  exact bed_eq (a1.all i s _ hs (List.getElem?_eq_getElem il)) (a2.all i t _ ht (List.getElem?_eq_getElem il))
def pnd (ps : List Nat) : PyData := .tuple ((ps.map fun n : Nat => (n : Int)).map PyData.int)
theorem can_ints : ∀ ns : List Int, PyData.canLayAll0 (ns.map PyData.int) = true
  | [] => by simp [PyData.canLayAll0]
  | n :: r => by simp [PyData.canLayAll0, PyData.canLay0, can_ints r]
theorem dep_ints : ∀ ns : List Int, PyData.depthAll (ns.map PyData.int) ≤ 1
  | [] => by simp [PyData.depthAll]
  | n :: r => by
    have := dep_ints r
    simp only [List.map_cons, PyData.depthAll, PyData.depth]
    omega
theorem can_pnd : ∀ pss : List (List Nat), PyData.canLayAll0 (pss.map pnd) = true
  | [] => by simp [PyData.canLayAll0]
  | n :: r => by
    have := can_ints (n.map fun n : Nat => (n : Int))
    simp [PyData.canLayAll0, PyData.canLay0, pnd, can_pnd r]
    simpa using this
theorem dep_pnd : ∀ pss : List (List Nat), PyData.depthAll (pss.map pnd) ≤ 2
  | [] => by simp [PyData.depthAll]
  | n :: r => by
    have h1 := dep_pnd r
    have h2 := dep_ints (n.map fun n : Nat => (n : Int))
    simp only [List.map_cons, PyData.depthAll, PyData.depth, pnd]
    omega
theorem shaped_of {ds : List PyData} (h1 : PyData.canLayAll0 ds = true) (h2 : PyData.depthAll ds ≤ 10) : SeqAt.shaped (.list ds) = true := by
  have h3 : PyData.depth (.list ds) ≤ 64 := by simp only [PyData.depth]; omega
  show (PyData.canLay0 (.list ds) && decide (PyData.depth (.list ds) ≤ 64)) = true
  rw [Bool.and_eq_true]
  exact ⟨by simp only [PyData.canLay0]; exact h1, decide_eq_true h3⟩
theorem shaped_ofT {ds : List PyData} (h1 : PyData.canLayAll0 ds = true) (h2 : PyData.depthAll ds ≤ 10) : SeqAt.shaped (.tuple ds) = true := by
  have h3 : PyData.depth (.tuple ds) ≤ 64 := by simp only [PyData.depth]; omega
  show (PyData.canLay0 (.tuple ds) && decide (PyData.depth (.tuple ds) ≤ 64)) = true
  rw [Bool.and_eq_true]
  exact ⟨by simp only [PyData.canLay0]; exact h1, decide_eq_true h3⟩
theorem eqv_self {d : PyData} (h : SeqAt.shaped d = true) : PyData.eqv d d = true := by
  refine SeqAt.eqv_refl _ ?_
  unfold SeqAt.shaped at h
  rw [Bool.and_eq_true] at h
  exact h.1
theorem dp_list {K : PySem.W.Frag} {H : Hp} {α : Type} {R : Addr → α → Prop} {f : α → PyData} (h : ∀ a x, R a x → Dp K H (.ref a) (f x)) : ∀ {qs : List Addr} {ws : List α}, All2 R qs ws → DpAll K H (qs.map V.ref) (ws.map f)
  | [], [], _ => .nil
  | [], _ :: _, a => by have := a.len; simp at this
  | _ :: _, [], a => by have := a.len; simp at this
  | q :: r, w :: t, a => .cons (h q w (a.all 0 q w rfl rfl)) (dp_list h ⟨by have := a.len; simpa using this, fun i x y hx hy => a.all (i + 1) x y (by simpa using hx) (by simpa using hy)⟩)
theorem dp_part {K : PySem.W.Frag} {H : Hp} {t : Addr} {ps : List Nat} (h : PartsAt K H t ps) : Dp K H (.ref t) (pnd ps) := by
  unfold PartsAt at h
  rw [natV_map] at h
  exact .tup h (dps_ints _)
section
variable {P : Program} {w : World} {K : PySem.W.Frag} {mg : Str → Option Value} {base : Heap}
theorem scShEq : FnScope ["self", "other"] ["self", "other"] (defScope d_Share_eq) := ⟨rfl, rfl, rfl, by decide +kernel, rfl, by decide +kernel, by decide +kernel⟩
theorem ok_sheq {f C CN : Addr} {fd : FuncData} (F : Fun K "__eq__" "Share.__eq__" d_Share_eq f fd) (T : Txt K mg C CN) (IsSh : ∀ H p q, ShQ C H p q → TyX K H (.ref p) (.ref C)) (me : PySem.W.kitOne K (.ref C) (.ref C) = some true) : FnOk P w K mg base CX0 1 f fd ["self", "other"] (spEq (RSh C)) := by
  refine F.ok scShEq (fun vs H Q E h => ?_) (fun cdv A outer s H vs Q E hr h => ?_)
  · obtain ⟨_, _, rfl, _⟩ := h
    rfl
  · obtain ⟨a, b, rfl, ⟨x, ⟨dx, ha⟩, hb⟩, q⟩ := h
    have tb := IsSh _ _ _ hb
    obtain ⟨dy, hb⟩ := hb
    refine ⟨_, pss_one (ps_ret (pe_and (pe_callB call_isi (by rfl) T.isi (by decide +kernel) (pa_cons (pv 1) (pa_cons (pe_glob (v := .ref C) rfl T.mgC rfl) pa_nil)))
      (pe_and (pe_cmpR op_eq (pe_fld (pv 0) rfl) (pe_fld (pv 1) rfl) (nomark _)) (pe_one (pe_cmpR op_eq (pe_fld (pv 0) rfl) (pe_fld (pv 1) rfl) (nomark _)))))), ?_⟩
    refine ⟨_, rfl, _, _, _, _, true, rfl, ClsV.own C, tb, me, true, rfl, iteT ?_⟩
    refine ⟨_, rfl, a, C, dx, _, _, rfl, ha, T.cl, T.nT, shf_top .., _, rfl, b, C, dy, _, _, rfl, hb, T.cl, T.nT, shf_top .., rfl, _, rfl, ite2 (fun _ => ?_) (fun z => absurd (decide_eq_true rfl) z)⟩
    refine ⟨_, rfl, a, C, dx, _, _, rfl, ha, T.cl, T.nB, shf_bottom .., _, rfl, b, C, dy, _, _, rfl, hb, T.cl, T.nB, shf_bottom .., rfl, ?_⟩
    have e : decide (V.int ((x.den : Nat) : Int) = V.int ((x.den : Nat) : Int)) = true := decide_eq_true rfl
    rw [e]
    exact q _ Ext.rfl'
theorem scWbEq : FnScope ["self", "other"] ["self", "other"] (defScope d_Web_eq) := ⟨rfl, rfl, rfl, by decide +kernel, rfl, by decide +kernel, by decide +kernel⟩
theorem ok_webeq {f f1 C CW : Addr} {fd fd1 : FuncData} (F : Fun K "__eq__" "Web.__eq__" d_Web_eq f fd) (TW : CrsW K CW) (Y : TxtW mg C) (hW : mg "Web" = some (.ref CW)) (IsW : ∀ H p dx fs, H p = some (.ins CW dx fs) → TyX K H (.ref p) (.ref CW)) (me : PySem.W.kitOne K (.ref CW) (.ref CW) = some true)
    (G1 : FnOk P w K mg base CX0 1 f1 fd1 ["self", "other"] (spEq (RSh C))) (at1 : PySem.W.findIn K (.ref C) "__eq__" = some (some (.ref f1))) (is1 : PySem.W.isFn K (.ref f1) = true) (b1 : Binds K fd1 ["self", "other"] []) :
    FnOk P w K mg base CX0 4 f fd ["self", "other"] (spEq (RWeb K C CW)) := by
  refine F.ok scWbEq (fun vs H Q E h => ?_) (fun cdv A outer s H vs Q E hr h => ?_)
  · obtain ⟨_, _, rfl, _⟩ := h
    rfl
  · obtain ⟨a, b, rfl, ⟨W, ⟨dx, b1', p1, ea, hb1, hp1, g⟩, ⟨dy, b2, p2, eb, hb2, hp2, _⟩⟩, q⟩ := h
    have rc : RcG (cxOf CX0 P w K mg base ["self", "other"] "Web.__eq__" (defScope d_Web_eq) f cdv A outer s H E).nox 3 (DList (DTup K (DItem C))) :=
      rcG_list (mon_tup mon_item) (eqG_tup mon_item ((eqG_flat.mono (Nat.zero_le 1)).or (eqG_ins G1 at1 is1 b1 pass0)))
    refine ⟨_, pss_cons (ps_if (pt_not (pt_val (pe_callB call_isi (by rfl) Y.isi (by decide +kernel) (pa_cons (pv 1) (pa_cons (pe_glob (v := .ref CW) rfl hW rfl) pa_nil))))) (pss_one (ps_ret pe_bl)) pss_nil)
      (pss_one (ps_ret (pe_and (pe_cmpR op_eq (pe_fld (pv 0) rfl) (pe_fld (pv 1) rfl) (nomark _)) (pe_and (pe_cmpR (op_eqG rc hr) (pe_fld (pv 0) rfl) (pe_fld (pv 1) rfl) (nomark _)) (pe_one (pe_cmpR (op_eqD hr.units) (pe_fld (pv 0) rfl) (pe_fld (pv 1) rfl) (nomark _))))))), ?_⟩
    refine ⟨_, rfl, _, _, _, _, true, rfl, ClsV.own CW, IsW _ _ _ _ eb, me, true, rfl, iteF ?_⟩
    refine ⟨_, rfl, a, CW, dx, _, _, rfl, ea, TW.cl, TW.nm, webF_many .., _, rfl, b, CW, dy, _, _, rfl, eb, TW.cl, TW.nm, webF_many .., rfl, _, rfl, ite2 (fun _ => ?_) (fun z => absurd (decide_eq_true rfl) z)⟩
    refine ⟨_, rfl, a, CW, dx, _, _, rfl, ea, TW.cl, TW.nb, webF_beds .., _, rfl, b, CW, dy, _, _, rfl, eb, TW.cl, TW.nb, webF_beds .., beds_eq hb1 hb2, fun H1 x1 => ⟨_, rfl, iteT ?_⟩⟩
    refine ⟨_, rfl, a, CW, dx, _, _, rfl, x1 _ _ ea, TW.cl, TW.np, webF_parts .., _, rfl, b, CW, dy, _, _, rfl, x1 _ _ eb, TW.cl, TW.np, webF_parts .., ?_⟩
    obtain ⟨us, u1, u2⟩ := WPartsT.mono hp1 x1
    obtain ⟨vs, v1, v2⟩ := WPartsT.mono hp2 x1
    have sh : SeqAt.shaped (.list (W.parts.map pnd)) = true := shaped_of (can_pnd _) (Nat.le_trans (dep_pnd _) (by decide))
    refine ⟨_, _, .lst (SqL.of u1) (dp_list (fun _ _ r => dp_part r) u2), .lst (SqL.of v1) (dp_list (fun _ _ r => dp_part r) v2), sh, sh, ?_⟩
    rw [eqv_self sh]
    exact q _ x1
end
section
variable {X : Cx} {n : Nat} {C f : Addr} {A : Around} {pins : List (Addr × Obj)} {s : Shared} {σ : L2.St} {H : Hp} {x y : Addr} {R : Addr → Addr → Hp → Prop}
/-- the own == of the class at C stands at f and keeps its promise for what R tells -/
structure OwnR (X : Cx) (n : Nat) (C f : Addr) (R : Addr → Addr → Hp → Prop) : Prop where
  fn : ∃ fd ps, FnOk X.prog X.w X.K X.mg X.base CX0 n f fd ps (spEq R) ∧ Binds X.K fd ps []
  at_ : PySem.W.findIn X.K (.ref C) "__eq__" = some (some (.ref f))
  isf : PySem.W.isFn X.K (.ref f) = true
theorem own_run (O : OwnR X n C f R) (sb : Sub X n A) (I : Inv X pins σ H s) (hr : R x y H) :
    wpAny (model X.prog X.w) A (call (.ref f) [.ref x, .ref y]) (fun q s' => q = .bool true ∧ ∃ H', Inv X pins σ H' s' ∧ Ext H H') X.xe s := by
  obtain ⟨fd, ps, F, hb⟩ := O.fn
  have hsp : spEq R [.ref x, .ref y] H (fun z H' => z = .bl true ∧ Ext H H') E0 := ⟨x, y, rfl, hr, fun H' e => ⟨rfl, e⟩⟩
  have e0 : Env0 X.prog X.w X.K X.mg X.base A X.stack s H := by
    have e := I.env0
    exact ⟨by rw [sb.fr]; exact e.frames, e.mod, e.bs, e.bsz, e.funs, e.frf, e.hok, e.bare⟩
  have hl := F.len _ _ _ _ hsp
  have r2 : Vals [V.ref x, V.ref y] [Value.ref x, Value.ref y] := .cons rfl (.cons rfl .nil)
  have bb := hb s [.ref x, .ref y] I.kIn (by simpa using hl)
  rw [List.append_nil] at bb
  refine wpAny_call (codeAny_mono (F.run A X.stack s H ⟨[.ref x, .ref y], []⟩ [.ref x, .ref y] [.ref x, .ref y] _ E0 sb.room e0 bb r2 hsp) fun q s' hq => ?_)
  cases q with
  | error e => exact hq.elim
  | ok fl =>
    cases fl with
    | ret z =>
      obtain ⟨y, H', I', ry, ey, eH⟩ := I.after hq
      subst ey
      cases ry
      exact ⟨rfl, H', I', eH⟩
    | next => exact False.elim hq
    | brk => exact False.elim hq
    | cont => exact False.elim hq
theorem own_ne (O : OwnR X n C f R) (sb : Sub X (n + 2) A) (I : Inv X pins σ H s) (hne : PySem.W.findIn X.K (.ref C) "__ne__" = some (some (.builtin "object.__ne__"))) (hob : PySem.W.subIn X.K (.ref C) (.type "object") = some true)
    {dx dy : Addr} {fs gs : List (Str × V)} (hx : H x = some (.ins C dx fs)) (hy : H y = some (.ins C dy gs)) (hr : R x y H) :
    wpAny (model X.prog X.w) A (richCompare .NotEq (.ref x) (.ref y)) (fun q s' => q = .bool false ∧ ∃ H', Inv X pins σ H' s' ∧ Ext H H') X.xe s := by
  obtain ⟨m1, J, _⟩ := ins_get I.hok hx
  obtain ⟨od, J, _⟩ := J.look
  obtain ⟨m2, J', _⟩ := ins_get I.hok hy
  obtain ⟨od', J', _⟩ := J'.look
  have isob : PySem.W.Looks (model X.prog X.w) s.heap (isInstance (.ref x) (.type "object")) true := J.type.andThen (PySem.W.looks_subIn I.kIn hob)
  have body : ∀ {B : Around} {Q : Fin → Shared → Prop}, Sub X (n + 1) B → (∀ s', (∃ H', Inv X pins σ H' s' ∧ Ext H H') → Q (.done (.ret (.bool false))) s') → wpAny (model X.prog X.w) B (Builtin.«object.__ne__» ⟨[.ref x, .ref y], []⟩) Q X.xe s := fun {B Q} sb1 hq => by
    unfold Builtin.«object.__ne__»
    refine wpAny_bind (wpAny_of_eq (a := ((Value.ref x : Value), [Value.ref y])) (by first | rfl | (simp only [slotArgs]; rfl)) ?_)
    dsimp only
    refine wpAny_bind (wpAny_cRoomFor sb1.room.units0 ?_)
    refine wpAny_bind (PySem.W.ifBound_K I.kIn J O.at_ O.isf (wpAny_mono (own_run O (sb1.mono (Nat.le_succ n)) I hr) (fun q s' z => ?_) fun _ _ z => z))
    obtain ⟨rfl, z⟩ := z
    dsimp only
    exact wpAny_bind (wpAny_truthy_bool (wpAny_pure (hq _ z)))
  have called : wpAny (model X.prog X.w) A (call (.builtin "object.__ne__") [.ref x, .ref y]) (fun q s' => q = .bool false ∧ ∃ H', Inv X pins σ H' s' ∧ Ext H H') X.xe s := by
    refine wpAny_call (codeAny_call_builtin F.cmp_object.ne.plain F.cmpEntry_ne (PySem.W.check_slot F.cmpKind_ne F.cmpSplit_ne isob (F.cmpArgs_ne _ _) ?_))
    exact body sb.in1 fun s' z => ⟨rfl, z⟩
  unfold richCompare
  simp only [oneThing_ref]
  refine wpAny_holding (wpAny_bind (wpAny_cRoomFor sb.room.units0 ?_))
  refine wpAny_bind (J.type.here (wpAny_bind (J'.type.here ?_)))
  rw [if_neg (show ¬ (Value.ref C != Value.ref C) = true by simp)]
  refine wpAny_bind (wpAny_pure ?_)
  simp only [Bool.false_eq_true, if_false]
  refine wpAny_bind (m := tryCompare (.ref x) _ (.ref y)) ?_
  unfold tryCompare
  have fin : wpAny (model X.prog X.w) A (call (.builtin "object.__ne__") ([.ref x] ++ [.ref y]) >>= fun v => pure (some v)) (fun o s' => ∃ q, o = some q ∧ q = .bool false ∧ ∃ H', Inv X pins σ H' s' ∧ Ext H H') X.xe s :=
    wpAny_bind (wpAny_mono called (fun q s' z => wpAny_pure ⟨q, rfl, z⟩) fun _ _ z => z)
  have asked : wpAny (model X.prog X.w) A (callSpecialIfBound? (.ref x) "__ne__" [.ref y]) (fun o s' => ∃ q, o = some q ∧ q = .bool false ∧ ∃ H', Inv X pins σ H' s' ∧ Ext H H') X.xe s := by
    simp only [callSpecialIfBound?, bindSpecialIfBound?]
    refine wpAny_holding (wpAny_bind (wpAny_bind (wpAny_bind (J.type.here ((PySem.W.looks_findIn I.kIn hne).here ?_)))))
    simp only [F.cmp_object.ne.bind]
    refine wpAny_bind (wpAny_askSetting (wpAny_ite ?_))
    split
    · exact wpAny_bind (wpAny_pure (wpAny_pure fin))
    · exact wpAny_tryCatch (wpAny_bind (wpAny_pure (wpAny_pure fin)))
  refine wpAny_bind (wpAny_mono asked (fun o s' z => ?_) fun _ _ z => z)
  obtain ⟨q, rfl, rfl, z⟩ := z
  exact wpAny_pure (wpAny_pure ⟨rfl, z⟩)
/-- x != y of two objects that are alike -/
def rNeR (C : Addr) (R : Addr → Addr → Hp → Prop) : R2 := fun x y H Q => ∃ (a b dx dy : Addr) (fs gs : List (Str × V)), x = .ref a ∧ y = .ref b ∧ H a = some (.ins C dx fs) ∧ H b = some (.ins C dy gs) ∧ R a b H ∧ ∀ H', Ext H H' → Q (.bl false) H'
theorem op_neR (O : OwnR X n C f R) (hr : Room (n + 2) X.A) (hne : PySem.W.findIn X.K (.ref C) "__ne__" = some (some (.builtin "object.__ne__"))) (hob : PySem.W.subIn X.K (.ref C) (.type "object") = some true) : OpR X (compareOp .NotEq) (rNeR C R) := by
  intro pins s σ H x y v u Q I rx ry h
  obtain ⟨a, b, dx, dy, fs, gs, rfl, rfl, ha, hb, r, q⟩ := h
  cases rx
  cases ry
  show wpAny (model X.prog X.w) X.A (richCompare .NotEq (.ref a) (.ref b)) (EP X pins σ Q) X.xe s
  refine wpAny_mono (own_ne O ⟨hr, rfl⟩ I hne hob ha hb r) (fun r s' z => ?_) fun _ _ z => z
  obtain ⟨rfl, H', I', e⟩ := z
  exact ⟨.bl _, H', I', rfl, q H' e⟩
end
end K72

/-! ### != of lists whose items have an own == -/
namespace K72.GN
open PySem PySem.SeqAt
open AutoSeq1 (wpAny_loadPart')
open MeetsSeq MeetsSeq2 MeetsSeq3 SeqRoads2
section
variable {prog : Program} {w : World} {A : Around} {R : Result → Shared → Prop}
theorem ne_loopG (l b : Addr) (N : Nat) (I : Nat → Shared → Prop) (hl : GQ.ListI prog w A (fun e s' => R (.error e) s') l b N I)
    (fin : ∀ s, I N s → R (.ok (.ret (.bool false))) s) (k : Nat) :
    ∀ i : Nat, N - i = k → i ≤ N → ∀ s, I i s →
      wpAny (model prog w) A.in1 (Builtin.«list.__eq__.loop» ⟨[.ref l, .ref b, rawInt i, rawInt 3], []⟩) (GQ.FinOf prog w A R) (fun e s' => R (.error e) s') s := by
  induction k with
  | zero =>
    intro i hk hi s h
    obtain ⟨items, items2, n, n2, hl1, hb1, hs1, hs2, _⟩ := hl _ _ h
    have hi' : i = N := by omega
    have hR : R (.ok (.ret (.bool false))) s := fin s (hi' ▸ h)
    obtain ⟨hp, g, d, tk, os⟩ := s
    wp_walk using wpAny_loadPart' hl1, wpAny_loadPart' hb1
    have hi1 : items[((i : Nat) : Int).toNat]? = none := by simp; omega
    have hi2 : items2[((i : Nat) : Int).toNat]? = none := by simp; omega
    rw [hi1, hi2]
    wp_walk using wpAny_loadPart' hl1, wpAny_loadPart' hb1
    show R (.ok (.ret (.bool (items.size != items2.size)))) _
    rw [hs1, hs2]
    simpa using hR
  | succ k ih =>
    intro i hk hi s h
    obtain ⟨items, items2, n, n2, hl1, hb1, hs1, hs2, turn⟩ := hl _ _ h
    have hlt : i < items.size := by omega
    have hlt2 : i < items2.size := by omega
    have ht := turn hlt hlt2
    obtain ⟨hp, g, d, tk, os⟩ := s
    wp_walk using wpAny_loadPart' hl1, wpAny_loadPart' hb1
    have hi1 : items[((i : Nat) : Int).toNat]? = some items[i] := by simp [hlt]
    have hi2 : items2[((i : Nat) : Int).toNat]? = some items2[i] := by simp [hlt2]
    have hc : ((i : Int) + 1) = ((i + 1 : Nat) : Int) := by omega
    rw [hi1, hi2]
    refine wpAny_bind (wpAny_mono ht (fun r s2 h2 => ?_) fun _ _ x => x)
    obtain ⟨hr, h2⟩ := h2
    subst hr
    have hrec := ih (i + 1) (by omega) (by omega) s2 h2
    obtain ⟨hp2, g2, d2, tk2, os2⟩ := s2
    wp_walk
    rw [hc]
    exact ⟨plainId_quiet plain_eq_loop _, codeAny_builtin entry_eq_loop (by
      rw [Around.under_plainId plain_eq_loop _]
      exact hrec)⟩
theorem list_neG (l b : Addr) (N : Nat) (I : Nat → Shared → Prop) (hl : GQ.ListI prog w A (fun e s' => R (.error e) s') l b N I)
    (fin : ∀ s, I N s → R (.ok (.ret (.bool false))) s) {s : Shared} (h : I 0 s) :
    wpAny (model prog w) A.in1 (Builtin.«list.__ne__» ⟨[.ref l, .ref b], []⟩) (GQ.FinOf prog w A R) (fun e s' => R (.error e) s') s := by
  obtain ⟨items, items2, n, n2, hl1, hb1, hs1, hs2, _⟩ := hl _ _ h
  have hrec := ne_loopG (A := A) (R := R) l b N I hl fin _ 0 rfl (Nat.zero_le _) s h
  obtain ⟨hp, g, d, tk, os⟩ := s
  have f3 := AutoSeq1.sub_list_list
  have hne : ¬ (items.size != items2.size) = true := by simp [hs1, hs2]
  wp_walk using wpAny_loadPart' hl1, wpAny_loadPart' hb1
  exact ⟨plainId_quiet plain_eq_loop _, codeAny_builtin entry_eq_loop (by
    rw [Around.under_plainId plain_eq_loop _]
    exact hrec)⟩
end
section
variable {prog : Program} {w : World} {A : Around} {E : Value → Shared → Prop} {s : Shared}
theorem rn_listG {l b : Addr} {N : Nat} {Q : Value → Shared → Prop} (hu : A.units < cLine) (I : Nat → Shared → Prop) (hl : GQ.ListI prog w A E l b N I)
    (fin : ∀ s, I N s → Q (.bool false) s) (h : I 0 s) : wpAny (model prog w) A (richCompare .NotEq (.ref l) (.ref b)) Q E s := by
  obtain ⟨items, items2, n, n2, hl1, hb1, _, _, _⟩ := hl _ _ h
  refine wpAny_richCompare_same_room (op := .NotEq) ⟨_, hl1, rfl⟩ ⟨_, hb1, rfl⟩ F.slot_list_ne (GQ.call_here F.slot_list_ne ⟨_, hl1, rfl⟩ F.entry_list_ne (F.args_list_ne_2 _ _) ?_) hu
  exact list_neG (R := wants (fun v s' => v ≠ .notImplemented ∧ Q v s') E) l b N I hl (fun s' q => ⟨(fun x => nomatch x), fin s' q⟩) h
end
end K72.GN
namespace K72
open PySem PySem.Spec PyProof.Rows L2
section
variable {X : Cx} {n : Nat} {D : Eqv}
/-- != gives False for what D says -/
def RcN (X : Cx) (n : Nat) (D : Eqv) : Prop :=
  ∀ (A : Around) (pins : List (Addr × Obj)) (s : Shared) (σ : L2.St) (H : Hp) (x y : V) (u v : Value), Sub X n A → Inv X pins σ H s → RelV x u → RelV y v → D x y H →
    wpAny (model X.prog X.w) A (richCompare .NotEq u v) (fun r s' => r = .bool false ∧ ∃ H', Inv X pins σ H' s' ∧ Ext H H') X.xe s
theorem rcN_list (hD : Mon D) (h : EqG X n D) : RcN X (n + 1) (DList D) := by
  intro A pins s σ H x y u v sb I rx ry d
  obtain ⟨a, b, xs, ys, rfl, rfl, ha, hb, p⟩ := d
  cases rx
  cases ry
  refine GN.rn_listG (N := xs.length) sb.room.units0 (fun _ s' => LoopI X pins σ H s') (fun i s' q => ?_) (fun s' q => ⟨rfl, q⟩) ⟨H, I, Ext.rfl'⟩
  obtain ⟨H1, I1, e1⟩ := id q
  obtain ⟨z, its, k, r, e⟩ := I1.hok a _ (e1 _ _ ha)
  obtain ⟨z2, its2, k2, r2, e2⟩ := I1.hok b _ (e1 _ _ hb)
  refine ⟨its.toArray, its2.toArray, k, k2, e, e2, by rw [List.size_toArray, ← r.length], by rw [List.size_toArray, ← r2.length, ← p.1], fun h1 h2 => ?_⟩
  exact turnG hD h sb p r r2 i h1 h2 s' q
/-- x != y of two lists that are alike -/
def rNeG (D : Eqv) : R2 := fun x y H Q => D x y H ∧ ∀ H', Ext H H' → Q (.bl false) H'
theorem op_neG (h : RcN X n D) (hr : Room n X.A) : OpR X (compareOp .NotEq) (rNeG D) := by
  intro pins s σ H x y v u Q I rx ry hq
  obtain ⟨d, q⟩ := hq
  show wpAny (model X.prog X.w) X.A (richCompare .NotEq v u) (EP X pins σ Q) X.xe s
  refine wpAny_mono (h X.A pins s σ H x y v u ⟨hr, rfl⟩ I rx ry d) (fun r s' z => ?_) fun _ _ x => x
  obtain ⟨hr', H', I', e⟩ := z
  subst hr'
  exact ⟨.bl false, H', I', rfl, q H' e⟩
/-- x != [] of a list -/
def rNe0 (K : PySem.W.Frag) : R2 := fun x y H Q => ∃ a b xs, x = .ref a ∧ y = .ref b ∧ SqL K H a xs ∧ SqL K H b [] ∧ Q (.bl (!xs.isEmpty)) H
theorem op_ne0 (hr : Room 0 X.A) : OpR X (compareOp .NotEq) (rNe0 X.K) := by
  intro pins s σ H x y v u Q I rx ry hq
  obtain ⟨a, b, xs, rfl, rfl, ha, hb, q⟩ := hq
  cases rx
  cases ry
  obtain ⟨its, r, p, _⟩ := I.list ha
  obtain ⟨its2, r2, p2, _⟩ := I.list hb
  cases r2
  show wpAny (model X.prog X.w) X.A (richCompare .NotEq (.ref a) (.ref b)) (EP X pins σ Q) X.xe s
  cases r with
  | nil => exact SeqAt.RcNeAt.lists p.isList p2.isList rfl hr.units0 (e := fun _ => true) (fun j h1 _ => absurd h1 (by simp)) X.prog X.w X.xe _ ⟨.bl false, H, I, rfl, q⟩
  | cons _ _ => exact SeqAt.RcNeAt.lists_lengths p.isList p2.isList (by simp) hr.units0 X.prog X.w X.xe _ ⟨.bl true, H, I, rfl, q⟩
end
/-! ### a def held by a name, called with keywords -/
structure HeldN (P : Program) (w : World) (K : PySem.W.Frag) (mg : Str → Option Value) (base : Heap) (k n : Nat) (ks : List Str) (gV : List V → List V → List V) (f : Addr) (sp : Sp) : Prop where
  ex : ∃ (fd : FuncData) (ps : List Str) (g : List Value → List Value → List Value), FnOk P w K mg base (fun _ _ _ _ _ _ => False) k f fd ps sp ∧ PySem.W.keepIn K (.ref f) = true ∧ KBn K fd ps n ks g gV
def tCallAN (i : Nat) (S : Addr → Sp → Prop) (n m : Nat) (gV : List V → List V → List V) (t tk : TA) : TE := fun σ H Q => ∃ f sp, σ[i]? = some (some (.ref f)) ∧ S f sp ∧ tCallN n m sp gV (fun _ _ _ => False) t tk σ H Q
section
variable {X : Cx} {k n i : Nat} {ks : List Str} {x : Str} {p pos : Pos} {e : Expr} {es : List Expr} {kws : List Keyword} {t tk : TA} {gV : List V → List V → List V}
theorem pe_callAN {S : Addr → Sp → Prop} (A : ∀ f sp, S f sp → HeldN X.prog X.w X.K X.mg X.base k n ks gV f sp) (hr : Room k X.A) (hN : X.N[i]? = some x) (hv : Vis X.env.scope x)
    (ha : PA X (e :: es) t) (hkw : PK X kws tk) (hall : (backToKw pos (keywordEach kws X.env)).all (·.1.isSome) = true := by rfl) (hks : (backToKw pos (keywordEach kws X.env)).filterMap (·.1) = ks := by rfl)
    (hdb : (x == ("__debug__" : Str)) = false := by decide) (hcd : (x == ("__classdict__" : Str)) = false := by decide) (he : starEach (e :: es) X.env = (false, eval e X.env) :: starEach es X.env := by rfl)
    (hpl : ((backTo pos (starEach (e :: es) X.env)).any (·.1) || (backToKw pos (keywordEach kws X.env)).any (·.1.isNone)) = false := by rfl) :
    PE X (.Call (.Name x p) (e :: es) kws pos) (tCallAN i S n ks.length gV t tk) := by
  refine ⟨fun pins s σ H Q I h => ?_⟩
  obtain ⟨f, sp, hs, hS, h⟩ := h
  obtain ⟨fd, ps, g, F, hk, hb⟩ := (A f sp hS).ex
  refine wpAny_Call_Name_kw (thn ((pe_var (pos := p) hN hv hdb hcd).run pins s σ H (fun v H1 => v = .ref f ∧ H1 = H) I ⟨.ref f, hs, rfl, rfl⟩) fun u s0 ⟨v, H0, I0, r0, q0⟩ => ?_)
  obtain ⟨rfl, rfl⟩ := q0
  cases r0
  refine PySem.W.callWith_KW (h₀ := X.base) I.ok.mod.kin hk hall (thn (ha.run pos pins s0 σ _ _ I0 h) fun us s1 ⟨vs, H1, I1, r, q⟩ => ?_) hpl he
  refine thn (hkw.run pos pins s1 σ H1 _ I1 q) fun ws s2 ⟨zs, H2, I2, rz, l1, l2, q2⟩ => ⟨I2.kIn, ?_⟩
  rw [hks]
  exact run_fnN F hr hb (fun _ _ _ _ _ _ _ z => z.elim) I2 r rz l1 l2 q2
end
end K72

namespace K72
open PySem PySem.Spec PyProof.Rows L2
/-! ### lists of shares of our own -/
theorem DayAsk.mono {K : PySem.W.Frag} {C CW : Addr} {H H' : Hp} {w d r : Addr} {W : WebV} {ds : List Int} {rain : List Rat} {R k0 : Nat} (h : DayAsk K C CW H w d r W ds rain R k0) (s : Same H H') : DayAsk K C CW H' w d r W ds rain R k0 :=
  ⟨h.web.mono s, Same.tup s h.dep, h.len, h.fall.mono s, h.ok⟩
theorem shl_snoc {C : Addr} {H N : Hp} {D p : Addr} {ps : List Addr} {qs : List Rat} {q : Rat} (hD : H D = none) (eD : N D = some (.lst (ps.map V.ref))) (hp : ShQs C N ps qs) (hq : ShQ C N p q) (few : qs.length < 100) (sN : Same H N) :
    ∃ acc, N D = some (.lst acc) ∧ acc.length < sizeLine ∧ ∃ us : List Addr, (upd N D (.lst (acc ++ [V.ref p]))) D = some (.lst (us.map V.ref)) ∧ ShQs C (upd N D (.lst (acc ++ [V.ref p]))) us (qs ++ [q]) ∧ Same H (upd N D (.lst (acc ++ [V.ref p]))) := by
  have kp : KeepL N (upd N D (.lst (ps.map V.ref ++ [V.ref p]))) := keep_put eD
  refine ⟨_, eD, ?_, ps ++ [p], by rw [List.map_append]; exact upd_same, (ShQs.put eD hp).snoc (kp.sh hq), fun a o ea => ?_⟩
  · rw [List.length_map, hp.len]
    exact Nat.lt_of_lt_of_le few (show 100 ≤ sizeLine by decide)
  · rw [upd_ne (ne_of_none ea hD)]
    exact sN _ _ ea
theorem sh_two {C : Addr} {H : Hp} {a b : Addr} {p q : Rat} (h1 : ShQ C H a p) (h2 : ShQ C H b q) (e : p = q) : ∃ (dx dy : Addr) (fs gs : List (Str × V)), H a = some (.ins C dx fs) ∧ H b = some (.ins C dy gs) ∧ RSh C a b H := by
  subst e
  obtain ⟨d1, e1⟩ := id h1
  obtain ⟨d2, e2⟩ := id h2
  exact ⟨d1, d2, _, _, e1, e2, _, h1, h2⟩
theorem gQ_at {l : List Rat} {i : Nat} (h : i < l.length) : gQ l i = l[i] := by
  unfold gQ
  rw [List.getElem?_eq_getElem h]
  rfl
theorem shl_eq {C : Addr} {H : Hp} {a b : Addr} {qs : List Rat} (h1 : ShL C H a qs) (h2 : ShL C H b qs) : DList (DIns C (RSh C)) (.ref a) (.ref b) H := by
  obtain ⟨ss, e1, a1⟩ := h1
  obtain ⟨ts, e2, a2⟩ := h2
  refine ⟨a, b, _, _, rfl, rfl, e1, e2, by rw [List.length_map, List.length_map, a1.len, a2.len], fun i x y hx hy => ?_⟩
  rw [List.getElem?_map] at hx hy
  obtain ⟨s, hs, rfl⟩ := Option.map_eq_some_iff.mp hx
  obtain ⟨t, ht, rfl⟩ := Option.map_eq_some_iff.mp hy
  have il : i < qs.length := by
    have := (List.getElem?_eq_some_iff.mp hs).1
    have := a1.len
    omega
  have h1 : ShQ C H s qs[i] := a1.all i s _ hs (List.getElem?_eq_getElem il)
  have h2 : ShQ C H t qs[i] := a2.all i t _ ht (List.getElem?_eq_getElem il)
  obtain ⟨d1, e1⟩ := id h1
  obtain ⟨d2, e2⟩ := id h2
  exact ⟨s, t, d1, d2, _, _, rfl, rfl, e1, e2, _, h1, h2⟩
end K72

namespace K72
open PySem PySem.Spec PyProof.Rows L2
/-! ### a day in the cut web and in the whole one, as the law asks -/
theorem sl_take {K : PySem.W.Frag} {d : Addr} {ds : List Int} {m : Nat} {H : Hp} {Q : VK} (hd : SqT K H d (ds.map V.int)) (hm : m ≤ ds.length) (k : ∀ (H' : Hp) (p : Addr), Same H H' → SqT K H' p ((ds.take m).map V.int) → Q (.ref p) H') : rSlA K (.ref d) none (some (m : Int)) H Q := by
  refine ⟨d, _, rfl, hd, fun h => k H d (Same.refl _) ?_, fun _ p hp => k _ p (same1 hp) ?_⟩
  · have h2 := h.2
    rw [HT.sIx_nat, List.length_map, Nat.min_eq_left hm] at h2
    rw [List.take_of_length_le (by omega)]
    exact hd
  · rw [cut_to, ← List.map_take]
    exact SqT.of upd_same
theorem sl_shl {K : PySem.W.Frag} {C l : Addr} {qs : List Rat} {m : Nat} {H : Hp} {Q : VK} (h : ShL C H l qs) (k : ∀ (H' : Hp) (p : Addr), Same H H' → ShL C H' p (qs.take m) → Q (.ref p) H') : rSlL K (.ref l) none (some (m : Int)) H Q := by
  obtain ⟨ss, e1, a1⟩ := h
  refine ⟨l, _, rfl, SqL.of e1, fun p hp => ?_⟩
  rw [cut_to, ← List.map_take]
  exact k _ p (same1 hp) ⟨_, upd_same, (ShQs.mono a1 (same1 hp)).take m⟩
theorem step_len {W : WebV} (g : GoodWeb W) {ds : List Int} (ld : ds.length = W.beds.length) (qs : List Rat) : (stepV W ds qs).length = W.beds.length := by
  have lB : (dayV W ds qs).2.length = W.beds.length := flow_all g _ qs
  unfold stepV addV movesV
  rw [List.length_map, List.length_zip, List.length_map, List.length_zip, lB]
  omega
def spDayR (K : PySem.W.Frag) (C CW : Addr) : Sp := fun vs H Q _ => ∃ (w u d r : Addr) (W : WebV) (n : Nat) (ds : List Int) (qs : List Rat), vs = [.ref w, .ref u, .int (n : Int), .ref d, .ref r] ∧ WorldOk W ∧ n ≤ W.many ∧ DayAsk K C CW H w d r W ds qs 105840 40 ∧ WebAt K C CW H u (cutW W n) ∧
  ∀ H', Same H H' → Q (.bl true) H'
section
variable {P : Program} {w : World} {K : PySem.W.Frag} {mg : Str → Option Value} {base : Heap}
abbrev drN : List Str := ["made", "upper", "number", "depths", "fall", "size", "mine", "its", "one", "other"]
theorem scDr : FnScope drN ["made", "upper", "number", "depths", "fall"] (defScope d_law_day_right) := ⟨rfl, rfl, rfl, by decide +kernel, rfl, by decide +kernel, by decide +kernel⟩
theorem ok_dayR {f f1 f3 f4 f5 fE C CW : Addr} {fd fd1 fd3 fd4 fd5 fdE : FuncData} (F : Fun K "_law_day_right" "_law_day_right" d_law_day_right f fd) (Y : TxtW mg C) (TW : CrsW K CW) (hzip : mg "zip" = none)
    (A1 : At P w K mg base CX0 1 "less" ["one", "other"] (spLessQ C) f1 fd1)
    (GB : FnOk P w K mg base CX0 8 f3 fd3 ["web", "depths", "rain"] (spBorne K C CW)) (mB : mg "borne" = some (.ref f3)) (kB : PySem.W.keepIn K (.ref f3) = true) (bB : KBn K fd3 ["web", "depths", "rain"] 2 ["rain"] (fun us ws => us ++ ws) (fun vs zs => vs ++ zs))
    (GW : FnOk P w K mg base CX0 8 f4 fd4 ["web", "depths", "rain"] (spWater K C CW)) (mW : mg "water" = some (.ref f4)) (kW : PySem.W.keepIn K (.ref f4) = true) (bW : KBn K fd4 ["web", "depths", "rain"] 2 ["rain"] (fun us ws => us ++ ws) (fun vs zs => vs ++ zs))
    (GS : FnOk P w K mg base CX0 8 f5 fd5 ["web", "depths", "rain"] (spStep K C CW)) (mS : mg "step" = some (.ref f5)) (kS : PySem.W.keepIn K (.ref f5) = true) (bS : KBn K fd5 ["web", "depths", "rain"] 2 ["rain"] (fun us ws => us ++ ws) (fun vs zs => vs ++ zs))
    (GE : FnOk P w K mg base CX0 1 fE fdE ["self", "other"] (spEq (RSh C))) (atE : PySem.W.findIn K (.ref C) "__eq__" = some (some (.ref fE))) (isE : PySem.W.isFn K (.ref fE) = true) (bE : Binds K fdE ["self", "other"] []) :
    FnOk P w K mg base CX0 9 f fd ["made", "upper", "number", "depths", "fall"] (spDayR K C CW) := by
  refine F.ok scDr (fun vs H Q E h => ?_) (fun cdv A outer s H vs Q E hr h => ?_)
  · obtain ⟨_, _, _, _, _, _, _, _, rfl, _⟩ := h
    rfl
  · obtain ⟨w0, u, d, r, W, n, ds, qs, rfl, ok, hn, Dq, hu, q⟩ := h
    have r0 : Room 0 _ := hr.mono (by decide)
    have r1 : Room 1 _ := hr.mono (by decide)
    have r2 : Room 2 _ := hr.mono (by decide)
    have r8 : Room 8 _ := hr.mono (by decide)
    have rn : RcN (cxOf CX0 P w K mg base drN "_law_day_right" (defScope d_law_day_right) f cdv A outer s H E).nox 2 (DList (DIns C (RSh C))) := rcN_list (mon_ins rsh_mon) (eqG_ins GE atE isE bE pass0)
    refine ⟨_, pss_cons (ps_set (i := 5) scDr.nd rfl (Or.inl rfl) (pe_callB call_len_seq (by rfl) Y.len PySem.boot_len (pa_cons (pe_fld (pv 1) rfl) pa_nil)))
      (pss_cons (ps_if (pt_cmpR (op_neG rn r2) (pe_callN GB r8 rfl mB kB bB pass0 (pa_cons (pv 1) (pa_cons (pe_slice sl_tupA (pv 3) po_none (po_some (pv 5))) pa_nil)) (pk_cons (pv 4) pk_nil))
          (pe_slice sl_list (pe_callN GB r8 rfl mB kB bB pass0 (pa_cons (pv 0) (pa_cons (pv 3) pa_nil)) (pk_cons (pv 4) pk_nil)) po_none (po_some (pv 5))) (nomark _)) (pss_one (ps_ret pe_bl)) pss_nil)
      (pss_cons (ps_if (pt_cmpR (op_neD hr.units) (pe_callN GS r8 rfl mS kS bS pass0 (pa_cons (pv 1) (pa_cons (pe_slice sl_tupA (pv 3) po_none (po_some (pv 5))) pa_nil)) (pk_cons (pv 4) pk_nil))
          (pe_slice sl_tupA (pe_callN GS r8 rfl mS kS bS pass0 (pa_cons (pv 0) (pa_cons (pv 3) pa_nil)) (pk_cons (pv 4) pk_nil)) po_none (po_some (pv 5))) (nomark _)) (pss_one (ps_ret pe_bl)) pss_nil)
      (pss_cons (ps_par (i := 6) (j := 7) rfl scDr.nd rfl rfl (by decide) rfl rfl (pa_cons (pe_callN GW r8 rfl mW kW bW pass0 (pa_cons (pv 1) (pa_cons (pe_slice sl_tupA (pv 3) po_none (po_some (pv 5))) pa_nil)) (pk_cons (pv 4) pk_nil))
          (pa_cons (pe_callN GW r8 rfl mW kW bW pass0 (pa_cons (pv 0) (pa_cons (pv 3) pa_nil)) (pk_cons (pv 4) pk_nil)) pa_nil)) (by rfl))
      (pss_cons (ps_if (PW.pt (pw_or (pt_cmpR (op_neG rn r2) (pe_slice sl_list (pv 6) po_none (po_some (pv 2))) (pe_slice sl_list (pv 7) po_none (po_some (pv 2))) (nomark _))
          (pw_or1 (pt_cmpR (op_ne0 r0) (pe_lc (own := [("one", 8), ("other", 9)]) (g := gTup K 2 (gCons (gName 8) (gCons (gName 9) gNil))) (by rfl) scDr.nd (pi_zipG false false (by rfl) hzip (pa_cons (pv 6) (pa_cons (pv 7) pa_nil))) (blkOk_by (own := [("one", 8), ("other", 9)]) (N := drN) (sc := defScope d_law_day_right) (by decide +kernel))
              (fun _ _ _ _ _ => pg_tup (by rfl) (pgs_cons (pg_name (i := 8) scDr.nd rfl (.inl rfl)) (pgs_cons (pg_name (i := 9) scDr.nd rfl (.inl rfl)) pgs_nil)))
              (fun _ _ _ _ _ => pts_one (pt_val (pe_call A1.G r1 rfl A1.m A1.k A1.b .nil pass0 (pa_cons (pv 9) (pa_cons (pv 8) pa_nil))))) (fun _ _ _ _ _ => pe_int)) (pe_lst pa_nil) (nomark _))))) (pss_one (ps_ret pe_bl)) pss_nil)
      (pss_one (ps_ret pe_bl)))))), ?_⟩
    have g := ok.good
    have few := g.few
    have m8 := g.m8
    have g' := (cutW_ok ok hn).good
    obtain ⟨dx, bl, pl, ew, ⟨ts, hb, hts⟩, _⟩ := id hu
    have lts : ts.length = cutB W n := by rw [hts.len, cutW_len]
    have ro : RainOk (cutW W n) 105840 40 qs := ⟨Dq.ok.len, Dq.ok.lim, Dq.ok.nn, Dq.ok.r0, Dq.ok.rlt, Dq.ok.k⟩
    have cb := cutB_le W n
    have ld := Dq.len
    have cl : cutB W n ≤ ds.length := by omega
    have Du : ∀ {M : Hp} {p : Addr}, Same H M → SqT K M p ((ds.take (cutB W n)).map V.int) → DayAsk K C CW M u p r (cutW W n) (ds.take (cutB W n)) qs 105840 40 := fun {M p} s e => ⟨hu.mono s, e, by rw [List.length_take, cutW_len]; omega, Dq.fall.mono s, ro⟩
    obtain ⟨cd2, cd1⟩ := cut_day ok hn ds qs
    have cst := cut_step ok hn ld qs
    refine ⟨_, rfl, u, CW, dx, _, _, rfl, ew, TW.cl, TW.nb, webF_beds .., bl, _, rfl, .inl (SqL.of hb), ?_⟩
    rw [List.length_map, lts]
    -- what the beds bear
    refine ⟨_, rfl, _, rfl, _, rfl, _, rfl, sl_take Dq.dep cl fun M1 p1 t1 e1 => ?_⟩
    refine ⟨_, rfl, rfl, rfl, u, p1, r, cutW W n, _, qs, _, _, rfl, Du t1 e1, fun M2 x1 t2 _ h1 => ?_⟩
    have n2 := t1.trans t2
    refine ⟨_, rfl, _, rfl, _, rfl, rfl, rfl, w0, d, r, W, ds, qs, _, _, rfl, Dq.mono n2, fun M3 x2 t3 _ h2 => ?_⟩
    refine ⟨_, rfl, _, rfl, sl_shl h2 fun M4 x3 t4 h3 => ?_⟩
    rw [cd2] at h1
    refine ⟨shl_eq (h1.mono (t3.trans t4)) h3, fun M5 t5 => ⟨false, rfl, iteF ?_⟩⟩
    have n5 := n2.trans (t3.trans (t4.trans t5))
    -- the next morning
    refine ⟨_, rfl, _, rfl, _, rfl, _, rfl, sl_take (Same.tup n5 Dq.dep) cl fun M6 p6 t6 e6 => ?_⟩
    refine ⟨_, rfl, rfl, rfl, u, p6, r, cutW W n, _, qs, _, _, rfl, Du (n5.trans t6) e6, fun M7 x7 t7 e7 => ?_⟩
    have n7 := n5.trans (t6.trans t7)
    refine ⟨_, rfl, _, rfl, _, rfl, rfl, rfl, w0, d, r, W, ds, qs, _, _, rfl, Dq.mono n7, fun M8 x8 t8 e8 => ?_⟩
    refine ⟨_, rfl, _, rfl, sl_take (SqT.of e8) (by rw [step_len g ld qs]; exact cb) fun M9 p9 t9 e9 => ?_⟩
    rw [cst] at e7
    have sh : SeqAt.shaped (.tuple (((stepV W ds qs).take (cutB W n)).map PyData.int)) = true := shaped_ofT (can_ints _) (Nat.le_trans (dep_ints _) (by decide))
    refine ⟨_, _, .tup (Same.tup (t8.trans t9) (SqT.of e7)) (dps_ints _), .tup e9 (dps_ints _), sh, sh, ?_⟩
    rw [eqv_self sh]
    refine ⟨false, rfl, iteF ?_⟩
    have n9 := n7.trans (t8.trans t9)
    -- the waters
    refine ⟨_, rfl, _, rfl, _, rfl, _, rfl, sl_take (Same.tup n9 Dq.dep) cl fun MA pA tA eA => ?_⟩
    refine ⟨_, rfl, rfl, rfl, u, pA, r, cutW W n, _, qs, _, _, rfl, Du (n9.trans tA) eA, fun MB l1 tB _ hB => ?_⟩
    have nB := n9.trans (tA.trans tB)
    refine ⟨_, rfl, _, rfl, _, rfl, rfl, rfl, w0, d, r, W, ds, qs, _, _, rfl, Dq.mono nB, fun MC l2 tC _ hC => ?_⟩
    refine ⟨_, _, rfl, ?_⟩
    have nC := nB.trans tC
    have hB := hB.mono tC
    have lw1 : (dayV (cutW W n) (ds.take (cutB W n)) qs).1.length = W.many := (day_is g' _ qs).lw
    have lw2 : (dayV W ds qs).1.length = W.many := (day_is g ds qs).lw
    have sz1 := (flow_szB g' (leadsV (gapsV (cutW W n) (ds.take (cutB W n)))) ro (Nat.le_refl _)).1
    have sz2 := (flow_szB g (leadsV (gapsV W ds)) Dq.ok (Nat.le_refl _)).1
    have tk : (dayV (cutW W n) (ds.take (cutB W n)) qs).1.take n = (dayV W ds qs).1.take n := by
      refine gQ_ext (by rw [List.length_take, List.length_take, lw1, lw2]) fun k hk => ?_
      rw [List.length_take] at hk
      have e := cd1 k (by omega)
      unfold gQ at e ⊢
      rw [List.getElem?_take, List.getElem?_take, if_pos (by omega), if_pos (by omega)]
      exact e
    refine ⟨_, rfl, _, rfl, _, rfl, sl_shl hB fun MD l3 tD hD => ?_⟩
    refine ⟨_, rfl, _, rfl, _, rfl, sl_shl (hC.mono tD) fun ME l4 tE hE => ?_⟩
    rw [tk] at hD
    refine ⟨shl_eq (hD.mono tE) hE, fun MF tF => ⟨false, rfl, iteF ?_⟩⟩
    have tDF := tD.trans (tE.trans tF)
    obtain ⟨c1, el1, hc1⟩ := hB.mono tDF
    obtain ⟨c2, el2, hc2⟩ := hC.mono tDF
    have nF := nC.trans tDF
    have lc1 := hc1.len
    have lc2 := hc2.len
    refine ⟨_, rfl, _, rfl, l1, l2, _, _, rfl, SqL.of el1, SqL.of el2, fun D3 hD3 => ?_⟩
    refine lc_it (walk_zipG (K := K) (j := false) (k := false) (a := l1) (b := l2) (xs := c1.map V.ref) (ys := c2.map V.ref) rfl) (fun i M => M D3 = some (.lst []) ∧ Same MF M) ⟨upd_same, same1 hD3⟩ ?_ ?_ ?_
    · rintro i M _ ⟨_, sM⟩
      exact ⟨SqL.of (sM _ _ el1), SqL.of (sM _ _ el2)⟩
    · rintro i x M M' hi ⟨eD, sM⟩ ⟨T1, x1, x2, rfl, hT, rfl, e1, e2⟩
      have e1 : (c1.map V.ref)[i]? = some x1 := e1
      have e2 : (c2.map V.ref)[i]? = some x2 := e2
      rw [List.getElem?_map] at e1 e2
      obtain ⟨p1, h1, rfl⟩ := Option.map_eq_some_iff.mp e1
      obtain ⟨p2, h2, rfl⟩ := Option.map_eq_some_iff.mp e2
      have i1 : i < (dayV (cutW W n) (ds.take (cutB W n)) qs).1.length := by have := (List.getElem?_eq_some_iff.mp h1).1; omega
      have i2 : i < (dayV W ds qs).1.length := by omega
      have u3 : Same M (upd M T1 (.tup [.ref p1, .ref p2])) := same1 hT
      refine ⟨T1, _, rfl, SqT.of upd_same, rfl, _, _, rfl, _, _, rfl, rfl, rfl, ?_⟩
      generalize upd M T1 (.tup [.ref p1, .ref p2]) = M2 at *
      have u2 := sM.trans u3
      have le := cut_less ok hn ds Dq.ok (show i < W.many by omega)
      rw [gQ_at i1, gQ_at i2] at le
      refine ⟨_, rfl, _, rfl, p2, p1, _, _, rfl, (ShQs.mono hc2 u2).all i _ _ h2 (List.getElem?_eq_getElem i2), (ShQs.mono hc1 u2).all i _ _ h1 (List.getElem?_eq_getElem i1), sz2 _ (List.getElem_mem i2), sz1 _ (List.getElem_mem i1), _, rfl, ?_⟩
      exact ite2 (fun h => absurd (of_decide_eq_true h) (Rat.not_lt.mpr le)) (fun _ => ⟨u3 _ _ eD, u2⟩)
    rintro MG ⟨eD, tG⟩
    refine ⟨(by show 0 ≤ sizeLine; decide), fun L hL => ?_⟩
    have tH : Same MG (upd MG L (.lst [])) := same1 hL
    refine ⟨D3, L, [], rfl, rfl, SqL.of (tH _ _ eD), SqL.of upd_same, false, rfl, iteF (q _ (nF.trans (tG.trans tH)))⟩
end
end K72

namespace K72
open PySem PySem.Spec PyProof.Rows L2
/-! ### the law: webs cut -/
theorem cut_cut {W : WebV} (ok : WorldOk W) {n o : Nat} (hn : n ≤ W.many) (ho : o ≤ W.many) : cutW (cutW W n) o = cutW W (min n o) := by
  have g := ok.good
  have g' := (cutW_ok ok hn).good
  have b : (cutW (cutW W n) o).beds = (cutW W (min n o)).beds := by
    have e1 : (cutW (cutW W n) o).beds = (cutW W n).beds.filter fun b => decide (b.s < o) := (filter_cut o g'.sorted).symm
    have e2 : (cutW W n).beds = W.beds.filter fun b => decide (b.s < n) := (filter_cut n g.sorted).symm
    have e3 : (cutW W (min n o)).beds = W.beds.filter fun b => decide (b.s < min n o) := (filter_cut _ g.sorted).symm
    rw [e1, e2, e3, List.filter_filter]
    refine List.filter_congr fun b _ => ?_
    by_cases h1 : b.s < o
    · by_cases h2 : b.s < n
      · rw [decide_eq_true h1, decide_eq_true h2, decide_eq_true (show b.s < min n o by omega)]
        rfl
      · rw [decide_eq_false h2, decide_eq_false (show ¬ b.s < min n o by omega), Bool.and_false]
    · rw [decide_eq_false h1, decide_eq_false (show ¬ b.s < min n o by omega), Bool.false_and]
  have p : (cutW (cutW W n) o).parts = (cutW W (min n o)).parts := by
    show (W.parts.take n ++ List.replicate (W.many - n) []).take o ++ List.replicate (W.many - o) [] = W.parts.take (min n o) ++ List.replicate (W.many - min n o) []
    have lp := ok.plen
    have lt : (W.parts.take n).length = n := by rw [List.length_take]; omega
    by_cases h : o ≤ n
    · rw [List.take_append_of_le_length (by omega), List.take_take, Nat.min_eq_left h, Nat.min_eq_right h]
    · rw [List.take_append, List.take_of_length_le (show (W.parts.take n).length ≤ o by omega), lt, List.take_replicate, List.append_assoc, List.replicate_append_replicate, Nat.min_eq_left (show n ≤ o by omega)]
      congr 2
      omega
  show WebV.mk W.many (cutW (cutW W n) o).beds (cutW (cutW W n) o).parts = WebV.mk W.many (cutW W (min n o)).beds (cutW W (min n o)).parts
  rw [b, p]
theorem same_at {M N : Hp} {D : Addr} {o : HO} (h : ∀ b u, b ≠ D → M b = some u → N b = some u) : Same (upd M D o) (upd N D o) := fun b u e => by
  by_cases z : b = D
  · rw [z] at e ⊢
    rw [upd_same] at e ⊢
    exact e
  · rw [upd_ne z] at e ⊢
    exact h b u z e
def Ups (K : PySem.W.Frag) (C CW : Addr) (H : Hp) (W : WebV) (m : Nat) (xs : List Addr) : Prop := xs.length = m ∧ ∀ (n : Nat) (x : Addr), xs[n]? = some x → WebAt K C CW H x (cutW W n)
theorem Ups.mono {K : PySem.W.Frag} {C CW : Addr} {H H' : Hp} {W : WebV} {m : Nat} {xs : List Addr} (h : Ups K C CW H W m xs) (s : Same H H') : Ups K C CW H' W m xs := ⟨h.1, fun n x e => (h.2 n x e).mono s⟩
theorem Ups.but {K : PySem.W.Frag} {C CW p : Addr} {H H' : Hp} {W : WebV} {m : Nat} {xs : List Addr} (h : Ups K C CW H W m xs) (b : But p H H') (s : SrcAt H p) : Ups K C CW H' W m xs := ⟨h.1, fun n x e => (h.2 n x e).but b s⟩
/-- what is handed in where a number is wanted -/
inductive OddV (H : Hp) (n : Nat) : V → Prop where
  | neg : OddV H n (.int (-1))
  | one : OddV H n (.int ((n : Int) + 1))
  | non : OddV H n .non
  | bl (b : Bool) : OddV H n (.bl b)
  | str : OddV H n (.str "1")
  | tup {a : Addr} : H a = some (.tup [.int 1]) → OddV H n (.ref a)
  | lst {a : Addr} : H a = some (.lst [.int 0]) → OddV H n (.ref a)
  | big : OddV H n (.int (10 ^ (12 : Int).toNat))
theorem OddV.odd {K : PySem.W.Frag} {H : Hp} {n : Nat} (n8 : n ≤ 8) {v : V} (h : OddV H n v) : OddX K H v n := by
  cases h with
  | neg => exact ⟨_, _, kind_int _, .inl ⟨_, rfl, rfl, rfl, by rw [decide_eq_false (show ¬ (0 : Int) ≤ -1 by decide), Bool.false_and]⟩⟩
  | one => exact ⟨_, _, kind_int _, .inl ⟨_, rfl, rfl, rfl, by rw [decide_eq_false (show ¬ (n : Int) + 1 ≤ (n : Int) by omega), Bool.and_false]⟩⟩
  | big => exact ⟨_, _, kind_int _, .inl ⟨_, rfl, rfl, rfl, by rw [decide_eq_false (show ¬ (10 : Int) ^ (12 : Int).toNat ≤ (n : Int) from fun z => absurd (Int.le_trans z (show (n : Int) ≤ 8 by omega)) (by decide)), Bool.and_false]⟩⟩
  | non => exact ⟨false, false, ⟨_, TyX.base .non, kit_ty (by decide +kernel), kit_ty (by decide +kernel)⟩, .inr rfl⟩
  | bl b => exact ⟨true, true, ⟨_, TyX.base (.bl b), kit_ty (by decide +kernel), kit_ty (by decide +kernel)⟩, .inr rfl⟩
  | str => exact ⟨false, false, ⟨_, TyX.base (.str _), kit_ty (by decide +kernel), kit_ty (by decide +kernel)⟩, .inr rfl⟩
  | tup e => exact ⟨false, false, ⟨_, TyX.base (.tup e), kit_ty (by decide +kernel), kit_ty (by decide +kernel)⟩, .inr rfl⟩
  | lst e => exact ⟨false, false, ⟨_, TyX.base (.lst e), kit_ty (by decide +kernel), kit_ty (by decide +kernel)⟩, .inr rfl⟩
theorem OddV.mono {H H' : Hp} {n : Nat} {v : V} (h : OddV H n v) (s : Same H H') : OddV H' n v := by
  cases h with
  | neg => exact .neg
  | one => exact .one
  | big => exact .big
  | non => exact .non
  | bl b => exact .bl b
  | str => exact .str
  | tup e => exact .tup (s _ _ e)
  | lst e => exact .lst (s _ _ e)
theorem OddV.shown {K : PySem.W.Frag} {H : Hp} {n : Nat} (n1 : 1 ≤ n) (n8 : n ≤ 8) {v : V} (h : OddV H n v) : Shown K H v := by
  intro u hu
  cases h with
  | neg => exact ⟨_, .int (by decide +kernel)⟩
  | one =>
    have h : n = 1 ∨ n = 2 ∨ n = 3 ∨ n = 4 ∨ n = 5 ∨ n = 6 ∨ n = 7 ∨ n = 8 := by omega
    rcases h with h | h | h | h | h | h | h | h <;> subst h <;> exact ⟨_, .int (by decide +kernel)⟩
  | big => exact ⟨_, .int (by decide +kernel)⟩
  | non => exact ⟨_, .non⟩
  | bl b => exact ⟨_, .bl b⟩
  | str => exact ⟨_, .str (Nat.le_trans (show (reprText "1").length ≤ 10 by decide +kernel) (show 10 ≤ sizeLine by decide))⟩
  | tup e =>
    have h : (PyData.tuple [.int 1]).depth ≤ 2 := by decide +kernel
    exact ⟨_, .ref (d := .tuple [.int 1]) (.tup (SqT.of e) (.cons (.int 1) .nil)) (by decide +kernel) rfl (by omega) (Nat.le_trans (show (PyData.tuple [.int 1]).shown.length ≤ 10 by decide +kernel) (show 10 ≤ sizeLine by decide))⟩
  | lst e =>
    have h : (PyData.list [.int 0]).depth ≤ 2 := by decide +kernel
    exact ⟨_, .ref (d := .list [.int 0]) (.lst (SqL.of e) (.cons (.int 0) .nil)) (by decide +kernel) rfl (by omega) (Nat.le_trans (show (PyData.list [.int 0]).shown.length ≤ 10 by decide +kernel) (show 10 ≤ sizeLine by decide))⟩
def spLaw (K : PySem.W.Frag) : Sp := fun vs H Q _ => ∃ (a : Addr) (ns : List Int), vs = [.ref a] ∧ SqL K H a (ns.map V.int) ∧ ns.length ≤ 63 ∧ ∀ H', Q (.bl true) H'
theorem law_told {K : PySem.W.Frag} {a : Addr} {H : Hp} {ns : List Int} (hl : ns.length ≤ 63) (hS : SqL K H a (ns.map V.int)) : spLaw K [.ref a] H (fun v _ => v = .bl true) fun _ _ _ => False := ⟨a, ns, rfl, hS, hl, fun _ => rfl⟩
section
variable {P : Program} {w : World} {K : PySem.W.Frag} {mg : Str → Option Value} {base : Heap}
abbrev lawN : List Str := ["script", "k", "source", "world", "made", "depths", "uppers", "number", "upper", "bed", "other", "day", "fall", "odd"]
theorem scLaw : FnScope lawN ["script"] (defScope d_law) := ⟨rfl, rfl, rfl, by decide +kernel, rfl, by decide +kernel, by decide +kernel⟩
theorem ok_law {f f1 f2 f3 f4 f6 f7 f8 f9 f10 f11 fC fS fE fE2 C CW : Addr} {fd fd1 fd2 fd3 fd4 fd6 fd7 fd8 fd9 fd10 fd11 fdC fdS fdE fdE2 : FuncData} (F : Fun K "law" "law" d_law f fd) (Y : TxtW mg C) (TW : CrsW K CW) (hrange : mg "range" = none) (hmin : mg "min" = none) (hmax : mg "max" = none)
    (A1 : At P w K mg base CX0 2 "_law_source" ["script", "k"] (spSource K) f1 fd1) (A2 : At P w K mg base CX0 5 "_law_world" ["source", "most_places"] (spWorld K) f2 fd2) (A3 : At P w K mg base CX0 7 "_law_made" ["world"] (spMadeW K C CW) f3 fd3)
    (A4 : At P w K mg base CX0 3 "_law_depths" ["source", "world"] (spDepthsL K) f4 fd4) (A6 : At P w K mg base CX0 4 "_law_falls" ["source", "world"] (spFalls K) f6 fd6) (A8 : At P w K mg base CX0 4 "_law_shares" ["told"] (spSharesL K C) f8 fd8)
    (A9 : At P w K mg base CX0 2 "_law_next" ["source", "many"] spNext f9 fd9) (A7 : At P w K mg base CX0 3 "_law_pick" ["source", "some"] (spPick K) f7 fd7)
    (A10 : At P w K mg base CX0 9 "_law_day_right" ["made", "upper", "number", "depths", "fall"] (spDayR K C CW) f10 fd10) (AC : At P w K mg base CX0 7 "cut" ["web", "place"] (spCutG K C CW) fC fdC)
    (GR : FnG P w K mg base 5 f11 fd11 ["made", "odd"] (spRefused K C CW)) (mR : mg "_law_refused" = some (.ref f11)) (kR : PySem.W.keepIn K (.ref f11) = true) (bR : Binds K fd11 ["made", "odd"] [])
    (GS : FnOk P w K mg base CX0 8 fS fdS ["web", "depths", "rain"] (spStep K C CW)) (mS : mg "step" = some (.ref fS)) (kS : PySem.W.keepIn K (.ref fS) = true) (bS : KBn K fdS ["web", "depths", "rain"] 2 ["rain"] (fun us ws => us ++ ws) (fun vs zs => vs ++ zs))
    (GE : FnOk P w K mg base CX0 1 fE fdE ["self", "other"] (spEq (RSh C))) (atE : PySem.W.findIn K (.ref C) "__eq__" = some (some (.ref fE))) (isE : PySem.W.isFn K (.ref fE) = true) (bE : Binds K fdE ["self", "other"] [])
    (GE2 : FnOk P w K mg base CX0 4 fE2 fdE2 ["self", "other"] (spEq (RWeb K C CW))) (atE2 : PySem.W.findIn K (.ref CW) "__eq__" = some (some (.ref fE2))) (isE2 : PySem.W.isFn K (.ref fE2) = true) (bE2 : Binds K fdE2 ["self", "other"] [])
    (hne : PySem.W.findIn K (.ref CW) "__ne__" = some (some (.builtin "object.__ne__"))) (hob : PySem.W.subIn K (.ref CW) (.type "object") = some true) : FnG P w K mg base 10 f fd ["script"] (spLaw K) := by
  refine okG F scLaw (fun vs H Q E h => ?_) (fun cdv A outer s H vs Q E hr hgu h => ?_)
  · obtain ⟨_, _, rfl, _⟩ := h
    rfl
  · obtain ⟨a, ns, rfl, hS, hl, q⟩ := h
    have r2 : Room 2 _ := hr.mono (by decide)
    have r3 : Room 3 _ := hr.mono (by decide)
    have r4 : Room 4 _ := hr.mono (by decide)
    have r5 : Room 5 _ := hr.mono (by decide)
    have r6 : Room 6 _ := hr.mono (by decide)
    have r7 : Room 7 _ := hr.mono (by decide)
    have r8 : Room 8 _ := hr.mono (by decide)
    have rb : RcN (cxOf CX0 P w K mg base lawN "law" (defScope d_law) f cdv A outer s H E).nox 3 (DList (DTup K (DItem C))) := rcN_list (mon_tup mon_item) (eqG_tup mon_item ((eqG_flat.mono (Nat.zero_le 1)).or (eqG_ins GE atE isE bE pass0)))
    have OW : OwnR (cxOf CX0 P w K mg base lawN "law" (defScope d_law) f cdv A outer s H E).nox 4 CW fE2 (RWeb K C CW) := ⟨⟨_, _, GE2, bE2⟩, atE2, isE2⟩
    refine ⟨_, pss_cons (ps_for PassesOwn.never rfl (pi_range1 (by rfl) hrange (pa_cons (pe_callB (call_max2 rfl) (by rfl) hmax (by decide +kernel) (pa_cons pe_int (pa_cons (pe_callB (call_min2 rfl) (by rfl) hmin (by decide +kernel) (pa_cons pe_int (pa_cons (pe_callB call_len_seq (by rfl) Y.len PySem.boot_len (pa_cons (pv 0) pa_nil)) pa_nil))) pa_nil))) pa_nil)) (pg_name (i := 1) scLaw.nd rfl (.inl rfl))
        (pss_cons (ps_set (i := 2) scLaw.nd rfl (Or.inl rfl) (pe_call A1.G r2 rfl A1.m A1.k A1.b .nil pass0 (pa_cons (pv 0) (pa_cons (pv 1) pa_nil))))
        (pss_cons (ps_set (i := 3) scLaw.nd rfl (Or.inl rfl) (pe_call A2.G r5 rfl A2.m A2.k A2.b .nil pass0 (pa_cons (pv 2) (pa_cons pe_int pa_nil))))
        (pss_cons (ps_set (i := 4) scLaw.nd rfl (Or.inr rfl) (pe_call A3.G r7 rfl A3.m A3.k A3.b .nil pass0 (pa_cons (pv 3) pa_nil)))
        (pss_cons (ps_set (i := 5) scLaw.nd rfl (Or.inl rfl) (pe_call A4.G r3 rfl A4.m A4.k A4.b .nil pass0 (pa_cons (pv 2) (pa_cons (pv 3) pa_nil))))
        (pss_cons (ps_setLc (i := 6) (own := [("number", 7)]) (g := gName 7) (by rfl) scLaw.nd rfl rfl (sw_true rfl rfl rfl (by decide +kernel)) (pi_range1 (by rfl) hrange (pa_cons (pe_op op_add (pe_ix ix_tup (pv 3) pe_int (fun _ _ => rfl)) pe_int) pa_nil))
            (blkOk_by (own := [("number", 7)]) (N := lawN) (sc := defScope d_law) (by decide +kernel)) (fun _ _ _ _ _ => pg_name (i := 7) scLaw.nd rfl (.inl rfl)) (fun _ _ _ _ _ => pts_nil)
            (fun _ _ _ _ _ => pe_call AC.G r7 rfl AC.m AC.k AC.b .nil pass0 (pa_cons (pv 4) (pa_cons (pv 7) pa_nil))))
        (pss_cons (ps_for PassesOwn.never rfl (pi_enum (by rfl) Y.enumerate (pa_cons (pv 6) pa_nil)) (pg_tup (by rfl) (pgs_cons (pg_name (i := 7) scLaw.nd rfl (.inr rfl)) (pgs_cons (pg_name (i := 8) scLaw.nd rfl (.inl rfl)) pgs_nil)))
          (pss_cons (ps_if (PW.pt (pw_or (pt_cmpR op_ne (pe_fld (pv 8) rfl) (pe_fld (pv 4) rfl) (nomark _))
              (pw_or1 (pt_cmpR (op_neG rb r3) (pe_fld (pv 8) rfl) (pe_lc (own := [("bed", 9)]) (g := gName 9) (by rfl) scLaw.nd (pi_list (pe_fld (pv 4) rfl)) (blkOk_by (own := [("bed", 9)]) (N := lawN) (sc := defScope d_law) (by decide +kernel)) (fun _ _ _ _ _ => pg_name (i := 9) scLaw.nd rfl (.inl rfl))
                (fun _ _ _ _ _ => pts_one (pt_cmpR op_lt (pe_ix (show IxR _ (rIxT K) from ix_tup) (pv 9) pe_int (fun _ _ => rfl)) (pv 7) (nomark _))) (fun _ _ _ _ _ => pv 9)) (nomark _))))) (pss_one (ps_ret pe_bl)) pss_nil)
          (pss_cons (ps_if (pt_cmpR (op_neD hr.units) (pe_fld (pv 8) rfl) (pe_op op_cat (pe_slice sl_list (pe_fld (pv 4) rfl) po_none (po_some (pv 7))) (pe_op op_rep (pe_lst (pa_cons (pe_tup pa_nil) pa_nil)) (pe_op op_sub (pe_fld (pv 4) rfl) (pv 7)))) (nomark _)) (pss_one (ps_ret pe_bl)) pss_nil)
          (pss_cons (ps_set (i := 10) scLaw.nd rfl (Or.inl rfl) (pe_call A9.G r2 rfl A9.m A9.k A9.b .nil pass0 (pa_cons (pv 2) (pa_cons (pe_op op_add (pe_ix ix_tup (pv 3) pe_int (fun _ _ => rfl)) pe_int) pa_nil))))
          (pss_one (ps_if (pt_cmpR (op_neR OW r6 hne hob) (pe_call AC.G r7 rfl AC.m AC.k AC.b .nil pass0 (pa_cons (pv 8) (pa_cons (pv 10) pa_nil)))
              (pe_ix ix_list (pv 6) (pe_callB (call_min2 rfl) (by rfl) hmin (by decide +kernel) (pa_cons (pv 7) (pa_cons (pv 10) pa_nil))) (fun _ _ => rfl)) (nomark _)) (pss_one (ps_ret pe_bl)) pss_nil))))))
        (pss_cons (ps_for PassesOwn.never rfl (pi_range1 (by rfl) hrange (pa_cons pe_int pa_nil)) (pg_name (i := 11) scLaw.nd rfl (.inl rfl))
          (pss_cons (ps_set (i := 12) scLaw.nd rfl (Or.inl rfl) (pe_call A8.G r4 rfl A8.m A8.k A8.b .nil pass0 (pa_cons (pe_call A6.G r4 rfl A6.m A6.k A6.b .nil pass0 (pa_cons (pv 2) (pa_cons (pv 3) pa_nil))) pa_nil)))
          (pss_cons (ps_for PassesOwn.never rfl (pi_enum (by rfl) Y.enumerate (pa_cons (pv 6) pa_nil)) (pg_tup (by rfl) (pgs_cons (pg_name (i := 7) scLaw.nd rfl (.inr rfl)) (pgs_cons (pg_name (i := 8) scLaw.nd rfl (.inl rfl)) pgs_nil)))
            (pss_one (ps_if (pt_not (pt_val (pe_call A10.G hr rfl A10.m A10.k A10.b .nil pass0 (pa_cons (pv 4) (pa_cons (pv 8) (pa_cons (pv 7) (pa_cons (pv 5) (pa_cons (pv 12) pa_nil)))))))) (pss_one (ps_ret pe_bl)) pss_nil)))
          (pss_one (ps_set (i := 5) scLaw.nd rfl (Or.inl rfl) (pe_callN GS r8 rfl mS kS bS pass0 (pa_cons (pv 4) (pa_cons (pv 5) pa_nil)) (pk_cons (pv 12) pk_nil)))))))
        (pss_cons (ps_set (i := 13) scLaw.nd rfl (Or.inl rfl) (pe_call A7.G r3 rfl A7.m A7.k A7.b .nil pass0 (pa_cons (pv 2) (pa_cons (pe_lst (pa_cons (pe_un un_neg pe_int) (pa_cons (pe_op op_add (pe_ix ix_tup (pv 3) pe_int (fun _ _ => rfl)) pe_int) (pa_cons pe_non (pa_cons pe_bl (pa_cons pe_str
            (pa_cons (pe_tup (pa_cons pe_int pa_nil)) (pa_cons (pe_lst (pa_cons pe_int pa_nil)) (pa_cons (pe_op op_pow pe_int pe_int) (pa_cons pe_bl pa_nil)))))))))) pa_nil))))
        (pss_one (ps_if (PW.pt (pw_or (pt_not (pt_val (pe_callG GR r5 hgu rfl mR kR bR (pa_cons (pv 4) (pa_cons (pv 13) pa_nil)))))
            (pw_or1 (pt_cmpR (op_neR OW r6 hne hob) (pv 4) (pe_call A3.G r7 rfl A3.m A3.k A3.b .nil pass0 (pa_cons (pv 3) pa_nil)) (nomark _))))) (pss_one (ps_ret pe_bl)) pss_nil)))))))))))
      (pss_one (ps_ret pe_bl)), ?_⟩
    refine ⟨_, rfl, a, _, rfl, .inl hS, _, _, rfl, _, _, rfl, _, rfl, ?_⟩
    refine ⟨by split <;> (try split) <;> omega, by split <;> (try split) <;> omega, ?_⟩
    refine for_range (lo := 0) (n := _) (fun k σ N => ∃ (v1 v2 v3 v4 v5 v6 v7 v8 v10 v11 v12 v13 : Option V), σ = [some (.ref a), v1, v2, v3, v4, v5, v6, v7, v8, none, v10, v11, v12, v13] ∧ Same H N) ⟨none, none, none, none, none, none, none, none, none, none, none, none, rfl, Same.refl H⟩ ?_ ?_
    · rintro k σ N hk ⟨v1, v2, v3, v4, v5, v6, v7, v8, v10, v11, v12, v13, rfl, sN⟩
      refine ⟨_, rfl, _, rfl, a, ns, _, rfl, sN.seq hS, by omega, fun p x y z np => ?_⟩
      have s0 : Same N (upd N p (.lst [.int x, .int y, .int z])) := same1 np
      have w0 : SrcAt (upd N p (.lst [.int x, .int y, .int z])) p := ⟨_, _, _, upd_same⟩
      generalize upd N p (.lst [.int x, .int y, .int z]) = N0 at *
      refine ⟨_, rfl, p, 8, rfl, w0, by decide, by decide, fun N1 t W b1 w1 hW ok le => ?_⟩
      refine ⟨_, rfl, t, W, rfl, hW, ok, fun N2 wb s2 hM => ?_⟩
      have g := ok.good
      have few := g.few
      have m8 := g.m8
      have w2 := w1.same s2
      refine ⟨_, rfl, _, rfl, p, t, W, rfl, w2, hW.mono s2, ok, fun N3 d0 ds0 b3 w3 ed0 ld0 => ?_⟩
      have hW3 := (hW.mono s2).but b3 w2
      have hM3 := hM.but b3 w2
      have b03 : But p N0 N3 := b1.trans ((same_but s2).trans b3)
      obtain ⟨rl, sl, hwt, hwr, hws⟩ := id hW3
      -- the cut webs
      refine ⟨_, rfl, t, _, _, _, rfl, rfl, hwt, at_k (by decide) rfl, _, _, rfl, rfl, _, rfl, by omega, by omega, fun D hD => ?_⟩
      have nD := w3.ne hD
      refine lc_range (lo := 0) (n := ((W.many : Int) + 1).toNat) (fun i M => ∃ xs : List Addr, M D = some (.lst (xs.map V.ref)) ∧ xs.length = i ∧ (∀ (n : Nat) (x : Addr), xs[n]? = some x → ∀ ys : List V, WebAt K C CW (upd M D (.lst ys)) x (cutW W n)) ∧ Same N3 M)
        ⟨[], upd_same, rfl, fun n x e => (by rw [List.getElem?_nil] at e; cases e), same1 hD⟩ ?_ ?_
      · rintro i M hi ⟨xs, eD, lx, hxs, sM⟩
        have im : i ≤ W.many := by omega
        refine ⟨rfl, _, rfl, _, rfl, wb, W, i, by rw [Int.zero_add]; rfl, hM3.mono sM, ok, im, fun M' u s' hu fr => ?_⟩
        have eD' := s' _ _ eD
        refine ⟨_, eD', ?_, xs ++ [u], by rw [List.map_append]; exact upd_same, by rw [List.length_append, lx]; rfl, fun n x e ys => ?_, fun c o ec => ?_⟩
        · rw [List.length_map, lx]
          exact Nat.lt_of_lt_of_le (show i < 9 by omega) (show 9 ≤ sizeLine by decide)
        · by_cases c : n < xs.length
          · rw [List.getElem?_append_left c] at e
            exact (hxs n x e ys).mono (same_at fun b o nb eb => by rw [upd_ne nb]; exact s' _ _ eb)
          · rw [List.getElem?_append_right (by omega)] at e
            have en : n = i := by
              have := (List.getElem?_eq_some_iff.mp e).1
              rw [List.length_singleton] at this
              omega
            rw [en, lx, Nat.sub_self] at e
            obtain rfl := Option.some.inj e
            rw [en]
            exact (fr D _ eD ys).mono (same_at fun b o nb eb => by rw [upd_ne nb]; exact eb)
        · rw [upd_ne (ne_of_none ec hD)]
          exact s' _ _ (sM _ _ ec)
      rintro M ⟨xs, eD, lx, hxs, sM⟩
      have lx : xs.length = W.many + 1 := by omega
      have ups : Ups K C CW M W (W.many + 1) xs := ⟨lx, fun n x e => (hxs n x e (xs.map V.ref)).mono fun b o eb => by
        by_cases z : b = D
        · rw [z, upd_same] at eb
          rw [z, eD]
          exact eb
        · rw [upd_ne z] at eb
          exact eb⟩
      have wM := w3.same sM
      have hWM := hW3.mono sM
      have hMM := hM3.mono sM
      have hdM : SqT K M d0 (ds0.map V.int) := Same.tup sM (SqT.of ed0)
      have b0M : But p N0 M := b03.trans (same_but sM)
      have st : ∀ {G : Hp}, But p M G → WorldAt K G t W ∧ WebAt K C CW G wb W ∧ Ups K C CW G W (W.many + 1) xs ∧ G D = some (.lst (xs.map V.ref)) := fun {G} bG => ⟨hWM.but bG wM, hMM.but bG wM, ups.but bG wM, bG.lstR wM eD⟩
      -- each of them
      refine ⟨_, rfl, D, _, rfl, SqL.of eD, ?_⟩
      refine for_it (walk_enum (K := K) (a := D) (xs := xs.map V.ref)) (fun i σ G => ∃ (v7 v8 v10 : Option V), σ = [some (.ref a), some (.int (0 + (k : Int))), some (.ref p), some (.ref t), some (.ref wb), some (.ref d0), some (.ref D), v7, v8, none, v10, v11, v12, v13] ∧ SrcAt G p ∧ But p M G) ⟨v7, v8, v10, rfl, wM, But.refl _ _⟩ ?_ ?_ ?_
      · rintro i σ G _ ⟨_, _, _, rfl, wG, bG⟩
        exact SqL.of (st bG).2.2.2
      · rintro i x σ G G' hi ⟨v7, v8, v10, rfl, wG, bG⟩ ⟨T, x1, x2, rfl, hT, rfl, e1, e2⟩
        obtain rfl := Option.some.inj e1
        have e2 : (xs.map V.ref)[i]? = some x2 := e2
        rw [List.getElem?_map] at e2
        obtain ⟨u, hu, rfl⟩ := Option.map_eq_some_iff.mp e2
        have il : i < xs.length := (List.getElem?_eq_some_iff.mp hu).1
        have im : i ≤ W.many := by omega
        have t1 : Same G (upd G T (.tup [.int (i : Nat), .ref u])) := same1 hT
        have eT : (upd G T (.tup [.int (i : Nat), .ref u]) : Hp) T = some (.tup [.int (i : Nat), .ref u]) := upd_same
        refine ⟨T, _, rfl, SqT.of upd_same, rfl, _, _, rfl, _, _, rfl, rfl, ?_⟩
        generalize upd G T (.tup [.int (i : Nat), .ref u]) = G1 at *
        have w1' := wG.same t1
        have b1' := bG.trans (same_but t1)
        obtain ⟨hWG, hMG, upG, eDG⟩ := st b1'
        have huG : WebAt K C CW G1 u (cutW W i) := upG.2 i u hu
        obtain ⟨dx, bl, pl, ew, hb, ⟨ts, hp, hts⟩, gc⟩ := id huG
        obtain ⟨dy, bl2, pl2, ew2, ⟨bs2, hb2, hbs2⟩, ⟨us, hp2, hus⟩, _⟩ := id hMG
        have lbs2 : bs2.length = W.beds.length := hbs2.len
        have lus : us.length = W.many := by
          have := hus.len
          have := g.plen
          omega
        refine ⟨_, rfl, u, CW, dx, _, _, rfl, ew, TW.cl, TW.nm, webF_many .., _, rfl, wb, CW, dy, _, _, rfl, ew2, TW.cl, TW.nm, webF_many .., rfl, _, rfl, ?_⟩
        refine ite2 (fun h => absurd h (by show ¬ (!decide (V.int (W.many : Int) = V.int (W.many : Int))) = true; simp)) (fun _ => ?_)
        refine ⟨_, rfl, u, CW, dx, _, _, rfl, ew, TW.cl, TW.nb, webF_beds .., _, rfl, wb, CW, dy, _, _, rfl, ew2, TW.cl, TW.nb, webF_beds .., bl2, rfl, ⟨_, SqL.of hb2⟩, fun F hF => ?_⟩
        refine lc_list (K := K) (a := bl2) (xs := bs2.map V.ref) (fun j N => ∃ zs : List Addr, N F = some (.lst (zs.map V.ref)) ∧ zs.length ≤ j ∧ All2 (BedAt K C N) zs ((W.beds.take j).filter fun b => decide (b.s < i)) ∧ Same G1 N) ⟨[], upd_same, Nat.le_refl _, .nil, same1 hF⟩ ?_ ?_ ?_
        · rintro j N _ ⟨_, _, _, _, sN⟩
          exact SqL.of (sN _ _ hb2)
        · rintro j x N hx ⟨zs, eF, lz, hzs, sN⟩
          rw [List.getElem?_map] at hx
          obtain ⟨tt, ht, rfl⟩ := Option.map_eq_some_iff.mp hx
          have jl : j < W.beds.length := by
            have := (List.getElem?_eq_some_iff.mp ht).1
            omega
          have hbed := (hbs2.all j tt _ ht (List.getElem?_eq_getElem jl)).mono sN
          obtain ⟨x, y, q1, hx1, hy1⟩ := id hbed
          refine ⟨rfl, _, rfl, tt, _, _, _, rfl, rfl, q1, at_k (by decide) rfl, _, rfl, _, _, rfl, rfl, _, rfl, ?_⟩
          refine ite2 (fun h => ?_) (fun h => ?_)
          · have h : ((W.beds[j].s : Nat) : Int) < (i : Int) := of_decide_eq_true h
            have kp : KeepL N (upd N F (.lst (zs.map V.ref ++ [V.ref tt]))) := keep_put eF
            have kb : ∀ {a : Addr} {b : Bed}, BedAt K C N a b → BedAt K C (upd N F (.lst (zs.map V.ref ++ [V.ref tt]))) a b := fun {a b} ⟨x, y, r1, r2, r3⟩ => ⟨x, y, kp.tup r1, kp.sh r2, kp.sh r3⟩
            refine ⟨_, rfl, _, eF, ?_, zs ++ [tt], by rw [List.map_append]; exact upd_same, by rw [List.length_append]; exact Nat.succ_le_succ lz, ?_, fun a o ea => ?_⟩
            · rw [List.length_map]
              exact Nat.lt_of_le_of_lt lz (Nat.lt_of_lt_of_le (show j < 12 by omega) (show 12 ≤ sizeLine by decide))
            · rw [List.take_succ_eq_append_getElem jl, List.filter_append, List.filter_cons, if_pos (decide_eq_true (by omega)), List.filter_nil]
              exact (hzs.mono fun _ _ _ _ r => kb r).snoc (kb hbed)
            · rw [upd_ne (ne_of_none ea hF)]
              exact sN _ _ ea
          · have h : ¬ ((W.beds[j].s : Nat) : Int) < (i : Int) := fun z => h (decide_eq_true z)
            refine ⟨zs, eF, Nat.le_succ_of_le lz, ?_, sN⟩
            rw [List.take_succ_eq_append_getElem jl, List.filter_append, List.filter_cons, if_neg (by rw [decide_eq_false (show ¬ W.beds[j].s < i by omega)]; exact Bool.false_ne_true), List.filter_nil, List.append_nil]
            exact hzs
        rintro G2 ⟨zs, eF, _, hzs, t2⟩
        rw [List.length_map, lbs2, List.take_length, filter_cut i g.sorted] at hzs
        refine ⟨beds_eq (hb.mono t2) ⟨zs, eF, hzs⟩, fun G3 t3 => ⟨false, rfl, iteF ?_⟩⟩
        have t13 := t2.trans t3
        -- the parts
        refine ⟨_, rfl, u, CW, dx, _, _, rfl, t13 _ _ ew, TW.cl, TW.np, webF_parts .., _, rfl, wb, CW, dy, _, _, rfl, t13 _ _ ew2, TW.cl, TW.np, webF_parts .., _, rfl, _, rfl, pl2, _, rfl, SqL.of (t13 _ _ hp2), fun L1 hL1 => ?_⟩
        rw [cut_to, ← List.map_take]
        have s1 : Same G3 (upd G3 L1 (.lst ((us.take i).map V.ref))) := same1 hL1
        have eL1 : (upd G3 L1 (.lst ((us.take i).map V.ref)) : Hp) L1 = some (.lst ((us.take i).map V.ref)) := upd_same
        generalize upd G3 L1 (.lst ((us.take i).map V.ref)) = G4 at *
        refine ⟨(by show 0 ≤ sizeLine; decide), fun T2 hT2 => ⟨(by show 1 ≤ sizeLine; decide), fun L2 hL2 => ?_⟩⟩
        have s2' : Same G4 (upd G4 T2 (.tup [])) := same1 hT2
        have eT2 : (upd G4 T2 (.tup []) : Hp) T2 = some (.tup []) := upd_same
        generalize upd G4 T2 (.tup []) = G5 at *
        have s3 : Same G5 (upd G5 L2 (.lst [.ref T2])) := same1 hL2
        have eL2 : (upd G5 L2 (.lst [.ref T2]) : Hp) L2 = some (.lst [.ref T2]) := upd_same
        generalize upd G5 L2 (.lst [.ref T2]) = G6 at *
        have s13 := s1.trans (s2'.trans s3)
        have t16 := t13.trans s13
        have k1 : ((W.many : Int) - (i : Int)).toNat = W.many - i := by omega
        refine ⟨_, rfl, wb, CW, dy, _, _, rfl, t16 _ _ ew2, TW.cl, TW.nm, webF_many .., _, rfl, _, _, rfl, rfl, L2, _, _, rfl, rfl, eL2, by omega, by omega, ?_, fun L3 hL3 => ?_⟩
        · rw [k1]
          exact Nat.le_trans (show 1 * (W.many - i) ≤ 8 by omega) (show 8 ≤ sizeLine by decide)
        have rep : (List.replicate ((W.many : Int) - (i : Int)).toNat [V.ref T2]).flatten = (List.replicate (W.many - i) T2).map V.ref := by
          rw [k1, List.map_replicate]
          generalize W.many - i = j
          induction j with
          | zero => rfl
          | succ j ih => rw [List.replicate_succ, List.flatten_cons, ih, List.replicate_succ]; rfl
        rw [rep]
        have s4 : Same G6 (upd G6 L3 (.lst ((List.replicate (W.many - i) T2).map V.ref))) := same1 hL3
        have eL3 : (upd G6 L3 (.lst ((List.replicate (W.many - i) T2).map V.ref)) : Hp) L3 = some (.lst ((List.replicate (W.many - i) T2).map V.ref)) := upd_same
        generalize upd G6 L3 (.lst ((List.replicate (W.many - i) T2).map V.ref)) = G7 at *
        refine ⟨L1, L3, _, _, rfl, rfl, (s2'.trans (s3.trans s4)) _ _ eL1, eL3, ?_, fun L4 hL4 => ?_⟩
        · rw [List.length_map, List.length_map, List.length_take, List.length_replicate]
          exact Nat.le_trans (show min i us.length + (W.many - i) ≤ 8 by omega) (show 8 ≤ sizeLine by decide)
        rw [← List.map_append]
        have s5 : Same G7 (upd G7 L4 (.lst ((us.take i ++ List.replicate (W.many - i) T2).map V.ref))) := same1 hL4
        have eL4 : (upd G7 L4 (.lst ((us.take i ++ List.replicate (W.many - i) T2).map V.ref)) : Hp) L4 = some (.lst ((us.take i ++ List.replicate (W.many - i) T2).map V.ref)) := upd_same
        generalize upd G7 L4 (.lst ((us.take i ++ List.replicate (W.many - i) T2).map V.ref)) = G8 at *
        have t18 := t16.trans (s4.trans s5)
        have hP : All2 (PartsAt K G8) (us.take i ++ List.replicate (W.many - i) T2) (cutW W i).parts := by
          refine All2.app ((hus.take i).mono fun _ _ _ _ r => Same.tup t18 r) ⟨by rw [List.length_replicate, List.length_replicate], fun j a b ha hb' => ?_⟩
          obtain rfl := List.eq_of_mem_replicate (List.mem_of_getElem? ha)
          obtain rfl := List.eq_of_mem_replicate (List.mem_of_getElem? hb')
          exact SqT.of ((s3.trans (s4.trans s5)) _ _ eT2)
        have shp : SeqAt.shaped (.list ((cutW W i).parts.map pnd)) = true := shaped_of (can_pnd _) (Nat.le_trans (dep_pnd _) (by decide))
        refine ⟨_, _, .lst (SqL.of (t18 _ _ hp)) (dp_list (fun _ _ r => dp_part r) (hts.mono fun _ _ _ _ r => Same.tup t18 r)), .lst (SqL.of eL4) (dp_list (fun _ _ r => dp_part r) hP), shp, shp, ?_⟩
        rw [eqv_self shp]
        refine ⟨false, rfl, iteF ?_⟩
        -- cut twice
        have w8 := w1'.same t18
        have b8 := b1'.trans (same_but t18)
        obtain ⟨⟨rl8, sl8, hwt8, _⟩, _, _, _⟩ := st b8
        refine ⟨_, rfl, _, rfl, t, _, _, _, rfl, rfl, hwt8, at_k (by decide) rfl, _, _, rfl, rfl, p, _, rfl, w8, by omega, by omega, fun G9 dd b9 w9 dd0 dd1 => ?_⟩
        obtain ⟨o, rfl⟩ : ∃ o : Nat, dd = (o : Int) := ⟨dd.toNat, by omega⟩
        have b9' := b8.trans b9
        obtain ⟨hW9, hM9, up9, eD9⟩ := st b9'
        refine ⟨_, rfl, _, rfl, u, cutW W i, o, rfl, up9.2 i u hu, cutW_ok ok im, (by show o ≤ W.many; omega), fun GA c tA hc _ => ?_⟩
        rw [cut_cut ok im (by omega)] at hc
        have mm : (if ((o : Int)) < ((i : Nat) : Int) then (o : Int) else ((i : Nat) : Int)) = ((min i o : Nat) : Int) := by
          split <;> omega
        have ml : min i o < xs.length := by omega
        have hum := (up9.2 (min i o) xs[min i o] (List.getElem?_eq_getElem ml)).mono tA
        refine ⟨_, rfl, _, rfl, _, rfl, _, _, rfl, D, _, _, .ref xs[min i o], rfl, rfl, SqL.of (tA _ _ eD9), (by rw [mm]; exact atI_nat (by rw [List.getElem?_map, List.getElem?_eq_getElem ml]; rfl)), ?_⟩
        obtain ⟨d1, _, _, ec1, _⟩ := id hc
        obtain ⟨d2, _, _, ec2, _⟩ := id hum
        refine ⟨_, _, d1, d2, _, _, rfl, rfl, ec1, ec2, ⟨_, hc, hum⟩, fun GB tB => ⟨false, rfl, iteF ?_⟩⟩
        have tAB := tA.trans tB
        exact ⟨_, _, _, rfl, w9.same tAB, b9'.trans (same_but tAB)⟩
      rintro σ G ⟨v7, v8, v10, rfl, wG, bG⟩
      -- day by day
      refine ⟨_, rfl, by decide, by decide, ?_⟩
      refine for_range (lo := 0) (n := 6) (fun j σ N => ∃ (v7 v8 v11 v12 : Option V) (d : Addr) (ds : List Int), σ = [some (.ref a), some (.int (0 + (k : Int))), some (.ref p), some (.ref t), some (.ref wb), some (.ref d), some (.ref D), v7, v8, none, v10, v11, v12, v13] ∧ SqT K N d (ds.map V.int) ∧ ds.length = W.beds.length ∧ SrcAt N p ∧ But p M N)
        ⟨v7, v8, v11, v12, d0, ds0, rfl, bG.tup wM hdM, ld0, wG, bG⟩ ?_ ?_
      · rintro j σ N hj ⟨v7, v8, v11, v12, d, ds, rfl, hd, ld, wN, bN⟩
        obtain ⟨hWN, _, _, _⟩ := st bN
        refine ⟨_, rfl, _, rfl, p, t, W, rfl, wN, hWN, ok, fun N2 l1 qs b2 w2 pl1 ro => ?_⟩
        refine ⟨l1, qs, rfl, pl1, fun q hq => sz_105840 (ro.lim q hq) (by decide), by have := ro.len; omega, fun N3 r s3 hr3 => ?_⟩
        have w3' := w2.same s3
        have bN3 : But p N N3 := b2.trans (same_but s3)
        have b3' := bN.trans bN3
        obtain ⟨hW3', hM3', up3, eD3⟩ := st b3'
        have hd3 := bN3.tup wN hd
        have Dd : DayAsk K C CW N3 wb d r W ds qs 105840 40 := ⟨hM3', hd3, ld, hr3, ro⟩
        refine ⟨_, rfl, D, _, rfl, SqL.of eD3, ?_⟩
        refine for_it (walk_enum (K := K) (a := D) (xs := xs.map V.ref)) (fun i σ Z => ∃ (v7 v8 : Option V), σ = [some (.ref a), some (.int (0 + (k : Int))), some (.ref p), some (.ref t), some (.ref wb), some (.ref d), some (.ref D), v7, v8, none, v10, some (.int (0 + (j : Int))), some (.ref r), v13] ∧ Same N3 Z) ⟨v7, v8, rfl, Same.refl _⟩ ?_ ?_ ?_
        · rintro i σ Z _ ⟨_, _, rfl, sZ⟩
          exact SqL.of (sZ _ _ eD3)
        · rintro i x σ Z Z' hi ⟨v7, v8, rfl, sZ⟩ ⟨T, x1, x2, rfl, hT, rfl, e1, e2⟩
          obtain rfl := Option.some.inj e1
          have e2 : (xs.map V.ref)[i]? = some x2 := e2
          rw [List.getElem?_map] at e2
          obtain ⟨u, hu, rfl⟩ := Option.map_eq_some_iff.mp e2
          have il : i < xs.length := (List.getElem?_eq_some_iff.mp hu).1
          have t1 : Same Z (upd Z T (.tup [.int (i : Nat), .ref u])) := same1 hT
          refine ⟨T, _, rfl, SqT.of upd_same, rfl, _, _, rfl, _, _, rfl, rfl, ?_⟩
          generalize upd Z T (.tup [.int (i : Nat), .ref u]) = Z1 at *
          have s1 := sZ.trans t1
          exact ⟨_, rfl, _, rfl, _, rfl, _, rfl, _, rfl, wb, u, d, r, W, i, ds, qs, rfl, ok, by omega, Dd.mono s1, (up3.2 i u hu).mono s1, fun Z2 t2 => ⟨true, rfl, iteF ⟨_, _, rfl, s1.trans t2⟩⟩⟩
        rintro σ Z ⟨v7, v8, rfl, sZ⟩
        refine ⟨_, rfl, _, rfl, _, rfl, rfl, rfl, wb, d, r, W, ds, qs, _, _, rfl, Dd.mono sZ, fun Z2 u t2 e2 => ?_⟩
        have s2 := sZ.trans t2
        exact ⟨_, _, _, _, u, _, rfl, SqT.of e2, step_len g ld qs, w3'.same s2, b3'.trans (same_but s2)⟩
      rintro σ N ⟨v7, v8, v11, v12, d, ds, rfl, hd, ld, wN, bN⟩
      -- what is no such number
      obtain ⟨⟨rlN, slN, hwtN, _⟩, _, _, _⟩ := st bN
      refine ⟨_, rfl, 1, rfl, _, rfl, t, _, _, _, rfl, rfl, hwtN, at_k (by decide) rfl, _, _, rfl, rfl, (by show 1 ≤ sizeLine; decide), fun TO hTO => ?_⟩
      have u1 : Same N (upd N TO (.tup [.int 1])) := same1 hTO
      have eTO : (upd N TO (.tup [.int 1]) : Hp) TO = some (.tup [.int 1]) := upd_same
      generalize upd N TO (.tup [.int 1]) = O1 at *
      refine ⟨(by show 1 ≤ sizeLine; decide), fun LO hLO => ?_⟩
      have u2 : Same O1 (upd O1 LO (.lst [.int 0])) := same1 hLO
      have eLO : (upd O1 LO (.lst [.int 0]) : Hp) LO = some (.lst [.int 0]) := upd_same
      have nLO := (wN.same u1).ne hLO
      generalize upd O1 LO (.lst [.int 0]) = O2 at *
      refine ⟨_, _, rfl, rfl, ⟨by decide, by decide, by decide⟩, (by show 9 ≤ sizeLine; decide), fun LL hLL => ?_⟩
      have nLL := (wN.same (u1.trans u2)).ne hLL
      generalize hol : ([V.int (-1), V.int ((W.many : Int) + 1), V.non, V.bl true, V.str "1", V.ref TO, V.ref LO, V.int (10 ^ (12 : Int).toNat), V.bl false] : List V) = ol at *
      have u3 : Same O2 (upd O2 LL (.lst ol)) := same1 hLL
      have eLL : (upd O2 LL (.lst ol) : Hp) LL = some (.lst ol) := upd_same
      generalize upd O2 LL (.lst ol) = O3 at *
      have u13 := u1.trans (u2.trans u3)
      have wO := wN.same u13
      have eTO3 := (u2.trans u3) _ _ eTO
      have eLO3 := u3 _ _ eLO
      refine ⟨p, LL, false, ol, rfl, wO, SqL.of eLL, fun H' b => SqL.of (b _ _ nLL eLL), (by rw [← hol]; show 0 < 9; decide), (by rw [← hol]; show 9 < 1000; decide), fun O4 ov b4 w4 hov => ?_⟩
      have odd : OddV O4 W.many ov := by
        rw [← hol] at hov
        simp only [List.mem_cons, List.not_mem_nil, or_false] at hov
        rcases hov with h | h | h | h | h | h | h | h | h <;> subst h
        · exact .neg
        · exact .one
        · exact .non
        · exact .bl _
        · exact .str
        · exact .tup (b4.nt wO eTO3 (fun _ z => nomatch z))
        · exact .lst (b4 _ _ nLO eLO3)
        · exact .big
        · exact .bl _
      have bO4 := bN.trans ((same_but u13).trans b4)
      obtain ⟨hW4, hM4, _, _⟩ := st bO4
      refine ⟨_, rfl, _, rfl, wb, W, ov, rfl, hM4, odd.odd m8, fun H' s => (odd.mono s).shown g.m1 m8, fun O5 s5 => ⟨true, rfl, iteF ?_⟩⟩
      refine ⟨_, rfl, _, rfl, t, W, rfl, hW4.mono s5, ok, fun O6 wc s6 hc => ?_⟩
      have s56 := s5.trans s6
      have hM6 := hM4.mono s56
      obtain ⟨d1, _, _, ec1, _⟩ := id hM6
      obtain ⟨d2, _, _, ec2, _⟩ := id hc
      refine ⟨_, _, d1, d2, _, _, rfl, rfl, ec1, ec2, ⟨_, hM6, hc⟩, fun O7 s7 => ⟨false, rfl, iteF ?_⟩⟩
      have bEnd : But p N0 O7 := b0M.trans (bO4.trans (same_but (s56.trans s7)))
      refine ⟨_, _, _, _, _, _, _, _, _, _, _, _, rfl, fun c o ec => ?_⟩
      have ec2 := sN _ _ ec
      exact bEnd c o (ne_of_none ec2 np) (s0 _ _ ec2)
    · rintro σ N ⟨v1, v2, v3, v4, v5, v6, v7, v8, v10, v11, v12, v13, rfl, sN⟩
      exact q _
end
end K72

namespace K72
open PySem PySem.Spec PyProof.Rows L2
theorem exm_own {K : PySem.W.Frag} {S : Addr} (h1 : PySem.W.subIn K (.ref S) (.type "BaseException") = some true) (h2 : PySem.W.isClsIn K S = true) (h3 : PySem.W.typeIn K (.ref S) = some (.type "type")) (h4 : PySem.W.subIn K (.ref S) (.ref S) = some true) :
    PySem.W.exmOne K (.ref S) (.ref S) = some true := by
  have a : (PySem.W.subIn K (.ref S) (.type "BaseException") == some true) = true := by rw [h1] <;> rfl
  have b : ((PySem.W.clsIn K S).isSome && PySem.W.typeIn K (.ref S) == some (.type "type")) = true := by
    rw [show (PySem.W.clsIn K S).isSome = true from h2, h3] <;> rfl
  show (if (PySem.W.subIn K (.ref S) (.type "BaseException") == some true) = true then (if ((PySem.W.clsIn K S).isSome && PySem.W.typeIn K (.ref S) == some (.type "type")) = true then PySem.W.subIn K (.ref S) (.ref S) else none) else none) = some true
  rw [if_pos a, if_pos b]
  exact h4
end K72

namespace K72
open PySem PySem.Spec PyProof.Rows L2
theorem all_mk {P : Program} {w : World} {K : PySem.W.Frag} {h : Heap} {mg : Str → Option Value} {fa : Addr} (X : K.In h) (G : h.Ns mainGlobals mg) (hfa : mg "law" = some (.ref fa))
    {tk_MOST_PLACES : Tok}
    {tk_MOST_BEDS : Tok}
    {tk_MOST_BEDS_OF_A_PLACE : Tok}
    {tk_MOST_OF_A_PART : Tok}
    {cRillError : Addr}
    {cNoShare : Addr}
    {cNoPlace : Addr}
    {NcNoPlace : Addr} {nmcNoPlace qcNoPlace : Str} {bscNoPlace subcNoPlace : List Value} {sncNoPlace : List Str} {abcNoPlace : Bool} {colcNoPlace : Option Bool} {ddcNoPlace : Option Addr} {kacNoPlace kbcNoPlace kccNoPlace kdcNoPlace kecNoPlace : Option Value}
    {fcNoPlace cdacNoPlace cccNoPlace : Addr} {odfcNoPlace anfcNoPlace cddcNoPlace cldcNoPlace : Option Addr} {slfcNoPlace cslcNoPlace ccscNoPlace : Array (Option Value)} {ocfcNoPlace kVfcNoPlace dcfcNoPlace pmfcNoPlace ctfcNoPlace cclcNoPlace clcNoPlace : Value} {vscNoPlace : Array Value} {filecNoPlace : Str} {tkfcNoPlace : Tok}
    {cShare : Addr}
    {f_Share_init : Addr} {od_Share_init an_Share_init : Option Addr} {sl_Share_init : Array (Option Value)} {oc_Share_init kV_Share_init dc_Share_init pm_Share_init ct_Share_init : Value}
    {cd_Share_init : Value}
    {TD_Share_init : Addr} {ocTD_Share_init : Value} {odTD_Share_init : Option Addr} {nTD_Share_init : Nat} {slTD_Share_init : Array (Option Value)} {tkTD_Share_init : Tok}
    {f_Share_eq : Addr} {od_Share_eq an_Share_eq : Option Addr} {sl_Share_eq : Array (Option Value)} {oc_Share_eq kV_Share_eq dc_Share_eq pm_Share_eq ct_Share_eq : Value}
    {cd_Share_eq : Value}
    {cWeb : Addr}
    {f_Web_init : Addr} {od_Web_init an_Web_init : Option Addr} {sl_Web_init : Array (Option Value)} {oc_Web_init kV_Web_init dc_Web_init pm_Web_init ct_Web_init : Value}
    {cd_Web_init : Value}
    {f_Web_eq : Addr} {od_Web_eq an_Web_eq : Option Addr} {sl_Web_eq : Array (Option Value)} {oc_Web_eq kV_Web_eq dc_Web_eq pm_Web_eq ct_Web_eq : Value}
    {cd_Web_eq : Value}
    {f_is_whole : Addr} {od_is_whole an_is_whole : Option Addr} {sl_is_whole : Array (Option Value)} {oc_is_whole kV_is_whole dc_is_whole pm_is_whole ct_is_whole : Value}
    {cd_is_whole : Value}
    {f_is_between : Addr} {od_is_between an_is_between : Option Addr} {sl_is_between : Array (Option Value)} {oc_is_between kV_is_between dc_is_between pm_is_between ct_is_between : Value}
    {cd_is_between : Value}
    {f_times : Addr} {od_times an_times : Option Addr} {sl_times : Array (Option Value)} {oc_times kV_times dc_times pm_times ct_times : Value}
    {cd_times : Value}
    {f_less : Addr} {od_less an_less : Option Addr} {sl_less : Array (Option Value)} {oc_less kV_less dc_less pm_less ct_less : Value}
    {cd_less : Value}
    {f_total : Addr} {od_total an_total : Option Addr} {sl_total : Array (Option Value)} {oc_total kV_total dc_total pm_total ct_total : Value}
    {cd_total : Value}
    {f_are_beds : Addr} {od_are_beds an_are_beds : Option Addr} {sl_are_beds : Array (Option Value)} {oc_are_beds kV_are_beds dc_are_beds pm_are_beds ct_are_beds : Value}
    {cd_are_beds : Value}
    {f_is_a_bed : Addr} {od_is_a_bed an_is_a_bed : Option Addr} {sl_is_a_bed : Array (Option Value)} {oc_is_a_bed kV_is_a_bed dc_is_a_bed pm_is_a_bed ct_is_a_bed : Value}
    {cd_is_a_bed : Value}
    {f_are_parts : Addr} {od_are_parts an_are_parts : Option Addr} {sl_are_parts : Array (Option Value)} {oc_are_parts kV_are_parts dc_are_parts pm_are_parts ct_are_parts : Value}
    {cd_are_parts : Value}
    {f_are_parts_of_one : Addr} {od_are_parts_of_one an_are_parts_of_one : Option Addr} {sl_are_parts_of_one : Array (Option Value)} {oc_are_parts_of_one kV_are_parts_of_one dc_are_parts_of_one pm_are_parts_of_one ct_are_parts_of_one : Value}
    {cd_are_parts_of_one : Value}
    {f_beds_from : Addr} {od_beds_from an_beds_from : Option Addr} {sl_beds_from : Array (Option Value)} {oc_beds_from kV_beds_from dc_beds_from pm_beds_from ct_beds_from : Value}
    {cd_beds_from : Value}
    {f_are_depths : Addr} {od_are_depths an_are_depths : Option Addr} {sl_are_depths : Array (Option Value)} {oc_are_depths kV_are_depths dc_are_depths pm_are_depths ct_are_depths : Value}
    {cd_are_depths : Value}
    {f_is_rain : Addr} {od_is_rain an_is_rain : Option Addr} {sl_is_rain : Array (Option Value)} {oc_is_rain kV_is_rain dc_is_rain pm_is_rain ct_is_rain : Value}
    {cd_is_rain : Value}
    {f_parts_borne : Addr} {od_parts_borne an_parts_borne : Option Addr} {sl_parts_borne : Array (Option Value)} {oc_parts_borne kV_parts_borne dc_parts_borne pm_parts_borne ct_parts_borne : Value}
    {cd_parts_borne : Value}
    {f_move_of : Addr} {od_move_of an_move_of : Option Addr} {sl_move_of : Array (Option Value)} {oc_move_of kV_move_of dc_move_of pm_move_of ct_move_of : Value}
    {cd_move_of : Value}
    {f_check_depths : Addr} {od_check_depths an_check_depths : Option Addr} {sl_check_depths : Array (Option Value)} {oc_check_depths kV_check_depths dc_check_depths pm_check_depths ct_check_depths : Value}
    {cd_check_depths : Value}
    {f_check_rain : Addr} {od_check_rain an_check_rain : Option Addr} {sl_check_rain : Array (Option Value)} {oc_check_rain kV_check_rain dc_check_rain pm_check_rain ct_check_rain : Value}
    {cd_check_rain : Value}
    {f_gaps_of : Addr} {od_gaps_of an_gaps_of : Option Addr} {sl_gaps_of : Array (Option Value)} {oc_gaps_of kV_gaps_of dc_gaps_of pm_gaps_of ct_gaps_of : Value}
    {cd_gaps_of : Value}
    {f_leads_of : Addr} {od_leads_of an_leads_of : Option Addr} {sl_leads_of : Array (Option Value)} {oc_leads_of kV_leads_of dc_leads_of pm_leads_of ct_leads_of : Value}
    {cd_leads_of : Value}
    {f_flow_of : Addr} {od_flow_of an_flow_of : Option Addr} {sl_flow_of : Array (Option Value)} {oc_flow_of kV_flow_of dc_flow_of pm_flow_of ct_flow_of : Value}
    {cd_flow_of : Value}
    {f_moves_of : Addr} {od_moves_of an_moves_of : Option Addr} {sl_moves_of : Array (Option Value)} {oc_moves_of kV_moves_of dc_moves_of pm_moves_of ct_moves_of : Value}
    {cd_moves_of : Value}
    {f_day_of : Addr} {od_day_of an_day_of : Option Addr} {sl_day_of : Array (Option Value)} {oc_day_of kV_day_of dc_day_of pm_day_of ct_day_of : Value}
    {cd_day_of : Value}
    {f_borne : Addr} {od_borne an_borne : Option Addr} {sl_borne : Array (Option Value)} {oc_borne kV_borne dc_borne pm_borne ct_borne : Value}
    {cd_borne : Value}
    {f_water : Addr} {od_water an_water : Option Addr} {sl_water : Array (Option Value)} {oc_water kV_water dc_water pm_water ct_water : Value}
    {cd_water : Value}
    {f_step : Addr} {od_step an_step : Option Addr} {sl_step : Array (Option Value)} {oc_step kV_step dc_step pm_step ct_step : Value}
    {cd_step : Value}
    {f_cut : Addr} {od_cut an_cut : Option Addr} {sl_cut : Array (Option Value)} {oc_cut kV_cut dc_cut pm_cut ct_cut : Value}
    {cd_cut : Value}
    {f_law_cell_at : Addr} {od_law_cell_at an_law_cell_at : Option Addr} {sl_law_cell_at : Array (Option Value)} {oc_law_cell_at kV_law_cell_at dc_law_cell_at pm_law_cell_at ct_law_cell_at : Value}
    {cd_law_cell_at : Value}
    {f_law_mixed : Addr} {od_law_mixed an_law_mixed : Option Addr} {sl_law_mixed : Array (Option Value)} {oc_law_mixed kV_law_mixed dc_law_mixed pm_law_mixed ct_law_mixed : Value}
    {cd_law_mixed : Value}
    {f_law_source : Addr} {od_law_source an_law_source : Option Addr} {sl_law_source : Array (Option Value)} {oc_law_source kV_law_source dc_law_source pm_law_source ct_law_source : Value}
    {cd_law_source : Value}
    {f_law_next : Addr} {od_law_next an_law_next : Option Addr} {sl_law_next : Array (Option Value)} {oc_law_next kV_law_next dc_law_next pm_law_next ct_law_next : Value}
    {cd_law_next : Value}
    {f_law_pick : Addr} {od_law_pick an_law_pick : Option Addr} {sl_law_pick : Array (Option Value)} {oc_law_pick kV_law_pick dc_law_pick pm_law_pick ct_law_pick : Value}
    {cd_law_pick : Value}
    {f_law_lowered : Addr} {od_law_lowered an_law_lowered : Option Addr} {sl_law_lowered : Array (Option Value)} {oc_law_lowered kV_law_lowered dc_law_lowered pm_law_lowered ct_law_lowered : Value}
    {cd_law_lowered : Value}
    {f_law_sum : Addr} {od_law_sum an_law_sum : Option Addr} {sl_law_sum : Array (Option Value)} {oc_law_sum kV_law_sum dc_law_sum pm_law_sum ct_law_sum : Value}
    {cd_law_sum : Value}
    {f_law_product : Addr} {od_law_product an_law_product : Option Addr} {sl_law_product : Array (Option Value)} {oc_law_product kV_law_product dc_law_product pm_law_product ct_law_product : Value}
    {cd_law_product : Value}
    {f_law_mark : Addr} {od_law_mark an_law_mark : Option Addr} {sl_law_mark : Array (Option Value)} {oc_law_mark kV_law_mark dc_law_mark pm_law_mark ct_law_mark : Value}
    {cd_law_mark : Value}
    {f_law_beds_of : Addr} {od_law_beds_of an_law_beds_of : Option Addr} {sl_law_beds_of : Array (Option Value)} {oc_law_beds_of kV_law_beds_of dc_law_beds_of pm_law_beds_of ct_law_beds_of : Value}
    {cd_law_beds_of : Value}
    {f_law_world : Addr} {od_law_world an_law_world : Option Addr} {sl_law_world : Array (Option Value)} {oc_law_world kV_law_world dc_law_world pm_law_world ct_law_world : Value}
    {cd_law_world : Value}
    {f_law_made : Addr} {od_law_made an_law_made : Option Addr} {sl_law_made : Array (Option Value)} {oc_law_made kV_law_made dc_law_made pm_law_made ct_law_made : Value}
    {cd_law_made : Value}
    {f_law_depths : Addr} {od_law_depths an_law_depths : Option Addr} {sl_law_depths : Array (Option Value)} {oc_law_depths kV_law_depths dc_law_depths pm_law_depths ct_law_depths : Value}
    {cd_law_depths : Value}
    {f_law_falls : Addr} {od_law_falls an_law_falls : Option Addr} {sl_law_falls : Array (Option Value)} {oc_law_falls kV_law_falls dc_law_falls pm_law_falls ct_law_falls : Value}
    {cd_law_falls : Value}
    {f_law_shares : Addr} {od_law_shares an_law_shares : Option Addr} {sl_law_shares : Array (Option Value)} {oc_law_shares kV_law_shares dc_law_shares pm_law_shares ct_law_shares : Value}
    {cd_law_shares : Value}
    {f_law_refused : Addr} {od_law_refused an_law_refused : Option Addr} {sl_law_refused : Array (Option Value)} {oc_law_refused kV_law_refused dc_law_refused pm_law_refused ct_law_refused : Value}
    {cd_law_refused : Value}
    {f_law_day_right : Addr} {od_law_day_right an_law_day_right : Option Addr} {sl_law_day_right : Array (Option Value)} {oc_law_day_right kV_law_day_right dc_law_day_right pm_law_day_right ct_law_day_right : Value}
    {cd_law_day_right : Value}
    {f_law : Addr} {od_law an_law : Option Addr} {sl_law : Array (Option Value)} {oc_law kV_law dc_law pm_law ct_law : Value}
    {cd_law : Value}
    (z_ValueError : PySem.W.nsIn K mainGlobals "ValueError" = some none)
    (z_abs : PySem.W.nsIn K mainGlobals "abs" = some none)
    (z_all : PySem.W.nsIn K mainGlobals "all" = some none)
    (z_any : PySem.W.nsIn K mainGlobals "any" = some none)
    (z_bool : PySem.W.nsIn K mainGlobals "bool" = some none)
    (z_enumerate : PySem.W.nsIn K mainGlobals "enumerate" = some none)
    (z_int : PySem.W.nsIn K mainGlobals "int" = some none)
    (z_isinstance : PySem.W.nsIn K mainGlobals "isinstance" = some none)
    (z_len : PySem.W.nsIn K mainGlobals "len" = some none)
    (z_list : PySem.W.nsIn K mainGlobals "list" = some none)
    (z_max : PySem.W.nsIn K mainGlobals "max" = some none)
    (z_min : PySem.W.nsIn K mainGlobals "min" = some none)
    (z_range : PySem.W.nsIn K mainGlobals "range" = some none)
    (z_repr : PySem.W.nsIn K mainGlobals "repr" = some none)
    (z_sorted : PySem.W.nsIn K mainGlobals "sorted" = some none)
    (z_sum : PySem.W.nsIn K mainGlobals "sum" = some none)
    (z_super : PySem.W.nsIn K mainGlobals "super" = some none)
    (z_tuple : PySem.W.nsIn K mainGlobals "tuple" = some none)
    (z_zip : PySem.W.nsIn K mainGlobals "zip" = some none)
    (i_gcd : PySem.W.nsIn K mainGlobals "gcd" = some (some (.builtin "math.gcd")))
    (i_lcm : PySem.W.nsIn K mainGlobals "lcm" = some (some (.builtin "math.lcm")))
    (g_MOST_PLACES : PySem.W.nsIn K mainGlobals "MOST_PLACES" = some (some (.int 8 tk_MOST_PLACES)))
    (g_MOST_BEDS : PySem.W.nsIn K mainGlobals "MOST_BEDS" = some (some (.int 12 tk_MOST_BEDS)))
    (g_MOST_BEDS_OF_A_PLACE : PySem.W.nsIn K mainGlobals "MOST_BEDS_OF_A_PLACE" = some (some (.int 2 tk_MOST_BEDS_OF_A_PLACE)))
    (g_MOST_OF_A_PART : PySem.W.nsIn K mainGlobals "MOST_OF_A_PART" = some (some (.int 9 tk_MOST_OF_A_PART)))
    (acRillError : PySem.W.nsIn K mainGlobals "RillError" = some (some (.ref cRillError)))
    (xcRillError : PySem.W.excIn K cRillError [.type "ValueError", .type "Exception", .type "BaseException", .type "object"] "ValueError.__new__" = true)
    (kcRillError : PySem.W.keepIn K (.ref cRillError) = true)
    (bcRillError : PySem.W.subIn K (.ref cRillError) (.type "BaseException") = some true)
    (tcRillError : PySem.W.typeIn K (.ref cRillError) = some (.type "type"))
    (icRillError : PySem.W.isClsIn K cRillError = true)
    (scRillError : PySem.W.subIn K (.ref cRillError) (.ref cRillError) = some true)
    (acNoShare : PySem.W.nsIn K mainGlobals "NoShare" = some (some (.ref cNoShare)))
    (xcNoShare : PySem.W.excIn K cNoShare [.type "ValueError", .type "Exception", .type "BaseException", .type "object"] "ValueError.__new__" = true)
    (kcNoShare : PySem.W.keepIn K (.ref cNoShare) = true)
    (bcNoShare : PySem.W.subIn K (.ref cNoShare) (.type "BaseException") = some true)
    (tcNoShare : PySem.W.typeIn K (.ref cNoShare) = some (.type "type"))
    (icNoShare : PySem.W.isClsIn K cNoShare = true)
    (scNoShare : PySem.W.subIn K (.ref cNoShare) (.ref cNoShare) = some true)
    (acNoPlace : PySem.W.nsIn K mainGlobals "NoPlace" = some (some (.ref cNoPlace)))
    (kcNoPlace : PySem.W.keepIn K (.ref cNoPlace) = true)
    (bcNoPlace : PySem.W.subIn K (.ref cNoPlace) (.type "BaseException") = some true)
    (tcNoPlace : PySem.W.typeIn K (.ref cNoPlace) = some (.type "type"))
    (icNoPlace : PySem.W.isClsIn K cNoPlace = true)
    (scNoPlace : PySem.W.subIn K (.ref cNoPlace) (.ref cNoPlace) = some true)
    (xxcNoPlace : K.lookup cNoPlace = some (excClassObj nmcNoPlace qcNoPlace cNoPlace NcNoPlace bscNoPlace (.ref cRillError :: [.type "ValueError", .type "Exception", .type "BaseException", .type "object"]) true sncNoPlace subcNoPlace abcNoPlace colcNoPlace ddcNoPlace kacNoPlace kbcNoPlace kccNoPlace kdcNoPlace kecNoPlace "ValueError.__new__"))
    (dcNoPlace : PySem.W.hasDictIn K cNoPlace = true)
    (gacNoPlace : PySem.W.findIn K (.ref cNoPlace) "__getattribute__" = some (some (.builtin "BaseException.__getattribute__")))
    (ggcNoPlace : PySem.W.findIn K (.ref cNoPlace) "__getattr__" = some none)
    (sacNoPlace : PySem.W.findIn K (.ref cNoPlace) "__setattr__" = some (some (.builtin "object.__setattr__")))
    (nocNoPlace : PySem.W.findIn K (.ref cNoPlace) "place" = some none)
    (incNoPlace : PySem.W.findIn K (.ref cNoPlace) "__init__" = some (some (.ref fcNoPlace)))
    (tfcNoPlace : PySem.W.typeIn K (.ref fcNoPlace) = some (.type "function"))
    (lfcNoPlace : K.lookup fcNoPlace = some ⟨ocfcNoPlace, odfcNoPlace, .func (PySem.W.ksFn "__init__" "NoPlace.__init__" (defArgs d_NoPlace_init) (defBody d_NoPlace_init) (defScope d_NoPlace_init) .none kVfcNoPlace dcfcNoPlace pmfcNoPlace anfcNoPlace (.ref cdacNoPlace) ctfcNoPlace cccNoPlace), slfcNoPlace⟩)
    (cfcNoPlace : PySem.W.codeIn K (.ref cdacNoPlace) "NoPlace.__init__" = true)
    (lccNoPlace : K.lookup cdacNoPlace = some ⟨cclcNoPlace, cddcNoPlace, .fields vscNoPlace, ccscNoPlace⟩)
    (v2cNoPlace : vscNoPlace[2]? = some (.str filecNoPlace tkfcNoPlace))
    (flcNoPlace : ((P.main.file : Str) == filecNoPlace) = true)
    (lecNoPlace : K.lookup cccNoPlace = some ⟨clcNoPlace, cldcNoPlace, .cell (some (.ref cNoPlace)), cslcNoPlace⟩)
    (sucNoPlace : PySem.W.ks_superIn K cNoPlace cNoPlace "__init__" = some (some (.builtin "ValueError.__init__")))
    (sbcNoPlace : PySem.W.subIn K (.ref cNoPlace) (.type "ValueError") = some true)
    (mmcNoPlace : PySem.W.mroIn K cNoPlace (.ref cNoPlace) = some true)
    (xO : PySem.W.nsIn K cStatics "thirdparty.any" = some none)
    (xT : (P.main.scope.names.lookup ("super" : Str)).isSome = false)
    (acShare : PySem.W.nsIn K mainGlobals "Share" = some (some (.ref cShare)))
    (pgcShare : PySem.W.plainGet K cShare Str.empty = true)
    (hdcShare : PySem.W.hasDictIn K cShare = true)
    (pocShare : PySem.W.plainOver K cShare = true)
    (sacShare : PySem.W.findIn K (.ref cShare) "__setattr__" = some (some (.builtin "object.__setattr__")))
    (mkcShare : PySem.W.makesIn K cShare = true)
    (kccShare : PySem.W.keepIn K (.ref cShare) = true)
    (ncShare_bottom : PySem.W.findIn K (.ref cShare) "bottom" = some none)
    (ncShare_top : PySem.W.findIn K (.ref cShare) "top" = some none)
    (gccShare : PySem.W.findIn K (.ref cShare) "__class__" = some (some (.builtin "object.__class__")))
    (gmcShare : PySem.W.mroIn K cShare (.type "object") = some true)
    (mecShare : PySem.W.kitOne K (.ref cShare) (.ref cShare) = some true)
    (mcShare_tuple : PySem.W.kitOne K (.type "tuple") (.ref cShare) = some false)
    (ucShare_tuple : PySem.W.kitOne K (.ref cShare) (.type "tuple") = some false)
    (mcShare_int : PySem.W.kitOne K (.type "int") (.ref cShare) = some false)
    (ucShare_int : PySem.W.kitOne K (.ref cShare) (.type "int") = some false)
    (mcShare_NoneType : PySem.W.kitOne K (.type "NoneType") (.ref cShare) = some false)
    (mcShare_list : PySem.W.kitOne K (.type "list") (.ref cShare) = some false)
    (ucShare_list : PySem.W.kitOne K (.ref cShare) (.type "list") = some false)
    (mcShare_str : PySem.W.kitOne K (.type "str") (.ref cShare) = some false)
    (mcShare_bool : PySem.W.kitOne K (.type "bool") (.ref cShare) = some false)
    (ucShare_bool : PySem.W.kitOne K (.ref cShare) (.type "bool") = some false)
    (mcShare_dict : PySem.W.kitOne K (.type "dict") (.ref cShare) = some false)
    (ecShare : PySem.W.findIn K (.ref cShare) "__ne__" = some (some (.builtin "object.__ne__")))
    (ocShare : PySem.W.subIn K (.ref cShare) (.type "object") = some true)
    (wcShare_tuple : PySem.W.subIn K (.ref cShare) (.type "tuple") = some false)
    (ycShare_tuple : PySem.W.subIn K (.type "tuple") (.ref cShare) = some false)
    (wcShare_int : PySem.W.subIn K (.ref cShare) (.type "int") = some false)
    (ycShare_int : PySem.W.subIn K (.type "int") (.ref cShare) = some false)
    (wcShare_NoneType : PySem.W.subIn K (.ref cShare) (.type "NoneType") = some false)
    (ycShare_NoneType : PySem.W.subIn K (.type "NoneType") (.ref cShare) = some false)
    (wcShare_list : PySem.W.subIn K (.ref cShare) (.type "list") = some false)
    (ycShare_list : PySem.W.subIn K (.type "list") (.ref cShare) = some false)
    (wcShare_str : PySem.W.subIn K (.ref cShare) (.type "str") = some false)
    (ycShare_str : PySem.W.subIn K (.type "str") (.ref cShare) = some false)
    (wcShare_bool : PySem.W.subIn K (.ref cShare) (.type "bool") = some false)
    (ycShare_bool : PySem.W.subIn K (.type "bool") (.ref cShare) = some false)
    (wcShare_dict : PySem.W.subIn K (.ref cShare) (.type "dict") = some false)
    (ycShare_dict : PySem.W.subIn K (.type "dict") (.ref cShare) = some false)
    (a_Share_init : PySem.W.findIn K (.ref cShare) "__init__" = some (some (.ref f_Share_init)))
    (i_Share_init : PySem.W.isFn K (.ref f_Share_init) = true)
    (l_Share_init : K.lookup f_Share_init = some ⟨oc_Share_init, od_Share_init, .func (PySem.W.fnOf "__init__" "Share.__init__" (defArgs d_Share_init) (defBody d_Share_init) (defScope d_Share_init) (.ref TD_Share_init) kV_Share_init dc_Share_init pm_Share_init an_Share_init cd_Share_init ct_Share_init), sl_Share_init⟩)
    (c_Share_init : PySem.W.codeIn K cd_Share_init "Share.__init__" = true)
    (k_Share_init : PySem.W.keepIn K (.ref f_Share_init) = true)
    (lTD_Share_init : K.lookup TD_Share_init = some ⟨ocTD_Share_init, odTD_Share_init, .seq [Value.int 1 tkTD_Share_init].toArray nTD_Share_init, slTD_Share_init⟩)
    (a_Share_eq : PySem.W.findIn K (.ref cShare) "__eq__" = some (some (.ref f_Share_eq)))
    (i_Share_eq : PySem.W.isFn K (.ref f_Share_eq) = true)
    (l_Share_eq : K.lookup f_Share_eq = some ⟨oc_Share_eq, od_Share_eq, .func (PySem.W.fnOf "__eq__" "Share.__eq__" (defArgs d_Share_eq) (defBody d_Share_eq) (defScope d_Share_eq) .none kV_Share_eq dc_Share_eq pm_Share_eq an_Share_eq cd_Share_eq ct_Share_eq), sl_Share_eq⟩)
    (c_Share_eq : PySem.W.codeIn K cd_Share_eq "Share.__eq__" = true)
    (k_Share_eq : PySem.W.keepIn K (.ref f_Share_eq) = true)
    (acWeb : PySem.W.nsIn K mainGlobals "Web" = some (some (.ref cWeb)))
    (pgcWeb : PySem.W.plainGet K cWeb Str.empty = true)
    (hdcWeb : PySem.W.hasDictIn K cWeb = true)
    (pocWeb : PySem.W.plainOver K cWeb = true)
    (sacWeb : PySem.W.findIn K (.ref cWeb) "__setattr__" = some (some (.builtin "object.__setattr__")))
    (mkcWeb : PySem.W.makesIn K cWeb = true)
    (kccWeb : PySem.W.keepIn K (.ref cWeb) = true)
    (ncWeb_beds : PySem.W.findIn K (.ref cWeb) "beds" = some none)
    (ncWeb_many : PySem.W.findIn K (.ref cWeb) "many" = some none)
    (ncWeb_parts : PySem.W.findIn K (.ref cWeb) "parts" = some none)
    (gccWeb : PySem.W.findIn K (.ref cWeb) "__class__" = some (some (.builtin "object.__class__")))
    (gmcWeb : PySem.W.mroIn K cWeb (.type "object") = some true)
    (mecWeb : PySem.W.kitOne K (.ref cWeb) (.ref cWeb) = some true)
    (mcWeb_tuple : PySem.W.kitOne K (.type "tuple") (.ref cWeb) = some false)
    (ucWeb_tuple : PySem.W.kitOne K (.ref cWeb) (.type "tuple") = some false)
    (mcWeb_int : PySem.W.kitOne K (.type "int") (.ref cWeb) = some false)
    (ucWeb_int : PySem.W.kitOne K (.ref cWeb) (.type "int") = some false)
    (mcWeb_NoneType : PySem.W.kitOne K (.type "NoneType") (.ref cWeb) = some false)
    (mcWeb_list : PySem.W.kitOne K (.type "list") (.ref cWeb) = some false)
    (ucWeb_list : PySem.W.kitOne K (.ref cWeb) (.type "list") = some false)
    (mcWeb_str : PySem.W.kitOne K (.type "str") (.ref cWeb) = some false)
    (mcWeb_bool : PySem.W.kitOne K (.type "bool") (.ref cWeb) = some false)
    (ucWeb_bool : PySem.W.kitOne K (.ref cWeb) (.type "bool") = some false)
    (mcWeb_dict : PySem.W.kitOne K (.type "dict") (.ref cWeb) = some false)
    (ecWeb : PySem.W.findIn K (.ref cWeb) "__ne__" = some (some (.builtin "object.__ne__")))
    (ocWeb : PySem.W.subIn K (.ref cWeb) (.type "object") = some true)
    (wcWeb_tuple : PySem.W.subIn K (.ref cWeb) (.type "tuple") = some false)
    (ycWeb_tuple : PySem.W.subIn K (.type "tuple") (.ref cWeb) = some false)
    (wcWeb_int : PySem.W.subIn K (.ref cWeb) (.type "int") = some false)
    (ycWeb_int : PySem.W.subIn K (.type "int") (.ref cWeb) = some false)
    (wcWeb_NoneType : PySem.W.subIn K (.ref cWeb) (.type "NoneType") = some false)
    (ycWeb_NoneType : PySem.W.subIn K (.type "NoneType") (.ref cWeb) = some false)
    (wcWeb_list : PySem.W.subIn K (.ref cWeb) (.type "list") = some false)
    (ycWeb_list : PySem.W.subIn K (.type "list") (.ref cWeb) = some false)
    (wcWeb_str : PySem.W.subIn K (.ref cWeb) (.type "str") = some false)
    (ycWeb_str : PySem.W.subIn K (.type "str") (.ref cWeb) = some false)
    (wcWeb_bool : PySem.W.subIn K (.ref cWeb) (.type "bool") = some false)
    (ycWeb_bool : PySem.W.subIn K (.type "bool") (.ref cWeb) = some false)
    (wcWeb_dict : PySem.W.subIn K (.ref cWeb) (.type "dict") = some false)
    (ycWeb_dict : PySem.W.subIn K (.type "dict") (.ref cWeb) = some false)
    (a_Web_init : PySem.W.findIn K (.ref cWeb) "__init__" = some (some (.ref f_Web_init)))
    (i_Web_init : PySem.W.isFn K (.ref f_Web_init) = true)
    (l_Web_init : K.lookup f_Web_init = some ⟨oc_Web_init, od_Web_init, .func (PySem.W.fnOf "__init__" "Web.__init__" (defArgs d_Web_init) (defBody d_Web_init) (defScope d_Web_init) .none kV_Web_init dc_Web_init pm_Web_init an_Web_init cd_Web_init ct_Web_init), sl_Web_init⟩)
    (c_Web_init : PySem.W.codeIn K cd_Web_init "Web.__init__" = true)
    (k_Web_init : PySem.W.keepIn K (.ref f_Web_init) = true)
    (a_Web_eq : PySem.W.findIn K (.ref cWeb) "__eq__" = some (some (.ref f_Web_eq)))
    (i_Web_eq : PySem.W.isFn K (.ref f_Web_eq) = true)
    (l_Web_eq : K.lookup f_Web_eq = some ⟨oc_Web_eq, od_Web_eq, .func (PySem.W.fnOf "__eq__" "Web.__eq__" (defArgs d_Web_eq) (defBody d_Web_eq) (defScope d_Web_eq) .none kV_Web_eq dc_Web_eq pm_Web_eq an_Web_eq cd_Web_eq ct_Web_eq), sl_Web_eq⟩)
    (c_Web_eq : PySem.W.codeIn K cd_Web_eq "Web.__eq__" = true)
    (k_Web_eq : PySem.W.keepIn K (.ref f_Web_eq) = true)
    (jShare_Web : PySem.W.kitOne K (.ref cShare) (.ref cWeb) = some false)
    (vShare_Web : PySem.W.subIn K (.ref cShare) (.ref cWeb) = some false)
    (jWeb_Share : PySem.W.kitOne K (.ref cWeb) (.ref cShare) = some false)
    (vWeb_Share : PySem.W.subIn K (.ref cWeb) (.ref cShare) = some false)
    (a_is_whole : PySem.W.nsIn K mainGlobals "is_whole" = some (some (.ref f_is_whole)))
    (l_is_whole : K.lookup f_is_whole = some ⟨oc_is_whole, od_is_whole, .func (PySem.W.fnOf "is_whole" "is_whole" (defArgs d_is_whole) (defBody d_is_whole) (defScope d_is_whole) .none kV_is_whole dc_is_whole pm_is_whole an_is_whole cd_is_whole ct_is_whole), sl_is_whole⟩)
    (c_is_whole : PySem.W.codeIn K cd_is_whole "is_whole" = true)
    (k_is_whole : PySem.W.keepIn K (.ref f_is_whole) = true)
    (a_is_between : PySem.W.nsIn K mainGlobals "is_between" = some (some (.ref f_is_between)))
    (l_is_between : K.lookup f_is_between = some ⟨oc_is_between, od_is_between, .func (PySem.W.fnOf "is_between" "is_between" (defArgs d_is_between) (defBody d_is_between) (defScope d_is_between) .none kV_is_between dc_is_between pm_is_between an_is_between cd_is_between ct_is_between), sl_is_between⟩)
    (c_is_between : PySem.W.codeIn K cd_is_between "is_between" = true)
    (k_is_between : PySem.W.keepIn K (.ref f_is_between) = true)
    (a_times : PySem.W.nsIn K mainGlobals "times" = some (some (.ref f_times)))
    (l_times : K.lookup f_times = some ⟨oc_times, od_times, .func (PySem.W.fnOf "times" "times" (defArgs d_times) (defBody d_times) (defScope d_times) .none kV_times dc_times pm_times an_times cd_times ct_times), sl_times⟩)
    (c_times : PySem.W.codeIn K cd_times "times" = true)
    (k_times : PySem.W.keepIn K (.ref f_times) = true)
    (a_less : PySem.W.nsIn K mainGlobals "less" = some (some (.ref f_less)))
    (l_less : K.lookup f_less = some ⟨oc_less, od_less, .func (PySem.W.fnOf "less" "less" (defArgs d_less) (defBody d_less) (defScope d_less) .none kV_less dc_less pm_less an_less cd_less ct_less), sl_less⟩)
    (c_less : PySem.W.codeIn K cd_less "less" = true)
    (k_less : PySem.W.keepIn K (.ref f_less) = true)
    (a_total : PySem.W.nsIn K mainGlobals "total" = some (some (.ref f_total)))
    (l_total : K.lookup f_total = some ⟨oc_total, od_total, .func (PySem.W.fnOf "total" "total" (defArgs d_total) (defBody d_total) (defScope d_total) .none kV_total dc_total pm_total an_total cd_total ct_total), sl_total⟩)
    (c_total : PySem.W.codeIn K cd_total "total" = true)
    (k_total : PySem.W.keepIn K (.ref f_total) = true)
    (a_are_beds : PySem.W.nsIn K mainGlobals "are_beds" = some (some (.ref f_are_beds)))
    (l_are_beds : K.lookup f_are_beds = some ⟨oc_are_beds, od_are_beds, .func (PySem.W.fnOf "are_beds" "are_beds" (defArgs d_are_beds) (defBody d_are_beds) (defScope d_are_beds) .none kV_are_beds dc_are_beds pm_are_beds an_are_beds cd_are_beds ct_are_beds), sl_are_beds⟩)
    (c_are_beds : PySem.W.codeIn K cd_are_beds "are_beds" = true)
    (k_are_beds : PySem.W.keepIn K (.ref f_are_beds) = true)
    (a_is_a_bed : PySem.W.nsIn K mainGlobals "is_a_bed" = some (some (.ref f_is_a_bed)))
    (l_is_a_bed : K.lookup f_is_a_bed = some ⟨oc_is_a_bed, od_is_a_bed, .func (PySem.W.fnOf "is_a_bed" "is_a_bed" (defArgs d_is_a_bed) (defBody d_is_a_bed) (defScope d_is_a_bed) .none kV_is_a_bed dc_is_a_bed pm_is_a_bed an_is_a_bed cd_is_a_bed ct_is_a_bed), sl_is_a_bed⟩)
    (c_is_a_bed : PySem.W.codeIn K cd_is_a_bed "is_a_bed" = true)
    (k_is_a_bed : PySem.W.keepIn K (.ref f_is_a_bed) = true)
    (a_are_parts : PySem.W.nsIn K mainGlobals "are_parts" = some (some (.ref f_are_parts)))
    (l_are_parts : K.lookup f_are_parts = some ⟨oc_are_parts, od_are_parts, .func (PySem.W.fnOf "are_parts" "are_parts" (defArgs d_are_parts) (defBody d_are_parts) (defScope d_are_parts) .none kV_are_parts dc_are_parts pm_are_parts an_are_parts cd_are_parts ct_are_parts), sl_are_parts⟩)
    (c_are_parts : PySem.W.codeIn K cd_are_parts "are_parts" = true)
    (k_are_parts : PySem.W.keepIn K (.ref f_are_parts) = true)
    (a_are_parts_of_one : PySem.W.nsIn K mainGlobals "are_parts_of_one" = some (some (.ref f_are_parts_of_one)))
    (l_are_parts_of_one : K.lookup f_are_parts_of_one = some ⟨oc_are_parts_of_one, od_are_parts_of_one, .func (PySem.W.fnOf "are_parts_of_one" "are_parts_of_one" (defArgs d_are_parts_of_one) (defBody d_are_parts_of_one) (defScope d_are_parts_of_one) .none kV_are_parts_of_one dc_are_parts_of_one pm_are_parts_of_one an_are_parts_of_one cd_are_parts_of_one ct_are_parts_of_one), sl_are_parts_of_one⟩)
    (c_are_parts_of_one : PySem.W.codeIn K cd_are_parts_of_one "are_parts_of_one" = true)
    (k_are_parts_of_one : PySem.W.keepIn K (.ref f_are_parts_of_one) = true)
    (a_beds_from : PySem.W.nsIn K mainGlobals "beds_from" = some (some (.ref f_beds_from)))
    (l_beds_from : K.lookup f_beds_from = some ⟨oc_beds_from, od_beds_from, .func (PySem.W.fnOf "beds_from" "beds_from" (defArgs d_beds_from) (defBody d_beds_from) (defScope d_beds_from) .none kV_beds_from dc_beds_from pm_beds_from an_beds_from cd_beds_from ct_beds_from), sl_beds_from⟩)
    (c_beds_from : PySem.W.codeIn K cd_beds_from "beds_from" = true)
    (k_beds_from : PySem.W.keepIn K (.ref f_beds_from) = true)
    (a_are_depths : PySem.W.nsIn K mainGlobals "are_depths" = some (some (.ref f_are_depths)))
    (l_are_depths : K.lookup f_are_depths = some ⟨oc_are_depths, od_are_depths, .func (PySem.W.fnOf "are_depths" "are_depths" (defArgs d_are_depths) (defBody d_are_depths) (defScope d_are_depths) .none kV_are_depths dc_are_depths pm_are_depths an_are_depths cd_are_depths ct_are_depths), sl_are_depths⟩)
    (c_are_depths : PySem.W.codeIn K cd_are_depths "are_depths" = true)
    (k_are_depths : PySem.W.keepIn K (.ref f_are_depths) = true)
    (a_is_rain : PySem.W.nsIn K mainGlobals "is_rain" = some (some (.ref f_is_rain)))
    (l_is_rain : K.lookup f_is_rain = some ⟨oc_is_rain, od_is_rain, .func (PySem.W.fnOf "is_rain" "is_rain" (defArgs d_is_rain) (defBody d_is_rain) (defScope d_is_rain) .none kV_is_rain dc_is_rain pm_is_rain an_is_rain cd_is_rain ct_is_rain), sl_is_rain⟩)
    (c_is_rain : PySem.W.codeIn K cd_is_rain "is_rain" = true)
    (k_is_rain : PySem.W.keepIn K (.ref f_is_rain) = true)
    (a_parts_borne : PySem.W.nsIn K mainGlobals "parts_borne" = some (some (.ref f_parts_borne)))
    (l_parts_borne : K.lookup f_parts_borne = some ⟨oc_parts_borne, od_parts_borne, .func (PySem.W.fnOf "parts_borne" "parts_borne" (defArgs d_parts_borne) (defBody d_parts_borne) (defScope d_parts_borne) .none kV_parts_borne dc_parts_borne pm_parts_borne an_parts_borne cd_parts_borne ct_parts_borne), sl_parts_borne⟩)
    (c_parts_borne : PySem.W.codeIn K cd_parts_borne "parts_borne" = true)
    (k_parts_borne : PySem.W.keepIn K (.ref f_parts_borne) = true)
    (a_move_of : PySem.W.nsIn K mainGlobals "move_of" = some (some (.ref f_move_of)))
    (l_move_of : K.lookup f_move_of = some ⟨oc_move_of, od_move_of, .func (PySem.W.fnOf "move_of" "move_of" (defArgs d_move_of) (defBody d_move_of) (defScope d_move_of) .none kV_move_of dc_move_of pm_move_of an_move_of cd_move_of ct_move_of), sl_move_of⟩)
    (c_move_of : PySem.W.codeIn K cd_move_of "move_of" = true)
    (k_move_of : PySem.W.keepIn K (.ref f_move_of) = true)
    (a_check_depths : PySem.W.nsIn K mainGlobals "check_depths" = some (some (.ref f_check_depths)))
    (l_check_depths : K.lookup f_check_depths = some ⟨oc_check_depths, od_check_depths, .func (PySem.W.fnOf "check_depths" "check_depths" (defArgs d_check_depths) (defBody d_check_depths) (defScope d_check_depths) .none kV_check_depths dc_check_depths pm_check_depths an_check_depths cd_check_depths ct_check_depths), sl_check_depths⟩)
    (c_check_depths : PySem.W.codeIn K cd_check_depths "check_depths" = true)
    (k_check_depths : PySem.W.keepIn K (.ref f_check_depths) = true)
    (a_check_rain : PySem.W.nsIn K mainGlobals "check_rain" = some (some (.ref f_check_rain)))
    (l_check_rain : K.lookup f_check_rain = some ⟨oc_check_rain, od_check_rain, .func (PySem.W.fnOf "check_rain" "check_rain" (defArgs d_check_rain) (defBody d_check_rain) (defScope d_check_rain) .none kV_check_rain dc_check_rain pm_check_rain an_check_rain cd_check_rain ct_check_rain), sl_check_rain⟩)
    (c_check_rain : PySem.W.codeIn K cd_check_rain "check_rain" = true)
    (k_check_rain : PySem.W.keepIn K (.ref f_check_rain) = true)
    (a_gaps_of : PySem.W.nsIn K mainGlobals "gaps_of" = some (some (.ref f_gaps_of)))
    (l_gaps_of : K.lookup f_gaps_of = some ⟨oc_gaps_of, od_gaps_of, .func (PySem.W.fnOf "gaps_of" "gaps_of" (defArgs d_gaps_of) (defBody d_gaps_of) (defScope d_gaps_of) .none kV_gaps_of dc_gaps_of pm_gaps_of an_gaps_of cd_gaps_of ct_gaps_of), sl_gaps_of⟩)
    (c_gaps_of : PySem.W.codeIn K cd_gaps_of "gaps_of" = true)
    (k_gaps_of : PySem.W.keepIn K (.ref f_gaps_of) = true)
    (a_leads_of : PySem.W.nsIn K mainGlobals "leads_of" = some (some (.ref f_leads_of)))
    (l_leads_of : K.lookup f_leads_of = some ⟨oc_leads_of, od_leads_of, .func (PySem.W.fnOf "leads_of" "leads_of" (defArgs d_leads_of) (defBody d_leads_of) (defScope d_leads_of) .none kV_leads_of dc_leads_of pm_leads_of an_leads_of cd_leads_of ct_leads_of), sl_leads_of⟩)
    (c_leads_of : PySem.W.codeIn K cd_leads_of "leads_of" = true)
    (k_leads_of : PySem.W.keepIn K (.ref f_leads_of) = true)
    (a_flow_of : PySem.W.nsIn K mainGlobals "flow_of" = some (some (.ref f_flow_of)))
    (l_flow_of : K.lookup f_flow_of = some ⟨oc_flow_of, od_flow_of, .func (PySem.W.fnOf "flow_of" "flow_of" (defArgs d_flow_of) (defBody d_flow_of) (defScope d_flow_of) .none kV_flow_of dc_flow_of pm_flow_of an_flow_of cd_flow_of ct_flow_of), sl_flow_of⟩)
    (c_flow_of : PySem.W.codeIn K cd_flow_of "flow_of" = true)
    (k_flow_of : PySem.W.keepIn K (.ref f_flow_of) = true)
    (a_moves_of : PySem.W.nsIn K mainGlobals "moves_of" = some (some (.ref f_moves_of)))
    (l_moves_of : K.lookup f_moves_of = some ⟨oc_moves_of, od_moves_of, .func (PySem.W.fnOf "moves_of" "moves_of" (defArgs d_moves_of) (defBody d_moves_of) (defScope d_moves_of) .none kV_moves_of dc_moves_of pm_moves_of an_moves_of cd_moves_of ct_moves_of), sl_moves_of⟩)
    (c_moves_of : PySem.W.codeIn K cd_moves_of "moves_of" = true)
    (k_moves_of : PySem.W.keepIn K (.ref f_moves_of) = true)
    (a_day_of : PySem.W.nsIn K mainGlobals "day_of" = some (some (.ref f_day_of)))
    (l_day_of : K.lookup f_day_of = some ⟨oc_day_of, od_day_of, .func (PySem.W.fnOf "day_of" "day_of" (defArgs d_day_of) (defBody d_day_of) (defScope d_day_of) .none kV_day_of dc_day_of pm_day_of an_day_of cd_day_of ct_day_of), sl_day_of⟩)
    (c_day_of : PySem.W.codeIn K cd_day_of "day_of" = true)
    (k_day_of : PySem.W.keepIn K (.ref f_day_of) = true)
    (a_borne : PySem.W.nsIn K mainGlobals "borne" = some (some (.ref f_borne)))
    (l_borne : K.lookup f_borne = some ⟨oc_borne, od_borne, .func (PySem.W.fnOf "borne" "borne" (defArgs d_borne) (defBody d_borne) (defScope d_borne) .none kV_borne dc_borne pm_borne an_borne cd_borne ct_borne), sl_borne⟩)
    (c_borne : PySem.W.codeIn K cd_borne "borne" = true)
    (k_borne : PySem.W.keepIn K (.ref f_borne) = true)
    (a_water : PySem.W.nsIn K mainGlobals "water" = some (some (.ref f_water)))
    (l_water : K.lookup f_water = some ⟨oc_water, od_water, .func (PySem.W.fnOf "water" "water" (defArgs d_water) (defBody d_water) (defScope d_water) .none kV_water dc_water pm_water an_water cd_water ct_water), sl_water⟩)
    (c_water : PySem.W.codeIn K cd_water "water" = true)
    (k_water : PySem.W.keepIn K (.ref f_water) = true)
    (a_step : PySem.W.nsIn K mainGlobals "step" = some (some (.ref f_step)))
    (l_step : K.lookup f_step = some ⟨oc_step, od_step, .func (PySem.W.fnOf "step" "step" (defArgs d_step) (defBody d_step) (defScope d_step) .none kV_step dc_step pm_step an_step cd_step ct_step), sl_step⟩)
    (c_step : PySem.W.codeIn K cd_step "step" = true)
    (k_step : PySem.W.keepIn K (.ref f_step) = true)
    (a_cut : PySem.W.nsIn K mainGlobals "cut" = some (some (.ref f_cut)))
    (l_cut : K.lookup f_cut = some ⟨oc_cut, od_cut, .func (PySem.W.fnOf "cut" "cut" (defArgs d_cut) (defBody d_cut) (defScope d_cut) .none kV_cut dc_cut pm_cut an_cut cd_cut ct_cut), sl_cut⟩)
    (c_cut : PySem.W.codeIn K cd_cut "cut" = true)
    (k_cut : PySem.W.keepIn K (.ref f_cut) = true)
    (a_law_cell_at : PySem.W.nsIn K mainGlobals "_law_cell_at" = some (some (.ref f_law_cell_at)))
    (l_law_cell_at : K.lookup f_law_cell_at = some ⟨oc_law_cell_at, od_law_cell_at, .func (PySem.W.fnOf "_law_cell_at" "_law_cell_at" (defArgs d_law_cell_at) (defBody d_law_cell_at) (defScope d_law_cell_at) .none kV_law_cell_at dc_law_cell_at pm_law_cell_at an_law_cell_at cd_law_cell_at ct_law_cell_at), sl_law_cell_at⟩)
    (c_law_cell_at : PySem.W.codeIn K cd_law_cell_at "_law_cell_at" = true)
    (k_law_cell_at : PySem.W.keepIn K (.ref f_law_cell_at) = true)
    (a_law_mixed : PySem.W.nsIn K mainGlobals "_law_mixed" = some (some (.ref f_law_mixed)))
    (l_law_mixed : K.lookup f_law_mixed = some ⟨oc_law_mixed, od_law_mixed, .func (PySem.W.fnOf "_law_mixed" "_law_mixed" (defArgs d_law_mixed) (defBody d_law_mixed) (defScope d_law_mixed) .none kV_law_mixed dc_law_mixed pm_law_mixed an_law_mixed cd_law_mixed ct_law_mixed), sl_law_mixed⟩)
    (c_law_mixed : PySem.W.codeIn K cd_law_mixed "_law_mixed" = true)
    (k_law_mixed : PySem.W.keepIn K (.ref f_law_mixed) = true)
    (a_law_source : PySem.W.nsIn K mainGlobals "_law_source" = some (some (.ref f_law_source)))
    (l_law_source : K.lookup f_law_source = some ⟨oc_law_source, od_law_source, .func (PySem.W.fnOf "_law_source" "_law_source" (defArgs d_law_source) (defBody d_law_source) (defScope d_law_source) .none kV_law_source dc_law_source pm_law_source an_law_source cd_law_source ct_law_source), sl_law_source⟩)
    (c_law_source : PySem.W.codeIn K cd_law_source "_law_source" = true)
    (k_law_source : PySem.W.keepIn K (.ref f_law_source) = true)
    (a_law_next : PySem.W.nsIn K mainGlobals "_law_next" = some (some (.ref f_law_next)))
    (l_law_next : K.lookup f_law_next = some ⟨oc_law_next, od_law_next, .func (PySem.W.fnOf "_law_next" "_law_next" (defArgs d_law_next) (defBody d_law_next) (defScope d_law_next) .none kV_law_next dc_law_next pm_law_next an_law_next cd_law_next ct_law_next), sl_law_next⟩)
    (c_law_next : PySem.W.codeIn K cd_law_next "_law_next" = true)
    (k_law_next : PySem.W.keepIn K (.ref f_law_next) = true)
    (a_law_pick : PySem.W.nsIn K mainGlobals "_law_pick" = some (some (.ref f_law_pick)))
    (l_law_pick : K.lookup f_law_pick = some ⟨oc_law_pick, od_law_pick, .func (PySem.W.fnOf "_law_pick" "_law_pick" (defArgs d_law_pick) (defBody d_law_pick) (defScope d_law_pick) .none kV_law_pick dc_law_pick pm_law_pick an_law_pick cd_law_pick ct_law_pick), sl_law_pick⟩)
    (c_law_pick : PySem.W.codeIn K cd_law_pick "_law_pick" = true)
    (k_law_pick : PySem.W.keepIn K (.ref f_law_pick) = true)
    (a_law_lowered : PySem.W.nsIn K mainGlobals "_law_lowered" = some (some (.ref f_law_lowered)))
    (l_law_lowered : K.lookup f_law_lowered = some ⟨oc_law_lowered, od_law_lowered, .func (PySem.W.fnOf "_law_lowered" "_law_lowered" (defArgs d_law_lowered) (defBody d_law_lowered) (defScope d_law_lowered) .none kV_law_lowered dc_law_lowered pm_law_lowered an_law_lowered cd_law_lowered ct_law_lowered), sl_law_lowered⟩)
    (c_law_lowered : PySem.W.codeIn K cd_law_lowered "_law_lowered" = true)
    (k_law_lowered : PySem.W.keepIn K (.ref f_law_lowered) = true)
    (a_law_sum : PySem.W.nsIn K mainGlobals "_law_sum" = some (some (.ref f_law_sum)))
    (l_law_sum : K.lookup f_law_sum = some ⟨oc_law_sum, od_law_sum, .func (PySem.W.fnOf "_law_sum" "_law_sum" (defArgs d_law_sum) (defBody d_law_sum) (defScope d_law_sum) .none kV_law_sum dc_law_sum pm_law_sum an_law_sum cd_law_sum ct_law_sum), sl_law_sum⟩)
    (c_law_sum : PySem.W.codeIn K cd_law_sum "_law_sum" = true)
    (k_law_sum : PySem.W.keepIn K (.ref f_law_sum) = true)
    (a_law_product : PySem.W.nsIn K mainGlobals "_law_product" = some (some (.ref f_law_product)))
    (l_law_product : K.lookup f_law_product = some ⟨oc_law_product, od_law_product, .func (PySem.W.fnOf "_law_product" "_law_product" (defArgs d_law_product) (defBody d_law_product) (defScope d_law_product) .none kV_law_product dc_law_product pm_law_product an_law_product cd_law_product ct_law_product), sl_law_product⟩)
    (c_law_product : PySem.W.codeIn K cd_law_product "_law_product" = true)
    (k_law_product : PySem.W.keepIn K (.ref f_law_product) = true)
    (a_law_mark : PySem.W.nsIn K mainGlobals "_law_mark" = some (some (.ref f_law_mark)))
    (l_law_mark : K.lookup f_law_mark = some ⟨oc_law_mark, od_law_mark, .func (PySem.W.fnOf "_law_mark" "_law_mark" (defArgs d_law_mark) (defBody d_law_mark) (defScope d_law_mark) .none kV_law_mark dc_law_mark pm_law_mark an_law_mark cd_law_mark ct_law_mark), sl_law_mark⟩)
    (c_law_mark : PySem.W.codeIn K cd_law_mark "_law_mark" = true)
    (k_law_mark : PySem.W.keepIn K (.ref f_law_mark) = true)
    (a_law_beds_of : PySem.W.nsIn K mainGlobals "_law_beds_of" = some (some (.ref f_law_beds_of)))
    (l_law_beds_of : K.lookup f_law_beds_of = some ⟨oc_law_beds_of, od_law_beds_of, .func (PySem.W.fnOf "_law_beds_of" "_law_beds_of" (defArgs d_law_beds_of) (defBody d_law_beds_of) (defScope d_law_beds_of) .none kV_law_beds_of dc_law_beds_of pm_law_beds_of an_law_beds_of cd_law_beds_of ct_law_beds_of), sl_law_beds_of⟩)
    (c_law_beds_of : PySem.W.codeIn K cd_law_beds_of "_law_beds_of" = true)
    (k_law_beds_of : PySem.W.keepIn K (.ref f_law_beds_of) = true)
    (a_law_world : PySem.W.nsIn K mainGlobals "_law_world" = some (some (.ref f_law_world)))
    (l_law_world : K.lookup f_law_world = some ⟨oc_law_world, od_law_world, .func (PySem.W.fnOf "_law_world" "_law_world" (defArgs d_law_world) (defBody d_law_world) (defScope d_law_world) .none kV_law_world dc_law_world pm_law_world an_law_world cd_law_world ct_law_world), sl_law_world⟩)
    (c_law_world : PySem.W.codeIn K cd_law_world "_law_world" = true)
    (k_law_world : PySem.W.keepIn K (.ref f_law_world) = true)
    (a_law_made : PySem.W.nsIn K mainGlobals "_law_made" = some (some (.ref f_law_made)))
    (l_law_made : K.lookup f_law_made = some ⟨oc_law_made, od_law_made, .func (PySem.W.fnOf "_law_made" "_law_made" (defArgs d_law_made) (defBody d_law_made) (defScope d_law_made) .none kV_law_made dc_law_made pm_law_made an_law_made cd_law_made ct_law_made), sl_law_made⟩)
    (c_law_made : PySem.W.codeIn K cd_law_made "_law_made" = true)
    (k_law_made : PySem.W.keepIn K (.ref f_law_made) = true)
    (a_law_depths : PySem.W.nsIn K mainGlobals "_law_depths" = some (some (.ref f_law_depths)))
    (l_law_depths : K.lookup f_law_depths = some ⟨oc_law_depths, od_law_depths, .func (PySem.W.fnOf "_law_depths" "_law_depths" (defArgs d_law_depths) (defBody d_law_depths) (defScope d_law_depths) .none kV_law_depths dc_law_depths pm_law_depths an_law_depths cd_law_depths ct_law_depths), sl_law_depths⟩)
    (c_law_depths : PySem.W.codeIn K cd_law_depths "_law_depths" = true)
    (k_law_depths : PySem.W.keepIn K (.ref f_law_depths) = true)
    (a_law_falls : PySem.W.nsIn K mainGlobals "_law_falls" = some (some (.ref f_law_falls)))
    (l_law_falls : K.lookup f_law_falls = some ⟨oc_law_falls, od_law_falls, .func (PySem.W.fnOf "_law_falls" "_law_falls" (defArgs d_law_falls) (defBody d_law_falls) (defScope d_law_falls) .none kV_law_falls dc_law_falls pm_law_falls an_law_falls cd_law_falls ct_law_falls), sl_law_falls⟩)
    (c_law_falls : PySem.W.codeIn K cd_law_falls "_law_falls" = true)
    (k_law_falls : PySem.W.keepIn K (.ref f_law_falls) = true)
    (a_law_shares : PySem.W.nsIn K mainGlobals "_law_shares" = some (some (.ref f_law_shares)))
    (l_law_shares : K.lookup f_law_shares = some ⟨oc_law_shares, od_law_shares, .func (PySem.W.fnOf "_law_shares" "_law_shares" (defArgs d_law_shares) (defBody d_law_shares) (defScope d_law_shares) .none kV_law_shares dc_law_shares pm_law_shares an_law_shares cd_law_shares ct_law_shares), sl_law_shares⟩)
    (c_law_shares : PySem.W.codeIn K cd_law_shares "_law_shares" = true)
    (k_law_shares : PySem.W.keepIn K (.ref f_law_shares) = true)
    (a_law_refused : PySem.W.nsIn K mainGlobals "_law_refused" = some (some (.ref f_law_refused)))
    (l_law_refused : K.lookup f_law_refused = some ⟨oc_law_refused, od_law_refused, .func (PySem.W.fnOf "_law_refused" "_law_refused" (defArgs d_law_refused) (defBody d_law_refused) (defScope d_law_refused) .none kV_law_refused dc_law_refused pm_law_refused an_law_refused cd_law_refused ct_law_refused), sl_law_refused⟩)
    (c_law_refused : PySem.W.codeIn K cd_law_refused "_law_refused" = true)
    (k_law_refused : PySem.W.keepIn K (.ref f_law_refused) = true)
    (a_law_day_right : PySem.W.nsIn K mainGlobals "_law_day_right" = some (some (.ref f_law_day_right)))
    (l_law_day_right : K.lookup f_law_day_right = some ⟨oc_law_day_right, od_law_day_right, .func (PySem.W.fnOf "_law_day_right" "_law_day_right" (defArgs d_law_day_right) (defBody d_law_day_right) (defScope d_law_day_right) .none kV_law_day_right dc_law_day_right pm_law_day_right an_law_day_right cd_law_day_right ct_law_day_right), sl_law_day_right⟩)
    (c_law_day_right : PySem.W.codeIn K cd_law_day_right "_law_day_right" = true)
    (k_law_day_right : PySem.W.keepIn K (.ref f_law_day_right) = true)
    (a_law : PySem.W.nsIn K mainGlobals "law" = some (some (.ref f_law)))
    (l_law : K.lookup f_law = some ⟨oc_law, od_law, .func (PySem.W.fnOf "law" "law" (defArgs d_law) (defBody d_law) (defScope d_law) .none kV_law dc_law pm_law an_law cd_law ct_law), sl_law⟩)
    (c_law : PySem.W.codeIn K cd_law "law" = true)
    (k_law : PySem.W.keepIn K (.ref f_law) = true)
    (gs : PySem.W.specialIn K (.builtin "object.__class__") "__get__" = some (some (.builtin "getset_descriptor.__get__")))
    (gt : PySem.W.takesIn K (.builtin "object.__class__") = some true)
    : ∃ fd : FuncData, (∀ (s : Shared) (v : Value), BindsTo s fd ⟨[v], []⟩ [("script", v)]) ∧ ∀ base : Heap, K.In base → base.Ns mainGlobals mg → FnG P w K mg base 10 fa fd ["script"] (spLaw K) := by
  have e := hfa.symm.trans (PySem.W.mg_of X G a_law)
  cases e
  have z_ValueError := PySem.W.mg_none_of X G z_ValueError
  have z_abs := PySem.W.mg_none_of X G z_abs
  have z_all := PySem.W.mg_none_of X G z_all
  have z_any := PySem.W.mg_none_of X G z_any
  have z_bool := PySem.W.mg_none_of X G z_bool
  have z_enumerate := PySem.W.mg_none_of X G z_enumerate
  have z_int := PySem.W.mg_none_of X G z_int
  have z_isinstance := PySem.W.mg_none_of X G z_isinstance
  have z_len := PySem.W.mg_none_of X G z_len
  have z_list := PySem.W.mg_none_of X G z_list
  have z_max := PySem.W.mg_none_of X G z_max
  have z_min := PySem.W.mg_none_of X G z_min
  have z_range := PySem.W.mg_none_of X G z_range
  have z_repr := PySem.W.mg_none_of X G z_repr
  have z_sorted := PySem.W.mg_none_of X G z_sorted
  have z_sum := PySem.W.mg_none_of X G z_sum
  have z_super := PySem.W.mg_none_of X G z_super
  have z_tuple := PySem.W.mg_none_of X G z_tuple
  have z_zip := PySem.W.mg_none_of X G z_zip
  have i_gcd := PySem.W.mg_of X G i_gcd
  have i_lcm := PySem.W.mg_of X G i_lcm
  have g_MOST_PLACES := PySem.W.mg_of X G g_MOST_PLACES
  have g_MOST_BEDS := PySem.W.mg_of X G g_MOST_BEDS
  have g_MOST_BEDS_OF_A_PLACE := PySem.W.mg_of X G g_MOST_BEDS_OF_A_PLACE
  have g_MOST_OF_A_PART := PySem.W.mg_of X G g_MOST_OF_A_PART
  have mcRillError := PySem.W.mg_of X G acRillError
  have mcNoShare := PySem.W.mg_of X G acNoShare
  have mcNoPlace := PySem.W.mg_of X G acNoPlace
  have mcShare := PySem.W.mg_of X G acShare
  have mcWeb := PySem.W.mg_of X G acWeb
  have OwNoPlace : OwnX P K mg cNoPlace fcNoPlace "NoPlace" "NoPlace.__init__" "place" d_NoPlace_init := ⟨PySem.W.mg_of X G acNoPlace, ⟨_, _, _, _, _, _, _, _, _, _, _, _, _, _, _, xxcNoPlace, by first | rfl | decide +kernel⟩, sacNoPlace, nocNoPlace, incNoPlace, tfcNoPlace, kcNoPlace, sucNoPlace, xO, sbcNoPlace, mmcNoPlace, z_super, xT, ⟨_, _, _, _, _, _, _, _, _, _, lfcNoPlace, cfcNoPlace, ⟨_, _, _, _, _, _, lccNoPlace, v2cNoPlace, flcNoPlace⟩, _, _, _, lecNoPlace⟩⟩
  have ZiNoPlace : InitOk P w K mg cNoPlace fcNoPlace "place" := fun A R s mb x t0 v X G Bn hbb hlim hx hnx hroom hq => init_place OwNoPlace X G Bn hbb hlim hx hnx hroom hq
  have XfNoPlace : XfC K cNoPlace := ⟨gacNoPlace, ggcNoPlace, bcNoPlace, dcNoPlace⟩
  have F_Share_init : FunD K "__init__" "Share.__init__" (defArgs d_Share_init) (defBody d_Share_init) (defScope d_Share_init) [.int 1] [] f_Share_init _ := ⟨⟨_, _, _, _, _, _, _, _, _, _, rfl, l_Share_init, c_Share_init, .inr ⟨(fun z => nomatch z), TD_Share_init, _, [Value.int 1 tkTD_Share_init], nTD_Share_init, rfl, lTD_Share_init, rfl, .cons ⟨tkTD_Share_init, rfl⟩ .nil⟩, .inl rfl⟩, k_Share_init⟩
  obtain ⟨ds_Share_init3, rd_Share_init3, b_Share_init3⟩ := FunD.binds1 (ps := ["self", "top", "bottom"]) F_Share_init 3 1 (fun z => nomatch z) rfl (fun T kV doc pm an cdv ct us its hu hi => match us, its, hu, hi with | [_, _, _], [_], _, _ => ⟨_, rfl, rfl⟩)
  obtain ⟨ds_Share_init2, rd_Share_init2, b_Share_init2⟩ := FunD.binds1 (ps := ["self", "top", "bottom"]) F_Share_init 2 0 (fun z => nomatch z) rfl (fun T kV doc pm an cdv ct us its hu hi => match us, its, hu, hi with | [_, _], [_], _, _ => ⟨_, rfl, rfl⟩)
  cases rd_Share_init3
  obtain ⟨u0_Share_init, rfl⟩ : ∃ u0, ds_Share_init2 = [u0] := by
    cases rd_Share_init2 with
    | cons r1 rn =>
      cases rn
      exact ⟨_, rfl⟩
  have F_Share_eq := fun_mk (st := d_Share_eq) l_Share_eq c_Share_eq k_Share_eq
  have b_Share_eq := F_Share_eq.binds (ps := ["self", "other"]) fun _ _ _ _ _ _ us hl => match us, hl with | [_, _], _ => rfl
  have F_Web_init := fun_mk (st := d_Web_init) l_Web_init c_Web_init k_Web_init
  have b_Web_init := F_Web_init.binds (ps := ["self", "many", "beds", "parts"]) fun _ _ _ _ _ _ us hl => match us, hl with | [_, _, _, _], _ => rfl
  have F_Web_eq := fun_mk (st := d_Web_eq) l_Web_eq c_Web_eq k_Web_eq
  have b_Web_eq := F_Web_eq.binds (ps := ["self", "other"]) fun _ _ _ _ _ _ us hl => match us, hl with | [_, _], _ => rfl
  have F_is_whole := fun_mk (st := d_is_whole) l_is_whole c_is_whole k_is_whole
  have m_is_whole := PySem.W.mg_of X G a_is_whole
  have b_is_whole := F_is_whole.binds (ps := ["thing"]) fun _ _ _ _ _ _ us hl => match us, hl with | [_], _ => rfl
  have F_is_between := fun_mk (st := d_is_between) l_is_between c_is_between k_is_between
  have m_is_between := PySem.W.mg_of X G a_is_between
  have b_is_between := F_is_between.binds (ps := ["thing", "least", "most"]) fun _ _ _ _ _ _ us hl => match us, hl with | [_, _, _], _ => rfl
  have F_times := fun_mk (st := d_times) l_times c_times k_times
  have m_times := PySem.W.mg_of X G a_times
  have b_times := F_times.binds (ps := ["one", "other"]) fun _ _ _ _ _ _ us hl => match us, hl with | [_, _], _ => rfl
  have F_less := fun_mk (st := d_less) l_less c_less k_less
  have m_less := PySem.W.mg_of X G a_less
  have b_less := F_less.binds (ps := ["one", "other"]) fun _ _ _ _ _ _ us hl => match us, hl with | [_, _], _ => rfl
  have F_total := fun_mk (st := d_total) l_total c_total k_total
  have m_total := PySem.W.mg_of X G a_total
  have b_total := F_total.binds (ps := ["shares"]) fun _ _ _ _ _ _ us hl => match us, hl with | [_], _ => rfl
  have F_are_beds := fun_mk (st := d_are_beds) l_are_beds c_are_beds k_are_beds
  have m_are_beds := PySem.W.mg_of X G a_are_beds
  have b_are_beds := F_are_beds.binds (ps := ["things", "many"]) fun _ _ _ _ _ _ us hl => match us, hl with | [_, _], _ => rfl
  have F_is_a_bed := fun_mk (st := d_is_a_bed) l_is_a_bed c_is_a_bed k_is_a_bed
  have m_is_a_bed := PySem.W.mg_of X G a_is_a_bed
  have b_is_a_bed := F_is_a_bed.binds (ps := ["thing", "many"]) fun _ _ _ _ _ _ us hl => match us, hl with | [_, _], _ => rfl
  have F_are_parts := fun_mk (st := d_are_parts) l_are_parts c_are_parts k_are_parts
  have m_are_parts := PySem.W.mg_of X G a_are_parts
  have b_are_parts := F_are_parts.binds (ps := ["things", "many", "beds"]) fun _ _ _ _ _ _ us hl => match us, hl with | [_, _, _], _ => rfl
  have F_are_parts_of_one := fun_mk (st := d_are_parts_of_one) l_are_parts_of_one c_are_parts_of_one k_are_parts_of_one
  have m_are_parts_of_one := PySem.W.mg_of X G a_are_parts_of_one
  have b_are_parts_of_one := F_are_parts_of_one.binds (ps := ["thing", "many"]) fun _ _ _ _ _ _ us hl => match us, hl with | [_, _], _ => rfl
  have F_beds_from := fun_mk (st := d_beds_from) l_beds_from c_beds_from k_beds_from
  have m_beds_from := PySem.W.mg_of X G a_beds_from
  have b_beds_from := F_beds_from.binds (ps := ["web", "place"]) fun _ _ _ _ _ _ us hl => match us, hl with | [_, _], _ => rfl
  have F_are_depths := fun_mk (st := d_are_depths) l_are_depths c_are_depths k_are_depths
  have m_are_depths := PySem.W.mg_of X G a_are_depths
  have b_are_depths := F_are_depths.binds (ps := ["web", "thing"]) fun _ _ _ _ _ _ us hl => match us, hl with | [_, _], _ => rfl
  have F_is_rain := fun_mk (st := d_is_rain) l_is_rain c_is_rain k_is_rain
  have m_is_rain := PySem.W.mg_of X G a_is_rain
  have b_is_rain := F_is_rain.binds (ps := ["web", "thing"]) fun _ _ _ _ _ _ us hl => match us, hl with | [_, _], _ => rfl
  have F_parts_borne := fun_mk (st := d_parts_borne) l_parts_borne c_parts_borne k_parts_borne
  have m_parts_borne := PySem.W.mg_of X G a_parts_borne
  have b_parts_borne := F_parts_borne.binds (ps := ["parts", "amount", "ahead_is_first"]) fun _ _ _ _ _ _ us hl => match us, hl with | [_, _, _], _ => rfl
  have F_move_of := fun_mk (st := d_move_of) l_move_of c_move_of k_move_of
  have m_move_of := PySem.W.mg_of X G a_move_of
  have b_move_of := F_move_of.binds (ps := ["bed", "share"]) fun _ _ _ _ _ _ us hl => match us, hl with | [_, _], _ => rfl
  have F_check_depths := fun_mk (st := d_check_depths) l_check_depths c_check_depths k_check_depths
  have m_check_depths := PySem.W.mg_of X G a_check_depths
  have b_check_depths := F_check_depths.binds (ps := ["web", "thing"]) fun _ _ _ _ _ _ us hl => match us, hl with | [_, _], _ => rfl
  have F_check_rain := fun_mk (st := d_check_rain) l_check_rain c_check_rain k_check_rain
  have m_check_rain := PySem.W.mg_of X G a_check_rain
  have b_check_rain := F_check_rain.binds (ps := ["web", "thing"]) fun _ _ _ _ _ _ us hl => match us, hl with | [_, _], _ => rfl
  have F_gaps_of := fun_mk (st := d_gaps_of) l_gaps_of c_gaps_of k_gaps_of
  have m_gaps_of := PySem.W.mg_of X G a_gaps_of
  have b_gaps_of := F_gaps_of.binds (ps := ["web", "numbers"]) fun _ _ _ _ _ _ us hl => match us, hl with | [_, _], _ => rfl
  have F_leads_of := fun_mk (st := d_leads_of) l_leads_of c_leads_of k_leads_of
  have m_leads_of := PySem.W.mg_of X G a_leads_of
  have b_leads_of := F_leads_of.binds (ps := ["gaps"]) fun _ _ _ _ _ _ us hl => match us, hl with | [_], _ => rfl
  have F_flow_of := fun_mk (st := d_flow_of) l_flow_of c_flow_of k_flow_of
  have m_flow_of := PySem.W.mg_of X G a_flow_of
  have b_flow_of := F_flow_of.binds (ps := ["web", "leads", "rain"]) fun _ _ _ _ _ _ us hl => match us, hl with | [_, _, _], _ => rfl
  have F_moves_of := fun_mk (st := d_moves_of) l_moves_of c_moves_of k_moves_of
  have m_moves_of := PySem.W.mg_of X G a_moves_of
  have b_moves_of := F_moves_of.binds (ps := ["web", "bears"]) fun _ _ _ _ _ _ us hl => match us, hl with | [_, _], _ => rfl
  have F_day_of := fun_mk (st := d_day_of) l_day_of c_day_of k_day_of
  have m_day_of := PySem.W.mg_of X G a_day_of
  have b_day_of := F_day_of.binds (ps := ["web", "depths", "rain"]) fun _ _ _ _ _ _ us hl => match us, hl with | [_, _, _], _ => rfl
  have F_borne := fun_mk (st := d_borne) l_borne c_borne k_borne
  have m_borne := PySem.W.mg_of X G a_borne
  have F_water := fun_mk (st := d_water) l_water c_water k_water
  have m_water := PySem.W.mg_of X G a_water
  have F_step := fun_mk (st := d_step) l_step c_step k_step
  have m_step := PySem.W.mg_of X G a_step
  have F_cut := fun_mk (st := d_cut) l_cut c_cut k_cut
  have m_cut := PySem.W.mg_of X G a_cut
  have b_cut := F_cut.binds (ps := ["web", "place"]) fun _ _ _ _ _ _ us hl => match us, hl with | [_, _], _ => rfl
  have F_law_cell_at := fun_mk (st := d_law_cell_at) l_law_cell_at c_law_cell_at k_law_cell_at
  have m_law_cell_at := PySem.W.mg_of X G a_law_cell_at
  have b_law_cell_at := F_law_cell_at.binds (ps := ["script", "k"]) fun _ _ _ _ _ _ us hl => match us, hl with | [_, _], _ => rfl
  have F_law_mixed := fun_mk (st := d_law_mixed) l_law_mixed c_law_mixed k_law_mixed
  have m_law_mixed := PySem.W.mg_of X G a_law_mixed
  have b_law_mixed := F_law_mixed.binds (ps := ["cell", "k"]) fun _ _ _ _ _ _ us hl => match us, hl with | [_, _], _ => rfl
  have F_law_source := fun_mk (st := d_law_source) l_law_source c_law_source k_law_source
  have m_law_source := PySem.W.mg_of X G a_law_source
  have b_law_source := F_law_source.binds (ps := ["script", "k"]) fun _ _ _ _ _ _ us hl => match us, hl with | [_, _], _ => rfl
  have F_law_next := fun_mk (st := d_law_next) l_law_next c_law_next k_law_next
  have m_law_next := PySem.W.mg_of X G a_law_next
  have b_law_next := F_law_next.binds (ps := ["source", "many"]) fun _ _ _ _ _ _ us hl => match us, hl with | [_, _], _ => rfl
  have F_law_pick := fun_mk (st := d_law_pick) l_law_pick c_law_pick k_law_pick
  have m_law_pick := PySem.W.mg_of X G a_law_pick
  have b_law_pick := F_law_pick.binds (ps := ["source", "some"]) fun _ _ _ _ _ _ us hl => match us, hl with | [_, _], _ => rfl
  have F_law_lowered := fun_mk (st := d_law_lowered) l_law_lowered c_law_lowered k_law_lowered
  have m_law_lowered := PySem.W.mg_of X G a_law_lowered
  have b_law_lowered := F_law_lowered.binds (ps := ["one", "other"]) fun _ _ _ _ _ _ us hl => match us, hl with | [_, _], _ => rfl
  have F_law_sum := fun_mk (st := d_law_sum) l_law_sum c_law_sum k_law_sum
  have m_law_sum := PySem.W.mg_of X G a_law_sum
  have b_law_sum := F_law_sum.binds (ps := ["one", "other"]) fun _ _ _ _ _ _ us hl => match us, hl with | [_, _], _ => rfl
  have F_law_product := fun_mk (st := d_law_product) l_law_product c_law_product k_law_product
  have m_law_product := PySem.W.mg_of X G a_law_product
  have b_law_product := F_law_product.binds (ps := ["one", "other"]) fun _ _ _ _ _ _ us hl => match us, hl with | [_, _], _ => rfl
  have F_law_mark := fun_mk (st := d_law_mark) l_law_mark c_law_mark k_law_mark
  have m_law_mark := PySem.W.mg_of X G a_law_mark
  have b_law_mark := F_law_mark.binds (ps := ["source"]) fun _ _ _ _ _ _ us hl => match us, hl with | [_], _ => rfl
  have F_law_beds_of := fun_mk (st := d_law_beds_of) l_law_beds_of c_law_beds_of k_law_beds_of
  have m_law_beds_of := PySem.W.mg_of X G a_law_beds_of
  have b_law_beds_of := F_law_beds_of.binds (ps := ["source", "many"]) fun _ _ _ _ _ _ us hl => match us, hl with | [_, _], _ => rfl
  have F_law_world := fun_mk (st := d_law_world) l_law_world c_law_world k_law_world
  have m_law_world := PySem.W.mg_of X G a_law_world
  have b_law_world := F_law_world.binds (ps := ["source", "most_places"]) fun _ _ _ _ _ _ us hl => match us, hl with | [_, _], _ => rfl
  have F_law_made := fun_mk (st := d_law_made) l_law_made c_law_made k_law_made
  have m_law_made := PySem.W.mg_of X G a_law_made
  have b_law_made := F_law_made.binds (ps := ["world"]) fun _ _ _ _ _ _ us hl => match us, hl with | [_], _ => rfl
  have F_law_depths := fun_mk (st := d_law_depths) l_law_depths c_law_depths k_law_depths
  have m_law_depths := PySem.W.mg_of X G a_law_depths
  have b_law_depths := F_law_depths.binds (ps := ["source", "world"]) fun _ _ _ _ _ _ us hl => match us, hl with | [_, _], _ => rfl
  have F_law_falls := fun_mk (st := d_law_falls) l_law_falls c_law_falls k_law_falls
  have m_law_falls := PySem.W.mg_of X G a_law_falls
  have b_law_falls := F_law_falls.binds (ps := ["source", "world"]) fun _ _ _ _ _ _ us hl => match us, hl with | [_, _], _ => rfl
  have F_law_shares := fun_mk (st := d_law_shares) l_law_shares c_law_shares k_law_shares
  have m_law_shares := PySem.W.mg_of X G a_law_shares
  have b_law_shares := F_law_shares.binds (ps := ["told"]) fun _ _ _ _ _ _ us hl => match us, hl with | [_], _ => rfl
  have F_law_refused := fun_mk (st := d_law_refused) l_law_refused c_law_refused k_law_refused
  have m_law_refused := PySem.W.mg_of X G a_law_refused
  have b_law_refused := F_law_refused.binds (ps := ["made", "odd"]) fun _ _ _ _ _ _ us hl => match us, hl with | [_, _], _ => rfl
  have F_law_day_right := fun_mk (st := d_law_day_right) l_law_day_right c_law_day_right k_law_day_right
  have m_law_day_right := PySem.W.mg_of X G a_law_day_right
  have b_law_day_right := F_law_day_right.binds (ps := ["made", "upper", "number", "depths", "fall"]) fun _ _ _ _ _ _ us hl => match us, hl with | [_, _, _, _, _], _ => rfl
  have F_law := fun_mk (st := d_law) l_law c_law k_law
  have m_law := PySem.W.mg_of X G a_law
  refine ⟨PySem.W.fnOf "law" "law" (defArgs d_law) (defBody d_law) (defScope d_law) .none kV_law dc_law pm_law an_law cd_law ct_law, fun s v => .of_eq rfl, fun base _ _ => ?_⟩
  have T : Txt K mg cShare cNoShare := ⟨⟨pgcShare, hdcShare, pocShare, sacShare⟩, ncShare_top, ncShare_bottom, mcShare, i_gcd, z_isinstance, z_int, z_bool, mcNoShare, xcNoShare, kcNoShare, bcNoShare, tcNoShare, exm_own bcNoShare icNoShare tcNoShare scNoShare⟩
  have Y : TxtW mg cShare := ⟨z_isinstance, z_tuple, z_list, z_len, z_all, z_any, z_sorted, z_enumerate, mcShare⟩
  have clW : L2.Cls K cWeb := ⟨pgcWeb, hdcWeb, pocWeb, sacWeb⟩
  have TW : CrsW K cWeb := ⟨clW, ncWeb_many, ncWeb_beds, ncWeb_parts⟩
  have IsSh := isShT T gccShare gs gt gmcShare
  have IsW : ∀ H p dx fs, H p = some (.ins cWeb dx fs) → TyX K H (.ref p) (.ref cWeb) := fun H p dx fs e => .base (.ins e clW gccWeb gs gt gmcWeb)
  have M : Mk K cShare f_Share_init := ⟨mkcShare, a_Share_init, i_Share_init, kccShare⟩
  have MW : Mk K cWeb f_Web_init := ⟨mkcWeb, a_Web_init, i_Web_init, kccWeb⟩
  have ne : cShare ≠ cWeb := fun z => by
    have j := jShare_Web
    rw [← z, mecShare] at j
    cases j
  have G_is_whole := ok_whole (P := P) (w := w) (mg := mg) (base := base) F_is_whole T
  have GI := ok_init (P := P) (w := w) (mg := mg) (base := base) F_Share_init T G_is_whole m_is_whole k_is_whole b_is_whole
  have G_is_between := ok_betweenI (P := P) (w := w) (mg := mg) (base := base) F_is_between ⟨G_is_whole, m_is_whole, k_is_whole, b_is_whole⟩
  have G_less := ok_lessQ (P := P) (w := w) (mg := mg) (base := base) F_less T
  have G_times := ok_timesQ (P := P) (w := w) (mg := mg) (base := base) F_times T M GI b_Share_init3
  have G_total := ok_totalQ (P := P) (w := w) (mg := mg) (base := base) F_total T z_len z_sum i_lcm M GI b_Share_init3
  have G_is_a_bed := ok_bedG (P := P) (w := w) (mg := mg) (base := base) F_is_a_bed T Y IsSh mecShare ⟨G_is_between, m_is_between, k_is_between, b_is_between⟩ ⟨G_less, m_less, k_less, b_less⟩
  have G_are_beds := ok_bedsG (P := P) (w := w) (mg := mg) (base := base) F_are_beds Y g_MOST_BEDS g_MOST_BEDS_OF_A_PLACE ⟨G_is_a_bed, m_is_a_bed, k_is_a_bed, b_is_a_bed⟩
  have G_are_parts_of_one := ok_part1 (P := P) (w := w) (mg := mg) (base := base) F_are_parts_of_one Y g_MOST_OF_A_PART ⟨G_is_between, m_is_between, k_is_between, b_is_between⟩
  have G_are_parts := ok_partsG (P := P) (w := w) (mg := mg) (base := base) F_are_parts Y ⟨G_are_parts_of_one, m_are_parts_of_one, k_are_parts_of_one, b_are_parts_of_one⟩
  have GWi := ok_winit (P := P) (w := w) (mg := mg) (base := base) F_Web_init TW ne Y g_MOST_PLACES ⟨G_is_between, m_is_between, k_is_between, b_is_between⟩ ⟨G_are_beds, m_are_beds, k_are_beds, b_are_beds⟩ ⟨G_are_parts, m_are_parts, k_are_parts, b_are_parts⟩
  have G_beds_from := ok_fromB (P := P) (w := w) (mg := mg) (base := base) F_beds_from TW Y
  have G_gaps_of := ok_gaps (P := P) (w := w) (mg := mg) (base := base) F_gaps_of TW Y z_range ⟨G_beds_from, m_beds_from, k_beds_from, b_beds_from⟩
  have G_leads_of := ok_leads (P := P) (w := w) (mg := mg) (base := base) F_leads_of Y
  have G_are_depths := ok_areD (P := P) (w := w) (mg := mg) (base := base) F_are_depths TW Y ⟨G_is_whole, m_is_whole, k_is_whole, b_is_whole⟩
  have G_is_rain := ok_isR (P := P) (w := w) (mg := mg) (base := base) F_is_rain TW T Y IsSh mecShare
  have G_check_depths := ok_checkD (P := P) (w := w) (mg := mg) (base := base) F_check_depths ⟨G_are_depths, m_are_depths, k_are_depths, b_are_depths⟩
  have G_check_rain := ok_checkR (P := P) (w := w) (mg := mg) (base := base) F_check_rain ⟨G_is_rain, m_is_rain, k_is_rain, b_is_rain⟩
  have G_move_of := ok_move (P := P) (w := w) (mg := mg) (base := base) F_move_of ⟨G_less, m_less, k_less, b_less⟩
  have G_moves_of := ok_moves (P := P) (w := w) (mg := mg) (base := base) F_moves_of TW z_zip ⟨G_move_of, m_move_of, k_move_of, b_move_of⟩
  have G_parts_borne := ok_pb (P := P) (w := w) (mg := mg) (base := base) F_parts_borne T z_sum M GI b_Share_init3 ⟨G_times, m_times, k_times, b_times⟩
  have G_flow_of := ok_flow (P := P) (w := w) (mg := mg) (base := base) F_flow_of TW z_zip z_range ⟨G_total, m_total, k_total, b_total⟩ ⟨G_parts_borne, m_parts_borne, k_parts_borne, b_parts_borne⟩
  have G_day_of := ok_day (P := P) (w := w) (mg := mg) (base := base) F_day_of ⟨G_check_depths, m_check_depths, k_check_depths, b_check_depths⟩ ⟨G_check_rain, m_check_rain, k_check_rain, b_check_rain⟩ ⟨G_gaps_of, m_gaps_of, k_gaps_of, b_gaps_of⟩ ⟨G_leads_of, m_leads_of, k_leads_of, b_leads_of⟩ ⟨G_flow_of, m_flow_of, k_flow_of, b_flow_of⟩
  have B : TxtB mg := ⟨z_int, z_len, z_abs⟩
  have G_law_cell_at := ok_cell (P := P) (w := w) (mg := mg) (base := base) F_law_cell_at B
  have G_law_mixed := ok_mixed (P := P) (w := w) (mg := mg) (base := base) F_law_mixed 
  have G_law_source := ok_source (P := P) (w := w) (mg := mg) (base := base) F_law_source B ⟨G_law_cell_at, m_law_cell_at, k_law_cell_at, b_law_cell_at⟩ ⟨G_law_mixed, m_law_mixed, k_law_mixed, b_law_mixed⟩
  have G_law_next := ok_next (P := P) (w := w) (mg := mg) (base := base) F_law_next ⟨G_law_mixed, m_law_mixed, k_law_mixed, b_law_mixed⟩
  have G_law_pick := ok_pick (P := P) (w := w) (mg := mg) (base := base) F_law_pick B ⟨G_law_next, m_law_next, k_law_next, b_law_next⟩
  have G_law_lowered := ok_lowQ (P := P) (w := w) (mg := mg) (base := base) F_law_lowered B
  have G_law_sum := ok_lsum (K := K) (P := P) (w := w) (mg := mg) (base := base) F_law_sum ⟨G_law_lowered, m_law_lowered, k_law_lowered, b_law_lowered⟩
  have G_law_product := ok_lprodR (K := K) (P := P) (w := w) (mg := mg) (base := base) F_law_product ⟨G_law_lowered, m_law_lowered, k_law_lowered, b_law_lowered⟩
  have G_law_mark := ok_mark (P := P) (w := w) (mg := mg) (base := base) F_law_mark ⟨G_law_next, m_law_next, k_law_next, b_law_next⟩ ⟨G_law_lowered, m_law_lowered, k_law_lowered, b_law_lowered⟩
  have G_law_beds_of := ok_bedsOf (P := P) (w := w) (mg := mg) (base := base) F_law_beds_of B z_range z_min ⟨G_law_next, m_law_next, k_law_next, b_law_next⟩ ⟨G_law_mark, m_law_mark, k_law_mark, b_law_mark⟩ ⟨G_law_sum, m_law_sum, k_law_sum, b_law_sum⟩
  have G_law_world := ok_world (P := P) (w := w) (mg := mg) (base := base) F_law_world Y z_range z_sum ⟨G_law_next, m_law_next, k_law_next, b_law_next⟩ ⟨G_law_beds_of, m_law_beds_of, k_law_beds_of, b_law_beds_of⟩
  have G_law_made := ok_madeW (P := P) (w := w) (mg := mg) (base := base) F_law_made T Y mcWeb ne M GI b_Share_init3 MW GWi b_Web_init
  have G_law_depths := ok_depthsL (P := P) (w := w) (mg := mg) (base := base) F_law_depths z_tuple ⟨G_law_next, m_law_next, k_law_next, b_law_next⟩
  have G_law_falls := ok_falls (P := P) (w := w) (mg := mg) (base := base) F_law_falls B Y z_range z_max z_sum ⟨G_law_next, m_law_next, k_law_next, b_law_next⟩ ⟨G_law_lowered, m_law_lowered, k_law_lowered, b_law_lowered⟩ ⟨G_law_pick, m_law_pick, k_law_pick, b_law_pick⟩ ⟨G_law_product, m_law_product, k_law_product, b_law_product⟩
  have G_law_shares := ok_sharesL (P := P) (w := w) (mg := mg) (base := base) F_law_shares T z_tuple M GI b_Share_init3
  have G_borne := ok_borne (P := P) (w := w) (mg := mg) (base := base) F_borne ⟨G_day_of, m_day_of, k_day_of, b_day_of⟩
  have G_water := ok_water (P := P) (w := w) (mg := mg) (base := base) F_water ⟨G_day_of, m_day_of, k_day_of, b_day_of⟩
  have G_step := ok_step (P := P) (w := w) (mg := mg) (base := base) F_step z_tuple z_zip ⟨G_day_of, m_day_of, k_day_of, b_day_of⟩ ⟨G_moves_of, m_moves_of, k_moves_of, b_moves_of⟩
  have GSe := ok_sheq (P := P) (w := w) (mg := mg) (base := base) F_Share_eq T IsSh mecShare
  have GWe := ok_webeq (P := P) (w := w) (mg := mg) (base := base) F_Web_eq TW Y mcWeb IsW mecWeb GSe a_Share_eq i_Share_eq b_Share_eq
  have GWf := ok_winitF (P := P) (w := w) (mg := mg) (base := base) F_Web_init TW ne Y g_MOST_PLACES ⟨G_is_between, m_is_between, k_is_between, b_is_between⟩ ⟨G_are_beds, m_are_beds, k_are_beds, b_are_beds⟩ ⟨G_are_parts, m_are_parts, k_are_parts, b_are_parts⟩
  have G_cut := ok_cutG (P := P) (w := w) (mg := mg) (base := base) F_cut TW mcWeb ⟨G_is_between, m_is_between, k_is_between, b_is_between⟩ MW GWf b_Web_init
  have GXw := ok_wholeX (P := P) (w := w) (mg := mg) (base := base) F_is_whole z_isinstance z_int z_bool
  have GXb := ok_between (P := P) (w := w) (mg := mg) (base := base) F_is_between GXw m_is_whole k_is_whole b_is_whole
  have GXc := ok_cutX (C := cShare) (P := P) (w := w) (mg := mg) (base := base) F_cut TW ⟨GXb, m_is_between, k_is_between, b_is_between⟩ OwNoPlace ZiNoPlace bcNoPlace tcNoPlace
  have G_law_refused := ok_refused (P := P) (w := w) (mg := mg) (base := base) F_law_refused z_repr (exm_own bcNoPlace icNoPlace tcNoPlace scNoPlace) mcNoPlace XfNoPlace nocNoPlace GXc m_cut k_cut b_cut
  have G_law_day_right := ok_dayR (P := P) (w := w) (mg := mg) (base := base) F_law_day_right Y TW z_zip ⟨G_less, m_less, k_less, b_less⟩ G_borne m_borne k_borne (kb_borne F_borne) G_water m_water k_water (kb_water F_water) G_step m_step k_step (kb_step F_step) GSe a_Share_eq i_Share_eq b_Share_eq
  exact ok_law F_law Y TW z_range z_min z_max ⟨G_law_source, m_law_source, k_law_source, b_law_source⟩ ⟨G_law_world, m_law_world, k_law_world, b_law_world⟩ ⟨G_law_made, m_law_made, k_law_made, b_law_made⟩ ⟨G_law_depths, m_law_depths, k_law_depths, b_law_depths⟩ ⟨G_law_falls, m_law_falls, k_law_falls, b_law_falls⟩ ⟨G_law_shares, m_law_shares, k_law_shares, b_law_shares⟩ ⟨G_law_next, m_law_next, k_law_next, b_law_next⟩ ⟨G_law_pick, m_law_pick, k_law_pick, b_law_pick⟩ ⟨G_law_day_right, m_law_day_right, k_law_day_right, b_law_day_right⟩ ⟨G_cut, m_cut, k_cut, b_cut⟩ G_law_refused m_law_refused k_law_refused b_law_refused G_step m_step k_step (kb_step F_step) GSe a_Share_eq i_Share_eq b_Share_eq GWe a_Web_eq i_Web_eq b_Web_eq ecWeb ocWeb
theorem walk {l : PySem.W.OpenLaw} {q : Program} {loose : List Str} {XP : (Str → Option Value) → Heap → Prop} {YP : World → Heap → Prop} {d : DefRec} {K : Params → PySem.W.Frag} (hn : l.most = some 63) (hdf : d.params.defaults = [])
    (hY : ∀ (w : World) (h : Heap), YP w h → (K w.params).In h)
    (F : ∀ (w : World) (mg : Str → Option Value) (fa : Addr) (h : Heap), (K w.params).In h → h.Ns mainGlobals mg → mg d.name = some (.ref fa) →
      ∃ fd : FuncData, (∀ (s : Shared) (u : Value), BindsTo s fd ⟨[u], []⟩ [("script", u)]) ∧ ∀ base : Heap, (K w.params).In base → base.Ns mainGlobals mg → FnG l.prog w (K w.params) mg base 10 fa fd ["script"] (spLaw (K w.params))) :
    PySem.W.WalkO q loose XP YP l.row.toRowW d [] (fun f vs => PySem.call f vs) :=
  walkG (n := 63) (k := 10) (x := "script") (sp := fun w => spLaw (K w.params)) hn (by decide) hdf ⟨rfl, by decide, by decide⟩ hY F (fun _ _ a ns hl _ hS => law_told hl hS)
end K72

open PySem PySem.W PyProof.Rows in
set_option maxRecDepth 100000 in
set_option maxHeartbeats 0 in
theorem PySem.Challenge.cw_rillweb_k72_whole_webs_cut_holds : PySem.Challenge.rw_rillweb_k72_whole_webs_cut.Holds := by
  w_on; o_law; k_head; (case hw => w_witness2)
  k_fill
  refine K72.walk (l := PySem.Challenge.rw_rillweb_k72_whole_webs_cut) rfl rfl (fun w h Y => PySem.W.kIn_of Y) ?F
  case F =>
    intro w mg fa h KX G hmg
    refine' K72.all_mk KX G hmg ?z_ValueError ?z_abs ?z_all ?z_any ?z_bool ?z_enumerate ?z_int ?z_isinstance ?z_len ?z_list ?z_max ?z_min ?z_range ?z_repr ?z_sorted ?z_sum ?z_super ?z_tuple ?z_zip ?i_gcd ?i_lcm ?g_MOST_PLACES ?g_MOST_BEDS ?g_MOST_BEDS_OF_A_PLACE ?g_MOST_OF_A_PART ?acRillError ?xcRillError ?kcRillError ?bcRillError ?tcRillError ?icRillError ?scRillError ?acNoShare ?xcNoShare ?kcNoShare ?bcNoShare ?tcNoShare ?icNoShare ?scNoShare ?acNoPlace ?kcNoPlace ?bcNoPlace ?tcNoPlace ?icNoPlace ?scNoPlace ?xxcNoPlace ?dcNoPlace ?gacNoPlace ?ggcNoPlace ?sacNoPlace ?nocNoPlace ?incNoPlace ?tfcNoPlace ?lfcNoPlace ?cfcNoPlace ?lccNoPlace ?v2cNoPlace ?flcNoPlace ?lecNoPlace ?sucNoPlace ?sbcNoPlace ?mmcNoPlace ?xO ?xT ?acShare ?pgcShare ?hdcShare ?pocShare ?sacShare ?mkcShare ?kccShare ?ncShare_bottom ?ncShare_top ?gccShare ?gmcShare ?mecShare ?mcShare_tuple ?ucShare_tuple ?mcShare_int ?ucShare_int ?mcShare_NoneType ?mcShare_list ?ucShare_list ?mcShare_str ?mcShare_bool ?ucShare_bool ?mcShare_dict ?ecShare ?ocShare ?wcShare_tuple ?ycShare_tuple ?wcShare_int ?ycShare_int ?wcShare_NoneType ?ycShare_NoneType ?wcShare_list ?ycShare_list ?wcShare_str ?ycShare_str ?wcShare_bool ?ycShare_bool ?wcShare_dict ?ycShare_dict ?a_Share_init ?i_Share_init ?l_Share_init ?c_Share_init ?k_Share_init ?lTD_Share_init ?a_Share_eq ?i_Share_eq ?l_Share_eq ?c_Share_eq ?k_Share_eq ?acWeb ?pgcWeb ?hdcWeb ?pocWeb ?sacWeb ?mkcWeb ?kccWeb ?ncWeb_beds ?ncWeb_many ?ncWeb_parts ?gccWeb ?gmcWeb ?mecWeb ?mcWeb_tuple ?ucWeb_tuple ?mcWeb_int ?ucWeb_int ?mcWeb_NoneType ?mcWeb_list ?ucWeb_list ?mcWeb_str ?mcWeb_bool ?ucWeb_bool ?mcWeb_dict ?ecWeb ?ocWeb ?wcWeb_tuple ?ycWeb_tuple ?wcWeb_int ?ycWeb_int ?wcWeb_NoneType ?ycWeb_NoneType ?wcWeb_list ?ycWeb_list ?wcWeb_str ?ycWeb_str ?wcWeb_bool ?ycWeb_bool ?wcWeb_dict ?ycWeb_dict ?a_Web_init ?i_Web_init ?l_Web_init ?c_Web_init ?k_Web_init ?a_Web_eq ?i_Web_eq ?l_Web_eq ?c_Web_eq ?k_Web_eq ?jShare_Web ?vShare_Web ?jWeb_Share ?vWeb_Share ?a_is_whole ?l_is_whole ?c_is_whole ?k_is_whole ?a_is_between ?l_is_between ?c_is_between ?k_is_between ?a_times ?l_times ?c_times ?k_times ?a_less ?l_less ?c_less ?k_less ?a_total ?l_total ?c_total ?k_total ?a_are_beds ?l_are_beds ?c_are_beds ?k_are_beds ?a_is_a_bed ?l_is_a_bed ?c_is_a_bed ?k_is_a_bed ?a_are_parts ?l_are_parts ?c_are_parts ?k_are_parts ?a_are_parts_of_one ?l_are_parts_of_one ?c_are_parts_of_one ?k_are_parts_of_one ?a_beds_from ?l_beds_from ?c_beds_from ?k_beds_from ?a_are_depths ?l_are_depths ?c_are_depths ?k_are_depths ?a_is_rain ?l_is_rain ?c_is_rain ?k_is_rain ?a_parts_borne ?l_parts_borne ?c_parts_borne ?k_parts_borne ?a_move_of ?l_move_of ?c_move_of ?k_move_of ?a_check_depths ?l_check_depths ?c_check_depths ?k_check_depths ?a_check_rain ?l_check_rain ?c_check_rain ?k_check_rain ?a_gaps_of ?l_gaps_of ?c_gaps_of ?k_gaps_of ?a_leads_of ?l_leads_of ?c_leads_of ?k_leads_of ?a_flow_of ?l_flow_of ?c_flow_of ?k_flow_of ?a_moves_of ?l_moves_of ?c_moves_of ?k_moves_of ?a_day_of ?l_day_of ?c_day_of ?k_day_of ?a_borne ?l_borne ?c_borne ?k_borne ?a_water ?l_water ?c_water ?k_water ?a_step ?l_step ?c_step ?k_step ?a_cut ?l_cut ?c_cut ?k_cut ?a_law_cell_at ?l_law_cell_at ?c_law_cell_at ?k_law_cell_at ?a_law_mixed ?l_law_mixed ?c_law_mixed ?k_law_mixed ?a_law_source ?l_law_source ?c_law_source ?k_law_source ?a_law_next ?l_law_next ?c_law_next ?k_law_next ?a_law_pick ?l_law_pick ?c_law_pick ?k_law_pick ?a_law_lowered ?l_law_lowered ?c_law_lowered ?k_law_lowered ?a_law_sum ?l_law_sum ?c_law_sum ?k_law_sum ?a_law_product ?l_law_product ?c_law_product ?k_law_product ?a_law_mark ?l_law_mark ?c_law_mark ?k_law_mark ?a_law_beds_of ?l_law_beds_of ?c_law_beds_of ?k_law_beds_of ?a_law_world ?l_law_world ?c_law_world ?k_law_world ?a_law_made ?l_law_made ?c_law_made ?k_law_made ?a_law_depths ?l_law_depths ?c_law_depths ?k_law_depths ?a_law_falls ?l_law_falls ?c_law_falls ?k_law_falls ?a_law_shares ?l_law_shares ?c_law_shares ?k_law_shares ?a_law_refused ?l_law_refused ?c_law_refused ?k_law_refused ?a_law_day_right ?l_law_day_right ?c_law_day_right ?k_law_day_right ?a_law ?l_law ?c_law ?k_law ?gs ?gt
    (case z_ValueError => k_is)
    (case z_abs => k_is)
    (case z_all => k_is)
    (case z_any => k_is)
    (case z_bool => k_is)
    (case z_enumerate => k_is)
    (case z_int => k_is)
    (case z_isinstance => k_is)
    (case z_len => k_is)
    (case z_list => k_is)
    (case z_max => k_is)
    (case z_min => k_is)
    (case z_range => k_is)
    (case z_repr => k_is)
    (case z_sorted => k_is)
    (case z_sum => k_is)
    (case z_super => k_is)
    (case z_tuple => k_is)
    (case z_zip => k_is)
    (case i_gcd => k_is)
    (case i_lcm => k_is)
    (case g_MOST_PLACES => k_is)
    (case g_MOST_BEDS => k_is)
    (case g_MOST_BEDS_OF_A_PLACE => k_is)
    (case g_MOST_OF_A_PART => k_is)
    (case acRillError => k_is)
    (case xcRillError => k_exc)
    (case kcRillError => k_is)
    (case bcRillError => k_is)
    (case tcRillError => k_is)
    (case icRillError => k_is)
    (case scRillError => first | rfl | k_is)
    (case acNoShare => k_is)
    (case xcNoShare => k_exc)
    (case kcNoShare => k_is)
    (case bcNoShare => k_is)
    (case tcNoShare => k_is)
    (case icNoShare => k_is)
    (case scNoShare => first | rfl | k_is)
    (case acNoPlace => k_is)
    (case kcNoPlace => k_is)
    (case bcNoPlace => k_is)
    (case tcNoPlace => k_is)
    (case icNoPlace => k_is)
    (case scNoPlace => first | rfl | k_is)
    (case xxcNoPlace => k_is)
    (case dcNoPlace => k_is)
    (case gacNoPlace => k_is)
    (case ggcNoPlace => k_is)
    (case sacNoPlace => k_is)
    (case nocNoPlace => k_is)
    (case incNoPlace => k_is)
    (case tfcNoPlace => k_is)
    (case lfcNoPlace => k_is)
    (case cfcNoPlace => k_is)
    (case lccNoPlace => k_is)
    (case v2cNoPlace => rfl)
    (case flcNoPlace => first | rfl | decide +kernel)
    (case lecNoPlace => k_is)
    (case sucNoPlace => ks_is)
    (case sbcNoPlace => k_is)
    (case mmcNoPlace => first | rfl | k_is)
    (case xO => k_is)
    (case xT => first | rfl | decide +kernel)
    (case acShare => k_is)
    (case pgcShare => k_is)
    (case hdcShare => k_is)
    (case pocShare => k_is)
    (case sacShare => k_is)
    (case mkcShare => k_is)
    (case kccShare => k_is)
    (case ncShare_bottom => k_is)
    (case ncShare_top => k_is)
    (case gccShare => k_is)
    (case gmcShare => k_is)
    (case mecShare => first | rfl | k_is)
    (case mcShare_tuple => first | rfl | k_is)
    (case ucShare_tuple => first | rfl | k_is)
    (case mcShare_int => first | rfl | k_is)
    (case ucShare_int => first | rfl | k_is)
    (case mcShare_NoneType => first | rfl | k_is)
    (case mcShare_list => first | rfl | k_is)
    (case ucShare_list => first | rfl | k_is)
    (case mcShare_str => first | rfl | k_is)
    (case mcShare_bool => first | rfl | k_is)
    (case ucShare_bool => first | rfl | k_is)
    (case mcShare_dict => first | rfl | k_is)
    (case ecShare => k_is)
    (case ocShare => first | rfl | k_is)
    (case wcShare_tuple => first | rfl | k_is)
    (case ycShare_tuple => first | rfl | k_is)
    (case wcShare_int => first | rfl | k_is)
    (case ycShare_int => first | rfl | k_is)
    (case wcShare_NoneType => first | rfl | k_is)
    (case ycShare_NoneType => first | rfl | k_is)
    (case wcShare_list => first | rfl | k_is)
    (case ycShare_list => first | rfl | k_is)
    (case wcShare_str => first | rfl | k_is)
    (case ycShare_str => first | rfl | k_is)
    (case wcShare_bool => first | rfl | k_is)
    (case ycShare_bool => first | rfl | k_is)
    (case wcShare_dict => first | rfl | k_is)
    (case ycShare_dict => first | rfl | k_is)
    (case a_Share_init => k_is)
    (case i_Share_init => k_is)
    (case l_Share_init => k_is)
    (case c_Share_init => k_is)
    (case k_Share_init => k_is)
    (case lTD_Share_init => k_is)
    (case a_Share_eq => k_is)
    (case i_Share_eq => k_is)
    (case l_Share_eq => k_is)
    (case c_Share_eq => k_is)
    (case k_Share_eq => k_is)
    (case acWeb => k_is)
    (case pgcWeb => k_is)
    (case hdcWeb => k_is)
    (case pocWeb => k_is)
    (case sacWeb => k_is)
    (case mkcWeb => k_is)
    (case kccWeb => k_is)
    (case ncWeb_beds => k_is)
    (case ncWeb_many => k_is)
    (case ncWeb_parts => k_is)
    (case gccWeb => k_is)
    (case gmcWeb => k_is)
    (case mecWeb => first | rfl | k_is)
    (case mcWeb_tuple => first | rfl | k_is)
    (case ucWeb_tuple => first | rfl | k_is)
    (case mcWeb_int => first | rfl | k_is)
    (case ucWeb_int => first | rfl | k_is)
    (case mcWeb_NoneType => first | rfl | k_is)
    (case mcWeb_list => first | rfl | k_is)
    (case ucWeb_list => first | rfl | k_is)
    (case mcWeb_str => first | rfl | k_is)
    (case mcWeb_bool => first | rfl | k_is)
    (case ucWeb_bool => first | rfl | k_is)
    (case mcWeb_dict => first | rfl | k_is)
    (case ecWeb => k_is)
    (case ocWeb => first | rfl | k_is)
    (case wcWeb_tuple => first | rfl | k_is)
    (case ycWeb_tuple => first | rfl | k_is)
    (case wcWeb_int => first | rfl | k_is)
    (case ycWeb_int => first | rfl | k_is)
    (case wcWeb_NoneType => first | rfl | k_is)
    (case ycWeb_NoneType => first | rfl | k_is)
    (case wcWeb_list => first | rfl | k_is)
    (case ycWeb_list => first | rfl | k_is)
    (case wcWeb_str => first | rfl | k_is)
    (case ycWeb_str => first | rfl | k_is)
    (case wcWeb_bool => first | rfl | k_is)
    (case ycWeb_bool => first | rfl | k_is)
    (case wcWeb_dict => first | rfl | k_is)
    (case ycWeb_dict => first | rfl | k_is)
    (case a_Web_init => k_is)
    (case i_Web_init => k_is)
    (case l_Web_init => k_is)
    (case c_Web_init => k_is)
    (case k_Web_init => k_is)
    (case a_Web_eq => k_is)
    (case i_Web_eq => k_is)
    (case l_Web_eq => k_is)
    (case c_Web_eq => k_is)
    (case k_Web_eq => k_is)
    (case jShare_Web => first | rfl | k_is)
    (case vShare_Web => first | rfl | k_is)
    (case jWeb_Share => first | rfl | k_is)
    (case vWeb_Share => first | rfl | k_is)
    (case a_is_whole => k_is)
    (case l_is_whole => k_is)
    (case c_is_whole => k_is)
    (case k_is_whole => k_is)
    (case a_is_between => k_is)
    (case l_is_between => k_is)
    (case c_is_between => k_is)
    (case k_is_between => k_is)
    (case a_times => k_is)
    (case l_times => k_is)
    (case c_times => k_is)
    (case k_times => k_is)
    (case a_less => k_is)
    (case l_less => k_is)
    (case c_less => k_is)
    (case k_less => k_is)
    (case a_total => k_is)
    (case l_total => k_is)
    (case c_total => k_is)
    (case k_total => k_is)
    (case a_are_beds => k_is)
    (case l_are_beds => k_is)
    (case c_are_beds => k_is)
    (case k_are_beds => k_is)
    (case a_is_a_bed => k_is)
    (case l_is_a_bed => k_is)
    (case c_is_a_bed => k_is)
    (case k_is_a_bed => k_is)
    (case a_are_parts => k_is)
    (case l_are_parts => k_is)
    (case c_are_parts => k_is)
    (case k_are_parts => k_is)
    (case a_are_parts_of_one => k_is)
    (case l_are_parts_of_one => k_is)
    (case c_are_parts_of_one => k_is)
    (case k_are_parts_of_one => k_is)
    (case a_beds_from => k_is)
    (case l_beds_from => k_is)
    (case c_beds_from => k_is)
    (case k_beds_from => k_is)
    (case a_are_depths => k_is)
    (case l_are_depths => k_is)
    (case c_are_depths => k_is)
    (case k_are_depths => k_is)
    (case a_is_rain => k_is)
    (case l_is_rain => k_is)
    (case c_is_rain => k_is)
    (case k_is_rain => k_is)
    (case a_parts_borne => k_is)
    (case l_parts_borne => k_is)
    (case c_parts_borne => k_is)
    (case k_parts_borne => k_is)
    (case a_move_of => k_is)
    (case l_move_of => k_is)
    (case c_move_of => k_is)
    (case k_move_of => k_is)
    (case a_check_depths => k_is)
    (case l_check_depths => k_is)
    (case c_check_depths => k_is)
    (case k_check_depths => k_is)
    (case a_check_rain => k_is)
    (case l_check_rain => k_is)
    (case c_check_rain => k_is)
    (case k_check_rain => k_is)
    (case a_gaps_of => k_is)
    (case l_gaps_of => k_is)
    (case c_gaps_of => k_is)
    (case k_gaps_of => k_is)
    (case a_leads_of => k_is)
    (case l_leads_of => k_is)
    (case c_leads_of => k_is)
    (case k_leads_of => k_is)
    (case a_flow_of => k_is)
    (case l_flow_of => k_is)
    (case c_flow_of => k_is)
    (case k_flow_of => k_is)
    (case a_moves_of => k_is)
    (case l_moves_of => k_is)
    (case c_moves_of => k_is)
    (case k_moves_of => k_is)
    (case a_day_of => k_is)
    (case l_day_of => k_is)
    (case c_day_of => k_is)
    (case k_day_of => k_is)
    (case a_borne => k_is)
    (case l_borne => k_is)
    (case c_borne => k_is)
    (case k_borne => k_is)
    (case a_water => k_is)
    (case l_water => k_is)
    (case c_water => k_is)
    (case k_water => k_is)
    (case a_step => k_is)
    (case l_step => k_is)
    (case c_step => k_is)
    (case k_step => k_is)
    (case a_cut => k_is)
    (case l_cut => k_is)
    (case c_cut => k_is)
    (case k_cut => k_is)
    (case a_law_cell_at => k_is)
    (case l_law_cell_at => k_is)
    (case c_law_cell_at => k_is)
    (case k_law_cell_at => k_is)
    (case a_law_mixed => k_is)
    (case l_law_mixed => k_is)
    (case c_law_mixed => k_is)
    (case k_law_mixed => k_is)
    (case a_law_source => k_is)
    (case l_law_source => k_is)
    (case c_law_source => k_is)
    (case k_law_source => k_is)
    (case a_law_next => k_is)
    (case l_law_next => k_is)
    (case c_law_next => k_is)
    (case k_law_next => k_is)
    (case a_law_pick => k_is)
    (case l_law_pick => k_is)
    (case c_law_pick => k_is)
    (case k_law_pick => k_is)
    (case a_law_lowered => k_is)
    (case l_law_lowered => k_is)
    (case c_law_lowered => k_is)
    (case k_law_lowered => k_is)
    (case a_law_sum => k_is)
    (case l_law_sum => k_is)
    (case c_law_sum => k_is)
    (case k_law_sum => k_is)
    (case a_law_product => k_is)
    (case l_law_product => k_is)
    (case c_law_product => k_is)
    (case k_law_product => k_is)
    (case a_law_mark => k_is)
    (case l_law_mark => k_is)
    (case c_law_mark => k_is)
    (case k_law_mark => k_is)
    (case a_law_beds_of => k_is)
    (case l_law_beds_of => k_is)
    (case c_law_beds_of => k_is)
    (case k_law_beds_of => k_is)
    (case a_law_world => k_is)
    (case l_law_world => k_is)
    (case c_law_world => k_is)
    (case k_law_world => k_is)
    (case a_law_made => k_is)
    (case l_law_made => k_is)
    (case c_law_made => k_is)
    (case k_law_made => k_is)
    (case a_law_depths => k_is)
    (case l_law_depths => k_is)
    (case c_law_depths => k_is)
    (case k_law_depths => k_is)
    (case a_law_falls => k_is)
    (case l_law_falls => k_is)
    (case c_law_falls => k_is)
    (case k_law_falls => k_is)
    (case a_law_shares => k_is)
    (case l_law_shares => k_is)
    (case c_law_shares => k_is)
    (case k_law_shares => k_is)
    (case a_law_refused => k_is)
    (case l_law_refused => k_is)
    (case c_law_refused => k_is)
    (case k_law_refused => k_is)
    (case a_law_day_right => k_is)
    (case l_law_day_right => k_is)
    (case c_law_day_right => k_is)
    (case k_law_day_right => k_is)
    (case a_law => k_is)
    (case l_law => k_is)
    (case c_law => k_is)
    (case k_law => k_is)
    (case gs => first | rfl | k_is)
    (case gt => first | rfl | k_is)
