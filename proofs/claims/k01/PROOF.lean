import PyProof.Rows.All
import Wide.All
import OpenK.AllK
import Wide.FinOn
import HandS.ForMost
import HandS.ForExc
import HandS.Wide
import HandS.Gcd
import HandS.IsInst
import HandS.Defaults
import HandS.Codes
import HandS.OwnEq
import PySem.Challenge.RW_rillweb_k01_shares_reckoned
set_option Elab.async false
set_option linter.all false
set_option maxRecDepth 100000
set_option maxHeartbeats 2000000
set_option exponentiation.threshold 20000
namespace K01
/-- the common part of two whole numbers, with the sign of the second -/
def sg (a b : Int) : Int := if b < 0 then -((Nat.gcd a.natAbs b.natAbs : Nat) : Int) else ((Nat.gcd a.natAbs b.natAbs : Nat) : Int)
/-- the top and the bottom in lowest terms -/
def lowT (a b : Int) : Int := a.fdiv (sg a b)
def lowB (a b : Int) : Int := b.fdiv (sg a b)

theorem gcd_pos {a b : Int} (hb : b ≠ 0) : 0 < Nat.gcd a.natAbs b.natAbs := Nat.gcd_pos_of_pos_right _ (by omega)
theorem sg_ne {a b : Int} (hb : b ≠ 0) : sg a b ≠ 0 := by
  have := gcd_pos (a := a) hb
  unfold sg
  split <;> omega
theorem sg_dvd_left (a b : Int) : sg a b ∣ a := by
  have h : ((Nat.gcd a.natAbs b.natAbs : Nat) : Int) ∣ a := Int.ofNat_dvd_left.mpr (Nat.gcd_dvd_left _ _)
  unfold sg
  split
  · exact Int.neg_dvd.mpr h
  · exact h
theorem sg_dvd_right (a b : Int) : sg a b ∣ b := by
  have h : ((Nat.gcd a.natAbs b.natAbs : Nat) : Int) ∣ b := Int.ofNat_dvd_left.mpr (Nat.gcd_dvd_right _ _)
  unfold sg
  split
  · exact Int.neg_dvd.mpr h
  · exact h
theorem lowT_mul (a b : Int) : lowT a b * sg a b = a := Int.fdiv_mul_cancel (sg_dvd_left a b)
theorem lowB_mul (a b : Int) : lowB a b * sg a b = b := Int.fdiv_mul_cancel (sg_dvd_right a b)
theorem lowB_pos {a b : Int} (hb : b ≠ 0) : 0 < lowB a b := by
  have h := lowB_mul a b
  have hg := gcd_pos (a := a) hb
  have hs : (0 < b ∧ 0 < sg a b) ∨ (b < 0 ∧ sg a b < 0) := by
    unfold sg
    split <;> omega
  rcases hs with ⟨h1, h2⟩ | ⟨h1, h2⟩
  · rcases Int.lt_trichotomy (lowB a b) 0 with h3 | h3 | h3
    · have := Int.mul_neg_of_neg_of_pos h3 h2
      omega
    · rw [h3] at h; omega
    · exact h3
  · rcases Int.lt_trichotomy (lowB a b) 0 with h3 | h3 | h3
    · have := Int.mul_pos_of_neg_of_neg h3 h2
      omega
    · rw [h3] at h; omega
    · exact h3
theorem sg_abs (a b : Int) : (sg a b).natAbs = Nat.gcd a.natAbs b.natAbs := by
  unfold sg
  split <;> omega
theorem low_coprime {a b : Int} (hb : b ≠ 0) : Nat.gcd (lowT a b).natAbs (lowB a b).natAbs = 1 := by
  have h1 : (lowT a b).natAbs * (sg a b).natAbs = a.natAbs := by rw [← Int.natAbs_mul, lowT_mul]
  have h2 : (lowB a b).natAbs * (sg a b).natAbs = b.natAbs := by rw [← Int.natAbs_mul, lowB_mul]
  have hg := gcd_pos (a := a) hb
  have h3 : Nat.gcd ((lowT a b).natAbs * (sg a b).natAbs) ((lowB a b).natAbs * (sg a b).natAbs) = (sg a b).natAbs := by
    rw [h1, h2, sg_abs]
  rw [Nat.gcd_mul_right] at h3
  rw [sg_abs] at h3
  exact Nat.eq_of_mul_eq_mul_right hg (by rw [h3, Nat.one_mul])
theorem same_of {t b t' b' : Int} (hb : 0 < b) (hb' : 0 < b') (h : t * b' = t' * b) (c : Nat.gcd t.natAbs b.natAbs = 1) (c' : Nat.gcd t'.natAbs b'.natAbs = 1) : t = t' ∧ b = b' := by
  have e : t.natAbs * b'.natAbs = t'.natAbs * b.natAbs := by rw [← Int.natAbs_mul, ← Int.natAbs_mul, h]
  have d1 : b.natAbs ∣ b'.natAbs := by
    have : b.natAbs ∣ t.natAbs * b'.natAbs := ⟨t'.natAbs, by rw [e, Nat.mul_comm]⟩
    exact Nat.Coprime.dvd_of_dvd_mul_left (by rw [Nat.Coprime, Nat.gcd_comm]; exact c) this
  have d2 : b'.natAbs ∣ b.natAbs := by
    have : b'.natAbs ∣ t'.natAbs * b.natAbs := ⟨t.natAbs, by rw [← e, Nat.mul_comm]⟩
    exact Nat.Coprime.dvd_of_dvd_mul_left (by rw [Nat.Coprime, Nat.gcd_comm]; exact c') this
  have eb : b = b' := by
    have := Nat.dvd_antisymm d1 d2
    omega
  refine ⟨?_, eb⟩
  rw [← eb] at h
  exact Int.eq_of_mul_eq_mul_right (by omega) h
/-- fractions of one number have one form -/
theorem low_eq {p q p' q' : Int} (hq : q ≠ 0) (hq' : q' ≠ 0) (h : p * q' = p' * q) : lowT p q = lowT p' q' ∧ lowB p q = lowB p' q' := by
  refine same_of (lowB_pos hq) (lowB_pos hq') ?_ (low_coprime hq) (low_coprime hq')
  have h1 := lowT_mul p q
  have h2 := lowB_mul p q
  have h3 := lowT_mul p' q'
  have h4 := lowB_mul p' q'
  have g1 := sg_ne (a := p) hq
  have g2 := sg_ne (a := p') hq'
  have e : (lowT p q * lowB p' q') * (sg p q * sg p' q') = (lowT p' q' * lowB p q) * (sg p q * sg p' q') := by
    have e1 : (lowT p q * lowB p' q') * (sg p q * sg p' q') = (lowT p q * sg p q) * (lowB p' q' * sg p' q') := by grind
    have e2 : (lowT p' q' * lowB p q) * (sg p q * sg p' q') = (lowT p' q' * sg p' q') * (lowB p q * sg p q) := by grind
    rw [e1, e2, h1, h2, h3, h4, h]
  exact Int.eq_of_mul_eq_mul_right (Int.mul_ne_zero g1 g2) e
theorem low_iff {p q p' q' : Int} (hq : q ≠ 0) (hq' : q' ≠ 0) : (lowT p q = lowT p' q' ∧ lowB p q = lowB p' q') ↔ p * q' = p' * q := by
  refine ⟨fun ⟨h1, h2⟩ => ?_, low_eq hq hq'⟩
  have e1 := lowT_mul p q
  have e2 := lowB_mul p q
  have e3 := lowT_mul p' q'
  have e4 := lowB_mul p' q'
  rw [h1] at e1
  rw [h2] at e2
  rw [← e1, ← e2]
  rw [show p' * (lowB p' q' * sg p q) = (p' * lowB p' q') * sg p q by grind]
  have e5 : lowT p' q' * q' = p' * lowB p' q' := by
    calc lowT p' q' * q' = lowT p' q' * (lowB p' q' * sg p' q') := by rw [e4]
      _ = (lowT p' q' * sg p' q') * lowB p' q' := by grind
      _ = p' * lowB p' q' := by rw [e3]
  rw [← e5]
  grind
/-- already in lowest terms -/
theorem low_self {t b : Int} (hb : 0 < b) (c : Nat.gcd t.natAbs b.natAbs = 1) : lowT t b = t ∧ lowB t b = b :=
  same_of (lowB_pos (by omega)) hb (by
    have h1 := lowT_mul t b
    have h2 := lowB_mul t b
    have g := sg_ne (a := t) (b := b) (by omega)
    have e : (lowT t b * b) * sg t b = (t * lowB t b) * sg t b := by
      calc (lowT t b * b) * sg t b = (lowT t b * sg t b) * b := by grind
        _ = t * b := by rw [h1]
        _ = t * (lowB t b * sg t b) := by rw [h2]
        _ = (t * lowB t b) * sg t b := by grind
    exact Int.eq_of_mul_eq_mul_right g e) (low_coprime (by omega)) c
/-- what is cross-multiplied by lowest terms -/
theorem low_cross {p q : Int} : lowT p q * q = p * lowB p q := by
  have h1 := lowT_mul p q
  have h2 := lowB_mul p q
  calc lowT p q * q = lowT p q * (lowB p q * sg p q) := by rw [h2]
    _ = (lowT p q * sg p q) * lowB p q := by grind
    _ = p * lowB p q := by rw [h1]
/-- order -/
theorem lt_mul_pos {x y k : Int} (hk : 0 < k) : x * k < y * k ↔ x < y := ⟨fun h => Int.lt_of_mul_lt_mul_right h (Int.le_of_lt hk), fun h => Int.mul_lt_mul_of_pos_right h hk⟩
theorem less_low {p q p' q' : Int} (hq : 0 < q) (hq' : 0 < q') : lowT p q * lowB p' q' < lowT p' q' * lowB p q ↔ p * q' < p' * q := by
  have b1 := lowB_pos (a := p) (b := q) (by omega)
  have b2 := lowB_pos (a := p') (b := q') (by omega)
  have c1 := low_cross (p := p) (q := q)
  have c2 := low_cross (p := p') (q := q')
  have hk : 0 < q * q' := Int.mul_pos hq hq'
  have hl : 0 < lowB p q * lowB p' q' := Int.mul_pos b1 b2
  rw [← lt_mul_pos hk, ← lt_mul_pos (x := p * q') hl]
  have e1 : lowT p q * lowB p' q' * (q * q') = p * q' * (lowB p q * lowB p' q') := by
    calc lowT p q * lowB p' q' * (q * q') = (lowT p q * q) * (lowB p' q' * q') := by grind
      _ = (p * lowB p q) * (lowB p' q' * q') := by rw [c1]
      _ = p * q' * (lowB p q * lowB p' q') := by grind
  have e2 : lowT p' q' * lowB p q * (q * q') = p' * q * (lowB p q * lowB p' q') := by
    calc lowT p' q' * lowB p q * (q * q') = (lowT p' q' * q') * (lowB p q * q) := by grind
      _ = (p' * lowB p' q') * (lowB p q * q) := by rw [c2]
      _ = p' * q * (lowB p q * lowB p' q') := by grind
  rw [e1, e2]
theorem lowT_neg {p q : Int} (hq : q ≠ 0) : lowT p q < 0 ↔ p * q < 0 := by
  have b := lowB_pos (a := p) hq
  have h1 := lowT_mul p q
  have h2 := lowB_mul p q
  have g := sg_ne (a := p) hq
  have hs : 0 < sg p q * sg p q := by
    rcases Int.lt_or_gt_of_ne g with h | h
    · exact Int.mul_pos_of_neg_of_neg h h
    · exact Int.mul_pos h h
  have e : p * q = lowT p q * (lowB p q * (sg p q * sg p q)) := by
    calc p * q = (lowT p q * sg p q) * (lowB p q * sg p q) := by rw [h1, h2]
      _ = _ := by grind
  have hk := Int.mul_pos b hs
  have := lt_mul_pos (x := lowT p q) (y := 0) hk
  rw [Int.zero_mul] at this
  rw [e]
  exact this.symm
theorem lowT_pos {p q : Int} (hq : q ≠ 0) : 0 < lowT p q ↔ 0 < p * q := by
  have b := lowB_pos (a := p) hq
  have h1 := lowT_mul p q
  have h2 := lowB_mul p q
  have g := sg_ne (a := p) hq
  have hs : 0 < sg p q * sg p q := by
    rcases Int.lt_or_gt_of_ne g with h | h
    · exact Int.mul_pos_of_neg_of_neg h h
    · exact Int.mul_pos h h
  have e : p * q = lowT p q * (lowB p q * (sg p q * sg p q)) := by
    calc p * q = (lowT p q * sg p q) * (lowB p q * sg p q) := by rw [h1, h2]
      _ = _ := by grind
  have hk := Int.mul_pos b hs
  have := lt_mul_pos (x := 0) (y := lowT p q) hk
  rw [Int.zero_mul] at this
  rw [e]
  exact this.symm

/-! what the law puts beside what the program tells -/
section
variable {a b c d : Int}
theorem val_plus (hb : b ≠ 0) (hd : d ≠ 0) : lowT (lowT a b * lowB c d + lowT c d * lowB a b) (lowB a b * lowB c d) = lowT (a * d + c * b) (b * d) ∧
    lowB (lowT a b * lowB c d + lowT c d * lowB a b) (lowB a b * lowB c d) = lowB (a * d + c * b) (b * d) := by
  have b1 := lowB_pos (a := a) hb
  have b2 := lowB_pos (a := c) hd
  have c1 := low_cross (p := a) (q := b)
  have c2 := low_cross (p := c) (q := d)
  refine low_eq (Int.mul_ne_zero (by omega) (by omega)) (Int.mul_ne_zero hb hd) ?_
  generalize lowT a b = x at *
  generalize lowB a b = y at *
  generalize lowT c d = z at *
  generalize lowB c d = w at *
  grind
theorem val_minus (hb : b ≠ 0) (hd : d ≠ 0) : lowT (lowT a b * lowB c d - lowT c d * lowB a b) (lowB a b * lowB c d) = lowT (a * d - c * b) (b * d) ∧
    lowB (lowT a b * lowB c d - lowT c d * lowB a b) (lowB a b * lowB c d) = lowB (a * d - c * b) (b * d) := by
  have b1 := lowB_pos (a := a) hb
  have b2 := lowB_pos (a := c) hd
  have c1 := low_cross (p := a) (q := b)
  have c2 := low_cross (p := c) (q := d)
  refine low_eq (Int.mul_ne_zero (by omega) (by omega)) (Int.mul_ne_zero hb hd) ?_
  generalize lowT a b = x at *
  generalize lowB a b = y at *
  generalize lowT c d = z at *
  generalize lowB c d = w at *
  grind
theorem val_times (hb : b ≠ 0) (hd : d ≠ 0) : lowT (lowT a b * lowT c d) (lowB a b * lowB c d) = lowT (a * c) (b * d) ∧
    lowB (lowT a b * lowT c d) (lowB a b * lowB c d) = lowB (a * c) (b * d) := by
  have b1 := lowB_pos (a := a) hb
  have b2 := lowB_pos (a := c) hd
  have c1 := low_cross (p := a) (q := b)
  have c2 := low_cross (p := c) (q := d)
  refine low_eq (Int.mul_ne_zero (by omega) (by omega)) (Int.mul_ne_zero hb hd) ?_
  generalize lowT a b = x at *
  generalize lowB a b = y at *
  generalize lowT c d = z at *
  generalize lowB c d = w at *
  grind
theorem lowT_zero (hd : d ≠ 0) : lowT c d = 0 ↔ c = 0 := by
  have h := lowT_mul c d
  have g := sg_ne (a := c) hd
  constructor
  · intro e
    rw [e, Int.zero_mul] at h
    exact h.symm
  · intro e
    rw [e] at h ⊢
    rw [e] at g
    rcases Int.mul_eq_zero.mp h with z | z
    · exact z
    · exact absurd z g
theorem val_over (hb : b ≠ 0) (hd : d ≠ 0) (hc : c ≠ 0) : lowT (lowT a b * lowB c d) (lowB a b * lowT c d) = lowT (a * d) (b * c) ∧
    lowB (lowT a b * lowB c d) (lowB a b * lowT c d) = lowB (a * d) (b * c) := by
  have b1 := lowB_pos (a := a) hb
  have t2 : lowT c d ≠ 0 := fun e => hc ((lowT_zero hd).mp e)
  have c1 := low_cross (p := a) (q := b)
  have c2 := low_cross (p := c) (q := d)
  refine low_eq (Int.mul_ne_zero (by omega) t2) (Int.mul_ne_zero hb hc) ?_
  generalize lowT a b = x at *
  generalize lowB a b = y at *
  generalize lowT c d = z at *
  generalize lowB c d = w at *
  grind
theorem num_less (hb : b ≠ 0) (hd : d ≠ 0) : ((a * d - c * b) * (b * d) < 0 ↔ lowT a b * lowB c d < lowT c d * lowB a b) ∧ (0 < (a * d - c * b) * (b * d) ↔ lowT c d * lowB a b < lowT a b * lowB c d) := by
  have h := val_minus (a := a) (c := c) hb hd
  have b1 := lowB_pos (a := a) hb
  have b2 := lowB_pos (a := c) hd
  have hk : 0 < lowB a b * lowB c d := Int.mul_pos b1 b2
  have k1 := lowT_neg (p := a * d - c * b) (q := b * d) (Int.mul_ne_zero hb hd)
  have k2 := lowT_pos (p := a * d - c * b) (q := b * d) (Int.mul_ne_zero hb hd)
  have k3 := lowT_neg (p := lowT a b * lowB c d - lowT c d * lowB a b) (q := lowB a b * lowB c d) (by omega)
  have k4 := lowT_pos (p := lowT a b * lowB c d - lowT c d * lowB a b) (q := lowB a b * lowB c d) (by omega)
  have m1 := lt_mul_pos (x := lowT a b * lowB c d - lowT c d * lowB a b) (y := 0) hk
  have m2 := lt_mul_pos (x := 0) (y := lowT a b * lowB c d - lowT c d * lowB a b) hk
  rw [Int.zero_mul] at m1 m2
  rw [← k1, ← k2, ← h.1, k3, k4, m1, m2]
  omega
theorem val_less (hb : b ≠ 0) (hd : d ≠ 0) : (lowT (a * d - c * b) (b * d) < 0 ↔ lowT a b * lowB c d < lowT c d * lowB a b) ∧ (0 < lowT (a * d - c * b) (b * d) ↔ lowT c d * lowB a b < lowT a b * lowB c d) := by
  have k1 := lowT_neg (p := a * d - c * b) (q := b * d) (Int.mul_ne_zero hb hd)
  have k2 := lowT_pos (p := a * d - c * b) (q := b * d) (Int.mul_ne_zero hb hd)
  have := num_less (a := a) (c := c) hb hd
  rw [k1, k2]
  exact this
end
section
variable {t1 b1 t2 b2 t3 b3 : Int}
theorem ord_plus (h1 : 0 < b1) (h2 : 0 < b2) (h3 : 0 < b3) :
    lowT (t1 * b3 + t3 * b1) (b1 * b3) * lowB (t2 * b3 + t3 * b2) (b2 * b3) < lowT (t2 * b3 + t3 * b2) (b2 * b3) * lowB (t1 * b3 + t3 * b1) (b1 * b3) ↔ t1 * b2 < t2 * b1 := by
  rw [less_low (Int.mul_pos h1 h3) (Int.mul_pos h2 h3)]
  have hk : 0 < b3 * b3 := Int.mul_pos h3 h3
  rw [← lt_mul_pos (x := t1 * b2) hk]
  have e : (t1 * b3 + t3 * b1) * (b2 * b3) - t1 * b2 * (b3 * b3) = (t2 * b3 + t3 * b2) * (b1 * b3) - t2 * b1 * (b3 * b3) := by grind
  omega
theorem ord_times (h1 : 0 < b1) (h2 : 0 < b2) (h3 : 0 < b3) (ht : 0 < t3) :
    lowT (t1 * t3) (b1 * b3) * lowB (t2 * t3) (b2 * b3) < lowT (t2 * t3) (b2 * b3) * lowB (t1 * t3) (b1 * b3) ↔ t1 * b2 < t2 * b1 := by
  rw [less_low (Int.mul_pos h1 h3) (Int.mul_pos h2 h3)]
  have hk : 0 < t3 * b3 := Int.mul_pos ht h3
  rw [← lt_mul_pos (x := t1 * b2) hk]
  have e1 : t1 * t3 * (b2 * b3) = t1 * b2 * (t3 * b3) := by grind
  have e2 : t2 * t3 * (b1 * b3) = t2 * b1 * (t3 * b3) := by grind
  rw [e1, e2]
theorem ord_turned (h1 : 0 < b1) (h2 : 0 < b2) (h3 : 0 < b3) (ht : t3 < 0) :
    lowT (t2 * t3) (b2 * b3) * lowB (t1 * t3) (b1 * b3) < lowT (t1 * t3) (b1 * b3) * lowB (t2 * t3) (b2 * b3) ↔ t1 * b2 < t2 * b1 := by
  rw [less_low (Int.mul_pos h2 h3) (Int.mul_pos h1 h3)]
  have hk : 0 < (-t3) * b3 := Int.mul_pos (by omega) h3
  rw [← lt_mul_pos (x := t1 * b2) hk]
  have e1 : t2 * t3 * (b1 * b3) = -(t2 * b1 * (-t3 * b3)) := by grind
  have e2 : t1 * t3 * (b2 * b3) = -(t1 * b2 * (-t3 * b3)) := by grind
  rw [e1, e2]
  omega
theorem ord_none (h1 : 0 < b1) (h2 : 0 < b2) (h3 : 0 < b3) (ht : t3 = 0) : lowT (t1 * t3) (b1 * b3) = lowT (t2 * t3) (b2 * b3) ∧ lowB (t1 * t3) (b1 * b3) = lowB (t2 * t3) (b2 * b3) := by
  subst ht
  refine low_eq ?_ ?_ (by simp)
  · have := Int.mul_pos h1 h3
    omega
  · have := Int.mul_pos h2 h3
    omega
end
theorem lowT_one (a : Int) : lowT a 1 = a := by
  have h := lowT_mul a 1
  have e : sg a 1 = 1 := by unfold sg; simp
  rw [e] at h
  omega
theorem lowB_one (a : Int) : lowB a 1 = 1 := by
  have h := lowB_mul a 1
  have e : sg a 1 = 1 := by unfold sg; simp
  rw [e] at h
  omega
/-! sizes -/
theorem lowT_le {a b : Int} (hb : b ≠ 0) : (lowT a b).natAbs ≤ a.natAbs := by
  have h : (lowT a b).natAbs * (sg a b).natAbs = a.natAbs := by rw [← Int.natAbs_mul, lowT_mul]
  have g : 0 < (sg a b).natAbs := by have := sg_ne (a := a) hb; omega
  exact Nat.le_trans (Nat.le_mul_of_pos_right _ g) (Nat.le_of_eq h)
theorem lowB_le {a b : Int} (hb : b ≠ 0) : (lowB a b).natAbs ≤ b.natAbs := by
  have h : (lowB a b).natAbs * (sg a b).natAbs = b.natAbs := by rw [← Int.natAbs_mul, lowB_mul]
  have g : 0 < (sg a b).natAbs := by have := sg_ne (a := a) hb; omega
  exact Nat.le_trans (Nat.le_mul_of_pos_right _ g) (Nat.le_of_eq h)
theorem sg_le {a b : Int} (hb : b ≠ 0) : (sg a b).natAbs ≤ b.natAbs := by
  rw [sg_abs]
  exact Nat.le_of_dvd (by omega) (Nat.gcd_dvd_right _ _)
end K01
namespace K01
open PySem PySem.Spec PyProof.Rows L2
/-! ### the text by places -/
def top (i : Nat) : Stmt := PySem.Challenge.pw_rillweb_k01_shares_reckoned.main.body.getD i (.Pass ⟨0, 0, 0, 0⟩)
abbrev sWhole : Stmt := top 5
abbrev sInit : Stmt := inClass (top 7) 0
abbrev sEq : Stmt := inClass (top 7) 1
abbrev sPlus : Stmt := top 8
abbrev sMinus : Stmt := top 9
abbrev sTimes : Stmt := top 10
abbrev sOver : Stmt := top 11
abbrev sLess : Stmt := top 12
/-! ### a share on the heap -/
theorem tb_ : ¬ (("top" : Str) = "bottom") := by decide +kernel
theorem bt_ : ¬ (("bottom" : Str) = "top") := by decide +kernel
def shf (t b : Int) : List (Str × V) := putF "bottom" (.int b) (putF "top" (.int t) [])
theorem shf_top (t b : Int) : (shf t b).lookup ("top" : Str) = some (.int t) := by
  unfold shf
  rw [lookup_putF, if_neg tb_, lookup_putF, if_pos rfl]
theorem shf_bottom (t b : Int) : (shf t b).lookup ("bottom" : Str) = some (.int b) := by
  unfold shf
  rw [lookup_putF, if_pos rfl]
/-- a share t over b stands at p -/
def ShAt (C : Addr) (H : Hp) (p : Addr) (t b : Int) : Prop := ∃ dx, H p = some (.ins C dx (shf t b))
theorem ShAt.mono {C : Addr} {H H' : Hp} {p : Addr} {t b : Int} (h : ShAt C H p t b) (s : Same H H') : ShAt C H' p t b := by
  obtain ⟨dx, e⟩ := h
  exact ⟨dx, s _ _ e⟩
/-- what the top says of the program's own names -/
structure Txt (K : PySem.W.Frag) (mg : Str → Option Value) (C CN : Addr) : Prop where
  cl : Cls K C
  nT : NoAttr K C "top"
  nB : NoAttr K C "bottom"
  mgC : mg "Share" = some (.ref C)
  gcd : mg "gcd" = some (.builtin "math.gcd")
  isi : mg "isinstance" = none
  int : mg "int" = none
  bool : mg "bool" = none
  gN : mg "NoShare" = some (.ref CN)
  xN : PySem.W.excIn K CN [.type "ValueError", .type "Exception", .type "BaseException", .type "object"] "ValueError.__new__" = true
  kN : PySem.W.keepIn K (.ref CN) = true
  bN : PySem.W.subIn K (.ref CN) (.type "BaseException") = some true
  tN : PySem.W.typeIn K (.ref CN) = some (.type "type")
  eN : PySem.W.exmOne K (.ref CN) (.ref CN) = some true
/-! ### // by a divisor of either sign -/
def CDivX (_ j : Int) : Prop := j ≠ 0 ∧ j.natAbs.log2 < 9000
section
variable {X : Cx}
theorem op_fdivX : OpR X (binaryOp .FloorDiv) (rI CDivX fun i j => .int (i.fdiv j)) := opI fun i j _ _ _ _ _ hc q => floordiv_int hc.1 q (.inl (PyProof.noPylong_of_log2 hc.2))
end
theorem big_div {i j : Int} {b : Nat} (h : j ≠ 0) (hb : j.natAbs < 2 ^ b) (h0 : 0 < b) (h9 : b ≤ 9000) : CDivX i j := ⟨h, Nat.lt_of_lt_of_le (PySem.Flt.log2_lt_of h0 hb) h9⟩
theorem add_lt {i j : Int} {a : Nat} (hi : i.natAbs < 2 ^ a) (hj : j.natAbs < 2 ^ a) : (i + j).natAbs < 2 ^ (a + 1) := by
  have e : 2 ^ (a + 1) = 2 ^ a * 2 := Nat.pow_succ ..
  omega
theorem sub_lt {i j : Int} {a : Nat} (hi : i.natAbs < 2 ^ a) (hj : j.natAbs < 2 ^ a) : (i - j).natAbs < 2 ^ (a + 1) := by
  have e : 2 ^ (a + 1) = 2 ^ a * 2 := Nat.pow_succ ..
  omega
theorem pow_le {i : Int} {a b : Nat} (h : i.natAbs < 2 ^ a) (hab : a ≤ b) : i.natAbs < 2 ^ b := Nat.lt_of_lt_of_le h (Nat.pow_le_pow_right (by omega) hab)
/-! ### promises -/
def spWhole : Sp := fun vs H Q _ => ∃ i : Int, vs = [.int i] ∧ Q (.bl true) H
def spInit (C CN : Addr) : Sp := fun vs H Q E => ∃ (p dx : Addr) (t b : Int), vs = [.ref p, .int t, .int b] ∧ H p = some (.ins C dx []) ∧ t.natAbs < 2 ^ 4000 ∧ b.natAbs < 2 ^ 4000 ∧
  (b = 0 → E (.ref CN) none H) ∧ (b ≠ 0 → ∀ H' : Hp, H' p = some (.ins C dx (shf (lowT t b) (lowB t b))) → (∀ a, a ≠ p → H' a = H a) → Q .non H')
/-- a new share, from two -/
def spTwo (C : Addr) (N D : Int → Int → Int → Int → Int) : Sp := fun vs H Q _ => ∃ (x y : Addr) (t1 b1 t2 b2 : Int), vs = [.ref x, .ref y] ∧ ShAt C H x t1 b1 ∧ ShAt C H y t2 b2 ∧
  t1.natAbs < 2 ^ 1000 ∧ b1.natAbs < 2 ^ 1000 ∧ t2.natAbs < 2 ^ 1000 ∧ b2.natAbs < 2 ^ 1000 ∧ b1 ≠ 0 ∧ b2 ≠ 0 ∧
  ∀ (H' : Hp) (p : Addr), Same H H' → H p = none → ShAt C H' p (lowT (N t1 b1 t2 b2) (D t1 b1 t2 b2)) (lowB (N t1 b1 t2 b2) (D t1 b1 t2 b2)) → Q (.ref p) H'
def spOver (C CN : Addr) : Sp := fun vs H Q E => ∃ (x y : Addr) (t1 b1 t2 b2 : Int), vs = [.ref x, .ref y] ∧ ShAt C H x t1 b1 ∧ ShAt C H y t2 b2 ∧
  t1.natAbs < 2 ^ 1000 ∧ b1.natAbs < 2 ^ 1000 ∧ t2.natAbs < 2 ^ 1000 ∧ b2.natAbs < 2 ^ 1000 ∧ b1 ≠ 0 ∧
  (t2 = 0 → ∀ H', Same H H' → E (.ref CN) none H') ∧
  (t2 ≠ 0 → ∀ (H' : Hp) (p : Addr), Same H H' → H p = none → ShAt C H' p (lowT (t1 * b2) (b1 * t2)) (lowB (t1 * b2) (b1 * t2)) → Q (.ref p) H')
def spLess (C : Addr) : Sp := fun vs H Q _ => ∃ (x y : Addr) (t1 b1 t2 b2 : Int), vs = [.ref x, .ref y] ∧ ShAt C H x t1 b1 ∧ ShAt C H y t2 b2 ∧
  t1.natAbs < 2 ^ 1000 ∧ b1.natAbs < 2 ^ 1000 ∧ t2.natAbs < 2 ^ 1000 ∧ b2.natAbs < 2 ^ 1000 ∧ Q (.bl (decide (t1 * b2 < t2 * b1))) H
section
variable {P : Program} {w : World} {K : PySem.W.Frag} {mg : Str → Option Value} {base : Heap}
theorem scWhole : FnScope ["thing"] ["thing"] (defScope sWhole) := ⟨rfl, rfl, rfl, by decide +kernel, rfl, by decide +kernel, by decide +kernel⟩
theorem ok_whole {f C CN : Addr} {fd : FuncData} (F : Fun K "is_whole" "is_whole" sWhole f fd) (T : Txt K mg C CN) : FnOk P w K mg base CX0 1 f fd ["thing"] spWhole := by
  refine F.ok scWhole (fun vs H Q E h => ?_) (fun cdv A outer s H vs Q E hr h => ?_)
  · obtain ⟨i, rfl, _⟩ := h
    rfl
  · obtain ⟨i, rfl, k⟩ := h
    refine ⟨_, pss_one (ps_ret (pe_and (pe_callB call_isi (by rfl) T.isi (by decide +kernel) (pa_cons (pv 0) (pa_cons (pe_bltn (v := .ty "int") (by rfl) T.int (by decide +kernel) rfl) pa_nil)))
      (pe_one (pe_not (pe_callB call_isi (by rfl) T.isi (by decide +kernel) (pa_cons (pv 0) (pa_cons (pe_bltn (v := .ty "bool") (by rfl) T.bool (by decide +kernel) rfl) pa_nil))))))), ?_⟩
    refine ⟨_, rfl, _, _, _, _, true, rfl, ClsV.ty _, TyX.base (TyOf.int _), kit_ty (by decide +kernel), true, rfl, iteT ?_⟩
    exact ⟨_, rfl, _, _, _, _, false, rfl, ClsV.ty _, TyX.base (TyOf.int _), kit_ty (by decide +kernel), false, rfl, k⟩

theorem scInit : FnScope ["self", "top", "bottom", "common"] ["self", "top", "bottom"] (defScope sInit) := ⟨rfl, rfl, rfl, by decide +kernel, rfl, by decide +kernel, by decide +kernel⟩
theorem ok_init {f fW C CN : Addr} {fd fdW : FuncData} (F : FunD K "__init__" "Share.__init__" (defArgs sInit) (defBody sInit) (defScope sInit) [.int 1] [] f fd) (T : Txt K mg C CN)
    (GW : FnOk P w K mg base CX0 1 fW fdW ["thing"] spWhole) (mW : mg "is_whole" = some (.ref fW)) (kW : PySem.W.keepIn K (.ref fW) = true) (bW : Binds K fdW ["thing"] []) :
    FnOk P w K mg base (L2.CX P w) 2 f fd ["self", "top", "bottom"] (spInit C CN) := by
  refine FunD.ok (N := ["self", "top", "bottom", "common"]) F scInit (fun vs H Q E h => ?_) (fun cdv A outer s H vs Q E hr h => ?_)
  · obtain ⟨p, dx, t, b, rfl, _⟩ := h
    rfl
  · obtain ⟨p, dx, t, b, rfl, hp, st, sb, ke, kq⟩ := h
    refine ⟨_, pss_cons (ps_if (PW.pt (pw_or (pt_not (pt_val (pe_call GW hr rfl mW kW bW .nil pass0 (pa_cons (pv 1) pa_nil)))) (pw_or (pt_not (pt_val (pe_call GW hr rfl mW kW bW .nil pass0 (pa_cons (pv 2) pa_nil)))) (pw_or1 (pt_cmpR op_eq (pv 2) pe_int (nomark _))))))
        (pss_one (ps_raise rfl (takes_of rfl rfl rfl rfl) (pmk_own PySem.F.excBase_ValueError T.xN T.gN T.kN (raises_own T.bN T.tN) (by exact rfl)))) pss_nil)
      (pss_cons (ps_set (i := 3) scInit.nd rfl (Or.inl rfl) (pe_callBfun cr_gcd rfl T.gcd (pa_cons (pv 1) (pa_cons (pv 2) pa_nil))))
      (pss_cons (ps_if (pt_cmpR op_lt (pv 2) pe_int (nomark _)) (pss_one (ps_set (i := 3) scInit.nd rfl (Or.inl rfl) (pe_un un_neg (pv 3)))) pss_nil)
      (pss_cons (ps_fld (pv 0) (pe_op op_fdivX (pv 1) (pv 3)) rfl)
      (pss_one (ps_fld (pv 0) (pe_op op_fdivX (pv 2) (pv 3)) rfl))))), ?_⟩
    refine ⟨_, rfl, t, rfl, true, rfl, iteF ?_⟩
    refine ⟨_, rfl, b, rfl, true, rfl, iteF ?_⟩
    refine ⟨_, rfl, rfl, _, rfl, ?_⟩
    refine ite2 (fun h0 => ?_) (fun h0 => ?_)
    · exact ke (by simpa using h0)
    · have hb : b ≠ 0 := fun e => h0 (by rw [e]; exact decide_eq_true rfl)
      have gs : (sg t b).natAbs < 2 ^ 4000 := Nat.lt_of_le_of_lt (sg_le hb) sb
      refine ⟨_, rfl, _, rfl, t, b, rfl, ?_⟩
      refine ⟨_, rfl, _, _, rfl, rfl, _, rfl, ?_⟩
      refine ite2 (fun hn => ?_) (fun hn => ?_)
      · have hn : b < 0 := of_decide_eq_true hn
        have e : -((Nat.gcd t.natAbs b.natAbs : Nat) : Int) = sg t b := by unfold sg; rw [if_pos hn]
        have g0 : -((Nat.gcd t.natAbs b.natAbs : Nat) : Int) ≠ 0 := by rw [e]; exact sg_ne hb
        have gd : ∀ i : Int, CDivX i (-((Nat.gcd t.natAbs b.natAbs : Nat) : Int)) := fun i => big_div (b := 4000) g0 (by rw [e]; exact gs) (by decide) (by decide)
        refine ⟨_, rfl, _, rfl, ?_⟩
        refine ⟨_, rfl, _, rfl, _, _, rfl, rfl, gd _, _, rfl, p, C, dx, _, rfl, hp, T.cl, T.nT, (by show 0 < 1000; decide), ?_⟩
        refine ⟨_, rfl, _, rfl, _, _, rfl, rfl, gd _, _, rfl, p, C, dx, _, rfl, upd_same, T.cl, T.nB, (by show 1 < 1000; decide), ?_⟩
        refine kq hb _ (Eq.trans upd_same ?_) (fun a ha => by rw [upd_ne ha, upd_ne ha])
        rw [e]
        rfl
      · have hn : ¬ b < 0 := fun q => hn (decide_eq_true q)
        have e : ((Nat.gcd t.natAbs b.natAbs : Nat) : Int) = sg t b := by unfold sg; rw [if_neg hn]
        have g0 : ((Nat.gcd t.natAbs b.natAbs : Nat) : Int) ≠ 0 := by rw [e]; exact sg_ne hb
        have gd : ∀ i : Int, CDivX i ((Nat.gcd t.natAbs b.natAbs : Nat) : Int) := fun i => big_div (b := 4000) g0 (by rw [e]; exact gs) (by decide) (by decide)
        refine ⟨_, rfl, _, rfl, _, _, rfl, rfl, gd _, _, rfl, p, C, dx, _, rfl, hp, T.cl, T.nT, (by show 0 < 1000; decide), ?_⟩
        refine ⟨_, rfl, _, rfl, _, _, rfl, rfl, gd _, _, rfl, p, C, dx, _, rfl, upd_same, T.cl, T.nB, (by show 1 < 1000; decide), ?_⟩
        refine kq hb _ (Eq.trans upd_same ?_) (fun a ha => by rw [upd_ne ha, upd_ne ha])
        rw [e]
        rfl

/-- what is made stands beside what stood -/
theorem made_same {H H' : Hp} {x dx C : Addr} {o : HO} (nx : H x = none) (nd : H dx = none) (k : ∀ a, a ≠ x → H' a = (upd (upd H dx (.own x)) x o) a) : Same H H' := fun a u e => by
  have a1 : a ≠ x := fun z => by rw [z, nx] at e; cases e
  have a2 : a ≠ dx := fun z => by rw [z, nd] at e; cases e
  rw [k a a1, upd_ne a1, upd_ne a2]
  exact e
theorem scPlus : FnScope ["one", "other"] ["one", "other"] (defScope sPlus) := ⟨rfl, rfl, rfl, by decide +kernel, rfl, by decide +kernel, by decide +kernel⟩
theorem ok_plus {f fI C CN : Addr} {fd fdI : FuncData} (F : Fun K "plus" "plus" sPlus f fd) (T : Txt K mg C CN) (M : Mk K C fI) (GI : FnOk P w K mg base (L2.CX P w) 2 fI fdI ["self", "top", "bottom"] (spInit C CN)) (bI : Binds K fdI ["self", "top", "bottom"] []) :
    FnOk P w K mg base CX0 4 f fd ["one", "other"] (spTwo C (fun t1 b1 t2 b2 => t1 * b2 + t2 * b1) (fun _ b1 _ b2 => b1 * b2)) := by
  refine F.ok scPlus (fun vs H Q E h => ?_) (fun cdv A outer s H vs Q E hr h => ?_)
  · obtain ⟨x, y, t1, b1, t2, b2, rfl, _⟩ := h
    rfl
  · obtain ⟨x, y, t1, b1, t2, b2, rfl, ⟨dx, hx⟩, ⟨dy, hy⟩, s1, s2, s3, s4, n1, n2, k⟩ := h
    refine ⟨_, pss_one (ps_ret (pe_make M GI hr rfl T.mgC bI .nil passL (pa_cons (pe_op op_add (pe_op op_mulW (pe_fld (pv 0) rfl) (pe_fld (pv 1) rfl)) (pe_op op_mulW (pe_fld (pv 1) rfl) (pe_fld (pv 0) rfl)))
      (pa_cons (pe_op op_mulW (pe_fld (pv 0) rfl) (pe_fld (pv 1) rfl)) pa_nil)))), ?_⟩
    refine ⟨_, rfl, x, C, dx, _, _, rfl, hx, T.cl, T.nT, shf_top .., _, rfl, y, C, dy, _, _, rfl, hy, T.cl, T.nB, shf_bottom .., _, _, rfl, rfl, wide_mul s1 s4 (by decide) (by decide) (by decide), ?_⟩
    refine ⟨_, rfl, y, C, dy, _, _, rfl, hy, T.cl, T.nT, shf_top .., _, rfl, x, C, dx, _, _, rfl, hx, T.cl, T.nB, shf_bottom .., _, _, rfl, rfl, wide_mul s3 s2 (by decide) (by decide) (by decide), _, _, rfl, rfl, ?_⟩
    refine ⟨_, rfl, x, C, dx, _, _, rfl, hx, T.cl, T.nB, shf_bottom .., _, rfl, y, C, dy, _, _, rfl, hy, T.cl, T.nB, shf_bottom .., _, _, rfl, rfl, wide_mul s2 s4 (by decide) (by decide) (by decide), ?_⟩
    intro p dp np ndp nex
    refine ⟨p, dp, _, _, rfl, upd_same, pow_le (add_lt (wide_lt s1 s4) (wide_lt s3 s2)) (by decide), pow_le (wide_lt s2 s4) (by decide), fun z => absurd z (Int.mul_ne_zero n1 n2), fun _ H' e ka => ⟨rfl, ?_⟩⟩
    exact k H' p (made_same (C := C) np ndp ka) np ⟨dp, e⟩
theorem scMinus : FnScope ["one", "other"] ["one", "other"] (defScope sMinus) := ⟨rfl, rfl, rfl, by decide +kernel, rfl, by decide +kernel, by decide +kernel⟩
theorem ok_minus {f fI C CN : Addr} {fd fdI : FuncData} (F : Fun K "minus" "minus" sMinus f fd) (T : Txt K mg C CN) (M : Mk K C fI) (GI : FnOk P w K mg base (L2.CX P w) 2 fI fdI ["self", "top", "bottom"] (spInit C CN)) (bI : Binds K fdI ["self", "top", "bottom"] []) :
    FnOk P w K mg base CX0 4 f fd ["one", "other"] (spTwo C (fun t1 b1 t2 b2 => t1 * b2 - t2 * b1) (fun _ b1 _ b2 => b1 * b2)) := by
  refine F.ok scMinus (fun vs H Q E h => ?_) (fun cdv A outer s H vs Q E hr h => ?_)
  · obtain ⟨x, y, t1, b1, t2, b2, rfl, _⟩ := h
    rfl
  · obtain ⟨x, y, t1, b1, t2, b2, rfl, ⟨dx, hx⟩, ⟨dy, hy⟩, s1, s2, s3, s4, n1, n2, k⟩ := h
    refine ⟨_, pss_one (ps_ret (pe_make M GI hr rfl T.mgC bI .nil passL (pa_cons (pe_op op_sub (pe_op op_mulW (pe_fld (pv 0) rfl) (pe_fld (pv 1) rfl)) (pe_op op_mulW (pe_fld (pv 1) rfl) (pe_fld (pv 0) rfl)))
      (pa_cons (pe_op op_mulW (pe_fld (pv 0) rfl) (pe_fld (pv 1) rfl)) pa_nil)))), ?_⟩
    refine ⟨_, rfl, x, C, dx, _, _, rfl, hx, T.cl, T.nT, shf_top .., _, rfl, y, C, dy, _, _, rfl, hy, T.cl, T.nB, shf_bottom .., _, _, rfl, rfl, wide_mul s1 s4 (by decide) (by decide) (by decide), ?_⟩
    refine ⟨_, rfl, y, C, dy, _, _, rfl, hy, T.cl, T.nT, shf_top .., _, rfl, x, C, dx, _, _, rfl, hx, T.cl, T.nB, shf_bottom .., _, _, rfl, rfl, wide_mul s3 s2 (by decide) (by decide) (by decide), _, _, rfl, rfl, ?_⟩
    refine ⟨_, rfl, x, C, dx, _, _, rfl, hx, T.cl, T.nB, shf_bottom .., _, rfl, y, C, dy, _, _, rfl, hy, T.cl, T.nB, shf_bottom .., _, _, rfl, rfl, wide_mul s2 s4 (by decide) (by decide) (by decide), ?_⟩
    intro p dp np ndp nex
    refine ⟨p, dp, _, _, rfl, upd_same, pow_le (sub_lt (wide_lt s1 s4) (wide_lt s3 s2)) (by decide), pow_le (wide_lt s2 s4) (by decide), fun z => absurd z (Int.mul_ne_zero n1 n2), fun _ H' e ka => ⟨rfl, ?_⟩⟩
    exact k H' p (made_same (C := C) np ndp ka) np ⟨dp, e⟩
theorem scTimes : FnScope ["one", "other"] ["one", "other"] (defScope sTimes) := ⟨rfl, rfl, rfl, by decide +kernel, rfl, by decide +kernel, by decide +kernel⟩
theorem ok_times {f fI C CN : Addr} {fd fdI : FuncData} (F : Fun K "times" "times" sTimes f fd) (T : Txt K mg C CN) (M : Mk K C fI) (GI : FnOk P w K mg base (L2.CX P w) 2 fI fdI ["self", "top", "bottom"] (spInit C CN)) (bI : Binds K fdI ["self", "top", "bottom"] []) :
    FnOk P w K mg base CX0 4 f fd ["one", "other"] (spTwo C (fun t1 _ t2 _ => t1 * t2) (fun _ b1 _ b2 => b1 * b2)) := by
  refine F.ok scTimes (fun vs H Q E h => ?_) (fun cdv A outer s H vs Q E hr h => ?_)
  · obtain ⟨x, y, t1, b1, t2, b2, rfl, _⟩ := h
    rfl
  · obtain ⟨x, y, t1, b1, t2, b2, rfl, ⟨dx, hx⟩, ⟨dy, hy⟩, s1, s2, s3, s4, n1, n2, k⟩ := h
    refine ⟨_, pss_one (ps_ret (pe_make M GI hr rfl T.mgC bI .nil passL (pa_cons (pe_op op_mulW (pe_fld (pv 0) rfl) (pe_fld (pv 1) rfl)) (pa_cons (pe_op op_mulW (pe_fld (pv 0) rfl) (pe_fld (pv 1) rfl)) pa_nil)))), ?_⟩
    refine ⟨_, rfl, x, C, dx, _, _, rfl, hx, T.cl, T.nT, shf_top .., _, rfl, y, C, dy, _, _, rfl, hy, T.cl, T.nT, shf_top .., _, _, rfl, rfl, wide_mul s1 s3 (by decide) (by decide) (by decide), ?_⟩
    refine ⟨_, rfl, x, C, dx, _, _, rfl, hx, T.cl, T.nB, shf_bottom .., _, rfl, y, C, dy, _, _, rfl, hy, T.cl, T.nB, shf_bottom .., _, _, rfl, rfl, wide_mul s2 s4 (by decide) (by decide) (by decide), ?_⟩
    intro p dp np ndp nex
    refine ⟨p, dp, _, _, rfl, upd_same, pow_le (wide_lt s1 s3) (by decide), pow_le (wide_lt s2 s4) (by decide), fun z => absurd z (Int.mul_ne_zero n1 n2), fun _ H' e ka => ⟨rfl, ?_⟩⟩
    exact k H' p (made_same (C := C) np ndp ka) np ⟨dp, e⟩
theorem scOver : FnScope ["one", "other"] ["one", "other"] (defScope sOver) := ⟨rfl, rfl, rfl, by decide +kernel, rfl, by decide +kernel, by decide +kernel⟩
theorem ok_over {f fI C CN : Addr} {fd fdI : FuncData} (F : Fun K "over" "over" sOver f fd) (T : Txt K mg C CN) (M : Mk K C fI) (GI : FnOk P w K mg base (L2.CX P w) 2 fI fdI ["self", "top", "bottom"] (spInit C CN)) (bI : Binds K fdI ["self", "top", "bottom"] []) :
    FnOk P w K mg base (L2.CX P w) 4 f fd ["one", "other"] (spOver C CN) := by
  refine F.okX scOver (fun vs H Q E h => ?_) (fun cdv A outer s H vs Q E hr h => ?_)
  · obtain ⟨x, y, t1, b1, t2, b2, rfl, _⟩ := h
    rfl
  · obtain ⟨x, y, t1, b1, t2, b2, rfl, ⟨dx, hx⟩, ⟨dy, hy⟩, s1, s2, s3, s4, n1, ke, k⟩ := h
    refine ⟨_, pss_one (ps_ret (pe_make M GI hr rfl T.mgC bI .nil (passes_call (takes_of rfl rfl rfl rfl) fun _ _ _ _ h => h) (pa_cons (pe_op op_mulW (pe_fld (pv 0) rfl) (pe_fld (pv 1) rfl)) (pa_cons (pe_op op_mulW (pe_fld (pv 0) rfl) (pe_fld (pv 1) rfl)) pa_nil)))), ?_⟩
    refine ⟨_, rfl, x, C, dx, _, _, rfl, hx, T.cl, T.nT, shf_top .., _, rfl, y, C, dy, _, _, rfl, hy, T.cl, T.nB, shf_bottom .., _, _, rfl, rfl, wide_mul s1 s4 (by decide) (by decide) (by decide), ?_⟩
    refine ⟨_, rfl, x, C, dx, _, _, rfl, hx, T.cl, T.nB, shf_bottom .., _, rfl, y, C, dy, _, _, rfl, hy, T.cl, T.nT, shf_top .., _, _, rfl, rfl, wide_mul s2 s3 (by decide) (by decide) (by decide), ?_⟩
    intro p dp np ndp nex
    refine ⟨p, dp, _, _, rfl, upd_same, pow_le (wide_lt s1 s4) (by decide), pow_le (wide_lt s2 s3) (by decide), fun z => ?_, fun z H' e ka => ⟨rfl, ?_⟩⟩
    · refine ke ?_ _ (made_same (C := C) np ndp fun _ _ => rfl)
      rcases Int.mul_eq_zero.mp z with z | z
      · exact absurd z n1
      · exact z
    · exact k (fun e0 => z (by rw [e0, Int.mul_zero])) H' p (made_same (C := C) np ndp ka) np ⟨dp, e⟩
theorem scLess : FnScope ["one", "other"] ["one", "other"] (defScope sLess) := ⟨rfl, rfl, rfl, by decide +kernel, rfl, by decide +kernel, by decide +kernel⟩
theorem ok_less {f C CN : Addr} {fd : FuncData} (F : Fun K "less" "less" sLess f fd) (T : Txt K mg C CN) : FnOk P w K mg base CX0 1 f fd ["one", "other"] (spLess C) := by
  refine F.ok scLess (fun vs H Q E h => ?_) (fun cdv A outer s H vs Q E hr h => ?_)
  · obtain ⟨x, y, t1, b1, t2, b2, rfl, _⟩ := h
    rfl
  · obtain ⟨x, y, t1, b1, t2, b2, rfl, ⟨dx, hx⟩, ⟨dy, hy⟩, s1, s2, s3, s4, k⟩ := h
    refine ⟨_, pss_one (ps_ret (pe_cmpR op_lt (pe_op op_mulW (pe_fld (pv 0) rfl) (pe_fld (pv 1) rfl)) (pe_op op_mulW (pe_fld (pv 1) rfl) (pe_fld (pv 0) rfl)) (nomark _))), ?_⟩
    refine ⟨_, rfl, x, C, dx, _, _, rfl, hx, T.cl, T.nT, shf_top .., _, rfl, y, C, dy, _, _, rfl, hy, T.cl, T.nB, shf_bottom .., _, _, rfl, rfl, wide_mul s1 s4 (by decide) (by decide) (by decide), ?_⟩
    refine ⟨_, rfl, y, C, dy, _, _, rfl, hy, T.cl, T.nT, shf_top .., _, rfl, x, C, dx, _, _, rfl, hx, T.cl, T.nB, shf_bottom .., _, _, rfl, rfl, wide_mul s3 s2 (by decide) (by decide) (by decide), _, _, rfl, rfl, k⟩
end
end K01
namespace K01
open PySem PySem.Spec PyProof.Rows L2
/-! ### == of a share and anything, by its own __eq__ -/
/-- what isinstance asks of the class, and what the law puts beside a share -/
structure TxtI (K : PySem.W.Frag) (C : Addr) : Prop where
  ha : PySem.W.findIn K (.ref C) "__class__" = some (some (.builtin "object.__class__"))
  hn : PySem.W.specialIn K (.builtin "object.__class__") "__get__" = some (some (.builtin "getset_descriptor.__get__"))
  htk : PySem.W.takesIn K (.builtin "object.__class__") = some true
  hm : PySem.W.mroIn K C (.type "object") = some true
  me : PySem.W.kitOne K (.ref C) (.ref C) = some true
  mt : PySem.W.kitOne K (.type "tuple") (.ref C) = some false
  mi : PySem.W.kitOne K (.type "int") (.ref C) = some false
  mn : PySem.W.kitOne K (.type "NoneType") (.ref C) = some false
/-- either another share, or something that is none -/
def EqTo (K : PySem.W.Frag) (C : Addr) (H : Hp) (v : V) (t1 b1 : Int) (r : Bool) : Prop :=
  (∃ (y : Addr) (t2 b2 : Int), v = .ref y ∧ ShAt C H y t2 b2 ∧ r = (decide (t1 = t2) && decide (b1 = b2))) ∨ (∃ ty, TyX K H v ty ∧ PySem.W.kitOne K ty (.ref C) = some false ∧ r = false)
def spEqS (K : PySem.W.Frag) (C : Addr) : Sp := fun vs H Q _ => ∃ (x : Addr) (v : V) (t1 b1 : Int) (r : Bool), vs = [.ref x, v] ∧ ShAt C H x t1 b1 ∧ EqTo K C H v t1 b1 r ∧ Q (.bl r) H
section
variable {P : Program} {w : World} {K : PySem.W.Frag} {mg : Str → Option Value} {base : Heap}
theorem decI (a b : Int) : decide (V.int a = V.int b) = decide (a = b) := by
  by_cases h : a = b
  · rw [h]; simp
  · simp [h]
theorem scEq : FnScope ["self", "other"] ["self", "other"] (defScope sEq) := ⟨rfl, rfl, rfl, by decide +kernel, rfl, by decide +kernel, by decide +kernel⟩
theorem ok_eq {f C CN : Addr} {fd : FuncData} (F : Fun K "__eq__" "Share.__eq__" sEq f fd) (T : Txt K mg C CN) (TI : TxtI K C) : FnOk P w K mg base CX0 1 f fd ["self", "other"] (spEqS K C) := by
  refine F.ok scEq (fun vs H Q E h => ?_) (fun cdv A outer s H vs Q E hr h => ?_)
  · obtain ⟨x, v, t1, b1, r, rfl, _⟩ := h
    rfl
  · obtain ⟨x, v, t1, b1, r, rfl, ⟨dx, hx⟩, hv, k⟩ := h
    refine ⟨_, pss_one (ps_ret (pe_and (pe_callB call_isi (by rfl) T.isi (by decide +kernel) (pa_cons (pv 1) (pa_cons (pe_glob (v := .ref C) rfl T.mgC rfl) pa_nil)))
      (pe_and (pe_cmpR op_eq (pe_fld (pv 0) rfl) (pe_fld (pv 1) rfl) (nomark _)) (pe_one (pe_cmpR op_eq (pe_fld (pv 0) rfl) (pe_fld (pv 1) rfl) (nomark _)))))), ?_⟩
    rcases hv with ⟨y, t2, b2, rfl, ⟨dy, hy⟩, rfl⟩ | ⟨ty, hty, hk, rfl⟩
    · refine ⟨_, rfl, _, _, _, _, true, rfl, ClsV.own C, TyX.base (TyOf.ins hy T.cl TI.ha TI.hn TI.htk TI.hm), TI.me, true, rfl, iteT ?_⟩
      refine ⟨_, rfl, x, C, dx, _, _, rfl, hx, T.cl, T.nT, shf_top .., _, rfl, y, C, dy, _, _, rfl, hy, T.cl, T.nT, shf_top .., rfl, _, rfl, ?_⟩
      rw [decI]
      by_cases e : t1 = t2
      · rw [decide_eq_true e] at k ⊢
        refine iteT ?_
        refine ⟨_, rfl, x, C, dx, _, _, rfl, hx, T.cl, T.nB, shf_bottom .., _, rfl, y, C, dy, _, _, rfl, hy, T.cl, T.nB, shf_bottom .., rfl, ?_⟩
        rw [decI]
        exact k
      · rw [decide_eq_false e] at k ⊢
        exact iteF k
    · refine ⟨_, rfl, _, _, _, _, false, rfl, ClsV.own C, hty, hk, false, rfl, iteF k⟩
end
end K01
namespace K01
open PySem PySem.Spec PyProof.Rows L2
/-! ### comparisons with a share in them -/
/-- what stands beside a share: another one, or a value of a built-in type that the share's class is no subclass of, and that is none of it -/
structure Odd (K : PySem.W.Frag) (C : Addr) (T : String) : Prop where
  k : PySem.W.kitOne K (.type T) (.ref C) = some false
  l : PySem.W.subIn K (.type T) (.ref C) = some false
  r : PySem.W.subIn K (.ref C) (.type T) = some false
/-- the own == of the class at C stands at f, and keeps its promise -/
structure OwnEq (X : Cx) (n : Nat) (C f : Addr) : Prop where
  fn : ∃ fd ps, FnOk X.prog X.w X.K X.mg X.base CX0 n f fd ps (spEqS X.K C) ∧ Binds X.K fd ps []
  at_ : PySem.W.findIn X.K (.ref C) "__eq__" = some (some (.ref f))
  isf : PySem.W.isFn X.K (.ref f) = true
section
variable {X : Cx} {n : Nat} {C f : Addr} {A : Around} {pins : List (Addr × Obj)} {s : Shared} {σ : L2.St} {H : Hp} {x : Addr} {v : V} {u : Value} {t1 b1 : Int} {r : Bool} {T : String}
/-- the def itself, called -/
theorem run_own (O : OwnEq X n C f) (sb : Sub X n A) (I : Inv X pins σ H s) (rv : RelV v u) (hx : ShAt C H x t1 b1) (hv : EqTo X.K C H v t1 b1 r) :
    wpAny (model X.prog X.w) A (call (.ref f) [.ref x, u]) (fun q s' => q = .bool r ∧ Inv X pins σ H s') X.xe s := by
  obtain ⟨fd, ps, F, hb⟩ := O.fn
  have hsp : spEqS X.K C [.ref x, v] H (fun z H' => z = .bl r ∧ H' = H) E0 := ⟨x, v, t1, b1, r, rfl, hx, hv, rfl, rfl⟩
  have e0 : Env0 X.prog X.w X.K X.mg X.base A X.stack s H := by
    have e := I.env0
    exact ⟨by rw [sb.fr]; exact e.frames, e.mod, e.bs, e.bsz, e.funs, e.frf, e.hok, e.bare⟩
  have hl := F.len _ _ _ _ hsp
  have r2 : Vals [V.ref x, v] [Value.ref x, u] := .cons rfl (.cons rv .nil)
  have bb := hb s [.ref x, u] I.kIn (by simpa using hl)
  rw [List.append_nil] at bb
  refine wpAny_call (codeAny_mono (F.run A X.stack s H ⟨[.ref x, u], []⟩ [.ref x, u] [.ref x, v] _ E0 sb.room e0 bb r2 hsp) fun q s' hq => ?_)
  cases q with
  | error e => exact hq.elim
  | ok fl =>
    cases fl with
    | ret z =>
      obtain ⟨y, H', I', ry, ey, eH⟩ := I.after hq
      subst ey
      subst eH
      cases ry
      exact ⟨rfl, I'⟩
    | next => exact False.elim hq
    | brk => exact False.elim hq
    | cont => exact False.elim hq
theorem ins_at (I : Inv X pins σ H s) (hx : ShAt C H x t1 b1) : ∃ ox od, PySem.W.InstAt s.heap x ox C od := by
  obtain ⟨dx, e⟩ := hx
  obtain ⟨m, J, _⟩ := ins_get I.hok e
  obtain ⟨od, J, _⟩ := J.look
  exact ⟨_, _, J⟩
/-- a share on the left -/
theorem rc_left (O : OwnEq X n C f) (sb : Sub X n A) (I : Inv X pins σ H s) (rv : RelV v u) (hx : ShAt C H x t1 b1) (hv : EqTo X.K C H v t1 b1 r)
    {tb : Value} (ht : PySem.W.Looks (model X.prog X.w) s.heap (typeOf u) tb) (hf : PySem.W.notFirst X.K C tb = true) :
    wpAny (model X.prog X.w) A (richCompare .Eq (.ref x) u) (fun q s' => q = .bool r ∧ Inv X pins σ H s') X.xe s := by
  obtain ⟨ox, od, J⟩ := ins_at I hx
  obtain ⟨m, hF⟩ := I.fr
  refine PySem.W.cmp_K (op := .Eq) (tb := tb) sb.room.units0 hF I.ok.mod.kin J ht hf O.at_ O.isf ?_
  refine wpAny_mono (run_own O sb I rv hx hv) (fun q s' z => ?_) fun _ _ z => z
  obtain ⟨rfl, I'⟩ := z
  exact ⟨rfl, I'⟩
/-- two shares -/
theorem rc_two (O : OwnEq X n C f) (sb : Sub X n A) (I : Inv X pins σ H s) {y : Addr} {t2 b2 : Int} (hx : ShAt C H x t1 b1) (hy : ShAt C H y t2 b2) :
    wpAny (model X.prog X.w) A (richCompare .Eq (.ref x) (.ref y)) (fun q s' => q = .bool (decide (t1 = t2) && decide (b1 = b2)) ∧ Inv X pins σ H s') X.xe s := by
  obtain ⟨oy, od, J⟩ := ins_at I hy
  exact rc_left O sb I (v := .ref y) rfl hx (.inl ⟨y, t2, b2, rfl, hy, rfl⟩) J.type (by simp [PySem.W.notFirst])
/-- a value of a built-in type on the left, a share on the right -/
theorem rc_right (O : OwnEq X n C f) (sb : Sub X n A) (I : Inv X pins σ H s) (rv : RelV v u) (hx : ShAt C H x t1 b1) (ty : TyX X.K H v (.type T)) (D : Odd X.K C T)
    (dec : wpAny (model X.prog X.w) A (tryCompare u "__eq__" (.ref x)) (fun q s' => q = none ∧ s' = s) X.xe s) :
    wpAny (model X.prog X.w) A (richCompare .Eq u (.ref x)) (fun q s' => q = .bool false ∧ Inv X pins σ H s') X.xe s := by
  obtain ⟨ox, od, J⟩ := ins_at I hx
  obtain ⟨Ph, Z, ph, _⟩ := kit_of I rv ty
  have LT := Z.ty (model X.prog X.w) s.heap I.kIn ph
  have nu : oneThing? .Eq u (.ref x) = none := by cases u <;> rfl
  unfold richCompare
  simp only [nu]
  refine wpAny_holding (wpAny_bind (wpAny_cRoomFor sb.room.units0 ?_))
  refine wpAny_bind (LT.here (wpAny_bind (J.type.here ?_)))
  rw [if_pos (show (Value.type T != Value.ref C) = true from rfl)]
  refine wpAny_bind ((PySem.W.looks_subIn I.kIn D.r).here ?_)
  simp only [Bool.false_eq_true, if_false]
  refine wpAny_bind (wpAny_mono dec (fun q s' z => ?_) fun _ _ z => z)
  obtain ⟨rfl, rfl⟩ := z
  simp only [Bool.not_false, if_true]
  refine wpAny_bind (m := tryCompare (.ref x) _ u) ?_
  unfold tryCompare
  refine wpAny_bind (PySem.W.ifBound_K I.kIn J O.at_ O.isf (wpAny_mono (run_own O sb I rv hx (.inr ⟨_, ty, D.k, rfl⟩)) (fun q s' z => ?_) fun _ _ z => z))
  obtain ⟨rfl, I'⟩ := z
  exact wpAny_pure (wpAny_pure ⟨rfl, I'⟩)
end
end K01
namespace K01
open PySem PySem.Spec PyProof.Rows L2
/-! ### != of two shares: object.__ne__ over the own == -/
section
variable {X : Cx} {n : Nat} {C f : Addr} {A : Around} {pins : List (Addr × Obj)} {s : Shared} {σ : L2.St} {H : Hp} {x y : Addr} {t1 b1 t2 b2 : Int}
theorem ne_body (O : OwnEq X n C f) (sb : Sub X (n + 1) A) (I : Inv X pins σ H s) (hx : ShAt C H x t1 b1) (hy : ShAt C H y t2 b2) {Q : Fin → Shared → Prop}
    (hq : ∀ s', Inv X pins σ H s' → Q (.done (.ret (.bool (!(decide (t1 = t2) && decide (b1 = b2)))))) s') :
    wpAny (model X.prog X.w) A (Builtin.«object.__ne__» ⟨[.ref x, .ref y], []⟩) Q X.xe s := by
  obtain ⟨ox, od, J⟩ := ins_at I hx
  have sb0 : Sub X n A := sb.mono (Nat.le_succ n)
  unfold Builtin.«object.__ne__»
  refine wpAny_bind (wpAny_of_eq (a := ((Value.ref x : Value), [Value.ref y])) (by first | rfl | (simp only [slotArgs]; rfl)) ?_)
  dsimp only
  refine wpAny_bind (wpAny_cRoomFor sb.room.units0 ?_)
  refine wpAny_bind (PySem.W.ifBound_K I.kIn J O.at_ O.isf (wpAny_mono (run_own O sb0 I (v := .ref y) rfl hx (.inl ⟨y, t2, b2, rfl, hy, rfl⟩)) (fun q s' z => ?_) fun _ _ z => z))
  obtain ⟨rfl, I'⟩ := z
  dsimp only
  exact wpAny_bind (wpAny_truthy_bool (wpAny_pure (hq _ I')))
theorem ne_two (O : OwnEq X n C f) (sb : Sub X (n + 2) A) (I : Inv X pins σ H s) (hne : PySem.W.findIn X.K (.ref C) "__ne__" = some (some (.builtin "object.__ne__"))) (hob : PySem.W.subIn X.K (.ref C) (.type "object") = some true)
    (hx : ShAt C H x t1 b1) (hy : ShAt C H y t2 b2) :
    wpAny (model X.prog X.w) A (richCompare .NotEq (.ref x) (.ref y)) (fun q s' => q = .bool (!(decide (t1 = t2) && decide (b1 = b2))) ∧ Inv X pins σ H s') X.xe s := by
  obtain ⟨ox, od, J⟩ := ins_at I hx
  obtain ⟨oy, od', J'⟩ := ins_at I hy
  have isob : PySem.W.Looks (model X.prog X.w) s.heap (isInstance (.ref x) (.type "object")) true := J.type.andThen (PySem.W.looks_subIn I.kIn hob)
  have called : wpAny (model X.prog X.w) A (call (.builtin "object.__ne__") [.ref x, .ref y]) (fun q s' => q = .bool (!(decide (t1 = t2) && decide (b1 = b2))) ∧ Inv X pins σ H s') X.xe s := by
    refine wpAny_call (codeAny_call_builtin F.cmp_object.ne.plain F.cmpEntry_ne (PySem.W.check_slot F.cmpKind_ne F.cmpSplit_ne isob (F.cmpArgs_ne _ _) ?_))
    exact ne_body O (sb.in1) I hx hy fun s' I' => ⟨rfl, I'⟩
  unfold richCompare
  simp only [oneThing_ref]
  refine wpAny_holding (wpAny_bind (wpAny_cRoomFor sb.room.units0 ?_))
  refine wpAny_bind (J.type.here (wpAny_bind (J'.type.here ?_)))
  rw [if_neg (show ¬ (Value.ref C != Value.ref C) = true by simp)]
  refine wpAny_bind (wpAny_pure ?_)
  simp only [Bool.false_eq_true, if_false]
  refine wpAny_bind (m := tryCompare (.ref x) _ (.ref y)) ?_
  unfold tryCompare
  have fin : wpAny (model X.prog X.w) A (call (.builtin "object.__ne__") ([.ref x] ++ [.ref y]) >>= fun v => pure (some v)) (fun o s' => ∃ q, o = some q ∧ q = .bool (!(decide (t1 = t2) && decide (b1 = b2))) ∧ Inv X pins σ H s') X.xe s :=
    wpAny_bind (wpAny_mono called (fun q s' z => wpAny_pure ⟨q, rfl, z⟩) fun _ _ z => z)
  have asked : wpAny (model X.prog X.w) A (callSpecialIfBound? (.ref x) "__ne__" [.ref y]) (fun o s' => ∃ q, o = some q ∧ q = .bool (!(decide (t1 = t2) && decide (b1 = b2))) ∧ Inv X pins σ H s') X.xe s := by
    simp only [callSpecialIfBound?, bindSpecialIfBound?]
    refine wpAny_holding (wpAny_bind (wpAny_bind (wpAny_bind (J.type.here ((PySem.W.looks_findIn I.kIn hne).here ?_)))))
    simp only [F.cmp_object.ne.bind]
    refine wpAny_bind (wpAny_askSetting (wpAny_ite ?_))
    split
    · exact wpAny_bind (wpAny_pure (wpAny_pure fin))
    · exact wpAny_tryCatch (wpAny_bind (wpAny_pure (wpAny_pure fin)))
  refine wpAny_bind (wpAny_mono asked (fun o s' z => ?_) fun _ _ z => z)
  obtain ⟨q, rfl, rfl, I'⟩ := z
  exact wpAny_pure (wpAny_pure ⟨rfl, I'⟩)
end
/-! ### the operators, as rules -/
section
variable {X : Cx} {n : Nat} {C f : Addr}
def rEqS (C : Addr) : R2 := fun x y H Q => ∃ (a b : Addr) (t1 b1 t2 b2 : Int), x = .ref a ∧ y = .ref b ∧ ShAt C H a t1 b1 ∧ ShAt C H b t2 b2 ∧ Q (.bl (decide (t1 = t2) && decide (b1 = b2))) H
def rNeS (C : Addr) : R2 := fun x y H Q => ∃ (a b : Addr) (t1 b1 t2 b2 : Int), x = .ref a ∧ y = .ref b ∧ ShAt C H a t1 b1 ∧ ShAt C H b t2 b2 ∧ Q (.bl (!(decide (t1 = t2) && decide (b1 = b2)))) H
theorem op_eqS (O : OwnEq X n C f) (hr : Room n X.A) : OpR X (compareOp .Eq) (rEqS C) := by
  intro pins s σ H x y v u Q I rx ry h
  obtain ⟨a, b, t1, b1, t2, b2, rfl, rfl, ha, hb, q⟩ := h
  cases rx
  cases ry
  show wpAny (model X.prog X.w) X.A (richCompare .Eq (.ref a) (.ref b)) (EP X pins σ Q) X.xe s
  refine wpAny_mono (rc_two O ⟨hr, rfl⟩ I ha hb) (fun r s' z => ?_) fun _ _ z => z
  obtain ⟨rfl, I'⟩ := z
  exact ⟨.bl _, H, I', rfl, q⟩
theorem op_neS (O : OwnEq X n C f) (hr : Room (n + 2) X.A) (hne : PySem.W.findIn X.K (.ref C) "__ne__" = some (some (.builtin "object.__ne__"))) (hob : PySem.W.subIn X.K (.ref C) (.type "object") = some true) : OpR X (compareOp .NotEq) (rNeS C) := by
  intro pins s σ H x y v u Q I rx ry h
  obtain ⟨a, b, t1, b1, t2, b2, rfl, rfl, ha, hb, q⟩ := h
  cases rx
  cases ry
  show wpAny (model X.prog X.w) X.A (richCompare .NotEq (.ref a) (.ref b)) (EP X pins σ Q) X.xe s
  refine wpAny_mono (ne_two O ⟨hr, rfl⟩ I hne hob ha hb) (fun r s' z => ?_) fun _ _ z => z
  obtain ⟨rfl, I'⟩ := z
  exact ⟨.bl _, H, I', rfl, q⟩
end
end K01
namespace K01
open PySem PySem.Spec PyProof.Rows L2
/-! ### defs that ask for the text of a list: nothing that is being written out may stand below -/
structure FnG (P : Program) (w : World) (K : PySem.W.Frag) (mg : Str → Option Value) (base : Heap) (k : Nat) (f : Addr) (fd : FuncData) (ps : List Str) (sp : Sp) : Prop where
  len : ∀ vs H Q E, sp vs H Q E → vs.length = ps.length
  run : ∀ (A : Around) (outer : List Env) (s : Shared) (H : Hp) (args : Args) (us : List Value) (vs : List V) (Q : VK) (E : XK), Room k A → A.guards = some [] →
    Env0 P w K mg base A outer s H → BindsTo s fd args (ps.zip us) → Vals vs us → sp vs H Q E → codeAny (model P w) A (.call (.ref f) args) (CR CX0 outer P w H s Q E) s
section
variable {P : Program} {w : World} {K : PySem.W.Frag} {mg : Str → Option Value} {base : Heap}
/-- Fun.ok for such a def -/
theorem okG {x qual : Str} {st : Stmt} {f : Addr} {fd : FuncData} {N ps : List Str} {k : Nat} {sp : Sp} (F : Fun K x qual st f fd) (S : FnScope N ps (defScope st)) (len : ∀ vs H Q E, sp vs H Q E → vs.length = ps.length)
    (hbody : ∀ (cdv : Value) (A : Around) (outer : List Env) (s : Shared) (H : Hp) (vs : List V) (Q : VK) (E : XK), Room k (A.deeper (envOfC qual (defScope st) s.heap.objs.size f cdv)) →
      (A.deeper (envOfC qual (defScope st) s.heap.objs.size f cdv)).guards = some [] → sp vs H Q E →
      ∃ t, PSs (cxOf CX0 P w K mg base N qual (defScope st) f cdv A outer s H E).nox (defBody st) t ∧ t { nx := fun _ H' => Q .non H', rt := Q } (start N vs) H) : FnG P w K mg base (k + 1) f fd ps sp := by
  obtain ⟨oc, od, kV, doc, pm, an, cdv, ct, osl, rfl, lk, hcd⟩ := F.ex
  refine ⟨len, ?_⟩
  intro A outer s H args us vs Q E room guards env binds rel wish
  have same : vs.length = ps.length := len vs H Q E wish
  have inK : K.In s.heap := env.mod.kin.keeps fun b o e => (env.bs b o e).1
  have noLim : s.heap.NoLimit := env.mod.nolimit.keeps fun b o e => (env.bs b o e).1
  refine codeAny_call_function room.depth (inK _ _ lk) rfl S.co S.gen rfl (PySem.W.codeRec_of inK hcd) (binds _ _ _ _ ?_)
  refine wpAny_newFunctionEnv_cells S.kind ?_ ?_
  · rintro ⟨n, v⟩ hy
    rcases S.par n (List.of_mem_zip hy).1 with loc | cel
    · exact Or.inl loc
    · exact Or.inr ⟨cel, PySem.W.cellsFrom_some _ _ _ (Or.inl cel)⟩
  · intro env' eq' s1 x
    subst eq'
    refine ⟨noLim.keeps x.toInCall.keep, codeAny_func ?_⟩
    obtain ⟨t, der, red⟩ := hbody cdv A outer s H vs Q E (room.deeper _) guards wish
    have I : Inv (cxOf CX0 P w K mg base N qual (defScope st) f cdv A outer s H E) [] (start N vs) H s1 := inv_start S room.hd env same rel x
    refine wpAny_mono (der.nox.run [] s1 (start N vs) H _ I red) ?_ (fun _ _ z => z)
    intro fl s' after
    cases fl with
    | brk =>
      obtain ⟨_, _, _, no⟩ := after
      exact no.elim
    | cont =>
      obtain ⟨_, _, _, no⟩ := after
      exact no.elim
    | next =>
      obtain ⟨σ', H', J, q⟩ := after
      exact ⟨V.non, H', J.os, J.bare, J.base, J.hok, rfl, q⟩
    | ret u =>
      obtain ⟨v, σ', H', J, rv, q⟩ := after
      exact ⟨v, H', J.os, J.bare, J.base, J.hok, rv, q⟩
end
section
variable {X : Cx} {k : Nat} {f : Addr} {fd : FuncData} {ps : List Str} {sp : Sp} {x : Str} {p pos : Pos} {e : Expr} {es : List Expr} {t : TA}
def tCallG (sp : Sp) (t : TA) : TE := fun σ H Q => t σ H fun vs H1 => sp vs H1 Q E0
/-- such a def, called -/
theorem pe_callG (F : FnG X.prog X.w X.K X.mg X.base k f fd ps sp) (hr : Room k X.A) (hgu : X.A.guards = some []) (hg : Gl X x) (hm : X.mg x = some (.ref f)) (hk : PySem.W.keepIn X.K (.ref f) = true) (hb : Binds X.K fd ps [])
    (ha : PA X (e :: es) t) (hdb : (x == ("__debug__" : Str)) = false := by decide) (he : starEach (e :: es) X.env = (false, eval e X.env) :: starEach es X.env := by rfl) (hpl : (backTo pos (starEach es X.env)).any (·.1) = false := by rfl) :
    PE X (.Call (.Name x p) (e :: es) [] pos) (tCallG sp t) := by
  refine ⟨?_⟩
  intro pins s σ H Q I red
  refine wpAny_Call_Name_kw (ld_glob I hg hm ?_ hdb)
  refine PySem.W.callWith_K (h₀ := X.base) I.ok.mod.kin hk (thn (ha.run pos pins s σ H _ I red) ?_) he hpl
  rintro us s1 ⟨vs, H1, I1, rel, wish⟩
  refine ⟨I1.kIn, ?_⟩
  have same : us.length = ps.length := rel.length.symm.trans (F.len _ _ _ _ wish)
  have bnd := hb s1 us I1.kIn (by rw [List.append_nil]; exact same)
  rw [List.append_nil] at bnd
  refine wpAny_call (codeAny_mono (F.run X.A X.stack s1 H1 ⟨us, []⟩ us vs Q E0 hr hgu I1.env0 bnd rel wish) ?_)
  intro r s' after
  cases r with
  | error _ => exact after.elim
  | ok fl =>
    cases fl with
    | ret _ => exact I1.after after
    | next => exact False.elim after
    | brk => exact False.elim after
    | cont => exact False.elim after
/-- repr of data: what is written out -/
def rRepr (K : PySem.W.Frag) (A : Around) : List V → Hp → VK → Prop := fun vs H Q => ∃ (a : Addr) (d : PyData), vs = [.ref a] ∧ Dp K H (.ref a) d ∧ d.showable = true ∧ d.hasDict = false ∧ A.units + (d.depth + 1) < cLine ∧ d.shown.length ≤ sizeLine ∧ Q (.str d.shown) H
theorem call_repr (hgu : X.A.guards = some []) : CallR X (.builtin "repr") (rRepr X.K X.A) := by
  intro pins s σ H vs us Q I rel red
  obtain ⟨a, d, rfl, hd, h1, h2, h3, h4, q⟩ := red
  cases rel with
  | cons r1 rn =>
    cases rn
    cases r1
    obtain ⟨as, rd⟩ := Dp.reads I d (.ref a) (.ref a) hd rfl
    refine repr_of_reads' (h₀ := s.heap) rd h1 (fun z => by rw [h2] at z; cases z) hgu h3 (fun _ _ e => e) ?_ h4
    intro h' u tk keep
    exact ⟨.str d.shown, H, I.kept (t' := tk) keep, ⟨u, rfl⟩, q⟩
end
end K01
namespace K01
open PySem PySem.Spec PyProof.Rows L2
open AutoSeq1 (wpAny_loadPart')
/-! ### a share in a list of things that are none -/
section
variable {prog : Program} {w : World} {A : Around} {R : Result → Shared → Prop}
theorem none_in_loop (l : Addr) (x : Value) (N : Nat) (I : Shared → Prop)
    (hl : ∀ s, I s → ∃ (items : Array Value) (n : Nat), s.heap.get? l = some { cls := .type "list", data := .seq items n } ∧ items.size = N ∧
      ∀ i (h : i < items.size), wpAny (model prog w) A.in1 (eqBool items[i] x) (fun r s' => r = false ∧ I s') (fun e s' => R (.error e) s') s)
    (fin : ∀ s, I s → R (.ok (.ret (.bool false))) s) (k : Nat) :
    ∀ i : Nat, N - i = k → ∀ s, I s → wpAny (model prog w) A.in1 (Builtin.«list.__contains__.loop» ⟨[.ref l, x, rawInt i], []⟩) (GQ.FinOf prog w A R) (fun e s' => R (.error e) s') s := by
  induction k with
  | zero =>
    intro i left s here
    obtain ⟨items, n, obj, size, _⟩ := hl s here
    have done := fin s here
    have past : items[((i : Nat) : Int).toNat]? = none := by
      rw [Int.toNat_natCast]
      exact Array.getElem?_eq_none (by omega)
    obtain ⟨hp, g, d, tk, os⟩ := s
    wp_walk using wpAny_loadPart' obj
    rw [past]
    wp_walk
    exact done
  | succ k more =>
    intro i left s here
    obtain ⟨items, n, obj, size, each⟩ := hl s here
    have lt : i < items.size := by omega
    have item : items[((i : Nat) : Int).toNat]? = some items[i] := by
      rw [Int.toNat_natCast]
      exact Array.getElem?_eq_getElem lt
    have unlike := each i lt
    obtain ⟨hp, g, d, tk, os⟩ := s
    wp_walk using wpAny_loadPart' obj
    rw [item]
    refine wpAny_bind (wpAny_mono unlike ?_ fun _ _ z => z)
    rintro r s2 ⟨rfl, there⟩
    have rest := more (i + 1) (by omega) s2 there
    have next : ((i : Int) + 1) = ((i + 1 : Nat) : Int) := by omega
    obtain ⟨hp2, g2, d2, tk2, os2⟩ := s2
    wp_walk
    rw [next]
    refine ⟨PySem.plainId_quiet MeetsSeq.plain_contains_loop _, codeAny_builtin MeetsSeq.entry_contains_loop ?_⟩
    rw [Around.under_plainId MeetsSeq.plain_contains_loop _]
    exact rest
theorem none_in (l : Addr) (x : Value) (N : Nat) (I : Shared → Prop)
    (hl : ∀ s, I s → ∃ (items : Array Value) (n : Nat), s.heap.get? l = some { cls := .type "list", data := .seq items n } ∧ items.size = N ∧
      ∀ i (h : i < items.size), wpAny (model prog w) A.in1 (eqBool items[i] x) (fun r s' => r = false ∧ I s') (fun e s' => R (.error e) s') s)
    (fin : ∀ s, I s → R (.ok (.ret (.bool false))) s) {s : Shared} (here : I s) :
    wpAny (model prog w) A.in1 (Builtin.«list.__contains__» ⟨[.ref l, x], []⟩) (GQ.FinOf prog w A R) (fun e s' => R (.error e) s') s := by
  obtain ⟨items, n, obj, _, _⟩ := hl s here
  have loop := none_in_loop (A := A) (R := R) l x N I hl fin _ 0 rfl s here
  obtain ⟨hp, g, d, tk, os⟩ := s
  wp_walk using wpAny_loadPart' obj
  refine ⟨PySem.plainId_quiet MeetsSeq.plain_contains_loop _, codeAny_builtin MeetsSeq.entry_contains_loop ?_⟩
  rw [Around.under_plainId MeetsSeq.plain_contains_loop _]
  exact loop
end
end K01
namespace K01
open PySem PySem.Spec PyProof.Rows L2
open AutoSeq1 (wpAny_loadPart')
section
variable {prog : Program} {w : World} {A : Around} {E : Value → Shared → Prop} {s : Shared} {x C dx : Addr}
/-- int.__eq__, tuple.__eq__, NoneType.__eq__ decline an instance of an own class -/
theorem dec_int {i : Int} {tk : Tok} (hx : s.heap.get? x = some (PySem.W.instObj C dx)) : wpAny (model prog w) A (tryCompare (.int i tk) "__eq__" (.ref x)) (fun q s' => q = none ∧ s' = s) E s := by
  refine wpAny_tryCompare_declines (typeIs_int s i tk) F.slot_int_eq (GQ.call_here F.slot_int_eq (typeIs_int s i tk) F.entry_int_eq (F.args_int_eq_2 _ _) ?_)
  obtain ⟨hp, g, d, tk', os⟩ := s
  wp_walk using wpAny_loadPart' hx
  exact ⟨rfl, rfl, rfl⟩
theorem dec_none : wpAny (model prog w) A (tryCompare .none "__eq__" (.ref x)) (fun q s' => q = none ∧ s' = s) E s := by
  refine wpAny_tryCompare_declines rfl F.slot_NoneType_eq (GQ.call_here F.slot_NoneType_eq rfl F.entry_NoneType_eq (F.args_NoneType_eq_2 _ _) ?_)
  obtain ⟨hp, g, d, tk', os⟩ := s
  wp_walk
  exact ⟨rfl, rfl, rfl⟩
theorem dec_tup {a : Addr} {oa : Obj} (ha : s.heap.get? a = some oa) (hc : oa.cls = .type "tuple") (hin : PySem.W.Looks (model prog w) s.heap (isInstance (.ref x) (.type "tuple")) false) : wpAny (model prog w) A (tryCompare (.ref a) "__eq__" (.ref x)) (fun q s' => q = none ∧ s' = s) E s := by
  refine wpAny_tryCompare_declines ⟨oa, ha, hc⟩ F.slot_tuple_eq (GQ.call_here F.slot_tuple_eq ⟨oa, ha, hc⟩ F.entry_tuple_eq (F.args_tuple_eq_2 _ _) ?_)
  unfold Builtin.«tuple.__eq__»
  refine wpAny_bind (wpAny_of_eq (a := ((Value.ref a : Value), [Value.ref x])) (by first | rfl | (simp only [slotArgs]; rfl)) ?_)
  dsimp only
  refine wpAny_bind (hin.here ?_)
  exact wpAny_pure ⟨rfl, rfl, rfl⟩
end
end K01
namespace K01
open PySem PySem.Spec PyProof.Rows L2
/-- what is no share: an int, None, a tuple -/
def OddV (H : Hp) (v : V) : Prop := (∃ i, v = .int i) ∨ v = .non ∨ ∃ a xs, v = .ref a ∧ H a = some (.tup xs)
structure Odds (K : PySem.W.Frag) (C : Addr) : Prop where
  t : Odd K C "tuple"
  i : Odd K C "int"
  n : Odd K C "NoneType"
section
variable {X : Cx} {n : Nat} {C f : Addr} {A : Around} {pins : List (Addr × Obj)} {s : Shared} {σ : L2.St} {H : Hp} {x : Addr} {v : V} {u : Value} {t1 b1 : Int}
theorem eq_odd (O : OwnEq X n C f) (D : Odds X.K C) (sb : Sub X n A) (I : Inv X pins σ H s) (rv : RelV v u) (hx : ShAt C H x t1 b1) (hv : OddV H v) :
    wpAny (model X.prog X.w) A (eqBool u (.ref x)) (fun r s' => r = false ∧ Inv X pins σ H s') X.xe s := by
  obtain ⟨dx, ex⟩ := id hx
  have ox : s.heap.get? x = some (PySem.W.instObj C dx) := by
    obtain ⟨_, _, _, e, _⟩ := I.hok x _ ex
    exact e
  obtain ⟨_, _, J⟩ := ins_at I hx
  rcases hv with ⟨i, rfl⟩ | rfl | ⟨a, xs, rfl, ha⟩
  · obtain ⟨tk, rfl⟩ := rv
    unfold eqBool
    refine wpAny_holding ?_
    refine wpAny_ite_split (fun z => absurd (eq_of_beq z) (fun q => nomatch q)) (fun _ => ?_)
    refine wpAny_bind (wpAny_mono (rc_right O sb I (v := .int i) ⟨tk, rfl⟩ hx (.base (.int i)) D.i (dec_int ox)) (fun q s' z => ?_) fun _ _ z => z)
    obtain ⟨rfl, I'⟩ := z
    exact wpAny_truthy_bool ⟨rfl, I'⟩
  · cases rv
    unfold eqBool
    refine wpAny_holding ?_
    refine wpAny_ite_split (fun z => absurd (eq_of_beq z) (fun q => nomatch q)) (fun _ => ?_)
    refine wpAny_bind (wpAny_mono (rc_right O sb I (v := .non) rfl hx (.base .non) D.n dec_none) (fun q s' z => ?_) fun _ _ z => z)
    obtain ⟨rfl, I'⟩ := z
    exact wpAny_truthy_bool ⟨rfl, I'⟩
  · cases rv
    have ne : a ≠ x := fun z => by
      rw [z, ex] at ha
      cases ha
    obtain ⟨_, _, _, oa, h1, h2, _⟩ := (show ObjOk X.prog X.w H s.heap a (.tup xs) from I.hok a _ ha)
    have hin : PySem.W.Looks (model X.prog X.w) s.heap (isInstance (.ref x) (.type "tuple")) false := J.type.andThen (PySem.W.looks_subIn I.kIn D.t.r)
    refine GQ.eqBool_refG ne (wpAny_mono (rc_right O sb I (v := .ref a) rfl hx (.base (.tup ha)) D.t (dec_tup h1 h2 hin)) (fun q s' z => ?_) fun _ _ z => z)
    obtain ⟨rfl, I'⟩ := z
    exact ⟨false, rfl, rfl, I'⟩
end
section
variable {X : Cx} {n : Nat} {C f : Addr}
def rInS (C : Addr) : R2 := fun x y H Q => ∃ (a l : Addr) (t1 b1 : Int) (xs : List V), x = .ref a ∧ y = .ref l ∧ ShAt C H a t1 b1 ∧ H l = some (.lst xs) ∧ (∀ v ∈ xs, OddV H v) ∧ Q (.bl false) H
theorem op_inS (O : OwnEq X n C f) (D : Odds X.K C) (hr : Room (n + 2) X.A) : OpR X (compareOp .In) (rInS C) := by
  intro pins s σ H x y v u Q I rx ry h
  obtain ⟨a, l, t1, b1, xs, rfl, rfl, ha, hl, odd, q⟩ := h
  cases rx
  cases ry
  have sb : Sub X (n + 2) X.A := ⟨hr, rfl⟩
  obtain ⟨_, its, k, rel, obj⟩ := I.hok l _ hl
  show wpAny (model X.prog X.w) X.A (do return Value.bool (← contains (.ref l) (.ref a))) _ _ s
  refine wpAny_bind (wpAny_contains_slot ⟨_, obj, rfl⟩ F.slot_list_contains (GQ.call_here F.slot_list_contains ⟨_, obj, rfl⟩ F.entry_list_contains (F.args_list_contains_2 _ _) ?_))
  refine none_in (A := X.A) l (.ref a) xs.length (fun s' => Inv X pins σ H s') (fun s' I' => ?_) (fun s' I' => ?_) I
  · obtain ⟨_, its', k', rel', obj'⟩ := I'.hok l _ hl
    refine ⟨its'.toArray, k', obj', by rw [List.size_toArray, ← rel'.length], fun i hi => ?_⟩
    have hi' : i < its'.length := by simpa using hi
    have hx : i < xs.length := by rw [rel'.length]; exact hi'
    obtain ⟨w', hw, rw'⟩ := rel'.get (List.getElem?_eq_getElem hx)
    have e : its'.toArray[i] = w' := by
      rw [List.getElem?_eq_getElem hi'] at hw
      simpa using Option.some.inj hw
    rw [e]
    exact eq_odd O D ((sb.in1).mono (Nat.le_succ n)) I' rw' ha (odd _ (List.getElem_mem hx))
  · exact wpAny_truthy_bool (wpAny_pure ⟨.bl false, H, I', rfl, q⟩)
end
end K01
namespace K01
open PySem PySem.Spec PyProof.Rows L2
/-! ### the law's end, for a def that asks for the text of a list -/
theorem law_callG {P : Program} {w : World} {K : PySem.W.Frag} {mg mb : Str → Option Value} {k : Nat} {fa a : Addr} {fd : FuncData} {x : Str} {sp : Sp} {s₁ : Shared} {vs : List Value} {ns : List Int}
    (KX : K.In s₁.heap) (hns : s₁.heap.Ns mainGlobals mg) (hb : s₁.heap.Ns builtinsNs mb) (hbb : ∀ x : Str, x ≠ "__name__" → mb x = bootBuiltins x) (hlim : s₁.heap.NoLimit) (hg : s₁.gens = #[])
    (ha : s₁.heap.get? a = some { cls := .type "list", data := .seq vs.toArray }) (hi : IntsAre vs ns) (hl : ns.length ≤ sizeLine) (hr : Room k callerA)
    (F : ∀ base : Heap, K.In base → base.Ns mainGlobals mg → FnG P w K mg base k fa fd [x] sp) (hbind : ∀ (s : Shared) (u : Value), BindsTo s fd ⟨[u], []⟩ [(x, u)])
    (hsp : ∀ H : Hp, Only H → SqL K H a (ns.map V.int) → sp [.ref a] H (fun v _ => v = .bl true) E0) :
    codeAny (model P w) callerA (.call (.ref fa) ⟨[.ref a], []⟩) (fun r s' => r = .ok (.ret (.bool true)) ∧ OldK s₁.heap s'.heap ∧ s'.os = s₁.os ∧ AllBare s'.gens) s₁ := by
  have rel := vals_ints hi
  have many := hi.length
  -- H tracks the script at most
  have main : ∀ H : Hp, Only H → SqL K H a (ns.map V.int) → HOk P w H s₁.heap → (∀ b, H b ≠ none → b = a ∧ K.lookup a = none) →
      codeAny (model P w) callerA (.call (.ref fa) ⟨[.ref a], []⟩) (fun r s' => r = .ok (.ret (.bool true)) ∧ OldK s₁.heap s'.heap ∧ s'.os = s₁.os ∧ AllBare s'.gens) s₁ := by
    intro H only seq ok at_
    have untracked : ∀ {b : Addr} {o : Obj}, s₁.heap.get? b = some o → (b = a → K.lookup a ≠ none ∨ ∃ es ep, o.data = .dict es ep) → H b = none := by
      intro b o e h
      cases q : H b with
      | none => rfl
      | some u =>
        obtain ⟨ba, ka⟩ := at_ b (by rw [q]; simp)
        rcases h ba with h | ⟨es, ep, h⟩
        · exact absurd ka h
        · rw [ba, ha] at e
          cases e
          cases h
    have nsp : ∀ {b : Addr} {m : Str → Option Value}, s₁.heap.Ns b m → (hidT s₁.heap H).Ns b m := by
      rintro b m ⟨o, es, ep, e, d, r⟩
      exact ⟨o, es, ep, hidT_get e (untracked e fun _ => .inr ⟨es, ep, d⟩), d, r⟩
    have inB : K.In (hidT s₁.heap H) := by
      intro b o e
      refine hidT_get (KX b o e) (untracked (KX b o e) fun z => .inl ?_)
      rw [← z, e]
      simp
    have md : Mod K mg (hidT s₁.heap H) := ⟨inB, nsp hns, ⟨mb, nsp hb, hbb⟩, hlim.elim fun mc h => ⟨mc, nsp h.1, h.2⟩⟩
    have env : Env0 P w K mg (hidT s₁.heap H) callerA [] s₁ H := ⟨rfl, md, fun b o e => of_hidT e, Nat.le_of_eq (hidT_size _ _), trivial, fun b z => absurd (show b ∈ ([] : List Addr) from z) (by simp), ok, .of_eq hg⟩
    refine codeAny_mono ((F _ inB (nsp hns)).run callerA [] s₁ H ⟨[.ref a], []⟩ [.ref a] [.ref a] _ _ hr rfl env (hbind s₁ (.ref a)) (.cons rfl .nil) (hsp H only seq)) ?_
    intro r s' after
    cases r with
    | error e => exact after.elim
    | ok fl =>
      cases fl with
      | next => exact False.elim after
      | brk => exact False.elim after
      | cont => exact False.elim after
      | ret u =>
        obtain ⟨v, H', os, bare, un, ok', rv, ev⟩ := after
        have ev : v = .bl true := ev
        rw [ev] at rv
        obtain rfl : u = Value.bool true := rv
        refine ⟨rfl, OldK.of_keep ?_, os, bare⟩
        intro b o e
        cases q : H b with
        | none => exact un.keep b o e q (by intro z; exact absurd (show b ∈ ([] : List Addr) from z) (by simp)) (by simp)
        | some u =>
          rcases only b with z | ⟨ob, xs, z⟩
          · rw [q] at z
            cases z
          · obtain ⟨g1, _⟩ := ok b _ z
            obtain ⟨g2, _⟩ := ok' b _ (un.frzs b ob _ z)
            rw [e] at g1
            cases g1
            exact g2
  cases hk : K.lookup a with
  | some o =>
    have e := KX a o hk
    rw [ha] at e
    cases e
    refine main (fun _ => none) (fun _ => .inl rfl) (.inr ⟨_, vs.toArray, _, hk, rfl, rfl, rfl, ?_, by simpa using rel⟩) (fun b u z => ?_) (fun b z => absurd rfl z)
    · rw [List.size_toArray, many]
      exact hl
    · cases (show (none : Option HO) = some u from z)
  | none =>
    refine main (fun b => if b = a then some (.frz { cls := .type "list", data := .seq vs.toArray } (.lst (ns.map V.int))) else none) (fun b => ?_) (.inl (.inr ⟨{ cls := .type "list", data := .seq vs.toArray }, if_pos rfl⟩)) (fun b u z => ?_) (fun b z => ?_)
    · by_cases q : b = a
      · exact .inr ⟨_, _, if_pos q⟩
      · exact .inl (if_neg q)
    · by_cases q : b = a
      · have e := (if_pos q).symm.trans z
        cases e
        subst q
        exact ⟨ha, by rw [List.length_map]; exact hl, vs, _, rel, ha⟩
      · have e := (if_neg q).symm.trans z
        cases e
    · by_cases q : b = a
      · exact ⟨q, hk⟩
      · exact absurd (if_neg q) z
theorem walkG {l : PySem.W.OpenLaw} {n k : Nat} {q : Program} {loose : List Str} {XP : (Str → Option Value) → Heap → Prop} {YP : World → Heap → Prop} {d : DefRec} {K : Params → PySem.W.Frag} {sp : World → Sp} {x : Str}
    (hn : l.most = some n) (hn2 : n ≤ sizeLine) (hdf : d.params.defaults = []) (hr : Room k callerA) (hY : ∀ (w : World) (h : Heap), YP w h → (K w.params).In h)
    (F : ∀ (w : World) (mg : Str → Option Value) (fa : Addr) (h : Heap), (K w.params).In h → h.Ns mainGlobals mg → mg d.name = some (.ref fa) →
      ∃ fd : FuncData, (∀ (s : Shared) (u : Value), BindsTo s fd ⟨[u], []⟩ [(x, u)]) ∧ ∀ base : Heap, (K w.params).In base → base.Ns mainGlobals mg → FnG l.prog w (K w.params) mg base k fa fd [x] (sp w))
    (hsp : ∀ (w : World) (H : Hp) (a : Addr) (ns : List Int), ns.length ≤ n → Only H → SqL (K w.params) H a (ns.map V.int) → sp w [.ref a] H (fun v _ => v = .bl true) E0) :
    PySem.W.WalkO q loose XP YP l.row.toRowW d [] (fun f vs => PySem.call f vs) := by
  refine Att.attach_call hn hdf ?_
  intro w s₀ s₁ mg mb fa o pm cd doc a vs ns G Y _ _ _ hmg hobj hints hlen hg
  have KX := hY w _ Y
  obtain ⟨fd, hb, hF⟩ := F w mg fa _ KX G.T.g hmg
  exact law_callG KX G.T.g G.T.b G.T.builtins G.T.nolimit hg hobj hints (Nat.le_trans hlen hn2) hr hF hb fun H only seq => hsp w H a ns hlen only seq
end K01
namespace K01
open PySem PySem.Spec PyProof.Rows L2
/-! ### the law's own defs -/
abbrev sCell : Stmt := top 14
abbrev sMixed : Stmt := top 15
abbrev sSource : Stmt := top 16
abbrev sNext : Stmt := top 17
abbrev sLowered : Stmt := top 19
abbrev sNumber : Stmt := top 20
abbrev sRefused : Stmt := top 21
abbrev sTwo : Stmt := top 22
abbrev sOrder : Stmt := top 23
abbrev sLaw : Stmt := top 24
/-- the builtins that the law asks by name -/
structure TxtB (mg : Str → Option Value) : Prop where
  len : mg "len" = none
  abs : mg "abs" = none
  range : mg "range" = none
  max : mg "max" = none
  min : mg "min" = none
  int : mg "int" = none
  all : mg "all" = none
  isi : mg "isinstance" = none
  repr : mg "repr" = none
/-- all but p stays -/
def But (p : Addr) (H H' : Hp) : Prop := ∀ b o, b ≠ p → H b = some o → H' b = some o
theorem But.trans {p : Addr} {H H1 H2 : Hp} (a : But p H H1) (b : But p H1 H2) : But p H H2 := fun c o h e => b c o h (a c o h e)
theorem But.upd {p : Addr} {H : Hp} {o : HO} : But p H (upd H p o) := fun b u h e => by rw [upd_ne h]; exact e
theorem Same.but {p : Addr} {H H' : Hp} (s : Same H H') : But p H H' := fun b o _ e => s b o e
theorem But.free {p q : Addr} {H H' : Hp} (h : But p H H') (hq : q ≠ p) (e : H' q = none) : H q = none := by
  cases z : H q with
  | none => rfl
  | some o =>
    rw [h q o hq z] at e
    cases e
def spCell (K : PySem.W.Frag) : Sp := fun vs H Q _ => ∃ (a : Addr) (ns : List Int) (k : Int), vs = [.ref a, .int k] ∧ SqL K H a (ns.map V.int) ∧ ns.length ≤ 63 ∧ 0 ≤ k ∧ ∀ c, Q (.int c) H
def spMixed : Sp := fun vs H Q _ => ∃ c k : Int, vs = [.int c, .int k] ∧ 0 ≤ k ∧ k < 2 ^ 40 ∧ ∀ r : Int, 0 ≤ r → Q (.int r) H
def spSource (K : PySem.W.Frag) : Sp := fun vs H Q _ => ∃ (a : Addr) (ns : List Int) (k : Int), vs = [.ref a, .int k] ∧ SqL K H a (ns.map V.int) ∧ ns.length ≤ 63 ∧ 0 ≤ k ∧ k < 100 ∧
  ∀ (p : Addr) (x y : Int), H p = none → Q (.ref p) (upd H p (.lst [.int x, .int y, .int 0]))
def spNext : Sp := fun vs H Q _ => ∃ (p : Addr) (m x y z : Int), vs = [.ref p, .int m] ∧ H p = some (.lst [.int x, .int y, .int z]) ∧ 0 < m ∧ m.natAbs < 2 ^ 90 ∧ 0 ≤ z ∧ z < 2 ^ 30 ∧
  ∀ (d x' z' : Int), 0 ≤ d → d < m → 0 ≤ z' → z' ≤ z + 1 → Q (.int d) (upd H p (.lst [.int x', .int y, .int z']))
theorem mod31 (x : Int) {m : Int} (h0 : 0 < m) (h : m ≤ 2 ^ 64) : -(2 ^ 64) < x % m ∧ x % m < 2 ^ 64 := by
  have a := Int.emod_nonneg x (show m ≠ 0 by omega)
  have b := Int.emod_lt_of_pos x h0
  omega
theorem at_k {xs : List V} {k : Int} {v : V} (h0 : 0 ≤ k) (h : xs[k.toNat]? = some v) : atI xs k = some v := by
  have e := atI_nat h
  rw [Int.toNat_of_nonneg h0] at e
  exact e
section
variable {P : Program} {w : World} {K : PySem.W.Frag} {mg : Str → Option Value} {base : Heap}
theorem scCell : FnScope ["script", "k"] ["script", "k"] (defScope sCell) := ⟨rfl, rfl, rfl, by decide +kernel, rfl, by decide +kernel, by decide +kernel⟩
theorem ok_cell {f : Addr} {fd : FuncData} (F : Fun K "_law_cell_at" "_law_cell_at" sCell f fd) (B : TxtB mg) : FnOk P w K mg base CX0 1 f fd ["script", "k"] (spCell K) := by
  refine F.ok scCell (fun vs H Q E h => ?_) (fun cdv A outer s H vs Q E hr h => ?_)
  · obtain ⟨a, ns, k, rfl, _⟩ := h
    rfl
  · obtain ⟨a, ns, k, rfl, hs, hl, h0, kq⟩ := h
    refine ⟨_, pss_cons (ps_if (pt_cmpR op_lt (pv 1) (pe_callB call_len_seq (by rfl) B.len PySem.boot_len (pa_cons (pv 0) pa_nil)) (nomark _)) (pss_one (ps_ret (pe_ix ix_list (pv 0) (pv 1) (fun _ _ => rfl)))) pss_nil)
      (pss_one (ps_ret pe_int)), ?_⟩
    refine ⟨_, rfl, _, rfl, a, _, rfl, .inl hs, _, _, rfl, rfl, _, rfl, ?_⟩
    refine ite2 (fun h => ?_) (fun h => kq 0)
    have h : k < ((ns.map V.int).length : Int) := of_decide_eq_true h
    rw [List.length_map] at h
    have hk : k.toNat < ns.length := by omega
    refine ⟨_, rfl, _, rfl, a, _, _, _, rfl, rfl, hs, at_k (v := V.int (ns[k.toNat])) h0 (by simp [hk]), kq _⟩
theorem scMixed : FnScope ["cell", "k", "low"] ["cell", "k"] (defScope sMixed) := ⟨rfl, rfl, rfl, by decide +kernel, rfl, by decide +kernel, by decide +kernel⟩
theorem ok_mixed {f : Addr} {fd : FuncData} (F : Fun K "_law_mixed" "_law_mixed" sMixed f fd) : FnOk P w K mg base CX0 1 f fd ["cell", "k"] spMixed := by
  refine F.ok scMixed (fun vs H Q E h => ?_) (fun cdv A outer s H vs Q E hr h => ?_)
  · obtain ⟨c, k, rfl, _⟩ := h
    rfl
  · obtain ⟨c, k, rfl, h0, h1, kq⟩ := h
    refine ⟨_, pss_cons (ps_set (i := 2) scMixed.nd rfl (Or.inl rfl) (pe_op op_add (pe_op op_mod (pv 0) pe_int) (pe_op op_mul (pe_op op_fdivW (pv 0) pe_int) pe_int)))
      (pss_cons (ps_set (i := 2) scMixed.nd rfl (Or.inl rfl) (pe_op op_mod (pe_op op_mul (pe_op op_add (pe_op op_add (pv 2) (pe_op op_mul pe_int (pv 1))) pe_int) pe_int) pe_int))
      (pss_cons (ps_set (i := 2) scMixed.nd rfl (Or.inl rfl) (pe_op op_mod (pe_op op_mul (pv 2) (pe_op op_add (pe_op op_add (pe_op op_fdivW (pv 2) pe_int) pe_int) (pv 1))) pe_int))
      (pss_one (ps_ret (pe_op op_mod (pe_op op_mul (pv 2) (pe_op op_add (pe_op op_fdivW (pv 2) pe_int) pe_int)) pe_int))))), ?_⟩
    refine ⟨_, rfl, _, _, rfl, rfl, (by show (0 : Int) < 2147483629; decide), _, rfl, _, _, rfl, rfl, ⟨by decide, by decide +kernel⟩, _, _, rfl, rfl, .inr ⟨by decide, by decide⟩, _, _, rfl, rfl, ?_⟩
    refine ⟨_, rfl, _, rfl, _, _, rfl, rfl, .inl ⟨by decide, by decide⟩, _, _, rfl, rfl, _, _, rfl, rfl, _, _, rfl, rfl, .inr ⟨by decide, by decide⟩, _, _, rfl, rfl, (by show (0 : Int) < 2147483629; decide), ?_⟩
    refine ⟨_, rfl, _, rfl, _, _, rfl, rfl, ⟨by decide, by decide +kernel⟩, _, _, rfl, rfl, _, rfl, _, _, rfl, rfl, _, _, rfl, rfl, .inl (mod31 _ (by decide) (by decide)), _, _, rfl, rfl, (by show (0 : Int) < 2147483587; decide), ?_⟩
    refine ⟨_, rfl, _, rfl, _, _, rfl, rfl, ⟨by decide, by decide +kernel⟩, _, _, rfl, rfl, _, _, rfl, rfl, .inl (mod31 _ (by decide) (by decide)), _, _, rfl, rfl, (by show (0 : Int) < 2147483563; decide), ?_⟩
    exact kq _ (Int.emod_nonneg _ (by decide))
theorem scSource : FnScope ["script", "k", "cell"] ["script", "k"] (defScope sSource) := ⟨rfl, rfl, rfl, by decide +kernel, rfl, by decide +kernel, by decide +kernel⟩
theorem ok_source {f fC fM : Addr} {fd fdC fdM : FuncData} (F : Fun K "_law_source" "_law_source" sSource f fd) (B : TxtB mg)
    (GC : FnOk P w K mg base CX0 1 fC fdC ["script", "k"] (spCell K)) (mC : mg "_law_cell_at" = some (.ref fC)) (kC : PySem.W.keepIn K (.ref fC) = true) (bC : Binds K fdC ["script", "k"] [])
    (GM : FnOk P w K mg base CX0 1 fM fdM ["cell", "k"] spMixed) (mM : mg "_law_mixed" = some (.ref fM)) (kM : PySem.W.keepIn K (.ref fM) = true) (bM : Binds K fdM ["cell", "k"] []) :
    FnOk P w K mg base CX0 2 f fd ["script", "k"] (spSource K) := by
  refine F.ok scSource (fun vs H Q E h => ?_) (fun cdv A outer s H vs Q E hr h => ?_)
  · obtain ⟨a, ns, k, rfl, _⟩ := h
    rfl
  · obtain ⟨a, ns, k, rfl, hs, hl, h0, h1, kq⟩ := h
    refine ⟨_, pss_cons (ps_if (pt_cmpR op_lt (pv 1) (pe_callB call_len_seq (by rfl) B.len PySem.boot_len (pa_cons (pv 0) pa_nil)) (nomark _))
        (pss_one (ps_ret (pe_lst (pa_cons (pe_ix ix_list (pv 0) (pv 1) (fun _ _ => rfl)) (pa_cons (pe_ix ix_list (pv 0) (pv 1) (fun _ _ => rfl)) (pa_cons pe_int pa_nil)))))) pss_nil)
      (pss_cons (ps_set (i := 2) scSource.nd rfl (Or.inl rfl) (pe_call GM hr rfl mM kM bM .nil pass0 (pa_cons (pe_call GC hr rfl mC kC bC .nil pass0 (pa_cons (pv 0) (pa_cons pe_int pa_nil))) (pa_cons (pe_op op_add pe_int (pv 1)) pa_nil))))
      (pss_one (ps_ret (pe_lst (pa_cons (pv 2) (pa_cons (pv 2) (pa_cons pe_int pa_nil))))))), ?_⟩
    refine ⟨_, rfl, _, rfl, a, _, rfl, .inl hs, _, _, rfl, rfl, _, rfl, ?_⟩
    refine ite2 (fun h => ?_) (fun h => ?_)
    · have h : k < ((ns.map V.int).length : Int) := of_decide_eq_true h
      rw [List.length_map] at h
      have hk : k.toNat < ns.length := by omega
      refine ⟨_, rfl, _, rfl, a, _, _, _, rfl, rfl, hs, at_k (v := V.int (ns[k.toNat])) h0 (by simp [hk]), ?_⟩
      refine ⟨_, rfl, _, rfl, a, _, _, _, rfl, rfl, hs, at_k (v := V.int (ns[k.toNat])) h0 (by simp [hk]), (by show 3 ≤ sizeLine; decide), fun p hp => kq p _ _ hp⟩
    · refine ⟨_, rfl, a, ns, 0, rfl, hs, hl, by decide, fun c => ?_⟩
      refine ⟨_, rfl, _, _, rfl, rfl, c, 1000 + k, rfl, by omega, by omega, fun r hr0 => ?_⟩
      exact ⟨_, rfl, _, rfl, (by show 3 ≤ sizeLine; decide), fun p hp => kq p _ _ hp⟩
theorem scNext : FnScope ["source", "many", "found"] ["source", "many"] (defScope sNext) := ⟨rfl, rfl, rfl, by decide +kernel, rfl, by decide +kernel, by decide +kernel⟩
theorem ok_next {f fM : Addr} {fd fdM : FuncData} (F : Fun K "_law_next" "_law_next" sNext f fd)
    (GM : FnOk P w K mg base CX0 1 fM fdM ["cell", "k"] spMixed) (mM : mg "_law_mixed" = some (.ref fM)) (kM : PySem.W.keepIn K (.ref fM) = true) (bM : Binds K fdM ["cell", "k"] []) :
    FnOk P w K mg base CX0 2 f fd ["source", "many"] spNext := by
  refine F.ok scNext (fun vs H Q E h => ?_) (fun cdv A outer s H vs Q E hr h => ?_)
  · obtain ⟨p, m, x, y, z, rfl, _⟩ := h
    rfl
  · obtain ⟨p, m, x, y, z, rfl, hp, m0, mb, z0, zb, kq⟩ := h
    refine ⟨_, pss_cons (ps_if (pt_cmpR op_ge (pe_ix ix_list (pv 0) pe_int (fun _ _ => rfl)) (pe_op op_pow pe_int pe_int) (nomark _))
        (pss_cons (ps_set (i := 2) scNext.nd rfl (Or.inl rfl) (pe_op op_mod (pe_ix ix_list (pv 0) pe_int (fun _ _ => rfl)) (pv 1)))
        (pss_cons (ps_asg (pe_op op_fdivW (pe_ix ix_list (pv 0) pe_int (fun _ _ => rfl)) (pv 1)) (pg_sub (pv 0) pe_int set_list))
        (pss_one (ps_ret (pv 2))))) pss_nil)
      (pss_cons (ps_asg (pe_op op_add (pe_ix ix_list (pv 0) pe_int (fun _ _ => rfl)) pe_int) (pg_sub (pv 0) pe_int set_list))
      (pss_one (ps_ret (pe_op op_mod (pe_call GM hr rfl mM kM bM .nil pass0 (pa_cons (pe_ix ix_list (pv 0) pe_int (fun _ _ => rfl)) (pa_cons (pe_ix ix_list (pv 0) pe_int (fun _ _ => rfl)) pa_nil))) (pv 1))))), ?_⟩
    refine ⟨_, rfl, p, _, _, _, rfl, rfl, SqL.of hp, at_k (by decide) rfl, _, _, rfl, rfl, ⟨by decide, by decide, by decide⟩, _, _, rfl, rfl, _, rfl, ?_⟩
    refine ite2 (fun h => ?_) (fun h => ?_)
    · refine ⟨_, rfl, p, _, _, _, rfl, rfl, SqL.of hp, at_k (by decide) rfl, _, rfl, _, _, rfl, rfl, m0, ?_⟩
      refine ⟨_, rfl, p, _, _, _, rfl, rfl, SqL.of hp, at_k (by decide) rfl, _, rfl, _, _, rfl, rfl, wide_div m0 mb (by decide) (by decide), ?_⟩
      refine ⟨_, rfl, p, _, _, 0, rfl, rfl, hp, rfl, ?_⟩
      exact ⟨_, rfl, kq _ _ _ (Int.emod_nonneg _ (by omega)) (Int.emod_lt_of_pos _ m0) z0 (by omega)⟩
    · refine ⟨_, rfl, p, _, _, _, rfl, rfl, SqL.of hp, at_k (by decide) rfl, _, _, rfl, rfl, ?_⟩
      refine ⟨_, rfl, p, _, _, 2, rfl, rfl, hp, rfl, ?_⟩
      refine ⟨_, rfl, p, _, _, _, rfl, rfl, SqL.of upd_same, at_k (by decide) rfl, _, rfl, p, _, _, _, rfl, rfl, SqL.of upd_same, at_k (by decide) rfl, y, z + 1, rfl, by omega, by omega, fun r hr0 => ?_⟩
      exact ⟨_, rfl, _, _, rfl, rfl, m0, kq _ _ _ (Int.emod_nonneg _ (by omega)) (Int.emod_lt_of_pos _ m0) (by omega) (by omega)⟩
end
end K01
namespace K01
open PySem PySem.Spec PyProof.Rows L2
def spLowered : Sp := fun vs H Q _ => ∃ a b : Int, vs = [.int a, .int b] ∧ b ≠ 0 ∧ a.natAbs < 2 ^ 4000 ∧ b.natAbs < 2 ^ 4000 ∧
  ∀ p : Addr, H p = none → Q (.ref p) (upd H p (.tup [.int (lowT a b), .int (lowB a b)]))
def spNumber : Sp := fun vs H Q _ => ∃ (p : Addr) (x y z : Int), vs = [.ref p] ∧ H p = some (.lst [.int x, .int y, .int z]) ∧ 0 ≤ z ∧ z < 2 ^ 29 ∧
  ∀ (H' : Hp) (n x' z' : Int), But p H H' → H' p = some (.lst [.int x', .int y, .int z']) → 0 ≤ z' → z' ≤ z + 4 → n.natAbs < 2 ^ 172 → Q (.int n) H'
def spRefused (C : Addr) : Sp := fun vs H Q _ => ∃ (x : Addr) (t b : Int), vs = [.ref x] ∧ ShAt C H x t b ∧ t.natAbs < 2 ^ 1000 ∧ b.natAbs < 2 ^ 1000 ∧ b ≠ 0 ∧ ∀ H', Same H H' → Q (.bl true) H'
def leftOf : L2.St → Nat
  | [_, _, _, some (.int l)] => l.toNat
  | _ => 0
theorem absV (i : Int) : (if i < 0 then -i else i) = ((i.natAbs : Nat) : Int) := by split <;> omega
section
variable {P : Program} {w : World} {K : PySem.W.Frag} {mg : Str → Option Value} {base : Heap}
theorem scLowered : FnScope ["one", "other", "high", "low"] ["one", "other"] (defScope sLowered) := ⟨rfl, rfl, rfl, by decide +kernel, rfl, by decide +kernel, by decide +kernel⟩
theorem ok_lowered {f : Addr} {fd : FuncData} (F : Fun K "_law_lowered" "_law_lowered" sLowered f fd) (B : TxtB mg) : FnOk P w K mg base CX0 1 f fd ["one", "other"] spLowered := by
  refine F.ok scLowered (fun vs H Q E h => ?_) (fun cdv A outer s H vs Q E hr h => ?_)
  · obtain ⟨a, b, rfl, _⟩ := h
    rfl
  · obtain ⟨a, b, rfl, hb, sa, sb, kq⟩ := h
    refine ⟨_, pss_cons (ps_par (i := 2) (j := 3) rfl scLowered.nd rfl rfl (by decide) rfl rfl (pa_cons (pe_callB call_abs (by rfl) B.abs (by decide +kernel) (pa_cons (pv 0) pa_nil)) (pa_cons (pe_callB call_abs (by rfl) B.abs (by decide +kernel) (pa_cons (pv 1) pa_nil)) pa_nil)) (by rfl))
      (pss_cons (ps_while PassesOwn.never (pt_cmpR op_ne (pv 3) pe_int (nomark _)) (pss_one (ps_par (i := 2) (j := 3) rfl scLowered.nd rfl rfl (by decide) rfl rfl (pa_cons (pv 3) (pa_cons (pe_op op_mod (pv 2) (pv 3)) pa_nil)) (by rfl))))
      (pss_cons (ps_if (pt_cmpR op_lt (pv 1) pe_int (nomark _)) (pss_one (ps_set (i := 2) scLowered.nd rfl (Or.inl rfl) (pe_op op_sub pe_int (pv 2)))) pss_nil)
      (pss_one (ps_ret (pe_tup (pa_cons (pe_op op_fdivX (pv 0) (pv 2)) (pa_cons (pe_op op_fdivX (pv 1) (pv 2)) pa_nil))))))), ?_⟩
    refine ⟨_, rfl, a, rfl, _, rfl, b, rfl, _, _, rfl, ?_⟩
    rw [absV, absV]
    refine while_by (fun σ H' => H' = H ∧ ∃ g l : Nat, σ = [some (.int a), some (.int b), some (.int (g : Int)), some (.int (l : Int))] ∧ Nat.gcd g l = Nat.gcd a.natAbs b.natAbs) (fun σ _ => leftOf σ) ⟨rfl, _, _, rfl, rfl⟩ ?_ ?_
    · rintro σ H' ⟨rfl, g, l, rfl, hg⟩
      refine ⟨_, rfl, rfl, _, rfl, ?_⟩
      by_cases hl : l = 0
      · subst hl
        rw [show (!decide (V.int ((0 : Nat) : Int) = V.int 0)) = false from by simp]
        refine iteF ?_
        have ge : g = Nat.gcd a.natAbs b.natAbs := by rw [← hg, Nat.gcd_zero_right]
        refine ⟨_, rfl, _, _, rfl, rfl, _, rfl, ?_⟩
        have gs : (sg a b).natAbs < 2 ^ 4000 := Nat.lt_of_le_of_lt (sg_le hb) sb
        refine ite2 (fun hn => ?_) (fun hn => ?_)
        · have hn : b < 0 := of_decide_eq_true hn
          have e : 0 - (g : Int) = sg a b := by unfold sg; rw [if_pos hn, ge]; omega
          have g0 : 0 - (g : Int) ≠ 0 := by rw [e]; exact sg_ne hb
          have gd : ∀ i : Int, CDivX i (0 - (g : Int)) := fun i => big_div (b := 4000) g0 (by rw [e]; exact gs) (by decide) (by decide)
          refine ⟨_, rfl, _, _, rfl, rfl, ?_⟩
          refine ⟨_, rfl, _, rfl, _, _, rfl, rfl, gd _, _, rfl, _, rfl, _, _, rfl, rfl, gd _, (by show 2 ≤ sizeLine; decide), fun p hp => ?_⟩
          have z := kq p hp
          unfold lowT lowB at z
          rw [← e] at z
          exact z
        · have hn : ¬ b < 0 := fun q => hn (decide_eq_true q)
          have e : (g : Int) = sg a b := by unfold sg; rw [if_neg hn, ge]
          have g0 : (g : Int) ≠ 0 := by rw [e]; exact sg_ne hb
          have gd : ∀ i : Int, CDivX i (g : Int) := fun i => big_div (b := 4000) g0 (by rw [e]; exact gs) (by decide) (by decide)
          refine ⟨_, rfl, _, rfl, _, _, rfl, rfl, gd _, _, rfl, _, rfl, _, _, rfl, rfl, gd _, (by show 2 ≤ sizeLine; decide), fun p hp => ?_⟩
          have z := kq p hp
          unfold lowT lowB at z
          rw [← e] at z
          exact z
      · rw [show (!decide (V.int (l : Int) = V.int 0)) = true from by simp [hl]]
        refine iteT ?_
        refine ⟨_, rfl, _, rfl, _, rfl, _, _, rfl, rfl, (by show (0 : Int) < (l : Int); omega), _, _, rfl, ⟨rfl, l, g % l, ?_, ?_⟩, ?_⟩
        · show [some (V.int a), some (V.int b), some (V.int (l : Int)), some (V.int ((g : Int) % (l : Int)))] = _
          rw [Int.natCast_emod]
        · rw [← hg, Nat.gcd_comm g l, Nat.gcd_rec l g, Nat.gcd_comm]
        · show ((g : Int) % (l : Int)).toNat < ((l : Int)).toNat
          have h1 : (g : Int) % (l : Int) = ((g % l : Nat) : Int) := (Int.natCast_emod g l).symm
          rw [h1, Int.toNat_natCast, Int.toNat_natCast]
          exact Nat.mod_lt _ (by omega)
    · intro σ H' Q1 Q2 m h
      obtain ⟨v, e, hs, k, ek, q⟩ := h
      exact ⟨v, e, hs, k, ek, m _ _ q⟩
end
end K01
namespace K01
open PySem PySem.Spec PyProof.Rows L2
theorem p25 : (10 : Int) ^ (25 : Int).toNat = 10000000000000000000000000 := by decide +kernel
theorem six_of {small far : Int} (h1 : -12 ≤ small) (h2 : small ≤ 12) (h3 : far.natAbs < 2 ^ 168) {d : Int} (d0 : 0 ≤ d) (d6 : d < 6) :
    ∃ n : Int, ([V.int small, V.int small, V.int (small * 60), V.int far, V.int (0 - far), V.int (small * far)] : List V)[d.toNat]? = some (V.int n) ∧ n.natAbs < 2 ^ 172 := by
  have hs : small.natAbs < 2 ^ 4 := by omega
  have hs' : small.natAbs < 2 ^ 172 := pow_le hs (by decide)
  have hf : far.natAbs < 2 ^ 172 := pow_le h3 (by decide)
  have h : d = 0 ∨ d = 1 ∨ d = 2 ∨ d = 3 ∨ d = 4 ∨ d = 5 := by omega
  rcases h with rfl | rfl | rfl | rfl | rfl | rfl
  · exact ⟨_, rfl, hs'⟩
  · exact ⟨_, rfl, hs'⟩
  · exact ⟨_, rfl, pow_le (wide_lt (b := 6) hs (by decide)) (by decide)⟩
  · exact ⟨_, rfl, hf⟩
  · exact ⟨_, rfl, by omega⟩
  · exact ⟨_, rfl, wide_lt hs h3⟩
section
variable {P : Program} {w : World} {K : PySem.W.Frag} {mg : Str → Option Value} {base : Heap}
theorem scNumber : FnScope ["source", "small", "far"] ["source"] (defScope sNumber) := ⟨rfl, rfl, rfl, by decide +kernel, rfl, by decide +kernel, by decide +kernel⟩
theorem ok_number {f fN : Addr} {fd fdN : FuncData} (F : Fun K "_law_number" "_law_number" sNumber f fd)
    (GN : FnOk P w K mg base CX0 2 fN fdN ["source", "many"] spNext) (mN : mg "_law_next" = some (.ref fN)) (kN : PySem.W.keepIn K (.ref fN) = true) (bN : Binds K fdN ["source", "many"] []) :
    FnOk P w K mg base CX0 3 f fd ["source"] spNumber := by
  refine F.ok scNumber (fun vs H Q E h => ?_) (fun cdv A outer s H vs Q E hr h => ?_)
  · obtain ⟨p, x, y, z, rfl, _⟩ := h
    rfl
  · obtain ⟨p, x, y, z, rfl, hp, z0, zb, kq⟩ := h
    refine ⟨_, pss_cons (ps_set (i := 1) scNumber.nd rfl (Or.inl rfl) (pe_op op_sub (pe_call GN hr rfl mN kN bN .nil pass0 (pa_cons (pv 0) (pa_cons pe_int pa_nil))) pe_int))
      (pss_cons (ps_set (i := 2) scNumber.nd rfl (Or.inl rfl) (pe_op op_add (pe_op op_mulW (pe_call GN hr rfl mN kN bN .nil pass0 (pa_cons (pv 0) (pa_cons (pe_op op_pow pe_int pe_int) pa_nil))) (pe_op op_pow pe_int pe_int))
        (pe_call GN hr rfl mN kN bN .nil pass0 (pa_cons (pv 0) (pa_cons (pe_op op_pow pe_int pe_int) pa_nil)))))
      (pss_one (ps_ret (pe_ix ix_list (pe_lst (pa_cons (pv 1) (pa_cons (pv 1) (pa_cons (pe_op op_mul (pv 1) pe_int) (pa_cons (pv 2) (pa_cons (pe_op op_sub pe_int (pv 2)) (pa_cons (pe_op op_mul (pv 1) (pv 2)) pa_nil)))))))
        (pe_call GN hr rfl mN kN bN .nil pass0 (pa_cons (pv 0) (pa_cons pe_int pa_nil))) (fun _ _ => rfl))))), ?_⟩
    refine ⟨_, rfl, p, 25, x, y, z, rfl, hp, by decide, by decide, z0, by omega, fun d1 x1 z1 a1 b1 c1 e1 => ?_⟩
    refine ⟨_, _, rfl, rfl, ?_⟩
    refine ⟨_, rfl, _, _, rfl, rfl, ⟨by decide, by decide, by decide⟩, p, _, x1, y, z1, rfl, upd_same, by decide +kernel, by decide +kernel, c1, by omega, fun d2 x2 z2 a2 b2 c2 e2 => ?_⟩
    rw [p25] at b2
    refine ⟨_, _, rfl, rfl, ⟨by decide, by decide, by decide⟩, _, _, rfl, rfl, wide_mul (a := 84) (b := 84) (by omega) (by decide +kernel) (by decide) (by decide) (by decide), ?_⟩
    refine ⟨_, rfl, _, _, rfl, rfl, ⟨by decide, by decide, by decide⟩, p, _, x2, y, z2, rfl, upd_same, by decide +kernel, by decide +kernel, c2, by omega, fun d3 x3 z3 a3 b3 c3 e3 => ?_⟩
    rw [p25] at b3 ⊢
    refine ⟨_, _, rfl, rfl, ?_⟩
    have sm1 : -12 ≤ d1 - 12 := by omega
    have sm2 : d1 - 12 ≤ 12 := by omega
    have fb : (d2 * 10000000000000000000000000 + d3).natAbs < 2 ^ 168 := by omega
    refine ⟨_, rfl, _, rfl, _, rfl, _, _, rfl, rfl, .inl ⟨by omega, by omega⟩, _, rfl, _, rfl, _, _, rfl, rfl, _, rfl, _, rfl, _, _, rfl, rfl, .inl ⟨by omega, by omega⟩, (by show 6 ≤ sizeLine; decide), fun l hl => ?_⟩
    have lp : p ≠ l := fun e => by
      rw [← e, upd_same] at hl
      cases hl
    refine ⟨_, rfl, p, 6, x3, y, z3, rfl, (by rw [upd_ne lp]; exact upd_same), by decide, by decide, c3, by omega, fun d4 x4 z4 a4 b4 c4 e4 => ?_⟩
    obtain ⟨n, hn, nb⟩ := six_of sm1 sm2 fb a4 b4
    refine ⟨l, _, _, _, rfl, rfl, SqL.of (by rw [upd_ne (Ne.symm lp)]; exact upd_same), at_k a4 hn, ?_⟩
    refine kq _ n x4 z4 (fun b o hb e => ?_) upd_same c4 (by omega) nb
    have bl : b ≠ l := fun q => by
      rw [← q, upd_ne hb, upd_ne hb, upd_ne hb, e] at hl
      cases hl
    rw [upd_ne hb, upd_ne bl, upd_ne hb, upd_ne hb, upd_ne hb]
    exact e
theorem scRefused : FnScope ["one"] ["one"] (defScope sRefused) := ⟨rfl, rfl, rfl, by decide +kernel, rfl, by decide +kernel, by decide +kernel⟩
theorem ok_refused {f fO fI C CN : Addr} {fd fdO fdI : FuncData} (F : Fun K "_law_refused" "_law_refused" sRefused f fd) (T : Txt K mg C CN) (M : Mk K C fI)
    (GI : FnOk P w K mg base (L2.CX P w) 2 fI fdI ["self", "top", "bottom"] (spInit C CN)) (bI : Binds K fdI ["self", "top", "bottom"] [])
    (GO : FnOk P w K mg base (L2.CX P w) 4 fO fdO ["one", "other"] (spOver C CN)) (mO : mg "over" = some (.ref fO)) (kO : PySem.W.keepIn K (.ref fO) = true) (bO : Binds K fdO ["one", "other"] []) :
    FnOk P w K mg base CX0 5 f fd ["one"] (spRefused C) := by
  refine F.ok scRefused (fun vs H Q E h => ?_) (fun cdv A outer s H vs Q E hr h => ?_)
  · obtain ⟨x, t, b, rfl, _⟩ := h
    rfl
  · obtain ⟨x, t, b, rfl, ⟨dx, hx⟩, st, sb, nb, kq⟩ := h
    refine ⟨_, pss_cons (ps_try_only (tb := fun W => tDrop (tCallS (spOver C CN) (WE W) (tCons (tVar 0) (tCons (tMake C (spInit C CN) [] E0 (tCons (tC (.int 0)) (tCons (tC (.int 5)) tNil))) tNil))))
        (ts := fun _ _ _ => tRet (tC (.bl true))) (Wout := fun _ _ _ _ => False) rfl rfl ⟨rfl, by decide, Or.inl T.gN⟩ takes0
        (fun W pn xe tk _ => pss_one (ps_expr (pe_callS GO hr rfl mO kO bO (fun σ => passAt tk σ) (by exact (pa_cons (pv 0) (pa_cons (pe_make M GI (hr.mono (by decide)) rfl T.mgC bI .nil passL (pa_cons pe_int (pa_cons pe_int pa_nil))) pa_nil))))))
        (fun _ _ _ _ _ _ _ => pss_one (ps_ret pe_bl)))
      (pss_one (ps_ret pe_bl)), ?_⟩
    refine ⟨_, rfl, fun p dp np ndp nex => ?_⟩
    refine ⟨p, dp, 0, 5, rfl, upd_same, by decide +kernel, by decide +kernel, fun z => absurd z (by decide), fun _ H' e ka => ⟨rfl, ?_⟩⟩
    have sm : Same H H' := made_same (C := C) np ndp ka
    refine ⟨x, p, t, b, lowT 0 5, lowB 0 5, rfl, ⟨dx, sm _ _ hx⟩, ⟨dp, e⟩, st, sb, by decide +kernel, by decide +kernel, nb, fun _ H2 s2 => ?_, fun z => absurd (by decide +kernel) z⟩
    exact ⟨true, T.eN, fun _ a _ => kq _ (sm.trans s2), fun q => Bool.noConfusion q⟩
end
end K01
namespace K01
open PySem PySem.Spec PyProof.Rows L2
/-! ### two shares, looked at from all sides -/
/-- what isn't a list stays -/
def Keep (H H' : Hp) : Prop := ∀ b o, H b = some o → (∀ xs, o ≠ .lst xs) → H' b = some o
theorem same_keep {H H' : Hp} (s : Same H H') : Keep H H' := fun b o e _ => s b o e
theorem Keep.trans {H H1 H2 : Hp} (a : Keep H H1) (b : Keep H1 H2) : Keep H H2 := fun c o e n => b c o (a c o e n) n
theorem keep_lst {H : Hp} {D : Addr} {xs ys : List V} (h : H D = some (.lst xs)) : Keep H (upd H D (.lst ys)) := fun b o e n => by
  have ne : b ≠ D := fun z => by
    rw [z, h] at e
    exact n xs (Option.some.inj e).symm
  rw [upd_ne ne]
  exact e
theorem same_new {H : Hp} {p : Addr} {o : HO} (h : H p = none) : Same H (upd H p o) := fun b u e => by rw [upd_ne (ne_of_none e h)]; exact e
theorem ShAt.kept {C : Addr} {H H' : Hp} {p : Addr} {t b : Int} (h : ShAt C H p t b) (k : Keep H H') : ShAt C H' p t b := by
  obtain ⟨dx, e⟩ := h
  exact ⟨dx, k _ _ e fun _ z => nomatch z⟩
def DueAt (C : Addr) (H : Hp) (r : Addr) : Prop := ∃ (p q : Addr) (n e : Int), H r = some (.tup [.ref p, .ref q]) ∧ ShAt C H p (lowT n e) (lowB n e) ∧ H q = some (.tup [.int n, .int e]) ∧ e ≠ 0 ∧ n.natAbs < 2 ^ 4000 ∧ e.natAbs < 2 ^ 4000
theorem DueAt.kept {C : Addr} {H H' : Hp} {r : Addr} (h : DueAt C H r) (k : Keep H H') : DueAt C H' r := by
  obtain ⟨p, q, n, e, h1, h2, h3, h4⟩ := h
  exact ⟨p, q, n, e, k _ _ h1 (fun _ z => nomatch z), h2.kept k, k _ _ h3 (fun _ z => nomatch z), h4⟩
/-- the tuple of a share and of what it is due to be, just laid -/
theorem due_new {C : Addr} {H : Hp} {p q r : Addr} {n e : Int} (hp : ShAt C H p (lowT n e) (lowB n e)) (hq : H q = none) (hr : upd H q (.tup [.int n, .int e]) r = none) (he : e ≠ 0) (sn : n.natAbs < 2 ^ 4000) (se : e.natAbs < 2 ^ 4000) :
    DueAt C (upd (upd H q (.tup [.int n, .int e])) r (.tup [.ref p, .ref q])) r ∧ Same H (upd (upd H q (.tup [.int n, .int e])) r (.tup [.ref p, .ref q])) := by
  have s1 : Same H (upd H q (.tup [.int n, .int e])) := same_new hq
  have s2 : Same (upd H q (.tup [.int n, .int e])) (upd (upd H q (.tup [.int n, .int e])) r (.tup [.ref p, .ref q])) := same_new hr
  refine ⟨⟨p, q, n, e, upd_same, (hp.mono s1).mono s2, s2 _ _ upd_same, he, sn, se⟩, s1.trans s2⟩
def spTwoRight (K : PySem.W.Frag) : Sp := fun vs H Q _ => ∃ (o1 o2 : Addr) (a b c d : Int), vs = [.ref o1, .ref o2] ∧ H o1 = some (.tup [.int a, .int b]) ∧ H o2 = some (.tup [.int c, .int d]) ∧ b ≠ 0 ∧ d ≠ 0 ∧
  a.natAbs < 2 ^ 180 ∧ b.natAbs < 2 ^ 180 ∧ c.natAbs < 2 ^ 180 ∧ d.natAbs < 2 ^ 180 ∧ ∀ H', Same H H' → Q (.bl true) H'
/-- the defs that are called, by what they promise -/
structure Defs (P : Program) (w : World) (K : PySem.W.Frag) (mg : Str → Option Value) (base : Heap) (C CN : Addr) : Prop where
  T : Txt K mg C CN
  TI : TxtI K C
  B : TxtB mg
  O : Odds K C
  hne : PySem.W.findIn K (.ref C) "__ne__" = some (some (.builtin "object.__ne__"))
  hob : PySem.W.subIn K (.ref C) (.type "object") = some true
  init : ∃ f fd, Mk K C f ∧ FnOk P w K mg base (L2.CX P w) 2 f fd ["self", "top", "bottom"] (spInit C CN) ∧ Binds K fd ["self", "top", "bottom"] [] ∧ ∃ u, Vals [.int 1] [u] ∧ Binds K fd ["self", "top", "bottom"] [u]
  eq : ∃ f fd, FnOk P w K mg base CX0 1 f fd ["self", "other"] (spEqS K C) ∧ Binds K fd ["self", "other"] [] ∧ PySem.W.findIn K (.ref C) "__eq__" = some (some (.ref f)) ∧ PySem.W.isFn K (.ref f) = true
  plus : ∃ f fd, FnOk P w K mg base CX0 4 f fd ["one", "other"] (spTwo C (fun t1 b1 t2 b2 => t1 * b2 + t2 * b1) (fun _ b1 _ b2 => b1 * b2)) ∧ mg "plus" = some (.ref f) ∧ PySem.W.keepIn K (.ref f) = true ∧ Binds K fd ["one", "other"] []
  minus : ∃ f fd, FnOk P w K mg base CX0 4 f fd ["one", "other"] (spTwo C (fun t1 b1 t2 b2 => t1 * b2 - t2 * b1) (fun _ b1 _ b2 => b1 * b2)) ∧ mg "minus" = some (.ref f) ∧ PySem.W.keepIn K (.ref f) = true ∧ Binds K fd ["one", "other"] []
  times : ∃ f fd, FnOk P w K mg base CX0 4 f fd ["one", "other"] (spTwo C (fun t1 _ t2 _ => t1 * t2) (fun _ b1 _ b2 => b1 * b2)) ∧ mg "times" = some (.ref f) ∧ PySem.W.keepIn K (.ref f) = true ∧ Binds K fd ["one", "other"] []
  over : ∃ f fd, FnOk P w K mg base (L2.CX P w) 4 f fd ["one", "other"] (spOver C CN) ∧ mg "over" = some (.ref f) ∧ PySem.W.keepIn K (.ref f) = true ∧ Binds K fd ["one", "other"] []
  less : ∃ f fd, FnOk P w K mg base CX0 1 f fd ["one", "other"] (spLess C) ∧ mg "less" = some (.ref f) ∧ PySem.W.keepIn K (.ref f) = true ∧ Binds K fd ["one", "other"] []
  lowered : ∃ f fd, FnOk P w K mg base CX0 1 f fd ["one", "other"] spLowered ∧ mg "_law_lowered" = some (.ref f) ∧ PySem.W.keepIn K (.ref f) = true ∧ Binds K fd ["one", "other"] []
theorem own_of {X : Cx} {C f : Addr} {fd : FuncData} (G : FnOk X.prog X.w X.K X.mg X.base CX0 1 f fd ["self", "other"] (spEqS X.K C)) (b : Binds X.K fd ["self", "other"] []) (h1 : PySem.W.findIn X.K (.ref C) "__eq__" = some (some (.ref f))) (h2 : PySem.W.isFn X.K (.ref f) = true) : OwnEq X 1 C f :=
  ⟨⟨fd, _, G, b⟩, h1, h2⟩
theorem nums2 (t b t' b' : Int) : PyData.eqv (.tuple [.int t, .int b]) (.tuple [.int t', .int b']) = (decide (t = t') && decide (b = b')) := by
  rw [PyData.eqv, PyData.eqvAll, PyData.eqvAll, PyData.eqvAll, PyData.eqv, PyData.eqv]
  rw [Bool.eq_iff_iff]
  simp
end K01
namespace K01
open PySem PySem.Spec PyProof.Rows L2
section
variable {P : Program} {w : World} {K : PySem.W.Frag} {mg : Str → Option Value} {base : Heap}
abbrev twoN : List Str := ["one", "other", "a", "b", "c", "d", "mine", "its", "dues", "told", "due", "low"]
theorem scTwo : FnScope twoN ["one", "other"] (defScope sTwo) := ⟨rfl, rfl, rfl, by decide +kernel, rfl, by decide +kernel, by decide +kernel⟩
theorem iteFc {c : Bool} {A B : Prop} (hc : c = false) (h : B) : if c = true then A else B := by
  rw [hc]
  exact iteF h
theorem bools_shown (p q : Bool) : (PyData.list [.bool p, .bool q]).shown.length ≤ sizeLine := by cases p <;> cases q <;> decide +kernel
theorem bools_deep (p q : Bool) : (PyData.list [.bool p, .bool q]).depth + 1 ≤ 64 := by cases p <;> cases q <;> decide +kernel
theorem ref_at {rs : List Addr} {i : Nat} {v : V} (h : (rs.map V.ref)[i]? = some v) : ∃ r, r ∈ rs ∧ v = V.ref r := by
  rw [List.getElem?_map] at h
  cases e : rs[i]? with
  | none =>
    rw [e] at h
    cases h
  | some r =>
    rw [e] at h
    exact ⟨r, List.mem_of_getElem? e, (Option.some.inj h).symm⟩
theorem nat0 {i : Int} {k : Nat} (h : i.natAbs < 2 ^ k) {m : Nat} (hm : k ≤ m) : i.natAbs < 2 ^ m := pow_le h hm
theorem ok_two {f C CN : Addr} {fd : FuncData} (F : Fun K "_law_two_right" "_law_two_right" sTwo f fd) (Z : Defs P w K mg base C CN) : FnG P w K mg base 6 f fd ["one", "other"] (spTwoRight K) := by
  obtain ⟨fI, fdI, M, GI, bI, _⟩ := Z.init
  obtain ⟨fE, fdE, GE, bE, aE, iE⟩ := Z.eq
  obtain ⟨fP, fdP, GP, mP, kP, bP⟩ := Z.plus
  obtain ⟨fS, fdS, GS, mS, kS, bS⟩ := Z.minus
  obtain ⟨fT, fdT, GT, mT, kT, bT⟩ := Z.times
  obtain ⟨fO, fdO, GO, mO, kO, bO⟩ := Z.over
  obtain ⟨fL, fdL, GL, mL, kL, bL⟩ := Z.less
  obtain ⟨fW, fdW, GW, mW, kW, bW⟩ := Z.lowered
  have T := Z.T
  have TI := Z.TI
  refine okG F scTwo (fun vs H Q E h => ?_) (fun cdv A outer s H vs Q E hr hgu h => ?_)
  · obtain ⟨o1, o2, a, b, c, d, rfl, _⟩ := h
    rfl
  · obtain ⟨o1, o2, a, b, c, d, rfl, h1, h2, nb, nd, sa, sb, sc, sd, kq⟩ := h
    have r4 : Room 4 _ := hr.mono (by decide)
    have r3 : Room 3 _ := hr.mono (by decide)
    have r1 : Room 1 _ := hr.mono (by decide)
    have own : OwnEq (cxOf CX0 P w K mg base twoN "_law_two_right" (defScope sTwo) f cdv A outer s H E).nox 1 C fE := own_of GE bE aE iE
    refine ⟨_, pss_cons (ps_asg (pv 0) (pg_tup (by rfl) (pgs_cons (pg_name (i := 2) scTwo.nd rfl (.inl rfl)) (pgs_cons (pg_name (i := 3) scTwo.nd rfl (.inl rfl)) pgs_nil))))
      (pss_cons (ps_asg (pv 1) (pg_tup (by rfl) (pgs_cons (pg_name (i := 4) scTwo.nd rfl (.inl rfl)) (pgs_cons (pg_name (i := 5) scTwo.nd rfl (.inl rfl)) pgs_nil))))
      (pss_cons (ps_par (i := 6) (j := 7) rfl scTwo.nd rfl rfl (by decide) rfl rfl (pa_cons (pe_make M GI r3 rfl T.mgC bI .nil passL (pa_cons (pv 2) (pa_cons (pv 3) pa_nil))) (pa_cons (pe_make M GI r3 rfl T.mgC bI .nil passL (pa_cons (pv 4) (pa_cons (pv 5) pa_nil))) pa_nil)) (by rfl))
      (pss_cons (ps_set (i := 8) scTwo.nd rfl (Or.inl rfl) (pe_lst
        (pa_cons (pe_tup (pa_cons (pe_call GP r4 rfl mP kP bP .nil pass0 (pa_cons (pv 6) (pa_cons (pv 7) pa_nil))) (pa_cons (pe_tup (pa_cons (pe_op op_add (pe_op op_mulW (pv 2) (pv 5)) (pe_op op_mulW (pv 4) (pv 3))) (pa_cons (pe_op op_mulW (pv 3) (pv 5)) pa_nil))) pa_nil)))
        (pa_cons (pe_tup (pa_cons (pe_call GS r4 rfl mS kS bS .nil pass0 (pa_cons (pv 6) (pa_cons (pv 7) pa_nil))) (pa_cons (pe_tup (pa_cons (pe_op op_sub (pe_op op_mulW (pv 2) (pv 5)) (pe_op op_mulW (pv 4) (pv 3))) (pa_cons (pe_op op_mulW (pv 3) (pv 5)) pa_nil))) pa_nil))) pa_nil))))
      (pss_cons (ps_expr (pe_bm PySem.F.plainAttrs_list PySem.F.slot_list_append PySem.F.type_list_append mt_append (pv 8) (pa_cons
        (pe_tup (pa_cons (pe_call GT r4 rfl mT kT bT .nil pass0 (pa_cons (pv 6) (pa_cons (pv 7) pa_nil))) (pa_cons (pe_tup (pa_cons (pe_op op_mulW (pv 2) (pv 4)) (pa_cons (pe_op op_mulW (pv 3) (pv 5)) pa_nil))) pa_nil))) pa_nil)))
      (C8.pss_cut (ps_if (pt_cmpR op_ne (pv 4) pe_int (nomark _)) (pss_one (ps_expr (pe_bm PySem.F.plainAttrs_list PySem.F.slot_list_append PySem.F.type_list_append mt_append (pv 8) (pa_cons
        (pe_tup (pa_cons (pe_call GO r4 rfl mO kO bO .nil passL (pa_cons (pv 6) (pa_cons (pv 7) pa_nil))) (pa_cons (pe_tup (pa_cons (pe_op op_mulW (pv 2) (pv 5)) (pa_cons (pe_op op_mulW (pv 3) (pv 4)) pa_nil))) pa_nil))) pa_nil)))) pss_nil)
      (pss_cons (ps_for PassesOwn.never rfl (pi_list (pv 8)) (pg_tup (by rfl) (pgs_cons (pg_name (i := 9) scTwo.nd rfl (.inl rfl)) (pgs_cons (pg_name (i := 10) scTwo.nd rfl (.inl rfl)) pgs_nil)))
        (pss_one (ps_if (PW.pt (pw_or (pt_not (pt_val (pe_callB call_isi (by rfl) T.isi (by decide +kernel) (pa_cons (pv 9) (pa_cons (pe_glob (v := .ref C) rfl T.mgC rfl) pa_nil)))))
            (pw_or1 (pt_cmpR (op_neD r4.units) (pe_tup (pa_cons (pe_fld (pv 9) rfl) (pa_cons (pe_fld (pv 9) rfl) pa_nil))) (pe_call GW r1 rfl mW kW bW .nil pass0 (pa_cons (pe_ix ix_tup (pv 10) pe_int (fun _ _ => rfl)) (pa_cons (pe_ix ix_tup (pv 10) pe_int (fun _ _ => rfl)) pa_nil))) (nomark _)))))
          (pss_one (ps_ret pe_bl)) pss_nil)))
      (pss_cons (ps_if (PW.pt (pw_or (pt_cmpR op_ne (pe_cmpR (op_eqS own r1) (pv 6) (pv 7) (nomark _)) (pe_cmpR op_eq (pe_op op_mulW (pv 2) (pv 5)) (pe_op op_mulW (pv 4) (pv 3)) (nomark _)) (nomark _))
          (pw_or1 (pt_cmpR (op_inS own Z.O r3) (pv 6) (pe_lst (pa_cons (pe_tup (pa_cons (pe_fld (pv 6) rfl) (pa_cons (pe_fld (pv 6) rfl) pa_nil))) (pa_cons (pv 2) (pa_cons pe_non pa_nil)))) (by rfl)))))
        (pss_one (ps_ret pe_bl)) pss_nil)
      (pss_cons (ps_set (i := 11) scTwo.nd rfl (Or.inl rfl) (pe_ix ix_tup (pe_call GW r1 rfl mW kW bW .nil pass0 (pa_cons (pe_op op_sub (pe_op op_mulW (pv 2) (pv 5)) (pe_op op_mulW (pv 4) (pv 3))) (pa_cons (pe_op op_mulW (pv 3) (pv 5)) pa_nil))) pe_int (fun _ _ => rfl)))
      (pss_one (ps_ret (pe_cmpR op_eq (pe_callB (call_repr hgu) (by rfl) Z.B.repr (by decide +kernel) (pa_cons (pe_lst (pa_cons (pe_call GL r1 rfl mL kL bL .nil pass0 (pa_cons (pv 6) (pa_cons (pv 7) pa_nil))) (pa_cons (pe_call GL r1 rfl mL kL bL .nil pass0 (pa_cons (pv 7) (pa_cons (pv 6) pa_nil))) pa_nil))) pa_nil))
        (pe_callB (call_repr hgu) (by rfl) Z.B.repr (by decide +kernel) (pa_cons (pe_lst (pa_cons (pe_cmpR op_lt (pv 11) pe_int (nomark _)) (pa_cons (pe_cmpR op_gt (pv 11) pe_int (nomark _)) pa_nil))) pa_nil)) (nomark _)))))))))))), ?_⟩
    have e1 : (lowT a b).natAbs < 2 ^ 180 := Nat.lt_of_le_of_lt (lowT_le nb) sa
    have e2 : (lowB a b).natAbs < 2 ^ 180 := Nat.lt_of_le_of_lt (lowB_le nb) sb
    have e3 : (lowT c d).natAbs < 2 ^ 180 := Nat.lt_of_le_of_lt (lowT_le nd) sc
    have e4 : (lowB c d).natAbs < 2 ^ 180 := Nat.lt_of_le_of_lt (lowB_le nd) sd
    have p1 : 0 < lowB a b := lowB_pos nb
    have p2 : 0 < lowB c d := lowB_pos nd
    have up : ∀ {i : Int}, i.natAbs < 2 ^ 180 → i.natAbs < 2 ^ 1000 := fun h => pow_le h (by decide)
    have u4 : ∀ {i : Int}, i.natAbs < 2 ^ 361 → i.natAbs < 2 ^ 4000 := fun h => pow_le h (by decide)
    have mul : ∀ {i j : Int}, i.natAbs < 2 ^ 180 → j.natAbs < 2 ^ 180 → CMulW i j := fun h1 h2 => wide_mul h1 h2 (by decide) (by decide) (by decide)
    have bd0 : b * d ≠ 0 := Int.mul_ne_zero nb nd
    have sbd : (b * d).natAbs < 2 ^ 4000 := pow_le (wide_lt sb sd) (by decide)
    refine ⟨_, rfl, o1, _, rfl, SqT.of h1, rfl, _, _, rfl, _, _, rfl, rfl, ?_⟩
    refine ⟨_, rfl, o2, _, rfl, SqT.of h2, rfl, _, _, rfl, _, _, rfl, rfl, ?_⟩
    refine ⟨_, rfl, _, rfl, fun x dx nx ndx nex => ⟨x, dx, a, b, rfl, upd_same, u4 (pow_le sa (by decide)), u4 (pow_le sb (by decide)), fun z => absurd z nb, fun _ H1 g1 k1 => ⟨rfl, ?_⟩⟩⟩
    have m1 : Same H H1 := made_same (C := C) nx ndx k1
    refine ⟨_, rfl, _, rfl, fun y dy ny ndy ney => ⟨y, dy, c, d, rfl, upd_same, u4 (pow_le sc (by decide)), u4 (pow_le sd (by decide)), fun z => absurd z nd, fun _ H2 g2 k2 => ⟨rfl, ?_⟩⟩⟩
    have m2 : Same H1 H2 := made_same (C := C) ny ndy k2
    have shx : ShAt C H2 x (lowT a b) (lowB a b) := ⟨dx, m2 _ _ g1⟩
    have shy : ShAt C H2 y (lowT c d) (lowB c d) := ⟨dy, g2⟩
    refine ⟨_, _, rfl, ?_⟩
    -- plus
    refine ⟨_, rfl, _, rfl, x, y, _, _, _, _, rfl, shx, shy, up e1, up e2, up e3, up e4, by omega, by omega, fun H3 q1 m3 nq1 sh3 => ?_⟩
    refine ⟨_, rfl, _, rfl, _, _, rfl, rfl, mul sa sd, _, rfl, _, rfl, _, _, rfl, rfl, mul sc sb, _, _, rfl, rfl, _, rfl, _, rfl, _, _, rfl, rfl, mul sb sd, (by show 2 ≤ sizeLine; decide), fun i1 hi1 => ⟨(by show 2 ≤ sizeLine; decide), fun r1' hr1' => ?_⟩⟩
    have sn1 : (a * d + c * b).natAbs < 2 ^ 4000 := u4 (add_lt (wide_lt sa sd) (wide_lt sc sb))
    have sn2 : (a * d - c * b).natAbs < 2 ^ 4000 := u4 (sub_lt (wide_lt sa sd) (wide_lt sc sb))
    have sn3 : (a * c).natAbs < 2 ^ 4000 := pow_le (wide_lt sa sc) (by decide)
    have sn4 : (a * d).natAbs < 2 ^ 4000 := pow_le (wide_lt sa sd) (by decide)
    have sn5 : (b * c).natAbs < 2 ^ 4000 := pow_le (wide_lt sb sc) (by decide)
    have v1 := val_plus (a := a) (b := b) (c := c) (d := d) nb nd
    have v2 := val_minus (a := a) (b := b) (c := c) (d := d) nb nd
    have v3 := val_times (a := a) (b := b) (c := c) (d := d) nb nd
    obtain ⟨du1, m4⟩ := due_new (C := C) (n := a * d + c * b) (e := b * d) (by rw [← v1.1, ← v1.2]; exact sh3) hi1 hr1' bd0 sn1 sbd
    generalize upd (upd H3 i1 (HO.tup [V.int (a * d + c * b), V.int (b * d)])) r1' (HO.tup [V.ref q1, V.ref i1]) = H4 at *
    have m4 : Same H3 H4 := m4
    have shx4 := (shx.mono m3).mono m4
    have shy4 := (shy.mono m3).mono m4
    -- minus
    refine ⟨_, rfl, _, rfl, x, y, _, _, _, _, rfl, shx4, shy4, up e1, up e2, up e3, up e4, by omega, by omega, fun H5 q2 m5 nq2 sh5 => ?_⟩
    refine ⟨_, rfl, _, rfl, _, _, rfl, rfl, mul sa sd, _, rfl, _, rfl, _, _, rfl, rfl, mul sc sb, _, _, rfl, rfl, _, rfl, _, rfl, _, _, rfl, rfl, mul sb sd, (by show 2 ≤ sizeLine; decide), fun i2 hi2 => ⟨(by show 2 ≤ sizeLine; decide), fun r2' hr2' => ?_⟩⟩
    obtain ⟨du2, m6⟩ := due_new (C := C) (n := a * d - c * b) (e := b * d) (by rw [← v2.1, ← v2.2]; exact sh5) hi2 hr2' bd0 sn2 sbd
    have du1' := (du1.kept (same_keep m5)).kept (same_keep m6)
    have shx6 := (shx4.mono m5).mono m6
    have shy6 := (shy4.mono m5).mono m6
    generalize upd (upd H5 i2 (HO.tup [V.int (a * d - c * b), V.int (b * d)])) r2' (HO.tup [V.ref q2, V.ref i2]) = H6 at *
    have m6 : Same H5 H6 := m6
    have m5 : Same H4 H5 := m5
    refine ⟨(by show 2 ≤ sizeLine; decide), fun D hD => ?_⟩
    have m7 : Same H6 (upd H6 D (.lst [.ref r1', .ref r2'])) := same_new hD
    have D0 : H D = none := by
      have mm := ((((m1.trans m2).trans m3).trans m4).trans m5).trans m6
      exact mm.free hD
    have atD : upd H6 D (.lst [.ref r1', .ref r2']) D = some (.lst [.ref r1', .ref r2']) := upd_same
    have du1'' := du1'.kept (same_keep m7)
    have du2' := du2.kept (same_keep m7)
    have shx7 := shx6.mono m7
    have shy7 := shy6.mono m7
    have mH7 : Same H (upd H6 D (.lst [.ref r1', .ref r2'])) := ((((((m1.trans m2).trans m3).trans m4).trans m5).trans m6).trans m7)
    generalize upd H6 D (HO.lst [V.ref r1', V.ref r2']) = H7 at *
    have m7 : Same H6 H7 := m7
    have mH7 : Same H H7 := mH7
    -- times
    refine ⟨_, rfl, .inl ⟨rfl, _, SqL.of atD⟩, ?_⟩
    refine ⟨_, rfl, _, rfl, x, y, _, _, _, _, rfl, shx7, shy7, up e1, up e2, up e3, up e4, by omega, by omega, fun H8 q3 m8 nq3 sh8 => ?_⟩
    refine ⟨_, rfl, _, rfl, _, _, rfl, rfl, mul sa sc, _, rfl, _, rfl, _, _, rfl, rfl, mul sb sd, (by show 2 ≤ sizeLine; decide), fun i3 hi3 => ⟨(by show 2 ≤ sizeLine; decide), fun r3' hr3' => ?_⟩⟩
    obtain ⟨du3, m9⟩ := due_new (C := C) (n := a * c) (e := b * d) (by rw [← v3.1, ← v3.2]; exact sh8) hi3 hr3' bd0 sn3 sbd
    have atD9 := m9 _ _ (m8 _ _ atD)
    have du1a := (du1''.kept (same_keep m8)).kept (same_keep m9)
    have du2a := (du2'.kept (same_keep m8)).kept (same_keep m9)
    have shx9 := (shx7.mono m8).mono m9
    have shy9 := (shy7.mono m8).mono m9
    have mH9 : Same H _ := (mH7.trans m8).trans m9
    generalize upd (upd H8 i3 (HO.tup [V.int (a * c), V.int (b * d)])) r3' (HO.tup [V.ref q3, V.ref i3]) = H9 at *
    have m9 : Same H8 H9 := m9
    have m8 : Same H7 H8 := m8
    have mH9 : Same H H9 := mH9
    refine ⟨D, _, _, rfl, rfl, atD9, (by show 2 < sizeLine; decide), ?_⟩
    have kk : Keep H9 (upd H9 D (.lst ([.ref r1', .ref r2'] ++ [.ref r3']))) := keep_lst atD9
    have mHt : Same H (upd H9 D (.lst ([.ref r1', .ref r2'] ++ [.ref r3']))) := fun q o e => by
      rw [upd_ne (fun z => by rw [z, D0] at e; cases e)]
      exact mH9 _ _ e
    have atDt : upd H9 D (.lst ([.ref r1', .ref r2'] ++ [.ref r3'])) D = some (.lst ([r1', r2', r3'].map V.ref)) := upd_same
    have shxt := shx9.kept kk
    have shyt := shy9.kept kk
    have dut : ∀ r ∈ [r1', r2', r3'], DueAt C (upd H9 D (.lst ([.ref r1', .ref r2'] ++ [.ref r3']))) r := by
      intro r hr
      simp only [List.mem_cons, List.not_mem_nil, or_false] at hr
      rcases hr with rfl | rfl | rfl
      · exact du1a.kept kk
      · exact du2a.kept kk
      · exact du3.kept kk
    generalize upd H9 D (HO.lst ([V.ref r1', V.ref r2'] ++ [V.ref r3'])) = Ht at *
    have mHt : Same H Ht := mHt
    -- the quotient, where there is one
    refine ⟨fun σ H' => ∃ rs : List Addr, σ = [some (.ref o1), some (.ref o2), some (.int a), some (.int b), some (.int c), some (.int d), some (.ref x), some (.ref y), some (.ref D), none, none, none] ∧
      H' D = some (.lst (rs.map V.ref)) ∧ rs.length ≤ 4 ∧ (∀ r ∈ rs, DueAt C H' r) ∧ ShAt C H' x (lowT a b) (lowB a b) ∧ ShAt C H' y (lowT c d) (lowB c d) ∧ Same H H', ?_, ?_⟩
    · refine ⟨_, rfl, rfl, _, rfl, ?_⟩
      by_cases hc : c = 0
      · rw [show (!decide (V.int c = V.int 0)) = false from by simp [hc]]
        exact iteF ⟨[r1', r2', r3'], rfl, atDt, by simp, dut, shxt, shyt, mHt⟩
      · rw [show (!decide (V.int c = V.int 0)) = true from by simp [hc]]
        refine iteT ?_
        have tc : lowT c d ≠ 0 := fun z => hc ((lowT_zero nd).mp z)
        have v4 := val_over (a := a) (b := b) (c := c) (d := d) nb nd hc
        refine ⟨_, rfl, .inl ⟨rfl, _, SqL.of atDt⟩, ?_⟩
        refine ⟨_, rfl, _, rfl, x, y, _, _, _, _, rfl, shxt, shyt, up e1, up e2, up e3, up e4, by omega, fun z => absurd z tc, fun _ G1 q4 n1 nq4 sh4 => ?_⟩
        refine ⟨_, rfl, _, rfl, _, _, rfl, rfl, mul sa sd, _, rfl, _, rfl, _, _, rfl, rfl, mul sb sc, (by show 2 ≤ sizeLine; decide), fun i4 hi4 => ⟨(by show 2 ≤ sizeLine; decide), fun r4' hr4' => ?_⟩⟩
        obtain ⟨du4, n2⟩ := due_new (C := C) (n := a * d) (e := b * c) (by rw [← v4.1, ← v4.2]; exact sh4) hi4 hr4' (Int.mul_ne_zero nb hc) sn4 sn5
        have atD2 := n2 _ _ (n1 _ _ atDt)
        have dut2 : ∀ r ∈ [r1', r2', r3'], DueAt C _ r := fun r hr => ((dut r hr).kept (same_keep n1)).kept (same_keep n2)
        have shx2 := (shxt.mono n1).mono n2
        have shy2 := (shyt.mono n1).mono n2
        have mH2 : Same H _ := (mHt.trans n1).trans n2
        generalize upd (upd G1 i4 (HO.tup [V.int (a * d), V.int (b * c)])) r4' (HO.tup [V.ref q4, V.ref i4]) = G2 at *
        have mH2 : Same H G2 := mH2
        refine ⟨D, _, _, rfl, rfl, atD2, (by show 3 < sizeLine; decide), ?_⟩
        have kk : Keep G2 (upd G2 D (.lst ([r1', r2', r3'].map V.ref ++ [.ref r4']))) := keep_lst atD2
        refine ⟨[r1', r2', r3', r4'], rfl, upd_same, by simp, fun r hr => ?_, shx2.kept kk, shy2.kept kk, fun q o e => ?_⟩
        · rcases (show r ∈ [r1', r2', r3'] ∨ r = r4' by simpa [or_assoc] using hr) with h | rfl
          · exact (dut2 r h).kept kk
          · exact du4.kept kk
        · rw [upd_ne (fun z => by rw [z, D0] at e; cases e)]
          exact mH2 _ _ e
    · rintro σ G ⟨rs, rfl, gD, gl, gdue, gx, gy, gH⟩
      refine ⟨_, rfl, D, rfl, ⟨_, SqL.of gD⟩, for_list (K := K) (a := D) (xs := rs.map V.ref) (fun _ σ H' => ∃ v1 v2 : Option V, σ = [some (.ref o1), some (.ref o2), some (.int a), some (.int b), some (.int c), some (.int d), some (.ref x), some (.ref y), some (.ref D), v1, v2, none] ∧ Same G H')
        ⟨none, none, rfl, Same.refl G⟩ (fun i σ H' _ ⟨_, _, _, sm⟩ => SqL.of (sm _ _ gD)) ?_ ?_⟩
      · rintro i v σ H' hi ⟨v1, v2, rfl, sm⟩
        obtain ⟨r, hr, rfl⟩ := ref_at hi
        obtain ⟨p, q, n, e, dr, ⟨dp, dpp⟩, dq, ne, sn, se⟩ := gdue r hr
        have hp' := sm _ _ dpp
        refine ⟨r, _, rfl, SqT.of (sm _ _ dr), rfl, _, _, rfl, _, _, rfl, rfl, ?_⟩
        refine ⟨_, rfl, _, _, _, _, true, rfl, ClsV.own C, TyX.base (TyOf.ins hp' T.cl TI.ha TI.hn TI.htk TI.hm), TI.me, true, rfl, iteF ?_⟩
        refine ⟨_, rfl, p, C, dp, _, _, rfl, hp', T.cl, T.nT, shf_top .., _, rfl, p, C, dp, _, _, rfl, hp', T.cl, T.nB, shf_bottom .., (by show 2 ≤ sizeLine; decide), fun t ht => ?_⟩
        have st : Same H' (upd H' t (.tup [.int (lowT n e), .int (lowB n e)])) := same_new ht
        have hq' := st _ _ (sm _ _ dq)
        refine ⟨_, rfl, q, _, _, _, rfl, rfl, SqT.of hq', at_k (by decide) rfl, _, rfl, q, _, _, _, rfl, rfl, SqT.of hq', at_k (by decide) rfl, n, e, rfl, ne, sn, se, fun u hu => ?_⟩
        have su := same_new (o := .tup [.int (lowT n e), .int (lowB n e)]) hu
        refine ⟨_, _, Dp.tup (SqT.of (su _ _ upd_same)) (.cons (.int _) (.cons (.int _) .nil)), Dp.tup (SqT.of upd_same) (.cons (.int _) (.cons (.int _) .nil)), rfl, rfl, _, rfl, ?_⟩
        refine iteFc (by rw [nums2]; simp) ?_
        exact ⟨_, _, rfl, (sm.trans st).trans su⟩
      · rintro σ H' ⟨v1, v2, rfl, sm⟩
        have fx := gx.mono sm
        have fy := gy.mono sm
        have fH : Same H H' := gH.trans sm
        obtain ⟨dxx, hxx⟩ := id fx
        refine ⟨_, rfl, _, rfl, x, y, _, _, _, _, rfl, rfl, fx, fy, ?_⟩
        refine ⟨_, rfl, _, rfl, _, _, rfl, rfl, mul sa sd, _, rfl, _, rfl, _, _, rfl, rfl, mul sc sb, rfl, rfl, _, rfl, ?_⟩
        have eqs : (decide (lowT a b = lowT c d) && decide (lowB a b = lowB c d)) = decide (V.int (a * d) = V.int (c * b)) := by
          rw [decI, Bool.eq_iff_iff, Bool.and_eq_true, decide_eq_true_eq, decide_eq_true_eq, decide_eq_true_eq]
          exact low_iff nb nd
        refine iteFc (by rw [eqs]; simp) ?_
        refine ⟨_, rfl, _, rfl, x, C, dxx, _, _, rfl, hxx, T.cl, T.nT, shf_top .., _, rfl, x, C, dxx, _, _, rfl, hxx, T.cl, T.nB, shf_bottom .., (by show 2 ≤ sizeLine; decide), fun t ht => ?_⟩
        have st : Same H' (upd H' t (.tup [.int (lowT a b), .int (lowB a b)])) := same_new ht
        refine ⟨_, rfl, (by show 3 ≤ sizeLine; decide), fun l hl => ?_⟩
        have sl := same_new (o := .lst [.ref t, .int a, .non]) hl
        refine ⟨x, l, _, _, _, rfl, rfl, (fx.mono st).mono sl, upd_same, fun v hv => ?_, _, rfl, iteF ?_⟩
        · simp only [List.mem_cons, List.not_mem_nil, or_false] at hv
          rcases hv with rfl | rfl | rfl
          · exact .inr (.inr ⟨t, _, rfl, sl _ _ upd_same⟩)
          · exact .inl ⟨a, rfl⟩
          · exact .inr (.inl rfl)
        refine ⟨_, rfl, _, rfl, _, _, rfl, rfl, mul sa sd, _, rfl, _, rfl, _, _, rfl, rfl, mul sc sb, _, _, rfl, rfl, _, rfl, _, rfl, _, _, rfl, rfl, mul sb sd, a * d - c * b, b * d, rfl, bd0, sn2, sbd, fun z hz => ?_⟩
        have sz := same_new (o := .tup [.int (lowT (a * d - c * b) (b * d)), .int (lowB (a * d - c * b) (b * d))]) hz
        refine ⟨z, _, _, _, rfl, rfl, SqT.of upd_same, at_k (by decide) rfl, ?_⟩
        have xz := ((fx.mono st).mono sl).mono sz
        have yz := ((fy.mono st).mono sl).mono sz
        refine ⟨_, rfl, _, rfl, x, y, _, _, _, _, rfl, xz, yz, up e1, up e2, up e3, up e4, _, rfl, _, rfl, y, x, _, _, _, _, rfl, yz, xz, up e3, up e4, up e1, up e2, (by show 2 ≤ sizeLine; decide), fun l1 hl1 => ?_⟩
        have s1 := same_new (o := .lst [.bl (decide (lowT a b * lowB c d < lowT c d * lowB a b)), .bl (decide (lowT c d * lowB a b < lowT a b * lowB c d))]) hl1
        refine ⟨l1, .list [.bool _, .bool _], rfl, Dp.lst (SqL.of upd_same) (.cons (.bl _) (.cons (.bl _) .nil)), rfl, rfl, ?_, bools_shown _ _, ?_⟩
        · exact Nat.lt_of_le_of_lt (Nat.add_le_add_left (bools_deep _ _) _) r4.units
        refine ⟨_, rfl, _, _, rfl, rfl, _, rfl, _, _, rfl, rfl, (by show 2 ≤ sizeLine; decide), fun l2 hl2 => ?_⟩
        refine ⟨l2, .list [.bool _, .bool _], rfl, Dp.lst (SqL.of upd_same) (.cons (.bl _) (.cons (.bl _) .nil)), rfl, rfl, ?_, bools_shown _ _, ?_⟩
        · exact Nat.lt_of_le_of_lt (Nat.add_le_add_left (bools_deep _ _) _) r4.units
        refine ⟨rfl, ?_⟩
        have vl := val_less (a := a) (b := b) (c := c) (d := d) nb nd
        have w1 : decide (lowT a b * lowB c d < lowT c d * lowB a b) = decide (lowT (a * d - c * b) (b * d) < 0) := decide_eq_decide.mpr vl.1.symm
        have w2 : decide (lowT c d * lowB a b < lowT a b * lowB c d) = decide (lowT (a * d - c * b) (b * d) > 0) := decide_eq_decide.mpr vl.2.symm
        have w3 : decide (V.str (PyData.list [.bool (decide (lowT a b * lowB c d < lowT c d * lowB a b)), .bool (decide (lowT c d * lowB a b < lowT a b * lowB c d))]).shown = V.str (PyData.list [.bool (decide (lowT (a * d - c * b) (b * d) < 0)), .bool (decide (lowT (a * d - c * b) (b * d) > 0))]).shown) = true := by
          rw [w1, w2]
          exact decide_eq_true rfl
        rw [w3]
        exact kq _ (((((fH.trans st).trans sl).trans sz).trans s1).trans (same_new hl2))
end
end K01
namespace K01
open PySem PySem.Spec PyProof.Rows L2
def spOrder (K : PySem.W.Frag) (C : Addr) : Sp := fun vs H Q _ => ∃ (l x y z : Addr) (t1 b1 t2 b2 t3 b3 : Int), vs = [.ref l] ∧ SqL K H l [.ref x, .ref y, .ref z] ∧ ShAt C H x t1 b1 ∧ ShAt C H y t2 b2 ∧ ShAt C H z t3 b3 ∧
  0 < b1 ∧ 0 < b2 ∧ 0 < b3 ∧ t1.natAbs < 2 ^ 180 ∧ b1.natAbs < 2 ^ 180 ∧ t2.natAbs < 2 ^ 180 ∧ b2.natAbs < 2 ^ 180 ∧ t3.natAbs < 2 ^ 180 ∧ b3.natAbs < 2 ^ 180 ∧ (t3 = 0 → b3 = 1) ∧ ∀ H', Same H H' → Q (.bl true) H'
theorem lowBound {n e : Int} {k : Nat} (he : e ≠ 0) (hn : n.natAbs < 2 ^ k) (hb : e.natAbs < 2 ^ k) (hk : k ≤ 1000) : (lowT n e).natAbs < 2 ^ 1000 ∧ (lowB n e).natAbs < 2 ^ 1000 :=
  ⟨pow_le (Nat.lt_of_le_of_lt (lowT_le he) hn) hk, pow_le (Nat.lt_of_le_of_lt (lowB_le he) hb) hk⟩
theorem ord_plusD {t1 b1 t2 b2 t3 b3 : Int} (h1 : 0 < b1) (h2 : 0 < b2) (h3 : 0 < b3) :
    decide (lowT (t1 * b3 + t3 * b1) (b1 * b3) * lowB (t2 * b3 + t3 * b2) (b2 * b3) < lowT (t2 * b3 + t3 * b2) (b2 * b3) * lowB (t1 * b3 + t3 * b1) (b1 * b3)) = decide (t1 * b2 < t2 * b1) := decide_eq_decide.mpr (ord_plus h1 h2 h3)
theorem ord_timesD {t1 b1 t2 b2 t3 b3 : Int} (h1 : 0 < b1) (h2 : 0 < b2) (h3 : 0 < b3) (ht : 0 < t3) :
    decide (lowT (t1 * t3) (b1 * b3) * lowB (t2 * t3) (b2 * b3) < lowT (t2 * t3) (b2 * b3) * lowB (t1 * t3) (b1 * b3)) = decide (t1 * b2 < t2 * b1) := decide_eq_decide.mpr (ord_times h1 h2 h3 ht)
theorem ord_turnedD {t1 b1 t2 b2 t3 b3 : Int} (h1 : 0 < b1) (h2 : 0 < b2) (h3 : 0 < b3) (ht : t3 < 0) :
    decide (lowT (t2 * t3) (b2 * b3) * lowB (t1 * t3) (b1 * b3) < lowT (t1 * t3) (b1 * b3) * lowB (t2 * t3) (b2 * b3)) = decide (t1 * b2 < t2 * b1) := decide_eq_decide.mpr (ord_turned h1 h2 h3 ht)
section
variable {P : Program} {w : World} {K : PySem.W.Frag} {mg : Str → Option Value} {base : Heap}
abbrev ordN : List Str := ["shares_told", "one", "other", "third"]
theorem scOrder : FnScope ordN ["shares_told"] (defScope sOrder) := ⟨rfl, rfl, rfl, by decide +kernel, rfl, by decide +kernel, by decide +kernel⟩
theorem ok_order {f C CN : Addr} {fd : FuncData} (F : Fun K "_law_order_right" "_law_order_right" sOrder f fd) (Z : Defs P w K mg base C CN) : FnOk P w K mg base CX0 6 f fd ["shares_told"] (spOrder K C) := by
  obtain ⟨fI, fdI, M, GI, _, u0, vd, bI⟩ := Z.init
  obtain ⟨fE, fdE, GE, bE, aE, iE⟩ := Z.eq
  obtain ⟨fP, fdP, GP, mP, kP, bP⟩ := Z.plus
  obtain ⟨fT, fdT, GT, mT, kT, bT⟩ := Z.times
  obtain ⟨fL, fdL, GL, mL, kL, bL⟩ := Z.less
  have T := Z.T
  refine F.ok scOrder (fun vs H Q E h => ?_) (fun cdv A outer s H vs Q E hr h => ?_)
  · obtain ⟨l, x, y, z, t1, b1, t2, b2, t3, b3, rfl, _⟩ := h
    rfl
  · obtain ⟨l, x, y, z, t1, b1, t2, b2, t3, b3, rfl, hl, hx, hy, hz, p1, p2, p3, a1, c1, a2, c2, a3, c3, z1, kq⟩ := h
    have r4 : Room 4 _ := hr.mono (by decide)
    have r3 : Room 3 _ := hr.mono (by decide)
    have r1 : Room 1 _ := hr.mono (by decide)
    have own : OwnEq (cxOf CX0 P w K mg base ordN "_law_order_right" (defScope sOrder) f cdv A outer s H E).nox 1 C fE := own_of GE bE aE iE
    refine ⟨_, pss_cons (ps_asg (pv 0) (pg_lst (by rfl) (pgs_cons (pg_name (i := 1) scOrder.nd rfl (.inl rfl)) (pgs_cons (pg_name (i := 2) scOrder.nd rfl (.inl rfl)) (pgs_cons (pg_name (i := 3) scOrder.nd rfl (.inl rfl)) pgs_nil)))))
      (pss_cons (ps_if (pt_cmpR op_ne (pe_call GL r1 rfl mL kL bL .nil pass0 (pa_cons (pe_call GP r4 rfl mP kP bP .nil pass0 (pa_cons (pv 1) (pa_cons (pv 3) pa_nil))) (pa_cons (pe_call GP r4 rfl mP kP bP .nil pass0 (pa_cons (pv 2) (pa_cons (pv 3) pa_nil))) pa_nil)))
          (pe_call GL r1 rfl mL kL bL .nil pass0 (pa_cons (pv 1) (pa_cons (pv 2) pa_nil))) (nomark _)) (pss_one (ps_ret pe_bl)) pss_nil)
      (pss_cons (ps_if (pt_cmpR (op_eqS own r1) (pv 3) (pe_make M GI r3 rfl T.mgC bI vd passL (pa_cons pe_int pa_nil)) (nomark _))
          (pss_one (ps_ret (pe_cmpR (op_eqS own r1) (pe_call GT r4 rfl mT kT bT .nil pass0 (pa_cons (pv 1) (pa_cons (pv 3) pa_nil))) (pe_call GT r4 rfl mT kT bT .nil pass0 (pa_cons (pv 2) (pa_cons (pv 3) pa_nil))) (nomark _)))) pss_nil)
      (pss_cons (ps_if (pt_val (pe_call GL r1 rfl mL kL bL .nil pass0 (pa_cons (pe_make M GI r3 rfl T.mgC bI vd passL (pa_cons pe_int pa_nil)) (pa_cons (pv 3) pa_nil))))
          (pss_one (ps_ret (pe_cmpR op_eq (pe_call GL r1 rfl mL kL bL .nil pass0 (pa_cons (pe_call GT r4 rfl mT kT bT .nil pass0 (pa_cons (pv 1) (pa_cons (pv 3) pa_nil))) (pa_cons (pe_call GT r4 rfl mT kT bT .nil pass0 (pa_cons (pv 2) (pa_cons (pv 3) pa_nil))) pa_nil)))
            (pe_call GL r1 rfl mL kL bL .nil pass0 (pa_cons (pv 1) (pa_cons (pv 2) pa_nil))) (nomark _)))) pss_nil)
      (pss_one (ps_ret (pe_cmpR op_eq (pe_call GL r1 rfl mL kL bL .nil pass0 (pa_cons (pe_call GT r4 rfl mT kT bT .nil pass0 (pa_cons (pv 2) (pa_cons (pv 3) pa_nil))) (pa_cons (pe_call GT r4 rfl mT kT bT .nil pass0 (pa_cons (pv 1) (pa_cons (pv 3) pa_nil))) pa_nil)))
            (pe_call GL r1 rfl mL kL bL .nil pass0 (pa_cons (pv 1) (pa_cons (pv 2) pa_nil))) (nomark _))))))), ?_⟩
    have up : ∀ {i : Int}, i.natAbs < 2 ^ 180 → i.natAbs < 2 ^ 1000 := fun h => pow_le h (by decide)
    have d13 : b1 * b3 ≠ 0 := Int.mul_ne_zero (by omega) (by omega)
    have d23 : b2 * b3 ≠ 0 := Int.mul_ne_zero (by omega) (by omega)
    have q1 := lowBound (n := t1 * b3 + t3 * b1) d13 (add_lt (wide_lt a1 c3) (wide_lt a3 c1)) (pow_le (wide_lt c1 c3) (by decide)) (by decide)
    have q2 := lowBound (n := t2 * b3 + t3 * b2) d23 (add_lt (wide_lt a2 c3) (wide_lt a3 c2)) (pow_le (wide_lt c2 c3) (by decide)) (by decide)
    have q3 := lowBound (n := t1 * t3) d13 (wide_lt a1 a3) (wide_lt c1 c3) (by decide)
    have q4 := lowBound (n := t2 * t3) d23 (wide_lt a2 a3) (wide_lt c2 c3) (by decide)
    refine ⟨_, rfl, l, _, rfl, hl, rfl, _, _, rfl, _, _, rfl, _, _, rfl, rfl, ?_⟩
    refine ⟨_, rfl, _, rfl, x, z, _, _, _, _, rfl, hx, hz, up a1, up c1, up a3, up c3, by omega, by omega, fun H1 s1 m1 _ sh1 => ?_⟩
    have sh1 : ShAt C H1 s1 (lowT (t1 * b3 + t3 * b1) (b1 * b3)) (lowB (t1 * b3 + t3 * b1) (b1 * b3)) := sh1
    refine ⟨_, rfl, _, rfl, y, z, _, _, _, _, rfl, hy.mono m1, hz.mono m1, up a2, up c2, up a3, up c3, by omega, by omega, fun H2 s2 m2 _ sh2 => ?_⟩
    have sh2 : ShAt C H2 s2 (lowT (t2 * b3 + t3 * b2) (b2 * b3)) (lowB (t2 * b3 + t3 * b2) (b2 * b3)) := sh2
    refine ⟨s1, s2, _, _, _, _, rfl, sh1.mono m2, sh2, q1.1, q1.2, q2.1, q2.2, ?_⟩
    have hx2 := (hx.mono m1).mono m2
    have hy2 := (hy.mono m1).mono m2
    have hz2 := (hz.mono m1).mono m2
    have m12 : Same H H2 := m1.trans m2
    refine ⟨_, rfl, _, rfl, x, y, _, _, _, _, rfl, hx2, hy2, up a1, up c1, up a2, up c2, rfl, _, rfl, ?_⟩
    have oq := ord_plusD (t1 := t1) (t2 := t2) (t3 := t3) p1 p2 p3
    refine iteFc (by rw [oq]; simp) ?_
    -- third == Share(0)
    refine ⟨_, rfl, fun v dv nv ndv nev => ⟨v, dv, 0, 1, rfl, upd_same, by decide +kernel, by decide +kernel, fun z => absurd z (by decide), fun _ H3 g3 k3 => ⟨rfl, ?_⟩⟩⟩
    have m3 : Same H2 H3 := made_same (C := C) nv ndv k3
    have hx3 := hx2.mono m3
    have hy3 := hy2.mono m3
    have hz3 := hz2.mono m3
    have m13 : Same H H3 := m12.trans m3
    refine ⟨z, v, _, _, _, _, rfl, rfl, hz3, ⟨dv, g3⟩, _, rfl, ?_⟩
    refine ite2 (fun h0 => ?_) (fun h0 => ?_)
    · have ht : t3 = 0 := by
        rw [Bool.and_eq_true, decide_eq_true_eq] at h0
        rw [h0.1, lowT_one]
      refine ⟨_, rfl, _, rfl, x, z, _, _, _, _, rfl, hx3, hz3, up a1, up c1, up a3, up c3, by omega, by omega, fun H4 s4 m4 _ sh4 => ?_⟩
      have sh4 : ShAt C H4 s4 (lowT (t1 * t3) (b1 * b3)) (lowB (t1 * t3) (b1 * b3)) := sh4
      refine ⟨_, rfl, _, rfl, y, z, _, _, _, _, rfl, hy3.mono m4, hz3.mono m4, up a2, up c2, up a3, up c3, by omega, by omega, fun H5 s5 m5 _ sh5 => ?_⟩
      have sh5 : ShAt C H5 s5 (lowT (t2 * t3) (b2 * b3)) (lowB (t2 * t3) (b2 * b3)) := sh5
      refine ⟨s4, s5, _, _, _, _, rfl, rfl, sh4.mono m5, sh5, ?_⟩
      have oo := ord_none (t1 := t1) (t2 := t2) p1 p2 p3 ht
      rw [decide_eq_true oo.1, decide_eq_true oo.2]
      exact kq _ ((m13.trans m4).trans m5)
    · refine fun v' dv' nv' ndv' nev' => ⟨v', dv', 0, 1, rfl, upd_same, by decide +kernel, by decide +kernel, fun z => absurd z (by decide), fun _ H4 g4 k4 => ⟨rfl, ?_⟩⟩
      have m4 : Same H3 H4 := made_same (C := C) nv' ndv' k4
      have hx4 := hx3.mono m4
      have hy4 := hy3.mono m4
      have hz4 := hz3.mono m4
      have m14 : Same H H4 := m13.trans m4
      refine ⟨_, rfl, v', z, _, _, _, _, rfl, ⟨dv', g4⟩, hz4, by decide +kernel, by decide +kernel, up a3, up c3, _, rfl, ?_⟩
      rw [lowT_one, lowB_one]
      refine ite2 (fun hp => ?_) (fun hp => ?_)
      · have ht : 0 < t3 := by
          have := of_decide_eq_true hp
          omega
        refine ⟨_, rfl, _, rfl, x, z, _, _, _, _, rfl, hx4, hz4, up a1, up c1, up a3, up c3, by omega, by omega, fun H5 s5 m5 _ sh5 => ?_⟩
        have sh5 : ShAt C H5 s5 (lowT (t1 * t3) (b1 * b3)) (lowB (t1 * t3) (b1 * b3)) := sh5
        refine ⟨_, rfl, _, rfl, y, z, _, _, _, _, rfl, hy4.mono m5, hz4.mono m5, up a2, up c2, up a3, up c3, by omega, by omega, fun H6 s6 m6 _ sh6 => ?_⟩
        have sh6 : ShAt C H6 s6 (lowT (t2 * t3) (b2 * b3)) (lowB (t2 * t3) (b2 * b3)) := sh6
        refine ⟨s5, s6, _, _, _, _, rfl, sh5.mono m6, sh6, q3.1, q3.2, q4.1, q4.2, ?_⟩
        refine ⟨_, rfl, _, rfl, x, y, _, _, _, _, rfl, (hx4.mono m5).mono m6, (hy4.mono m5).mono m6, up a1, up c1, up a2, up c2, rfl, ?_⟩
        have oq := ord_timesD (t1 := t1) (t2 := t2) (t3 := t3) p1 p2 p3 ht
        rw [oq, decide_eq_true rfl]
        exact kq _ ((m14.trans m5).trans m6)
      · have ht : t3 ≤ 0 := by
          have h1 : ¬ 0 * b3 < t3 * 1 := fun q => hp (decide_eq_true q)
          omega
        have hn : t3 < 0 := by
          rcases Int.lt_or_eq_of_le ht with h | h
          · exact h
          · exact absurd (by
              rw [lowT_one, lowB_one, decide_eq_true h, decide_eq_true (z1 h)]
              rfl) h0
        refine ⟨_, rfl, _, rfl, y, z, _, _, _, _, rfl, hy4, hz4, up a2, up c2, up a3, up c3, by omega, by omega, fun H5 s5 m5 _ sh5 => ?_⟩
        have sh5 : ShAt C H5 s5 (lowT (t2 * t3) (b2 * b3)) (lowB (t2 * t3) (b2 * b3)) := sh5
        refine ⟨_, rfl, _, rfl, x, z, _, _, _, _, rfl, hx4.mono m5, hz4.mono m5, up a1, up c1, up a3, up c3, by omega, by omega, fun H6 s6 m6 _ sh6 => ?_⟩
        have sh6 : ShAt C H6 s6 (lowT (t1 * t3) (b1 * b3)) (lowB (t1 * t3) (b1 * b3)) := sh6
        refine ⟨s5, s6, _, _, _, _, rfl, sh5.mono m6, sh6, q4.1, q4.2, q3.1, q3.2, ?_⟩
        refine ⟨_, rfl, _, rfl, x, y, _, _, _, _, rfl, (hx4.mono m5).mono m6, (hy4.mono m5).mono m6, up a1, up c1, up a2, up c2, rfl, ?_⟩
        have oq := ord_turnedD (t1 := t1) (t2 := t2) (t3 := t3) p1 p2 p3 hn
        rw [oq, decide_eq_true rfl]
        exact kq _ ((m14.trans m5).trans m6)
end
end K01
namespace K01
open PySem PySem.Spec PyProof.Rows L2
/-! ### the law -/
def PairAt (H : Hp) (t : Addr) : Prop := ∃ a b : Int, H t = some (.tup [.int a, .int b]) ∧ b ≠ 0 ∧ a.natAbs < 2 ^ 180 ∧ b.natAbs < 2 ^ 180
def spLaw (K : PySem.W.Frag) : Sp := fun vs H Q _ => ∃ (a : Addr) (ns : List Int), vs = [.ref a] ∧ SqL K H a (ns.map V.int) ∧ ns.length ≤ 63 ∧ ∀ H', Q (.bl true) H'
structure Laws (P : Program) (w : World) (K : PySem.W.Frag) (mg : Str → Option Value) (base : Heap) (C CN : Addr) : Prop where
  Z : Defs P w K mg base C CN
  source : ∃ f fd, FnOk P w K mg base CX0 2 f fd ["script", "k"] (spSource K) ∧ mg "_law_source" = some (.ref f) ∧ PySem.W.keepIn K (.ref f) = true ∧ Binds K fd ["script", "k"] []
  number : ∃ f fd, FnOk P w K mg base CX0 3 f fd ["source"] spNumber ∧ mg "_law_number" = some (.ref f) ∧ PySem.W.keepIn K (.ref f) = true ∧ Binds K fd ["source"] []
  refused : ∃ f fd, FnOk P w K mg base CX0 5 f fd ["one"] (spRefused C) ∧ mg "_law_refused" = some (.ref f) ∧ PySem.W.keepIn K (.ref f) = true ∧ Binds K fd ["one"] []
  two : ∃ f fd, FnG P w K mg base 6 f fd ["one", "other"] (spTwoRight K) ∧ mg "_law_two_right" = some (.ref f) ∧ PySem.W.keepIn K (.ref f) = true ∧ Binds K fd ["one", "other"] []
  order : ∃ f fd, FnOk P w K mg base CX0 6 f fd ["shares_told"] (spOrder K C) ∧ mg "_law_order_right" = some (.ref f) ∧ PySem.W.keepIn K (.ref f) = true ∧ Binds K fd ["shares_told"] []
section
variable {P : Program} {w : World} {K : PySem.W.Frag} {mg : Str → Option Value} {base : Heap}
abbrev lawN : List Str := ["script", "k", "source", "some", "lap", "one", "other", "told"]
theorem scLaw : FnScope lawN ["script"] (defScope sLaw) := ⟨rfl, rfl, rfl, by decide +kernel, rfl, by decide +kernel, by decide +kernel⟩
/-- a tuple of two numbers, as drawn -/
def PairS (H : Hp) (t : Addr) : Prop := ∃ a b : Int, H t = some (.tup [.int a, .int b]) ∧ b ≠ 0 ∧ a.natAbs < 2 ^ 173 ∧ b.natAbs < 2 ^ 173
theorem PairS.keep {H H' : Hp} {t : Addr} (h : PairS H t) (k : ∀ o, H t = some o → (∀ xs, o ≠ .lst xs) → H' t = some o) : PairS H' t := by
  obtain ⟨a, b, e, r⟩ := h
  exact ⟨a, b, k _ e (fun _ z => nomatch z), r⟩
theorem PairS.wide {H : Hp} {t : Addr} (h : PairS H t) : PairAt H t := by
  obtain ⟨a, b, e, n, s1, s2⟩ := h
  exact ⟨a, b, e, n, pow_le s1 (by decide), pow_le s2 (by decide)⟩
theorem PairAt.mono {H H' : Hp} {t : Addr} (h : PairAt H t) (k : Keep H H') : PairAt H' t := by
  obtain ⟨a, b, e, r⟩ := h
  exact ⟨a, b, k _ _ e (fun _ z => nomatch z), r⟩
theorem but_keep {p : Addr} {xs : List V} {H H' : Hp} (h : But p H H') (e : H p = some (.lst xs)) : Keep H H' := fun b o hb n => h b o (fun z => by
  rw [z, e] at hb
  exact n xs (Option.some.inj hb).symm) hb
theorem turns6 (n : Nat) : 1 ≤ (if (if (n : Int) < 6 then (n : Int) else 6) > 1 then (if (n : Int) < 6 then (n : Int) else 6) else 1) ∧ (if (if (n : Int) < 6 then (n : Int) else 6) > 1 then (if (n : Int) < 6 then (n : Int) else 6) else 1) ≤ 6 := by
  split <;> split <;> omega
/-- a share in lowest terms -/
def LowAt (C : Addr) (H : Hp) (r : Addr) : Prop := ∃ n e : Int, e ≠ 0 ∧ n.natAbs < 2 ^ 180 ∧ e.natAbs < 2 ^ 180 ∧ ShAt C H r (lowT n e) (lowB n e)
theorem low_zero {n e : Int} (he : e ≠ 0) (h : lowT n e = 0) : lowB n e = 1 := by
  have c := low_coprime (a := n) he
  have p := lowB_pos (a := n) he
  rw [h] at c
  have c' : (lowB n e).natAbs = 1 := by simpa using c
  omega
theorem ok_law {f C CN : Addr} {fd : FuncData} (F : Fun K "law" "law" sLaw f fd) (W : Laws P w K mg base C CN) : FnG P w K mg base 7 f fd ["script"] (spLaw K) := by
  have Z := W.Z
  obtain ⟨fI, fdI, M, GI, bI, u0, vd, bI1⟩ := Z.init
  obtain ⟨fE, fdE, GE, bE, aE, iE⟩ := Z.eq
  obtain ⟨fW, fdW, GW, mW, kW, bW⟩ := Z.lowered
  obtain ⟨fS, fdS, GS, mS, kS, bS⟩ := W.source
  obtain ⟨fN, fdN, GN, mN, kN, bN⟩ := W.number
  obtain ⟨fR, fdR, GR, mR, kR, bR⟩ := W.refused
  obtain ⟨f2, fd2, G2, m2, k2, b2⟩ := W.two
  obtain ⟨fO, fdO, GO, mO, kO, bO⟩ := W.order
  have T := Z.T
  have B := Z.B
  refine okG F scLaw (fun vs H Q E h => ?_) (fun cdv A outer s H vs Q E hr hgu h => ?_)
  · obtain ⟨a, ns, rfl, _⟩ := h
    rfl
  · obtain ⟨a, ns, rfl, hs, hl, kq⟩ := h
    have r5 : Room 5 _ := hr.mono (by decide)
    have r3 : Room 3 _ := hr.mono (by decide)
    have r2 : Room 2 _ := hr.mono (by decide)
    have r1 : Room 1 _ := hr.mono (by decide)
    have own : OwnEq (cxOf CX0 P w K mg base lawN "law" (defScope sLaw) f cdv A outer s H E).nox 1 C fE := own_of GE bE aE iE
    refine ⟨_, pss_cons (ps_for PassesOwn.never rfl (pi_range1 (by rfl) B.range (pa_cons (pe_callB (call_max2 rfl) (by rfl) B.max (by decide +kernel) (pa_cons (pe_int) (pa_cons (pe_callB (call_min2 rfl) (by rfl) B.min (by decide +kernel) (pa_cons (pe_int) (pa_cons (pe_callB call_len_seq (by rfl) B.len PySem.boot_len (pa_cons (pv 0) pa_nil)) pa_nil))) pa_nil))) pa_nil)) (pg_name (i := 1) scLaw.nd rfl (.inl rfl)) (pss_cons (ps_set (i := 2) scLaw.nd rfl (Or.inl rfl) (pe_call GS r2 rfl mS kS bS .nil pass0 (pa_cons (pv 0) (pa_cons (pv 1) pa_nil)))) (pss_cons (ps_set (i := 3) scLaw.nd rfl (Or.inl rfl) (pe_lst pa_nil)) (C8.pss_cut (ps_for PassesOwn.never rfl (pi_range1 (by rfl) B.range (pa_cons pe_int pa_nil)) (pg_name (i := 4) scLaw.nd rfl (.inl rfl)) (pss_cons (ps_asg (pe_tup (pa_cons (pe_call GN r3 rfl mN kN bN .nil pass0 (pa_cons (pv 2) pa_nil)) (pa_cons (pe_call GN r3 rfl mN kN bN .nil pass0 (pa_cons (pv 2) pa_nil)) pa_nil))) (pg_tup (by rfl) (pgs_cons (pg_name (i := 5) scLaw.nd rfl (.inr rfl)) (pgs_cons (pg_name (i := 6) scLaw.nd rfl (.inl rfl)) pgs_nil)))) (pss_one (ps_expr (pe_bm PySem.F.plainAttrs_list PySem.F.slot_list_append PySem.F.type_list_append mt_append (pv 3) (pa_cons (pe_tup (pa_cons (pv 5) (pa_cons (pe_op op_add (pv 6) (pe_callTy call_int1 (by rfl) B.int (by decide +kernel) (pa_cons (pe_cmpR op_eq (pv 6) pe_int (nomark _)) pa_nil))) pa_nil))) pa_nil)))))) (pss_cons (ps_expr (pe_bm PySem.F.plainAttrs_list PySem.F.slot_list_append PySem.F.type_list_append mt_append (pv 3) (pa_cons (pe_tup (pa_cons (pe_op op_mul (pe_ix ix_tup (pe_ix ix_list (pv 3) pe_int (fun _ _ => rfl)) pe_int (fun _ _ => rfl)) pe_int) (pa_cons (pe_op op_mul (pe_ix ix_tup (pe_ix ix_list (pv 3) pe_int (fun _ _ => rfl)) pe_int (fun _ _ => rfl)) pe_int) pa_nil))) pa_nil))) (C8.pss_cut (ps_expr (pe_bm PySem.F.plainAttrs_list PySem.F.slot_list_append PySem.F.type_list_append mt_append (pv 3) (pa_cons (pe_tup (pa_cons (pe_int) (pa_cons (pe_ix ix_tup (pe_ix ix_list (pv 3) pe_int (fun _ _ => rfl)) pe_int (fun _ _ => rfl)) pa_nil))) pa_nil))) (pss_cons (ps_for PassesOwn.never rfl (pi_list (pv 3)) (pg_name (i := 5) scLaw.nd rfl (.inr rfl)) (pss_cons (ps_set (i := 7) scLaw.nd rfl (Or.inl rfl) (pe_make M GI r3 rfl T.mgC bI .nil passL (pa_cons (pe_ix ix_tup (pv 5) pe_int (fun _ _ => rfl)) (pa_cons (pe_ix ix_tup (pv 5) pe_int (fun _ _ => rfl)) pa_nil)))) (pss_cons (ps_if (PW.pt (pw_or (pt_cmpR (op_neD r5.units) (pe_tup (pa_cons (pe_fld (pv 7) rfl) (pa_cons (pe_fld (pv 7) rfl) pa_nil))) (pe_call GW r1 rfl mW kW bW .nil pass0 (pa_cons (pe_ix ix_tup (pv 5) pe_int (fun _ _ => rfl)) (pa_cons (pe_ix ix_tup (pv 5) pe_int (fun _ _ => rfl)) pa_nil))) (nomark _)) (pw_or1 (pt_not (pt_val (pe_call GR r5 rfl mR kR bR .nil pass0 (pa_cons (pv 7) pa_nil))))))) (pss_one (ps_ret pe_bl)) pss_nil) (pss_cons (ps_if (pt_cmpR (op_neS own r3 Z.hne Z.hob) (pe_make M GI r3 rfl T.mgC bI1 vd passL (pa_cons (pe_ix ix_tup (pv 5) pe_int (fun _ _ => rfl)) pa_nil)) (pe_make M GI r3 rfl T.mgC bI .nil passL (pa_cons (pe_ix ix_tup (pv 5) pe_int (fun _ _ => rfl)) (pa_cons (pe_int) pa_nil))) (nomark _)) (pss_one (ps_ret pe_bl)) pss_nil) (pss_one (ps_if (pt_not (pt_val (pe_callB (cr_all rfl) (by rfl) B.all (by decide +kernel) (pa_cons (pe_lc (own := [("other", 6)]) (g := gName 6) (by rfl) scLaw.nd (pi_list (pv 3)) (blkOk_by (own := [("other", 6)]) (N := lawN) (sc := defScope sLaw) (by decide +kernel)) (fun _ _ _ _ _ => pg_name (i := 6) scLaw.nd rfl (Or.inl rfl)) (fun _ _ _ _ _ => pts_nil) (fun _ _ _ _ _ => pe_callG G2 hr hgu rfl m2 k2 b2 (pa_cons (pv 5) (pa_cons (pv 6) pa_nil)))) pa_nil)))) (pss_one (ps_ret pe_bl)) pss_nil)))))) (pss_one (ps_if (pt_not (pt_val (pe_call GO hr rfl mO kO bO .nil pass0 (pa_cons (pe_lc (own := [("one", 5)]) (g := gName 5) (by rfl) scLaw.nd (pi_list (pe_slice sl_list (pv 3) po_none (po_some pe_int))) (blkOk_by (own := [("one", 5)]) (N := lawN) (sc := defScope sLaw) (by decide +kernel)) (fun _ _ _ _ _ => pg_name (i := 5) scLaw.nd rfl (Or.inl rfl)) (fun _ _ _ _ _ => pts_nil) (fun _ _ _ _ _ => pe_make M GI r3 rfl T.mgC bI .nil passL (pa_cons (pe_ix (show IxR _ (rIxT K) from ix_tup) (pv 5) pe_int (fun _ _ => rfl)) (pa_cons (pe_ix (show IxR _ (rIxT K) from ix_tup) (pv 5) pe_int (fun _ _ => rfl)) pa_nil)))) pa_nil)))) (pss_one (ps_ret pe_bl)) pss_nil))))))))) (pss_one (ps_ret pe_bl)), ?_⟩
    have mb := turns6 (ns.map V.int).length
    refine ⟨_, rfl, a, _, rfl, .inl hs, 6, _, rfl, 1, _, rfl, _, rfl, ?_⟩
    generalize (if (if ((ns.map V.int).length : Int) < 6 then ((ns.map V.int).length : Int) else 6) > 1 then (if ((ns.map V.int).length : Int) < 6 then ((ns.map V.int).length : Int) else 6) else 1) = m at mb ⊢
    refine ⟨by omega, by omega, for_range (lo := 0) (n := m.toNat) (fun _ σ H' => ∃ v1 v2 v3 v4 v5 v6 v7 : Option V, σ = [some (.ref a), v1, v2, v3, v4, v5, v6, v7] ∧ Same H H') ⟨none, none, none, none, none, none, none, rfl, Same.refl H⟩ ?_ ?_⟩
    · rintro i σ H' hi ⟨v1, v2, v3, v4, v5, v6, v7, rfl, sm⟩
      refine ⟨_, rfl, _, rfl, a, ns, _, rfl, sm.seq hs, hl, by omega, by omega, fun p x y hp => ?_⟩
      refine ⟨Nat.zero_le _, fun D hD => ?_⟩
      have pD : p ≠ D := fun z => by
        rw [← z, upd_same] at hD
        cases hD
      have p0 : H p = none := sm.free hp
      have D0' : H' D = none := by
        rw [upd_ne (Ne.symm pD)] at hD
        exact hD
      have D0 : H D = none := sm.free D0'
      have at0 : upd (upd H' p (.lst [.int x, .int y, .int 0])) D (.lst []) p = some (.lst [.int x, .int y, .int 0]) := by
        rw [upd_ne pD]
        exact upd_same
      have sm0 : Same H (upd (upd H' p (.lst [.int x, .int y, .int 0])) D (.lst [])) := fun b o e => by
        rw [upd_ne (fun z => by rw [z, D0] at e; cases e), upd_ne (fun z => by rw [z, p0] at e; cases e)]
        exact sm _ _ e
      -- four drawn ones
      refine ⟨fun σ G => ∃ (ts : List Addr) (v4 v5 v6 : Option V), σ = [some (.ref a), some (.int (0 + (i : Int))), some (.ref p), some (.ref D), v4, v5, v6, v7] ∧ ts.length = 4 ∧ G D = some (.lst (ts.map V.ref)) ∧ (∀ t ∈ ts, PairS G t) ∧ Same H G, ?_, ?_⟩
      · refine ⟨4, rfl, by decide, by decide, for_range (lo := 0) (n := 4) (fun j σ G => ∃ (ts : List Addr) (x' z' : Int) (v4 v5 v6 : Option V), σ = [some (.ref a), some (.int (0 + (i : Int))), some (.ref p), some (.ref D), v4, v5, v6, v7] ∧ ts.length = j ∧
            G D = some (.lst (ts.map V.ref)) ∧ (∀ t ∈ ts, PairS G t) ∧ G p = some (.lst [.int x', .int y, .int z']) ∧ 0 ≤ z' ∧ z' ≤ 8 * (j : Int) ∧ Same H G)
          ⟨[], x, 0, v4, v5, v6, rfl, rfl, upd_same, fun t ht => (nomatch ht), at0, by omega, by omega, sm0⟩ ?_ ?_⟩
        · rintro j σ G hj ⟨ts, x', z', v4, v5, v6, rfl, tl, gD, gts, gp, z0, zb, gH⟩
          refine ⟨_, rfl, p, x', y, z', rfl, gp, z0, by omega, fun G1 n1 x1 z1 but1 at1 a1 b1 c1 => ?_⟩
          refine ⟨_, rfl, p, x1, y, z1, rfl, at1, a1, by omega, fun G2 n2 x2 z2 but2 at2 a2 b2 c2 => ?_⟩
          refine ⟨(by show 2 ≤ sizeLine; decide), fun q hq => ?_⟩
          refine ⟨q, _, rfl, SqT.of upd_same, rfl, _, _, rfl, _, _, rfl, rfl, ?_⟩
          have kq2 : Keep G (upd G2 q (.tup [.int n1, .int n2])) := ((but_keep but1 gp).trans (but_keep but2 at1)).trans (same_keep (same_new hq))
          have gD3 : upd G2 q (.tup [.int n1, .int n2]) D = some (.lst (ts.map V.ref)) := (same_new hq) _ _ (but2 _ _ (Ne.symm pD) (but1 _ _ (Ne.symm pD) gD))
          have gp3 : upd G2 q (.tup [.int n1, .int n2]) p = some (.lst [.int x2, .int y, .int z2]) := (same_new hq) _ _ at2
          have gH3 : Same H (upd G2 q (.tup [.int n1, .int n2])) := fun b o e => by
            have nb : b ≠ p := fun z => by rw [z, p0] at e; cases e
            exact (same_new hq) _ _ (but2 _ _ nb (but1 _ _ nb (gH _ _ e)))
          generalize upd G2 q (HO.tup [V.int n1, V.int n2]) = G3 at *
          refine ⟨_, rfl, .inl ⟨rfl, _, SqL.of gD3⟩, _, rfl, _, rfl, _, rfl, rfl, .inr ⟨_, rfl, _, _, rfl, rfl, (by show 2 ≤ sizeLine; decide), fun t ht => ?_⟩⟩
          have st : Same G3 (upd G3 t (.tup [.int n1, .int (n2 + (if decide (V.int n2 = V.int 0) = true then 1 else 0))])) := same_new ht
          have gD4 := st _ _ gD3
          have tD : t ≠ D := fun z => by
            rw [z, gD3] at ht
            cases ht
          have pt : p ≠ t := fun z => by
            rw [← z, gp3] at ht
            cases ht
          refine ⟨D, _, _, rfl, rfl, gD4, (by rw [List.length_map]; exact small1000 (by omega)), ?_⟩
          have kk : Keep _ (upd (upd G3 t (.tup [.int n1, .int (n2 + (if decide (V.int n2 = V.int 0) = true then 1 else 0))])) D (.lst (ts.map V.ref ++ [.ref t]))) := keep_lst gD4
          refine ⟨ts ++ [t], x2, z2, _, _, _, rfl, by rw [List.length_append, tl]; rfl, ?_, fun r hr => ?_, ?_, a2, by omega, fun b o e => ?_⟩
          · rw [List.map_append]
            exact upd_same
          · rcases List.mem_append.mp hr with h | h
            · exact (gts r h).keep fun o e n => kk _ _ (st _ _ (kq2 _ _ e n)) n
            · have e : r = t := by simpa using h
              rw [e]
              refine PairS.keep (H := upd G3 t (.tup [.int n1, .int (n2 + (if decide (V.int n2 = V.int 0) = true then 1 else 0))])) ⟨n1, _, upd_same, ?_, pow_le c1 (by decide), ?_⟩ (fun o e n => kk _ _ e n)
              · by_cases h0 : n2 = 0
                · rw [h0]; simp
                · simp [h0]
              · by_cases h0 : n2 = 0
                · rw [h0]; simp
                · simp only [decI, decide_eq_true_eq, h0, if_false]
                  rw [Int.add_zero]
                  exact pow_le c2 (by decide)
          · rw [upd_ne pD, upd_ne pt]
            exact gp3
          · rw [upd_ne (fun z => by rw [z, D0] at e; cases e)]
            exact st _ _ (gH3 _ _ e)
        · rintro σ G ⟨ts, x', z', v4, v5, v6, rfl, tl, gD, gts, gp, z0, zb, gH⟩
          exact ⟨ts, v4, v5, v6, rfl, tl, gD, gts, gH⟩
      · rintro σ G ⟨ts, v4, v5, v6, rfl, tl, gD, gts, gH⟩
        obtain ⟨q0, q1, q2, q3, rfl⟩ : ∃ q0 q1 q2 q3, ts = [q0, q1, q2, q3] := by
          match ts, tl with
          | [q0, q1, q2, q3], _ => exact ⟨q0, q1, q2, q3, rfl⟩
        obtain ⟨n0, e0, h0, z0, s0, w0⟩ := gts q0 (by simp)
        obtain ⟨n1, e1, h1, z1, s1, w1⟩ := gts q1 (by simp)
        -- seven times the first one
        refine ⟨_, rfl, .inl ⟨rfl, _, SqL.of gD⟩, ?_⟩
        refine ⟨_, rfl, D, _, _, _, rfl, rfl, SqL.of gD, at_k (by decide) rfl, q0, _, _, _, rfl, rfl, SqT.of h0, at_k (by decide) rfl, _, _, rfl, rfl, .inr ⟨by decide, by decide⟩, ?_⟩
        refine ⟨_, rfl, D, _, _, _, rfl, rfl, SqL.of gD, at_k (by decide) rfl, q0, _, _, _, rfl, rfl, SqT.of h0, at_k (by decide) rfl, _, _, rfl, rfl, .inr ⟨by decide, by decide⟩, (by show 2 ≤ sizeLine; decide), fun q4 hq4 => ?_⟩
        have st4 : Same G (upd G q4 (.tup [.int (n0 * 7), .int (e0 * 7)])) := same_new hq4
        have gD4 := st4 _ _ gD
        refine ⟨D, _, _, rfl, rfl, gD4, (by show 4 < sizeLine; decide), ?_⟩
        have kk4 : Keep (upd G q4 (.tup [.int (n0 * 7), .int (e0 * 7)])) (upd (upd G q4 (.tup [.int (n0 * 7), .int (e0 * 7)])) D (.lst ([q0, q1, q2, q3].map V.ref ++ [.ref q4]))) := keep_lst gD4
        have k4 : Keep G (upd (upd G q4 (.tup [.int (n0 * 7), .int (e0 * 7)])) D (.lst ([q0, q1, q2, q3].map V.ref ++ [.ref q4]))) := (same_keep st4).trans kk4
        have gD5 : upd (upd G q4 (.tup [.int (n0 * 7), .int (e0 * 7)])) D (.lst ([q0, q1, q2, q3].map V.ref ++ [.ref q4])) D = some (.lst [.ref q0, .ref q1, .ref q2, .ref q3, .ref q4]) := upd_same
        have p4 : PairAt (upd (upd G q4 (.tup [.int (n0 * 7), .int (e0 * 7)])) D (.lst ([q0, q1, q2, q3].map V.ref ++ [.ref q4]))) q4 :=
          ⟨_, _, kk4 _ _ upd_same (fun _ z => nomatch z), Int.mul_ne_zero z0 (by decide), pow_le (wide_lt (b := 3) s0 (by decide)) (by decide), pow_le (wide_lt (b := 3) w0 (by decide)) (by decide)⟩
        have p03 : ∀ r ∈ [q0, q1, q2, q3], PairAt (upd (upd G q4 (.tup [.int (n0 * 7), .int (e0 * 7)])) D (.lst ([q0, q1, q2, q3].map V.ref ++ [.ref q4]))) r := fun r hr => (gts r hr).wide.mono k4
        have h1' := k4 _ _ h1 (fun _ z => nomatch z)
        have gH5 : Same H (upd (upd G q4 (.tup [.int (n0 * 7), .int (e0 * 7)])) D (.lst ([q0, q1, q2, q3].map V.ref ++ [.ref q4]))) := fun b o e => by
          rw [upd_ne (fun z => by rw [z, D0] at e; cases e)]
          exact st4 _ _ (gH _ _ e)
        generalize upd (upd G q4 (HO.tup [V.int (n0 * 7), V.int (e0 * 7)])) D (HO.lst (List.map V.ref [q0, q1, q2, q3] ++ [V.ref q4])) = G5 at *
        -- the number 0
        refine ⟨fun σ F' => ∃ (q5 : Addr), σ = [some (.ref a), some (.int (0 + (i : Int))), some (.ref p), some (.ref D), v4, v5, v6, v7] ∧ F' D = some (.lst ([q0, q1, q2, q3, q4, q5].map V.ref)) ∧ (∀ r ∈ [q0, q1, q2, q3, q4, q5], PairAt F' r) ∧ Same H F', ?_, ?_⟩
        · refine ⟨_, rfl, .inl ⟨rfl, _, SqL.of gD5⟩, ?_⟩
          refine ⟨_, rfl, D, _, _, _, rfl, rfl, SqL.of gD5, at_k (by decide) rfl, q1, _, _, _, rfl, rfl, SqT.of h1', at_k (by decide) rfl, (by show 2 ≤ sizeLine; decide), fun q5 hq5 => ?_⟩
          have st5 : Same G5 (upd G5 q5 (.tup [.int 0, .int e1])) := same_new hq5
          have gD6 := st5 _ _ gD5
          refine ⟨D, _, _, rfl, rfl, gD6, (by show 5 < sizeLine; decide), ?_⟩
          have kk5 : Keep (upd G5 q5 (.tup [.int 0, .int e1])) (upd (upd G5 q5 (.tup [.int 0, .int e1])) D (.lst ([.ref q0, .ref q1, .ref q2, .ref q3, .ref q4] ++ [.ref q5]))) := keep_lst gD6
          refine ⟨q5, rfl, upd_same, fun r hr => ?_, fun b o e => ?_⟩
          · rcases (show r ∈ [q0, q1, q2, q3] ∨ r = q4 ∨ r = q5 by simpa [or_assoc] using hr) with h | rfl | rfl
            · exact (p03 r h).mono ((same_keep st5).trans kk5)
            · exact p4.mono ((same_keep st5).trans kk5)
            · exact ⟨_, _, kk5 _ _ upd_same (fun _ z => nomatch z), z1, by decide +kernel, pow_le w1 (by decide)⟩
          · rw [upd_ne (fun z => by rw [z, D0] at e; cases e)]
            exact st5 _ _ (gH5 _ _ e)
        · rintro σ F' ⟨q5, rfl, fD, fts, fH⟩
          refine ⟨_, rfl, D, rfl, ⟨_, SqL.of fD⟩, for_list (K := K) (a := D) (xs := [q0, q1, q2, q3, q4, q5].map V.ref) (fun _ σ G' => ∃ v5 v6 v7 : Option V, σ = [some (.ref a), some (.int (0 + (i : Int))), some (.ref p), some (.ref D), v4, v5, v6, v7] ∧ Same F' G')
            ⟨v5, v6, v7, rfl, Same.refl F'⟩ (fun _ σ G' _ ⟨_, _, _, _, sm⟩ => SqL.of (sm _ _ fD)) ?_ ?_⟩
          · rintro j v σ G' hv ⟨v5, v6, v7, rfl, sm⟩
            obtain ⟨t, ht, rfl⟩ := ref_at hv
            obtain ⟨n, e, hte, ne, sn, se⟩ := fts t ht
            have te := sm _ _ hte
            have up : ∀ {i : Int}, i.natAbs < 2 ^ 180 → i.natAbs < 2 ^ 4000 := fun h => pow_le h (by decide)
            have upk : ∀ {i : Int}, i.natAbs < 2 ^ 180 → i.natAbs < 2 ^ 1000 := fun h => pow_le h (by decide)
            -- told = Share(one[0], one[1])
            refine ⟨_, rfl, t, _, _, _, rfl, rfl, SqT.of te, at_k (by decide) rfl, _, rfl, t, _, _, _, rfl, rfl, SqT.of te, at_k (by decide) rfl, fun x1 d1 nx1 nd1 _ => ⟨x1, d1, n, e, rfl, upd_same, up sn, up se, fun z => absurd z ne, fun _ L1 g1 k1 => ⟨rfl, ?_⟩⟩⟩
            have l1 : Same G' L1 := made_same (C := C) nx1 nd1 k1
            have sh1 : ShAt C L1 x1 (lowT n e) (lowB n e) := ⟨d1, g1⟩
            have te1 := l1 _ _ te
            refine ⟨_, rfl, x1, C, d1, _, _, rfl, g1, T.cl, T.nT, shf_top .., _, rfl, x1, C, d1, _, _, rfl, g1, T.cl, T.nB, shf_bottom .., (by show 2 ≤ sizeLine; decide), fun u1 hu1 => ?_⟩
            have l2 : Same L1 (upd L1 u1 (.tup [.int (lowT n e), .int (lowB n e)])) := same_new hu1
            have te2 := l2 _ _ te1
            refine ⟨_, rfl, t, _, _, _, rfl, rfl, SqT.of te2, at_k (by decide) rfl, _, rfl, t, _, _, _, rfl, rfl, SqT.of te2, at_k (by decide) rfl, n, e, rfl, ne, up sn, up se, fun u2 hu2 => ?_⟩
            have l3 := same_new (o := .tup [.int (lowT n e), .int (lowB n e)]) hu2
            refine ⟨_, _, Dp.tup (SqT.of (l3 _ _ upd_same)) (.cons (.int _) (.cons (.int _) .nil)), Dp.tup (SqT.of upd_same) (.cons (.int _) (.cons (.int _) .nil)), rfl, rfl, _, rfl, ?_⟩
            refine iteFc (by rw [nums2]; simp) ?_
            have sh3 := (sh1.mono l2).mono l3
            refine ⟨_, rfl, x1, _, _, rfl, sh3, upk (Nat.lt_of_le_of_lt (lowT_le ne) sn), upk (Nat.lt_of_le_of_lt (lowB_le ne) se), (by have := lowB_pos (a := n) ne; omega), fun L4 l4 => ?_⟩
            refine ⟨true, rfl, iteF ?_⟩
            have te4 := l4 _ _ (l3 _ _ te2)
            have lG4 : Same G' L4 := ((l1.trans l2).trans l3).trans l4
            -- Share(one[0]) != Share(one[0], 1)
            refine ⟨_, rfl, t, _, _, _, rfl, rfl, SqT.of te4, at_k (by decide) rfl, fun x2 d2 nx2 nd2 _ => ⟨x2, d2, n, 1, rfl, upd_same, up sn, by decide +kernel, fun z => absurd z (by decide), fun _ L5 g5 k5 => ⟨rfl, ?_⟩⟩⟩
            have l5 : Same L4 L5 := made_same (C := C) nx2 nd2 k5
            have te5 := l5 _ _ te4
            refine ⟨_, rfl, t, _, _, _, rfl, rfl, SqT.of te5, at_k (by decide) rfl, fun x3 d3 nx3 nd3 _ => ⟨x3, d3, n, 1, rfl, upd_same, up sn, by decide +kernel, fun z => absurd z (by decide), fun _ L6 g6 k6 => ⟨rfl, ?_⟩⟩⟩
            have l6 : Same L5 L6 := made_same (C := C) nx3 nd3 k6
            refine ⟨x2, x3, _, _, _, _, rfl, rfl, ⟨d2, l6 _ _ g5⟩, ⟨d3, g6⟩, _, rfl, iteFc (by simp) ?_⟩
            have lG6 : Same G' L6 := (lG4.trans l5).trans l6
            have lF6 : Same F' L6 := sm.trans lG6
            -- all of them beside it
            refine ⟨_, rfl, D, rfl, ⟨_, SqL.of (lF6 _ _ fD)⟩, fun R hR => ?_⟩
            refine lc_list (K := K) (a := D) (xs := [q0, q1, q2, q3, q4, q5].map V.ref) (fun k M' => M' R = some (.lst ((List.replicate k true).map V.bl)) ∧ Same L6 M') ⟨upd_same, same_new hR⟩ (fun k M' _ h => SqL.of (h.2 _ _ (lF6 _ _ fD))) ?_ ?_
            · rintro k v M' hv ⟨hR', lM⟩
              obtain ⟨t', ht', rfl⟩ := ref_at hv
              obtain ⟨n', e', hte', ne', sn', se'⟩ := fts t' ht'
              refine ⟨rfl, ?_⟩
              refine ⟨_, rfl, _, rfl, t, t', n, e, n', e', rfl, lM _ _ (lF6 _ _ hte), lM _ _ (lF6 _ _ hte'), ne, ne', sn, se, sn', se', fun M2 lM2 => ?_⟩
              have hR2 := lM2 _ _ hR'
              have kl : k < 6 := by
                have := (List.getElem?_eq_some_iff.mp hv).1
                simpa using this
              refine ⟨_, hR2, (by rw [List.length_map, List.length_replicate]; exact small1000 (by omega)), ?_, fun b o eb => ?_⟩
              · rw [show (List.replicate (k + 1) true).map V.bl = (List.replicate k true).map V.bl ++ [V.bl true] by rw [List.replicate_succ', List.map_append]; rfl]
                exact upd_same
              · rw [upd_ne (ne_of_none eb hR)]
                exact lM2 _ _ (lM _ _ eb)
            · rintro M' ⟨hR', lM⟩
              refine ⟨R, _, rfl, SqL.of hR', _, rfl, ?_⟩
              rw [show (List.replicate ([q0, q1, q2, q3, q4, q5].map V.ref).length true).all id = true from by simp]
              exact iteF ⟨_, _, _, rfl, sm.trans (lG6.trans lM)⟩
          · rintro σ G' ⟨v5, v6, v7, rfl, sm⟩
            have gD' := sm _ _ fD
            refine ⟨_, rfl, _, rfl, D, _, rfl, SqL.of gD', fun S hS => ?_⟩
            have s1' : Same G' (upd G' S (.lst (cutV ([q0, q1, q2, q3, q4, q5].map V.ref) none (some 3)))) := same_new hS
            have atS : upd G' S (.lst (cutV ([q0, q1, q2, q3, q4, q5].map V.ref) none (some 3))) S = some (.lst ([q0, q1, q2].map V.ref)) := upd_same
            generalize upd G' S (HO.lst (cutV (List.map V.ref [q0, q1, q2, q3, q4, q5]) none (some 3))) = G6 at *
            have s1' : Same G' G6 := s1'
            have lF6 : Same F' G6 := sm.trans s1'
            refine ⟨S, rfl, ⟨_, SqL.of atS⟩, fun R hR => ?_⟩
            have rS : R ≠ S := fun z => by
              rw [z, atS] at hR
              cases hR
            refine lc_list (K := K) (a := S) (xs := [q0, q1, q2].map V.ref) (fun k M' => ∃ ps : List Addr, ps.length = k ∧ M' R = some (.lst (ps.map V.ref)) ∧ (∀ r ∈ ps, LowAt C M' r) ∧ Same G6 M') ⟨[], rfl, upd_same, fun r hr => (nomatch hr), same_new hR⟩
              (fun k M' _ ⟨_, _, _, _, lM⟩ => SqL.of (lM _ _ atS)) ?_ ?_
            · rintro k v M' hv ⟨ps, pl, hR', hps, lM⟩
              obtain ⟨t, ht, rfl⟩ := ref_at hv
              have kl : k < 3 := by
                have := (List.getElem?_eq_some_iff.mp hv).1
                simpa using this
              obtain ⟨n, e, hte, ne, sn, se⟩ := fts t (by
                simp only [List.mem_cons, List.not_mem_nil, or_false] at ht ⊢
                rcases ht with h | h | h
                · exact .inl h
                · exact .inr (.inl h)
                · exact .inr (.inr (.inl h)))
              have te := lM _ _ (lF6 _ _ hte)
              refine ⟨rfl, ?_⟩
              refine ⟨_, rfl, t, _, _, _, rfl, rfl, SqT.of te, at_k (by decide) rfl, _, rfl, t, _, _, _, rfl, rfl, SqT.of te, at_k (by decide) rfl, fun x1 d1 nx1 nd1 _ => ⟨x1, d1, n, e, rfl, upd_same, pow_le sn (by decide), pow_le se (by decide), fun z => absurd z ne, fun _ L1 g1 k1 => ⟨rfl, ?_⟩⟩⟩
              have l1 : Same M' L1 := made_same (C := C) nx1 nd1 k1
              have hR2 := l1 _ _ hR'
              refine ⟨_, hR2, (by rw [List.length_map]; exact small1000 (by omega)), ps ++ [x1], by rw [List.length_append, pl]; rfl, ?_, fun r hr => ?_, fun b o eb => ?_⟩
              · rw [List.map_append]
                exact upd_same
              · have kk := keep_lst (ys := ps.map V.ref ++ [V.ref x1]) hR2
                rcases List.mem_append.mp hr with h | h
                · obtain ⟨n', e', r1, r2, r3, r4⟩ := hps r h
                  exact ⟨n', e', r1, r2, r3, (r4.mono l1).kept kk⟩
                · have ex : r = x1 := by simpa using h
                  rw [ex]
                  exact ⟨n, e, ne, sn, se, ShAt.kept ⟨d1, g1⟩ kk⟩
              · rw [upd_ne (ne_of_none eb hR)]
                exact l1 _ _ (lM _ _ eb)
            · rintro M' ⟨ps, pl, hR', hps, lM⟩
              obtain ⟨x1, x2, x3, rfl⟩ : ∃ x1 x2 x3, ps = [x1, x2, x3] := by
                match ps, pl with
                | [x1, x2, x3], _ => exact ⟨x1, x2, x3, rfl⟩
              obtain ⟨n1', e1', ne1, sn1, se1, y1⟩ := hps x1 (by simp)
              obtain ⟨n2', e2', ne2, sn2, se2, y2⟩ := hps x2 (by simp)
              obtain ⟨n3', e3', ne3, sn3, se3, y3⟩ := hps x3 (by simp)
              have lt : ∀ {n e : Int}, e ≠ 0 → n.natAbs < 2 ^ 180 → (lowT n e).natAbs < 2 ^ 180 := fun h1 h2 => Nat.lt_of_le_of_lt (lowT_le h1) h2
              have lb : ∀ {n e : Int}, e ≠ 0 → e.natAbs < 2 ^ 180 → (lowB n e).natAbs < 2 ^ 180 := fun h1 h2 => Nat.lt_of_le_of_lt (lowB_le h1) h2
              refine ⟨R, x1, x2, x3, _, _, _, _, _, _, rfl, SqL.of hR', y1, y2, y3, lowB_pos ne1, lowB_pos ne2, lowB_pos ne3, lt ne1 sn1, lb ne1 se1, lt ne2 sn2, lb ne2 se2, lt ne3 sn3, lb ne3 se3, low_zero ne3, fun M2 lM2 => ?_⟩
              refine ⟨true, rfl, iteF ⟨_, _, _, _, _, _, _, rfl, ((fH.trans lF6).trans lM).trans lM2⟩⟩
    · rintro σ H' ⟨v1, v2, v3, v4, v5, v6, v7, rfl, sm⟩
      exact kq _
end
end K01
namespace K01
open PySem PySem.Spec PyProof.Rows L2
/-- an error of the class at S is what «except S» names -/
theorem exm_own {K : PySem.W.Frag} {S : Addr} (h1 : PySem.W.subIn K (.ref S) (.type "BaseException") = some true) (h2 : PySem.W.isClsIn K S = true) (h3 : PySem.W.typeIn K (.ref S) = some (.type "type")) (h4 : PySem.W.subIn K (.ref S) (.ref S) = some true) :
    PySem.W.exmOne K (.ref S) (.ref S) = some true := by
  have a : (PySem.W.subIn K (.ref S) (.type "BaseException") == some true) = true := by rw [h1] <;> rfl
  have b : ((PySem.W.clsIn K S).isSome && PySem.W.typeIn K (.ref S) == some (.type "type")) = true := by
    rw [show (PySem.W.clsIn K S).isSome = true from h2, h3] <;> rfl
  show (if (PySem.W.subIn K (.ref S) (.type "BaseException") == some true) = true then (if ((PySem.W.clsIn K S).isSome && PySem.W.typeIn K (.ref S) == some (.type "type")) = true then PySem.W.subIn K (.ref S) (.ref S) else none) else none) = some true
  rw [if_pos a, if_pos b]
  exact h4

theorem all_mk {P : Program} {w : World} {K : PySem.W.Frag} {h : Heap} {mg : Str → Option Value} {fa C CN : Addr} (X : K.In h) (G : h.Ns mainGlobals mg) (hfa : mg "law" = some (.ref fa))
    {fI : Addr} {odI anI : Option Addr} {slI : Array (Option Value)} {ocI kVI dcI pmI cdI ctI : Value}
    {TD : Addr} {ocTD : Value} {odTD : Option Addr} {nTD : Nat} {slTD : Array (Option Value)} {tkTD : Tok}
    {fE : Addr} {odE anE : Option Addr} {slE : Array (Option Value)} {ocE kVE dcE pmE cdE ctE : Value}
    {fW : Addr} {odW anW : Option Addr} {slW : Array (Option Value)} {ocW kVW dcW pmW cdW ctW : Value}
    {fP : Addr} {odP anP : Option Addr} {slP : Array (Option Value)} {ocP kVP dcP pmP cdP ctP : Value}
    {fS : Addr} {odS anS : Option Addr} {slS : Array (Option Value)} {ocS kVS dcS pmS cdS ctS : Value}
    {fT : Addr} {odT anT : Option Addr} {slT : Array (Option Value)} {ocT kVT dcT pmT cdT ctT : Value}
    {fO : Addr} {odO anO : Option Addr} {slO : Array (Option Value)} {ocO kVO dcO pmO cdO ctO : Value}
    {fL : Addr} {odL anL : Option Addr} {slL : Array (Option Value)} {ocL kVL dcL pmL cdL ctL : Value}
    {fC : Addr} {odC anC : Option Addr} {slC : Array (Option Value)} {ocC kVC dcC pmC cdC ctC : Value}
    {fM : Addr} {odM anM : Option Addr} {slM : Array (Option Value)} {ocM kVM dcM pmM cdM ctM : Value}
    {fU : Addr} {odU anU : Option Addr} {slU : Array (Option Value)} {ocU kVU dcU pmU cdU ctU : Value}
    {fN : Addr} {odN anN : Option Addr} {slN : Array (Option Value)} {ocN kVN dcN pmN cdN ctN : Value}
    {fV : Addr} {odV anV : Option Addr} {slV : Array (Option Value)} {ocV kVV dcV pmV cdV ctV : Value}
    {fY : Addr} {odY anY : Option Addr} {slY : Array (Option Value)} {ocY kVY dcY pmY cdY ctY : Value}
    {fR : Addr} {odR anR : Option Addr} {slR : Array (Option Value)} {ocR kVR dcR pmR cdR ctR : Value}
    {fB : Addr} {odB anB : Option Addr} {slB : Array (Option Value)} {ocB kVB dcB pmB cdB ctB : Value}
    {fX : Addr} {odX anX : Option Addr} {slX : Array (Option Value)} {ocX kVX dcX pmX cdX ctX : Value}
    {fZ : Addr} {odZ anZ : Option Addr} {slZ : Array (Option Value)} {ocZ kVZ dcZ pmZ cdZ ctZ : Value}
    (aSh : PySem.W.nsIn K mainGlobals "Share" = some (some (.ref C)))
    (aNo : PySem.W.nsIn K mainGlobals "NoShare" = some (some (.ref CN)))
    (aG : PySem.W.nsIn K mainGlobals "gcd" = some (some (.builtin "math.gcd")))
    (z_isinstance : PySem.W.nsIn K mainGlobals "isinstance" = some none)
    (z_int : PySem.W.nsIn K mainGlobals "int" = some none)
    (z_bool : PySem.W.nsIn K mainGlobals "bool" = some none)
    (z_len : PySem.W.nsIn K mainGlobals "len" = some none)
    (z_abs : PySem.W.nsIn K mainGlobals "abs" = some none)
    (z_range : PySem.W.nsIn K mainGlobals "range" = some none)
    (z_max : PySem.W.nsIn K mainGlobals "max" = some none)
    (z_min : PySem.W.nsIn K mainGlobals "min" = some none)
    (z_all : PySem.W.nsIn K mainGlobals "all" = some none)
    (z_repr : PySem.W.nsIn K mainGlobals "repr" = some none)
    (aI : PySem.W.findIn K (.ref C) "__init__" = some (some (.ref fI)))
    (iI : PySem.W.isFn K (.ref fI) = true)
    (lI : K.lookup fI = some ⟨ocI, odI, .func (PySem.W.fnOf "__init__" "Share.__init__" (defArgs sInit) (defBody sInit) (defScope sInit) (.ref TD) kVI dcI pmI anI cdI ctI), slI⟩)
    (cI : PySem.W.codeIn K cdI "Share.__init__" = true)
    (kI : PySem.W.keepIn K (.ref fI) = true)
    (lTD : K.lookup TD = some ⟨ocTD, odTD, .seq [Value.int 1 tkTD].toArray nTD, slTD⟩)
    (aE : PySem.W.findIn K (.ref C) "__eq__" = some (some (.ref fE)))
    (iE : PySem.W.isFn K (.ref fE) = true)
    (lE : K.lookup fE = some ⟨ocE, odE, .func (PySem.W.fnOf "__eq__" "Share.__eq__" (defArgs sEq) (defBody sEq) (defScope sEq) .none kVE dcE pmE anE cdE ctE), slE⟩)
    (cE : PySem.W.codeIn K cdE "Share.__eq__" = true)
    (kE : PySem.W.keepIn K (.ref fE) = true)
    (aW : PySem.W.nsIn K mainGlobals "is_whole" = some (some (.ref fW)))
    (lW : K.lookup fW = some ⟨ocW, odW, .func (PySem.W.fnOf "is_whole" "is_whole" (defArgs sWhole) (defBody sWhole) (defScope sWhole) .none kVW dcW pmW anW cdW ctW), slW⟩)
    (cW : PySem.W.codeIn K cdW "is_whole" = true)
    (kW : PySem.W.keepIn K (.ref fW) = true)
    (aP : PySem.W.nsIn K mainGlobals "plus" = some (some (.ref fP)))
    (lP : K.lookup fP = some ⟨ocP, odP, .func (PySem.W.fnOf "plus" "plus" (defArgs sPlus) (defBody sPlus) (defScope sPlus) .none kVP dcP pmP anP cdP ctP), slP⟩)
    (cP : PySem.W.codeIn K cdP "plus" = true)
    (kP : PySem.W.keepIn K (.ref fP) = true)
    (aS : PySem.W.nsIn K mainGlobals "minus" = some (some (.ref fS)))
    (lS : K.lookup fS = some ⟨ocS, odS, .func (PySem.W.fnOf "minus" "minus" (defArgs sMinus) (defBody sMinus) (defScope sMinus) .none kVS dcS pmS anS cdS ctS), slS⟩)
    (cS : PySem.W.codeIn K cdS "minus" = true)
    (kS : PySem.W.keepIn K (.ref fS) = true)
    (aT : PySem.W.nsIn K mainGlobals "times" = some (some (.ref fT)))
    (lT : K.lookup fT = some ⟨ocT, odT, .func (PySem.W.fnOf "times" "times" (defArgs sTimes) (defBody sTimes) (defScope sTimes) .none kVT dcT pmT anT cdT ctT), slT⟩)
    (cT : PySem.W.codeIn K cdT "times" = true)
    (kT : PySem.W.keepIn K (.ref fT) = true)
    (aO : PySem.W.nsIn K mainGlobals "over" = some (some (.ref fO)))
    (lO : K.lookup fO = some ⟨ocO, odO, .func (PySem.W.fnOf "over" "over" (defArgs sOver) (defBody sOver) (defScope sOver) .none kVO dcO pmO anO cdO ctO), slO⟩)
    (cO : PySem.W.codeIn K cdO "over" = true)
    (kO : PySem.W.keepIn K (.ref fO) = true)
    (aL : PySem.W.nsIn K mainGlobals "less" = some (some (.ref fL)))
    (lL : K.lookup fL = some ⟨ocL, odL, .func (PySem.W.fnOf "less" "less" (defArgs sLess) (defBody sLess) (defScope sLess) .none kVL dcL pmL anL cdL ctL), slL⟩)
    (cL : PySem.W.codeIn K cdL "less" = true)
    (kL : PySem.W.keepIn K (.ref fL) = true)
    (aC : PySem.W.nsIn K mainGlobals "_law_cell_at" = some (some (.ref fC)))
    (lC : K.lookup fC = some ⟨ocC, odC, .func (PySem.W.fnOf "_law_cell_at" "_law_cell_at" (defArgs sCell) (defBody sCell) (defScope sCell) .none kVC dcC pmC anC cdC ctC), slC⟩)
    (cC : PySem.W.codeIn K cdC "_law_cell_at" = true)
    (kC : PySem.W.keepIn K (.ref fC) = true)
    (aM : PySem.W.nsIn K mainGlobals "_law_mixed" = some (some (.ref fM)))
    (lM : K.lookup fM = some ⟨ocM, odM, .func (PySem.W.fnOf "_law_mixed" "_law_mixed" (defArgs sMixed) (defBody sMixed) (defScope sMixed) .none kVM dcM pmM anM cdM ctM), slM⟩)
    (cM : PySem.W.codeIn K cdM "_law_mixed" = true)
    (kM : PySem.W.keepIn K (.ref fM) = true)
    (aU : PySem.W.nsIn K mainGlobals "_law_source" = some (some (.ref fU)))
    (lU : K.lookup fU = some ⟨ocU, odU, .func (PySem.W.fnOf "_law_source" "_law_source" (defArgs sSource) (defBody sSource) (defScope sSource) .none kVU dcU pmU anU cdU ctU), slU⟩)
    (cU : PySem.W.codeIn K cdU "_law_source" = true)
    (kU : PySem.W.keepIn K (.ref fU) = true)
    (aN : PySem.W.nsIn K mainGlobals "_law_next" = some (some (.ref fN)))
    (lN : K.lookup fN = some ⟨ocN, odN, .func (PySem.W.fnOf "_law_next" "_law_next" (defArgs sNext) (defBody sNext) (defScope sNext) .none kVN dcN pmN anN cdN ctN), slN⟩)
    (cN : PySem.W.codeIn K cdN "_law_next" = true)
    (kN : PySem.W.keepIn K (.ref fN) = true)
    (aV : PySem.W.nsIn K mainGlobals "_law_lowered" = some (some (.ref fV)))
    (lV : K.lookup fV = some ⟨ocV, odV, .func (PySem.W.fnOf "_law_lowered" "_law_lowered" (defArgs sLowered) (defBody sLowered) (defScope sLowered) .none kVV dcV pmV anV cdV ctV), slV⟩)
    (cV : PySem.W.codeIn K cdV "_law_lowered" = true)
    (kV : PySem.W.keepIn K (.ref fV) = true)
    (aY : PySem.W.nsIn K mainGlobals "_law_number" = some (some (.ref fY)))
    (lY : K.lookup fY = some ⟨ocY, odY, .func (PySem.W.fnOf "_law_number" "_law_number" (defArgs sNumber) (defBody sNumber) (defScope sNumber) .none kVY dcY pmY anY cdY ctY), slY⟩)
    (cY : PySem.W.codeIn K cdY "_law_number" = true)
    (kY : PySem.W.keepIn K (.ref fY) = true)
    (aR : PySem.W.nsIn K mainGlobals "_law_refused" = some (some (.ref fR)))
    (lR : K.lookup fR = some ⟨ocR, odR, .func (PySem.W.fnOf "_law_refused" "_law_refused" (defArgs sRefused) (defBody sRefused) (defScope sRefused) .none kVR dcR pmR anR cdR ctR), slR⟩)
    (cR : PySem.W.codeIn K cdR "_law_refused" = true)
    (kR : PySem.W.keepIn K (.ref fR) = true)
    (aB : PySem.W.nsIn K mainGlobals "_law_two_right" = some (some (.ref fB)))
    (lB : K.lookup fB = some ⟨ocB, odB, .func (PySem.W.fnOf "_law_two_right" "_law_two_right" (defArgs sTwo) (defBody sTwo) (defScope sTwo) .none kVB dcB pmB anB cdB ctB), slB⟩)
    (cB : PySem.W.codeIn K cdB "_law_two_right" = true)
    (kB : PySem.W.keepIn K (.ref fB) = true)
    (aX : PySem.W.nsIn K mainGlobals "_law_order_right" = some (some (.ref fX)))
    (lX : K.lookup fX = some ⟨ocX, odX, .func (PySem.W.fnOf "_law_order_right" "_law_order_right" (defArgs sOrder) (defBody sOrder) (defScope sOrder) .none kVX dcX pmX anX cdX ctX), slX⟩)
    (cX : PySem.W.codeIn K cdX "_law_order_right" = true)
    (kX : PySem.W.keepIn K (.ref fX) = true)
    (aZ : PySem.W.nsIn K mainGlobals "law" = some (some (.ref fZ)))
    (lZ : K.lookup fZ = some ⟨ocZ, odZ, .func (PySem.W.fnOf "law" "law" (defArgs sLaw) (defBody sLaw) (defScope sLaw) .none kVZ dcZ pmZ anZ cdZ ctZ), slZ⟩)
    (cZ : PySem.W.codeIn K cdZ "law" = true)
    (kZ : PySem.W.keepIn K (.ref fZ) = true)
    (pg : PySem.W.plainGet K C Str.empty = true)
    (hd : PySem.W.hasDictIn K C = true)
    (po : PySem.W.plainOver K C = true)
    (sa : PySem.W.findIn K (.ref C) "__setattr__" = some (some (.builtin "object.__setattr__")))
    (mk : PySem.W.makesIn K C = true)
    (kc : PySem.W.keepIn K (.ref C) = true)
    (nT : PySem.W.findIn K (.ref C) "top" = some none)
    (nB : PySem.W.findIn K (.ref C) "bottom" = some none)
    (gc : PySem.W.findIn K (.ref C) "__class__" = some (some (.builtin "object.__class__")))
    (gs : PySem.W.specialIn K (.builtin "object.__class__") "__get__" = some (some (.builtin "getset_descriptor.__get__")))
    (gt : PySem.W.takesIn K (.builtin "object.__class__") = some true)
    (gm : PySem.W.mroIn K C (.type "object") = some true)
    (me : PySem.W.kitOne K (.ref C) (.ref C) = some true)
    (mt : PySem.W.kitOne K (.type "tuple") (.ref C) = some false)
    (ut : PySem.W.subIn K (.type "tuple") (.ref C) = some false)
    (vt : PySem.W.subIn K (.ref C) (.type "tuple") = some false)
    (mi : PySem.W.kitOne K (.type "int") (.ref C) = some false)
    (ui : PySem.W.subIn K (.type "int") (.ref C) = some false)
    (vi : PySem.W.subIn K (.ref C) (.type "int") = some false)
    (mn : PySem.W.kitOne K (.type "NoneType") (.ref C) = some false)
    (un : PySem.W.subIn K (.type "NoneType") (.ref C) = some false)
    (vn : PySem.W.subIn K (.ref C) (.type "NoneType") = some false)
    (hne : PySem.W.findIn K (.ref C) "__ne__" = some (some (.builtin "object.__ne__")))
    (hob : PySem.W.subIn K (.ref C) (.type "object") = some true)
    (xN : PySem.W.excIn K CN [.type "ValueError", .type "Exception", .type "BaseException", .type "object"] "ValueError.__new__" = true)
    (kN_ : PySem.W.keepIn K (.ref CN) = true)
    (bN_ : PySem.W.subIn K (.ref CN) (.type "BaseException") = some true)
    (tN_ : PySem.W.typeIn K (.ref CN) = some (.type "type"))
    (iN_ : PySem.W.isClsIn K CN = true)
    (sN_ : PySem.W.subIn K (.ref CN) (.ref CN) = some true)
    : ∃ fd : FuncData, (∀ (s : Shared) (v : Value), BindsTo s fd ⟨[v], []⟩ [("script", v)]) ∧ ∀ base : Heap, K.In base → base.Ns mainGlobals mg → FnG P w K mg base 7 fa fd ["script"] (spLaw K) := by
  have e := hfa.symm.trans (PySem.W.mg_of X G aZ)
  cases e
  have T : Txt K mg C CN := ⟨⟨pg, hd, po, sa⟩, nT, nB, PySem.W.mg_of X G aSh, PySem.W.mg_of X G aG, PySem.W.mg_none_of X G z_isinstance, PySem.W.mg_none_of X G z_int, PySem.W.mg_none_of X G z_bool, PySem.W.mg_of X G aNo, xN, kN_, bN_, tN_, exm_own bN_ iN_ tN_ sN_⟩
  have TI : TxtI K C := ⟨gc, gs, gt, gm, me, mt, mi, mn⟩
  have O : Odds K C := ⟨⟨mt, ut, vt⟩, ⟨mi, ui, vi⟩, ⟨mn, un, vn⟩⟩
  have Bt : TxtB mg := ⟨PySem.W.mg_none_of X G z_len, PySem.W.mg_none_of X G z_abs, PySem.W.mg_none_of X G z_range, PySem.W.mg_none_of X G z_max, PySem.W.mg_none_of X G z_min, PySem.W.mg_none_of X G z_int, PySem.W.mg_none_of X G z_all, PySem.W.mg_none_of X G z_isinstance, PySem.W.mg_none_of X G z_repr⟩
  have FI : FunD K "__init__" "Share.__init__" (defArgs sInit) (defBody sInit) (defScope sInit) [.int 1] [] fI _ := ⟨⟨_, _, _, _, _, _, _, _, _, _, rfl, lI, cI, .inr ⟨(fun z => nomatch z), TD, _, [Value.int 1 tkTD], nTD, rfl, lTD, rfl, .cons ⟨tkTD, rfl⟩ .nil⟩, .inl rfl⟩, kI⟩
  obtain ⟨ds3, rd3, bI3⟩ := FunD.binds1 (ps := ["self", "top", "bottom"]) FI 3 1 (fun z => nomatch z) rfl (fun T kV doc pm an cdv ct us its hu hi => match us, its, hu, hi with | [_, _, _], [_], _, _ => ⟨_, rfl, rfl⟩)
  cases rd3
  obtain ⟨ds2, rd2, bI2⟩ := FunD.binds1 (ps := ["self", "top", "bottom"]) FI 2 0 (fun z => nomatch z) rfl (fun T kV doc pm an cdv ct us its hu hi => match us, its, hu, hi with | [_, _], [_], _, _ => ⟨_, rfl, rfl⟩)
  obtain ⟨u0, rfl⟩ : ∃ u0, ds2 = [u0] := by
    cases rd2 with
    | cons r1 rn =>
      cases rn
      exact ⟨_, rfl⟩
  have FE := fun_mk (st := sEq) lE cE kE
  have bE := FE.binds (ps := ["self", "other"]) fun _ _ _ _ _ _ us hl => match us, hl with | [_, _], _ => rfl
  have FW := fun_mk (st := sWhole) lW cW kW
  have mW_ := PySem.W.mg_of X G aW
  have bW := FW.binds (ps := ["thing"]) fun _ _ _ _ _ _ us hl => match us, hl with | [_], _ => rfl
  have FP := fun_mk (st := sPlus) lP cP kP
  have mP_ := PySem.W.mg_of X G aP
  have bP := FP.binds (ps := ["one", "other"]) fun _ _ _ _ _ _ us hl => match us, hl with | [_, _], _ => rfl
  have FS := fun_mk (st := sMinus) lS cS kS
  have mS_ := PySem.W.mg_of X G aS
  have bS := FS.binds (ps := ["one", "other"]) fun _ _ _ _ _ _ us hl => match us, hl with | [_, _], _ => rfl
  have FT := fun_mk (st := sTimes) lT cT kT
  have mT_ := PySem.W.mg_of X G aT
  have bT := FT.binds (ps := ["one", "other"]) fun _ _ _ _ _ _ us hl => match us, hl with | [_, _], _ => rfl
  have FO := fun_mk (st := sOver) lO cO kO
  have mO_ := PySem.W.mg_of X G aO
  have bO := FO.binds (ps := ["one", "other"]) fun _ _ _ _ _ _ us hl => match us, hl with | [_, _], _ => rfl
  have FL := fun_mk (st := sLess) lL cL kL
  have mL_ := PySem.W.mg_of X G aL
  have bL := FL.binds (ps := ["one", "other"]) fun _ _ _ _ _ _ us hl => match us, hl with | [_, _], _ => rfl
  have FC := fun_mk (st := sCell) lC cC kC
  have mC_ := PySem.W.mg_of X G aC
  have bC := FC.binds (ps := ["script", "k"]) fun _ _ _ _ _ _ us hl => match us, hl with | [_, _], _ => rfl
  have FM := fun_mk (st := sMixed) lM cM kM
  have mM_ := PySem.W.mg_of X G aM
  have bM := FM.binds (ps := ["cell", "k"]) fun _ _ _ _ _ _ us hl => match us, hl with | [_, _], _ => rfl
  have FU := fun_mk (st := sSource) lU cU kU
  have mU_ := PySem.W.mg_of X G aU
  have bU := FU.binds (ps := ["script", "k"]) fun _ _ _ _ _ _ us hl => match us, hl with | [_, _], _ => rfl
  have FN := fun_mk (st := sNext) lN cN kN
  have mN_ := PySem.W.mg_of X G aN
  have bN := FN.binds (ps := ["source", "many"]) fun _ _ _ _ _ _ us hl => match us, hl with | [_, _], _ => rfl
  have FV := fun_mk (st := sLowered) lV cV kV
  have mV_ := PySem.W.mg_of X G aV
  have bV := FV.binds (ps := ["one", "other"]) fun _ _ _ _ _ _ us hl => match us, hl with | [_, _], _ => rfl
  have FY := fun_mk (st := sNumber) lY cY kY
  have mY_ := PySem.W.mg_of X G aY
  have bY := FY.binds (ps := ["source"]) fun _ _ _ _ _ _ us hl => match us, hl with | [_], _ => rfl
  have FR := fun_mk (st := sRefused) lR cR kR
  have mR_ := PySem.W.mg_of X G aR
  have bR := FR.binds (ps := ["one"]) fun _ _ _ _ _ _ us hl => match us, hl with | [_], _ => rfl
  have FB := fun_mk (st := sTwo) lB cB kB
  have mB_ := PySem.W.mg_of X G aB
  have bB := FB.binds (ps := ["one", "other"]) fun _ _ _ _ _ _ us hl => match us, hl with | [_, _], _ => rfl
  have FX := fun_mk (st := sOrder) lX cX kX
  have mX_ := PySem.W.mg_of X G aX
  have bX := FX.binds (ps := ["shares_told"]) fun _ _ _ _ _ _ us hl => match us, hl with | [_], _ => rfl
  have FZ := fun_mk (st := sLaw) lZ cZ kZ
  have mZ_ := PySem.W.mg_of X G aZ
  refine ⟨PySem.W.fnOf "law" "law" (defArgs sLaw) (defBody sLaw) (defScope sLaw) .none kVZ dcZ pmZ anZ cdZ ctZ, fun s v => .of_eq rfl, fun base _ _ => ?_⟩
  have M : Mk K C fI := ⟨mk, aI, iI, kc⟩
  have GW := ok_whole (P := P) (w := w) (mg := mg) (base := base) FW T
  have GI := ok_init (P := P) (w := w) (mg := mg) (base := base) FI T GW mW_ kW bW
  have GE := ok_eq (P := P) (w := w) (mg := mg) (base := base) FE T TI
  have GP := ok_plus (P := P) (w := w) (mg := mg) (base := base) FP T M GI bI3
  have GS := ok_minus (P := P) (w := w) (mg := mg) (base := base) FS T M GI bI3
  have GT := ok_times (P := P) (w := w) (mg := mg) (base := base) FT T M GI bI3
  have GO := ok_over (P := P) (w := w) (mg := mg) (base := base) FO T M GI bI3
  have GL := ok_less (P := P) (w := w) (mg := mg) (base := base) FL T
  have GC := ok_cell (P := P) (w := w) (mg := mg) (base := base) FC Bt
  have GM := ok_mixed (P := P) (w := w) (mg := mg) (base := base) FM
  have GU := ok_source (P := P) (w := w) (mg := mg) (base := base) FU Bt GC mC_ kC bC GM mM_ kM bM
  have GN := ok_next (P := P) (w := w) (mg := mg) (base := base) FN GM mM_ kM bM
  have GV := ok_lowered (P := P) (w := w) (mg := mg) (base := base) FV Bt
  have GY := ok_number (P := P) (w := w) (mg := mg) (base := base) FY GN mN_ kN bN
  have GR := ok_refused (P := P) (w := w) (mg := mg) (base := base) FR T M GI bI3 GO mO_ kO bO
  have Df : Defs P w K mg base C CN := ⟨T, TI, Bt, O, hne, hob, ⟨fI, _, M, GI, bI3, u0, rd2, bI2⟩, ⟨fE, _, GE, bE, aE, iE⟩, ⟨fP, _, GP, mP_, kP, bP⟩, ⟨fS, _, GS, mS_, kS, bS⟩, ⟨fT, _, GT, mT_, kT, bT⟩, ⟨fO, _, GO, mO_, kO, bO⟩, ⟨fL, _, GL, mL_, kL, bL⟩, ⟨fV, _, GV, mV_, kV, bV⟩⟩
  have GB := ok_two FB Df
  have GX := ok_order FX Df
  exact ok_law FZ ⟨Df, ⟨fU, _, GU, mU_, kU, bU⟩, ⟨fY, _, GY, mY_, kY, bY⟩, ⟨fR, _, GR, mR_, kR, bR⟩, ⟨fB, _, GB, mB_, kB, bB⟩, ⟨fX, _, GX, mX_, kX, bX⟩⟩
theorem walk {l : PySem.W.OpenLaw} {q : Program} {loose : List Str} {XP : (Str → Option Value) → Heap → Prop} {YP : World → Heap → Prop} {d : DefRec} {K : Params → PySem.W.Frag} (hn : l.most = some 63) (hdf : d.params.defaults = [])
    (hY : ∀ (w : World) (h : Heap), YP w h → (K w.params).In h)
    (F : ∀ (w : World) (mg : Str → Option Value) (fa : Addr) (h : Heap), (K w.params).In h → h.Ns mainGlobals mg → mg d.name = some (.ref fa) →
      ∃ fd : FuncData, (∀ (s : Shared) (u : Value), BindsTo s fd ⟨[u], []⟩ [("script", u)]) ∧ ∀ base : Heap, (K w.params).In base → base.Ns mainGlobals mg → FnG l.prog w (K w.params) mg base 7 fa fd ["script"] (spLaw (K w.params))) :
    PySem.W.WalkO q loose XP YP l.row.toRowW d [] (fun f vs => PySem.call f vs) :=
  walkG (n := 63) (k := 7) (x := "script") (sp := fun w => spLaw (K w.params)) hn (by decide) hdf ⟨rfl, by decide, by decide⟩ hY F (fun _ _ a ns hl _ hS => ⟨a, ns, rfl, hS, hl, fun _ => rfl⟩)
end K01
open PySem PySem.W PyProof.Rows in
set_option maxRecDepth 100000 in
set_option maxHeartbeats 0 in
theorem PySem.Challenge.cw_rillweb_k01_shares_reckoned_holds : PySem.Challenge.rw_rillweb_k01_shares_reckoned.Holds := by
  w_on; o_law; k_head; (case hw => w_witness2)
  k_fill
  refine K01.walk (l := PySem.Challenge.rw_rillweb_k01_shares_reckoned) rfl rfl (fun w h Y => PySem.W.kIn_of Y) ?F
  case F =>
    intro w mg fa h KX G hmg
    refine' K01.all_mk KX G hmg ?aSh ?aNo ?aG ?z_isinstance ?z_int ?z_bool ?z_len ?z_abs ?z_range ?z_max ?z_min ?z_all ?z_repr ?aI ?iI ?lI ?cI ?kI ?lTD ?aE ?iE ?lE ?cE ?kE ?aW ?lW ?cW ?kW ?aP ?lP ?cP ?kP ?aS ?lS ?cS ?kS ?aT ?lT ?cT ?kT ?aO ?lO ?cO ?kO ?aL ?lL ?cL ?kL ?aC ?lC ?cC ?kC ?aM ?lM ?cM ?kM ?aU ?lU ?cU ?kU ?aN ?lN ?cN ?kN ?aV ?lV ?cV ?kV ?aY ?lY ?cY ?kY ?aR ?lR ?cR ?kR ?aB ?lB ?cB ?kB ?aX ?lX ?cX ?kX ?aZ ?lZ ?cZ ?kZ ?pg ?hd ?po ?sa ?mk ?kc ?nT ?nB ?gc ?gs ?gt ?gm ?me ?mt ?ut ?vt ?mi ?ui ?vi ?mn ?un ?vn ?hne ?hob ?xN ?kN_ ?bN_ ?tN_ ?iN_ ?sN_
    (case aSh => k_is)
    (case aNo => k_is)
    (case aG => k_is)
    (case z_isinstance => k_is)
    (case z_int => k_is)
    (case z_bool => k_is)
    (case z_len => k_is)
    (case z_abs => k_is)
    (case z_range => k_is)
    (case z_max => k_is)
    (case z_min => k_is)
    (case z_all => k_is)
    (case z_repr => k_is)
    (case aI => k_is)
    (case iI => k_is)
    (case lI => k_is)
    (case cI => k_is)
    (case kI => k_is)
    (case lTD => k_is)
    (case aE => k_is)
    (case iE => k_is)
    (case lE => k_is)
    (case cE => k_is)
    (case kE => k_is)
    (case aW => k_is)
    (case lW => k_is)
    (case cW => k_is)
    (case kW => k_is)
    (case aP => k_is)
    (case lP => k_is)
    (case cP => k_is)
    (case kP => k_is)
    (case aS => k_is)
    (case lS => k_is)
    (case cS => k_is)
    (case kS => k_is)
    (case aT => k_is)
    (case lT => k_is)
    (case cT => k_is)
    (case kT => k_is)
    (case aO => k_is)
    (case lO => k_is)
    (case cO => k_is)
    (case kO => k_is)
    (case aL => k_is)
    (case lL => k_is)
    (case cL => k_is)
    (case kL => k_is)
    (case aC => k_is)
    (case lC => k_is)
    (case cC => k_is)
    (case kC => k_is)
    (case aM => k_is)
    (case lM => k_is)
    (case cM => k_is)
    (case kM => k_is)
    (case aU => k_is)
    (case lU => k_is)
    (case cU => k_is)
    (case kU => k_is)
    (case aN => k_is)
    (case lN => k_is)
    (case cN => k_is)
    (case kN => k_is)
    (case aV => k_is)
    (case lV => k_is)
    (case cV => k_is)
    (case kV => k_is)
    (case aY => k_is)
    (case lY => k_is)
    (case cY => k_is)
    (case kY => k_is)
    (case aR => k_is)
    (case lR => k_is)
    (case cR => k_is)
    (case kR => k_is)
    (case aB => k_is)
    (case lB => k_is)
    (case cB => k_is)
    (case kB => k_is)
    (case aX => k_is)
    (case lX => k_is)
    (case cX => k_is)
    (case kX => k_is)
    (case aZ => k_is)
    (case lZ => k_is)
    (case cZ => k_is)
    (case kZ => k_is)
    (case pg => k_is)
    (case hd => k_is)
    (case po => k_is)
    (case sa => k_is)
    (case mk => k_is)
    (case kc => k_is)
    (case nT => k_is)
    (case nB => k_is)
    (case gc => k_is)
    (case gs => first | rfl | k_is)
    (case gt => first | rfl | k_is)
    (case gm => k_is)
    (case me => first | rfl | k_is)
    (case mt => first | rfl | k_is)
    (case ut => first | rfl | k_is)
    (case vt => first | rfl | k_is)
    (case mi => first | rfl | k_is)
    (case ui => first | rfl | k_is)
    (case vi => first | rfl | k_is)
    (case mn => first | rfl | k_is)
    (case un => first | rfl | k_is)
    (case vn => first | rfl | k_is)
    (case hne => k_is)
    (case hob => k_is)
    (case xN => k_exc)
    (case kN_ => k_is)
    (case bN_ => k_is)
    (case tN_ => k_is)
    (case iN_ => k_is)
    (case sN_ => first | rfl | k_is)
