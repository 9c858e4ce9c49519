import PyProof.Rows.All
import Wide.All
import OpenK.AllK
import Wide.FinOn
import PyProof.EqAt
import PyProof.EqKinds
import PyProof.TupleCall
import KE.BitLaws
import Open.SpecLaws
import KE.OsHead
import KE.OsGo
import PySem.Challenge.RW_vesselriddle_s01_answers
set_option Elab.async false
set_option linter.all false
set_option maxRecDepth 100000
set_option maxHeartbeats 8000000
set_option exponentiation.threshold 600
namespace Vr
abbrev val (r1 r2 x y : Int) : Int := r1 * x + r2 * y
theorem gcd_det {L S f1 f2 s1 s2 : Int} (d : f1 * s2 - f2 * s1 = 1 ∨ f1 * s2 - f2 * s1 = -1) :
  Int.gcd (f1 * L + f2 * S) (s1 * L + s2 * S) = Int.gcd L S := by
 apply Nat.dvd_antisymm
 ·have h1 : ((Int.gcd (f1 * L + f2 * S) (s1 * L + s2 * S) : Nat) : Int) ∣ f1 * L + f2 * S := Int.gcd_dvd_left ..;have h2 : ((Int.gcd (f1 * L + f2 * S) (s1 * L + s2 * S) : Nat) : Int) ∣ s1 * L + s2 * S := Int.gcd_dvd_right ..;obtain ⟨u, hu⟩ := h1;obtain ⟨v, hv⟩ := h2;apply Int.dvd_gcd
  ·rcases d with d | d
   ·refine ⟨s2 * u - f2 * v, ?_⟩;generalize ((Int.gcd (f1 * L + f2 * S) (s1 * L + s2 * S) : Nat) : Int) = g at hu hv;grind
   ·refine ⟨f2 * v - s2 * u, ?_⟩;generalize ((Int.gcd (f1 * L + f2 * S) (s1 * L + s2 * S) : Nat) : Int) = g at hu hv;grind
  ·rcases d with d | d
   ·refine ⟨f1 * v - s1 * u, ?_⟩;generalize ((Int.gcd (f1 * L + f2 * S) (s1 * L + s2 * S) : Nat) : Int) = g at hu hv;grind
   ·refine ⟨s1 * u - f1 * v, ?_⟩;generalize ((Int.gcd (f1 * L + f2 * S) (s1 * L + s2 * S) : Nat) : Int) = g at hu hv;grind
 ·have h1 : ((Int.gcd L S : Nat) : Int) ∣ L := Int.gcd_dvd_left ..;have h2 : ((Int.gcd L S : Nat) : Int) ∣ S := Int.gcd_dvd_right ..;apply Int.dvd_gcd
  ·exact Int.dvd_add (Int.dvd_mul_of_dvd_right h1) (Int.dvd_mul_of_dvd_right h2)
  ·exact Int.dvd_add (Int.dvd_mul_of_dvd_right h1) (Int.dvd_mul_of_dvd_right h2)
end Vr
namespace Vr
structure Leap (a b L S f0 f1 f2 s0 s1 s2 : Int) : Prop where
 ef : f0 = f1 * a + f2 * b
 es : s0 = s1 * a + s2 * b
 det : f1 * s2 - f2 * s1 = 1 ∨ f1 * s2 - f2 * s1 = -1
 s0n : 0 <= s0
 fs : s0 <= f0
 fa : f0 <= a
 fbig : 2 ^ 120 <= f0
 sg : (0 <= f1 /\ f2 <= 0 /\ s1 <= 0 /\ 0 <= s2) ∨ (f1 <= 0 /\ 0 <= f2 /\ 0 <= s1 /\ s2 <= 0)
 two : f0 * s2.natAbs + s0 * f2.natAbs = a
 one : f0 * s1.natAbs + s0 * f1.natAbs = b
 half : (s1 = 0 /\ s2 = 1) ∨ 2 * s0 <= a
 c1 : (f1.natAbs : Int) <= a
 c2 : (f2.natAbs : Int) <= a
 gf : (f1 * L + f2 * S).natAbs <= L.natAbs
 gs : (s1 * L + s2 * S).natAbs < L.natAbs
theorem leap_start {a b L S : Int} (hb : 0 <= b) (hab : b <= a) (ha : 2 ^ 120 <= a) (hS : 0 <= S) (hL : S < L) : Leap a b L S a 1 0 b 0 1 := by
 constructor <;> first | omega | grind
theorem near {s1 s2 l r k m : Int} (hl : 0 <= l) (hlk : l < k) (hr : 0 <= r) (hrk : r < k) (h1 : (s1.natAbs : Int) <= m) (h2 : (s2.natAbs : Int) <= m)
  (sg : (s1 <= 0 /\ 0 <= s2) ∨ (0 <= s1 /\ s2 <= 0)) : s1 * l + s2 * r <= m * k /\ -(m * k) <= s1 * l + s2 * r := by
 have hm : 0 <= m := by omega
 have hk : 0 <= k := by omega
 rcases sg with ⟨g1, g2⟩ | ⟨g1, g2⟩
 ·have e1 : -(m * k) <= s1 * l := by
   have : (-s1) * l <= m * k := Int.mul_le_mul (by omega) (by omega) hl hm;grind
  have e2 : s1 * l <= 0 := Int.mul_nonpos_of_nonpos_of_nonneg g1 hl;have e3 : s2 * r <= m * k := Int.mul_le_mul (by omega) (by omega) hr hm;have e4 : 0 <= s2 * r := Int.mul_nonneg g2 hr;omega
 ·have e1 : -(m * k) <= s2 * r := by
   have : (-s2) * r <= m * k := Int.mul_le_mul (by omega) (by omega) hr hm;grind
  have e2 : s2 * r <= 0 := Int.mul_nonpos_of_nonpos_of_nonneg g2 hr;have e3 : s1 * l <= m * k := Int.mul_le_mul (by omega) (by omega) hl hm;have e4 : 0 <= s1 * l := Int.mul_nonneg g1 hl;omega
theorem ring_det (f1 f2 s1 s2 q : Int) : s1 * (f2 - q * s2) - s2 * (f1 - q * s1) = -(f1 * s2 - f2 * s1) := by grind
theorem ring_row (f1 f2 s1 s2 q a b : Int) : (f1 * a + f2 * b) - q * (s1 * a + s2 * b) = (f1 - q * s1) * a + (f2 - q * s2) * b := by grind
theorem ring_two (f0 s0 x y q : Int) : s0 * (x + q * y) + (f0 - q * s0) * y = f0 * y + s0 * x := by grind
theorem cof {f0 s0 x y a : Int} (hf : 0 < f0) (hx : 0 <= x) (hs : 0 <= s0) (hy : 0 <= y) (_ha : 0 <= a) (h : f0 * x + s0 * y <= a) : x <= a := by
 have h1 : 0 <= s0 * y := Int.mul_nonneg hs hy;have h2 : 1 * x <= f0 * x := Int.mul_le_mul_of_nonneg_right (by omega) hx;omega
theorem leap_turn {a b L S f0 f1 f2 s0 s1 s2 k l r q : Int} (J : Leap a b L S f0 f1 f2 s0 s1 s2) (big : 2 ^ 120 <= s0)
  (hq : q = f0 / s0) (hab : b <= a) (ha : 2 ^ 200 <= a) (eL : L = a * k + l) (eS : S = b * k + r) (hk : 0 < k) (hl : 0 <= l) (hlk : l < k) (hr : 0 <= r) (hrk : r < k) :
  Leap a b L S s0 s1 s2 (f0 - q * s0) (f1 - q * s1) (f2 - q * s2) := by
 obtain ⟨ef, es, det, s0n, fs, fa, fbig, sg, two, one, half, c1, c2, gf, gs⟩ := J;have spos : 0 < s0 := by omega
 have f0n : 0 < f0 := by omega
 have a0n : 0 <= a := by omega
 have em : f0 - q * s0 = f0 % s0 := by rw [hq, Int.emod_def, Int.mul_comm]
 have hm0 : 0 <= f0 - q * s0 := by rw [em]; exact Int.emod_nonneg _ (by omega)
 have hm1 : f0 - q * s0 < s0 := by rw [em]; exact Int.emod_lt_of_pos _ spos
 have q1 : 1 <= q := by
  rw [hq];exact (Int.le_ediv_iff_mul_le spos).mpr (by omega)
 have hs0 : s0 <= q * s0 := by
  have : 1 * s0 <= q * s0 := Int.mul_le_mul_of_nonneg_right q1 (by omega);omega
 have hhalf : 2 * (f0 - q * s0) <= a := by omega
 -- the absolute values of the new cofactors
 have n2 : ((f2 - q * s2).natAbs : Int) = f2.natAbs + q * s2.natAbs := by
  rcases sg with ⟨_, g2, _, g4⟩ | ⟨_, g2, _, g4⟩
  ·have : 0 <= q * s2 := Int.mul_nonneg (by omega) g4;have e : (s2.natAbs : Int) = s2 := by omega
   rw [e]; omega
  ·have : q * s2 <= 0 := Int.mul_nonpos_of_nonneg_of_nonpos (by omega) g4;have e : (s2.natAbs : Int) = -s2 := by omega
   rw [e]; have : q * -s2 = - (q * s2) := by grind
   rw [this]; omega
 have n1 : ((f1 - q * s1).natAbs : Int) = f1.natAbs + q * s1.natAbs := by
  rcases sg with ⟨g1, _, g3, _⟩ | ⟨g1, _, g3, _⟩
  ·have : q * s1 <= 0 := Int.mul_nonpos_of_nonneg_of_nonpos (by omega) g3;have e : (s1.natAbs : Int) = -s1 := by omega
   rw [e]; have : q * -s1 = - (q * s1) := by grind
   rw [this]; omega
  ·have : 0 <= q * s1 := Int.mul_nonneg (by omega) g3;have e : (s1.natAbs : Int) = s1 := by omega
   rw [e]; omega
 have two' : s0 * (f2 - q * s2).natAbs + (f0 - q * s0) * s2.natAbs = a := by rw [n2, ring_two]; exact two
 have one' : s0 * (f1 - q * s1).natAbs + (f0 - q * s0) * s1.natAbs = b := by rw [n1, ring_two]; exact one
 have sg' : (0 <= s1 /\ s2 <= 0 /\ f1 - q * s1 <= 0 /\ 0 <= f2 - q * s2) ∨ (s1 <= 0 /\ 0 <= s2 /\ 0 <= f1 - q * s1 /\ f2 - q * s2 <= 0) := by
  rcases sg with ⟨g1, g2, g3, g4⟩ | ⟨g1, g2, g3, g4⟩
  ·right;have : 0 <= q * s2 := Int.mul_nonneg (by omega) g4;have : q * s1 <= 0 := Int.mul_nonpos_of_nonneg_of_nonpos (by omega) g3;omega
  ·left;have : q * s2 <= 0 := Int.mul_nonpos_of_nonneg_of_nonpos (by omega) g4;have : 0 <= q * s1 := Int.mul_nonneg (by omega) g3;omega
 -- the bound of the new second's value
 have small : ∀ x y : Int, 0 <= x -> 0 <= y -> s0 * x + (f0 - q * s0) * y <= a -> x * 2 ^ 120 <= a := fun x y hx hy h => by
  have h1 : 0 <= (f0 - q * s0) * y := Int.mul_nonneg hm0 hy;have h2 : 2 ^ 120 * x <= s0 * x := Int.mul_le_mul_of_nonneg_right big hx;have h3 : x * 2 ^ 120 = 2 ^ 120 * x := Int.mul_comm _ _;omega
 have b2 := small (f2 - q * s2).natAbs s2.natAbs (by omega) (by omega) (by omega);have b1 := small (f1 - q * s1).natAbs s1.natAbs (by omega) (by omega) (by omega);have e0 : f0 - q * s0 = (f1 - q * s1) * a + (f2 - q * s2) * b := by rw [<- ring_row, <- ef, <- es]
 have gs' : ((f1 - q * s1) * L + (f2 - q * s2) * S).natAbs < L.natAbs := by
  have e : (f1 - q * s1) * L + (f2 - q * s2) * S = (f0 - q * s0) * k + ((f1 - q * s1) * l + (f2 - q * s2) * r) := by rw [e0, eL, eS]; grind
  rw [e];generalize f1 - q * s1 = t1 at *;generalize f2 - q * s2 = t2 at *;generalize f0 - q * s0 = t0 at *;have nr := near (s1 := t1) (s2 := t2) (m := a / 2 ^ 120) hl hlk hr hrk ((Int.le_ediv_iff_mul_le (by decide)).mpr b1) ((Int.le_ediv_iff_mul_le (by decide)).mpr b2) (by omega);have hLp : 0 <= a * k := Int.mul_nonneg (by omega) (by omega);have h1 : 0 <= t0 * k := Int.mul_nonneg hm0 (by omega);have h2 : (t0 + a / 2 ^ 120 + 1) * k <= a * k := Int.mul_le_mul_of_nonneg_right (by omega) (by omega);have h3 : (t0 + a / 2 ^ 120 + 1) * k = t0 * k + a / 2 ^ 120 * k + k := by grind
  generalize a / 2 ^ 120 * k = y at *;generalize t1 * l + t2 * r = z at *;generalize t0 * k = v at *;generalize a * k = u at *;omega
 have d' : s1 * (f2 - q * s2) - s2 * (f1 - q * s1) = 1 ∨ s1 * (f2 - q * s2) - s2 * (f1 - q * s1) = -1 := by
  rw [ring_det];generalize f1 * s2 - f2 * s1 = z at det ⊢;omega
 exact ⟨es, e0, d', hm0, Int.le_of_lt hm1, Int.le_trans fs fa, big, sg', two', one', .inr hhalf, cof f0n (Int.natCast_nonneg _) s0n (Int.natCast_nonneg _) a0n (Int.le_trans (Int.le_of_eq one) hab), cof f0n (Int.natCast_nonneg _) s0n (Int.natCast_nonneg _) a0n (Int.le_of_eq two), Nat.le_of_lt gs, gs'⟩
theorem leap_end {a b L S f0 f1 f2 s0 s1 s2 : Int} (J : Leap a b L S f0 f1 f2 s0 s1 s2) :
  Int.gcd (f1 * L + f2 * S).natAbs (s1 * L + s2 * S).natAbs = Int.gcd L S := by
 rw [<- gcd_det (L := L) (S := S) J.det];simp only [Int.gcd, Int.natAbs_natCast]
theorem Leap.d1 {a b L S f0 f1 f2 s0 s1 s2 : Int} (J : Leap a b L S f0 f1 f2 s0 s1 s2) (ha : 0 <= a) (hab : b <= a) : (s1.natAbs : Int) <= a :=
 cof (by have := J.fbig; omega) (by omega) J.s0n (by omega) ha (Int.le_trans (Int.le_of_eq J.one) hab)
theorem Leap.d2 {a b L S f0 f1 f2 s0 s1 s2 : Int} (J : Leap a b L S f0 f1 f2 s0 s1 s2) (ha : 0 <= a) : (s2.natAbs : Int) <= a :=
 cof (by have := J.fbig; omega) (by omega) J.s0n (by omega) ha (Int.le_of_eq J.two)
def bl (x : Int) : Nat := if x == 0 then 0 else x.natAbs.log2 + 1
theorem bl_gt {x : Int} {n : Nat} : n < bl x ↔ 2 ^ n <= x.natAbs := by
 unfold bl
 by_cases h : x = 0
 ·subst h;simp
 ·have h0 : x.natAbs ≠ 0 := by omega
  rw [if_neg (by simpa using h), <- Nat.le_log2 h0];omega
theorem bl_le {x : Int} {n : Nat} : bl x <= n ↔ x.natAbs < 2 ^ n := by
 have := bl_gt (x := x) (n := n);omega
theorem leading {L S : Int} (hS : 480 < bl S) (hS0 : 0 <= S) (hL : S < L) :
  480 < bl L /\ (0 : Int) < 2 ^ (bl L - 240) /\ 2 ^ 239 <= L / 2 ^ (bl L - 240) /\ L / 2 ^ (bl L - 240) < 2 ^ 240 /\ 0 <= S / 2 ^ (bl L - 240) /\ S / 2 ^ (bl L - 240) <= L / 2 ^ (bl L - 240) := by
 have hab : S.natAbs <= L.natAbs := by omega
 have h1 : 480 < bl L := bl_gt.mpr (Nat.le_trans (bl_gt.mp hS) hab);have hk : (0 : Int) < 2 ^ (bl L - 240) := Int.pow_pos (by decide);have hA : 2 ^ (bl L - 1) <= L.natAbs := bl_gt.mp (by omega);have hB : L.natAbs < 2 ^ bl L := bl_le.mp (Nat.le_refl _);have e1 : (2 : Nat) ^ (bl L - 1) = 2 ^ 239 * 2 ^ (bl L - 240) := by rw [<- Nat.pow_add]; exact congrArg (fun e => 2 ^ e) (by omega)
 have e2 : (2 : Nat) ^ bl L = 2 ^ 240 * 2 ^ (bl L - 240) := by rw [<- Nat.pow_add]; exact congrArg (fun e => 2 ^ e) (by omega)
 have eL : L = (L.natAbs : Int) := by omega
 rw [e1] at hA;rw [e2] at hB;refine ⟨h1, hk, ?_, ?_, ?_, ?_⟩
 ·refine (Int.le_ediv_iff_mul_le hk).mpr ?_;rw [eL];have : ((2 ^ 239 * 2 ^ (bl L - 240) : Nat) : Int) <= (L.natAbs : Int) := by exact_mod_cast hA
  rw [<- eL] at this ⊢;simpa using this
 ·refine Int.ediv_lt_of_lt_mul hk ?_;have : (L.natAbs : Int) < ((2 ^ 240 * 2 ^ (bl L - 240) : Nat) : Int) := by exact_mod_cast hB
  rw [<- eL] at this;simpa using this
 ·exact Int.ediv_nonneg hS0 (by omega)
 ·exact Int.ediv_le_ediv hk (by omega)
end Vr
namespace Vr
open Vbtaam
def q (x : Frac) : Rat := (x.num : Rat) / (x.den : Rat)
structure Low (x : Frac) : Prop where
 pos : 0 < x.den
 cop : Nat.gcd x.num x.den = 1
theorem natne {n : Nat} (h : 0 < n) : (n : Rat) ≠ 0 := by
 intro e;have : n = 0 := by exact_mod_cast e
 omega
theorem natpos {n : Nat} (h : 0 < n) : (0 : Rat) < (n : Rat) := by exact_mod_cast h
theorem natnn (n : Nat) : (0 : Rat) <= (n : Rat) := Rat.natCast_nonneg
theorem div_eq_div {a b c d : Rat} (hb : b ≠ 0) (hd : d ≠ 0) : a / b = c / d ↔ a * d = c * b := by
 constructor
 ·intro h;have h1 : a / b * (b * d) = c / d * (b * d) := by rw [h]
  have h2 : a / b * (b * d) = a * d := by grind
  have h3 : c / d * (b * d) = c * b := by grind
  rw [h2, h3] at h1;exact h1
 ·intro h;have : a / b = (a * d) / (b * d) := by grind
  rw [this, h];grind
theorem div_le_div {a b c d : Rat} (hb : 0 < b) (hd : 0 < d) : a / b <= c / d ↔ a * d <= c * b := by
 have hbn : b ≠ 0 := Rat.ne_of_gt hb;have hdn : d ≠ 0 := Rat.ne_of_gt hd;have e1 : a / b * (b * d) = a * d := by grind
 have e2 : c / d * (b * d) = c * b := by grind
 constructor
 ·intro h;have := Rat.mul_le_mul_of_nonneg_right h (Rat.le_of_lt (Rat.mul_pos hb hd));rw [e1, e2] at this;exact this
 ·intro h;refine Rat.le_of_mul_le_mul_right (c := b * d) ?_ (Rat.mul_pos hb hd);rw [e1, e2];exact h
theorem low_frac {a b : Nat} (h : 0 < b) : Low (frac a b) := by
 have hg : 0 < Nat.gcd a b := Nat.gcd_pos_of_pos_right a h;unfold frac;simp only;rw [if_neg (by omega)];exact ⟨Nat.div_pos (Nat.le_of_dvd h (Nat.gcd_dvd_right a b)) hg, (by rw [Nat.gcd_div (Nat.gcd_dvd_left a b) (Nat.gcd_dvd_right a b)]; exact Nat.div_self hg)⟩
theorem q_frac {a b : Nat} (h : 0 < b) : q (frac a b) = (a : Rat) / (b : Rat) := by
 have L := low_frac (a := a) h;have hg : 0 < Nat.gcd a b := Nat.gcd_pos_of_pos_right a h;unfold q;rw [div_eq_div (natne L.pos) (natne h)];unfold frac;simp only;rw [if_neg (by omega)];simp only;have e1 : a / Nat.gcd a b * b = a * (b / Nat.gcd a b) := by
  rw [<- Nat.mul_div_assoc _ (Nat.gcd_dvd_right a b), Nat.div_mul_right_comm (Nat.gcd_dvd_left a b)]
 exact_mod_cast e1
theorem q_inj {x y : Frac} (hx : Low x) (hy : Low y) (h : q x = q y) : x = y := by
 unfold q at h;rw [div_eq_div (natne hx.pos) (natne hy.pos)] at h;have h : x.num * y.den = y.num * x.den := by exact_mod_cast h
 have d1 : x.den ∣ y.den := by
  have : x.den ∣ x.num * y.den := ⟨y.num, by rw [h, Nat.mul_comm]⟩;exact Nat.Coprime.dvd_of_dvd_mul_left (by rw [Nat.Coprime, Nat.gcd_comm]; exact hx.cop) this
 have d2 : y.den ∣ x.den := by
  have : y.den ∣ y.num * x.den := ⟨x.num, by rw [<- h, Nat.mul_comm]⟩;exact Nat.Coprime.dvd_of_dvd_mul_left (by rw [Nat.Coprime, Nat.gcd_comm]; exact hy.cop) this
 have ed : x.den = y.den := Nat.dvd_antisymm d1 d2;have en : x.num = y.num := by
  rw [ed] at h;exact Nat.eq_of_mul_eq_mul_right hy.pos h
 cases x; cases y
 simp_all
theorem low_nil : Low {} := ⟨by decide, by decide⟩
theorem q_nil : q {} = 0 := by decide +kernel
theorem low_whole (n : Nat) : Low (whole n) := ⟨Nat.one_pos, Nat.gcd_one_right n⟩
theorem q_whole (n : Nat) : q (whole n) = n := by
 unfold q whole;grind
theorem q_nn (x : Frac) : 0 <= q x := by
 unfold q;rw [Rat.div_def]
 by_cases h : x.den = 0
 ·rw [h];have : ((0 : Nat) : Rat)⁻¹ = 0 := by decide +kernel
  rw [this];grind
 ·exact Rat.mul_nonneg (natnn _) (Rat.le_of_lt (Rat.inv_pos.mpr (natpos (by omega))))
theorem q_zero {x : Frac} (h : Low x) : q x = 0 ↔ x.num = 0 := by
 constructor
 ·intro e;have := q_inj h low_nil (by rw [e, q_nil]);rw [this]
 ·intro e;unfold q;rw [e];have := natne h.pos;grind
theorem zero_low {x : Frac} (h : Low x) (e : x.num = 0) : x = {} := q_inj h low_nil (by rw [(q_zero h).mpr e, q_nil])
theorem q_eq_zero {x : Frac} (h : Low x) (e : q x = 0) : x = {} := zero_low h ((q_zero h).mp e)
theorem low_plus {x y : Frac} (hx : Low x) (hy : Low y) : Low (plus x y) := low_frac (Nat.mul_pos hx.pos hy.pos)
theorem q_plus {x y : Frac} (hx : Low x) (hy : Low y) : q (plus x y) = q x + q y := by
 unfold plus;rw [q_frac (Nat.mul_pos hx.pos hy.pos)];unfold q;have a := natne hx.pos;have b := natne hy.pos;rw [Rat.natCast_add, Rat.natCast_mul, Rat.natCast_mul, Rat.natCast_mul];grind
theorem low_times {x y : Frac} (hx : Low x) (hy : Low y) : Low (times x y) := low_frac (Nat.mul_pos hx.pos hy.pos)
theorem q_times {x y : Frac} (hx : Low x) (hy : Low y) : q (times x y) = q x * q y := by
 unfold times;rw [q_frac (Nat.mul_pos hx.pos hy.pos)];unfold q;have a := natne hx.pos;have b := natne hy.pos;rw [Rat.natCast_mul, Rat.natCast_mul];grind
theorem low_over {x y : Frac} (hx : Low x) (hy : 0 < y.num) : Low (over x y) := low_frac (Nat.mul_pos hx.pos hy)
theorem q_over {x y : Frac} (hx : Low x) (hy : Low y) (h : 0 < y.num) : q (over x y) = q x / q y := by
 unfold over;rw [q_frac (Nat.mul_pos hx.pos h)];unfold q;have a := natne hx.pos;have b := natne hy.pos;have c := natne h;rw [Rat.natCast_mul, Rat.natCast_mul];grind
theorem le_iff {x y : Frac} (hx : Low x) (hy : Low y) : q x <= q y ↔ x.num * y.den <= y.num * x.den := by
 unfold q;rw [div_le_div (natpos hx.pos) (natpos hy.pos)];constructor
 ·intro h;exact_mod_cast h
 ·intro h;exact_mod_cast h
theorem low_less {x y : Frac} (hx : Low x) (hy : Low y) : Low (less x y) := low_frac (Nat.mul_pos hx.pos hy.pos)
theorem q_less {x y : Frac} (hx : Low x) (hy : Low y) (h : q y <= q x) : q (less x y) = q x - q y := by
 have h' := (le_iff hy hx).mp h;unfold less;rw [q_frac (Nat.mul_pos hx.pos hy.pos)];unfold q;have a := natne hx.pos;have b := natne hy.pos;have e : ((x.num * y.den - y.num * x.den : Nat) : Rat) + (y.num : Rat) * x.den = x.num * y.den := by
  have : (x.num * y.den - y.num * x.den) + y.num * x.den = x.num * y.den := by omega
  exact_mod_cast this
 rw [Rat.natCast_mul];generalize ((x.num * y.den - y.num * x.den : Nat) : Rat) = z at e;have e2 : z = x.num * y.den - y.num * x.den := by grind
 rw [e2];grind
theorem atMost_iff {x y : Frac} (hx : Low x) (hy : Low y) : atMost x y = true ↔ q x <= q y := by
 rw [le_iff hx hy];exact decide_eq_true_iff
end Vr
namespace Vr
open Vbtaam
theorem over_num_pos {x y : Frac} (hx : Low x) (hy : Low y) (h : 0 < x.num) (h' : 0 < y.num) : 0 < (over x y).num := by
 have L := low_over hx h';rcases Nat.eq_zero_or_pos (over x y).num with e | e
 ·have z := (q_zero L).mpr e;rw [q_over hx hy h'] at z;have n1 : q x ≠ 0 := fun r => by have := (q_zero hx).mp r; omega
  have n2 : q y ≠ 0 := fun r => by have := (q_zero hy).mp r; omega
  grind
 ·exact e
theorem q_pos {x : Frac} (hx : Low x) (h : 0 < x.num) : 0 < q x :=
 Rat.lt_of_le_of_ne (q_nn x) fun e => by have := (q_zero hx).mp e.symm; omega
theorem num_pos {x : Frac} (hx : Low x) (h : 0 < q x) : 0 < x.num := by
 rcases Nat.eq_zero_or_pos x.num with e | e
 ·rw [(q_zero hx).mpr e] at h;exact absurd h Rat.lt_irrefl
 ·exact e
def weight (c t : Frac) (m n : Nat) : Frac := over (over c (whole m)) (over t (whole n))
theorem low_weight {c t : Frac} {m n : Nat} (hc : Low c) (ht : Low t) (tp : 0 < t.num) (mp : 0 < m) (np : 0 < n) : Low (weight c t m n) :=
 low_over (low_over hc mp) (over_num_pos ht (low_whole n) tp np)
theorem q_weight {c t : Frac} {m n : Nat} (hc : Low c) (ht : Low t) (tp : 0 < t.num) (mp : 0 < m) (np : 0 < n) : q (weight c t m n) = q c / m / (q t / n) := by
 unfold weight;rw [q_over (low_over hc mp) (low_over ht np) (over_num_pos ht (low_whole n) tp np), q_over hc (low_whole m) mp, q_over ht (low_whole n) np, q_whole, q_whole]
theorem weight_by {c t : Frac} {m n : Nat} (hc : Low c) (ht : Low t) (tp : 0 < t.num) (mp : 0 < m) (np : 0 < n) :
  ∃ g : Rat, 0 < g /\ ((weight c t m n).num : Rat) = g * (q c / m) /\ ((weight c t m n).den : Rat) = g * (q t / n) := by
 have Lw := low_weight hc ht tp mp np;have e := q_weight hc ht tp mp np;generalize weight c t m n = w at Lw e;have hm := natne mp;have hn := natne np;have tq := q_pos ht tp;have tn : q t ≠ 0 := Rat.ne_of_gt tq;have wd := natne Lw.pos;refine ⟨(w.den : Rat) / (q t / n), ?_, ?_, ?_⟩
 ·rw [Rat.div_def];refine Rat.mul_pos (natpos Lw.pos) (Rat.inv_pos.mpr ?_);rw [Rat.div_def];exact Rat.mul_pos tq (Rat.inv_pos.mpr (natpos np))
 ·unfold q at e;have e2 : (w.num : Rat) = (w.num : Rat) / w.den * w.den := by grind
  rw [e2, e];show (q c / m) / (q t / n) * w.den = w.den / (q t / n) * (q c / m);grind
 ·grind
theorem mix_share {c t : Frac} {m n s o : Nat} (hc : Low c) (ht : Low t) (tp : 0 < t.num) (mp : 0 < m) (np : 0 < n) :
  (q c + q t) * ((s * (weight c t m n).num + o * (weight c t m n).den : Nat) : Rat) = (q c * s / m + q t * o / n) * ((m * (weight c t m n).num + n * (weight c t m n).den : Nat) : Rat) := by
 obtain ⟨g, _, e1, e2⟩ := weight_by hc ht tp mp np;simp only [Rat.natCast_add, Rat.natCast_mul];rw [e1, e2];have hm := natne mp;have hn := natne np;grind
theorem mix_dvd {c t : Frac} {m n L C T M : Nat} (hc : Low c) (ht : Low t) (cp : 0 < c.num) (tp : 0 < t.num) (mp : 0 < m) (np : 0 < n) (Lp : 0 < L)
  (eC : (L : Rat) * q c = C) (eT : (L : Rat) * q t = T) (dm : m ∣ M) (dn : n ∣ M) :
  (m * (weight c t m n).num + n * (weight c t m n).den) ∣ M * (C + T) := by
 have Lw := low_weight hc ht tp mp np;have e := q_weight hc ht tp mp np;have wp : 0 < (weight c t m n).num := over_num_pos (low_over hc mp) (low_over ht np) (over_num_pos hc (low_whole m) cp mp) (over_num_pos ht (low_whole n) tp np);generalize weight c t m n = w at Lw e wp;obtain ⟨k, rfl⟩ := dm;obtain ⟨k', ek⟩ := dn;have hm := natne mp;have hn := natne np;have hL := natne Lp;have wd := natne Lw.pos;have tn : q t ≠ 0 := Rat.ne_of_gt (q_pos ht tp);have ekq : (m : Rat) * k = n * k' := by exact_mod_cast ek
 have main : w.num * (T * k') = w.den * (C * k) := by
  have h1 : (w.num : Rat) = q c / m / (q t / n) * w.den := by
   unfold q at e;rw [show q c / m / (q t / n) = (w.num : Rat) / w.den from e.symm];grind
  have h2 : (w.num : Rat) * (T * k') = w.den * (C * k) := by
   rw [<- eT, <- eC, h1];have h3 : q c / m / (q t / n) * w.den * (L * q t * k') = q c / m * n * w.den * L * k' := by grind
   rw [h3];have h4 : q c / m * n * w.den * L * k' = q c / m * w.den * L * (n * k') := by grind
   rw [h4, <- ekq];grind
  exact_mod_cast h2
 have d1 : w.num ∣ C * k := by
  have : w.num ∣ w.den * (C * k) := ⟨T * k', main.symm⟩;exact Nat.Coprime.dvd_of_dvd_mul_left Lw.cop this
 obtain ⟨h, eh⟩ := d1;have eh2 : T * k' = w.den * h := by
  rw [eh] at main;have : w.num * (T * k') = w.num * (w.den * h) := by rw [main, Nat.mul_left_comm]
  exact Nat.eq_of_mul_eq_mul_left wp this
 refine ⟨h, ?_⟩;have z : m * k * (C + T) = m * (C * k) + n * (T * k') := by
  have z1 : m * k * (C + T) = m * (C * k) + (m * k) * T := by grind
  rw [z1, ek];grind
 rw [z, eh, eh2];grind
end Vr
namespace Vr
open Vbtaam
theorem plus_nil {x : Frac} (h : Low x) : plus x {} = x := q_inj (low_plus h low_nil) h (by rw [q_plus h low_nil, q_nil]; grind)
theorem nil_plus {x : Frac} (h : Low x) : plus {} x = x := q_inj (low_plus low_nil h) h (by rw [q_plus low_nil h, q_nil]; grind)
structure Tri (l : List Frac) (x y z : Frac) : Prop where
 eq : l = [x, y, z]
 lx : Low x
 ly : Low y
 lz : Low z
abbrev qs (x y z : Frac) : Rat := q x + q y + q z
structure VOk (v : Vessel) (x y z : Frac) : Prop extends Tri v.has x y z where
 cap1 : 1 <= v.cap
 cap2 : v.cap <= 2400
 fits : qs x y z <= v.cap
theorem Tri.tot {l : List Frac} {x y z : Frac} (h : Tri l x y z) : Low (total l) /\ q (total l) = qs x y z := by
 have e : total l = plus x (plus y (plus z {})) := by rw [h.eq]; rfl
 rw [e, plus_nil h.lz];have l1 := low_plus h.ly h.lz;exact ⟨low_plus h.lx l1, by rw [q_plus h.lx l1, q_plus h.ly h.lz]; grind⟩
theorem VOk.con {v : Vessel} {x y z : Frac} (h : VOk v x y z) : Low (content v) /\ q (content v) = qs x y z := h.toTri.tot
theorem VOk.room {v : Vessel} {x y z : Frac} (h : VOk v x y z) : Low (room v) /\ q (room v) = v.cap - qs x y z := by
 obtain ⟨l, e⟩ := h.con;have hle : q (content v) <= q (whole v.cap) := by rw [e, q_whole]; exact h.fits
 exact ⟨low_less (low_whole _) l, by unfold Vbtaam.room; rw [q_less (low_whole _) l hle, q_whole, e]⟩
structure Sh (l : List Frac) (c : Frac) (ss : List Nat) (x y z : Frac) (a b d : Nat) : Prop extends Tri l x y z where
 es : ss = [a, b, d]
 pos : 0 < a + b + d
 e0 : q x * (a + b + d : Nat) = q c * a
 e1 : q y * (a + b + d : Nat) = q c * b
 e2 : q z * (a + b + d : Nat) = q c * d
theorem rat_mul_cancel {a b c : Rat} (h : c ≠ 0) (e : a * c = b * c) : a = b := by grind
theorem Sh.sum {l : List Frac} {c : Frac} {ss : List Nat} {x y z : Frac} {a b d : Nat} (h : Sh l c ss x y z a b d) : qs x y z = q c := by
 have hp := natne h.pos;refine rat_mul_cancel hp ?_;have e0 := h.e0;have e1 := h.e1;have e2 := h.e2;simp only [Rat.natCast_add] at *;grind
structure VRel (v : Vessel) (c : Frac) (ss : List Nat) : Prop where
 ok : ∃ x y z, VOk v x y z
 ec : c = content v
 sh : 0 < c.num -> ∃ x y z a b d, Sh v.has c ss x y z a b d
theorem VRel.low {v : Vessel} {c : Frac} {ss : List Nat} (h : VRel v c ss) : Low c := by
 obtain ⟨x, y, z, k⟩ := h.ok;rw [h.ec];exact k.con.1
structure Load (l : List Frac) (t : Frac) (os : List Nat) : Prop where
 ok : ∃ x y z, Tri l x y z /\ qs x y z = q t
 low : Low t
 sh : 0 < t.num -> ∃ x y z a b d, Sh l t os x y z a b d
theorem zero3 {a b c : Rat} (ha : 0 <= a) (hb : 0 <= b) (hc : 0 <= c) (h : a + b + c = 0) : a = 0 /\ b = 0 /\ c = 0 := by grind
theorem with_eq {v : Vessel} {l : List Frac} {x y z a b d : Frac} (h1 : v.has = [x, y, z]) (h2 : l = [a, b, d]) : (with_ v l).has = [plus x a, plus y b, plus z d] := by
 unfold with_
 rw [h1, h2];rfl
theorem put_zero {v : Vessel} {c t : Frac} {ss os : List Nat} {l : List Frac} (h : VRel v c ss) (p : Load l t os) (e : t.num = 0) : with_ v l = v := by
 obtain ⟨x, y, z, k⟩ := h.ok;obtain ⟨a, b, d, k2, es⟩ := p.ok;have z0 := (q_zero p.low).mpr e;obtain ⟨za, zb, zd⟩ := zero3 (q_nn a) (q_nn b) (q_nn d) (by rw [<- z0]; exact es);have := q_eq_zero k2.lx za;have := q_eq_zero k2.ly zb;have := q_eq_zero k2.lz zd;subst a b d;have hh : (with_ v l).has = v.has := by rw [with_eq k.eq k2.eq, plus_nil k.lx, plus_nil k.ly, plus_nil k.lz, k.eq]
 have hc : (with_ v l).cap = v.cap := rfl;cases v;cases hw : with_ _ l
 rw [hw] at hh hc
 simp_all
theorem put_ok {v : Vessel} {c t : Frac} {ss os : List Nat} {l : List Frac} (h : VRel v c ss) (p : Load l t os) (fit : q t <= q (room v)) : ∃ x y z, VOk (with_ v l) x y z /\ qs x y z = q c + q t := by
 obtain ⟨x, y, z, k⟩ := h.ok;obtain ⟨a, b, d, k2, es⟩ := p.ok;have ec := k.con.2;rw [k.room.2] at fit;rw [<- h.ec] at ec;have esum : qs (plus x a) (plus y b) (plus z d) = q c + q t := by
  show q (plus x a) + q (plus y b) + q (plus z d) = _;rw [q_plus k.lx k2.lx, q_plus k.ly k2.ly, q_plus k.lz k2.lz, ec, <- es];grind
 refine ⟨plus x a, plus y b, plus z d, ⟨⟨with_eq k.eq k2.eq, low_plus k.lx k2.lx, low_plus k.ly k2.ly, low_plus k.lz k2.lz⟩, k.cap1, k.cap2, ?_⟩, esum⟩;show qs (plus x a) (plus y b) (plus z d) <= v.cap;rw [esum, ec];grind
theorem put_con {v : Vessel} {c t : Frac} {ss os : List Nat} {l : List Frac} (h : VRel v c ss) (p : Load l t os) (fit : q t <= q (room v)) : plus c t = content (with_ v l) := by
 obtain ⟨x, y, z, k, e⟩ := put_ok h p fit;refine q_inj (low_plus h.low p.low) k.con.1 ?_;rw [q_plus h.low p.low, k.con.2, e]
theorem put_first {v : Vessel} {c t : Frac} {ss os : List Nat} {l : List Frac} (h : VRel v c ss) (p : Load l t os) (fit : q t <= q (room v)) (c0 : c.num = 0) (tp : 0 < t.num) : VRel (with_ v l) (plus c t) os := by
 obtain ⟨x, y, z, k, e⟩ := put_ok h p fit;refine ⟨⟨x, y, z, k⟩, put_con h p fit, fun _ => ?_⟩;obtain ⟨a, b, d, s0, s1, s2, S⟩ := p.sh tp;have := zero_low h.low c0;subst c;obtain ⟨x', y', z', k'⟩ := h.ok;have ec := k'.con.2;rw [<- h.ec, q_nil] at ec;obtain ⟨zx, zy, zz⟩ := zero3 (q_nn x') (q_nn y') (q_nn z') ec.symm;have := q_eq_zero k'.lx zx;have := q_eq_zero k'.ly zy;have := q_eq_zero k'.lz zz;subst x' y' z';rw [nil_plus p.low];have e' := with_eq k'.eq S.eq
 rw [nil_plus S.lx, nil_plus S.ly, nil_plus S.lz] at e';exact ⟨a, b, d, s0, s1, s2, ⟨⟨e', S.lx, S.ly, S.lz⟩, S.es, S.pos, S.e0, S.e1, S.e2⟩⟩
theorem mix_one {x y c t : Frac} {s o m n : Nat} (lx : Low x) (ly : Low y) (hc : Low c) (ht : Low t) (tp : 0 < t.num) (mp : 0 < m) (np : 0 < n)
  (ex : q x * m = q c * s) (ey : q y * n = q t * o) :
  q (plus x y) * ((m * (weight c t m n).num + n * (weight c t m n).den : Nat) : Rat) = q (plus c t) * ((s * (weight c t m n).num + o * (weight c t m n).den : Nat) : Rat) := by
 rw [q_plus lx ly, q_plus hc ht, mix_share hc ht tp mp np];have hm := natne mp;have hn := natne np;have e1 : q x = q c * s / m := by rw [<- ex]; grind
 have e2 : q y = q t * o / n := by rw [<- ey]; grind
 rw [e1, e2]
theorem put_mixed {v : Vessel} {c t : Frac} {l : List Frac} {a b d a' b' d' : Nat} (h : VRel v c [a, b, d]) (p : Load l t [a', b', d']) (fit : q t <= q (room v)) (cp : 0 < c.num) (tp : 0 < t.num) :
  VRel (with_ v l) (plus c t) [a * (weight c t (a + b + d) (a' + b' + d')).num + a' * (weight c t (a + b + d) (a' + b' + d')).den, b * (weight c t (a + b + d) (a' + b' + d')).num + b' * (weight c t (a + b + d) (a' + b' + d')).den,
   d * (weight c t (a + b + d) (a' + b' + d')).num + d' * (weight c t (a + b + d) (a' + b' + d')).den] := by
 obtain ⟨x, y, z, k, e⟩ := put_ok h p fit;refine ⟨⟨x, y, z, k⟩, put_con h p fit, fun _ => ?_⟩;obtain ⟨x1, y1, z1, s0, s1, s2, S⟩ := h.sh cp;obtain ⟨x2, y2, z2, o0, o1, o2, O⟩ := p.sh tp;have e1 := S.es;have e2 := O.es;simp only [List.cons.injEq, and_true] at e1 e2;obtain ⟨rfl, rfl, rfl⟩ := e1;obtain ⟨rfl, rfl, rfl⟩ := e2;have Lw := low_weight h.low p.low tp S.pos O.pos;have es : a * (weight c t (a + b + d) (a' + b' + d')).num + a' * (weight c t (a + b + d) (a' + b' + d')).den + (b * (weight c t (a + b + d) (a' + b' + d')).num + b' * (weight c t (a + b + d) (a' + b' + d')).den) +
   (d * (weight c t (a + b + d) (a' + b' + d')).num + d' * (weight c t (a + b + d) (a' + b' + d')).den) = (a + b + d) * (weight c t (a + b + d) (a' + b' + d')).num + (a' + b' + d') * (weight c t (a + b + d) (a' + b' + d')).den := by grind
 have m0 := mix_one S.lx O.lx h.low p.low tp S.pos O.pos S.e0 O.e0;have m1 := mix_one S.ly O.ly h.low p.low tp S.pos O.pos S.e1 O.e1;have m2 := mix_one S.lz O.lz h.low p.low tp S.pos O.pos S.e2 O.e2;refine ⟨_, _, _, _, _, _, ⟨⟨with_eq S.eq O.eq, low_plus S.lx O.lx, low_plus S.ly O.ly, low_plus S.lz O.lz⟩, rfl, ?_, ?_, ?_, ?_⟩⟩
 ·rw [es];have := Nat.mul_pos O.pos Lw.pos;omega
 ·rw [es]; exact m0
 ·rw [es]; exact m1
 ·rw [es]; exact m2
theorem part_load {v : Vessel} {c t : Frac} {ss : List Nat} (h : VRel v c ss) (lt : Low t) (le : q t <= q c) : Load (part v t) t ss := by
 obtain ⟨x, y, z, k⟩ := h.ok
 by_cases c0 : c.num = 0
 ·have t0 : q t = 0 := by
   have := (q_zero h.low).mpr c0;have := q_nn t;grind
  have tn := (q_zero lt).mp t0;have ep : part v t = [{}, {}, {}] := by
   unfold part;rw [<- h.ec, if_pos c0];rfl
  rw [ep];refine ⟨⟨{}, {}, {}, ⟨rfl, low_nil, low_nil, low_nil⟩, ?_⟩, lt, fun tp => by omega⟩;show q {} + q {} + q {} = _;rw [q_nil, t0];grind
 ·have cp : 0 < c.num := by omega
  obtain ⟨x1, y1, z1, a, b, d, S⟩ := h.sh cp;have lo := low_over lt cp;have eo := q_over lt h.low cp;have cn : q c ≠ 0 := Rat.ne_of_gt (q_pos h.low cp);have ep : part v t = [times x1 (over t c), times y1 (over t c), times z1 (over t c)] := by
   unfold part;rw [<- h.ec, if_neg c0, S.eq];rfl
  have hs := S.sum;rw [ep];refine ⟨⟨_, _, _, ⟨rfl, low_times S.lx lo, low_times S.ly lo, low_times S.lz lo⟩, ?_⟩, lt, fun tp => ⟨_, _, _, a, b, d, ⟨rfl, low_times S.lx lo, low_times S.ly lo, low_times S.lz lo⟩, S.es, S.pos, ?_, ?_, ?_⟩⟩
  ·show q (times x1 _) + q (times y1 _) + q (times z1 _) = _;rw [q_times S.lx lo, q_times S.ly lo, q_times S.lz lo, eo];have : q x1 * (q t / q c) + q y1 * (q t / q c) + q z1 * (q t / q c) = qs x1 y1 z1 * (q t / q c) := by
    show _ = (q x1 + q y1 + q z1) * (q t / q c);grind
   rw [this, hs];grind
  ·rw [q_times S.lx lo, eo];have := S.e0;have e : q x1 * (q t / q c) * ((a + b + d : Nat) : Rat) = q x1 * ((a + b + d : Nat) : Rat) * (q t / q c) := by grind
   rw [e, this];grind
  ·rw [q_times S.ly lo, eo];have := S.e1;have e : q y1 * (q t / q c) * ((a + b + d : Nat) : Rat) = q y1 * ((a + b + d : Nat) : Rat) * (q t / q c) := by grind
   rw [e, this];grind
  ·rw [q_times S.lz lo, eo];have := S.e2;have e : q z1 * (q t / q c) * ((a + b + d : Nat) : Rat) = q z1 * ((a + b + d : Nat) : Rat) * (q t / q c) := by grind
   rw [e, this];grind
end Vr
namespace Vr
open Vbtaam
theorem less_nil_nil : less {} {} = {} := q_inj (low_less low_nil low_nil) low_nil (by rw [q_less low_nil low_nil Rat.le_refl, q_nil]; grind)
theorem without_eq {v : Vessel} {t x y z a b d : Frac} (h1 : v.has = [x, y, z]) (h2 : part v t = [a, b, d]) : (without v t).has = [less x a, less y b, less z d] := by
 unfold without
 rw [h2, h1];rfl
theorem part_le {x t c : Frac} (lx : Low x) (lt : Low t) (lc : Low c) (cp : 0 < c.num) (le : q t <= q c) : q (times x (over t c)) <= q x /\ q (less x (times x (over t c))) = q x * (q c - q t) / q c := by
 have lo := low_over lt cp;have cn : q c ≠ 0 := Rat.ne_of_gt (q_pos lc cp);have e : q (times x (over t c)) = q x * (q t / q c) := by rw [q_times lx lo, q_over lt lc cp]
 have le1 : q t / q c <= 1 := by
  have := Rat.mul_le_mul_of_nonneg_right le (Rat.le_of_lt (Rat.inv_pos.mpr (q_pos lc cp)));rw [Rat.mul_inv_cancel _ cn, <- Rat.div_def] at this;exact this
 have h : q (times x (over t c)) <= q x := by
  rw [e];have := Rat.mul_le_mul_of_nonneg_left le1 (q_nn x);grind
 refine ⟨h, ?_⟩;rw [q_less lx (low_times lx lo) h, e];grind
theorem take_rel {v : Vessel} {c t : Frac} {ss : List Nat} (h : VRel v c ss) (lt : Low t) (le : q t <= q c) : VRel (without v t) (less c t) ss := by
 obtain ⟨x, y, z, k⟩ := h.ok
 by_cases c0 : c.num = 0
 ·have t0 : q t = 0 := by
   have := (q_zero h.low).mpr c0;have := q_nn t;grind
  have := zero_low h.low c0;have := q_eq_zero lt t0;subst t c;have ec := k.con.2;rw [<- h.ec, q_nil] at ec;obtain ⟨zx, zy, zz⟩ := zero3 (q_nn x) (q_nn y) (q_nn z) ec.symm;have := q_eq_zero k.lx zx;have := q_eq_zero k.ly zy;have := q_eq_zero k.lz zz;subst x y z;have ep : part v {} = [{}, {}, {}] := by
   unfold part;rw [<- h.ec, if_pos c0];rfl
  have e := without_eq k.eq ep
  rw [less_nil_nil] at e;have hv : without v {} = v := by
   have hc : (without v {}).cap = v.cap := rfl;rw [<- k.eq] at e;cases v;cases hw : without _ {}
   rw [hw] at e hc
   simp_all
  rw [hv, less_nil_nil];exact h
 ·have cp : 0 < c.num := by omega
  obtain ⟨x1, y1, z1, a, b, d, S⟩ := h.sh cp;have lo := low_over lt cp;have cn : q c ≠ 0 := Rat.ne_of_gt (q_pos h.low cp);have ep : part v t = [times x1 (over t c), times y1 (over t c), times z1 (over t c)] := by
   unfold part;rw [<- h.ec, if_neg c0, S.eq];rfl
  have e := without_eq S.eq ep
  obtain ⟨_, p0⟩ := part_le S.lx lt h.low cp le;obtain ⟨_, p1⟩ := part_le S.ly lt h.low cp le;obtain ⟨_, p2⟩ := part_le S.lz lt h.low cp le;have l0 := low_less S.lx (low_times S.lx lo);have l1 := low_less S.ly (low_times S.ly lo);have l2 := low_less S.lz (low_times S.lz lo);generalize less x1 (times x1 (over t c)) = u0 at *;generalize less y1 (times y1 (over t c)) = u1 at *;generalize less z1 (times z1 (over t c)) = u2 at *;have hs := S.sum;have es : qs u0 u1 u2 = q c - q t := by
   show q u0 + q u1 + q u2 = _;rw [p0, p1, p2];have : q x1 * (q c - q t) / q c + q y1 * (q c - q t) / q c + q z1 * (q c - q t) / q c = qs x1 y1 z1 * (q c - q t) / q c := by
    show _ = (q x1 + q y1 + q z1) * (q c - q t) / q c;grind
   rw [this, hs];grind
  have fits : qs u0 u1 u2 <= v.cap := by
   have := k.fits;have e1 := k.con.2;rw [<- h.ec] at e1;have := q_nn t;rw [es];grind
  have ok : VOk (without v t) u0 u1 u2 := ⟨⟨e, l0, l1, l2⟩, k.cap1, k.cap2, fits⟩;have ql := q_less h.low lt le;refine ⟨⟨_, _, _, ok⟩, q_inj (low_less h.low lt) ok.con.1 (by rw [ql, ok.con.2, es]), fun _ => ⟨u0, u1, u2, a, b, d, ⟨e, l0, l1, l2⟩, S.es, S.pos, ?_, ?_, ?_⟩⟩
  ·rw [ql, p0];have e : q x1 * (q c - q t) / q c * ((a + b + d : Nat) : Rat) = q x1 * ((a + b + d : Nat) : Rat) * (q c - q t) / q c := by grind
   rw [e, S.e0];grind
  ·rw [ql, p1];have e : q y1 * (q c - q t) / q c * ((a + b + d : Nat) : Rat) = q y1 * ((a + b + d : Nat) : Rat) * (q c - q t) / q c := by grind
   rw [e, S.e1];grind
  ·rw [ql, p2];have e : q z1 * (q c - q t) / q c * ((a + b + d : Nat) : Rat) = q z1 * ((a + b + d : Nat) : Rat) * (q c - q t) / q c := by grind
   rw [e, S.e2];grind
theorem share_frac {x c : Frac} {a n : Nat} (lx : Low x) (lc : Low c) (np : 0 < n) (e : q x * n = q c * a) : times c (frac a n) = x := by
 refine q_inj (low_times lc (low_frac np)) lx ?_;rw [q_times lc (low_frac np), q_frac np];have hn := natne np;have : q c * (a / n) = q c * a / n := by grind
 rw [this, <- e];grind
theorem share_over {x c : Frac} {a n : Nat} (lx : Low x) (lc : Low c) (cp : 0 < c.num) (np : 0 < n) (e : q x * n = q c * a) : frac a n = over x c := by
 refine q_inj (low_frac np) (low_over lx cp) ?_;rw [q_over lx lc cp, q_frac np];have hn := natne np;have cn : q c ≠ 0 := Rat.ne_of_gt (q_pos lc cp);have : (a : Rat) / n = q c * a / n / q c := by grind
 rw [this, <- e];grind
theorem drain_rel {v : Vessel} {c : Frac} {ss : List Nat} (h : VRel v c ss) : VRel (empty v) {} ss := by
 obtain ⟨x, y, z, k⟩ := h.ok;have z0 : qs {} {} {} = 0 := by
  show q {} + q {} + q {} = 0;rw [q_nil];grind
 have ok : VOk (empty v) {} {} {} := ⟨⟨rfl, low_nil, low_nil, low_nil⟩, k.cap1, k.cap2, by rw [z0]; exact natnn _⟩;exact ⟨⟨_, _, _, ok⟩, q_inj low_nil ok.con.1 (by rw [ok.con.2, z0, q_nil]), fun p => absurd p (by decide)⟩
theorem new_rel {n : Nat} (h1 : 1 <= n) (h2 : n <= 2400) (ss : List Nat) : VRel { cap := n, has := List.replicate KINDS {} } {} ss := by
 have z0 : qs {} {} {} = 0 := by
  show q {} + q {} + q {} = 0;rw [q_nil];grind
 have ok : VOk { cap := n, has := List.replicate KINDS {} } {} {} {} := ⟨⟨rfl, low_nil, low_nil, low_nil⟩, h1, h2, by rw [z0]; exact natnn _⟩;exact ⟨⟨_, _, _, ok⟩, q_inj low_nil ok.con.1 (by rw [ok.con.2, z0, q_nil]), fun p => absurd p (by decide)⟩
theorem alone_load {t : Frac} (k : Nat) (hk : k < 3) (lt : Low t) : Load (alone k t) t (([0, 0, 0] : List Nat).set k 1) := by
 match k, hk with
 | 0, _ =>
  refine ⟨⟨t, {}, {}, ⟨rfl, lt, low_nil, low_nil⟩, ?_⟩, lt, fun _ => ⟨t, {}, {}, 1, 0, 0, ⟨rfl, lt, low_nil, low_nil⟩, rfl, by decide, ?_, ?_, ?_⟩⟩ <;> first | (show q t + q {} + q {} = _; rw [q_nil]; grind) | rfl | (rw [q_nil]; grind)
 | 1, _ =>
  refine ⟨⟨{}, t, {}, ⟨rfl, low_nil, lt, low_nil⟩, ?_⟩, lt, fun _ => ⟨{}, t, {}, 0, 1, 0, ⟨rfl, low_nil, lt, low_nil⟩, rfl, by decide, ?_, ?_, ?_⟩⟩ <;> first | (show q {} + q t + q {} = _; rw [q_nil]; grind) | rfl | (rw [q_nil]; grind)
 | 2, _ =>
  refine ⟨⟨{}, {}, t, ⟨rfl, low_nil, low_nil, lt⟩, ?_⟩, lt, fun _ => ⟨{}, {}, t, 0, 0, 1, ⟨rfl, low_nil, low_nil, lt⟩, rfl, by decide, ?_, ?_, ?_⟩⟩ <;> first | (show q {} + q {} + q t = _; rw [q_nil]; grind) | rfl | (rw [q_nil]; grind)
end Vr
namespace Vr
open Vbtaam
theorem den_iff {x : Frac} {L : Nat} (hx : Low x) : x.den ∣ L ↔ ∃ C : Nat, (L : Rat) * q x = C := by
 have hd := natne hx.pos;constructor
 ·rintro ⟨k, rfl⟩;refine ⟨k * x.num, ?_⟩;unfold q;rw [Rat.natCast_mul, Rat.natCast_mul];grind
 ·rintro ⟨C, e⟩;have e2 : L * x.num = C * x.den := by
   unfold q at e;have : (L : Rat) * x.num = C * x.den := by rw [<- e]; grind
   exact_mod_cast this
  have : x.den ∣ L * x.num := ⟨C, by rw [e2, Nat.mul_comm]⟩;exact Nat.Coprime.dvd_of_dvd_mul_right (by rw [Nat.Coprime, Nat.gcd_comm]; exact hx.cop) this
theorem den_plus {x y : Frac} {L : Nat} (hx : Low x) (hy : Low y) (dx : x.den ∣ L) (dy : y.den ∣ L) : (plus x y).den ∣ L := by
 obtain ⟨C, e1⟩ := (den_iff hx).mp dx;obtain ⟨D, e2⟩ := (den_iff hy).mp dy;refine (den_iff (low_plus hx hy)).mpr ⟨C + D, ?_⟩;rw [q_plus hx hy, Rat.mul_add, e1, e2, Rat.natCast_add]
theorem den_less {x y : Frac} {L : Nat} (hx : Low x) (hy : Low y) (le : q y <= q x) (dx : x.den ∣ L) (dy : y.den ∣ L) : (less x y).den ∣ L := by
 obtain ⟨C, e1⟩ := (den_iff hx).mp dx;obtain ⟨D, e2⟩ := (den_iff hy).mp dy;have hDC : D <= C := by
  have : (D : Rat) <= C := by
   rw [<- e1, <- e2];exact Rat.mul_le_mul_of_nonneg_left le (natnn L)
  exact_mod_cast this
 refine (den_iff (low_less hx hy)).mpr ⟨C - D, ?_⟩;rw [q_less hx hy le];have e3 : ((C - D : Nat) : Rat) + D = C := by
  have : C - D + D = C := by omega
  exact_mod_cast this
 have e4 : (L : Rat) * (q x - q y) = L * q x - L * q y := by grind
 rw [e4, e1, e2];generalize ((C - D : Nat) : Rat) = w at e3 ⊢;grind
theorem den_frac {a b : Nat} (h : 0 < b) : (frac a b).den ∣ b := by
 refine (den_iff (low_frac h)).mpr ⟨a, ?_⟩;rw [q_frac h];have := natne h;grind
theorem den_whole (n L : Nat) : (whole n).den ∣ L := Nat.one_dvd L
theorem num_le {x : Frac} {n : Nat} (hx : Low x) (h : q x <= n) : x.num <= n * x.den := by
 have := (le_iff hx (low_whole n)).mp (by rw [q_whole]; exact h);simpa [whole] using this
theorem frac_small {x : Frac} {L n B : Nat} (hx : Low x) (d : x.den ∣ L) (Lp : 0 < L) (h : q x <= n) (hn : 1 <= n) (hB : n * L <= B) : x.num <= B /\ x.den <= B := by
 have h1 := Nat.le_of_dvd Lp d;have h2 := num_le hx h;have h3 : n * x.den <= n * L := Nat.mul_le_mul_left n h1;have h4 : 1 * L <= n * L := Nat.mul_le_mul_right L hn;exact ⟨by omega, by omega⟩
end Vr
namespace Vr
open Vbtaam
theorem cop_of {a b : Nat} (h : Nat.gcd a b = 1) : Nat.Coprime a b := h
theorem cross {x0 x1 y0 y1 : Nat} (h1 : 0 < x1) (h2 : 0 < y1) (cx : Nat.gcd x0 x1 = 1) (cy : Nat.gcd y0 y1 = 1) :
  (⟨x0 / Nat.gcd x0 y1 * (y0 / Nat.gcd y0 x1), x1 / Nat.gcd y0 x1 * (y1 / Nat.gcd x0 y1)⟩ : Frac) = frac (x0 * y0) (x1 * y1) := by
 have g1 : 0 < Nat.gcd x0 y1 := Nat.gcd_pos_of_pos_right x0 h2;have g2 : 0 < Nat.gcd y0 x1 := Nat.gcd_pos_of_pos_right y0 h1;obtain ⟨a, ea⟩ := Nat.gcd_dvd_left x0 y1;obtain ⟨b, eb⟩ := Nat.gcd_dvd_right x0 y1;obtain ⟨c, ec⟩ := Nat.gcd_dvd_left y0 x1;obtain ⟨d, ed⟩ := Nat.gcd_dvd_right y0 x1;have ab : Nat.gcd (x0 / Nat.gcd x0 y1) (y1 / Nat.gcd x0 y1) = 1 := by rw [Nat.gcd_div (Nat.gcd_dvd_left _ _) (Nat.gcd_dvd_right _ _)]; exact Nat.div_self g1
 have cd : Nat.gcd (y0 / Nat.gcd y0 x1) (x1 / Nat.gcd y0 x1) = 1 := by rw [Nat.gcd_div (Nat.gcd_dvd_left _ _) (Nat.gcd_dvd_right _ _)]; exact Nat.div_self g2
 have e1 : x0 / Nat.gcd x0 y1 = a := Nat.div_eq_of_eq_mul_right g1 ea;have e2 : y1 / Nat.gcd x0 y1 = b := Nat.div_eq_of_eq_mul_right g1 eb;have e3 : y0 / Nat.gcd y0 x1 = c := Nat.div_eq_of_eq_mul_right g2 ec;have e4 : x1 / Nat.gcd y0 x1 = d := Nat.div_eq_of_eq_mul_right g2 ed;rw [e1, e2] at ab;rw [e3, e4] at cd;rw [e1, e2, e3, e4];have ad : Nat.Coprime a d := Nat.Coprime.coprime_dvd_left ⟨_, by rw [Nat.mul_comm]; exact ea⟩ (Nat.Coprime.coprime_dvd_right ⟨_, by rw [Nat.mul_comm]; exact ed⟩ (cop_of cx));have cb : Nat.Coprime c b := Nat.Coprime.coprime_dvd_left ⟨_, by rw [Nat.mul_comm]; exact ec⟩ (Nat.Coprime.coprime_dvd_right ⟨_, by rw [Nat.mul_comm]; exact eb⟩ (cop_of cy));have dp : 0 < d := by
  rcases Nat.eq_zero_or_pos d with e | e
  ·rw [e, Nat.mul_zero] at ed; omega
  ·exact e
 have bp : 0 < b := by
  rcases Nat.eq_zero_or_pos b with e | e
  ·rw [e, Nat.mul_zero] at eb; omega
  ·exact e
 have hl : Low (⟨a * c, d * b⟩ : Frac) := ⟨Nat.mul_pos dp bp, Nat.Coprime.mul_left (Nat.Coprime.mul_right ad ab) (Nat.Coprime.mul_right cd cb)⟩;refine q_inj hl (low_frac (Nat.mul_pos h1 h2)) ?_;rw [q_frac (Nat.mul_pos h1 h2)];show ((a * c : Nat) : Rat) / ((d * b : Nat) : Rat) = _;rw [div_eq_div (natne (Nat.mul_pos dp bp)) (natne (Nat.mul_pos h1 h2))];have key : a * c * (x1 * y1) = x0 * y0 * (d * b) := by
  generalize Nat.gcd x0 y1 = g at *;generalize Nat.gcd y0 x1 = h at *;subst ea ec eb ed;grind
 exact_mod_cast key
end Vr
namespace Vr
open Vbtaam
theorem fresh_old {w : Way} {l : List Way} {seen : List Amounts} (h : seen.contains w.amounts = true) : fresh seen (w :: l) = fresh seen l := by
 rw [fresh, if_pos h]
theorem fresh_new {w : Way} {l : List Way} {seen : List Amounts} (h : ¬ seen.contains w.amounts = true) : fresh seen (w :: l) = ((fresh (w.amounts :: seen) l).1, w :: (fresh (w.amounts :: seen) l).2) := by
 rw [fresh, if_neg h]
theorem fresh_append : ∀ (a b : List Way) (seen : List Amounts), fresh seen (a ++ b) = ((fresh (fresh seen a).1 b).1, (fresh seen a).2 ++ (fresh (fresh seen a).1 b).2)
 | [], b, seen => by simp [fresh]
 | w :: a, b, seen => by
  rw [List.cons_append]
  by_cases h : seen.contains w.amounts = true
  ·rw [fresh_old h, fresh_old h, fresh_append a b seen]
  ·rw [fresh_new h, fresh_new h, fresh_append a b (w.amounts :: seen)];rfl
def qrun (caps : List Nat) (tap : Bool) : Nat -> List Amounts -> List Way -> List Way
 | 0, _, _ => []
 | _ + 1, _, [] => []
 | n + 1, seen, w :: l => w :: qrun caps tap n (fresh seen (steps caps tap w)).1 (l ++ (fresh seen (steps caps tap w)).2)
theorem qrun_nil (caps : List Nat) (tap : Bool) (n : Nat) (seen : List Amounts) : qrun caps tap n seen [] = [] := by cases n <;> rfl
theorem qrun_layer (caps : List Nat) (tap : Bool) (k : Nat) : ∀ (l m : List Way) (seen : List Amounts),
  qrun caps tap (l.length + k) seen (l ++ m) = l ++ qrun caps tap k (fresh seen (l.flatMap (steps caps tap))).1 (m ++ (fresh seen (l.flatMap (steps caps tap))).2)
 | [], m, seen => by simp [fresh]
 | w :: l, m, seen => by
  have e : (w :: l).length + k = (l.length + k) + 1 := by simp only [List.length_cons]; omega
  rw [e];show w :: qrun caps tap (l.length + k) (fresh seen (steps caps tap w)).1 ((l ++ m) ++ (fresh seen (steps caps tap w)).2) = _;rw [List.append_assoc, qrun_layer caps tap k l, List.flatMap_cons, fresh_append];simp only [List.append_assoc, List.cons_append]
def InBox : List Nat -> Amounts -> Prop
 | [], [] => True
 | c :: cs, a :: as => a <= c /\ InBox cs as
 | _, _ => False
theorem InBox.len : ∀ {cs : List Nat} {w : Amounts}, InBox cs w -> w.length = cs.length
 | [], [], _ => rfl
 | _ :: _, _ :: _, h => by
  have := InBox.len h.2;simp only [List.length_cons];omega
def code : List Nat -> Amounts -> Nat
 | c :: cs, a :: as => a + (c + 1) * code cs as
 | _, _ => 0
theorem code_lt : ∀ {cs : List Nat} {w : Amounts}, InBox cs w -> code cs w < size cs
 | [], [], _ => by decide
 | c :: cs, a :: as, h => by
  have ih := code_lt h.2;show a + (c + 1) * code cs as < (c + 1) * size cs;have h1 := h.1;have : (c + 1) * (code cs as + 1) <= (c + 1) * size cs := Nat.mul_le_mul_left _ ih;rw [Nat.mul_add] at this;omega
theorem code_inj : ∀ {cs : List Nat} {v w : Amounts}, InBox cs v -> InBox cs w -> code cs v = code cs w -> v = w
 | [], [], [], _, _, _ => rfl
 | c :: cs, a :: as, b :: bs, h, k, e => by
  have e : a + (c + 1) * code cs as = b + (c + 1) * code cs bs := e;have h1 := h.1;have k1 := k.1;have m : (a + (c + 1) * code cs as) % (c + 1) = (b + (c + 1) * code cs bs) % (c + 1) := by rw [e]
  rw [Nat.add_mul_mod_self_left, Nat.add_mul_mod_self_left, Nat.mod_eq_of_lt (by omega), Nat.mod_eq_of_lt (by omega)] at m;subst m;have e2 : (c + 1) * code cs as = (c + 1) * code cs bs := by omega
  rw [code_inj h.2 k.2 (Nat.eq_of_mul_eq_mul_left (by omega) e2)]
theorem nodup_lt : ∀ (n : Nat) (l : List Nat), l.Nodup -> (∀ x ∈ l, x < n) -> l.length <= n
 | 0, l, _, h => by
  cases l with
  | nil => simp
  | cons a r => exact absurd (h a (by simp)) (by omega)
 | n + 1, l, nd, h => by
  have h1 : (l.erase n).Nodup := nd.erase n;have h2 : ∀ x ∈ l.erase n, x < n := fun x hx => by
   have := h x (List.mem_of_mem_erase hx);have ne : x ≠ n := fun e => by
    subst e;exact (List.Nodup.not_mem_erase nd) hx
   omega
  have ih := nodup_lt n _ h1 h2;have := List.length_erase_le (a := n) (l := l);have h3 : l.length <= (l.erase n).length + 1 := by
   by_cases hm : n ∈ l
   ·rw [List.length_erase_of_mem hm];omega
   ·rw [List.erase_of_not_mem hm];omega
  omega
theorem box_count {cs : List Nat} {l : List Amounts} (nd : l.Nodup) (h : ∀ w ∈ l, InBox cs w) : l.length <= size cs := by
 have h1 : (l.map (code cs)).Nodup := by
  rw [List.nodup_iff_pairwise_ne] at nd ⊢;rw [List.pairwise_map];refine nd.imp_of_mem fun {a b} ha hb hne e => hne (code_inj (h a ha) (h b hb) e)
 have := nodup_lt (size cs) (l.map (code cs)) h1 (fun x hx => by
  obtain ⟨w, hw, rfl⟩ := List.mem_map.mp hx;exact code_lt (h w hw))
 rw [List.length_map] at this;exact this
theorem fresh_seen : ∀ (l : List Way) (seen : List Amounts), (fresh seen l).1.length = seen.length + (fresh seen l).2.length
 | [], seen => by simp [fresh]
 | w :: l, seen => by
  unfold fresh
  by_cases h : seen.contains w.amounts = true
  ·rw [if_pos h];exact fresh_seen l seen
  ·rw [if_neg h];have := fresh_seen l (w.amounts :: seen);simp only [List.length_cons] at this ⊢;omega
theorem fresh_nodup : ∀ (l : List Way) (seen : List Amounts), seen.Nodup -> (fresh seen l).1.Nodup
 | [], seen, h => h
 | w :: l, seen, h => by
  unfold fresh
  by_cases hc : seen.contains w.amounts = true
  ·rw [if_pos hc];exact fresh_nodup l seen h
  ·rw [if_neg hc];exact fresh_nodup l (w.amounts :: seen) (List.nodup_cons.mpr ⟨by simpa using hc, h⟩)
theorem fresh_box {cs : List Nat} : ∀ (l : List Way) (seen : List Amounts), (∀ w ∈ seen, InBox cs w) -> (∀ w ∈ l, InBox cs w.amounts) -> ∀ w ∈ (fresh seen l).1, InBox cs w
 | [], seen, h, _ => h
 | w :: l, seen, h, h2 => by
  unfold fresh
  by_cases hc : seen.contains w.amounts = true
  ·rw [if_pos hc];exact fresh_box l seen h fun v hv => h2 v (List.mem_cons_of_mem _ hv)
  ·rw [if_neg hc];exact fresh_box l (w.amounts :: seen) (fun v hv => by
    rcases List.mem_cons.mp hv with rfl | hv
    ·exact h2 w (by simp)
    ·exact h v hv) fun v hv => h2 v (List.mem_cons_of_mem _ hv)
theorem fresh_sub : ∀ (l : List Way) (seen : List Amounts), ∀ w ∈ (fresh seen l).2, w ∈ l
 | [], seen => by simp [fresh]
 | v :: l, seen => by
  unfold fresh
  by_cases hc : seen.contains v.amounts = true
  ·rw [if_pos hc];exact fun w hw => List.mem_cons_of_mem _ (fresh_sub l seen w hw)
  ·rw [if_neg hc];intro w hw;rcases List.mem_cons.mp hw with rfl | hw
   ·simp
   ·exact List.mem_cons_of_mem _ (fresh_sub l _ w hw)
theorem box_set : ∀ {cs : List Nat} {w : Amounts} (i x : Nat), InBox cs w -> x <= cs.getD i 0 -> InBox cs (w.set i x)
 | [], [], i, x, _, _ => by simp [InBox]
 | c :: cs, a :: as, 0, x, h, hx => ⟨by simpa using hx, h.2⟩
 | c :: cs, a :: as, i + 1, x, h, hx => ⟨h.1, box_set i x h.2 (by simpa using hx)⟩
theorem box_at : ∀ {cs : List Nat} {w : Amounts} (i : Nat), InBox cs w -> w.getD i 0 <= cs.getD i 0
 | [], [], i, _ => by simp
 | c :: cs, a :: as, 0, h => by simpa using h.1
 | c :: cs, a :: as, i + 1, h => by simpa using box_at i h.2
theorem done_box {cs : List Nat} {w : Amounts} (d : Deed) (h : InBox cs w) : InBox cs (done cs w d) := by
 cases d with
 | fill v => exact box_set v _ h (Nat.le_refl _)
 | drain v => exact box_set v 0 h (Nat.zero_le _)
 | pour a b =>
  have ha := box_at a h;have hb := box_at b h;unfold done;simp only;refine box_set b _ (box_set a _ h ?_) ?_
  ·unfold at_ at *;omega
  ·unfold at_ at *;omega
theorem steps_box {cs : List Nat} {tap : Bool} {w : Way} (h : InBox cs w.amounts) : ∀ v ∈ steps cs tap w, InBox cs v.amounts := fun v hv => by
 unfold steps at hv;obtain ⟨p, _, rfl⟩ := List.mem_map.mp hv;exact done_box p.2 h
theorem layers_qrun {cs : List Nat} {tap : Bool} : ∀ (free : Nat) (n K : Nat) (seen : List Amounts) (l : List Way), seen.Nodup -> (∀ w ∈ seen, InBox cs w) -> (∀ w ∈ l, InBox cs w.amounts) -> size cs - seen.length <= free ->
  free + 1 <= n -> l.length + free <= K -> layers cs tap n seen l = qrun cs tap K seen l := by
 intro free
 induction free using Nat.strongRecOn with
 | _ free ih =>
  intro n K seen l nd hs hl hf hn hK;obtain ⟨n, rfl⟩ : ∃ m, n = m + 1 := ⟨n - 1, by omega⟩;obtain ⟨k, rfl⟩ : ∃ k, K = l.length + k := ⟨K - l.length, by omega⟩;have e1 := qrun_layer cs tap k l [] seen;rw [List.append_nil, List.nil_append] at e1;rw [e1];unfold layers;cases l with
  | nil =>
   rw [if_pos (by rfl)];simp only [List.flatMap_nil, fresh, List.nil_append, qrun_nil]
  | cons w l =>
   rw [if_neg (by simp)];simp only;congr 1;have nd' := fresh_nodup ((w :: l).flatMap (steps cs tap)) seen nd;have hb : ∀ v ∈ (w :: l).flatMap (steps cs tap), InBox cs v.amounts := fun v hv => by
    obtain ⟨u, hu, hv⟩ := List.mem_flatMap.mp hv;exact steps_box (hl u hu) v hv
   have hs' := fresh_box _ seen hs hb;have len := fresh_seen ((w :: l).flatMap (steps cs tap)) seen;have cnt := box_count nd' hs';have hl' : ∀ v ∈ (fresh seen ((w :: l).flatMap (steps cs tap))).2, InBox cs v.amounts := fun v hv => hb v (fresh_sub _ _ v hv);generalize fresh seen ((w :: l).flatMap (steps cs tap)) = x at *
   by_cases hx : x.2 = []
   ·rw [hx, qrun_nil];cases n with
    | zero => rfl
    | succ n => rfl
   ·have : 0 < x.2.length := by
     cases h : x.2 with
     | nil => exact absurd h hx
     | cons a b => simp
    exact ih (free - x.2.length) (by omega) n k x.1 x.2 nd' hs' hl' (by omega) (by omega) (by omega)
theorem found_qrun {cs : List Nat} {tap : Bool} {w : Amounts} (h : InBox cs w) {K : Nat} (hK : size cs <= K) : found cs tap w = qrun cs tap K [w] [{ amounts := w, path := [] }] := by
 have p := code_lt h;unfold found;refine layers_qrun (size cs - 1) (size cs) K [w] _ (by simp) (by simpa using h) (by simpa using h) (by simp) (by omega) ?_;simp only [List.length_cons, List.length_nil];omega
end Vr
namespace Vr
open PyVbtaam
inductive One : List Int -> List (List Int) -> List Int -> Prop
 | vessel (x : Int) (t : List Int) : One (0 :: x :: t) [[0, x]] t
 | fill (v k : Int) (t : List Int) : One (1 :: v :: k :: t) [[1, v, k]] t
 | drain (v : Int) (t : List Int) : One (2 :: v :: t) [[2, v]] t
 | pour (a b : Int) (t : List Int) : One (3 :: a :: b :: t) [[3, a, b]] t
 | some_ (a b p q : Int) (t : List Int) : One (4 :: a :: b :: p :: q :: t) [[4, a, b, p, q]] t
 | state (t : List Int) : One (5 :: t) [[5]] t
 | strength (v k : Int) (t : List Int) : One (6 :: v :: k :: t) [[6, v, k]] t
 | way (a v n : Int) (t : List Int) : One (7 :: a :: v :: n :: t) [[7, a, v, n]] t
 | can (a : Int) (t : List Int) : One (8 :: a :: t) [[8, a]] t
 | proof (a v n : Int) (t : List Int) : One (9 :: a :: v :: n :: t) [[9, a, v, n]] t
 | check (a v n : Int) (row t : List Int) : One (10 :: a :: v :: n :: (row.length : Int) :: (row ++ t)) [[10, a, v, n], row] t
 | gcd (t : List Int) : One (11 :: t) [[11]] t
 | ledger (t : List Int) : One (12 :: t) [[12]] t
theorem shape_cases {p : Int} {n k : Nat} (h : shape p = some (n, k)) :
  (p = 0 /\ n = 1 /\ k = 0) ∨ (p = 1 /\ n = 2 /\ k = 0) ∨ (p = 2 /\ n = 1 /\ k = 0) ∨ (p = 3 /\ n = 2 /\ k = 0) ∨ (p = 4 /\ n = 4 /\ k = 0) ∨ (p = 5 /\ n = 0 /\ k = 0) ∨ (p = 6 /\ n = 2 /\ k = 0) ∨
  (p = 7 /\ n = 3 /\ k = 0) ∨ (p = 8 /\ n = 1 /\ k = 0) ∨ (p = 9 /\ n = 3 /\ k = 0) ∨ (p = 10 /\ n = 3 /\ k = 1) ∨ (p = 11 /\ n = 0 /\ k = 0) ∨ (p = 12 /\ n = 0 /\ k = 0) := by
 by_cases e0 : p = 0
 ·subst e0;cases (show some (1, 0) = some (n, k) from h);simp
 by_cases e1 : p = 1
 ·subst e1;cases (show some (2, 0) = some (n, k) from h);simp
 by_cases e2 : p = 2
 ·subst e2;cases (show some (1, 0) = some (n, k) from h);simp
 by_cases e3 : p = 3
 ·subst e3;cases (show some (2, 0) = some (n, k) from h);simp
 by_cases e4 : p = 4
 ·subst e4;cases (show some (4, 0) = some (n, k) from h);simp
 by_cases e5 : p = 5
 ·subst e5;cases (show some (0, 0) = some (n, k) from h);simp
 by_cases e6 : p = 6
 ·subst e6;cases (show some (2, 0) = some (n, k) from h);simp
 by_cases e7 : p = 7
 ·subst e7;cases (show some (3, 0) = some (n, k) from h);simp
 by_cases e8 : p = 8
 ·subst e8;cases (show some (1, 0) = some (n, k) from h);simp
 by_cases e9 : p = 9
 ·subst e9;cases (show some (3, 0) = some (n, k) from h);simp
 by_cases e10 : p = 10
 ·subst e10;cases (show some (3, 1) = some (n, k) from h);simp
 by_cases e11 : p = 11
 ·subst e11;cases (show some (0, 0) = some (n, k) from h);simp
 by_cases e12 : p = 12
 ·subst e12;cases (show some (0, 0) = some (n, k) from h);simp
 unfold shape at h;rw [if_neg e0, if_neg e1, if_neg e2, if_neg e3, if_neg e4, if_neg e5, if_neg e6, if_neg e7, if_neg e8, if_neg e9, if_neg e10, if_neg e11, if_neg e12] at h;cases h
theorem call_one {p : Int} {r : List Int} {c : List (List Int)} {t : List Int} (h : PyFlat.call shape (p :: r) = some (c, t)) : One (p :: r) c t := by
 unfold PyFlat.call at h;cases hs : shape p with
 | none => simp [hs] at h
 | some nk =>
  obtain ⟨n, k⟩ := nk;simp only [hs] at h
  by_cases hl0 : r.length < n
  ·rw [if_pos hl0] at h;cases h
  ·rw [if_neg hl0] at h;have hl : n <= r.length := by omega
   clear hl0;cases hr : PyFlat.rows k (r.drop n) with
   | none => simp [hr] at h
   | some x =>
    obtain ⟨xs, t'⟩ := x;simp only [hr, Option.some.injEq, Prod.mk.injEq] at h;obtain ⟨rfl, rfl⟩ := h;rcases shape_cases hs with ⟨rfl, rfl, rfl⟩ | ⟨rfl, rfl, rfl⟩ | ⟨rfl, rfl, rfl⟩ | ⟨rfl, rfl, rfl⟩ | ⟨rfl, rfl, rfl⟩ | ⟨rfl, rfl, rfl⟩ | ⟨rfl, rfl, rfl⟩ | ⟨rfl, rfl, rfl⟩ | ⟨rfl, rfl, rfl⟩ | ⟨rfl, rfl, rfl⟩ | ⟨rfl, rfl, rfl⟩ | ⟨rfl, rfl, rfl⟩ | ⟨rfl, rfl, rfl⟩
    case inr.inr.inr.inr.inr.inr.inr.inr.inr.inr.inl =>
     match r, hl, hr with
     | a :: v :: n :: r, _, hr =>
      have hr : PyFlat.rows 1 r = some (xs, t') := hr;unfold PyFlat.rows at hr
      split at hr
      ·cases hr
      ·rename_i x s hrow;simp only [PyFlat.rows] at hr;simp only [Option.some.injEq, Prod.mk.injEq] at hr;obtain ⟨rfl, rfl⟩ := hr
       match r, hrow with
       | m :: r, hrow =>
        simp only [PyFlat.row] at hrow
        by_cases hm : 0 <= m /\ m.toNat <= r.length
        ·rw [if_pos hm] at hrow;simp only [Option.some.injEq, Prod.mk.injEq] at hrow;obtain ⟨rfl, rfl⟩ := hrow;have e1 : (r.take m.toNat).length = m.toNat := by rw [List.length_take]; omega
         have e2 : ((r.take m.toNat).length : Int) = m := by rw [e1]; omega
         have key := One.check a v n (r.take m.toNat) (r.drop m.toNat);rw [e2, List.take_append_drop] at key;exact key
        ·rw [if_neg hm] at hrow;cases hrow
    all_goals
     simp only [PyFlat.rows, Option.some.injEq, Prod.mk.injEq] at hr;obtain ⟨rfl, rfl⟩ := hr
    ·match r, hl with
     | x :: r, _ => exact .vessel x r
    ·match r, hl with
     | x :: y :: r, _ => exact .fill x y r
    ·match r, hl with
     | x :: r, _ => exact .drain x r
    ·match r, hl with
     | x :: y :: r, _ => exact .pour x y r
    ·match r, hl with
     | x :: y :: z :: u :: r, _ => exact .some_ x y z u r
    ·exact .state r
    ·match r, hl with
     | x :: y :: r, _ => exact .strength x y r
    ·match r, hl with
     | x :: y :: z :: r, _ => exact .way x y z r
    ·match r, hl with
     | x :: r, _ => exact .can x r
    ·match r, hl with
     | x :: y :: z :: r, _ => exact .proof x y z r
    ·exact .gcd r
    ·exact .ledger r
theorem One.whole {l : List Int} {c : List (List Int)} {t : List Int} (h : One l c t) : PyVbtaam.whole c = c := by
 cases h <;> rfl
theorem calls_cons {f : Nat} {p : Int} {r : List Int} {cs : List (List (List Int))} (h : PyFlat.calls shape f (p :: r) = some cs) :
  ∃ f' c t cs', One (p :: r) c t /\ cs = c :: cs' /\ PyFlat.calls shape f' t = some cs' := by
 cases f with
 | zero => simp [PyFlat.calls] at h
 | succ f =>
  unfold PyFlat.calls at h
  split at h
  ·cases h
  ·rename_i c t hc
   split at h
   ·cases h
   ·rename_i cs' hcs;simp only [Option.some.injEq] at h;exact ⟨f, c, t, cs', call_one hc, h.symm, hcs⟩
theorem calls_nil {f : Nat} {cs : List (List (List Int))} (h : PyFlat.calls shape f [] = some cs) : cs = [] := by
 cases f <;> simp [PyFlat.calls] at h <;> exact h
theorem map_whole : ∀ (f : Nat) (l : List Int) (cs : List (List (List Int))), PyFlat.calls shape f l = some cs -> cs.map whole = cs
 | _, [], cs, h => by
  rw [calls_nil h];rfl
 | 0, _ :: _, cs, h => by simp [PyFlat.calls] at h
 | f + 1, p :: r, cs, h => by
  unfold PyFlat.calls at h
  split at h
  ·cases h
  ·rename_i c t hc
   split at h
   ·cases h
   ·rename_i cs' hcs;simp only [Option.some.injEq] at h;subst h;rw [List.map_cons, (call_one hc).whole, map_whole f t cs' hcs]
theorem asked_calls {l : List Int} (h : answers_asked l = true) : ∃ cs, PyFlat.calls shape l.length l = some cs /\ VbtaamNeutral.asked cs = true /\ cs.length <= 200 /\
  answers l = PyFlat.told (PyFlat.played VbtaamNeutral.step VbtaamNeutral.start cs) := by
 unfold answers_asked at h;unfold answers;have e : calls l = (PyFlat.calls shape l.length l) := by
  unfold calls;cases hc : PyFlat.calls shape l.length l with
  | none => rfl
  | some cs => simp only; rw [map_whole _ _ _ hc]
 rw [e] at h ⊢;cases hc : PyFlat.calls shape l.length l with
 | none => rw [hc] at h; cases h
 | some cs =>
  rw [hc] at h;simp only [Bool.and_eq_true] at h;exact ⟨cs, rfl, h.2, of_decide_eq_true h.1, rfl⟩
end Vr
namespace Vr
open Vbtaam
structure Mx where
 c : Frac
 ss : List Nat
def mixS (c : Frac) (ss : List Nat) (t : Frac) (os : List Nat) : List Nat :=
 (ss.zip os).map fun p => p.1 * (weight c t ss.sum os.sum).num + p.2 * (weight c t ss.sum os.sum).den
def mput (m : Mx) (t : Frac) (os : List Nat) : Mx :=
 if t.num = 0 then m else if m.c.num = 0 then ⟨plus m.c t, os⟩ else ⟨plus m.c t, mixS m.c m.ss t os⟩
def mtake (m : Mx) (t : Frac) : Mx := ⟨less m.c t, m.ss⟩
structure VR (L M : Nat) (v : Vessel) (m : Mx) : Prop where
 rel : VRel v m.c m.ss
 den : m.c.den ∣ L
 sum : 0 < m.c.num -> m.ss.sum ∣ M
theorem Sh.three {l : List Frac} {c : Frac} {ss : List Nat} {x y z : Frac} {a b d : Nat} (h : Sh l c ss x y z a b d) : ss.sum = a + b + d := by
 rw [h.es];simp;omega
theorem VRel.le {v : Vessel} {c : Frac} {ss : List Nat} (h : VRel v c ss) : q c <= v.cap := by
 obtain ⟨x, y, z, k⟩ := h.ok;rw [h.ec, k.con.2];exact k.fits
theorem VRel.capb {v : Vessel} {c : Frac} {ss : List Nat} (h : VRel v c ss) : v.cap <= 2400 := by
 obtain ⟨x, y, z, k⟩ := h.ok;exact k.cap2
theorem VRel.room {v : Vessel} {c : Frac} {ss : List Nat} (h : VRel v c ss) : Vbtaam.room v = less (whole v.cap) c := by
 rw [h.ec]; rfl
theorem VRel.rlow {v : Vessel} {c : Frac} {ss : List Nat} (h : VRel v c ss) : Low (less (whole v.cap) c) := low_less (low_whole _) h.low
theorem VRel.rq {v : Vessel} {c : Frac} {ss : List Nat} (h : VRel v c ss) : q (less (whole v.cap) c) = v.cap - q c := by
 rw [q_less (low_whole _) h.low (by rw [q_whole]; exact h.le), q_whole]
theorem VRel.shares {v : Vessel} {c : Frac} {ss : List Nat} (h : VRel v c ss) (cp : 0 < c.num) : ∃ a b d, ss = [a, b, d] /\ 0 < a + b + d := by
 obtain ⟨x, y, z, a, b, d, S⟩ := h.sh cp;exact ⟨a, b, d, S.es, S.pos⟩
theorem Load.shares {l : List Frac} {t : Frac} {os : List Nat} (h : Load l t os) (cp : 0 < t.num) : ∃ a b d, os = [a, b, d] /\ 0 < a + b + d := by
 obtain ⟨x, y, z, a, b, d, S⟩ := h.sh cp;exact ⟨a, b, d, S.es, S.pos⟩
theorem sum3 (a b d : Nat) : ([a, b, d] : List Nat).sum = a + b + d := by simp; omega
theorem mixS3 (c t : Frac) (a b d a' b' d' : Nat) : mixS c [a, b, d] t [a', b', d'] = [a * (weight c t (a + b + d) (a' + b' + d')).num + a' * (weight c t (a + b + d) (a' + b' + d')).den, b * (weight c t (a + b + d) (a' + b' + d')).num + b' * (weight c t (a + b + d) (a' + b' + d')).den,
      d * (weight c t (a + b + d) (a' + b' + d')).num + d' * (weight c t (a + b + d) (a' + b' + d')).den] := by
 unfold mixS;rw [sum3, sum3];rfl
theorem mixS_sum (c t : Frac) (a b d a' b' d' : Nat) : (mixS c [a, b, d] t [a', b', d']).sum = (a + b + d) * (weight c t (a + b + d) (a' + b' + d')).num + (a' + b' + d') * (weight c t (a + b + d) (a' + b' + d')).den := by
 rw [mixS3, sum3];grind
theorem put_VR {L M D : Nat} {v : Vessel} {m : Mx} {l : List Frac} {t : Frac} {os : List Nat} (Lp : 0 < L) (Mp : 0 < M) (h : VR L M v m) (p : Load l t os) (dt : t.den ∣ L) (so : 0 < t.num -> os.sum ∣ M) (fit : q t <= q (room v)) (cap : v.cap <= D) (Dp : 1 <= D) :
  ∃ M', 0 < M' /\ M ∣ M' /\ M' <= M * (L * D) /\ VR L M' (with_ v l) (mput m t os) := by
 have hML : M <= M * (L * D) := Nat.le_mul_of_pos_right _ (Nat.mul_pos Lp Dp)
 by_cases t0 : t.num = 0
 ·refine ⟨M, Mp, Nat.dvd_refl _, hML, ?_⟩;rw [put_zero h.rel p t0];unfold mput;rw [if_pos t0];exact h
 ·have tp : 0 < t.num := by omega
  have dp := den_plus h.rel.low p.low h.den dt
  by_cases c0 : m.c.num = 0
  ·refine ⟨M, Mp, Nat.dvd_refl _, hML, ?_⟩;unfold mput;rw [if_neg t0, if_pos c0];exact ⟨put_first h.rel p fit c0 tp, dp, fun _ => so tp⟩
  ·have cp : 0 < m.c.num := by omega
   obtain ⟨a, b, d, e1, p1⟩ := h.rel.shares cp;obtain ⟨a', b', d', e2, p2⟩ := p.shares tp;obtain ⟨C, eC⟩ := (den_iff h.rel.low).mp h.den;obtain ⟨T, eT⟩ := (den_iff p.low).mp dt;have hr := h.rel;have sm := h.sum cp;have so := so tp;obtain ⟨c, ss⟩ := m;simp only at hr e1 eC cp sm c0 dp;subst e1 e2;rw [sum3] at sm so;have key := mix_dvd hr.low p.low cp tp p1 p2 Lp eC eT sm so;have hCT : C + T <= L * D := by
    have h1 := hr.rq;have h2 := hr.room;rw [h2, h1] at fit;have h3 : q c + q t <= D := by
     have : (v.cap : Rat) <= D := by exact_mod_cast cap
     grind
    have h4 := Rat.mul_le_mul_of_nonneg_left h3 (natnn L);rw [Rat.mul_add, eC, eT] at h4;exact_mod_cast h4
   have hC : 0 < C + T := by
    have h1 := q_pos hr.low cp;have h2 : (0 : Rat) < (L : Rat) * q c := Rat.mul_pos (natpos Lp) h1;rw [eC] at h2;have : 0 < C := by exact_mod_cast h2
    omega
   refine ⟨M * (C + T), Nat.mul_pos Mp hC, Nat.dvd_mul_right _ _, Nat.mul_le_mul_left _ hCT, ?_⟩;unfold mput;rw [if_neg t0, if_neg c0];refine ⟨?_, dp, fun _ => ?_⟩
   ·rw [mixS3];exact put_mixed hr p fit cp tp
   ·rw [mixS_sum];exact key
theorem VR.mono {L M L' M' : Nat} {v : Vessel} {m : Mx} (h : VR L M v m) (dL : L ∣ L') (dM : M ∣ M') : VR L' M' v m :=
 ⟨h.rel, Nat.dvd_trans h.den dL, fun p => Nat.dvd_trans (h.sum p) dM⟩
theorem take_VR {L M : Nat} {v : Vessel} {m : Mx} {t : Frac} (h : VR L M v m) (lt : Low t) (dt : t.den ∣ L) (le : q t <= q m.c) : VR L M (without v t) (mtake m t) := by
 refine ⟨take_rel h.rel lt le, den_less h.rel.low lt le h.den dt, fun p => h.sum ?_⟩;have p : 0 < (less m.c t).num := p;refine num_pos h.rel.low ?_;have h1 := q_pos (low_less h.rel.low lt) p;rw [q_less h.rel.low lt le] at h1;have := q_nn t;grind
theorem less_self {c : Frac} (h : Low c) : less c c = {} := q_eq_zero (low_less h h) (by rw [q_less h h Rat.le_refl]; grind)
theorem empty_VR {L M : Nat} {v : Vessel} {m : Mx} (h : VR L M v m) : VR L M (empty v) (mtake m m.c) := by
 have e : mtake m m.c = ⟨{}, m.ss⟩ := by
  unfold mtake;rw [less_self h.rel.low]
 rw [e];exact ⟨drain_rel h.rel, Nat.one_dvd _, fun p => absurd p (show ¬ 0 < (0 : Nat) by decide)⟩
theorem new_VR {L M n : Nat} (h1 : 1 <= n) (h2 : n <= 2400) : VR L M { cap := n, has := List.replicate KINDS {} } ⟨{}, []⟩ :=
 ⟨new_rel h1 h2 [], Nat.one_dvd _, fun p => absurd p (show ¬ 0 < (0 : Nat) by decide)⟩
abbrev gv (s : State) : Vessel := { cap := 2400, has := s.gone }
structure RelLM (k L M : Nat) (s : State) (vs : List Mx) (g : Mx) : Prop where
 Lp : 0 < L
 Lb : L <= 2 ^ (10 * k)
 Mp : 0 < M
 Mb : M <= 2 ^ (2012 * k)
 len : s.vessels.length = vs.length
 le3 : vs.length <= 3
 ves : ∀ (i : Nat) (v : Vessel) (m : Mx), s.vessels[i]? = some v -> vs[i]? = some m -> VR L M v m /\ v.cap <= 12
 gone : VR L M (gv s) g
 gq : q g.c <= (12 * k : Nat)
 put : ∃ x y z, Tri s.put x y z /\ x.den ∣ L /\ y.den ∣ L /\ z.den ∣ L /\ q x <= (12 * k : Nat) /\ q y <= (12 * k : Nat) /\ q z <= (12 * k : Nat)
def Rel (k : Nat) (s : State) (vs : List Mx) (g : Mx) : Prop := ∃ L M, RelLM k L M s vs g
theorem pow_le (a b : Nat) (h : a <= b) : 2 ^ a <= 2 ^ b := Nat.pow_le_pow_right (by decide) h
theorem RelLM.mono {k L M : Nat} {s : State} {vs : List Mx} {g : Mx} (h : RelLM k L M s vs g) : RelLM (k + 1) L M s vs g := by
 have e : ((12 * k : Nat) : Rat) <= ((12 * (k + 1) : Nat) : Rat) := by exact_mod_cast (by omega : 12 * k <= 12 * (k + 1))
 obtain ⟨x, y, z, T, d1, d2, d3, b1, b2, b3⟩ := h.put;exact ⟨h.Lp, Nat.le_trans h.Lb (pow_le _ _ (by omega)), h.Mp, Nat.le_trans h.Mb (pow_le _ _ (by omega)), h.len, h.le3, h.ves, h.gone, Rat.le_trans h.gq e,
  x, y, z, T, d1, d2, d3, Rat.le_trans b1 e, Rat.le_trans b2 e, Rat.le_trans b3 e⟩
theorem Rel.mono {k : Nat} {s : State} {vs : List Mx} {g : Mx} (h : Rel k s vs g) : Rel (k + 1) s vs g := let ⟨L, M, h⟩ := h; ⟨L, M, h.mono⟩
theorem rel_start : Rel 0 start [] ⟨{}, []⟩ := by
 refine ⟨1, 1, by decide, by decide, by decide, by decide, rfl, by decide, fun i v m h => by simp [start] at h, new_VR (n := 2400) (by decide) (by decide), ?_, {}, {}, {}, ⟨rfl, low_nil, low_nil, low_nil⟩, Nat.one_dvd _, Nat.one_dvd _, Nat.one_dvd _, ?_, ?_, ?_⟩;all_goals (show q {} <= _; rw [q_nil]; exact natnn _)
theorem Mgrow {k L M M' : Nat} (hk : k < 200) (hL : L <= 2 ^ (10 * (k + 1))) (hM : M <= 2 ^ (2012 * k)) (h : M' <= M * (L * 2400)) : M' <= 2 ^ (2012 * (k + 1)) := by
 have h1 : L * 2400 <= 2 ^ (10 * (k + 1)) * 2 ^ 12 := Nat.mul_le_mul hL (by decide);have h2 : 2 ^ (10 * (k + 1)) * 2 ^ 12 <= 2 ^ 2012 := by rw [<- Nat.pow_add]; exact pow_le _ _ (by omega)
 have h3 : M * (L * 2400) <= 2 ^ (2012 * k) * 2 ^ 2012 := Nat.mul_le_mul hM (Nat.le_trans h1 h2);rw [<- Nat.pow_add] at h3;exact Nat.le_trans h (Nat.le_trans h3 (pow_le _ _ (by omega)))
theorem set_at {α : Type} {l : List α} {i j : Nat} {x y : α} (h : (l.set i x)[j]? = some y) : (i = j /\ y = x /\ ∃ z, l[j]? = some z) ∨ (i ≠ j /\ l[j]? = some y) := by
 rw [List.getElem?_set] at h
 by_cases e : i = j
 ·left;rw [if_pos e] at h;subst e
  split at h
  ·rename_i hl;exact ⟨rfl, (Option.some.inj h).symm, _, List.getElem?_eq_getElem hl⟩
  ·cases h
 ·right;rw [if_neg e] at h;exact ⟨e, h⟩
theorem mod_at {α : Type} {l : List α} {i j : Nat} {f : α -> α} {y : α} (h : (l.modify i f)[j]? = some y) : (i = j /\ ∃ z, l[j]? = some z /\ y = f z) ∨ (i ≠ j /\ l[j]? = some y) := by
 rw [List.getElem?_modify] at h
 by_cases e : i = j
 ·left;subst e;cases hz : l[i]? with
  | none =>
   rw [hz] at h;simp at h
  | some z =>
   rw [hz] at h;simp at h;exact ⟨rfl, z, rfl, h.symm⟩
 ·right;cases hz : l[j]? with
  | none =>
   rw [hz] at h;simp at h
  | some z =>
   rw [hz] at h;simp [e] at h;exact ⟨e, by rw [h]⟩
theorem rel_new {k n : Nat} {s : State} {vs : List Mx} {g : Mx} (h : Rel k s vs g) (h1 : 1 <= n) (h2 : n <= 12) (hl : vs.length < 3) : Rel (k + 1) { s with vessels := s.vessels ++ [{ cap := n, has := List.replicate KINDS {} }] } (vs ++ [⟨{}, []⟩]) g := by
 obtain ⟨L, M, h⟩ := h;have h' := h.mono;refine ⟨L, M, h'.Lp, h'.Lb, h'.Mp, h'.Mb, ?_, ?_, fun i v m e1 e2 => ?_, h'.gone, h'.gq, h'.put⟩
 ·simp only [List.length_append, List.length_cons, List.length_nil, h.len]
 ·simp only [List.length_append, List.length_cons, List.length_nil];omega
 ·by_cases hi : i < vs.length
  ·rw [List.getElem?_append_left (by rw [h.len]; exact hi)] at e1;rw [List.getElem?_append_left hi] at e2;exact h.ves i v m e1 e2
  ·rw [List.getElem?_append_right (by rw [h.len]; omega)] at e1;rw [List.getElem?_append_right (by omega)] at e2;rw [h.len] at e1;cases hj : i - vs.length with
   | zero =>
    rw [hj] at e1 e2;simp at e1 e2;subst e1 e2;exact ⟨new_VR h1 (by omega), h2⟩
   | succ j =>
    rw [hj] at e1;simp at e1
end Vr
namespace Vr
open Vbtaam
theorem getD_at {s : State} {i : Nat} {v : Vessel} (h : s.vessels[i]? = some v) : vessel s i = v := by
 unfold vessel;rw [List.getD_eq_getElem?_getD, h];rfl
theorem put_set {l : List Frac} {x y z t p : Frac} (T : Tri l x y z) (kd : Nat) (hk : kd < 3) (hp : l[kd]? = some p) : addAll l (alone kd t) = l.set kd (plus p t) := by
 obtain ⟨e, lx, ly, lz⟩ := T;subst e
 match kd, hk, hp with
 | 0, _, hp =>
  cases (show some x = some p from hp);show [plus x t, plus y {}, plus z {}] = [plus x t, y, z];rw [plus_nil ly, plus_nil lz]
 | 1, _, hp =>
  cases (show some y = some p from hp);show [plus x {}, plus y t, plus z {}] = [x, plus y t, z];rw [plus_nil lx, plus_nil lz]
 | 2, _, hp =>
  cases (show some z = some p from hp);show [plus x {}, plus y {}, plus z t] = [x, y, plus z t];rw [plus_nil lx, plus_nil ly]
theorem q12 {k : Nat} {x t : Frac} (hx : Low x) (ht : Low t) (h : q x <= (12 * k : Nat)) (h2 : q t <= (12 : Nat)) : q (plus x t) <= (12 * (k + 1) : Nat) := by
 rw [q_plus hx ht];have e : ((12 * (k + 1) : Nat) : Rat) = ((12 * k : Nat) : Rat) + ((12 : Nat) : Rat) := by exact_mod_cast (by omega : 12 * (k + 1) = 12 * k + 12)
 rw [e];grind
theorem VRel.load {v : Vessel} {c : Frac} {ss : List Nat} (h : VRel v c ss) : Load v.has c ss := by
 obtain ⟨x, y, z, k⟩ := h.ok;refine ⟨⟨x, y, z, k.toTri, ?_⟩, h.low, h.sh⟩;rw [h.ec, k.con.2]
theorem VR.q12 {L M : Nat} {v : Vessel} {m : Mx} (h : VR L M v m) (hc : v.cap <= 12) : q m.c <= (12 : Nat) := by
 have e : (v.cap : Rat) <= ((12 : Nat) : Rat) := by exact_mod_cast hc
 exact Rat.le_trans h.rel.le e
theorem one_sum (kd : Nat) (hk : kd < 3) : (([0, 0, 0] : List Nat).set kd 1).sum = 1 := by
 match kd, hk with
 | 0, _ => rfl
 | 1, _ => rfl
 | 2, _ => rfl
theorem rel_fill {k kd i : Nat} {s : State} {vs : List Mx} {g m : Mx} {v : Vessel} (h : Rel k s vs g) (hk : k < 200) (hkd : kd < 3) (hv : s.vessels[i]? = some v) (hm : vs[i]? = some m) :
  Rel (k + 1) { s with vessels := s.vessels.modify i (fun x => with_ x (alone kd (room v))), put := addAll s.put (alone kd (room v)) } (vs.set i (mput m (less (whole v.cap) m.c) (([0, 0, 0] : List Nat).set kd 1))) g := by
 obtain ⟨L, M, h⟩ := h;obtain ⟨R, cap⟩ := h.ves i v m hv hm;have er := R.rel.room;have lr := R.rel.rlow;have qr := R.rel.rq;have dr : (less (whole v.cap) m.c).den ∣ L := den_less (low_whole _) R.rel.low (by rw [q_whole]; exact R.rel.le) (den_whole _ _) R.den;rw [er];generalize less (whole v.cap) m.c = t at *;have P := alone_load kd hkd lr;have hL' : L <= 2 ^ (10 * (k + 1)) := Nat.le_trans h.Lb (pow_le _ _ (by omega));obtain ⟨M', p1, p2, p3, R'⟩ := put_VR (D := 2400) h.Lp h.Mp R P dr (fun _ => by rw [one_sum kd hkd]; exact Nat.one_dvd _) (by rw [er]; exact Rat.le_refl) (by omega) (by decide);have t12 : q t <= (12 : Nat) := by
  have e : (v.cap : Rat) <= ((12 : Nat) : Rat) := by exact_mod_cast cap
  have := q_nn m.c;rw [qr];grind
 obtain ⟨x, y, z, T, d1, d2, d3, b1, b2, b3⟩ := h.put;have hM := h.mono;obtain ⟨_, _, _, _, _, _, _, c1, c2, c3⟩ := hM.put;refine ⟨L, M', h.Lp, hL', p1, Mgrow hk hL' h.Mb p3, ?_, ?_, fun j w n e1 e2 => ?_, h.gone.mono (Nat.dvd_refl _) p2, hM.gq, ?_⟩
 ·simp only [List.length_modify, List.length_set];exact h.len
 ·simp only [List.length_set];exact h.le3
 ·rcases mod_at e1 with ⟨rfl, w', f1, rfl⟩ | ⟨ne, f1⟩
  ·rcases set_at e2 with ⟨_, rfl, _⟩ | ⟨ne, _⟩
   ·cases hv.symm.trans f1;exact ⟨R', cap⟩
   ·exact absurd rfl ne
  ·rcases set_at e2 with ⟨rfl, _⟩ | ⟨_, f2⟩
   ·exact absurd rfl ne
   ·obtain ⟨a, b⟩ := h.ves j w n f1 f2;exact ⟨a.mono (Nat.dvd_refl _) p2, b⟩
 ·have mono : ∀ {u : Frac}, q u <= (12 * k : Nat) -> q u <= (12 * (k + 1) : Nat) := fun hu => Rat.le_trans hu (by exact_mod_cast (by omega : 12 * k <= 12 * (k + 1)));have e0 := T.eq;show ∃ x y z, Tri (addAll s.put (alone kd t)) x y z /\ _
  match kd, hkd with
  | 0, hkd =>
   rw [put_set T 0 hkd (show s.put[0]? = some x by rw [e0]; rfl), e0];exact ⟨plus x t, y, z, ⟨rfl, low_plus T.lx lr, T.ly, T.lz⟩, den_plus T.lx lr d1 dr, d2, d3, Vr.q12 T.lx lr b1 t12, mono b2, mono b3⟩
  | 1, hkd =>
   rw [put_set T 1 hkd (show s.put[1]? = some y by rw [e0]; rfl), e0];exact ⟨x, plus y t, z, ⟨rfl, T.lx, low_plus T.ly lr, T.lz⟩, d1, den_plus T.ly lr d2 dr, d3, mono b1, Vr.q12 T.ly lr b2 t12, mono b3⟩
  | 2, hkd =>
   rw [put_set T 2 hkd (show s.put[2]? = some z by rw [e0]; rfl), e0];exact ⟨x, y, plus z t, ⟨rfl, T.lx, T.ly, low_plus T.lz lr⟩, d1, d2, den_plus T.lz lr d3 dr, mono b1, mono b2, Vr.q12 T.lz lr b3 t12⟩
theorem rel_drain {k i : Nat} {s : State} {vs : List Mx} {g m : Mx} {v : Vessel} (h : Rel k s vs g) (hk : k < 200) (hv : s.vessels[i]? = some v) (hm : vs[i]? = some m) :
  Rel (k + 1) { s with vessels := s.vessels.modify i empty, gone := addAll s.gone v.has } (vs.set i (mtake m m.c)) (mput g m.c m.ss) := by
 obtain ⟨L, M, h⟩ := h;obtain ⟨R, cap⟩ := h.ves i v m hv hm;have t12 := R.q12 cap;have hL' : L <= 2 ^ (10 * (k + 1)) := Nat.le_trans h.Lb (pow_le _ _ (by omega));have fit : q m.c <= q (room (gv s)) := by
  rw [h.gone.rel.room, h.gone.rel.rq];have h1 := h.gq;have h2 : ((12 * k : Nat) : Rat) + ((12 : Nat) : Rat) <= ((2400 : Nat) : Rat) := by exact_mod_cast (by omega : 12 * k + 12 <= 2400)
  show q m.c <= ((2400 : Nat) : Rat) - q g.c;grind
 obtain ⟨M', p1, p2, p3, R'⟩ := put_VR (D := 2400) h.Lp h.Mp h.gone R.rel.load R.den R.sum fit (Nat.le_refl _) (by decide);have hM := h.mono;refine ⟨L, M', h.Lp, hL', p1, Mgrow hk hL' h.Mb p3, ?_, ?_, fun j w n e1 e2 => ?_, R', ?_, hM.put⟩
 ·simp only [List.length_modify, List.length_set];exact h.len
 ·simp only [List.length_set];exact h.le3
 ·rcases mod_at e1 with ⟨rfl, w', f1, rfl⟩ | ⟨ne, f1⟩
  ·rcases set_at e2 with ⟨_, rfl, _⟩ | ⟨ne, _⟩
   ·cases hv.symm.trans f1;exact ⟨(empty_VR R).mono (Nat.dvd_refl _) p2, cap⟩
   ·exact absurd rfl ne
  ·rcases set_at e2 with ⟨rfl, _⟩ | ⟨_, f2⟩
   ·exact absurd rfl ne
   ·obtain ⟨a, b⟩ := h.ves j w n f1 f2;exact ⟨a.mono (Nat.dvd_refl _) p2, b⟩
 ·unfold mput
  split
  ·exact hM.gq
  ·split
   ·exact Vr.q12 h.gone.rel.low R.rel.low h.gq t12
   ·exact Vr.q12 h.gone.rel.low R.rel.low h.gq t12
theorem rel_move {k a b d : Nat} {s : State} {vs : List Mx} {g ma mb : Mx} {va vb : Vessel} {t : Frac} (h : Rel k s vs g) (hk : k < 200) (hab : a ≠ b) (ha : s.vessels[a]? = some va) (hma : vs[a]? = some ma) (hb : s.vessels[b]? = some vb) (hmb : vs[b]? = some mb)
  (lt : Low t) (dp : 0 < d) (d1000 : d <= 1000) (dt : ∀ L, (∀ (i : Nat) m, vs[i]? = some m -> m.c.den ∣ L) -> t.den ∣ L * d) (le1 : q t <= q ma.c) (le2 : q t <= q (room vb)) :
  Rel (k + 1) (pourOf s a b t) ((vs.set b (mput mb t ma.ss)).set a (mtake ma t)) g := by
 obtain ⟨L, M, h⟩ := h;have hden : ∀ (i : Nat) (m : Mx), vs[i]? = some m -> m.c.den ∣ L := fun i m e => by
  have : i < s.vessels.length := by rw [h.len]; exact (List.getElem?_eq_some_iff.mp e).1
  exact (h.ves i _ m (List.getElem?_eq_getElem this) e).1.den
 have dt := dt L hden;have dL : L ∣ L * d := Nat.dvd_mul_right _ _;have Lp' : 0 < L * d := Nat.mul_pos h.Lp dp;have hL' : L * d <= 2 ^ (10 * (k + 1)) := by
  have h1 : L * d <= 2 ^ (10 * k) * 2 ^ 10 := Nat.mul_le_mul h.Lb (by omega);rw [<- Nat.pow_add] at h1;exact Nat.le_trans h1 (pow_le _ _ (by omega))
 obtain ⟨Ra0, capa⟩ := h.ves a va ma ha hma;obtain ⟨Rb0, capb⟩ := h.ves b vb mb hb hmb;have Ra := Ra0.mono dL (Nat.dvd_refl M);have Rb := Rb0.mono dL (Nat.dvd_refl M);have P := part_load Ra.rel lt le1;have so : 0 < t.num -> ma.ss.sum ∣ M := fun tp => Ra.sum (num_pos Ra.rel.low (by
  have := q_pos lt tp
  grind))
 obtain ⟨M', p1, p2, p3, R'⟩ := put_VR (D := 2400) Lp' h.Mp Rb P dt so le2 (by omega) (by decide);have T' := (take_VR Ra lt dt le1).mono (Nat.dvd_refl _) p2;have hM := h.mono;obtain ⟨x, y, z, T, d1, d2, d3, b1, b2, b3⟩ := hM.put;refine ⟨L * d, M', Lp', hL', p1, Mgrow hk hL' h.Mb p3, ?_, ?_, fun j w n e1 e2 => ?_, h.gone.mono dL p2, hM.gq, x, y, z, T, Nat.dvd_trans d1 dL, Nat.dvd_trans d2 dL, Nat.dvd_trans d3 dL, b1, b2, b3⟩
 ·unfold pourOf;simp only [List.length_modify, List.length_set];exact h.len
 ·simp only [List.length_set];exact h.le3
 ·unfold pourOf at e1;rw [getD_at ha] at e1;simp only at e1;rcases mod_at e1 with ⟨eb, w', f1, ew⟩ | ⟨ne, f1⟩
  ·subst eb ew;rcases set_at e2 with ⟨z, _⟩ | ⟨_, f2⟩
   ·exact absurd z hab
   rcases set_at f2 with ⟨_, z, _⟩ | ⟨ne, _⟩
   ·subst z;rcases mod_at f1 with ⟨z, _⟩ | ⟨_, f3⟩
    ·exact absurd z hab
    cases hb.symm.trans f3;exact ⟨R', capb⟩
   ·exact absurd rfl ne
  ·rcases mod_at f1 with ⟨ea, w', f3, ew⟩ | ⟨ne2, f3⟩
   ·subst ea ew;rcases set_at e2 with ⟨_, z, _⟩ | ⟨ne3, _⟩
    ·subst z;cases ha.symm.trans f3;exact ⟨T', capa⟩
    ·exact absurd rfl ne3
   ·rcases set_at e2 with ⟨z, _⟩ | ⟨_, f4⟩
    ·exact absurd z ne2
    rcases set_at f4 with ⟨z, _⟩ | ⟨_, f5⟩
    ·exact absurd z ne
    obtain ⟨u1, u2⟩ := h.ves j w n f3 f5;exact ⟨u1.mono dL p2, u2⟩
end Vr
namespace Vr
open Vbtaam
theorem bl_mono {x y : Int} (h : x.natAbs <= y.natAbs) : bl x <= bl y := by
 rw [bl_le];exact Nat.lt_of_le_of_lt h (bl_le.mp (Nat.le_refl _))
theorem bl_mul (x y : Int) : bl (x * y) <= bl x + bl y := by
 rw [bl_le, Int.natAbs_mul, Nat.pow_add];have h1 := bl_le.mp (Nat.le_refl (bl x));have h2 := bl_le.mp (Nat.le_refl (bl y));exact Nat.mul_lt_mul_of_lt_of_lt h1 h2
theorem bl_add {x y : Int} {n : Nat} (h1 : bl x <= n) (h2 : bl y <= n) : bl (x + y) <= n + 1 := by
 rw [bl_le] at *;rw [Nat.pow_succ];omega
theorem bl_neg (x : Int) : bl (-x) = bl x := by
 unfold bl;simp
theorem bl_nat {a n : Nat} (h : a <= 2 ^ n) : bl (a : Int) <= n + 1 := by
 rw [bl_le, Int.natAbs_natCast, Nat.pow_succ];have : 0 < 2 ^ n := Nat.pow_pos (by decide);omega
theorem bl_nle {a b : Nat} (h : a <= b) : bl (a : Int) <= bl (b : Int) := bl_mono (by simpa using h)
theorem bl_small {a : Nat} (h : a <= 1024) : bl (a : Int) <= 11 := bl_nat (n := 10) (by omega)
structure FB (n : Nat) (x : Frac) : Prop where
 num : bl (x.num : Int) <= n
 den : bl (x.den : Int) <= n
theorem FB.mono {m n : Nat} {x : Frac} (h : FB m x) (e : m <= n) : FB n x := ⟨Nat.le_trans h.num e, Nat.le_trans h.den e⟩
theorem frac_le {a b : Nat} (h : 0 < b) : (frac a b).num <= a /\ (frac a b).den <= b := by
 have hg : 0 < Nat.gcd a b := Nat.gcd_pos_of_pos_right a h;unfold frac;simp only;rw [if_neg (by omega)];exact ⟨Nat.div_le_self _ _, Nat.div_le_self _ _⟩
theorem fb_frac {a b n : Nat} (h : 0 < b) (h1 : bl (a : Int) <= n) (h2 : bl (b : Int) <= n) : FB n (frac a b) := by
 obtain ⟨l1, l2⟩ := frac_le (a := a) h;exact ⟨Nat.le_trans (bl_nle l1) h1, Nat.le_trans (bl_nle l2) h2⟩
theorem fb_of {x : Frac} {L : Nat} {n : Nat} (hx : Low x) (d : x.den ∣ L) (Lp : 0 < L) (Lb : L <= 2 ^ 2000) (h : q x <= (n : Nat)) (h1 : 1 <= n) (hn : n <= 4096) : FB 2013 x := by
 obtain ⟨h1, h2⟩ := frac_small hx d Lp h h1 (Nat.le_refl _);have e : n * L <= 2 ^ 2012 := by
  have : n * L <= 2 ^ 12 * 2 ^ 2000 := Nat.mul_le_mul (by omega) Lb;rw [<- Nat.pow_add] at this;exact this
 exact ⟨bl_nat (Nat.le_trans h1 e), bl_nat (Nat.le_trans h2 e)⟩
structure MB (m : Mx) : Prop where
 low : Low m.c
 c : FB 2013 m.c
 s : 0 < m.c.num -> bl (m.ss.sum : Int) <= 402401
theorem VR.mb {k L M : Nat} {v : Vessel} {m : Mx} (hk : k <= 200) (Lp : 0 < L) (Lb : L <= 2 ^ (10 * k)) (Mp : 0 < M) (Mb : M <= 2 ^ (2012 * k)) (h : VR L M v m) : MB m := by
 refine ⟨h.rel.low, fb_of h.rel.low h.den Lp (Nat.le_trans Lb (pow_le _ _ (by omega))) (n := 2400) (Rat.le_trans h.rel.le ?_) (by decide) (by decide), fun p => ?_⟩
 ·exact_mod_cast h.rel.capb
 ·have h1 := Nat.le_of_dvd Mp (h.sum p);exact bl_nat (Nat.le_trans h1 (Nat.le_trans Mb (pow_le _ _ (by omega))))
theorem RelLM.b {k L M : Nat} {s : State} {vs : List Mx} {g : Mx} (h : RelLM k L M s vs g) (hk : k <= 200) : MB g := h.gone.mb hk h.Lp h.Lb h.Mp h.Mb
theorem Rel.mbg {k : Nat} {s : State} {vs : List Mx} {g : Mx} (h : Rel k s vs g) (hk : k <= 200) : MB g := let ⟨_, _, h⟩ := h; h.gone.mb hk h.Lp h.Lb h.Mp h.Mb
theorem RelLM.at_ {k L M : Nat} {s : State} {vs : List Mx} {g : Mx} (h : RelLM k L M s vs g) {i : Nat} {m : Mx} (e : vs[i]? = some m) : ∃ v, s.vessels[i]? = some v /\ VR L M v m /\ v.cap <= 12 := by
 have hi : i < s.vessels.length := by rw [h.len]; exact (List.getElem?_eq_some_iff.mp e).1
 exact ⟨_, List.getElem?_eq_getElem hi, h.ves i _ m (List.getElem?_eq_getElem hi) e⟩
theorem Rel.mb {k : Nat} {s : State} {vs : List Mx} {g : Mx} (h : Rel k s vs g) (hk : k <= 200) {i : Nat} {m : Mx} (e : vs[i]? = some m) : MB m := by
 obtain ⟨_, _, h⟩ := h;obtain ⟨v, _, R, _⟩ := h.at_ e;exact R.mb hk h.Lp h.Lb h.Mp h.Mb
theorem Rel.at_ {k : Nat} {s : State} {vs : List Mx} {g : Mx} (h : Rel k s vs g) {i : Nat} {m : Mx} (e : vs[i]? = some m) : ∃ v, s.vessels[i]? = some v /\ VRel v m.c m.ss /\ v.cap <= 12 := by
 obtain ⟨_, _, h⟩ := h;obtain ⟨v, h1, R, h2⟩ := h.at_ e;exact ⟨v, h1, R.rel, h2⟩
theorem Rel.room {k : Nat} {s : State} {vs : List Mx} {g : Mx} (h : Rel k s vs g) (hk : k <= 200) {i : Nat} {m : Mx} {v : Vessel} (e : vs[i]? = some m) (ev : s.vessels[i]? = some v) :
  Vbtaam.room v = less (whole v.cap) m.c /\ Low (less (whole v.cap) m.c) /\ FB 2013 (less (whole v.cap) m.c) /\ q m.c <= q (whole v.cap) /\ 1 <= v.cap := by
 obtain ⟨L, M, h⟩ := h;obtain ⟨R, cap⟩ := h.ves i v m ev e;have le : q m.c <= q (whole v.cap) := by rw [q_whole]; exact R.rel.le
 have c1 : 1 <= v.cap := by
  obtain ⟨x, y, z, K⟩ := R.rel.ok;exact K.cap1
 refine ⟨R.rel.room, R.rel.rlow, ?_, le, c1⟩;refine fb_of R.rel.rlow (den_less (low_whole _) R.rel.low le (den_whole _ _) R.den) h.Lp (Nat.le_trans h.Lb (pow_le _ _ (by omega))) (n := 12) ?_ (by decide) (by decide);rw [R.rel.rq];have e : (v.cap : Rat) <= ((12 : Nat) : Rat) := by exact_mod_cast cap
 have := q_nn m.c;grind
theorem Rel.putb {k : Nat} {s : State} {vs : List Mx} {g : Mx} (h : Rel k s vs g) (hk : k <= 200) : ∃ x y z, Tri s.put x y z /\ FB 2013 x /\ FB 2013 y /\ FB 2013 z := by
 obtain ⟨L, M, h⟩ := h;obtain ⟨x, y, z, T, d1, d2, d3, b1, b2, b3⟩ := h.put;have Lb := Nat.le_trans h.Lb (pow_le _ (2000) (by omega));have e : ((12 * k : Nat) : Rat) <= ((2400 : Nat) : Rat) := by exact_mod_cast (by omega : 12 * k <= 2400)
 exact ⟨x, y, z, T, fb_of T.lx d1 h.Lp Lb (n := 2400) (Rat.le_trans b1 e) (by decide) (by decide), fb_of T.ly d2 h.Lp Lb (n := 2400) (Rat.le_trans b2 e) (by decide) (by decide), fb_of T.lz d3 h.Lp Lb (n := 2400) (Rat.le_trans b3 e) (by decide) (by decide)⟩
end Vr
namespace Vr
open Vbtaam
def add1 (ws : List Way) (w : Way) : List Way := if (ws.map (·.amounts)).contains w.amounts = true then ws else ws ++ [w]
def grow (ws : List Way) (l : List Way) : List Way := l.foldl add1 ws
def SameM (a b : List Amounts) : Prop := ∀ x, a.contains x = b.contains x
theorem contains_snoc (a : List Amounts) (x y : Amounts) : (a ++ [y]).contains x = (a.contains x || x == y) := by
 simp only [List.contains_eq_any_beq, List.any_append, List.any_cons, List.any_nil, Bool.or_false]
theorem SameM.cons {a b : List Amounts} (h : SameM a b) (y : Amounts) : SameM (y :: a) (b ++ [y]) := fun x => by
 rw [contains_snoc, <- h x];simp only [List.contains_cons];rw [Bool.or_comm]
theorem grow_fresh : ∀ (l ws : List Way) (seen : List Amounts), SameM seen (ws.map (·.amounts)) -> grow ws l = ws ++ (fresh seen l).2 /\ SameM (fresh seen l).1 ((grow ws l).map (·.amounts))
 | [], ws, seen, h => by
  refine ⟨?_, h⟩;show ws = ws ++ [];rw [List.append_nil]
 | w :: l, ws, seen, h => by
  show grow (add1 ws w) l = _ /\ _
  by_cases hc : seen.contains w.amounts = true
  ·have e : add1 ws w = ws := by
    unfold add1;rw [if_pos (by rw [<- h]; exact hc)]
   rw [fresh_old hc];show grow (add1 ws w) l = _ /\ SameM _ ((grow (add1 ws w) l).map _);rw [e];exact grow_fresh l ws seen h
  ·have e : add1 ws w = ws ++ [w] := by
    unfold add1;rw [if_neg (by rw [<- h]; exact hc)]
   rw [fresh_new hc];show grow (add1 ws w) l = _ /\ SameM _ ((grow (add1 ws w) l).map _);rw [e];obtain ⟨h1, h2⟩ := grow_fresh l (ws ++ [w]) (w.amounts :: seen) (by rw [List.map_append]; exact h.cons w.amounts);refine ⟨?_, h2⟩;rw [h1, List.append_assoc];rfl
def From (ws : List Way) : Prop := ∀ (j : Nat) (w : Way), ws[j]? = some w -> w.path = [] ∨ ∃ (i d : Nat) (p : Way), i < j /\ ws[i]? = some p /\ w.path = d :: p.path
structure Bfs (cs : List Nat) (tap : Bool) (w0 : Amounts) (ws : List Way) (at_ : Nat) : Prop where
 le : at_ <= ws.length
 ex : ∃ seen, SameM seen (ws.map (·.amounts)) /\ seen.Nodup /\ (∀ x ∈ seen, InBox cs x) /\ found cs tap w0 = ws.take at_ ++ qrun cs tap (size cs + 1 - at_) seen (ws.drop at_)
 nd : (ws.map (·.amounts)).Nodup
 box : ∀ w ∈ ws, InBox cs w.amounts
 size : ws.length <= size cs
theorem bfs_start {cs : List Nat} {tap : Bool} {w : Amounts} (h : InBox cs w) : Bfs cs tap w [{ amounts := w, path := [] }] 0 := by
 have p := code_lt h;refine ⟨Nat.zero_le _, ⟨[w], fun x => rfl, by simp, by simpa using h, ?_⟩, by simp, by simpa using h, by simp; omega⟩;rw [found_qrun h (K := Vbtaam.size cs + 1) (by omega)];rfl
theorem add1_nodup {ws : List Way} {w : Way} (h : (ws.map (·.amounts)).Nodup) : ((add1 ws w).map (·.amounts)).Nodup := by
 unfold add1
 split
 ·exact h
 ·rename_i hc;rw [List.map_append, List.map_cons, List.map_nil, List.nodup_append];refine ⟨h, by simp, fun a ha b hb => ?_⟩;simp at hb;subst hb;intro e;subst e;exact hc (List.contains_iff_mem.mpr ha)
theorem grow_nodup : ∀ (l ws : List Way), (ws.map (·.amounts)).Nodup -> ((grow ws l).map (·.amounts)).Nodup
 | [], _, h => h
 | w :: l, ws, h => grow_nodup l (add1 ws w) (add1_nodup h)
theorem add1_mem {ws : List Way} {w x : Way} (h : x ∈ add1 ws w) : x ∈ ws ∨ x = w := by
 unfold add1 at h
 split at h
 ·exact .inl h
 ·rcases List.mem_append.mp h with h | h
  ·exact .inl h
  ·exact .inr (by simpa using h)
theorem grow_mem : ∀ (l ws : List Way) {x : Way}, x ∈ grow ws l -> x ∈ ws ∨ x ∈ l
 | [], _, _, h => .inl h
 | w :: l, ws, x, h => by
  rcases grow_mem l (add1 ws w) h with h | h
  ·rcases add1_mem h with h | h
   ·exact .inl h
   ·exact .inr (by rw [h]; simp)
  ·exact .inr (List.mem_cons_of_mem _ h)
theorem box_len {cs : List Nat} {ws : List Way} (nd : (ws.map (·.amounts)).Nodup) (box : ∀ w ∈ ws, InBox cs w.amounts) : ws.length <= Vbtaam.size cs := by
 have := box_count (cs := cs) nd (fun w hw => by
  obtain ⟨v, hv, rfl⟩ := List.mem_map.mp hw;exact box v hv)
 rw [List.length_map] at this;exact this
theorem bfs_turn {cs : List Nat} {tap : Bool} {w0 : Amounts} {ws : List Way} {a : Nat} {w : Way} (h : Bfs cs tap w0 ws a) (hw : ws[a]? = some w) : Bfs cs tap w0 (grow ws (steps cs tap w)) (a + 1) := by
 obtain ⟨seen, sm, snd, sbox, e⟩ := h.ex;have hal : a < ws.length := (List.getElem?_eq_some_iff.mp hw).1;have wbox := h.box w (List.mem_of_getElem? hw);have nd := grow_nodup (steps cs tap w) ws h.nd;have box : ∀ x ∈ grow ws (steps cs tap w), InBox cs x.amounts := fun x hx => by
  rcases grow_mem _ _ hx with hx | hx
  ·exact h.box x hx
  ·exact steps_box wbox x hx
 obtain ⟨g1, g2⟩ := grow_fresh (steps cs tap w) ws seen sm;refine ⟨?_, ⟨(fresh seen (steps cs tap w)).1, g2, fresh_nodup _ _ snd, fresh_box _ _ sbox (steps_box wbox), ?_⟩, nd, box, box_len nd box⟩
 ·rw [g1, List.length_append];omega
 ·have hd : ws.drop a = w :: ws.drop (a + 1) := by
   rw [List.drop_eq_getElem_cons hal];congr 1;exact Option.some.inj ((List.getElem?_eq_getElem hal).symm.trans hw)
  have ht : ws.take (a + 1) = ws.take a ++ [w] := by
   rw [List.take_succ, hw];rfl
  have hs := h.size;have ef : Vbtaam.size cs + 1 - a = (Vbtaam.size cs + 1 - (a + 1)) + 1 := by omega
  rw [e, hd, ef, g1];show ws.take a ++ (w :: qrun cs tap _ _ _) = _;rw [List.take_append_of_le_length (by omega), List.drop_append_of_le_length (by omega), ht, List.append_assoc];rfl
theorem bfs_end {cs : List Nat} {tap : Bool} {w0 : Amounts} {ws : List Way} {a : Nat} (h : Bfs cs tap w0 ws a) (e : ws.length <= a) : found cs tap w0 = ws := by
 obtain ⟨seen, _, _, _, eq⟩ := h.ex;rw [eq, List.take_of_length_le e, List.drop_of_length_le e, qrun_nil, List.append_nil]
theorem add1_keeps {ws : List Way} {w p : Way} {a : Nat} (ha : ws[a]? = some p) : (add1 ws w)[a]? = some p := by
 unfold add1
 split
 ·exact ha
 ·rw [List.getElem?_append_left (List.getElem?_eq_some_iff.mp ha).1];exact ha
end Vr
namespace Vr
open Vbtaam
def outs (caps : List Nat) (tap : Bool) (w : Amounts) : List Amounts := (deeds caps.length tap).map (done caps w)
def outsP (caps : List Nat) (w : Amounts) (a : Nat) : List Amounts := ((List.range caps.length).filter fun b => b != a).map fun b => done caps w (.pour a b)
theorem outs_eq (caps : List Nat) (tap : Bool) (w : Amounts) : outs caps tap w = (if tap = true then (List.range caps.length).map (fun v => w.set v (at_ caps v)) ++ (List.range caps.length).map (fun v => w.set v 0) else []) ++
  (List.range caps.length).flatMap (outsP caps w) := by
 unfold outs deeds pairs;rw [List.map_append, List.map_flatMap];congr 1
 ·cases tap
  ·rfl
  ·simp only [if_true, List.map_append, List.map_map];rfl
 ·congr 1;funext a;unfold outsP;rw [List.map_map];rfl
theorem steps_len (caps : List Nat) (tap : Bool) (w : Way) : (steps caps tap w).length = (outs caps tap w.amounts).length := by
 unfold steps outs;simp
theorem steps_at {caps : List Nat} {tap : Bool} {w : Way} {i : Nat} {x : Amounts} (h : (outs caps tap w.amounts)[i]? = some x) : (steps caps tap w)[i]? = some ⟨x, i :: w.path⟩ := by
 unfold outs at h;unfold steps;rw [List.getElem?_map] at h;cases hd : (deeds caps.length tap)[i]? with
 | none => rw [hd] at h; cases h
 | some d =>
  rw [hd] at h;have hi := (List.getElem?_eq_some_iff.mp hd).1;have e : ((List.range (deeds caps.length tap).length).zip (deeds caps.length tap))[i]? = some (i, d) := by
   rw [List.getElem?_zip_eq_some];exact ⟨by rw [List.getElem?_range hi], hd⟩
  simp only [List.getElem?_map, e, Option.map_some];cases h;rfl
theorem grow_take {ws l : List Way} {i : Nat} {x : Way} (h : l[i]? = some x) : grow ws (l.take (i + 1)) = add1 (grow ws (l.take i)) x := by
 rw [List.take_add_one, h];unfold grow;rw [List.foldl_append];rfl
theorem grow_keeps : ∀ (l : List Way) {ws : List Way} {p : Way} {a : Nat}, ws[a]? = some p -> (grow ws l)[a]? = some p
 | [], _, _, _, h => h
 | w :: l, ws, p, a, h => grow_keeps l (add1_keeps h)
theorem done_len (caps : List Nat) (w : Amounts) (d : Deed) : (done caps w d).length = w.length := by
 cases d <;> simp [done]
theorem sorted_ext : ∀ {a b : List Int}, a.Pairwise (· < ·) -> b.Pairwise (· < ·) -> (∀ x, x ∈ a ↔ x ∈ b) -> a = b
 | [], [], _, _, _ => rfl
 | [], y :: b, _, _, h => absurd ((h y).mpr (by simp)) (by simp)
 | x :: a, [], _, _, h => absurd ((h x).mp (by simp)) (by simp)
 | x :: a, y :: b, ha, hb, h => by
  rw [List.pairwise_cons] at ha hb;have e : x = y := by
   have h1 : x ∈ y :: b := (h x).mp (by simp);have h2 : y ∈ x :: a := (h y).mpr (by simp);rcases List.mem_cons.mp h1 with e | h1
   ·exact e
   ·rcases List.mem_cons.mp h2 with e | h2
    ·exact e.symm
    ·have := ha.1 y h2;have := hb.1 x h1;omega
  subst e;congr 1;refine sorted_ext ha.2 hb.2 fun z => ?_;constructor
  ·intro hz;have := (h z).mp (List.mem_cons_of_mem _ hz);rcases List.mem_cons.mp this with e | q
   ·have := ha.1 z hz;omega
   ·exact q
  ·intro hz;have := (h z).mpr (List.mem_cons_of_mem _ hz);rcases List.mem_cons.mp this with e | q
   ·have := hb.1 z hz;omega
   ·exact q
theorem pair_lt {a : List Int} (h1 : a.Pairwise (· <= ·)) (h2 : a.Nodup) : a.Pairwise (· < ·) := by
 rw [List.nodup_iff_pairwise_ne] at h2;exact (h1.and h2).imp fun {x y} h => by omega
theorem range_lt : ∀ n : Nat, (List.range n).Pairwise (· < ·) := fun n => List.pairwise_lt_range
theorem can_eq {ns : List Int} {am : List Nat} (h1 : ns.Pairwise (· <= ·)) (h2 : ns.Nodup) (h3 : ∀ x : Int, x ∈ ns ↔ ∃ n ∈ am, x = (n : Int)) (h4 : ∀ n ∈ am, n <= 12) :
  ns = ((List.range 13).filter fun n => am.contains n).map fun n : Nat => (n : Int) := by
 refine sorted_ext (pair_lt h1 h2) ?_ fun x => ?_
 ·rw [List.pairwise_map];refine List.Pairwise.imp (fun {a b} h => ?_) ((range_lt 13).filter _);exact_mod_cast h
 ·rw [h3];constructor
  ·rintro ⟨n, hn, rfl⟩;have := h4 n hn;exact List.mem_map.mpr ⟨n, List.mem_filter.mpr ⟨List.mem_range.mpr (by omega), List.contains_iff_mem.mpr hn⟩, rfl⟩
  ·intro hx;obtain ⟨n, hn, rfl⟩ := List.mem_map.mp hx;exact ⟨n, List.contains_iff_mem.mp (List.mem_filter.mp hn).2, rfl⟩
theorem cut_nil (n k : Nat) : cut n k [] = [] := by cases k <;> simp [cut]
def chunk (n : Nat) (l : List Nat) (i : Nat) : List Nat := (l.drop (i * n)).take n
theorem cut_eq {n : Nat} (hn : 0 < n) : ∀ (m k : Nat) (l : List Nat), l.length = m * n -> m <= k -> cut n k l = (List.range m).map (chunk n l)
 | 0, k, l, h, _ => by
  have : l = [] := List.length_eq_zero_iff.mp (by omega);subst this;rw [cut_nil];rfl
 | m + 1, 0, l, h, hk => by omega
 | m + 1, k + 1, l, h, hk => by
  have h1 : (m + 1) * n = m * n + n := Nat.succ_mul m n;have hl : l ≠ [] := fun e => by subst e; simp at h; omega
  unfold cut;rw [if_neg (by simp [hl]), cut_eq hn m k (l.drop n) (by rw [List.length_drop]; omega) (by omega), List.range_succ_eq_map, List.map_cons, List.map_map];have e0 : chunk n l 0 = l.take n := by simp [chunk]
  rw [e0];congr 1;apply List.map_congr_left;intro i _;show ((l.drop n).drop (i * n)).take n = (l.drop ((i + 1) * n)).take n;rw [List.drop_drop];congr 2;rw [Nat.succ_mul];omega
theorem all_congr_mem {α : Type} {l m : List α} (p : α -> Bool) (h : ∀ x, x ∈ l ↔ x ∈ m) : l.all p = m.all p := by
 rw [Bool.eq_iff_iff, List.all_eq_true, List.all_eq_true];exact ⟨fun q x hx => q x ((h x).mpr hx), fun q x hx => q x ((h x).mp hx)⟩
theorem contains_congr {l m : List Amounts} (h : ∀ x, x ∈ l ↔ x ∈ m) (x : Amounts) : l.contains x = m.contains x := by
 rw [Bool.eq_iff_iff, List.contains_iff_mem, List.contains_iff_mem, h]
theorem proves_eq {caps : List Nat} {tap : Bool} {w : Amounts} {v n : Nat} {l ks : List Amounts} (h : ∀ x, x ∈ ks ↔ x ∈ l) :
  proves caps tap w v n l = (ks.contains w && (!(decide (0 < (ks.filter fun x => at_ x v == n).length)) && ks.all fun x => (outs caps tap x).all fun y => ks.contains y)) := by
 unfold proves;rw [<- contains_congr h w];congr 1;rw [<- all_congr_mem _ h];rw [Bool.eq_iff_iff];simp only [List.all_eq_true, Bool.and_eq_true, Bool.not_eq_true', decide_eq_false_iff_not, bne_iff_ne, ne_eq];have e : (∀ x ∈ ks, ∀ d ∈ deeds caps.length tap, l.contains (done caps x d) = true) ↔ ∀ x ∈ ks, ∀ y ∈ outs caps tap x, ks.contains y = true := by
  constructor
  ·intro q x hx y hy;unfold outs at hy;obtain ⟨d, hd, rfl⟩ := List.mem_map.mp hy;rw [contains_congr h];exact q x hx d hd
  ·intro q x hx d hd;rw [<- contains_congr h];exact q x hx _ (List.mem_map.mpr ⟨d, hd, rfl⟩)
 constructor
 ·intro q;refine ⟨fun z => ?_, e.mp fun x hx => (q x hx).2⟩;obtain ⟨x, hx⟩ := List.exists_mem_of_length_pos z;obtain ⟨h1, h2⟩ := List.mem_filter.mp hx;exact (q x h1).1 (by simpa using h2)
 ·rintro ⟨q1, q2⟩ x hx;refine ⟨fun z => q1 ?_, e.mpr q2 x hx⟩;exact List.length_pos_of_mem (List.mem_filter.mpr ⟨hx, by simpa using z⟩)
end Vr
set_option Elab.async false
set_option linter.all false
set_option maxRecDepth 100000
namespace L2
open PySem PySem.Spec PyProof.Rows
abbrev Key := Sum Int Str
def keyIs : Key -> Value -> Bool
 | .inl k, v => Value.isInt k v
 | .inr x, v => Value.isStrOf x v
def keyH (w : World) : Key -> Int
 | .inl k => hashInt k
 | .inr x => hashStr w x
theorem keyIs_shape : ∀ {k : Key} {v : Value}, keyIs k v = true -> (∃ i t, k = Sum.inl i /\ v = Value.int i t) ∨ (∃ x t, k = Sum.inr x /\ v = Value.str x t)
 | .inl i, v, h => by
  obtain ⟨t, e⟩ := Value.isInt_shape (k := i) (v := v) h;exact .inl ⟨i, t, rfl, e⟩
 | .inr x, v, h => by
  obtain ⟨t, e⟩ := Value.isStrOf_shape (x := x) (v := v) h;exact .inr ⟨x, t, rfl, e⟩
theorem keyIs_int (i : Int) (t : Tok) : keyIs (.inl i) (.int i t) = true := by simp [keyIs, Value.isInt]
theorem keyIs_str (x : Str) (t : Tok) : keyIs (.inr x) (.str x t) = true := by simp [keyIs, Value.isStrOf]
theorem key_ll (a b : Int) : decide ((Sum.inl a : Key) = Sum.inl b) = (a == b) := by
 by_cases e : a = b
 ·subst e; simp
 ·have h : ¬ (Sum.inl a : Key) = Sum.inl b := fun q => e (Sum.inl.inj q);rw [decide_eq_false h];exact (beq_eq_false_iff_ne.mpr e).symm
theorem key_rr (a b : Str) : decide ((Sum.inr a : Key) = Sum.inr b) = decide (a = b) := by
 by_cases e : a = b
 ·subst e; simp
 ·have h : ¬ (Sum.inr a : Key) = Sum.inr b := fun q => e (Sum.inr.inj q);rw [decide_eq_false h, decide_eq_false e]
theorem key_lr (a : Int) (b : Str) : decide ((Sum.inl a : Key) = Sum.inr b) = false := decide_eq_false (fun q => nomatch q)
theorem key_rl (a : Str) (b : Int) : decide ((Sum.inr a : Key) = Sum.inl b) = false := decide_eq_false (fun q => nomatch q)
def mixKind (prog : Program) (w : World) : PySem.KeyKind prog w Key where
 is := keyIs
 hash := keyH w
 inj := fun v a b ha hb => by
  rcases keyIs_shape ha with ⟨i, t, rfl, rfl⟩ | ⟨x, t, rfl, rfl⟩
  ·rcases keyIs_shape hb with ⟨j, u, rfl, e⟩ | ⟨y, u, rfl, e⟩
   ·injection e with e1 _; rw [e1]
   ·exact nomatch e
  ·rcases keyIs_shape hb with ⟨j, u, rfl, e⟩ | ⟨y, u, rfl, e⟩
   ·exact nomatch e
   ·injection e with e1 _; rw [e1]
 byValue := fun k v h => by
  rcases keyIs_shape h with ⟨i, t, rfl, rfl⟩ | ⟨x, t, rfl, rfl⟩ <;> rfl
 pyHash := fun hv h => by
  rcases keyIs_shape hv with ⟨i, t, rfl, rfl⟩ | ⟨x, t, rfl, rfl⟩
  ·exact wpAny_pyHash_int h
  ·exact wpAny_pyHash_str h
 eqBool := fun hu hv h => by
  rcases keyIs_shape hu with ⟨i, t, rfl, rfl⟩ | ⟨x, t, rfl, rfl⟩
  ·rcases keyIs_shape hv with ⟨j, u, rfl, rfl⟩ | ⟨y, u, rfl, rfl⟩
   ·rw [key_ll] at h; exact wpAny_eqBool_int h
   ·rw [key_lr] at h; exact SeqAt.EqAt.int_str i t y u _ _ _ _ h
  ·rcases keyIs_shape hv with ⟨j, u, rfl, rfl⟩ | ⟨y, u, rfl, rfl⟩
   ·rw [key_rl] at h; exact SeqAt.EqAt.str_int x t j u _ _ _ _ h
   ·rw [key_rr] at h; exact wpAny_eqBool_str h
 «strs» := fun k x t v h => by
  rcases keyIs_shape h with ⟨i, u, rfl, e⟩ | ⟨y, u, rfl, e⟩
  ·exact nomatch e
  ·injection e with e1 _
   subst e1;cases v <;> rfl
theorem mixKind_int (prog : Program) (w : World) (i : Int) (t : Tok) : (mixKind prog w).is (.inl i) (.int i t) = true := keyIs_int i t
theorem mixKind_str (prog : Program) (w : World) (x : Str) (t : Tok) : (mixKind prog w).is (.inr x) (.str x t) = true := keyIs_str x t
end L2
namespace L2
open PySem PySem.Spec PyProof.Rows
inductive V where
 | non | bl (b : Bool) | int (i : Int) | str (x : Str) | byt (b : Array UInt8) | flt (b : UInt64) | ref (a : Addr) | ty (n : String)
 deriving DecidableEq
def RelV : V -> Value -> Prop
 | .non, u => u = Value.none
 | .bl b, u => u = Value.bool b
 | .int i, u => ∃ t, u = Value.int i t
 | .str x, u => ∃ t, u = Value.str x t
 | .byt b, u => ∃ t, u = Value.bytes b t
 | .flt b, u => ∃ t, u = Value.float b t
 | .ref a, u => u = Value.ref a
 | .ty n, u => u = Value.type n
abbrev Vals : List V -> List Value -> Prop := Paired RelV
theorem Vals.length {xs : List V} {us : List Value} (r : Vals xs us) : xs.length = us.length := Paired.length r
theorem Vals.get : ∀ {xs : List V} {us : List Value} {i : Nat} {x : V}, Vals xs us -> xs[i]? = some x -> ∃ u, us[i]? = some u /\ RelV x u
 | _, _, _, _, .nil, e => by simp at e
 | _, _, 0, _, .cons r _, e => by simp at e; subst e; exact ⟨_, rfl, r⟩
 | _, _, i + 1, x, .cons _ t, e => by
  obtain ⟨u, h1, h2⟩ := Vals.get (i := i) (x := x) t (by simpa using e);exact ⟨u, by simpa using h1, h2⟩
theorem Vals.set {x : V} {u : Value} (r : RelV x u) : ∀ {xs : List V} {us : List Value} (i : Nat), Vals xs us -> Vals (xs.set i x) (us.set i u)
 | _, _, _, .nil => .nil
 | _, _, 0, .cons _ t => .cons r t
 | _, _, i + 1, .cons q t => .cons q (Vals.set r i t)
theorem Vals.append : ∀ {xs ys : List V} {us ws : List Value}, Vals xs us -> Vals ys ws -> Vals (xs ++ ys) (us ++ ws)
 | _, _, _, _, .nil, s => s
 | _, _, _, _, .cons r t, s => .cons r (Vals.append t s)
theorem Vals.take : ∀ {xs : List V} {us : List Value} (n : Nat), Vals xs us -> Vals (xs.take n) (us.take n)
 | _, _, 0, _ => .nil
 | _, _, _ + 1, .nil => .nil
 | _, _, n + 1, .cons r t => .cons r (Vals.take n t)
theorem Vals.drop : ∀ {xs : List V} {us : List Value} (n : Nat), Vals xs us -> Vals (xs.drop n) (us.drop n)
 | _, _, 0, r => r
 | _, _, _ + 1, .nil => .nil
 | _, _, n + 1, .cons _ t => Vals.drop n t
def RelO : Option V -> Option Value -> Prop
 | some v, some u => RelV v u
 | none, none => True
 | _, _ => False
def KV {κ : Type} : List (κ × V) -> List (κ × Value) -> Prop := Paired fun (p : κ × V) (q : κ × Value) => p.1 = q.1 /\ RelV p.2 q.2
def kV : Key -> V
 | .inl i => .int i
 | .inr x => .str x
inductive HO where
 | lst (xs : List V)
 | tup (xs : List V)
 | dK (kvs : List (Key × V)) | dT (kvs : List (List Key × V))
 | set (S : Int -> Bool) (n : Nat)
 | ins (C dx : Addr) (fs : List (Str × V))
 | own (x : Addr)
 | xd (fs : List (Str × V))
 | met (f x : Addr)
 | rng (lo hi : Int)
 | frz (o : Obj) (u : HO)
 | tbl (ps : Array Value)
 | ext (φ : Heap -> Prop)
abbrev Hp := Addr -> Option HO
def upd (H : Hp) (a : Addr) (o : HO) : Hp := fun b => if b = a then some o else H b
theorem upd_same {H : Hp} {a : Addr} {o : HO} : upd H a o a = some o := by unfold upd; rw [if_pos rfl]
theorem upd_ne {H : Hp} {a b : Addr} {o : HO} (h : b ≠ a) : upd H a o b = H b := by unfold upd; rw [if_neg h]
theorem ne_of {H : Hp} {a b : Addr} {o u : HO} (h : H a = some o) (h' : H b = some u) (d : o ≠ u) : a ≠ b := by
 intro e; subst e; rw [h] at h'; exact d (Option.some.inj h')
theorem ne_of_none {H : Hp} {a b : Addr} {o : HO} (h : H a = some o) (h' : H b = none) : a ≠ b := by
 intro e; subst e; rw [h] at h'; cases h'
section
variable (P : Program) (w : World)
def ObjOk (H : Hp) (h : Heap) (a : Addr) : HO -> Prop
 | .lst xs => xs.length <= sizeLine /\ ∃ (its : List Value) (n : Nat), Vals xs its /\ h.get? a = some { cls := .type "list", data := .seq its.toArray n }
 | .tup xs => xs.length <= sizeLine /\ ∃ its : List Value, Vals xs its /\ IsTup h a its.toArray
 | .dK kvs => kvs.length <= sizeLine /\ (a == sysModules) = false /\ ∃ vs, KV kvs vs /\ h.DictOf (mixKind P w) a vs
 | .dT kvs => kvs.length <= sizeLine /\ (a == sysModules) = false /\ ∃ xs : List (List Key × Addr × Value),
   Paired (fun (p : List Key × V) (q : List Key × Addr × Value) => p.1 = q.1 /\ H q.2.1 = some (.tup (p.1.map kV)) /\ RelV p.2 q.2.2) kvs xs /\
   ∃ o es ep, h.get? a = some o /\ o.ExactDict /\ o.data = .dict es ep /\ es.toList = xs.map (entryOfKey (tupleKind (mixKind P w))) /\ (xs.map (·.1)).Nodup
 | .set S n => h.SetOf (intKind P w) a S n
 | .ins C dx fs => H dx = some (.own a) /\ fs.length <= 1000 /\ dx ≠ a /\ h.get? a = some (PySem.W.instObj C dx) /\
   ∃ mA, h.Ns1 dx mA /\ (∀ f, RelO (fs.lookup f) (mA f)) /\ PySem.Within mA (fs.map (·.1))
 | .own _ => ∃ o, h.get? a = some o
 | .xd fs => ∃ mA, h.Ns1 a mA /\ ∀ f, RelO (fs.lookup f) (mA f)
 | .rng lo hi => ∃ t u v, h.get? a = some { cls := .type "range", data := .fields #[.int lo t, .int hi u, .int 1 v] }
 | .frz o u => h.get? a = some o /\ ObjOk H h a u
 | .tbl ps => h.get? a = some { cls := .none, data := .fields ps }
 | .met f x => h.get? a = some (PySem.W.methodObj (.ref f) (.ref x))
 | .ext φ => φ h /\ (∃ o, h.get? a = some o) /\ ∀ h1 h2 : Heap, φ h1 -> (∀ o, h1.get? a = some o -> h2.get? a = some o) -> φ h2
def HOk (H : Hp) (h : Heap) : Prop := ∀ a o, H a = some o -> ObjOk P w H h a o
end
section
variable {P : Program} {w : World} {H H' : Hp} {h h' : Heap} {a : Addr} {o : HO}
theorem ObjOk.lt (x : ObjOk P w H h a o) : a < h.objs.size := by
 cases o with
 | lst xs => obtain ⟨_, _, _, _, e⟩ := x; exact Heap.lt_size e
 | tup xs => obtain ⟨_, _, _, p⟩ := x; exact p.lt
 | dK kvs => obtain ⟨_, _, _, _, o, _, _, e, _⟩ := x; exact Heap.lt_size e
 | dT kvs => obtain ⟨_, _, _, _, o, _, _, e, _⟩ := x; exact Heap.lt_size e
 | set S n => obtain ⟨o, _, _, _, e, _⟩ := x; exact Heap.lt_size e
 | ins C dx fs => obtain ⟨_, _, _, e, _⟩ := x; exact Heap.lt_size e
 | own y => obtain ⟨_, e⟩ := x; exact Heap.lt_size e
 | xd fs => obtain ⟨_, ⟨_, _, _, e, _⟩, _⟩ := x; exact Heap.lt_size e
 | rng lo hi => obtain ⟨_, _, _, e⟩ := x; exact Heap.lt_size e
 | frz ob u => obtain ⟨e, _⟩ := x; exact Heap.lt_size e
 | tbl ps => exact Heap.lt_size (show h.get? a = some _ from x)
 | met f y => exact Heap.lt_size (show h.get? a = some _ from x)
 | ext φ => obtain ⟨_, ⟨_, e⟩, _⟩ := x; exact Heap.lt_size e
theorem Paired.mapP {α β : Type} {F G : α -> β -> Prop} : ∀ {l₁ : List α} {l₂ : List β}, Paired F l₁ l₂ -> (∀ a b, F a b -> G a b) -> Paired G l₁ l₂
 | _, _, .nil, _ => .nil
 | _, _, .cons r t, f => .cons (f _ _ r) (Paired.mapP t f)
theorem ObjOk.stay (x : ObjOk P w H h a o) (k : ∀ b u, (b = a ∨ H b = some (.own a)) -> h.get? b = some u -> h'.get? b = some u)
  (ho : ∀ b, H b = some (.own a) -> H' b = some (.own a)) (ht : ∀ b xs, H b = some (.tup xs) -> H' b = some (.tup xs)) : ObjOk P w H' h' a o := by
 induction o with
 | lst xs => obtain ⟨z, its, n, r, e⟩ := x; exact ⟨z, its, n, r, k _ _ (.inl rfl) e⟩
 | tup xs => obtain ⟨z, its, r, ob, e, c⟩ := x; exact ⟨z, its, r, ob, k _ _ (.inl rfl) e, c⟩
 | dK kvs => obtain ⟨z, y, vs, r, ob, es, ep, e, c⟩ := x; exact ⟨z, y, vs, r, ob, es, ep, k _ _ (.inl rfl) e, c⟩
 | dT kvs =>
  obtain ⟨z, y, xs, r, ob, es, ep, e, c⟩ := x;exact ⟨z, y, xs, Paired.mapP r fun p q z => ⟨z.1, ht _ _ z.2.1, z.2.2⟩, ob, es, ep, k _ _ (.inl rfl) e, c⟩
 | set S n => obtain ⟨ob, es, ep, t, e, c⟩ := x; exact ⟨ob, es, ep, t, k _ _ (.inl rfl) e, c⟩
 | ins C dx fs =>
  obtain ⟨d, z, ne, e, mA, ⟨od, es, ep, e2, c⟩, r⟩ := x;exact ⟨ho _ d, z, ne, k _ _ (.inl rfl) e, mA, ⟨od, es, ep, k _ _ (.inr d) e2, c⟩, r⟩
 | own y => obtain ⟨ob, e⟩ := x; exact ⟨ob, k _ _ (.inl rfl) e⟩
 | xd fs => obtain ⟨mA, ⟨od, es, ep, e, c⟩, r⟩ := x; exact ⟨mA, ⟨od, es, ep, k _ _ (.inl rfl) e, c⟩, r⟩
 | rng lo hi => obtain ⟨t, u, v, e⟩ := x; exact ⟨t, u, v, k _ _ (.inl rfl) e⟩
 | frz ob u ih => obtain ⟨e, q⟩ := x; exact ⟨k _ _ (.inl rfl) e, ih q⟩
 | tbl ps =>
  have e : h.get? a = some { cls := .none, data := .fields ps } := x;show h'.get? a = some { cls := .none, data := .fields ps };exact k a _ (.inl rfl) e
 | met f y =>
  have e : h.get? a = some (PySem.W.methodObj (.ref f) (.ref y)) := x;show h'.get? a = some (PySem.W.methodObj (.ref f) (.ref y));exact k a _ (.inl rfl) e
 | ext φ => obtain ⟨p, ⟨o, e⟩, st⟩ := x; exact ⟨st _ _ p fun o q => k _ _ (.inl rfl) q, ⟨o, k _ _ (.inl rfl) e⟩, st⟩
theorem HOk.lt (x : HOk P w H h) (e : H a = some o) : a < h.objs.size := (x a o e).lt
theorem HOk.fresh (x : HOk P w H h) (e : h.objs.size <= a) : H a = none := by
 cases q : H a with
 | none => rfl
 | some u => exact absurd (Nat.lt_of_lt_of_le (x.lt q) e) (Nat.lt_irrefl _)
theorem HOk.kept (x : HOk P w H h) (k : ∀ b u, h.get? b = some u -> h'.get? b = some u) : HOk P w H h' := fun a o e =>
 (x a o e).stay (fun b u _ q => k b u q) (fun _ q => q) fun _ _ q => q
theorem HOk.laid (x : HOk P w H h) (k : ∀ b u, h.get? b = some u -> h'.get? b = some u) (hp : h.objs.size <= a) (new : ObjOk P w (upd H a o) h' a o) : HOk P w (upd H a o) h' := fun b u e => by
 have hn := x.fresh hp
 by_cases hb : b = a
 ·subst hb; rw [upd_same] at e; cases e; exact new
 ·rw [upd_ne hb] at e;exact (x b u e).stay (fun c v _ q => k c v q) (fun c q => by rw [upd_ne (ne_of_none q hn)]; exact q) fun c xs q => by rw [upd_ne (ne_of_none q hn)]; exact q
end
def Rd (H : Hp) (a : Addr) (u : HO) : Prop := H a = some u ∨ ∃ o, H a = some (.frz o u)
theorem Rd.ok {P : Program} {w : World} {H : Hp} {h : Heap} {a : Addr} {u : HO} (r : Rd H a u) (x : HOk P w H h) : ObjOk P w H h a u := by
 rcases r with r | ⟨o, r⟩
 ·exact x a u r
 ·obtain ⟨_, q⟩ := x a _ r;exact q
def Mut : Option HO -> Prop
 | some (.lst _) => True
 | some (.dK _) => True
 | some (.dT _) => True
 | some (.set _ _) => True
 | some (.ins _ _ _) => True
 | some (.ext _) => True
 | _ => False
section
variable {P : Program} {w : World} {H : Hp} {h h' : Heap} {x e : Addr} {o' : HO}
theorem HOk.write (ok : HOk P w H h) (mu : Mut (H x)) (he : e = x ∨ H e = some (.own x)) (k : ∀ b u, b ≠ e -> h.get? b = some u -> h'.get? b = some u) (heo : ∃ u, h'.get? e = some u)
  (new : ObjOk P w (upd H x o') h' x o') : HOk P w (upd H x o') h' := fun b u q => by
 have nown : ∀ c y, H c = some (.own y) -> c ≠ x := fun c y r z => by subst z; rw [r] at mu; exact mu
 have ntup : ∀ c xs, H c = some (.tup xs) -> c ≠ x := fun c xs r z => by subst z; rw [r] at mu; exact mu
 by_cases hb : b = x
 ·subst hb; rw [upd_same] at q; cases q; exact new
 ·rw [upd_ne hb] at q
  by_cases hbe : b = e
  ·have q' : H b = some (.own x) := by
    rcases he with z | z
    ·exact absurd (hbe.trans z) hb
    ·rw [hbe]; exact z
   rw [q] at q'; cases q';obtain ⟨v, hv⟩ := heo;exact ⟨v, by rw [hbe]; exact hv⟩
  ·refine (ok b u q).stay (fun c v hc r => k c v ?_ r) (fun c r => by rw [upd_ne (nown c b r)]; exact r) fun c xs r => by rw [upd_ne (ntup c xs r)]; exact r
   rcases hc with rfl | hc
   ·exact hbe
   ·rintro rfl;rcases he with z | z
    ·exact nown c b hc z
    ·rw [hc] at z; cases z; exact hb rfl
end
structure Un (fs ex : List Addr) (H H' : Hp) (h h' : Heap) : Prop where
 keep : ∀ b o, h.get? b = some o -> H b = none -> b ∉ fs -> b ∉ ex -> h'.get? b = some o
 slot : ∀ b o, h.get? b = some o -> H b = none -> b ∈ fs -> b ∉ ex -> ∃ sl, h'.get? b = some { o with slots := sl }
 free : ∀ b o, h.get? b = some o -> H b = none -> b ∉ ex -> H' b = none
 there : ∀ b o, h.get? b = some o -> b ∉ ex -> ∃ o', h'.get? b = some o'
 tups : ∀ b xs, H b = some (.tup xs) -> H' b = some (.tup xs)
 frzs : ∀ b o u, H b = some (.frz o u) -> H' b = some (.frz o u)
 tbls : ∀ b ps, H b = some (.tbl ps) -> ∃ more, H' b = some (.tbl (ps ++ more))
section
variable {fs fs' ex ex' : List Addr} {H H1 H2 : Hp} {h h1 h2 h' : Heap} {a x e : Addr} {o : HO}
theorem Un.any (u : Un fs ex H H1 h h1) {b : Addr} {ob : Obj} (q : h.get? b = some ob) (n : H b = none) (hx : b ∉ ex) : ∃ sl, h1.get? b = some { ob with slots := sl } := by
 by_cases hb : b ∈ fs
 ·exact u.slot b ob q n hb hx
 ·exact ⟨ob.slots, u.keep b ob q n hb hx⟩
theorem Un.kept (k : ∀ b u, h.get? b = some u -> h'.get? b = some u) : Un fs ex H H h h' :=
 ⟨fun b ob q _ _ _ => k b ob q, fun b ob q _ _ _ => ⟨ob.slots, k b ob q⟩, fun _ _ _ n _ => n, fun b ob q _ => ⟨ob, k b ob q⟩, fun _ _ q => q, fun _ _ _ q => q, fun _ ps q => ⟨#[], by rw [q]; simp⟩⟩
theorem Un.refl : Un fs ex H H h h := Un.kept fun _ _ q => q
theorem Un.laid (k : ∀ b u, h.get? b = some u -> h'.get? b = some u) (hp : h.objs.size <= a) (hn : H a = none) : Un fs ex H (upd H a o) h h' where
 keep := fun b u q _ _ _ => k b u q
 slot := fun b u q _ _ _ => ⟨u.slots, k b u q⟩
 free := fun b u q n _ => by rw [upd_ne (Nat.ne_of_lt (Nat.lt_of_lt_of_le (Heap.lt_size q) hp))]; exact n
 there := fun b u q _ => ⟨u, k b u q⟩
 tups := fun b xs q => by rw [upd_ne (ne_of_none q hn)]; exact q
 frzs := fun b u xs q => by rw [upd_ne (ne_of_none q hn)]; exact q
 tbls := fun b ps q => ⟨#[], by rw [upd_ne (ne_of_none q hn), q]; simp⟩
theorem Un.write (mu : Mut (H x)) (he : e = x ∨ H e = some (.own x)) (k : ∀ b u, b ≠ e -> h.get? b = some u -> h'.get? b = some u) (heo : ∃ u, h'.get? e = some u) : Un fs ex H (upd H x o) h h' := by
 have hx : ∀ b, H b = none -> b ≠ x := fun b n z => by subst z; rw [n] at mu; exact mu
 have hb : ∀ b, H b = none -> b ≠ e := fun b n z => by
  subst z;rcases he with r | r
  ·exact hx b n r
  ·rw [n] at r; cases r
 have hm : ∀ b u, H b = some u -> ¬ Mut (some u) -> b ≠ x := fun b u q nm z => by subst z; rw [q] at mu; exact nm mu
 refine ⟨fun b u q n _ _ => k b u (hb b n) q, fun b u q n _ _ => ⟨u.slots, k b u (hb b n) q⟩, fun b u q n _ => by rw [upd_ne (hx b n)]; exact n, fun b u q _ => ?_,
  fun b xs q => by rw [upd_ne (hm b _ q fun z => z)]; exact q, fun b u xs q => by rw [upd_ne (hm b _ q fun z => z)]; exact q, fun b ps q => ⟨#[], by rw [upd_ne (hm b _ q fun z => z), q]; simp⟩⟩
 by_cases hbe : b = e
 ·subst hbe; exact heo
 ·exact ⟨u, k b u hbe q⟩
end
def trk (h : Heap) (H : Hp) : List Addr := (List.range h.objs.size).filter fun a => (H a).isSome
def hidT (h : Heap) (H : Hp) : Heap := PySem.W.hideAll h (trk h H)
theorem hidT_size (h : Heap) (H : Hp) : (hidT h H).objs.size = h.objs.size := PySem.W.hideAll_size _ _
theorem hidT_get {h : Heap} {H : Hp} {b : Addr} {o : Obj} (e : h.get? b = some o) (n : H b = none) : (hidT h H).get? b = some o :=
 PySem.W.hideAll_get _ e fun hm => by
  have q : (H b).isSome = true := (List.mem_filter.mp hm).2;rw [n] at q; simp at q
theorem of_hidT {h : Heap} {H : Hp} {b : Addr} {o : Obj} (e : (hidT h H).get? b = some o) : h.get? b = some o /\ H b = none := by
 have e' : h.get? b = some o := PySem.W.of_hideAll (trk h H) e;refine ⟨e', ?_⟩;cases q : H b with
 | none => rfl
 | some x =>
  have hm : b ∈ trk h H := List.mem_filter.mpr ⟨List.mem_range.mpr (Heap.lt_size e'), by simp [q]⟩;have z : (hidT h H).get? b = none := PySem.W.hideAll_none (trk h H) hm;rw [z] at e; cases e
end L2
namespace L2
open PySem PySem.Spec PyProof.Rows
structure Mod (K : PySem.W.Frag) (mg : Str -> Option Value) (base : Heap) : Prop where
 kin : K.In base
 glob : base.Ns mainGlobals mg
 blt : ∃ mb, base.Ns builtinsNs mb /\ ∀ x : Str, x ≠ "__name__" -> mb x = bootBuiltins x
 nolimit : base.NoLimit
 seer : base.NoSeer
structure Cx where
 prog : Program
 w : World
 K : PySem.W.Frag
 mg : Str -> Option Value
 base : Heap
 A : Around
 N : List Str
 s_0 : Shared
 H_0 : Hp
 env : Env
 outer : List Env
 stack : List Env
 ex : List Addr
 fn : Str -> Bool
 calm : Bool
 pn : List (Addr × Obj)
 xe : Value -> Shared -> Prop
def frs (l : List Env) : List Addr := l.filterMap (·.frame)
abbrev Cx.fs (X : Cx) : List Addr := frs X.outer
def Vis (sc : Scope) (x : Str) : Prop := sc.names.lookup x = some .local ∨ sc.names.lookup x = some .cell ∨ sc.names.lookup x = some .free
def Loc (sc : Scope) (x : Str) : Prop := sc.names.lookup x = some .local ∨ sc.names.lookup x = some .cell
def Look (env : Env) (h : Heap) (m : Str -> Option Value) (x : Str) (u : Value) : Prop :=
 (env.kindOf x = some .local /\ m x = some u) ∨ ((env.kindOf x = some .cell ∨ env.kindOf x = some .free) /\ ∃ c, env.cells.lookup x = some c /\ h.IsCell c (some u))
structure Cx.Ok (X : Cx) : Prop where
 mod : Mod X.K X.mg X.base
 kind : X.env.scope.kind = .function
 glob : X.env.globals = mainGlobals
 blt : X.env.builtins = builtinsNs
 above : X.s_0.heap.objs.size <= X.env.locals
 inj : ∀ x y c, X.env.cells.lookup x = some c -> X.env.cells.lookup y = some c -> x = y
 has : ∀ x, (X.env.kindOf x = some .cell ∨ X.env.kindOf x = some .free) -> ∃ c, X.env.cells.lookup x = some c
 cab : ∀ x c, X.fn x = true -> X.env.cells.lookup x = some c -> X.s_0.heap.objs.size <= c
 hd : X.calm = true -> X.A.handled = none
 frames : X.A.frames = some X.stack
 stk : X.stack = X.outer ∨ (X.stack = X.env :: X.outer /\ X.env.frame = some X.env.locals)
 exf : ∀ b ∈ X.ex, b ≠ X.env.locals /\ ∀ x c, X.env.cells.lookup x = some c -> c ≠ b
 bs : ∀ b o, X.base.get? b = some o -> X.s_0.heap.get? b = some o /\ X.H_0 b = none
 bsz : X.base.objs.size <= X.s_0.heap.objs.size
 noex : ∀ b o, X.base.get? b = some o -> b ∉ X.ex
 exfs : ∀ b ∈ X.ex, b ∉ X.fs
 funs : X.s_0.heap.FunFrames X.base X.outer
 frf : ∀ b ∈ X.fs, X.H_0 b = none
structure Inv (X : Cx) (pins : List (Addr × Obj)) (σ : List (Option V)) (H : Hp) (s : Shared) : Prop where
 ok : X.Ok
 os : s.os = X.s_0.os
 bare : AllBare s.gens
 base : Un X.fs X.ex X.H_0 H X.s_0.heap s.heap
 loc : ∃ m, s.heap.Ns X.env.locals m /\ ∀ (i : Nat) (x : Str) (v : V), X.N[i]? = some x -> σ[i]? = some (some v) -> Vis X.env.scope x -> ∃ u, RelV v u /\ Look X.env s.heap m x u
 cell : ∀ x c, X.env.cells.lookup x = some c -> ∃ v, s.heap.IsCell c v
 free : H X.env.locals = none
 freeC : ∀ x c, X.env.cells.lookup x = some c -> H c = none
 pin : ∀ p ∈ X.pn ++ pins, s.heap.get? p.1 = some p.2 /\ H p.1 = none /\ p.1 ≠ X.env.locals /\ p.1 ∉ X.fs /\ ∀ v, p.2.data ≠ .cell v
 hok : HOk X.prog X.w H s.heap
 len : σ.length = X.N.length
section
variable {X : Cx} {pins : List (Addr × Obj)} {σ : List (Option V)} {H H' : Hp} {s : Shared} {h' : Heap}
theorem Cx.Ok.nofr (ok : X.Ok) {b : Addr} {o : Obj} (e : X.base.get? b = some o) : b ∉ X.fs := fun hb => by
 have := (ok.funs.mem hb).1;rw [e] at this; cases this
theorem Inv.bs (I : Inv X pins σ H s) : ∀ b o, X.base.get? b = some o -> s.heap.get? b = some o /\ H b = none := fun b o e =>
 ⟨I.base.keep b o (I.ok.bs b o e).1 (I.ok.bs b o e).2 (I.ok.nofr e) (I.ok.noex b o e), I.base.free b o (I.ok.bs b o e).1 (I.ok.bs b o e).2 (I.ok.noex b o e)⟩
theorem Inv.bk (I : Inv X pins σ H s) : ∀ b o, X.base.get? b = some o -> s.heap.get? b = some o := fun b o e => (I.bs b o e).1
theorem Inv.mod (I : Inv X pins σ H s) : Mod X.K X.mg X.base := I.ok.mod
theorem Inv.kIn (I : Inv X pins σ H s) : X.K.In s.heap := I.ok.mod.kin.keeps I.bk
theorem Inv.lt (I : Inv X pins σ H s) : X.env.locals < s.heap.objs.size := let ⟨_, hn, _⟩ := I.loc; hn.lt
theorem Inv.sz (I : Inv X pins σ H s) : X.s_0.heap.objs.size <= s.heap.objs.size := Nat.le_trans I.ok.above (Nat.le_of_lt I.lt)
theorem Inv.nofs (I : Inv X pins σ H s) {a : Addr} (h : s.heap.objs.size <= a) : a ∉ X.fs := fun hb => by
 obtain ⟨_, o, ho, _⟩ := I.ok.funs.mem hb;exact absurd (Nat.lt_of_lt_of_le (Heap.lt_size ho) (Nat.le_trans I.sz h)) (Nat.lt_irrefl _)
theorem Inv.cne (I : Inv X pins σ H s) : ∀ x c, X.env.cells.lookup x = some c -> c ≠ X.env.locals := fun x c e z => by
 obtain ⟨v, o, ho, hd⟩ := I.cell x c e;obtain ⟨m, ⟨o', es, ep, ho', hd', _⟩, _⟩ := I.loc;rw [z, ho'] at ho; cases ho; rw [hd'] at hd; cases hd
theorem Inv.funs (I : Inv X pins σ H s) : s.heap.FunFrames X.base X.outer := by
 have all : ∀ (l : List Env), (∀ b ∈ frs l, b ∈ X.fs) -> X.s_0.heap.FunFrames X.base l -> s.heap.FunFrames X.base l := by
  intro l
  induction l with
  | nil => intro _ _; trivial
  | cons env r ih =>
   intro hs hl;obtain ⟨hk, ⟨L, o, hf, hn, ho, hd⟩, hr⟩ := hl;have hL : L ∈ X.fs := hs L (by unfold frs; rw [List.filterMap_cons, hf]; exact List.mem_cons_self);obtain ⟨sl, e⟩ := I.base.slot L o ho (I.ok.frf L hL) hL fun z => I.ok.exfs L z hL;exact ⟨hk, ⟨L, _, hf, hn, e, hd⟩, ih (fun b hb => hs b (by unfold frs; rw [List.filterMap_cons, hf]; exact List.mem_cons_of_mem _ hb)) hr⟩
 exact all X.outer (fun _ hb => hb) I.ok.funs
theorem Inv.stack (I : Inv X pins σ H s) : s.heap.FunFrames X.base X.stack := by
 rcases I.ok.stk with e | ⟨e, hf⟩
 ·rw [e]; exact I.funs
 ·rw [e];obtain ⟨m, hn, _⟩ := I.loc;refine .cons (by rw [I.ok.kind]; decide) hf hn ?_ I.funs;exact Heap.get?_none_of_le (Nat.le_trans I.ok.bsz I.ok.above)
theorem Inv.stkSub (I : Inv X pins σ H s) : ∀ b ∈ frs X.stack, b ∈ X.env.locals :: X.fs := fun b hb => by
 rcases I.ok.stk with e | ⟨e, hf⟩
 ·rw [e] at hb; exact List.mem_cons_of_mem _ hb
 ·rw [e] at hb;unfold frs at hb;rw [List.filterMap_cons, hf] at hb;exact hb
theorem Inv.stkFree (I : Inv X pins σ H s) : ∀ b ∈ frs X.stack, H b = none := fun b hb => by
 rcases List.mem_cons.mp (I.stkSub b hb) with e | hb
 ·rw [e]; exact I.free
 ·obtain ⟨_, o, ho, _⟩ := I.ok.funs.mem hb;exact I.base.free b o ho (I.ok.frf b hb) fun z => I.ok.exfs b z hb
theorem Inv.step {g' : Array GenState} {t' : Nat} {d' : Drawn} {ch : List Addr} (I : Inv X pins σ H s)
  (hch : ∀ b ∈ ch, (b ∈ X.ex ∨ X.s_0.heap.objs.size <= b) /\ b ≠ X.env.locals /\ (∀ x c, X.env.cells.lookup x = some c -> c ≠ b) /\ ∀ p ∈ X.pn ++ pins, p.1 ≠ b)
  (keep : ∀ b o, b ≠ X.env.locals -> b ∉ X.fs -> b ∉ ch -> s.heap.get? b = some o -> H b = none -> h'.get? b = some o)
  (slot : ∀ b o, b ≠ X.env.locals -> b ∈ X.fs -> b ∉ ch -> s.heap.get? b = some o -> H b = none -> ∃ sl, h'.get? b = some { o with slots := sl }) (free : ∀ b o, b ∉ ch -> s.heap.get? b = some o -> H b = none -> H' b = none)
  (there : ∀ b o, b ∉ ch -> s.heap.get? b = some o -> ∃ o', h'.get? b = some o')
  (tups : ∀ b xs, H b = some (.tup xs) -> H' b = some (.tup xs)) (frzs : ∀ b o u, H b = some (.frz o u) -> H' b = some (.frz o u)) (tbls : ∀ b ps, H b = some (.tbl ps) -> ∃ more, H' b = some (.tbl (ps ++ more)))
  (ns : ∀ m, s.heap.Ns X.env.locals m -> h'.Ns X.env.locals m) (hok : HOk X.prog X.w H' h') (hg : AllBare g') :
  Inv X pins σ H' { s with heap := h', gens := g', drawn := d', toks := t' } := by
 have neL : ∀ b o, X.s_0.heap.get? b = some o -> b ≠ X.env.locals := fun b o e => Nat.ne_of_lt (Nat.lt_of_lt_of_le (Heap.lt_size e) I.ok.above);have neC : ∀ b o, X.s_0.heap.get? b = some o -> b ∉ X.ex -> b ∉ ch := fun b o e hx hb => by
  rcases (hch b hb).1 with z | z
  ·exact hx z
  ·exact absurd (Nat.lt_of_lt_of_le (Heap.lt_size e) z) (Nat.lt_irrefl _)
 have cellK : ∀ x c, X.env.cells.lookup x = some c -> ∀ v, s.heap.IsCell c v -> h'.IsCell c v := fun x c e v ⟨o, ho, hd⟩ => by
  have nch : c ∉ ch := fun z => (hch c z).2.2.1 x c e rfl
  by_cases hc : c ∈ X.fs
  ·obtain ⟨sl, q⟩ := slot c o (I.cne x c e) hc nch ho (I.freeC x c e);exact ⟨_, q, hd⟩
  ·exact ⟨o, keep c o (I.cne x c e) hc nch ho (I.freeC x c e), hd⟩
 refine ⟨I.ok, I.os, hg, ⟨fun b o e n hb hx => ?_, fun b o e n hb hx => ?_, fun b o e n hx => ?_, fun b o e hx => ?_, fun b xs e => tups b xs (I.base.tups b xs e), fun b o xs e => frzs b o xs (I.base.frzs b o xs e), fun b ps e => ?_⟩, ?_, fun x c e => ?_, ?_, fun x c e => ?_, fun p hp => ?_, hok, I.len⟩
 ·exact keep b o (neL b o e) hb (neC b o e hx) (I.base.keep b o e n hb hx) (I.base.free b o e n hx)
 ·obtain ⟨sl, e1⟩ := I.base.slot b o e n hb hx;obtain ⟨sl', e2⟩ := slot b _ (neL b o e) hb (neC b o e hx) e1 (I.base.free b o e n hx);exact ⟨sl', e2⟩
 ·obtain ⟨o', e1⟩ := I.base.there b o e hx;exact free b o' (neC b o e hx) e1 (I.base.free b o e n hx)
 ·obtain ⟨o', e1⟩ := I.base.there b o e hx;exact there b o' (neC b o e hx) e1
 ·obtain ⟨m1, e1⟩ := I.base.tbls b ps e;obtain ⟨m2, e2⟩ := tbls b _ e1;exact ⟨m1 ++ m2, by rw [e2, Array.append_assoc]⟩
 ·obtain ⟨m, hn, hl⟩ := I.loc;refine ⟨m, ns m hn, fun i x v e1 e2 e3 => ?_⟩;obtain ⟨u, r, l⟩ := hl i x v e1 e2 e3;refine ⟨u, r, ?_⟩;rcases l with l | ⟨k, c, e, z⟩
  ·exact .inl l
  ·exact .inr ⟨k, c, e, cellK x c e _ z⟩
 ·obtain ⟨v, z⟩ := I.cell x c e;exact ⟨v, cellK x c e v z⟩
 ·obtain ⟨m, ⟨o, _, _, ho, _⟩, _⟩ := I.loc;exact free _ o (fun z => (hch _ z).2.1 rfl) ho I.free
 ·obtain ⟨v, o, ho, hd⟩ := I.cell x c e;exact free c o (fun z => (hch c z).2.2.1 x c e rfl) ho (I.freeC x c e)
 ·obtain ⟨e, n, ne, nf, d⟩ := I.pin p hp;have nch : p.1 ∉ ch := fun z => (hch p.1 z).2.2.2 p hp rfl;exact ⟨keep p.1 p.2 ne nf nch e n, free p.1 p.2 nch e n, ne, nf, d⟩
theorem Inv.un {t' : Nat} (I : Inv X pins σ H s) (u : Un X.fs [] H H' s.heap h') (hok : HOk X.prog X.w H' h') : Inv X pins σ H' { s with heap := h', toks := t' } := by
 obtain ⟨m, ⟨o, es, ep, ho, r⟩, _⟩ := id I.loc;obtain ⟨sl, hL⟩ := u.any ho I.free (by simp);exact I.step (g' := s.gens) (d' := s.drawn) (ch := []) (fun _ z => nomatch z) (fun b o _ hb _ e n => u.keep b o e n hb (by simp)) (fun b o _ hb _ e n => u.slot b o e n hb (by simp)) (fun b o _ e n => u.free b o e n (by simp)) (fun b o _ e => u.there b o e (by simp)) u.tups u.frzs u.tbls (fun m' hm => by
  obtain ⟨o', es', ep', ho', r'⟩ := hm;rw [ho] at ho'; cases ho';exact ⟨_, es', ep', hL, r'⟩) hok I.bare
theorem Inv.call {g' : Array GenState} {t' : Nat} {d' : Drawn} {ch : List Addr} (I : Inv X pins σ H s) (u : Un (frs X.stack) ch H H' s.heap h') (hok : HOk X.prog X.w H' h') (hg : AllBare g')
  (hch : ∀ b ∈ ch, (b ∈ X.ex ∨ X.s_0.heap.objs.size <= b) /\ b ≠ X.env.locals /\ (∀ x c, X.env.cells.lookup x = some c -> c ≠ b) /\ ∀ p ∈ X.pn ++ pins, p.1 ≠ b) :
  Inv X pins σ H' { s with heap := h', gens := g', drawn := d', toks := t' } := by
 obtain ⟨m, ⟨o, es, ep, ho, r⟩, _⟩ := id I.loc;obtain ⟨sl, hL⟩ := u.any ho I.free fun z => (hch _ z).2.1 rfl;exact I.step (ch := ch) hch (fun b o hL hb hc e n => u.keep b o e n (fun z => (List.mem_cons.mp (I.stkSub b z)).elim hL hb) hc) (fun b o _ _ hc e n => u.any e n hc) (fun b o hc e n => u.free b o e n hc) (fun b o hc e => u.there b o e hc) u.tups u.frzs u.tbls (fun m' hm => by
  obtain ⟨o', es', ep', ho', r'⟩ := hm;rw [ho] at ho'; cases ho';exact ⟨_, es', ep', hL, r'⟩) hok hg
theorem Inv.turned {t' : Nat} {it : Addr} (I : Inv X pins σ H s) (k : ∀ b o, b ≠ it -> s.heap.get? b = some o -> h'.get? b = some o) (hn : H it = none) (hL : it ≠ X.env.locals)
  (h1 : it ∈ X.ex ∨ X.s_0.heap.objs.size <= it) (h2 : ∀ x c, X.env.cells.lookup x = some c -> c ≠ it) (h3 : ∀ p ∈ X.pn ++ pins, p.1 ≠ it) : Inv X pins σ H { s with heap := h', toks := t' } := by
 have nit : ∀ b u, H b = some u -> b ≠ it := fun b u e z => by rw [z, hn] at e; cases e
 refine I.step (g' := s.gens) (d' := s.drawn) (ch := [it]) (fun b hb => ?_) (fun b o _ _ hc e _ => k b o (fun z => hc (by simp [z])) e) (fun b o _ _ hc e _ => ⟨o.slots, k b o (fun z => hc (by simp [z])) e⟩) (fun _ _ _ _ n => n)
  (fun b o hc e => ⟨o, k b o (fun z => hc (by simp [z])) e⟩) (fun _ _ e => e) (fun _ _ _ e => e) (fun b ps e => ⟨#[], by rw [e]; simp⟩) (fun m hm => ?_) (fun b u e => ?_) I.bare
 ·have e : b = it := by simpa using hb
  subst e;exact ⟨h1, hL, h2, h3⟩
 ·obtain ⟨o, es, ep, ho, r⟩ := hm;exact ⟨o, es, ep, k _ o (Ne.symm hL) ho, r⟩
 ·refine (I.hok b u e).stay (fun c v hc q => k c v ?_ q) (fun _ q => q) fun _ _ q => q;rcases hc with z | z
  ·rw [z]; exact nit b u e
  ·exact nit c _ z
theorem Inv.tok (I : Inv X pins σ H s) (t : Nat) : Inv X pins σ H { s with toks := t } := I.un (h' := s.heap) (t' := t) Un.refl I.hok
theorem Inv.kept {t' : Nat} (I : Inv X pins σ H s) (k : ∀ b u, s.heap.get? b = some u -> h'.get? b = some u) : Inv X pins σ H { s with heap := h', toks := t' } := I.un (Un.kept k) (I.hok.kept k)
theorem Inv.laid {a : Addr} {o : HO} {t' : Nat} (I : Inv X pins σ H s) (k : ∀ b u, s.heap.get? b = some u -> h'.get? b = some u) (hp : s.heap.objs.size <= a) (new : ObjOk X.prog X.w (upd H a o) h' a o) :
  Inv X pins σ (upd H a o) { s with heap := h', toks := t' } := I.un (Un.laid k hp (I.hok.fresh hp)) (I.hok.laid k hp new)
theorem Inv.write {x e : Addr} {o : HO} {t' : Nat} (I : Inv X pins σ H s) (mu : Mut (H x)) (he : e = x ∨ H e = some (.own x)) (k : ∀ b u, b ≠ e -> s.heap.get? b = some u -> h'.get? b = some u) (heo : ∃ u, h'.get? e = some u)
  (new : ObjOk X.prog X.w (upd H x o) h' x o) : Inv X pins σ (upd H x o) { s with heap := h', toks := t' } := I.un (Un.write mu he k heo) (I.hok.write mu he k heo new)
theorem Inv.weak {σ' : List (Option V)} (I : Inv X pins σ H s) (hl : σ'.length = σ.length) (w : ∀ (i : Nat) v, σ'[i]? = some (some v) -> σ[i]? = some (some v)) : Inv X pins σ' H s :=
 ⟨I.ok, I.os, I.bare, I.base, let ⟨m, hn, hl'⟩ := I.loc; ⟨m, hn, fun i x v e1 e2 e3 => hl' i x v e1 (w i v e2) e3⟩, I.cell, I.free, I.freeC, I.pin, I.hok, hl.trans I.len⟩
theorem Inv.pins_of {pins' : List (Addr × Obj)} (I : Inv X pins σ H s) (h : ∀ p ∈ pins', s.heap.get? p.1 = some p.2 /\ H p.1 = none /\ p.1 ≠ X.env.locals /\ p.1 ∉ X.fs /\ ∀ v, p.2.data ≠ .cell v) : Inv X pins' σ H s :=
 ⟨I.ok, I.os, I.bare, I.base, I.loc, I.cell, I.free, I.freeC, fun p hp => (List.mem_append.mp hp).elim (fun z => I.pin p (List.mem_append_left _ z)) (h p), I.hok, I.len⟩
theorem nodup_ix {N : List Str} (hN : N.Nodup) {i j : Nat} {x : Str} (a : N[i]? = some x) (b : N[j]? = some x) : i = j := by
 obtain ⟨h1, e1⟩ := List.getElem?_eq_some_iff.mp a;obtain ⟨h2, e2⟩ := List.getElem?_eq_some_iff.mp b;exact (List.getElem_inj hN).mp (e1.trans e2.symm)
theorem store_ok2 {M : Model} {A : Around} {E : Value -> Shared -> Prop} {i : Nat} {x : Str} {v : V} {u : Value} {Q : Unit -> Shared -> Prop} (I : Inv X pins σ H s) (hN : X.N.Nodup) (hi : X.N[i]? = some x) (hx : Loc X.env.scope x) (r : RelV v u)
  (h : ∀ s', Inv X pins (σ.set i (some v)) H s' -> (∃ a, Heap.SameBut a s.heap s'.heap /\ (a = X.env.locals ∨ X.env.cells.lookup x = some a)) -> Q () s') (hf : X.fn x = true ∨ X.env.scope.names.lookup x = some .local := by first | exact .inl rfl | exact .inr rfl | assumption) : wpAny M A (storeName X.env x u) Q E s := by
 obtain ⟨m, hn, hl⟩ := id I.loc;have hcls : (X.env.scope.kind == .class || (X.env.scope.kind == .module && X.env.locals != X.env.globals)) = false := by rw [I.ok.kind]; rfl
 have hiσ : i < σ.length := by rw [I.len]; exact (List.getElem?_eq_some_iff.mp hi).1
 have cne := I.cne;have tracked : ∀ {a : Addr} {h' : Heap}, (∃ o, s.heap.get? a = some o /\ H a = none) -> Heap.SameBut a s.heap h' -> HOk X.prog X.w H h' := fun {a h'} ha hs b ob e => by
  obtain ⟨_, _, hfree⟩ := ha;refine (I.hok b ob e).stay (fun c w' hc q => (hs.2 c ?_).trans q) (fun _ q => q) fun _ _ q => q;rintro rfl;rcases hc with rfl | hc
  ·rw [hfree] at e; cases e
  ·rw [hfree] at hc; cases hc
 rcases hx with hk | hk
 ·refine wpAny_storeName_local hk hn (fun h' hn' hs => ?_) hcls;obtain ⟨oL, _, _, hoL, _⟩ := id hn;refine h _ ⟨I.ok, I.os, I.bare, ⟨fun b o e n hb hx => ?_, fun b o e n hb hx => ?_, I.base.free, fun b o e hx => ?_, I.base.tups, I.base.frzs, I.base.tbls⟩, ⟨_, hn', fun j y v' e1 e2 e3 => ?_⟩, fun y c e => ?_, I.free, I.freeC, fun p hp => ?_, tracked ⟨oL, hoL, I.free⟩ hs, by simpa using I.len⟩ ⟨_, hs, .inl rfl⟩
  ·exact (hs.2 b (Nat.ne_of_lt (Nat.lt_of_lt_of_le (Heap.lt_size e) I.ok.above))).trans (I.base.keep b o e n hb hx)
  ·obtain ⟨sl, e1⟩ := I.base.slot b o e n hb hx;exact ⟨sl, (hs.2 b (Nat.ne_of_lt (Nat.lt_of_lt_of_le (Heap.lt_size e) I.ok.above))).trans e1⟩
  ·obtain ⟨o', e1⟩ := I.base.there b o e hx;exact ⟨o', (hs.2 b (Nat.ne_of_lt (Nat.lt_of_lt_of_le (Heap.lt_size e) I.ok.above))).trans e1⟩
  ·by_cases hj : j = i
   ·subst hj;rw [hi] at e1; cases e1;rw [List.getElem?_set_self hiσ] at e2;cases e2;exact ⟨u, r, .inl ⟨hk, by simp⟩⟩
   ·rw [List.getElem?_set_ne (Ne.symm hj)] at e2;obtain ⟨u', r', q⟩ := hl j y v' e1 e2 e3;refine ⟨u', r', ?_⟩;rcases q with ⟨k, e⟩ | ⟨k, c, e, z⟩
    ·refine .inl ⟨k, ?_⟩;have : y ≠ x := fun e => hj (nodup_ix hN e1 (e ▸ hi));simp [this, e]
    ·exact .inr ⟨k, c, e, z.sameBut hs (cne y c e)⟩
  ·obtain ⟨w', z⟩ := I.cell y c e;exact ⟨w', z.sameBut hs (cne y c e)⟩
  ·obtain ⟨e, n, ne, nf, d⟩ := I.pin p hp;exact ⟨(hs.2 p.1 ne).trans e, n, ne, nf, d⟩
 ·have hfn : X.fn x = true := by
   rcases hf with z | z
   ·exact z
   ·rw [z] at hk; cases hk
  obtain ⟨c, hc⟩ := I.ok.has x (.inl hk);obtain ⟨w', z⟩ := I.cell x c hc;refine wpAny_storeName_cell I.ok.kind hk hc z (fun h' hc' hs => ?_);obtain ⟨oc, hoc, hocd⟩ := id z;refine h { s with heap := h' } ⟨I.ok, I.os, I.bare, ⟨fun b o e n hb hx => ?_, fun b o e n hb hx => ?_, I.base.free, fun b o e hx => ?_, I.base.tups, I.base.frzs, I.base.tbls⟩, ⟨m, hn.sameBut hs (Ne.symm (cne x c hc)), fun j y v' e1 e2 e3 => ?_⟩, fun y c' e => ?_, I.free, I.freeC, fun p hp => ?_, tracked ⟨oc, hoc, I.freeC x c hc⟩ hs, by simpa using I.len⟩ ⟨c, hs, .inr hc⟩
  ·exact (hs.2 b (Nat.ne_of_lt (Nat.lt_of_lt_of_le (Heap.lt_size e) (I.ok.cab x c hfn hc)))).trans (I.base.keep b o e n hb hx)
  ·obtain ⟨sl, e1⟩ := I.base.slot b o e n hb hx;exact ⟨sl, (hs.2 b (Nat.ne_of_lt (Nat.lt_of_lt_of_le (Heap.lt_size e) (I.ok.cab x c hfn hc)))).trans e1⟩
  ·obtain ⟨o', e1⟩ := I.base.there b o e hx;exact ⟨o', (hs.2 b (Nat.ne_of_lt (Nat.lt_of_lt_of_le (Heap.lt_size e) (I.ok.cab x c hfn hc)))).trans e1⟩
  ·by_cases hj : j = i
   ·subst hj;rw [hi] at e1; cases e1;rw [List.getElem?_set_self hiσ] at e2;cases e2;exact ⟨u, r, .inr ⟨.inl hk, c, hc, hc'⟩⟩
   ·rw [List.getElem?_set_ne (Ne.symm hj)] at e2;obtain ⟨u', r', q⟩ := hl j y v' e1 e2 e3;refine ⟨u', r', ?_⟩;rcases q with q | ⟨k, c', e, z'⟩
    ·exact .inl q
    ·refine .inr ⟨k, c', e, z'.sameBut hs ?_⟩;rintro rfl;exact hj (nodup_ix hN e1 (I.ok.inj _ _ _ e hc ▸ hi))
  ·by_cases hcc : c' = c
   ·subst hcc; exact ⟨_, hc'⟩
   ·obtain ⟨w2, z2⟩ := I.cell y c' e;exact ⟨w2, z2.sameBut hs hcc⟩
  ·obtain ⟨e, n, ne, nf, d⟩ := I.pin p hp;refine ⟨(hs.2 p.1 ?_).trans e, n, ne, nf, d⟩;intro q;rw [q, hoc] at e;have q' : oc = p.2 := Option.some.inj e;exact d w' (by rw [<- q']; exact hocd)
theorem store_ok {M : Model} {A : Around} {E : Value -> Shared -> Prop} {i : Nat} {x : Str} {v : V} {u : Value} {Q : Unit -> Shared -> Prop} (I : Inv X pins σ H s) (hN : X.N.Nodup) (hi : X.N[i]? = some x) (hx : Loc X.env.scope x) (r : RelV v u)
  (h : ∀ s', Inv X pins (σ.set i (some v)) H s' -> Q () s') (hf : X.fn x = true ∨ X.env.scope.names.lookup x = some .local := by first | exact .inl rfl | exact .inr rfl | assumption) : wpAny M A (storeName X.env x u) Q E s :=
 store_ok2 I hN hi hx r (fun s' I' _ => h s' I') hf
theorem Inv.call' {s' : Shared} {ch : List Addr} (I : Inv X pins σ H s) (ho : s'.os = s.os) (u : Un (frs X.stack) ch H H' s.heap s'.heap) (hok : HOk X.prog X.w H' s'.heap) (hg : AllBare s'.gens)
  (hch : ∀ b ∈ ch, (b ∈ X.ex ∨ X.s_0.heap.objs.size <= b) /\ b ≠ X.env.locals /\ (∀ x c, X.env.cells.lookup x = some c -> c ≠ b) /\ ∀ p ∈ X.pn ++ pins, p.1 ≠ b) : Inv X pins σ H' s' := by
 obtain ⟨h', g', d', t', o'⟩ := s';have e : o' = s.os := ho;subst e;exact I.call (g' := g') (t' := t') (d' := d') u hok hg hch
end
abbrev XK := Value -> Option Addr -> Hp -> Prop
abbrev St := List (Option V)
abbrev VK := V -> Hp -> Prop
abbrev TE := St -> Hp -> VK -> Prop
abbrev TT := St -> Hp -> (Bool -> Hp -> Prop) -> Prop
abbrev TA := St -> Hp -> (List V -> Hp -> Prop) -> Prop
structure Ends where
 nx : St -> Hp -> Prop
 rt : VK
 bk : St -> Hp -> Prop := fun _ _ => False
 ct : St -> Hp -> Prop := fun _ _ => False
abbrev TS := Ends -> St -> Hp -> Prop
def EP (X : Cx) (pins : List (Addr × Obj)) (σ : St) (Q : VK) (u : Value) (s' : Shared) : Prop := ∃ v H', Inv X pins σ H' s' /\ RelV v u /\ Q v H'
def TP (X : Cx) (pins : List (Addr × Obj)) (σ : St) (Q : Bool -> Hp -> Prop) (b : Bool) (s' : Shared) : Prop := ∃ H', Inv X pins σ H' s' /\ Q b H'
def AP (X : Cx) (pins : List (Addr × Obj)) (σ : St) (Q : List V -> Hp -> Prop) (us : List Value) (s' : Shared) : Prop := ∃ vs H', Inv X pins σ H' s' /\ Vals vs us /\ Q vs H'
def SP (X : Cx) (pins : List (Addr × Obj)) (D : Ends) (f : Flow) (s' : Shared) : Prop :=
 match f with
 | .next => ∃ σ' H', Inv X pins σ' H' s' /\ D.nx σ' H'
 | .brk => ∃ σ' H', Inv X pins σ' H' s' /\ D.bk σ' H'
 | .cont => ∃ σ' H', Inv X pins σ' H' s' /\ D.ct σ' H'
 | .ret u => ∃ v σ' H', Inv X pins σ' H' s' /\ RelV v u /\ D.rt v H'
def PE (X : Cx) (e : Expr) (t : TE) : Prop :=
 ∀ (pins : List (Addr × Obj)) (s : Shared) (σ : St) (H : Hp) (Q : VK), Inv X pins σ H s -> t σ H Q -> wpAny (model X.prog X.w) X.A (eval e X.env) (EP X pins σ Q) X.xe s
def PT (X : Cx) (e : Expr) (t : TT) : Prop :=
 ∀ (pins : List (Addr × Obj)) (s : Shared) (σ : St) (H : Hp) (Q : Bool -> Hp -> Prop), Inv X pins σ H s -> t σ H Q -> wpAny (model X.prog X.w) X.A (isTrue e X.env (eval e X.env)) (TP X pins σ Q) X.xe s
def PW (X : Cx) (e : Expr) (t : TT) : Prop :=
 ∀ (whole : Sem Value) (pins : List (Addr × Obj)) (s : Shared) (σ : St) (H : Hp) (Q : Bool -> Hp -> Prop), Inv X pins σ H s -> t σ H Q -> wpAny (model X.prog X.w) X.A (isTrue e X.env whole) (TP X pins σ Q) X.xe s
theorem PW.pt {X : Cx} {e : Expr} {t : TT} (h : PW X e t) : PT X e t := h _
def PA (X : Cx) (es : List Expr) (t : TA) : Prop :=
 ∀ (pos : Pos) (pins : List (Addr × Obj)) (s : Shared) (σ : St) (H : Hp) (Q : List V -> Hp -> Prop), Inv X pins σ H s -> t σ H Q -> wpAny (model X.prog X.w) X.A (spliced (backTo pos (starEach es X.env))) (AP X pins σ Q) X.xe s
def PS (X : Cx) (st : Stmt) (t : TS) : Prop :=
 ∀ (pins : List (Addr × Obj)) (s : Shared) (σ : St) (H : Hp) (D : Ends), Inv X pins σ H s -> t D σ H -> wpAny (model X.prog X.w) X.A (exec st X.env) (SP X pins D) X.xe s
def PSs (X : Cx) (st : List Stmt) (t : TS) : Prop :=
 ∀ (pins : List (Addr × Obj)) (s : Shared) (σ : St) (H : Hp) (D : Ends), Inv X pins σ H s -> t D σ H -> wpAny (model X.prog X.w) X.A (execs st X.env) (SP X pins D) X.xe s
theorem thn {α : Type} {t : Sem α} {Q Q' : α -> Shared -> Prop} {M : Model} {A : Around} {E : Value -> Shared -> Prop} {s : Shared} (h : wpAny M A t Q E s) (hQ : ∀ a s, Q a s -> Q' a s) : wpAny M A t Q' E s := wpAny_mono h hQ fun _ _ x => x
end L2
namespace L2
open PySem PySem.Spec PyProof.Rows
section
variable {X : Cx}
def tVar (i : Nat) : TE := fun σ H Q => ∃ v, σ[i]? = some (some v) /\ Q v H
def tC (v : V) : TE := fun _ H Q => Q v H
theorem pe_var {i : Nat} {x : Str} {pos : Pos} (hN : X.N[i]? = some x) (hv : Vis X.env.scope x) (hd : (x == ("__debug__" : Str)) = false := by decide) (hcd : (x == ("__classdict__" : Str)) = false := by decide) : PE X (.Name x pos) (tVar i) := by
 intro pins s σ H Q I h;obtain ⟨v, e, h⟩ := h;obtain ⟨m, hn, hl⟩ := I.loc;obtain ⟨u, r, l⟩ := hl i x v hN e hv;have fin : EP X pins σ Q u s := ⟨v, H, I, r, h⟩;rcases l with ⟨hk, hm⟩ | ⟨hk, c, hc, hcell⟩
 ·exact wpAny_Name (wpAny_loadName_local I.ok.kind hk hn hm fin) hd
 ·rcases hk with hk | hk
  ·exact wpAny_Name (wpAny_loadName_cell I.ok.kind hk hc hcell fin) hd
  ·exact wpAny_Name (wpAny_loadName_free I.ok.kind hk hc hcell fin hcd) hd
theorem pe_int {i j pos} : PE X (.Constant (.int i) j pos) (tC (.int i)) := fun _ _ _ H _ I h => wpAny_Constant_int ⟨.int i, H, I.tok _, ⟨_, rfl⟩, h⟩
theorem pe_bl {b j pos} : PE X (.Constant (.bool b) j pos) (tC (.bl b)) := fun _ _ _ H _ I h => Constant_bool ⟨.bl b, H, I, rfl, h⟩
def Gl (X : Cx) (x : Str) : Prop := X.env.kindOf x = some .globalImplicit
theorem ld_glob {E : Value -> Shared -> Prop} {pins : List (Addr × Obj)} {s : Shared} {σ : St} {H : Hp} {x : Str} {u : Value} {pos : Pos} {Q : Value -> Shared -> Prop} (I : Inv X pins σ H s) (hg : Gl X x) (hm : X.mg x = some u) (h : Q u s)
  (hd : (x == ("__debug__" : Str)) = false := by decide) : wpAny (model X.prog X.w) X.A (eval (.Name x pos) X.env) Q E s :=
 Calls.Name_function_global I.ok.kind hg (Calls.loadGlobal_global (by rw [I.ok.glob]; exact I.mod.glob.keeps I.bk) hm h) hd
theorem ld_blt {E : Value -> Shared -> Prop} {pins : List (Addr × Obj)} {s : Shared} {σ : St} {H : Hp} {x : Str} {u : Value} {pos : Pos} {Q : Value -> Shared -> Prop} (I : Inv X pins σ H s) (hg : Gl X x) (hm : X.mg x = none) (hv : bootBuiltins x = some u) (h : Q u s)
  (hn : x ≠ "__name__" := by decide) (hd : (x == ("__debug__" : Str)) = false := by decide) : wpAny (model X.prog X.w) X.A (eval (.Name x pos) X.env) Q E s := by
 obtain ⟨mb, h1, h2⟩ := I.mod.blt;exact Calls.Name_function_global I.ok.kind hg (Calls.loadGlobal_builtin (by rw [I.ok.glob]; exact I.mod.glob.keeps I.bk) hm (by rw [I.ok.blt]; exact h1.keeps I.bk) ((h2 x hn).trans hv) h) hd
theorem pe_glob {x : Str} {v : V} {u : Value} {pos : Pos} (hg : Gl X x) (hm : X.mg x = some u) (r : RelV v u) (hd : (x == ("__debug__" : Str)) = false := by decide) : PE X (.Name x pos) (tC v) :=
 fun _ _ _ H _ I h => ld_glob I hg hm ⟨v, H, I, r, h⟩ hd
variable {a b : Expr} {ta tb : TE} {pos : Pos}
def PC (X : Cx) (op : CmpOp) (a b : Expr) (t : TE) : Prop :=
 ∀ (pins : List (Addr × Obj)) (s : Shared) (σ : St) (H : Hp) (Q : VK), Inv X pins σ H s -> t σ H Q ->
  wpAny (model X.prog X.w) X.A (eval a X.env) (fun v s₁ => wpAny (model X.prog X.w) X.A (eval b X.env) (fun u s₂ => wpAny (model X.prog X.w) X.A (compareOp op v u) (EP X pins σ Q) X.xe s₂) X.xe s₁) X.xe s
def tB (t : TE) : TT := fun σ H Q => t σ H fun x H1 => ∃ c, x = .bl c /\ Q c H1
theorem pe_cmp {op : CmpOp} {t : TE} (h : PC X op a b t) (h1 : behindInMarks op b = false := by first | exact nobehind _ (by decide) (by decide) | rfl) : PE X (.Compare a [op] [b] pos) t := fun pins s σ H Q I hw => wpAny_Compare1 (h pins s σ H Q I hw) h1
theorem pt_cmp {op : CmpOp} {t : TE} (h : PC X op a b t) (h1 : behindInMarks op b = false := by first | exact nobehind _ (by decide) (by decide) | rfl) : PT X (.Compare a [op] [b] pos) (tB t) := by
 intro pins s σ H Q I hw;refine wpAny_isTrue_Compare1 (thn (h pins s σ H _ I hw) fun v s1 h1 => thn h1 fun u s2 h2 => thn h2 fun c s3 ⟨x, H1, I1, r1, q1⟩ => ?_) h1;obtain ⟨d, rfl, q⟩ := q1;cases r1;exact wpAny_truthy_bool ⟨H1, I1, q⟩
theorem pt_val {e : Expr} {t : TE} (h : PE X e t) (he : ∀ whole, isTrue e X.env whole = (do let v <- whole; standAt e.pos; holding [v] (truthy v)) := by intro _; rfl) : PT X e (tB t) := by
 intro pins s σ H Q I hw;refine isTrue_plain (thn (h pins s σ H _ I hw) fun v s1 ⟨x, H1, I1, r1, q1⟩ => ?_) (he _);obtain ⟨d, rfl, q⟩ := q1;cases r1;exact wpAny_truthy_bool ⟨H1, I1, q⟩
variable {tA tB' : TT} {rest : List Expr}
def tOr (t u : TT) : TT := fun σ H Q => t σ H fun c H1 => if c = true then Q true H1 else u σ H1 Q
def tNot (t : TT) : TT := fun σ H Q => t σ H fun c H1 => Q (!c) H1
theorem pw_or1 (ha : PT X a tA) : PW X (.BoolOp .Or [a] pos) tA := by
 intro wh pins s σ H Q I h;refine isTrue_or (thn (ha pins s σ H Q I h) fun c s1 e => ?_);cases c with
 | false => exact isTrue_or_nil e
 | true => exact e
theorem pw_or (ha : PT X a tA) (hb : PW X (.BoolOp .Or (b :: rest) pos) tB') : PW X (.BoolOp .Or (a :: b :: rest) pos) (tOr tA tB') := by
 intro wh pins s σ H Q I h;refine isTrue_or (thn (ha pins s σ H _ I h) fun c s1 ⟨H1, I1, q1⟩ => ?_);cases c with
 | true => exact ⟨H1, I1, q1⟩
 | false => exact hb wh pins s1 σ H1 Q I1 q1
theorem pt_not (ha : PT X a tA) : PT X (.UnaryOp .Not a pos) (tNot tA) := by
 intro pins s σ H Q I h;exact isTrue_not (ha pins s σ H (fun c H1 => Q (!c) H1) I h)
def tAndV (ta tb : TE) : TE := fun σ H Q => ta σ H fun x H1 => ∃ c, x = .bl c /\ if c = true then tb σ H1 Q else Q (.bl false) H1
theorem pe_one {op} {t : TE} (h : PE X a t) : PE X (.BoolOp op [a] pos) t := fun pins s σ H Q I hw => BoolOp_one (h pins s σ H Q I hw)
theorem pe_and (ha : PE X a ta) (hb : PE X (.BoolOp .And (b :: rest) pos) tb) : PE X (.BoolOp .And (a :: b :: rest) pos) (tAndV ta tb) := by
 intro pins s σ H Q I h;refine BoolOp_and (thn (ha pins s σ H _ I h) fun v s1 ⟨x, H1, I1, r1, q1⟩ => ?_);obtain ⟨c, rfl, q1⟩ := q1;cases r1;refine wpAny_truthy_bool ?_;cases c with
 | true => exact hb pins s1 σ H1 Q I1 q1
 | false => exact ⟨.bl false, H1, I1, rfl, q1⟩
end
end L2
namespace L2
open PySem PySem.Spec PyProof.Rows
def SqL (K : PySem.W.Frag) (H : Hp) (a : Addr) (xs : List V) : Prop :=
 Rd H a (.lst xs) ∨
  ∃ (o : Obj) (its : Array Value) (n : Nat), K.lookup a = some o /\ o.cls = .type "list" /\ o.dict = none /\ o.data = .seq its n /\ its.size <= sizeLine /\ Vals xs its.toList
def SqT (K : PySem.W.Frag) (H : Hp) (a : Addr) (xs : List V) : Prop :=
 Rd H a (.tup xs) ∨
  ∃ (o : Obj) (its : Array Value) (n : Nat), K.lookup a = some o /\ o.cls = .type "tuple" /\ o.data = .seq its n /\ its.size <= sizeLine /\ Vals xs its.toList
def absV : Value -> Option V
 | .none => some .non
 | .bool b => some (.bl b)
 | .int i _ => some (.int i)
 | .str x _ => some (.str x)
 | .bytes b _ => some (.byt b)
 | .float b _ => some (.flt b)
 | .ref a => some (.ref a)
 | .type n => some (.ty n)
 | _ => none
theorem RelV.abs {x : V} {u : Value} (r : RelV x u) : absV u = some x := by
 cases x with
 | non => cases r; rfl
 | bl _ => cases r; rfl
 | int _ => obtain ⟨t, rfl⟩ := r; rfl
 | str _ => obtain ⟨t, rfl⟩ := r; rfl
 | byt _ => obtain ⟨t, rfl⟩ := r; rfl
 | flt _ => obtain ⟨t, rfl⟩ := r; rfl
 | ref _ => cases r; rfl
 | ty _ => cases r; rfl
theorem RelV.inj {x y : V} {u : Value} (r : RelV x u) (q : RelV y u) : x = y := Option.some.inj (r.abs.symm.trans q.abs)
theorem Vals.inj : ∀ {xs ys : List V} {us : List Value}, Vals xs us -> Vals ys us -> xs = ys
 | _, _, _, .nil, .nil => rfl
 | _, _, _, .cons r t, .cons r' t' => by rw [r.inj r', Vals.inj t t']
section
variable {X : Cx} {pins : List (Addr × Obj)} {σ : St} {H : Hp} {s : Shared} {a : Addr} {xs ys : List V}
theorem SqL.of {K : PySem.W.Frag} (h : H a = some (.lst xs)) : SqL K H a xs := .inl (.inl h)
theorem SqT.of {K : PySem.W.Frag} (h : H a = some (.tup xs)) : SqT K H a xs := .inl (.inl h)
theorem Inv.list (I : Inv X pins σ H s) (h : SqL X.K H a xs) : ∃ its : List Value, Vals xs its /\ PlainL s.heap a its.toArray /\ xs.length <= sizeLine := by
 rcases h with h | ⟨o, its, n, hk, hc, hd, hs, hz, r⟩
 ·obtain ⟨z, its, n, r, e⟩ := h.ok I.hok;exact ⟨its, r, ⟨_, n, e, rfl, rfl, rfl⟩, z⟩
 ·refine ⟨its.toList, r, ⟨o, n, I.kIn a o hk, hc, hd, by simpa using hs⟩, ?_⟩;have e := r.length;simp only [Array.length_toList] at e;omega
theorem Inv.tuple (I : Inv X pins σ H s) (h : SqT X.K H a xs) : ∃ its : List Value, Vals xs its /\ IsTup s.heap a its.toArray /\ xs.length <= sizeLine := by
 rcases h with h | ⟨o, its, n, hk, hc, hs, hz, r⟩
 ·obtain ⟨z, its, r, p⟩ := h.ok I.hok;exact ⟨its, r, p, z⟩
 ·refine ⟨its.toList, r, ⟨o, I.kIn a o hk, hc, n, by simpa using hs⟩, ?_⟩;have e := r.length;simp only [Array.length_toList] at e;omega
theorem Inv.list_inj (I : Inv X pins σ H s) (h : SqL X.K H a xs) (h' : SqL X.K H a ys) : xs = ys := by
 obtain ⟨its, r, ⟨o, n, e, _, _, d⟩, _⟩ := I.list h;obtain ⟨its', r', ⟨o', n', e', _, _, d'⟩, _⟩ := I.list h';rw [e] at e'; cases e';rw [d] at d';injection d' with d1 _
 have : its = its' := by simpa using congrArg Array.toList d1
 subst this;exact r.inj r'
end
abbrev Cx.wish (X : Cx) (E : Value -> Shared -> Prop) : Cx := { X with xe := E }
abbrev Cx.nox (X : Cx) : Cx := X.wish fun _ _ => False
theorem Cx.Ok.wish {X : Cx} (ok : X.Ok) (E : Value -> Shared -> Prop) : (X.wish E).Ok :=
 ⟨ok.mod, ok.kind, ok.glob, ok.blt, ok.above, ok.inj, ok.has, ok.cab, ok.hd, ok.frames, ok.stk, ok.exf, ok.bs, ok.bsz, ok.noex, ok.exfs, ok.funs, ok.frf⟩
theorem Cx.Ok.unwish {X : Cx} {E : Value -> Shared -> Prop} (ok : (X.wish E).Ok) : X.Ok :=
 ⟨ok.mod, ok.kind, ok.glob, ok.blt, ok.above, ok.inj, ok.has, ok.cab, ok.hd, ok.frames, ok.stk, ok.exf, ok.bs, ok.bsz, ok.noex, ok.exfs, ok.funs, ok.frf⟩
section
variable {X : Cx} {pins : List (Addr × Obj)} {σ : St} {H : Hp} {s : Shared} {E : Value -> Shared -> Prop}
theorem Inv.wish (I : Inv X pins σ H s) (E : Value -> Shared -> Prop) : Inv (X.wish E) pins σ H s := ⟨I.ok.wish E, I.os, I.bare, I.base, I.loc, I.cell, I.free, I.freeC, I.pin, I.hok, I.len⟩
theorem Inv.unwish (I : Inv (X.wish E) pins σ H s) : Inv X pins σ H s := ⟨I.ok.unwish, I.os, I.bare, I.base, I.loc, I.cell, I.free, I.freeC, I.pin, I.hok, I.len⟩
theorem SP.unwish {D : Ends} {f : Flow} {s' : Shared} (h : SP (X.wish E) pins D f s') : SP X pins D f s' := by
 cases f with
 | next => obtain ⟨σ', H', I, q⟩ := h; exact ⟨σ', H', I.unwish, q⟩
 | brk => obtain ⟨σ', H', I, q⟩ := h; exact ⟨σ', H', I.unwish, q⟩
 | cont => obtain ⟨σ', H', I, q⟩ := h; exact ⟨σ', H', I.unwish, q⟩
 | ret u => obtain ⟨v, σ', H', I, r, q⟩ := h; exact ⟨v, σ', H', I.unwish, r, q⟩
theorem PSs.nox {st : List Stmt} {t : TS} (h : PSs X.nox st t) : PSs X st t := fun pins s σ H D I hw =>
 wpAny_mono (h pins s σ H D (I.wish _) hw) (fun _ _ q => q.unwish) fun _ _ z => False.elim z
end
section
variable {X : Cx} {st : Stmt} {rest : List Stmt} {t u : TS} {e : Expr} {te : TE} {pos : Pos}
def tNext : TS := fun D σ H => D.nx σ H
def tSeq (t u : TS) : TS := fun D σ H => t { D with nx := u D } σ H
theorem pss_nil : PSs X [] tNext := fun _ _ σ H _ I h => wpAny_execs_nil ⟨σ, H, I, h⟩
theorem pss_cons (h1 : PS X st t) (h2 : PSs X rest u) : PSs X (st :: rest) (tSeq t u) := by
 intro pins s σ H D I h;refine wpAny_execs_cons (thn (h1 pins s σ H { D with nx := u D } I h) fun f s1 q => ?_)
 cases f with
 | next =>
  obtain ⟨σ', H', I', q⟩ := q;exact h2 pins s1 σ' H' D I' q
 | ret v => exact q
 | brk => exact q
 | cont => exact q
theorem pss_one (h1 : PS X st t) : PSs X [st] t := by
 intro pins s σ H D I h;refine wpAny_execs_cons (thn (h1 pins s σ H D I h) fun f s1 q => ?_);cases f with
 | next => exact wpAny_execs_nil q
 | ret v => exact q
 | brk => exact q
 | cont => exact q
theorem Inv.quiet {pins : List (Addr × Obj)} {σ : St} {H : Hp} {s : Shared} (I : Inv X pins σ H s) : interactive X.env = false := by simp [interactive, I.ok.kind]
def tDrop (te : TE) : TS := fun D σ H => te σ H fun _ H1 => D.nx σ H1
theorem ps_expr (he : PE X e te) (hs : swapsWith e none pos.line X.env = pure false := by rfl) : PS X (.Expr e pos) (tDrop te) := by
 intro pins s σ H D I h;exact wpAny_Expr_any (thn (he pins s σ H _ I h) fun v s1 ⟨x, H1, I1, r1, q1⟩ => ⟨σ, H1, I1, q1⟩) I.quiet hs
def tRet (te : TE) : TS := fun D σ H => te σ H D.rt
theorem ps_ret (he : PE X e te) : PS X (.Return (some e) pos) (tRet te) := by
 intro pins s σ H D I h;exact wpAny_Return_some (thn (he pins s σ H _ I h) fun v s1 ⟨x, H1, I1, r1, q1⟩ => ⟨x, σ, H1, I1, r1, q1⟩)
def tIfS (c : TT) (t u : TS) : TS := fun D σ H => c σ H fun b H1 => if b = true then t D σ H1 else u D σ H1
theorem ps_if {c : Expr} {a b : List Stmt} {tc : TT} (hc : PT X c tc) (ha : PSs X a t) (hb : PSs X b u) : PS X (.If c a b pos) (tIfS tc t u) := by
 intro pins s σ H D I h;refine wpAny_If (thn (hc pins s σ H _ I h) fun d s1 ⟨H1, I1, q1⟩ => ?_);cases d with
 | true => exact ha pins s1 σ H1 D I1 q1
 | false => exact hb pins s1 σ H1 D I1 q1
end
abbrev TG := V -> St -> Hp -> (St -> Hp -> Prop) -> Prop
def PG (X : Cx) (target : Expr) (t : TG) : Prop :=
 ∀ (pins : List (Addr × Obj)) (s : Shared) (σ : St) (H : Hp) (v : V) (u : Value) (Q : St -> Hp -> Prop), Inv X pins σ H s -> RelV v u -> t v σ H Q ->
  wpAny (model X.prog X.w) X.A (assign target X.env u) (fun _ s' => ∃ σ' H', Inv X pins σ' H' s' /\ Q σ' H') X.xe s
abbrev TSet := V -> V -> V -> Hp -> (Hp -> Prop) -> Prop
def PSet (X : Cx) (t : TSet) : Prop :=
 ∀ (pins : List (Addr × Obj)) (s : Shared) (σ : St) (H : Hp) (o i v : V) (ov iv u : Value) (Q : Hp -> Prop), Inv X pins σ H s -> RelV o ov -> RelV i iv -> RelV v u -> t o i v H Q ->
  wpAny (model X.prog X.w) X.A (setItem ov iv u) (fun _ s' => ∃ H', Inv X pins σ H' s' /\ Q H') X.xe s
abbrev TIp := V -> V -> Hp -> VK -> Prop
def PIp (X : Cx) (op : Operator) (t : TIp) : Prop :=
 ∀ (pins : List (Addr × Obj)) (s : Shared) (σ : St) (H : Hp) (x y : V) (v u : Value) (Q : VK), Inv X pins σ H s -> RelV x v -> RelV y u -> t x y H Q ->
  wpAny (model X.prog X.w) X.A (inplaceOp op v u) (EP X pins σ Q) X.xe s
section
variable {X : Cx} {pos : Pos}
def gName (i : Nat) : TG := fun v σ H Q => Q (σ.set i (some v)) H
theorem pg_name {i : Nat} {x : Str} (hN : X.N.Nodup) (hi : X.N[i]? = some x) (hx : Loc X.env.scope x) (hf : X.fn x = true ∨ X.env.scope.names.lookup x = some .local := by first | exact .inl rfl | exact .inr rfl | assumption) : PG X (.Name x pos) (gName i) := by
 intro pins s σ H v u Q I r h;exact wpAny_assign_Name (store_ok I hN hi hx r (fun s' I' => ⟨_, H, I', h⟩) hf)
def gSub (to ti : TE) (t : TSet) : TG := fun v σ H Q => to σ H fun o H1 => ti σ H1 fun i H2 => t o i v H2 fun H3 => Q σ H3
theorem pg_sub {o i : Expr} {to ti : TE} {t : TSet} (ho : PE X o to) (hi : PE X i ti) (hs : PSet X t)
  (ha : ∀ v, assign (.Subscript o i pos) X.env v = (do
   let ov <- holding [v] (eval o X.env)
   let iv <- holding [v, ov] (eval i X.env)
   standAt pos
   holding [v, ov, iv] (setItem ov iv v)
   release [v, ov, iv] []) := by intro _; rfl) : PG X (.Subscript o i pos) (gSub to ti t) := by
 intro pins s σ H v u Q I r h;rw [ha];refine wpAny_bind (wpAny_holding (thn (ho pins s σ H _ I h) fun ov s1 ⟨x, H1, I1, r1, q1⟩ => ?_));refine wpAny_bind (wpAny_holding (thn (hi pins s1 σ H1 _ I1 q1) fun iv s2 ⟨y, H2, I2, r2, q2⟩ => ?_));refine wpAny_bind (wpAny_standAt (wpAny_bind (wpAny_holding (thn (hs pins s2 σ H2 x y v ov iv u _ I2 r1 r2 r q2) fun _ s3 ⟨H3, I3, q3⟩ => ?_))));exact wpAny_release ⟨σ, H3, I3, q3⟩
def tAsg (te : TE) (g : TG) : TS := fun D σ H => te σ H fun x H1 => g x σ H1 D.nx
theorem ps_asg {tg e : Expr} {te : TE} {g : TG} (he : PE X e te) (hg : PG X tg g) (hs : swapsWithSole [tg] e pos.line X.env = pure false := by rfl) (hw : swappedStores [tg] e X.env = pure none := by rfl)
  (h1 : (assignEach [tg] X.env).map (·.2) = [assign tg X.env] := by rfl) : PS X (.Assign [tg] e pos) (tAsg te g) := by
 intro pins s σ H D I h;refine wpAny_Assign_stores (thn (he pins s σ H _ I h) fun v s1 ⟨x, H1, I1, r1, q1⟩ => ?_) hs hw;rw [h1];exact thn (hg pins s1 σ H1 x v _ I1 r1 q1) fun _ s2 q => q
theorem ps_set {i : Nat} {x : Str} {e : Expr} {te : TE} {pos' : Pos} (hN : X.N.Nodup) (hi : X.N[i]? = some x) (hx : Loc X.env.scope x) (he : PE X e te) (hs : swapsWith e (some (.Name x pos')) pos.line X.env = pure false := by rfl) (hf : X.fn x = true ∨ X.env.scope.names.lookup x = some .local := by first | exact .inl rfl | exact .inr rfl | assumption) :
  PS X (.Assign [.Name x pos'] e pos) (tAsg te (gName i)) := by
 intro pins s σ H D I h;refine wpAny_Assign_Name (thn (he pins s σ H _ I h) fun v s1 ⟨y, H1, I1, r1, q1⟩ => ?_) hs;exact store_ok I1 hN hi hx r1 (fun s2 I2 => ⟨_, H1, I2, q1⟩) hf
def tAug (i : Nat) (te : TE) (ti : TIp) : TS := fun D σ H => ∃ x, σ[i]? = some (some x) /\ te σ H fun y H1 => ti x y H1 fun z H2 => D.nx (σ.set i (some z)) H2
theorem ps_aug {i : Nat} {x : Str} {e : Expr} {te : TE} {op : Operator} {ti : TIp} {pos' : Pos} (hN : X.N.Nodup) (hi : X.N[i]? = some x) (hx : Loc X.env.scope x) (he : PE X e te) (ho : PIp X op ti) (hf : X.fn x = true ∨ X.env.scope.names.lookup x = some .local := by first | exact .inl rfl | exact .inr rfl | assumption) :
  PS X (.AugAssign (.Name x pos') op e pos) (tAug i te ti) := by
 intro pins s σ H D I h;obtain ⟨v, e1, h⟩ := h;obtain ⟨m, hn, hl⟩ := I.loc;have vis : Vis X.env.scope x := by rcases hx with k | k; exact .inl k; exact .inr (.inl k)
 obtain ⟨u, r, l⟩ := hl i x v hi e1 vis;refine wpAny_AugAssign_Name ?_;have go : wpAny (model X.prog X.w) X.A (eval e X.env) (fun w s₂ => wpAny (model X.prog X.w) X.A (inplaceOp op u w) (fun r s₃ => wpAny (model X.prog X.w) X.A (storeName X.env x r) (fun _ => SP X pins D .next) X.xe s₃) X.xe s₂) X.xe s := by
  refine thn (he pins s σ H _ I h) fun w s1 ⟨y, H1, I1, r1, q1⟩ => ?_;refine thn (ho pins s1 σ H1 v y u w _ I1 r r1 q1) fun z s2 ⟨zv, H2, I2, r2, q2⟩ => ?_;exact store_ok I2 hN hi hx r2 (fun s3 I3 => ⟨_, H2, I3, q2⟩) hf
 rcases l with ⟨hk, hm⟩ | ⟨hk, c, hc, hcell⟩
 ·exact wpAny_loadName_local I.ok.kind hk hn hm go
 ·rcases hk with hk | hk
  ·exact wpAny_loadName_cell I.ok.kind hk hc hcell go
  ·rcases hx with k | k
   ·have : X.env.scope.names.lookup x = some .free := hk;rw [k] at this; cases this
   ·have : X.env.scope.names.lookup x = some .free := hk;rw [k] at this; cases this
def ipI (f : Int -> Int -> Int) : TIp := fun x y H Q => ∃ i j, x = .int i /\ y = .int j /\ Q (.int (f i j)) H
theorem ip_add : PIp X .Add (ipI fun i j => i + j) := by
 intro pins s σ H x y v u Q I r1 r2 h;obtain ⟨i, j, e1, e2, q⟩ := h;subst e1; subst e2;obtain ⟨t, rfl⟩ := r1;obtain ⟨t', rfl⟩ := r2;exact iadd_int ⟨.int _, H, I.tok _, ⟨_, rfl⟩, q⟩
end
section
variable {X : Cx} {pos : Pos}
def tWhile (c : TT) (tb : TS) : TS := fun D σ H => ∃ W : Nat -> St -> Hp -> Prop, (∃ m, W m σ H) /\ ∀ m σ H, W m σ H ->
 c σ H fun b H1 => if b = true then ∃ N : St -> Hp -> Prop, (∀ σ' H', N σ' H' -> ∃ m', m' < m /\ W m' σ' H') /\ tb { D with nx := N, ct := N, bk := D.nx } σ H1 else D.nx σ H1
theorem ps_while {c : Expr} {body : List Stmt} {tc : TT} {tb : TS} (hp : PassesOwn (model X.prog X.w) X.A X.env X.xe) (hc : PT X c tc) (hb : PSs X body tb) : PS X (.While c body [] pos) (tWhile tc tb) := by
 intro pins s σ H D I h;obtain ⟨W, ⟨m0, w0⟩, turn⟩ := h;refine wpAny_While (codeAny_whileLoop (fun n s' => ∃ σ' H', Inv X pins σ' H' s' /\ W n σ' H') ?_ m0 ⟨σ, H, I, w0⟩);rintro n s1 ⟨σ1, H1, I1, w1⟩;refine wpAny_passesOwn hp (thn (hc pins s1 σ1 H1 _ I1 (turn n σ1 H1 w1)) fun b s2 ⟨H2, I2, q2⟩ => ?_);cases b with
 | true =>
  obtain ⟨N, hN, q2⟩ := q2;rw [if_pos rfl];refine wpAny_passesOwn hp (thn (hb pins s2 σ1 H2 _ I2 q2) fun f s3 q3 => ?_);cases f with
  | next =>
   obtain ⟨σ3, H3, I3, n3⟩ := q3;obtain ⟨m', hm, w3⟩ := hN σ3 H3 n3;exact ⟨m', hm, σ3, H3, I3, w3⟩
  | cont =>
   obtain ⟨σ3, H3, I3, n3⟩ := q3;obtain ⟨m', hm, w3⟩ := hN σ3 H3 n3;exact ⟨m', hm, σ3, H3, I3, w3⟩
  | brk => exact q3
  | ret v => exact q3
 | false =>
  rw [if_neg Bool.false_ne_true];exact wpAny_execs_nil ⟨σ1, H2, I2, q2⟩
end
structure It where
 go : Nat -> Hp -> Prop
 yld : Nat -> Hp -> V -> Hp -> Prop
 stop : Nat -> Hp -> Prop
def FpOk (X : Cx) (pins : List (Addr × Obj)) (H : Hp) (b : Addr) : Prop :=
 H b = none /\ b ≠ X.env.locals /\ b ∉ X.fs /\ (b ∈ X.ex ∨ X.s_0.heap.objs.size <= b) /\ (∀ x c, X.env.cells.lookup x = some c -> c ≠ b) /\ ∀ p ∈ X.pn ++ pins, p.1 ≠ b
theorem Inv.fpOk {X : Cx} {pins : List (Addr × Obj)} {σ : St} {H H' : Hp} {s : Shared} {b : Addr} (I : Inv X pins σ H s) (hb : s.heap.objs.size <= b) (hn : H' b = none) : FpOk X pins H' b := by
 refine ⟨hn, Nat.ne_of_gt (Nat.lt_of_lt_of_le I.lt hb), I.nofs hb, .inr (Nat.le_trans I.sz hb), fun x c e z => ?_, fun p hp z => ?_⟩
 ·obtain ⟨v, q⟩ := I.cell x c e;exact absurd (Nat.lt_of_lt_of_le q.lt (by rw [z]; exact hb)) (Nat.lt_irrefl _)
 ·exact absurd (Nat.lt_of_lt_of_le (Heap.lt_size (I.pin p hp).1) (by rw [z]; exact hb)) (Nat.lt_irrefl _)
structure Turn (P : Program) (w : World) (K : PySem.W.Frag) (tg : Expr) (J : It) (fp : List Addr) (it : Addr) (tn : Nat -> Heap -> Prop) : Prop where
 mem : it ∈ fp
 obj : ∀ i h, tn i h -> ∀ b ∈ fp, ∃ o, h.get? b = some o /\ ∀ v, o.data ≠ .cell v
 keep : ∀ i h h', tn i h -> (∀ b ∈ fp, ∀ o, h.get? b = some o -> h'.get? b = some o) -> tn i h'
 item : ∀ (X : Cx), X.prog = P -> X.w = w -> X.K = K -> X.calm = true -> ∀ (i : Nat) (pins : List (Addr × Obj)) (s : Shared) (σ : St) (H : Hp) (E : Value -> Shared -> Prop), Inv X pins σ H s -> (∀ b ∈ fp, FpOk X pins H b) -> tn i s.heap -> J.go i H ->
  wpAny (model P w) X.A (pyNext (.ref it)) (fun r s1 => ∃ u, r = some u /\
   wpAny (model P w) X.A (letOwnedTupleGo tg (.ref it) u) (fun _ s2 => ∃ x H', Inv X pins σ H' s2 /\ RelV x u /\ J.yld i H x H' /\ tn (i + 1) s2.heap /\ ∀ b ∈ fp, H' b = none) E s1) E s
 done : ∀ (X : Cx), X.prog = P -> X.w = w -> X.K = K -> X.calm = true -> ∀ (i : Nat) (pins : List (Addr × Obj)) (s : Shared) (σ : St) (H : Hp) (E : Value -> Shared -> Prop), Inv X pins σ H s -> (∀ b ∈ fp, FpOk X pins H b) -> tn i s.heap -> J.stop i H ->
  wpAny (model P w) X.A (pyNext (.ref it)) (fun r s1 => r = none /\ Inv X pins σ H s1) E s
 self : ∀ (A : Around) (i : Nat) (s : Shared) (Q : Value -> Shared -> Prop) (E : Value -> Shared -> Prop), tn i s.heap -> Q (.ref it) s -> wpAny (model P w) A (pyIter (.ref it)) Q E s
abbrev TI := St -> Hp -> (It -> Hp -> Prop) -> Prop
def PIE (X : Cx) (pins : List (Addr × Obj)) (σ : St) (tg : Expr) (R : It -> Hp -> Prop) (itv : Value) (s2 : Shared) : Prop :=
 ∃ (it : Addr) (fp : List Addr) (tn : Nat -> Heap -> Prop) (J : It) (H' : Hp), itv = .ref it /\ Inv X pins σ H' s2 /\ Turn X.prog X.w X.K tg J fp it tn /\ tn 0 s2.heap /\ (∀ b ∈ fp, FpOk X pins H' b) /\ R J H'
def PI (X : Cx) (tg iter : Expr) (wi : TI) : Prop :=
 ∀ (pins : List (Addr × Obj)) (s : Shared) (σ : St) (H : Hp) (R : It -> Hp -> Prop), Inv X pins σ H s -> wi σ H R ->
  wpAny (model X.prog X.w) X.A (eval iter X.env) (fun v s1 => wpAny (model X.prog X.w) X.A (pyIter v) (PIE X pins σ tg R) X.xe s1) X.xe s
theorem go_of {M : Model} {A : Around} {E : Value -> Shared -> Prop} {s : Shared} {tg : Expr} {it : Addr} {u : Value} {o : Obj} {n : String} {vs : Array Value} {Q : Unit -> Shared -> Prop} (ho : s.heap.get? it = some o) (hc : o.cls = .type n) (hd : o.data = .fields vs)
  (hn : ["enumerate", "zip", "dict_itemiterator", "dict_reverseitemiterator", "odict_iterator", "itertools.zip_longest", "itertools.pairwise"].contains n = false) (hQ : Q () s) : wpAny M A (letOwnedTupleGo tg (.ref it) u) Q E s := by
 unfold letOwnedTupleGo;cases tg <;> first
  | exact wpAny_pure hQ
  | (cases u <;> first
    | exact wpAny_pure hQ
    | (refine wpAny_bind (wpAny_load ho ?_)
       rw [hc, hd];show wpAny M A (if (["enumerate", "zip", "dict_itemiterator", "dict_reverseitemiterator", "odict_iterator", "itertools.zip_longest", "itertools.pairwise"].contains n && vs[0]? == some (rawInt _)) = true then _ else _) Q E s;rw [if_neg (by intro h; rw [hn, Bool.false_and] at h; cases h)];exact wpAny_pure hQ))
def Itl (K : PySem.W.Frag) (a : Addr) : It :=
 ⟨fun i H => ∃ xs x, SqL K H a xs /\ xs[i]? = some x, fun i H x H' => H' = H /\ ∀ xs, SqL K H a xs -> xs[i]? = some x, fun i H => ∃ xs, SqL K H a xs /\ xs.length <= i⟩
def Itr (lo : Int) (n : Nat) : It := ⟨fun i _ => i < n, fun i H x H' => H' = H /\ x = .int (lo + i), fun i _ => n <= i⟩
theorem turn_list {P : Program} {w : World} {K : PySem.W.Frag} {tg : Expr} (a it : Addr) : Turn P w K tg (Itl K a) [it] it (fun i h => h.IsListIter it a i) where
 mem := by simp
 obj := fun i h st b hb => by
  have e : b = it := by simpa using hb
  subst e;obtain ⟨o, e, c, d⟩ := st;exact ⟨o, e, fun v z => by rw [d] at z; cases z⟩
 keep := fun i h h' st k => st.at fun o e => k it (by simp) o e
 item := by
  intro X hP hw hK hc i pins s σ H E I hf st hg;subst hP hw hK;obtain ⟨xs, x, hq, hx⟩ := hg;obtain ⟨its, rv, p, hz⟩ := I.list hq;obtain ⟨u, hu, ru⟩ := rv.get hx;obtain ⟨f0, f1, f2, f3, f4, f5⟩ := hf it (by simp);refine wpAny_pyNext_list_item st p.isList (x := u) (by simpa using hu) fun h' st' sb => ?_;have I1 : Inv X pins σ H { s with heap := h' } := I.turned (t' := s.toks) (fun b o hb e => (sb.2 b hb).trans e) f0 f1 f3 f4 f5
  obtain ⟨o, e, c, d⟩ := id st';exact ⟨u, rfl, go_of (s := { s with heap := h' }) e c d (by decide) ⟨x, H, I1, ru, ⟨rfl, fun ys hy => by rw [I.list_inj hy hq]; exact hx⟩, st', fun b hb => (hf b hb).1⟩⟩
 done := by
  intro X hP hw hK hc i pins s σ H E I hf st hg;subst hP hw hK;obtain ⟨xs, hq, hx⟩ := hg;obtain ⟨its, rv, p, hz⟩ := I.list hq;obtain ⟨f0, f1, f2, f3, f4, f5⟩ := hf it (by simp);have hl := rv.length;exact wpAny_pyNext_list_end (I.ok.hd hc) st p.isList (by simp; omega) fun h' eb => ⟨rfl, I.turned (t' := s.toks) (fun b o hb e => eb b o hb e) f0 f1 f3 f4 f5⟩
 self := fun _ _ _ _ _ st h => wpAny_pyIter_listiter st h
theorem turn_range {P : Program} {w : World} {K : PySem.W.Frag} {tg : Expr} (it : Addr) (lo : Int) (n : Nat) : Turn P w K tg (Itr lo n) [it] it (fun i h => IsRangeIter h it (lo + (i : Nat) * 1) ((n : Int) - (i : Nat)) 1) where
 mem := by simp
 obj := fun i h st b hb => by
  have e : b = it := by simpa using hb
  subst e;exact ⟨_, st, fun v z => by
   have z' : Data.fields _ = Data.cell v := z;cases z'⟩
 keep := fun i h h' st k => k it (by simp) _ st
 item := by
  intro X hP hw hK hc i pins s σ H E I hf st hg;subst hP hw hK;obtain ⟨f0, f1, f2, f3, f4, f5⟩ := hf it (by simp);have W := Walks.range (prog := X.prog) (w := X.w) (I.ok.hd hc) it lo 1 n;refine W.item i s _ _ hg st fun v h' tk hv st' kk => ?_;obtain ⟨t, rfl⟩ := hv;have I1 : Inv X pins σ H { s with heap := h', toks := tk } := I.turned (fun b o hb e => kk b o (by simpa using hb) e) f0 f1 f3 f4 f5
  refine ⟨_, rfl, go_of (s := { s with heap := h', toks := tk }) (n := "range_iterator") st' rfl rfl (by decide) ⟨.int (lo + i), H, I1, ⟨t, ?_⟩, ⟨rfl, rfl⟩, st', fun b hb => (hf b hb).1⟩⟩
  rw [Int.mul_one]
 done := by
  intro X hP hw hK hc i pins s σ H E I hf st hg;subst hP hw hK;obtain ⟨f0, f1, f2, f3, f4, f5⟩ := hf it (by simp);exact wpAny_pyNext_range_end (I.ok.hd hc) st (by have : n <= i := hg; omega) fun h' eb => ⟨rfl, I.turned (t' := s.toks) (fun b o hb e => eb b o hb e) f0 f1 f3 f4 f5⟩
 self := fun _ _ _ _ _ st h => wpAny_pyIter_rangeiter st h
end L2
namespace L2
open PySem PySem.Spec PyProof.Rows
section
variable {X : Cx} {tg : Expr}
def iList (K : PySem.W.Frag) (tl : TE) : TI := fun σ H R => tl σ H fun x H1 => ∃ a, x = .ref a /\ (∃ xs, SqL K H1 a xs) /\ R (Itl K a) H1
theorem pi_list {l : Expr} {tl : TE} (hl : PE X l tl) : PI X tg l (iList X.K tl) := by
 intro pins s σ H R I h;refine thn (hl pins s σ H _ I h) fun v s1 ⟨x, H1, I1, r1, q1⟩ => ?_;obtain ⟨a, e, ⟨xs, hq⟩, q⟩ := q1;subst e;cases r1;obtain ⟨its, rv, p, hz⟩ := I1.list hq;refine wpAny_pyIter_list p.isList ?_;refine ⟨s1.heap.objs.size, [s1.heap.objs.size], _, _, H1, rfl, I1.kept (t' := s1.toks) fun b o e => Heap.get?_push_of_some _ e, turn_list a _, ⟨_, Heap.get?_push_size _ rfl, rfl, rfl⟩, fun b hb => ?_, q⟩;have e : b = s1.heap.objs.size := by simpa using hb
 subst e;exact I1.fpOk (Nat.le_refl _) (I1.hok.fresh (Nat.le_refl _))
theorem range_it {pins : List (Addr × Obj)} {σ : St} {H : Hp} {s : Shared} {R : It -> Hp -> Prop} {E : Value -> Shared -> Prop} {lo hi : Int} {t u v : Tok} {tk : Nat} (I : Inv X pins σ H s) (h1 : -(2 ^ 62) <= lo) (h2 : lo < 2 ^ 62) (h3 : -(2 ^ 62) <= hi) (h4 : hi < 2 ^ 62)
  (q : R (Itr lo (hi - lo).toNat) H) : wpAny (model X.prog X.w) X.A (pyIter (.ref s.heap.objs.size)) (PIE X pins σ tg R) E { s with heap := s.heap.push { cls := .type "range", data := .fields #[.int lo t, .int hi u, .int 1 v] }, toks := tk } := by
 refine wpAny_pyIter_range (IsRange.new ..) (small_one h1 h2 h3 h4) ?_;have I1 : Inv X pins σ H { s with heap := s.heap.push { cls := .type "range", data := .fields #[.int lo t, .int hi u, .int 1 v] }, toks := tk } := I.kept fun b o e => Heap.get?_push_of_some _ e
 refine ⟨(s.heap.push { cls := .type "range", data := .fields #[.int lo t, .int hi u, .int 1 v] }).objs.size, [(s.heap.push { cls := .type "range", data := .fields #[.int lo t, .int hi u, .int 1 v] }).objs.size], _, _, H, rfl,
  I1.kept (t' := tk) fun b o e => Heap.get?_push_of_some _ e, turn_range _ lo (hi - lo).toNat, ?_, fun b hb => ?_, q⟩
 ·have e1 : lo + ((0 : Nat) : Int) * 1 = lo := by simp
  have e2 : (((hi - lo).toNat : Nat) : Int) - ((0 : Nat) : Int) = Builtin.Range.rangeSize lo hi 1 := by rw [rangeSize_one]; split <;> omega
  show IsRangeIter _ _ (lo + ((0 : Nat) : Int) * 1) ((((hi - lo).toNat : Nat) : Int) - ((0 : Nat) : Int)) 1;rw [e1, e2];exact Heap.get?_push_size _ rfl
 ·have e : b = (s.heap.push { cls := .type "range", data := .fields #[.int lo t, .int hi u, .int 1 v] }).objs.size := by simpa using hb
  subst e;exact I1.fpOk (Nat.le_refl _) (I1.hok.fresh (Nat.le_refl _))
def iRng1 (ta : TA) : TI := fun σ H R => ta σ H fun vs H1 => ∃ j : Int, vs = [.int j] /\ -(2 ^ 62) <= j /\ j < 2 ^ 62 /\ R (Itr 0 j.toNat) H1
theorem pi_range1 {a : Expr} {ta : TA} {p pos : Pos} (hg : Gl X "range") (hm : X.mg "range" = none) (ha : PA X [a] ta) (hs : starEach [a] X.env = [(false, eval a X.env)] := by rfl) : PI X tg (.Call (.Name "range" p) [a] [] pos) (iRng1 ta) := by
 intro pins s σ H R I h;refine Call_ (ld_blt I hg hm boot_range (PyProof.Rows.callWith_type1 (thn (ha pos pins s σ H _ I h) fun us s1 ⟨vs, H1, I1, r1, q1⟩ => ?_) hs rfl));obtain ⟨j, e, q1, q2, q⟩ := q1;subst e;cases r1 with
 | cons r rr =>
  cases rr;obtain ⟨t, rfl⟩ := r;exact call_range_1 (range_it I1 (by omega) (by omega) q1 q2 (by simpa using q))
def tFor (wi : TI) (g : TG) (tb : TS) : TS := fun D σ H => wi σ H fun J H1 => ∃ W : Nat -> Nat -> St -> Hp -> Prop, (∃ m, W 0 m σ H1) /\ ∀ i m σ H, W i m σ H ->
 (J.stop i H /\ D.nx σ H) ∨ (J.go i H /\ ∃ N : St -> Hp -> Prop, (∀ σ' H', N σ' H' -> ∃ m', m' < m /\ W (i + 1) m' σ' H') /\ ∀ x H', J.yld i H x H' -> g x σ H' fun σ2 H2 => tb { D with nx := N, ct := N, bk := D.nx } σ2 H2)
def pinsAt (fp : List Addr) (h : Heap) : List (Addr × Obj) := fp.filterMap fun b => (h.get? b).map fun o => (b, o)
theorem mem_pinsAt {fp : List Addr} {h : Heap} {b : Addr} {o : Obj} (hb : b ∈ fp) (e : h.get? b = some o) : (b, o) ∈ pinsAt fp h := List.mem_filterMap.mpr ⟨b, hb, by rw [e]; rfl⟩
theorem of_pinsAt {fp : List Addr} {h : Heap} {p : Addr × Obj} (hp : p ∈ pinsAt fp h) : p.1 ∈ fp /\ h.get? p.1 = some p.2 := by
 obtain ⟨b, hb, e⟩ := List.mem_filterMap.mp hp;cases q : h.get? b with
 | none => rw [q] at e; cases e
 | some o =>
  rw [q] at e;have e' : (b, o) = p := Option.some.inj e;subst e';exact ⟨hb, q⟩
theorem Inv.pinned {pins : List (Addr × Obj)} {σ : St} {H : Hp} {s : Shared} {fp : List Addr} (I : Inv X pins σ H s) (hf : ∀ b ∈ fp, FpOk X pins H b) (ho : ∀ b ∈ fp, ∃ o, s.heap.get? b = some o /\ ∀ v, o.data ≠ .cell v) : Inv X (pins ++ pinsAt fp s.heap) σ H s :=
 I.pins_of fun p hp => (List.mem_append.mp hp).elim (fun z => I.pin p (List.mem_append_right _ z)) fun z => by
  obtain ⟨hb, e⟩ := of_pinsAt z;obtain ⟨f0, f1, f2, _⟩ := hf p.1 hb;obtain ⟨o, e', d⟩ := ho p.1 hb;rw [e] at e'; cases e';exact ⟨e, f0, f1, f2, d⟩
theorem Inv.unpinned {pins pl : List (Addr × Obj)} {σ : St} {H : Hp} {s : Shared} (I : Inv X (pins ++ pl) σ H s) : Inv X pins σ H s := I.pins_of fun p hp => I.pin p (List.mem_append_right _ (List.mem_append_left _ hp))
theorem ps_for {iter : Expr} {body : List Stmt} {wi : TI} {g : TG} {tb : TS} {pos : Pos} (hp : PassesOwn (model X.prog X.w) X.A X.env X.xe) (hc : X.calm = true) (hi : PI X tg iter wi) (hg : PG X tg g) (hb : PSs X body tb)
  (hs : ∀ x, foldedSetIterable iter X.env x = pure x := by intro _; rfl) : PS X (.For tg iter body [] pos) (tFor wi g tb) := by
 intro pins s σ H D I h;refine wpAny_For (thn (hi pins s σ H _ I h) fun v s1 h1 => thn h1 fun itv s2 h2 => ?_) hs;obtain ⟨it, fp, tn, J, H2, e, I2, T, st2, f2, W, ⟨m0, w0⟩, turn⟩ := h2;subst e
 -- what stays true of the iterator's objects through the loop
 have stat : ∀ {H' : Hp}, (∀ b ∈ fp, H' b = none) -> ∀ b ∈ fp, FpOk X pins H' b := fun hn b hb => ⟨hn b hb, (f2 b hb).2⟩;refine codeAny_forLoop_any (fun n s' => ∃ i σ' H', Inv X pins σ' H' s' /\ tn i s'.heap /\ (∀ b ∈ fp, H' b = none) /\ W i n σ' H') ?_ m0 ⟨0, σ, H2, I2, st2, fun b hb => (f2 b hb).1, w0⟩;rintro n s3 ⟨i, σ3, H3, I3, st3, fr3, w3⟩;rcases turn i n σ3 H3 w3 with ⟨stop, qn⟩ | ⟨go, N, hN, step⟩
 ·refine wpAny_passesOwn hp (thn (T.done X rfl rfl rfl hc i pins s3 σ3 H3 X.xe I3 (stat fr3) st3 stop) fun r s4 ⟨hr, I4⟩ => ?_);subst hr;exact wpAny_execs_nil ⟨σ3, H3, I4, qn⟩
 ·refine wpAny_passesOwn hp (thn (T.item X rfl rfl rfl hc i pins s3 σ3 H3 X.xe I3 (stat fr3) st3 go) fun r s4 ⟨u, hr, h4⟩ => ?_);subst hr;refine wpAny_passesOwn hp (thn h4 fun _ s5 ⟨x, H5, I5, r5, y5, st5, fr5⟩ => ?_);have I5' := I5.pinned (stat fr5) (T.obj _ _ st5);refine wpAny_passesOwn hp (thn (hg _ s5 σ3 H5 x u _ I5' r5 (step x H5 y5)) fun _ s6 ⟨σ6, H6, I6, q6⟩ => ?_);refine wpAny_passesOwn hp (thn (hb _ s6 σ6 H6 _ I6 q6) fun f s7 q7 => ?_);have again : ∀ {σ7 : St} {H7 : Hp}, Inv X (pins ++ pinsAt fp s5.heap) σ7 H7 s7 -> N σ7 H7 -> ∃ m, m < n /\ ∃ i σ' H', Inv X pins σ' H' s7 /\ tn i s7.heap /\ (∀ b ∈ fp, H' b = none) /\ W i m σ' H' := fun {σ7 H7} I7 n7 => by
   obtain ⟨m', hm, w7⟩ := hN σ7 H7 n7;refine ⟨m', hm, i + 1, σ7, H7, I7.unpinned, T.keep _ _ _ st5 fun b hb o e => (I7.pin (b, o) (List.mem_append_right _ (List.mem_append_right _ (mem_pinsAt hb e)))).1, fun b hb => ?_, w7⟩;obtain ⟨o, e, d⟩ := T.obj _ _ st5 b hb;exact (I7.pin (b, o) (List.mem_append_right _ (List.mem_append_right _ (mem_pinsAt hb e)))).2.1
  cases f with
  | next => obtain ⟨σ7, H7, I7, n7⟩ := q7; exact again I7 n7
  | cont => obtain ⟨σ7, H7, I7, n7⟩ := q7; exact again I7 n7
  | brk => obtain ⟨σ7, H7, I7, q7⟩ := q7; exact ⟨σ7, H7, I7.unpinned, q7⟩
  | ret v => obtain ⟨x7, σ7, H7, I7, r7, q7⟩ := q7; exact ⟨x7, σ7, H7, I7.unpinned, r7, q7⟩
end
theorem for_list {K : PySem.W.Frag} {a : Addr} {xs : List V} {g : TG} {tb : TS} {D : Ends} {σ : St} {H : Hp} (Pv : Nat -> St -> Hp -> Prop) (h0 : Pv 0 σ H) (hl : ∀ i σ H, i <= xs.length -> Pv i σ H -> SqL K H a xs)
  (hs : ∀ i x σ H, xs[i]? = some x -> Pv i σ H -> g x σ H fun σ2 H2 => tb { D with nx := Pv (i + 1), ct := Pv (i + 1), bk := D.nx } σ2 H2) (hd : ∀ σ H, Pv xs.length σ H -> D.nx σ H) :
  ∃ W : Nat -> Nat -> St -> Hp -> Prop, (∃ m, W 0 m σ H) /\ ∀ i m σ H, W i m σ H ->
   ((Itl K a).stop i H /\ D.nx σ H) ∨ ((Itl K a).go i H /\ ∃ N : St -> Hp -> Prop, (∀ σ' H', N σ' H' -> ∃ m', m' < m /\ W (i + 1) m' σ' H') /\ ∀ x H', (Itl K a).yld i H x H' -> g x σ H' fun σ2 H2 => tb { D with nx := N, ct := N, bk := D.nx } σ2 H2) := by
 refine ⟨fun i m σ H => m = xs.length - i /\ i <= xs.length /\ Pv i σ H, ⟨xs.length, by simp, Nat.zero_le _, h0⟩, ?_⟩;rintro i m σ H ⟨rfl, hi, p⟩;have q := hl i σ H hi p
 by_cases hlt : i < xs.length
 ·refine .inr ⟨⟨xs, xs[i], q, by simp [hlt]⟩, Pv (i + 1), fun σ' H' p' => ⟨xs.length - (i + 1), by omega, rfl, hlt, p'⟩, fun x H' y => ?_⟩;obtain ⟨e, y⟩ := y;subst e;exact hs i x σ _ (y xs q) p
 ·have e : i = xs.length := by omega
  subst e;exact .inl ⟨⟨xs, q, Nat.le_refl _⟩, hd σ H p⟩
theorem for_range {lo : Int} {n : Nat} {g : TG} {tb : TS} {D : Ends} {σ : St} {H : Hp} (Pv : Nat -> St -> Hp -> Prop) (h0 : Pv 0 σ H)
  (hs : ∀ i σ H, i < n -> Pv i σ H -> g (.int (lo + i)) σ H fun σ2 H2 => tb { D with nx := Pv (i + 1), ct := Pv (i + 1), bk := D.nx } σ2 H2) (hd : ∀ σ H, Pv n σ H -> D.nx σ H) :
  ∃ W : Nat -> Nat -> St -> Hp -> Prop, (∃ m, W 0 m σ H) /\ ∀ i m σ H, W i m σ H ->
   ((Itr lo n).stop i H /\ D.nx σ H) ∨ ((Itr lo n).go i H /\ ∃ N : St -> Hp -> Prop, (∀ σ' H', N σ' H' -> ∃ m', m' < m /\ W (i + 1) m' σ' H') /\ ∀ x H', (Itr lo n).yld i H x H' -> g x σ H' fun σ2 H2 => tb { D with nx := N, ct := N, bk := D.nx } σ2 H2) := by
 refine ⟨fun i m σ H => m = n - i /\ i <= n /\ Pv i σ H, ⟨n, by simp, Nat.zero_le _, h0⟩, ?_⟩;rintro i m σ H ⟨rfl, hi, p⟩
 by_cases hlt : i < n
 ·refine .inr ⟨hlt, Pv (i + 1), fun σ' H' p' => ⟨n - (i + 1), by omega, rfl, hlt, p'⟩, fun x H' y => ?_⟩;obtain ⟨e, y⟩ := y;subst e y;exact hs i σ _ hlt p
 ·have e : i = n := by omega
  subst e;exact .inl ⟨Nat.le_refl _, hd σ H p⟩
end L2
namespace L2
open PySem PySem.Spec PyProof.Rows
abbrev R2 := V -> V -> Hp -> VK -> Prop
def OpR (X : Cx) (f : Value -> Value -> Sem Value) (r : R2) : Prop :=
 ∀ (pins : List (Addr × Obj)) (s : Shared) (σ : St) (H : Hp) (x y : V) (v u : Value) (Q : VK), Inv X pins σ H s -> RelV x v -> RelV y u -> r x y H Q ->
  wpAny (model X.prog X.w) X.A (f v u) (EP X pins σ Q) X.xe s
def UnR (X : Cx) (f : Value -> Sem Value) (r : V -> Hp -> VK -> Prop) : Prop :=
 ∀ (pins : List (Addr × Obj)) (s : Shared) (σ : St) (H : Hp) (x : V) (v : Value) (Q : VK), Inv X pins σ H s -> RelV x v -> r x H Q ->
  wpAny (model X.prog X.w) X.A (f v) (EP X pins σ Q) X.xe s
def CallR (X : Cx) (f : Value) (r : List V -> Hp -> VK -> Prop) : Prop :=
 ∀ (pins : List (Addr × Obj)) (s : Shared) (σ : St) (H : Hp) (xs : List V) (us : List Value) (Q : VK), Inv X pins σ H s -> Vals xs us -> r xs H Q ->
  wpAny (model X.prog X.w) X.A (call f us) (EP X pins σ Q) X.xe s
def tOp (r : R2) (ta tb : TE) : TE := fun σ H Q => ta σ H fun x H1 => tb σ H1 fun y H2 => r x y H2 Q
def tUn (r : V -> Hp -> VK -> Prop) (ta : TE) : TE := fun σ H Q => ta σ H fun x H1 => r x H1 Q
def rI (C : Int -> Int -> Prop) (g : Int -> Int -> V) : R2 := fun x y H Q => ∃ i j, x = .int i /\ y = .int j /\ C i j /\ Q (g i j) H
def rI0 (g : Int -> Int -> V) : R2 := fun x y H Q => ∃ i j, x = .int i /\ y = .int j /\ Q (g i j) H
def rU (g : Int -> V) : V -> Hp -> VK -> Prop := fun x H Q => ∃ i, x = .int i /\ Q (g i) H
section
variable {X : Cx} {a b c : Expr} {ta tb tc : TE} {pos : Pos}
theorem binT (ha : PE X a ta) (hb : PE X b tb) {pins : List (Addr × Obj)} {s : Shared} {σ : St} {H : Hp} {R : V -> V -> Hp -> Prop} (I : Inv X pins σ H s)
  (h : ta σ H fun x H1 => tb σ H1 fun y H2 => R x y H2) {Q : Value -> Shared -> Prop} {f : Value -> Value -> Sem Value}
  (hf : ∀ v u s2 x y H2, Inv X pins σ H2 s2 -> RelV x v -> RelV y u -> R x y H2 -> wpAny (model X.prog X.w) X.A (f v u) Q X.xe s2) :
  wpAny (model X.prog X.w) X.A (eval a X.env) (fun v s₁ => wpAny (model X.prog X.w) X.A (eval b X.env) (fun u s₂ => wpAny (model X.prog X.w) X.A (f v u) Q X.xe s₂) X.xe s₁) X.xe s := by
 refine thn (ha pins s σ H _ I h) fun v s1 ⟨x, H1, I1, r1, q1⟩ => ?_;refine thn (hb pins s1 σ H1 _ I1 q1) fun u s2 ⟨y, H2, I2, r2, q2⟩ => ?_;exact hf v u s2 x y H2 I2 r1 r2 q2
theorem pe_op {op : Operator} {r : R2} (ho : OpR X (binaryOp op) r) (ha : PE X a ta) (hb : PE X b tb) : PE X (.BinOp a op b pos) (tOp r ta tb) := by
 intro pins s σ H Q I h;exact wpAny_BinOp (binT ha hb I h fun v u s2 x y H2 I2 rx ry q => ho pins s2 σ H2 x y v u Q I2 rx ry q)
theorem pe_un {op : UnaryOp} {r : V -> Hp -> VK -> Prop} (ho : UnR X (unaryOp op) r) (ha : PE X a ta) : PE X (.UnaryOp op a pos) (tUn r ta) := by
 intro pins s σ H Q I h;exact UnaryOp_ (thn (ha pins s σ H _ I h) fun v s1 ⟨x, H1, I1, r1, q1⟩ => ho pins s1 σ H1 x v Q I1 r1 q1)
theorem opI {f : Value -> Value -> Sem Value} {C : Int -> Int -> Prop} {g : Int -> Int -> Int}
  (rule : ∀ (i j : Int) (t u : Tok) (s : Shared) (Q : Value -> Shared -> Prop) (E : Value -> Shared -> Prop), C i j -> Q (.int (g i j) s.toks) { s with toks := s.toks + 1 } -> wpAny (model X.prog X.w) X.A (f (.int i t) (.int j u)) Q E s) :
  OpR X f (rI C fun i j => .int (g i j)) := by
 intro pins s σ H x y v u Q I rx ry h;obtain ⟨i, j, rfl, rfl, hc, q⟩ := h;obtain ⟨t, rfl⟩ := rx;obtain ⟨t', rfl⟩ := ry;exact rule i j t t' s _ _ hc ⟨.int (g i j), H, I.tok _, ⟨_, rfl⟩, q⟩
theorem opI0 {f : Value -> Value -> Sem Value} {g : Int -> Int -> Int}
  (rule : ∀ (i j : Int) (t u : Tok) (s : Shared) (Q : Value -> Shared -> Prop) (E : Value -> Shared -> Prop), Q (.int (g i j) s.toks) { s with toks := s.toks + 1 } -> wpAny (model X.prog X.w) X.A (f (.int i t) (.int j u)) Q E s) :
  OpR X f (rI0 fun i j => .int (g i j)) := by
 intro pins s σ H x y v u Q I rx ry h;obtain ⟨i, j, rfl, rfl, q⟩ := h;obtain ⟨t, rfl⟩ := rx;obtain ⟨t', rfl⟩ := ry;exact rule i j t t' s _ _ ⟨.int (g i j), H, I.tok _, ⟨_, rfl⟩, q⟩
theorem opB0 {f : Value -> Value -> Sem Value} {g : Int -> Int -> Bool}
  (rule : ∀ (i j : Int) (t u : Tok) (s : Shared) (Q : Value -> Shared -> Prop) (E : Value -> Shared -> Prop), Q (.bool (g i j)) s -> wpAny (model X.prog X.w) X.A (f (.int i t) (.int j u)) Q E s) :
  OpR X f (rI0 fun i j => .bl (g i j)) := by
 intro pins s σ H x y v u Q I rx ry h;obtain ⟨i, j, rfl, rfl, q⟩ := h;obtain ⟨t, rfl⟩ := rx;obtain ⟨t', rfl⟩ := ry;exact rule i j t t' s _ _ ⟨.bl (g i j), H, I, rfl, q⟩
theorem two_pow_nn (k : Nat) : (0 : Int) <= 2 ^ k := by
 rw [two_pow_cast];exact Int.natCast_nonneg _
theorem op_add : OpR X (binaryOp .Add) (rI0 fun i j => .int (i + j)) := opI0 fun _ _ _ _ _ _ _ q => add_int q
theorem op_sub : OpR X (binaryOp .Sub) (rI0 fun i j => .int (i - j)) := opI0 fun _ _ _ _ _ _ _ q => sub_int q
theorem op_mod : OpR X (binaryOp .Mod) (rI (fun _ j => 0 < j) fun i j => .int (i % j)) := opI fun i j _ _ _ _ _ hc q => by
 have h1 : (0 : Int) < j := hc;exact mod_int' (by omega) (by rw [Int.fmod_eq_emod_of_nonneg i (by omega)]; exact q)
theorem op_shr : OpR X (binaryOp .RShift) (rI (fun _ j => 0 <= j) fun i j => .int (i / 2 ^ j.toNat)) := opI fun i j _ _ _ _ _ hc q =>
 rshift_int hc (by rw [Int.fdiv_eq_ediv_of_nonneg i (two_pow_nn _)]; exact q)
theorem unI {f : Value -> Sem Value} {g : Int -> Int}
  (rule : ∀ (i : Int) (t : Tok) (s : Shared) (Q : Value -> Shared -> Prop) (E : Value -> Shared -> Prop), Q (.int (g i) s.toks) { s with toks := s.toks + 1 } -> wpAny (model X.prog X.w) X.A (f (.int i t)) Q E s) :
  UnR X f (rU fun i => .int (g i)) := by
 intro pins s σ H x v Q I rx h;obtain ⟨i, rfl, q⟩ := h;obtain ⟨t, rfl⟩ := rx;exact rule i t s _ _ ⟨.int (g i), H, I.tok _, ⟨_, rfl⟩, q⟩
theorem un_neg : UnR X (unaryOp .USub) (rU fun i => .int (-i)) := unI fun _ _ _ _ _ q => neg_int q
end
def scal : V -> V -> Bool
 | .non, .non => true | .non, .int _ => true | .int _, .non => true | .non, .bl _ => true | .bl _, .non => true | .non, .str _ => true | .str _, .non => true
 | .int _, .int _ => true | .bl _, .bl _ => true | .str _, .str _ => true | .byt _, .byt _ => true
 | .int _, .str _ => true | .str _, .int _ => true | .bl _, .str _ => true | .str _, .bl _ => true
 | _, _ => false
def rEq : R2 := fun x y H Q => scal x y = true /\ Q (.bl (decide (x = y))) H
def rNe : R2 := fun x y H Q => scal x y = true /\ Q (.bl (!decide (x = y))) H
theorem dec_int {i j : Int} : decide (V.int i = V.int j) = (i == j) := by
 rw [Bool.eq_iff_iff];simp
theorem dec_bl {i j : Bool} : decide (V.bl i = V.bl j) = (i == j) := by
 rw [Bool.eq_iff_iff];simp
theorem dec_str {i j : Str} : decide (V.str i = V.str j) = (i == j) := by
 rw [Bool.eq_iff_iff];simp
theorem dec_byt {i j : Array UInt8} : decide (V.byt i = V.byt j) = (i.toList == j.toList) := by
 rw [Bool.eq_iff_iff];cases i;cases j;simp
section
variable {X : Cx} {a b c : Expr} {ta tb tc : TE} {pos : Pos}
theorem fin_bl {pins : List (Addr × Obj)} {σ : St} {H : Hp} {s : Shared} {Q : VK} {k k' : Bool} (I : Inv X pins σ H s) (q : Q (.bl k) H) (e : k = k') : EP X pins σ Q (.bool k') s := by
 subst e;exact ⟨.bl k, H, I, rfl, q⟩
theorem op_eq : OpR X (compareOp .Eq) rEq := by
 intro pins s σ H x y v u Q I rx ry h;obtain ⟨hs, q⟩ := h;cases x with
 | non =>
  cases rx;cases y with
  | non => cases ry; exact PySem.EqNone.eq_none_none (fin_bl I q (by simp))
  | bl j => cases ry; exact PySem.EqNone.eq_none_bool (fin_bl I q (by simp))
  | int j => obtain ⟨t', rfl⟩ := ry; exact PySem.EqNone.eq_none_int (fin_bl I q (by simp))
  | str j => obtain ⟨t', rfl⟩ := ry; exact PySem.EqNone.eq_none_str (fin_bl I q (by simp))
  | _ => exact absurd (show false = true from hs) Bool.false_ne_true
 | bl i =>
  cases rx;cases y with
  | non => cases ry; exact PySem.EqNone.eq_bool_none (fin_bl I q (by simp))
  | bl j => cases ry; exact eq_bool (fin_bl I q dec_bl)
  | str j => obtain ⟨t', rfl⟩ := ry; exact PySem.EqMixed.eq_bool_str (fin_bl I q (by simp))
  | _ => exact absurd (show false = true from hs) Bool.false_ne_true
 | int i =>
  obtain ⟨t, rfl⟩ := rx;cases y with
  | non => cases ry; exact PySem.EqNone.eq_int_none (fin_bl I q (by simp))
  | int j => obtain ⟨t', rfl⟩ := ry; exact eq_int (fin_bl I q dec_int)
  | str j => obtain ⟨t', rfl⟩ := ry; exact PySem.EqMixed.eq_int_str (fin_bl I q (by simp))
  | _ => exact absurd (show false = true from hs) Bool.false_ne_true
 | str i =>
  obtain ⟨t, rfl⟩ := rx;cases y with
  | non => cases ry; exact PySem.EqNone.eq_str_none (fin_bl I q (by simp))
  | bl j => cases ry; exact PySem.EqMixed.eq_str_bool (fin_bl I q (by simp))
  | int j => obtain ⟨t', rfl⟩ := ry; exact PySem.EqMixed.eq_str_int (fin_bl I q (by simp))
  | str j => obtain ⟨t', rfl⟩ := ry; exact eq_str (fin_bl I q dec_str)
  | _ => exact absurd (show false = true from hs) Bool.false_ne_true
 | byt i =>
  obtain ⟨t, rfl⟩ := rx;cases y with
  | byt j => obtain ⟨t', rfl⟩ := ry; exact PySem.W.eq_bytes (fin_bl I q dec_byt)
  | _ => exact absurd (show false = true from hs) Bool.false_ne_true
 | _ => cases y <;> exact absurd (show false = true from hs) Bool.false_ne_true
theorem op_ne : OpR X (compareOp .NotEq) rNe := by
 intro pins s σ H x y v u Q I rx ry h;obtain ⟨hs, q⟩ := h;cases x with
 | non =>
  cases rx;cases y with
  | non => cases ry; exact PySem.EqNone.ne_none_none (fin_bl I q (by simp))
  | bl j => cases ry; exact PySem.EqNone.ne_none_bool (fin_bl I q (by simp))
  | int j => obtain ⟨t', rfl⟩ := ry; exact PySem.EqNone.ne_none_int (fin_bl I q (by simp))
  | str j => obtain ⟨t', rfl⟩ := ry; exact PySem.EqNone.ne_none_str (fin_bl I q (by simp))
  | _ => exact absurd (show false = true from hs) Bool.false_ne_true
 | bl i =>
  cases rx;cases y with
  | non => cases ry; exact PySem.EqNone.ne_bool_none (fin_bl I q (by simp))
  | bl j => cases ry; exact ne_bool (fin_bl I q (congrArg not dec_bl))
  | str j => obtain ⟨t', rfl⟩ := ry; exact PySem.EqMixed.ne_bool_str (fin_bl I q (by simp))
  | _ => exact absurd (show false = true from hs) Bool.false_ne_true
 | int i =>
  obtain ⟨t, rfl⟩ := rx;cases y with
  | non => cases ry; exact PySem.EqNone.ne_int_none (fin_bl I q (by simp))
  | int j => obtain ⟨t', rfl⟩ := ry; exact ne_int (fin_bl I q (congrArg not dec_int))
  | str j => obtain ⟨t', rfl⟩ := ry; exact PySem.EqMixed.ne_int_str (fin_bl I q (by simp))
  | _ => exact absurd (show false = true from hs) Bool.false_ne_true
 | str i =>
  obtain ⟨t, rfl⟩ := rx;cases y with
  | non => cases ry; exact PySem.EqNone.ne_str_none (fin_bl I q (by simp))
  | bl j => cases ry; exact PySem.EqMixed.ne_str_bool (fin_bl I q (by simp))
  | int j => obtain ⟨t', rfl⟩ := ry; exact PySem.EqMixed.ne_str_int (fin_bl I q (by simp))
  | str j => obtain ⟨t', rfl⟩ := ry; exact ne_str (fin_bl I q (congrArg not dec_str))
  | _ => exact absurd (show false = true from hs) Bool.false_ne_true
 | byt i =>
  obtain ⟨t, rfl⟩ := rx;cases y with
  | byt j => obtain ⟨t', rfl⟩ := ry; exact PySem.W.ne_bytes (fin_bl I q (congrArg not dec_byt))
  | _ => exact absurd (show false = true from hs) Bool.false_ne_true
 | _ => cases y <;> exact absurd (show false = true from hs) Bool.false_ne_true
theorem op_lt : OpR X (compareOp .Lt) (rI0 fun i j => .bl (decide (i < j))) := opB0 fun _ _ _ _ _ _ _ q => lt_int q
theorem op_le : OpR X (compareOp .LtE) (rI0 fun i j => .bl (decide (i <= j))) := opB0 fun _ _ _ _ _ _ _ q => le_int q
theorem op_gt : OpR X (compareOp .Gt) (rI0 fun i j => .bl (decide (j < i))) := opB0 fun _ _ _ _ _ _ _ q => gt_int q
theorem nomark (b : Expr) {op : CmpOp} (h : op ≠ .In := by decide) (h2 : op ≠ .NotIn := by decide) : behindInMarks op b = false := by
 have e1 : (op == CmpOp.In) = false := by cases op <;> first | rfl | exact absurd rfl h
 have e2 : (op == CmpOp.NotIn) = false := by cases op <;> first | rfl | exact absurd rfl h2
 cases b <;> simp [behindInMarks, e1, e2]
theorem pe_cmpR {op : CmpOp} {r : R2} (ho : OpR X (compareOp op) r) (ha : PE X a ta) (hb : PE X b tb) (hm : behindInMarks op b = false) : PE X (.Compare a [op] [b] pos) (tOp r ta tb) := by
 intro pins s σ H Q I h;exact wpAny_Compare1 (binT ha hb I h fun v u s2 x y H2 I2 rx ry q => ho pins s2 σ H2 x y v u Q I2 rx ry q) hm
def tTest (t : TE) : TT := fun σ H Q => t σ H fun x H' => ∃ k, x = .bl k /\ Q k H'
theorem pt_cmpR {op : CmpOp} {r : R2} (ho : OpR X (compareOp op) r) (ha : PE X a ta) (hb : PE X b tb) (hm : behindInMarks op b = false) : PT X (.Compare a [op] [b] pos) (tTest (tOp r ta tb)) := by
 intro pins s σ H Q I h;refine wpAny_isTrue_Compare1 (thn (ha pins s σ H _ I h) fun v s1 ⟨x, H1, I1, r1, q1⟩ => thn (hb pins s1 σ H1 _ I1 q1) fun u s2 ⟨y, H2, I2, r2, q2⟩ =>
  thn (ho pins s2 σ H2 x y v u _ I2 r1 r2 q2) fun c s3 ⟨z, H3, I3, r3, k, e, q3⟩ => ?_) hm
 subst e;cases r3;exact wpAny_truthy_bool ⟨H3, I3, q3⟩
theorem line63 : (sizeLine : Nat) < 2 ^ 63 := by rw [sizeLine_eq]; decide
theorem vals1 {x : V} {us : List Value} (r : Vals [x] us) : ∃ u, us = [u] /\ RelV x u := by
 cases r with
 | cons r1 r2 => cases r2; exact ⟨_, rfl, r1⟩
theorem vals2 {x y : V} {us : List Value} (r : Vals [x, y] us) : ∃ u w', us = [u, w'] /\ RelV x u /\ RelV y w' := by
 cases r with
 | cons r1 r2 =>
  cases r2 with
  | cons r3 r4 => cases r4; exact ⟨_, _, rfl, r1, r3⟩
theorem call_abs : CallR X (.builtin "abs") (fun xs H Q => ∃ i, xs = [.int i] /\ Q (.int (if i < 0 then -i else i)) H) := by
 intro pins s σ H xs us Q I r h;obtain ⟨i, rfl, q⟩ := h;obtain ⟨u, rfl, t, rfl⟩ := vals1 r;exact call_abs_int fun u tk => ⟨.int (if i < 0 then -i else i), H, I.tok _, ⟨_, rfl⟩, q⟩
theorem call_max2 (hc : X.calm = true) : CallR X (.builtin "max") (fun xs H Q => ∃ i j, xs = [.int i, .int j] /\ Q (.int (if j > i then j else i)) H) := by
 intro pins s σ H xs us Q I r h;obtain ⟨i, j, rfl, q⟩ := h;obtain ⟨u, w', rfl, ⟨t, rfl⟩, ⟨t', rfl⟩⟩ := vals2 r;refine max_two_ints (I.ok.hd hc) fun h' tk k => ⟨_, H, I.kept k, ?_, q⟩
 by_cases hj : j > i
 ·rw [if_pos hj, if_pos hj]; exact ⟨_, rfl⟩
 ·rw [if_neg hj, if_neg hj]; exact ⟨_, rfl⟩
theorem call_min2 (hc : X.calm = true) : CallR X (.builtin "min") (fun xs H Q => ∃ i j, xs = [.int i, .int j] /\ Q (.int (if j < i then j else i)) H) := by
 intro pins s σ H xs us Q I r h;obtain ⟨i, j, rfl, q⟩ := h;obtain ⟨u, w', rfl, ⟨t, rfl⟩, ⟨t', rfl⟩⟩ := vals2 r;refine min_two_ints (I.ok.hd hc) fun h' tk k => ⟨_, H, I.kept k, ?_, q⟩
 by_cases hj : j < i
 ·rw [if_pos hj, if_pos hj]; exact ⟨_, rfl⟩
 ·rw [if_neg hj, if_neg hj]; exact ⟨_, rfl⟩
end
end L2
namespace L2
open PySem PySem.Spec PyProof.Rows
structure ObjM (h : Heap) (x dx C : Addr) (mA : Str -> Option Value) : Prop where
 obj : h.get? x = some (PySem.W.instObj C dx)
 ns : h.Ns1 dx mA
 ne : dx ≠ x
theorem lookIn_ns {h : Heap} {dx : Addr} {mA : Str -> Option Value} (n : h.Ns1 dx mA) : ∃ od, h.get? dx = some od /\ ∀ name, PySem.W.lookIn name od = some (mA name) := by
 obtain ⟨o, es, ep, ho, hd, hk, _, hm⟩ := n;refine ⟨o, ho, fun name => ?_⟩;have e := hm name;unfold nsFind findBy at e;rw [<- Array.find?_toList] at e;unfold PySem.W.lookIn;rw [hd];dsimp only
 split
 ·rename_i y q;rw [q] at e;exact congrArg some e
 ·rename_i q;rw [q] at e;have a : es.toList.any (·.refKey) = false := by
   rw [List.any_eq_false];intro y hy;obtain ⟨z, t, hkey⟩ := hk y (Array.mem_toList_iff.mp hy);simp [DictEntry.refKey, hkey]
  have a' : ¬ es.toList.any (·.refKey) = true := by rw [a]; exact Bool.false_ne_true
  rw [if_neg a'];exact congrArg some e
theorem ObjM.look {h : Heap} {x dx C : Addr} {mA : Str -> Option Value} (I : ObjM h x dx C mA) : ∃ od, PySem.W.InstAt h x (PySem.W.instObj C dx) C (some od) /\ ∀ name, PySem.W.lookIn name od = some (mA name) :=
 let ⟨od, ho, hl⟩ := lookIn_ns I.ns
 ⟨od, ⟨I.obj, rfl, rfl, ho⟩, hl⟩
section
variable {prog : Program} {w : World} {A : Around} {E : Value -> Shared -> Prop} {s : Shared} {K : PySem.W.Frag} {x dx C f : Addr} {mA : Str -> Option Value} {name : Str} {v : Value}
theorem get_map {expr : Bool} {Q : Value -> Shared -> Prop} (X : K.In s.heap) (I : ObjM s.heap x dx C mA) (hg : PySem.W.plainGet K C name = true) (hh : PySem.W.hasDictIn K C = true)
  (ha : PySem.W.findIn K (.ref C) name = some none) (hv : mA name = some v) (hv' : PySem.W.handedIn v = true) (h : Q v { s with toks := s.toks + 1 }) :
  wpAny (model prog w) A (getAttr (.ref x) name expr) Q E s := by
 obtain ⟨od, J, hl⟩ := I.look;exact PySem.W.get_value X J (PySem.W.plainGet_of hg).1 (PySem.W.findObj_own hh ha rfl (by rw [hl, hv])) hv' h
theorem get_meth {pl : Sem Bool} {Q : Value × List Value -> Shared -> Prop} (X : K.In s.heap) (I : ObjM s.heap x dx C mA) (hg : PySem.W.plainGet K C name = true)
  (hf : PySem.W.findIn K (.ref C) name = some (some (.ref f))) (ht : PySem.W.isFn K (.ref f) = true) (hv : mA name = none) (h : Q (.ref f, [.ref x]) s) :
  wpAny (model prog w) A (getMethod (.ref x) name pl) Q E s := by
 obtain ⟨od, J, hl⟩ := I.look;exact PySem.W.method_fn X J (PySem.W.plainGet_of hg).1 (PySem.W.plainGet_of hg).2 hf (beq_iff_eq.mp ht) (by show (PySem.W.lookIn name od).map (·.isSome) = some false; rw [hl, hv]; rfl) h
theorem set_map {ns : List Str} {Q : Unit -> Shared -> Prop} (X : K.In s.heap) (I : ObjM s.heap x dx C mA)
  (hs : PySem.W.findIn K (.ref C) "__setattr__" = some (some (.builtin "object.__setattr__"))) (hp : PySem.W.plainOver K C = true) (ht : PySem.W.takerIn K C name = some none) (hh : PySem.W.hasDictIn K C = true)
  (hw : PySem.Within mA ns) (hsz : ns.length <= sizeLine)
  (h : ∀ h', ObjM h' x dx C (fun y => if y = name then some v else mA y) -> Heap.SameBut dx s.heap h' -> Q () { s with heap := h', toks := s.toks + 2 }) :
  wpAny (model prog w) A (setAttr (.ref x) name v) Q E s := by
 obtain ⟨od, J, hl⟩ := I.look;refine PySem.W.set_plain X J hs (PySem.W.osa_open (s := { s with toks := s.toks + 1 }) (r := none) X J hp ht fun b => ?_)
 obtain ⟨cd, hc, hd'⟩ := PySem.W.any_some hh;have hx : s.heap.get? x = some ⟨.ref C, some dx, .plain, #[]⟩ := I.obj;refine wpAny_bind (wpAny_pure (wpAny_bind (wpAny_bind (wpAny_loadPart hx (wpAny_bind (PySem.W.Looks.here (s := { s with toks := s.toks + 1 }) (PySem.W.looks_clsIn X hc) ?_))))))
 rw [hd'];refine wpAny_pure (a := some dx) (wpAny_bind (wpAny_pure (wpAny_bind ?_)));refine wpAny_nsSet1 (s := { s with toks := s.toks + 1 }) I.ns fun h' hn2 hs2 => ?_
 obtain ⟨oD, esD, epD, hoD, hdD, hcD⟩ := hn2.count (PySem.Within.cons name v hw);refine wpAny_bind (wpAny_lookBehind hoD (by rw [hdD]; exact pastItsLine_dict (Nat.le_trans hcD (by rw [List.length_cons]; omega))) ?_);exact wpAny_pure (h _ ⟨(hs2.2 _ (Ne.symm I.ne)).trans I.obj, hn2, I.ne⟩ hs2)
theorem make_map {R : Result -> Shared -> Prop} {vs : List Value} {kw : List (Str × Value)} (X : K.In s.heap) (hm : PySem.W.makesIn K C = true)
  (hi : PySem.W.findIn K (.ref C) "__init__" = some (some (.ref f))) (hf : PySem.W.typeIn K (.ref f) = some (.type "function"))
  (h : codeAny (model prog w) (A.under (.builtin "type.__call__" ⟨.ref C :: vs, kw⟩)) (.call (.ref f) ⟨.ref (s.heap.objs.size + 1) :: vs, kw⟩) (PySem.W.InitBack (s.heap.objs.size + 1) R)
   { s with heap := (s.heap.push PySem.W.emptyDict).push (PySem.W.instObj C s.heap.objs.size) }) :
  codeAny (model prog w) A (.call (.ref C) ⟨vs, kw⟩) R s := by
 obtain ⟨hh, g, d, t, os⟩ := s;exact PySem.W.make_core (PySem.W.makes_of X hm) (PySem.W.looks_findIn X hi) (fun self => PySem.W.bind_fn X self hf) (.inl rfl) h
end
def putF (f : Str) (v : V) : List (Str × V) -> List (Str × V)
 | [] => [(f, v)]
 | (g, x) :: r => if g = f then (g, v) :: r else (g, x) :: putF f v r
theorem lookup_putF (f g : Str) (v : V) : ∀ fs : List (Str × V), (putF f v fs).lookup g = if g = f then some v else fs.lookup g
 | [] => by
  show List.lookup g [(f, v)] = _
  by_cases h : g = f
  ·have hb : (g == f) = true := beq_iff_eq.mpr h;simp only [List.lookup, hb, if_pos h]
  ·have hb : (g == f) = false := beq_eq_false_iff_ne.mpr h;simp only [List.lookup, hb, if_neg h]
 | (k, x) :: r => by
  have ih := lookup_putF f g v r;rw [show putF f v ((k, x) :: r) = (if k = f then (k, v) :: r else (k, x) :: putF f v r) from rfl]
  by_cases hk : k = f
  ·rw [if_pos hk]
   by_cases h : g = k
   ·have hb : (g == k) = true := beq_iff_eq.mpr h;simp only [List.lookup, hb, if_pos (h.trans hk)]
   ·have hb : (g == k) = false := beq_eq_false_iff_ne.mpr h;simp only [List.lookup, hb, if_neg (fun e : g = f => h (e.trans hk.symm))]
  ·rw [if_neg hk]
   by_cases h : g = k
   ·have hb : (g == k) = true := beq_iff_eq.mpr h;simp only [List.lookup, hb, if_neg (fun e : g = f => hk (h.symm.trans e))]
   ·have hb : (g == k) = false := beq_eq_false_iff_ne.mpr h;simp only [List.lookup, hb];exact ih
theorem keys_putF (f : Str) (v : V) : ∀ fs : List (Str × V), f ∈ (putF f v fs).map (·.1) /\ ∀ g, g ∈ fs.map (·.1) -> g ∈ (putF f v fs).map (·.1)
 | [] => ⟨by simp [putF], fun g h => by simp at h⟩
 | (k, x) :: r => by
  obtain ⟨i1, i2⟩ := keys_putF f v r;rw [show putF f v ((k, x) :: r) = (if k = f then (k, v) :: r else (k, x) :: putF f v r) from rfl]
  by_cases hk : k = f
  ·rw [if_pos hk];subst hk;exact ⟨by simp, fun g h => by simpa using h⟩
  ·rw [if_neg hk];refine ⟨?_, fun g h => ?_⟩
   ·rw [List.map_cons];exact List.mem_cons_of_mem _ i1
   ·rw [List.map_cons] at h ⊢;rcases List.mem_cons.mp h with e | e
    ·exact List.mem_cons.mpr (.inl e)
    ·exact List.mem_cons_of_mem _ (i2 g e)
theorem length_putF (f : Str) (v : V) : ∀ fs : List (Str × V), (putF f v fs).length <= fs.length + 1
 | [] => by simp [putF]
 | (k, x) :: r => by
  have ih := length_putF f v r;rw [show putF f v ((k, x) :: r) = (if k = f then (k, v) :: r else (k, x) :: putF f v r) from rfl]
  by_cases hk : k = f
  ·rw [if_pos hk, List.length_cons, List.length_cons]; omega
  ·rw [if_neg hk, List.length_cons, List.length_cons]; omega
theorem RelO.some_of {v : V} {o : Option Value} (r : RelO (some v) o) : ∃ u, o = some u /\ RelV v u := by
 cases o with
 | none => exact (show False from r).elim
 | some u => exact ⟨u, rfl, r⟩
theorem RelO.none_of {o : Option Value} (r : RelO none o) : o = none := by
 cases o with
 | none => rfl
 | some u => exact (show False from r).elim
theorem handed_of {v : V} {u : Value} (r : RelV v u) : PySem.W.handedIn u = true := by
 cases v with
 | non => cases (show u = Value.none from r); rfl
 | bl b => cases (show u = Value.bool b from r); rfl
 | int i => obtain ⟨t, e⟩ := (show ∃ t, u = Value.int i t from r); cases e; rfl
 | str x => obtain ⟨t, e⟩ := (show ∃ t, u = Value.str x t from r); cases e; rfl
 | byt b => obtain ⟨t, e⟩ := (show ∃ t, u = Value.bytes b t from r); cases e; rfl
 | flt b => obtain ⟨t, e⟩ := (show ∃ t, u = Value.float b t from r); cases e; rfl
 | ref a => cases (show u = Value.ref a from r); rfl
 | ty n => cases (show u = Value.type n from r); rfl
section
variable {P : Program} {w : World} {H H' : Hp} {h h' : Heap} {a C dx : Addr} {fs fs' : List (Str × V)}
theorem ins_get (hok : HOk P w H h) (e : H a = some (.ins C dx fs)) : ∃ mA, ObjM h a dx C mA /\ (∀ f, RelO (fs.lookup f) (mA f)) /\ PySem.Within mA (fs.map (·.1)) /\ fs.length <= 1000 /\ H dx = some (.own a) := by
 obtain ⟨d, z, ne, ob, mA, n, r, q⟩ := (show ObjOk P w H h a (.ins C dx fs) from hok a _ e);exact ⟨mA, ⟨ob, n, ne⟩, r, q, z, d⟩
end
structure Cls (K : PySem.W.Frag) (C : Addr) : Prop where
 pg : PySem.W.plainGet K C Str.empty = true
 hd : PySem.W.hasDictIn K C = true
 po : PySem.W.plainOver K C = true
 sa : PySem.W.findIn K (.ref C) "__setattr__" = some (some (.builtin "object.__setattr__"))
theorem Cls.get {K : PySem.W.Frag} {C : Addr} (c : Cls K C) (f : Str) : PySem.W.plainGet K C f = true := c.pg
def NoAttr (K : PySem.W.Frag) (C : Addr) (f : Str) : Prop := PySem.W.findIn K (.ref C) f = some none
theorem NoAttr.taker {K : PySem.W.Frag} {C : Addr} {f : Str} (n : NoAttr K C f) : PySem.W.takerIn K C f = some none := by
 unfold PySem.W.takerIn;rw [show PySem.W.findIn K (.ref C) f = some none from n];rfl
structure Con (K : PySem.W.Frag) (C : Addr) (f : Str) (v : V) (u : Value) : Prop where
 at_ : PySem.W.findIn K (.ref C) f = some (some u)
 rel : RelV v u
 get : PySem.W.specialIn K u "__get__" = some none
 cp : PySem.W.copiedNames.contains f = false
structure Meth (K : PySem.W.Frag) (C : Addr) (m : Str) (f : Addr) : Prop where
 at_ : PySem.W.findIn K (.ref C) m = some (some (.ref f))
 fn : PySem.W.isFn K (.ref f) = true
 kp : PySem.W.keepIn K (.ref f) = true
section
variable {X : Cx} {pins : List (Addr × Obj)} {σ : St} {H : Hp} {s : Shared} {a C dx : Addr} {fs : List (Str × V)} {f : Str} {v : V} {A : Around} {E : Value -> Shared -> Prop}
theorem getattr_ok {b : Bool} {Q : Value -> Shared -> Prop} (I : Inv X pins σ H s) (e : H a = some (.ins C dx fs)) (c : Cls X.K C) (n : NoAttr X.K C f) (l : fs.lookup f = some v)
  (h : ∀ u s', Inv X pins σ H s' -> RelV v u -> Q u s') : wpAny (model X.prog X.w) A (getAttr (.ref a) f b) Q E s := by
 obtain ⟨mA, O, r, _, _, _⟩ := ins_get I.hok e;obtain ⟨u, hu, ru⟩ := RelO.some_of (v := v) (o := mA f) (by rw [<- l]; exact r f);exact get_map I.kIn O (c.get f) c.hd n hu (handed_of ru) (h u _ (I.tok _) ru)
theorem getmeth_ok {m : Str} {g : Addr} {pl : Sem Bool} {Q : Value × List Value -> Shared -> Prop} (I : Inv X pins σ H s) (e : H a = some (.ins C dx fs)) (c : Cls X.K C) (k : Meth X.K C m g) (l : fs.lookup m = none)
  (h : Q (.ref g, [.ref a]) s) : wpAny (model X.prog X.w) A (getMethod (.ref a) m pl) Q E s := by
 obtain ⟨mA, O, r, _, _, _⟩ := ins_get I.hok e;have hn : mA m = none := RelO.none_of (by rw [<- l]; exact r m);exact get_meth I.kIn O (c.get m) k.at_ k.fn hn h
theorem setattr_ok {y : V} {u : Value} {Q : Unit -> Shared -> Prop} (I : Inv X pins σ H s) (e : H a = some (.ins C dx fs)) (c : Cls X.K C) (n : NoAttr X.K C f) (hl : fs.length < 1000) (ry : RelV y u)
  (h : ∀ s', Inv X pins σ (upd H a (.ins C dx (putF f y fs))) s' -> Q () s') : wpAny (model X.prog X.w) A (setAttr (.ref a) f u) Q E s := by
 obtain ⟨mA, O, r, wi, _, ho⟩ := ins_get I.hok e;have hz : (fs.map (·.1)).length <= sizeLine := by rw [List.length_map, sizeLine_eq]; omega
 refine set_map I.kIn O c.sa c.po n.taker c.hd wi hz fun h' O' sb => h _ ?_;have hd : ∃ o, h'.get? dx = some o := let ⟨o, _, _, e', _⟩ := O'.ns; ⟨o, e'⟩;refine I.write (x := a) (e := dx) (by rw [e]; exact True.intro) (.inr ho) (fun b q hb z => (sb.2 b hb).trans z) hd ?_;refine ⟨by rw [upd_ne O.ne]; exact ho, ?_, O.ne, O'.obj, _, O'.ns, fun g => ?_, fun g hg => ?_⟩
 ·have := length_putF f y fs; omega
 ·show RelO ((putF f y fs).lookup g) (if g = f then some u else mA g);rw [lookup_putF]
  by_cases q : g = f
  ·rw [if_pos q, if_pos q]; exact ry
  ·rw [if_neg q, if_neg q]; exact r g
 ·by_cases q : g = f
  ·rw [q]; exact (keys_putF f y fs).1
  ·refine (keys_putF f y fs).2 g (wi g fun z => hg ?_);show (if g = f then some u else mA g) = none;rw [if_neg q]; exact z
theorem Inv.made (I : Inv X pins σ H s) : Inv X pins σ (upd (upd H s.heap.objs.size (.own (s.heap.objs.size + 1))) (s.heap.objs.size + 1) (.ins C s.heap.objs.size []))
  { s with heap := (s.heap.push PySem.W.emptyDict).push (PySem.W.instObj C s.heap.objs.size) } := by
 have e1 : (s.heap.push PySem.W.emptyDict).get? s.heap.objs.size = some PySem.W.emptyDict := Heap.get?_push_size s.heap rfl;have e2 : ((s.heap.push PySem.W.emptyDict).push (PySem.W.instObj C s.heap.objs.size)).get? (s.heap.objs.size + 1) = some (PySem.W.instObj C s.heap.objs.size) := by
  have := Heap.get?_push_size (s.heap.push PySem.W.emptyDict) (o := PySem.W.instObj C s.heap.objs.size) rfl
  rwa [Heap.size_push] at this
 have e3 : (s.heap.push PySem.W.emptyDict).Ns s.heap.objs.size (fun _ => none) := ⟨PySem.W.emptyDict, #[], _, e1, rfl, (fun e he => absurd he (by simp)), fun _ => rfl⟩;have I1 := I.laid (a := s.heap.objs.size) (o := .own (s.heap.objs.size + 1)) (h' := s.heap.push PySem.W.emptyDict) (t' := s.toks) (fun b u q => Heap.get?_push_of_some _ q) (Nat.le_refl _) ⟨_, e1⟩;refine I1.laid (a := s.heap.objs.size + 1) (o := .ins C s.heap.objs.size []) (t' := s.toks) (fun b u q => Heap.get?_push_of_some _ q) (Nat.le_of_eq (Heap.size_push _ _)) ?_;have ne : s.heap.objs.size ≠ s.heap.objs.size + 1 := Nat.ne_of_lt (Nat.lt_succ_self _);refine ⟨by rw [upd_ne ne, upd_same], Nat.zero_le _, ne, e2, fun _ => none, (Heap.Ns1.of_empty e3).at fun o q => Heap.get?_push_of_some _ q, fun _ => True.intro, fun y hy => absurd rfl hy⟩
theorem attr_of {prog : Program} {w : World} {env : Env} {e : Expr} {f : Str} {pos : Pos} {s : Shared} {Q : Value -> Shared -> Prop} (hb : attributeBase e f env (eval e env) = eval e env)
  (h : wpAny (model prog w) A (eval e env) (fun o s₁ => wpAny (model prog w) A (getAttr o f true) Q E s₁) E s) : wpAny (model prog w) A (eval (.Attribute e f pos) env) Q E s :=
 Attribute_any_ h (by rw [arm_eval_Attribute, hb])
end
def tFld (K : PySem.W.Frag) (ta : TE) (f : Str) : TE := fun σ H Q => ta σ H fun x H1 => ∃ a C dx fs v, x = .ref a /\ H1 a = some (.ins C dx fs) /\ Cls K C /\ NoAttr K C f /\ fs.lookup f = some v /\ Q v H1
def sFld (K : PySem.W.Frag) (ta tv : TE) (f : Str) : TS := fun D σ H => tv σ H fun y H1 => ta σ H1 fun x H2 => ∃ a C dx fs, x = .ref a /\ H2 a = some (.ins C dx fs) /\ Cls K C /\ NoAttr K C f /\ fs.length < 1000 /\
 D.nx σ (upd H2 a (.ins C dx (putF f y fs)))
section
variable {X : Cx} {o e value : Expr} {f : Str} {pos pos' tpos : Pos} {ta tv : TE}
theorem pe_fld (he : PE X e ta) (hb : attributeBase e f X.env (eval e X.env) = eval e X.env) : PE X (.Attribute e f pos) (tFld X.K ta f) := by
 intro pins s σ H Q I h;refine attr_of hb (thn (he pins s σ H _ I h) fun u s1 ⟨x, H1, I1, rx, a, C, dx, fs, v, ex, ea, c, n, l, q⟩ => ?_);subst ex;obtain rfl : u = Value.ref a := rx;exact getattr_ok I1 ea c n l fun u' s2 I2 ru => ⟨v, H1, I2, ru, q⟩
theorem ps_fld (ha : PE X o ta) (hv : PE X value tv) (hs : swapsWith value (some (.Attribute o f pos')) pos.line X.env = pure false) : PS X (.Assign [.Attribute o f pos'] value pos) (sFld X.K ta tv f) := by
 intro pins s σ H D I h;refine plainObj_wpAny_Assign_Attribute (thn (hv pins s σ H _ I h) fun u s1 ⟨y, H1, I1, ry, q⟩ => thn (ha pins s1 σ H1 _ I1 q) fun ov s2 ⟨x, H2, I2, rx, a, C, dx, fs, ex, ea, c, n, l, q2⟩ => ?_) hs;subst ex;obtain rfl : ov = Value.ref a := rx;exact setattr_ok I2 ea c n l ry fun s3 I3 => ⟨σ, _, I3, q2⟩
end
section
variable {X : Cx} {pins : List (Addr × Obj)} {σ : St} {H : Hp} {s : Shared} {A : Around} {E : Value -> Shared -> Prop} {Q : Value -> Shared -> Prop} {c : Value} {b : Bool}
inductive TyOf (K : PySem.W.Frag) (H : Hp) : V -> Value -> Prop where
 | non : TyOf K H .non (.type "NoneType")
 | bl (x : Bool) : TyOf K H (.bl x) (.type "bool")
 | int (i : Int) : TyOf K H (.int i) (.type "int")
 | str (x : Str) : TyOf K H (.str x) (.type "str")
 | flt (x : UInt64) : TyOf K H (.flt x) (.type "float")
 | lst {a : Addr} {xs : List V} (e : H a = some (.lst xs)) : TyOf K H (.ref a) (.type "list")
 | frz {a : Addr} {o : Obj} {xs : List V} (e : H a = some (.frz o (.lst xs))) : TyOf K H (.ref a) (.type "list")
 | tup {a : Addr} {xs : List V} (e : H a = some (.tup xs)) : TyOf K H (.ref a) (.type "tuple")
 | dK {a : Addr} {kvs : List (Key × V)} (e : H a = some (.dK kvs)) : TyOf K H (.ref a) (.type "dict")
 | dT {a : Addr} {kvs : List (List Key × V)} (e : H a = some (.dT kvs)) : TyOf K H (.ref a) (.type "dict")
 | ins {a C dx : Addr} {fs : List (Str × V)} (e : H a = some (.ins C dx fs)) (cl : Cls K C) (ha : PySem.W.findIn K (.ref C) "__class__" = some (some (.builtin "object.__class__")))
   (hn : PySem.W.specialIn K (.builtin "object.__class__") "__get__" = some (some (.builtin "getset_descriptor.__get__"))) (htk : PySem.W.takesIn K (.builtin "object.__class__") = some true)
   (hm : PySem.W.mroIn K C (.type "object") = some true) : TyOf K H (.ref a) (.ref C)
end
end L2
namespace L2
open PySem PySem.Spec PyProof.Rows
structure Room (k : Nat) (A : Around) : Prop where
 hd : A.handled = none
 dp : A.depth + 3 * k + 5 < recursionLimit
 un : A.units + 16 * k + 200 < cLine
theorem Room.mono {j k : Nat} {A : Around} (r : Room k A) (h : j <= k) : Room j A := ⟨r.hd, by have := r.dp; omega, by have := r.un; omega⟩
theorem Room.deeper {k : Nat} {A : Around} (r : Room (k + 1) A) (env : Env) : Room k (A.deeper env) :=
 ⟨r.hd, by have := r.dp; show A.depth + 1 + 3 * k + 5 < _; omega, by have := r.un; show A.units + 3 + 16 * k + 200 < _; omega⟩
theorem make_depth {A : Around} {C : Addr} {us : List Value} {kw : List (Str × Value)} : (A.under (.builtin "type.__call__" ⟨.ref C :: us, kw⟩)).depth = A.depth + 1 := by
 first | rfl | simp [Around.under, Code.weight, Code.isCreation, Code.isGuard, Code.isCaller, Code.frames, Code.isFrame, guardIds]
theorem make_units {A : Around} {C : Addr} {us : List Value} {kw : List (Str × Value)} : (A.under (.builtin "type.__call__" ⟨.ref C :: us, kw⟩)).units = A.units + 1 := by
 first | rfl | simp [Around.under, Code.cUnits, Code.frames, Code.isFrame]
theorem Room.make {k : Nat} {A : Around} (r : Room (k + 1) A) (C : Addr) (us : List Value) (kw : List (Str × Value)) : Room k (A.under (.builtin "type.__call__" ⟨.ref C :: us, kw⟩)) :=
 ⟨r.hd, by have := r.dp; rw [make_depth]; omega, by have := r.un; rw [make_units]; omega⟩
theorem Room.depth {k : Nat} {A : Around} (r : Room k A) : A.depth < recursionLimit := by have := r.dp; omega
theorem Room.units {k : Nat} {A : Around} (r : Room k A) : A.units + 64 < cLine := by have := r.un; omega
def tNil : TA := fun _ H Q => Q [] H
def tCons (ta : TE) (tr : TA) : TA := fun σ H Q => ta σ H fun x H1 => tr σ H1 fun xs H2 => Q (x :: xs) H2
section
variable {X : Cx} {e : Expr} {es : List Expr} {te : TE} {t : TA} {pos : Pos}
theorem pa_nil : PA X [] tNil := fun _ _ _ _ H Q I h => Calls.spliced_nil ⟨[], H, I, .nil, h⟩
theorem pa_cons (ha : PE X e te) (hr : PA X es t) (hs : starEach (e :: es) X.env = (false, eval e X.env) :: starEach es X.env := by rfl) : PA X (e :: es) (tCons te t) := by
 intro pos pins s σ H Q I h;rw [hs];show wpAny _ _ (spliced ((false, eval e X.env) :: backTo pos (starEach es X.env))) _ _ s;refine Calls.spliced_cons (thn (ha pins s σ H _ I h) fun u s1 ⟨x, H1, I1, r1, q1⟩ => ?_);exact thn (hr pos pins s1 σ H1 _ I1 q1) fun us s2 ⟨xs, H2, I2, r2, q2⟩ => ⟨x :: xs, H2, I2, .cons r1 r2, q2⟩
def tTup (t : TA) : TE := fun σ H Q => t σ H fun xs H1 => xs.length <= sizeLine /\ ∀ p, H1 p = none -> Q (.ref p) (upd H1 p (.tup xs))
def tLst (t : TA) : TE := fun σ H Q => t σ H fun xs H1 => xs.length <= sizeLine /\ ∀ p, H1 p = none -> Q (.ref p) (upd H1 p (.lst xs))
theorem pe_tup {x1} (h : PA X es t) : PE X (.Tuple es x1 pos) (tTup t) := by
 intro pins s σ H Q I hq;refine wpAny_Tuple_spliced (thn (h pos pins s σ H _ I hq) fun us s1 ⟨xs, H1, I1, r, z, q⟩ => ⟨by rw [<- r.length]; exact z, ?_⟩);have hf : H1 s1.heap.objs.size = none := I1.hok.fresh (Nat.le_refl _);refine ⟨.ref s1.heap.objs.size, upd H1 s1.heap.objs.size (.tup xs), I1.laid (t' := s1.toks) (fun b u e => Heap.get?_push_of_some _ e) (Nat.le_refl _) ?_, rfl, q _ hf⟩;exact ⟨z, us, r, ⟨_, Heap.get?_push_size _ rfl, rfl, _, rfl⟩⟩
theorem pe_lst (h : PA X es t) : PE X (.List es pos) (tLst t) := by
 intro pins s σ H Q I hq;refine wpAny_List_spliced (thn (h pos pins s σ H _ I hq) fun us s1 ⟨xs, H1, I1, r, z, q⟩ => ⟨by rw [<- r.length]; exact z, ?_⟩);have hf : H1 s1.heap.objs.size = none := I1.hok.fresh (Nat.le_refl _);refine ⟨.ref s1.heap.objs.size, upd H1 s1.heap.objs.size (.lst xs), I1.laid (t' := s1.toks) (fun b u e => Heap.get?_push_of_some _ e) (Nat.le_refl _) ?_, rfl, q _ hf⟩;exact ⟨z, us, 0, r, Heap.get?_push_size _ rfl⟩
end
abbrev Sp := List V -> Hp -> VK -> XK -> Prop
abbrev CXT := List Env -> Hp -> Shared -> XK -> Value -> Shared -> Prop
structure Env0 (P : Program) (w : World) (K : PySem.W.Frag) (mg : Str -> Option Value) (base : Heap) (A : Around) (outer : List Env) (s : Shared) (H : Hp) : Prop where
 frames : A.frames = some outer
 mod : Mod K mg base
 bs : ∀ b o, base.get? b = some o -> s.heap.get? b = some o /\ H b = none
 bsz : base.objs.size <= s.heap.objs.size
 funs : s.heap.FunFrames base outer
 frf : ∀ b ∈ frs outer, H b = none
 hok : HOk P w H s.heap
 bare : AllBare s.gens
def CE (outer : List Env) (P : Program) (w : World) (H : Hp) (s : Shared) (Q : VK) (u : Value) (s' : Shared) : Prop :=
 ∃ v H', s'.os = s.os /\ AllBare s'.gens /\ Un (frs outer) [] H H' s.heap s'.heap /\ HOk P w H' s'.heap /\ RelV v u /\ Q v H'
def CR (CX : CXT) (outer : List Env) (P : Program) (w : World) (H : Hp) (s : Shared) (Q : VK) (E : XK) (r : Result) (s' : Shared) : Prop :=
 match r with
 | .ok (.ret u) => CE outer P w H s Q u s'
 | .ok _ => False
 | .error e => CX outer H s E e s'
structure FnOk (P : Program) (w : World) (K : PySem.W.Frag) (mg : Str -> Option Value) (base : Heap) (CX : CXT) (k : Nat) (f : Addr) (fd : FuncData) (ps : List Str) (sp : Sp) : Prop where
 len : ∀ vs H Q E, sp vs H Q E -> vs.length = ps.length
 run : ∀ (A : Around) (outer : List Env) (s : Shared) (H : Hp) (args : Args) (us : List Value) (vs : List V) (Q : VK) (E : XK), Room k A -> Env0 P w K mg base A outer s H -> BindsTo s fd args (ps.zip us) -> Vals vs us -> sp vs H Q E ->
  codeAny (model P w) A (.call (.ref f) args) (CR CX outer P w H s Q E) s
theorem Env0.make {P : Program} {w : World} {K : PySem.W.Frag} {mg : Str -> Option Value} {base : Heap} {A : Around} {outer : List Env} {s : Shared} {H : Hp} (e : Env0 P w K mg base A outer s H) (C : Addr) (us : List Value) (kw : List (Str × Value)) :
  Env0 P w K mg base (A.under (.builtin "type.__call__" ⟨.ref C :: us, kw⟩)) outer s H := ⟨by first | exact e.frames | (simpa [Around.under, Code.envs, Code.isFrame, pushEnvs] using e.frames), e.mod, e.bs, e.bsz, e.funs, e.frf, e.hok, e.bare⟩
section
variable {X : Cx} {pins : List (Addr × Obj)} {σ : St} {H : Hp} {s s' : Shared}
theorem Inv.env0 (I : Inv X pins σ H s) : Env0 X.prog X.w X.K X.mg X.base X.A X.stack s H :=
 ⟨I.ok.frames, I.ok.mod, I.bs, Nat.le_trans I.ok.bsz I.sz, I.stack, I.stkFree, I.hok, I.bare⟩
theorem Inv.after {Q : VK} {u : Value} (I : Inv X pins σ H s) (h : CE X.stack X.prog X.w H s Q u s') : EP X pins σ Q u s' := by
 obtain ⟨v, H', os, bare, un, hok, r, q⟩ := h;obtain ⟨hh, g, d, t, os'⟩ := s';obtain rfl : os' = s.os := os;exact ⟨v, H', I.call (h' := hh) (g' := g) (d' := d) (t' := t) (ch := []) un hok bare (fun b z => absurd z (by simp)), r, q⟩
end
def tCall (sp : Sp) (dvs : List V) (E : XK) (t : TA) : TE := fun σ H Q => t σ H fun vs H1 => sp (vs ++ dvs) H1 Q E
def tMeth (C : Addr) (m : Str) (sp : Sp) (dvs : List V) (E : XK) (ta : TE) (t : TA) : TE := fun σ H Q => ta σ H fun x H1 => ∃ a dx fs, x = .ref a /\ H1 a = some (.ins C dx fs) /\ fs.lookup m = none /\
 t σ H1 fun vs H2 => sp (x :: (vs ++ dvs)) H2 Q E
def tMake (C : Addr) (sp : Sp) (dvs : List V) (E : XK) (t : TA) : TE := fun σ H Q => t σ H fun vs H1 => ∀ x dx, H1 x = none -> H1 dx = none -> dx ≠ x ->
 sp (.ref x :: (vs ++ dvs)) (upd (upd H1 dx (.own x)) x (.ins C dx [])) (fun v H2 => v = .non /\ Q (.ref x) H2) E
def Binds (K : PySem.W.Frag) (fd : FuncData) (ps : List Str) (ds : List Value) : Prop :=
 ∀ (s : Shared) (us : List Value), K.In s.heap -> (us ++ ds).length = ps.length -> BindsTo s fd ⟨us, []⟩ (ps.zip (us ++ ds))
theorem Binds.all {K : PySem.W.Frag} {fd : FuncData} {ps : List Str} (h : ∀ us : List Value, us.length = ps.length -> bindArgs fd ⟨us, []⟩ = pure (ps.zip us)) : Binds K fd ps [] := fun s us _ hl => by
 rw [List.append_nil] at hl ⊢;exact .of_eq (h us hl)
def Passes (CX : CXT) (X : Cx) (E : XK) : Prop := ∀ (pins : List (Addr × Obj)) (σ : St) (H : Hp) (s : Shared) (e : Value) (s' : Shared), Inv X pins σ H s -> CX X.stack H s E e s' -> X.xe e s'
section
variable {X : Cx} {CX : CXT} {k : Nat} {f C : Addr} {fd : FuncData} {ps : List Str} {sp : Sp} {dvs : List V} {ds : List Value} {E : XK} {x m : Str} {p pos apos : Pos} {e o : Expr} {es : List Expr} {ta : TE} {t : TA}
theorem run_fn {pins : List (Addr × Obj)} {σ : St} {H : Hp} {s : Shared} {Q : VK} {us : List Value} {vs : List V} (F : FnOk X.prog X.w X.K X.mg X.base CX k f fd ps sp) (hr : Room k X.A) (hb : Binds X.K fd ps ds) (hd : Vals dvs ds) (hx : Passes CX X E)
  (I : Inv X pins σ H s) (r : Vals vs us) (h : sp (vs ++ dvs) H Q E) : wpAny (model X.prog X.w) X.A (call (.ref f) us) (EP X pins σ Q) X.xe s := by
 have r2 : Vals (vs ++ dvs) (us ++ ds) := r.append hd;have hl : (us ++ ds).length = ps.length := by rw [<- r2.length]; exact F.len _ _ _ _ h
 refine wpAny_call (codeAny_mono (F.run X.A X.stack s H ⟨us, []⟩ (us ++ ds) (vs ++ dvs) Q E hr I.env0 (hb s us I.kIn hl) r2 h) fun r s' hq => ?_);cases r with
 | error e => exact hx pins σ H s e s' I hq
 | ok fl =>
  cases fl with
  | ret u => exact I.after hq
  | next => exact False.elim hq
  | brk => exact False.elim hq
  | cont => exact False.elim hq
theorem pe_call (F : FnOk X.prog X.w X.K X.mg X.base CX k f fd ps sp) (hr : Room k X.A) (hg : Gl X x) (hm : X.mg x = some (.ref f)) (hk : PySem.W.keepIn X.K (.ref f) = true) (hb : Binds X.K fd ps ds) (hd : Vals dvs ds) (hx : Passes CX X E)
  (ha : PA X (e :: es) t) (hdb : (x == ("__debug__" : Str)) = false := by decide) (he : starEach (e :: es) X.env = (false, eval e X.env) :: starEach es X.env := by rfl) (hpl : (backTo pos (starEach es X.env)).any (·.1) = false := by rfl) :
  PE X (.Call (.Name x p) (e :: es) [] pos) (tCall sp dvs E t) := by
 intro pins s σ H Q I h;refine wpAny_Call_Name_kw (ld_glob I hg hm ?_ hdb);refine PySem.W.callWith_K (h₀ := X.base) I.ok.mod.kin hk (thn (ha pos pins s σ H _ I h) fun us s1 ⟨vs, H1, I1, r, q⟩ => ⟨I1.kIn, ?_⟩) he hpl;exact run_fn F hr hb hd hx I1 r q
theorem pe_meth {pl : Sem Bool} (he : PE X o ta) (c : Cls X.K C) (hm : Meth X.K C m f) (F : FnOk X.prog X.w X.K X.mg X.base CX k f fd ps sp) (hr : Room k X.A) (hb : Binds X.K fd ps ds) (hd : Vals dvs ds) (hx : Passes CX X E) (ha : PA X (e :: es) t)
  (hst : starEach (e :: es) X.env = (false, eval e X.env) :: starEach es X.env := by rfl) (hpl : (backTo pos (starEach es X.env)).any (·.1) = false := by rfl)
  (ht : eval (.Call (.Attribute o m apos) (e :: es) [] pos) X.env = (do
   let ov <- eval o X.env
   standAt apos.atName
   let (f, first) <- holding [ov] (getMethod ov m pl)
   callWith pos f first (backTo pos (starEach (e :: es) X.env)) (backToKw pos (keywordEach [] X.env))) := by rfl) :
  PE X (.Call (.Attribute o m apos) (e :: es) [] pos) (tMeth C m sp dvs E ta t) := by
 intro pins s σ H Q I h;refine PySem.W.methodCall_KW (pl := pl) (thn (he pins s σ H _ I h) fun u s1 ⟨x, H1, I1, rx, a, dx, fs, ex, ea, l, q⟩ => ?_) ht;subst ex;obtain rfl : u = Value.ref a := rx;refine getmeth_ok I1 ea c hm l ?_;refine PySem.W.callWith_K (first := [.ref a]) (h₀ := X.base) I.ok.mod.kin hm.kp (thn (ha pos pins s1 σ H1 _ I1 q) fun us s2 ⟨vs, H2, I2, r, q2⟩ => ⟨I2.kIn, ?_⟩) hst hpl;exact run_fn (us := .ref a :: us) (vs := .ref a :: vs) F hr hb hd hx I2 (.cons rfl r) q2
theorem pe_meth0 {pl : Sem Bool} (he : PE X o ta) (c : Cls X.K C) (hm : Meth X.K C m f) (F : FnOk X.prog X.w X.K X.mg X.base CX k f fd ps sp) (hr : Room k X.A) (hb : Binds X.K fd ps ds) (hd : Vals dvs ds) (hx : Passes CX X E)
  (ht : eval (.Call (.Attribute o m apos) [] [] pos) X.env = (do
   let ov <- eval o X.env
   standAt apos.atName
   let (f, first) <- holding [ov] (getMethod ov m pl)
   callWith pos f first (backTo pos (starEach [] X.env)) (backToKw pos (keywordEach [] X.env))) := by rfl) :
  PE X (.Call (.Attribute o m apos) [] [] pos) (tMeth C m sp dvs E ta tNil) := by
 intro pins s σ H Q I h;refine PySem.W.methodCall_KW (pl := pl) (thn (he pins s σ H _ I h) fun u s1 ⟨x, H1, I1, rx, a, dx, fs, ex, ea, l, q⟩ => ?_) ht;subst ex;obtain rfl : u = Value.ref a := rx;refine getmeth_ok I1 ea c hm l ?_;exact PySem.W.callWith_K0 (first := [.ref a]) I1.kIn hm.kp (run_fn (us := [.ref a]) (vs := [.ref a]) F hr hb hd hx I1 (.cons rfl .nil) q)
structure Mk (K : PySem.W.Frag) (C f : Addr) : Prop where
 makes : PySem.W.makesIn K C = true
 init : PySem.W.findIn K (.ref C) "__init__" = some (some (.ref f))
 fn : PySem.W.isFn K (.ref f) = true
 kp : PySem.W.keepIn K (.ref C) = true
theorem run_make {pins : List (Addr × Obj)} {σ : St} {H : Hp} {s : Shared} {Q : VK} {us : List Value} {vs : List V} (M : Mk X.K C f) (F : FnOk X.prog X.w X.K X.mg X.base CX k f fd ps sp) (hr : Room (k + 1) X.A) (hb : Binds X.K fd ps ds) (hd : Vals dvs ds)
  (hx : Passes CX X E) (I : Inv X pins σ H s) (r : Vals vs us)
  (h : ∀ x dx, H x = none -> H dx = none -> dx ≠ x -> sp (.ref x :: (vs ++ dvs)) (upd (upd H dx (.own x)) x (.ins C dx [])) (fun v H2 => v = .non /\ Q (.ref x) H2) E) :
  wpAny (model X.prog X.w) X.A (call (.ref C) us) (EP X pins σ Q) X.xe s := by
 have hq := h (s.heap.objs.size + 1) s.heap.objs.size (I.hok.fresh (Nat.le_succ _)) (I.hok.fresh (Nat.le_refl _)) (Nat.ne_of_lt (Nat.lt_succ_self _));have I2 := Inv.made (C := C) I;have r2 : Vals (V.ref (s.heap.objs.size + 1) :: (vs ++ dvs)) (Value.ref (s.heap.objs.size + 1) :: (us ++ ds)) := .cons rfl (r.append hd);have hl : (Value.ref (s.heap.objs.size + 1) :: us ++ ds).length = ps.length := by
  have e := r2.length;rw [F.len _ _ _ _ hq] at e;exact e.symm
 refine wpAny_call (make_map (f := f) I.kIn M.makes M.init (beq_iff_eq.mp M.fn) (codeAny_mono (F.run _ X.stack _ _ ⟨Value.ref (s.heap.objs.size + 1) :: us, []⟩ (Value.ref (s.heap.objs.size + 1) :: (us ++ ds)) _ _ E (hr.make C us [])
  (I2.env0.make C us []) (hb _ (Value.ref (s.heap.objs.size + 1) :: us) I2.kIn hl) r2 hq) fun r s' hq' => ?_))
 cases r with
 | error e => exact hx pins σ _ _ e s' I2 hq'
 | ok fl =>
  cases fl with
  | ret u =>
   obtain ⟨v, H', I3, rv, ev, q3⟩ := I2.after hq';subst ev;exact ⟨rv, ⟨V.ref (s.heap.objs.size + 1), H', I3, rfl, q3⟩⟩
  | next => exact False.elim hq'
  | brk => exact False.elim hq'
  | cont => exact False.elim hq'
theorem pe_make (M : Mk X.K C f) (F : FnOk X.prog X.w X.K X.mg X.base CX k f fd ps sp) (hr : Room (k + 1) X.A) (hg : Gl X x) (hm : X.mg x = some (.ref C)) (hb : Binds X.K fd ps ds) (hd : Vals dvs ds) (hx : Passes CX X E)
  (ha : PA X (e :: es) t) (hdb : (x == ("__debug__" : Str)) = false := by decide) (he : starEach (e :: es) X.env = (false, eval e X.env) :: starEach es X.env := by rfl) (hpl : (backTo pos (starEach es X.env)).any (·.1) = false := by rfl) :
  PE X (.Call (.Name x p) (e :: es) [] pos) (tMake C sp dvs E t) := by
 intro pins s σ H Q I h;refine wpAny_Call_Name_kw (ld_glob I hg hm ?_ hdb);refine PySem.W.callWith_K (h₀ := X.base) I.ok.mod.kin M.kp (thn (ha pos pins s σ H _ I h) fun us s1 ⟨vs, H1, I1, r, q⟩ => ⟨I1.kIn, ?_⟩) he hpl;exact run_make M F hr hb hd hx I1 r q
theorem pe_make0 (M : Mk X.K C f) (F : FnOk X.prog X.w X.K X.mg X.base CX k f fd ps sp) (hr : Room (k + 1) X.A) (hg : Gl X x) (hm : X.mg x = some (.ref C)) (hb : Binds X.K fd ps ds) (hd : Vals dvs ds) (hx : Passes CX X E)
  (hdb : (x == ("__debug__" : Str)) = false := by decide) : PE X (.Call (.Name x p) [] [] pos) (tMake C sp dvs E tNil) := by
 intro pins s σ H Q I h;refine wpAny_Call_Name_kw (ld_glob I hg hm ?_ hdb);exact PySem.W.callWith_K0 I.kIn M.kp (run_make (us := []) M F hr hb hd hx I .nil h)
end
section
variable {X : Cx} {CX : CXT} {k : Nat} {f C : Addr} {fd : FuncData} {ps ks : List Str} {sp : Sp} {E : XK} {x m : Str} {p pos apos kpos : Pos} {e o : Expr} {es : List Expr} {kws : List Keyword} {te ta : TE} {t tk : TA} {nm : Option Str}
structure KBinds (K : PySem.W.Frag) (fd : FuncData) (ps ks : List Str) (g : List Value -> List Value -> List Value) (gV : List V -> List V -> List V) : Prop where
 to : ∀ (s : Shared) (us ws : List Value), K.In s.heap -> (g us ws).length = ps.length -> BindsTo s fd ⟨us, ks.zip ws⟩ (ps.zip (g us ws))
 rel : ∀ {vs : List V} {us : List Value} {zs : List V} {ws : List Value}, Vals vs us -> Vals zs ws -> Vals (gV vs zs) (g us ws)
variable {g : List Value -> List Value -> List Value} {gV : List V -> List V -> List V}
end
structure FnScope (N P : List Str) (sc : Scope) : Prop where
 kind : sc.kind = .function
 co : sc.isCoroutine = false
 gen : sc.isGenerator = false
 nd : N.Nodup
 pre : N.take P.length = P
 par : ∀ x ∈ P, sc.names.lookup x = some .local ∨ sc.names.lookup x = some .cell
 nofree : ∀ y ∈ sc.names, y.2 ≠ .free
theorem bindL_out {kindOf : Str -> Option NameKind} {x : Str} : ∀ {binds : List (Str × Value)} {m : Str -> Option Value}, (∀ v, (x, v) ∉ binds) -> bindL kindOf binds m x = m x
 | [], _, _ => rfl
 | (n, v) :: r, m, h => by
  unfold bindL;rw [bindL_out fun w hw => h w (List.mem_cons_of_mem _ hw)]
  split
  ·have : x ≠ n := by rintro rfl; exact h v List.mem_cons_self
   simp [this]
  ·rfl
theorem bindC_out {kindOf : Str -> Option NameKind} {x : Str} : ∀ {binds : List (Str × Value)} {m : Str -> Option Value}, (∀ v, (x, v) ∉ binds) -> bindC kindOf binds m x = m x
 | [], _, _ => rfl
 | (n, v) :: r, m, h => by
  unfold bindC;rw [bindC_out fun w hw => h w (List.mem_cons_of_mem _ hw)]
  split
  ·rfl
  ·have : x ≠ n := by rintro rfl; exact h v List.mem_cons_self
   simp [this]
theorem bindL_get {kindOf : Str -> Option NameKind} {x : Str} {v : Value} : ∀ {P : List Str} {vs : List Value} {i : Nat} {m : Str -> Option Value}, P.Nodup -> P[i]? = some x -> vs[i]? = some v -> kindOf x = some .local ->
  bindL kindOf (P.zip vs) m x = some v
 | [], _, _, _, _, h, _, _ => by simp at h
 | _ :: _, [], _, _, _, _, h, _ => by simp at h
 | p :: P, w :: vs, 0, m, nd, h1, h2, hk => by
  simp at h1 h2; subst h1; subst h2;show bindL kindOf ((p, w) :: P.zip vs) m p = _;unfold bindL;rw [bindL_out fun v hv => (List.nodup_cons.mp nd).1 (List.of_mem_zip hv).1, if_pos hk];simp
 | p :: P, w :: vs, i + 1, m, nd, h1, h2, hk => by
  show bindL kindOf ((p, w) :: P.zip vs) m x = _;unfold bindL;exact bindL_get (i := i) (List.nodup_cons.mp nd).2 (by simpa using h1) (by simpa using h2) hk
theorem bindC_get {kindOf : Str -> Option NameKind} {x : Str} {v : Value} : ∀ {P : List Str} {vs : List Value} {i : Nat} {m : Str -> Option Value}, P.Nodup -> P[i]? = some x -> vs[i]? = some v -> kindOf x ≠ some .local ->
  bindC kindOf (P.zip vs) m x = some v
 | [], _, _, _, _, h, _, _ => by simp at h
 | _ :: _, [], _, _, _, _, h, _ => by simp at h
 | p :: P, w :: vs, 0, m, nd, h1, h2, hk => by
  simp at h1 h2; subst h1; subst h2;show bindC kindOf ((p, w) :: P.zip vs) m p = _;unfold bindC;rw [bindC_out fun v hv => (List.nodup_cons.mp nd).1 (List.of_mem_zip hv).1, if_neg hk];simp
 | p :: P, w :: vs, i + 1, m, nd, h1, h2, hk => by
  show bindC kindOf ((p, w) :: P.zip vs) m x = _;unfold bindC;exact bindC_get (i := i) (List.nodup_cons.mp nd).2 (by simpa using h1) (by simpa using h2) hk
def start (N : List Str) (vs : List V) : St := vs.map some ++ List.replicate (N.length - vs.length) none
def cxOf (CX : CXT) (P : Program) (w : World) (K : PySem.W.Frag) (mg : Str -> Option Value) (base : Heap) (N : List Str) (qual : Str) (scope : Scope) (f : Addr) (cd : Value) (A : Around) (outer : List Env) (s : Shared) (H : Hp) (E : XK) : Cx where
 prog := P
 w := w
 K := K
 mg := mg
 base := base
 A := A.deeper (envOfC qual scope s.heap.objs.size f cd)
 N := N
 s_0 := s
 H_0 := H
 env := envOfC qual scope s.heap.objs.size f cd
 outer := outer
 stack := envOfC qual scope s.heap.objs.size f cd :: outer
 ex := []
 calm := true
 fn := fun _ => true
 pn := []
 xe := fun e s' => wpAny (model P w) (A.deeper (envOfC qual scope s.heap.objs.size f cd)) (leaving (envOfC qual scope s.heap.objs.size f cd) e) (fun _ s'' => CX outer H s E e s'') (fun e' s'' => CX outer H s E e' s'') s'
theorem cell_has {sc : Scope} {n : Nat} {x : Str} (h : sc.names.lookup x = some .cell) : ∃ c, (cellsFrom n sc.names []).lookup x = some c := by
 have q := PySem.W.cellsFrom_some sc.names n [] (.inl h);exact Option.isSome_iff_exists.mp q
theorem inv_start {CX : CXT} {P : Program} {w : World} {K : PySem.W.Frag} {mg : Str -> Option Value} {base : Heap} {N ps : List Str} {qual : Str} {scope : Scope} {f : Addr} {cd : Value} {A : Around} {outer : List Env} {s s1 : Shared} {H : Hp} {E : XK} {us : List Value} {vs : List V}
  (S : FnScope N ps scope) (hd : A.handled = none) (e0 : Env0 P w K mg base A outer s H) (hl : vs.length = ps.length) (r : Vals vs us)
  (x : InCallC s s.heap.objs.size (bindL (envOfC qual scope s.heap.objs.size f cd).kindOf (ps.zip us) fun _ => none) (cellsFrom (s.heap.objs.size + 1) scope.names []) (bindC (envOfC qual scope s.heap.objs.size f cd).kindOf (ps.zip us) fun _ => none) s1) :
  Inv (cxOf CX P w K mg base N qual scope f cd A outer s H E) [] (start N vs) H s1 := by
 have hpl : ps.length <= N.length := by have := congrArg List.length S.pre; rw [List.length_take] at this; omega
 obtain ⟨h1, tk, rfl, hk⟩ := x.done;have noA : ∀ b : Addr, b ∉ (cxOf CX P w K mg base N qual scope f cd A outer s H E).ex := fun b z => absurd (show b ∈ ([] : List Addr) from z) (by simp);refine ⟨⟨e0.mod, S.kind, rfl, rfl, Nat.le_refl _, fun y z c h1 h2 => ?_, fun y hy => ?_, fun y c _ h => ?_, fun _ => hd, Around.frames_deeper e0.frames, .inr ⟨rfl, rfl⟩, fun b z => absurd z (noA b), e0.bs, e0.bsz, fun b _ _ => noA b, fun b z => absurd z (noA b), e0.funs, e0.frf⟩,
  rfl, e0.bare, Un.kept hk, ⟨_, x.toInCall.ns, fun i y v h1 h2 h3 => ?_⟩, fun y c h => ⟨_, x.cell y c h⟩, e0.hok.fresh (Nat.le_refl _), fun y c h => ?_, fun p hp => absurd (show p ∈ ([] : List (Addr × Obj)) from hp) (by simp), e0.hok.kept hk, ?_⟩
 ·exact name_of_addr x.apart (PySem.mem_of_lookup h1) (PySem.mem_of_lookup h2)
 ·have hy : scope.names.lookup y = some .cell ∨ scope.names.lookup y = some .free := hy;rcases hy with hy | hy
  ·exact cell_has hy
  ·exact absurd rfl (S.nofree _ (PySem.mem_of_lookup hy))
 ·exact Nat.le_of_lt (x.above y c (PySem.mem_of_lookup h))
 ·have hi : i < vs.length := by
   unfold start at h2
   by_cases hi : i < vs.length
   ·exact hi
   ·rw [List.getElem?_append_right (by simpa using hi)] at h2;rw [List.getElem?_replicate] at h2
    split at h2 <;> cases h2
  have ha : vs[i]? = some v := by
   unfold start at h2;rw [List.getElem?_append_left (by simpa using hi), List.getElem?_map] at h2;cases e : vs[i]? with
   | none => rw [e] at h2; cases h2
   | some a => rw [e] at h2; cases h2; rfl
  obtain ⟨u, hu, rv⟩ := r.get ha;have hp : ps[i]? = some y := by
   rw [<- S.pre, List.getElem?_take_of_lt (by omega)]; exact h1
  have ndP : ps.Nodup := by rw [<- S.pre]; exact S.nd.sublist (List.take_sublist _ _)
  refine ⟨u, rv, ?_⟩;rcases S.par y (List.mem_of_getElem? hp) with k | k
  ·exact .inl ⟨k, bindL_get ndP hp hu k⟩
  ·obtain ⟨c, e⟩ := cell_has (n := s.heap.objs.size + 1) k;refine .inr ⟨.inl k, c, e, ?_⟩;have q := x.cell y c e;rw [bindC_get ndP hp hu (by show scope.names.lookup y ≠ _; rw [k]; decide)] at q;exact q
 ·exact e0.hok.fresh (Nat.le_of_lt (x.above y c (PySem.mem_of_lookup h)))
 ·unfold start;show _ = N.length;rw [List.length_append, List.length_map, List.length_replicate];omega
theorem fn_of {CX : CXT} {P : Program} {w : World} {K : PySem.W.Frag} {mg : Str -> Option Value} {base : Heap} {k : Nat} {f : Addr} {name qual : Str} {params : Arguments} {body : List Stmt} {scope : Scope} {dV kV doc pm cdv ct oc : Value} {an od : Option Addr}
  {osl : Array (Option Value)} {N ps : List Str} {sp : Sp} (lk : K.lookup f = some ⟨oc, od, .func (PySem.W.fnOf name qual params body scope dV kV doc pm an cdv ct), osl⟩) (hcd : PySem.W.codeIn K cdv qual = true) (S : FnScope N ps scope)
  (len : ∀ vs H Q E, sp vs H Q E -> vs.length = ps.length)
  (hbody : ∀ (A : Around) (outer : List Env) (s : Shared) (H : Hp) (vs : List V) (Q : VK) (E : XK), Room k (A.deeper (envOfC qual scope s.heap.objs.size f cdv)) -> sp vs H Q E ->
   ∃ t, PSs (cxOf CX P w K mg base N qual scope f cdv A outer s H E) body t /\ t { nx := fun _ H' => Q .non H', rt := Q } (start N vs) H) :
  FnOk P w K mg base CX (k + 1) f (PySem.W.fnOf name qual params body scope dV kV doc pm an cdv ct) ps sp := by
 refine ⟨len, fun A outer s H args us vs Q E hr e0 hb r hsp => ?_⟩;have hl := len _ _ _ _ hsp;have KX : K.In s.heap := e0.mod.kin.keeps fun b o e => (e0.bs b o e).1;have lim : s.heap.NoLimit := e0.mod.nolimit.keeps fun b o e => (e0.bs b o e).1;have hkind : ∀ y ∈ ps.zip us, scope.names.lookup y.1 = some .local ∨ (scope.names.lookup y.1 = some .cell /\ ((cellsFrom (s.heap.objs.size + 1) scope.names []).lookup y.1).isSome = true) := fun ⟨n, v⟩ hy => by
  rcases S.par n (List.of_mem_zip hy).1 with q | q
  ·exact .inl q
  ·exact .inr ⟨q, PySem.W.cellsFrom_some _ _ _ (.inl q)⟩
 refine codeAny_call_function hr.depth (KX _ _ lk) rfl S.co S.gen rfl (PySem.W.codeRec_of KX hcd) (hb _ _ _ _ ?_);refine wpAny_newFunctionEnv_cells S.kind hkind fun env he s1 x => ?_;subst he;refine ⟨lim.keeps x.toInCall.keep, codeAny_func ?_⟩;obtain ⟨t, ht, hq⟩ := hbody A outer s H vs Q E (hr.deeper _) hsp;have I : Inv (cxOf CX P w K mg base N qual scope f cdv A outer s H E) [] (start N vs) H s1 := inv_start S hr.hd e0 hl r x;refine wpAny_mono (ht [] s1 (start N vs) H _ I hq) (fun fl s' hs => ?_) fun e s' hs => hs;have fin : ∀ {σ' : St} {H' : Hp} {v : V} {u : Value}, Inv (cxOf CX P w K mg base N qual scope f cdv A outer s H E) [] σ' H' s' -> RelV v u -> Q v H' -> CE outer P w H s Q u s' :=
  fun {σ' H' v u} J rv q => ⟨v, H', J.os, J.bare, J.base, J.hok, rv, q⟩
 cases fl with
 | ret u =>
  obtain ⟨v, σ', H', J, rv, q⟩ := hs;exact fin J rv q
 | next =>
  obtain ⟨σ', H', J, q⟩ := hs;exact fin (v := V.non) (u := Value.none) J rfl q
 | brk =>
  obtain ⟨_, _, _, q⟩ := hs;exact False.elim q
 | cont =>
  obtain ⟨_, _, _, q⟩ := hs;exact False.elim q
end L2
namespace L2
open PySem PySem.Spec PyProof.Rows
section
variable {X : Cx} {x : Str} {p pos : Pos} {e : Expr} {es : List Expr} {t : TA} {id T : String} {r : List V -> Hp -> VK -> Prop}
def tCB (r : List V -> Hp -> VK -> Prop) (t : TA) : TE := fun σ H Q => t σ H fun vs H1 => r vs H1 Q
theorem pe_callB (hc : CallR X (.builtin id) r) (hg : Gl X x) (hm : X.mg x = none) (hv : bootBuiltins x = some (.builtin id)) (ha : PA X (e :: es) t) (hn : x ≠ "__name__" := by decide) (hdb : (x == ("__debug__" : Str)) = false := by decide)
  (he : starEach (e :: es) X.env = (false, eval e X.env) :: starEach es X.env := by rfl) (hpl : (backTo pos (starEach es X.env)).any (·.1) = false := by rfl) : PE X (.Call (.Name x p) (e :: es) [] pos) (tCB r t) := by
 intro pins s σ H Q I h;refine wpAny_Call_Name_kw (ld_blt I hg hm hv ?_ hn hdb);exact PyProof.Rows.callWith_builtin1 (thn (ha pos pins s σ H _ I h) fun us s1 ⟨vs, H1, I1, r1, q1⟩ => hc pins s1 σ H1 vs us Q I1 r1 q1) he hpl
theorem pe_callTy (hc : CallR X (.type T) r) (hg : Gl X x) (hm : X.mg x = none) (hv : bootBuiltins x = some (.type T)) (ha : PA X (e :: es) t) (hn : x ≠ "__name__" := by decide) (hdb : (x == ("__debug__" : Str)) = false := by decide)
  (he : starEach (e :: es) X.env = (false, eval e X.env) :: starEach es X.env := by rfl) (hpl : (backTo pos (starEach es X.env)).any (·.1) = false := by rfl) : PE X (.Call (.Name x p) (e :: es) [] pos) (tCB r t) := by
 intro pins s σ H Q I h;refine wpAny_Call_Name_kw (ld_blt I hg hm hv ?_ hn hdb);exact PyProof.Rows.callWith_type1 (thn (ha pos pins s σ H _ I h) fun us s1 ⟨vs, H1, I1, r1, q1⟩ => hc pins s1 σ H1 vs us Q I1 r1 q1) he hpl
end
end L2
namespace HT
open PySem PyProof.Rows
section
open PySem.SeqAt
open PySem.AutoSeq1 (wpAny_loadPart')
open PySem.MeetsSeq PySem.MeetsSeq2 PySem.MeetsSeq3
end
section
variable {prog : Program} {w : World} {A : Around} {E : Value -> Shared -> Prop} {s : Shared}
def sIx (n d : Nat) : Option Int -> Nat
 | none => d
 | some v => if v < 0 then (v + (n : Int)).toNat else min v.toNat n
theorem sIx_none (n d : Nat) : sIx n d none = d := rfl
theorem sIx_nat (n d k : Nat) : sIx n d (some (k : Int)) = min k n := by
 show (if (k : Int) < 0 then ((k : Int) + (n : Int)).toNat else min (k : Int).toNat n) = min k n;rw [if_neg (by omega), Int.toNat_natCast]
end
end HT
namespace L2
open PySem PySem.Spec PyProof.Rows
abbrev TO := St -> Hp -> (Option Int -> Hp -> Prop) -> Prop
def PO (X : Cx) (e : Option Expr) (t : TO) : Prop :=
 ∀ (pins : List (Addr × Obj)) (s : Shared) (σ : St) (H : Hp) (Q : Option Int -> Hp -> Prop), Inv X pins σ H s -> t σ H Q ->
  wpAny (model X.prog X.w) X.A (evalPart e X.env) (fun u s' => ∃ o H', Inv X pins σ H' s' /\ IsPart u o /\ Q o H') X.xe s
def tNoPart : TO := fun _ H Q => Q none H
def tPart (t : TE) : TO := fun σ H Q => t σ H fun x H1 => ∃ i, x = .int i /\ Q (some i) H1
section
variable {X : Cx} {e : Expr} {te : TE} {lo hi : Option Expr} {tl th : TO} {pos p2 : Pos}
theorem po_none : PO X none tNoPart := by
 intro pins s σ H Q I h;rw [evalPart_none];exact wpAny_pure ⟨none, H, I, .none, h⟩
theorem po_some (h : PE X e te) : PO X (some e) (tPart te) := by
 intro pins s σ H Q I hw;rw [evalPart_some];refine thn (h pins s σ H _ I hw) fun u s1 ⟨x, H1, I1, r1, q1⟩ => ?_;obtain ⟨i, rfl, q⟩ := q1;obtain ⟨t, rfl⟩ := r1;exact ⟨some i, H1, I1, .int i t, q⟩
def SlR (X : Cx) (r : V -> Option Int -> Option Int -> Hp -> VK -> Prop) : Prop :=
 ∀ (pins : List (Addr × Obj)) (s : Shared) (σ : St) (H : Hp) (x : V) (v vl vu : Value) (lo hi : Option Int) (sl : Addr) (Q : VK), Inv X pins σ H s -> RelV x v -> s.heap.IsSliceOf sl vl vu .none -> IsPart vl lo -> IsPart vu hi -> r x lo hi H Q ->
  ∃ T id, typeLookup (.type T) "__getitem__" = pure (some (.builtin id)) /\ s.TypeIs v T /\ wpAny (model X.prog X.w) X.A (getItem v (.ref sl)) (EP X pins σ Q) X.xe s
def tSl (r : V -> Option Int -> Option Int -> Hp -> VK -> Prop) (te : TE) (tl th : TO) : TE := fun σ H Q => te σ H fun x H1 => tl σ H1 fun l H2 => th σ H2 fun u H3 => r x l u H3 Q
theorem pe_slice {r : V -> Option Int -> Option Int -> Hp -> VK -> Prop} (hr : SlR X r) (he : PE X e te) (hl : PO X lo tl) (hu : PO X hi th) : PE X (.Subscript e (.Slice lo hi none p2) pos) (tSl r te tl th) := by
 intro pins s σ H Q I h;refine Subscript_ (thn (he pins s σ H _ I h) fun v s1 ⟨x, H1, I1, r1, q1⟩ => ?_);refine wpAny_Slice (thn (hl pins s1 σ H1 _ I1 q1) fun vl s2 ⟨l, H2, I2, pl, q2⟩ => thn (hu pins s2 σ H2 _ I2 q2) fun vu s3 ⟨u, H3, I3, pu, q3⟩ => ?_);rw [evalPart_none];refine wpAny_pure ?_;have I4 : Inv X pins σ H3 { s3 with heap := s3.heap.push { cls := .type "slice", data := .fields #[vl, vu, .none] } } := I3.kept (t' := s3.toks) fun b ob q => Heap.get?_push_of_some _ q
 obtain ⟨T, id, hT, ht, hg⟩ := hr pins { s3 with heap := s3.heap.push { cls := .type "slice", data := .fields #[vl, vu, .none] } } σ H3 x v vl vu l u s3.heap.objs.size Q I4 r1 (Heap.IsSliceOf.new ..) pl pu q3;show wpAny (model X.prog X.w) X.A (subscriptTail e (.Slice lo hi none p2) v (.ref s3.heap.objs.size)) (EP X pins σ Q) X.xe { s3 with heap := s3.heap.push { cls := .type "slice", data := .fields #[vl, vu, .none] } }
 exact tail_any (ops := [.ref s3.heap.objs.size, v]) ht hT hg (by with_unfolding_all rfl)
def cutV (xs : List V) (lo hi : Option Int) : List V := (xs.drop (HT.sIx xs.length 0 lo)).take (HT.sIx xs.length xs.length hi - HT.sIx xs.length 0 lo)
theorem cutV_length (xs : List V) (lo hi : Option Int) : (cutV xs lo hi).length <= xs.length := by
 unfold cutV;rw [List.length_take, List.length_drop];omega
end
end L2
namespace L2
open PySem PySem.Spec PyProof.Rows
def ixN (n : Nat) (i : Int) : Option Nat := if 0 <= i then (if i < n then some i.toNat else none) else if -(n : Int) <= i then some (i + n).toNat else none
def atI {α : Type} (xs : List α) (i : Int) : Option α := (ixN xs.length i).bind fun j => xs[j]?
theorem ixN_seq {n : Nat} {i : Int} {j : Nat} (h : ixN n i = some j) : seqIndex? i n = some j /\ j < n /\ -(n : Int) <= i /\ i < n := by
 unfold ixN at h
 by_cases h0 : 0 <= i
 ·rw [if_pos h0] at h
  by_cases h1 : i < n
  ·rw [if_pos h1] at h;have e : i.toNat = j := Option.some.inj h;exact ⟨by rw [seqIndex_of h0 h1, e], by omega, by omega, h1⟩
  ·rw [if_neg h1] at h; cases h
 ·rw [if_neg h0] at h
  by_cases h1 : -(n : Int) <= i
  ·rw [if_pos h1] at h;have e : (i + n).toNat = j := Option.some.inj h;exact ⟨by rw [seqIndex_neg (by omega) h1, e], by omega, h1, by omega⟩
  ·rw [if_neg h1] at h; cases h
theorem atI_get {α : Type} {xs : List α} {i : Int} {v : α} (h : atI xs i = some v) : ∃ j, seqIndex? i xs.length = some j /\ xs[j]? = some v /\ j < xs.length /\ -(xs.length : Int) <= i /\ i < xs.length := by
 unfold atI at h;cases e : ixN xs.length i with
 | none => rw [e] at h; cases h
 | some j =>
  rw [e] at h;obtain ⟨h1, h2, h3, h4⟩ := ixN_seq e;exact ⟨j, h1, h, h2, h3, h4⟩
theorem atI_nat {α : Type} {xs : List α} {j : Nat} {v : α} (h : xs[j]? = some v) : atI xs (j : Int) = some v := by
 have hj : j < xs.length := (List.getElem?_eq_some_iff.mp h).1;have e : ixN xs.length (j : Int) = some j := by
  unfold ixN;rw [if_pos (by omega), if_pos (by omega)]; simp
 unfold atI; rw [e]; exact h
def PlainIx (b : Expr) : Prop := ∀ o i, subscripted b false o i = operate [o, i] (getItem o i)
def IxR (X : Cx) (r : R2) : Prop :=
 ∀ (value slice : Expr) (pins : List (Addr × Obj)) (s : Shared) (σ : St) (H : Hp) (x y : V) (v u : Value) (Q : VK), Inv X pins σ H s -> RelV x v -> RelV y u -> r x y H Q ->
  subscripted slice false v u = operate [v, u] (getItem v u) -> wpAny (model X.prog X.w) X.A (subscriptTail value slice v u) (EP X pins σ Q) X.xe s
def MtR (X : Cx) (id : String) (r : V -> List V -> Hp -> VK -> Prop) : Prop :=
 ∀ (pins : List (Addr × Obj)) (s : Shared) (σ : St) (H : Hp) (x : V) (xs : List V) (v : Value) (us : List Value) (Q : VK), Inv X pins σ H s -> RelV x v -> Vals xs us -> r x xs H Q ->
  wpAny (model X.prog X.w) X.A (call (.builtin id) (v :: us)) (EP X pins σ Q) X.xe s
section
variable {X : Cx} {a b : Expr} {ta tb : TE} {pos : Pos}
theorem pe_ix {r : R2} (hr : IxR X r) (ha : PE X a ta) (hb : PE X b tb) (hs : PlainIx b) : PE X (.Subscript a b pos) (tOp r ta tb) := by
 intro pins s σ H Q I h;exact Subscript_ (binT ha hb I h fun v u s2 x y H2 I2 rx ry q => hr a b pins s2 σ H2 x y v u Q I2 rx ry q (hs _ _))
def rIxL (K : PySem.W.Frag) : R2 := fun x y H Q => ∃ p xs i v, x = .ref p /\ y = .int i /\ SqL K H p xs /\ atI xs i = some v /\ Q v H
def rIxT (K : PySem.W.Frag) : R2 := fun x y H Q => ∃ p xs i v, x = .ref p /\ y = .int i /\ SqT K H p xs /\ atI xs i = some v /\ Q v H
theorem ix_list : IxR X (rIxL X.K) := by
 intro value slice pins s σ H x y v u Q I rx ry h hs;obtain ⟨p, xs, i, z, rfl, rfl, hq, he, q⟩ := h;cases rx;obtain ⟨t, rfl⟩ := ry;obtain ⟨its, r, pl, hz⟩ := I.list hq;obtain ⟨j, h1, h2, h3, h4, h5⟩ := atI_get he;obtain ⟨w, ew, rw'⟩ := r.get h2;have hl := r.length;have hn := line63;have fin : EP X pins σ Q w s := ⟨z, H, I, rw', q⟩
 by_cases h0 : 0 <= i
 ·have hj : i.toNat = j := by
   rw [seqIndex_of h0 h5] at h1;exact Option.some.inj h1
  exact item_listR pl.isList h0 (by omega) (by rw [hj]; simpa using ew) fin hs
 ·have hj : (i + (its.toArray.size : Int)).toNat = j := by
   rw [seqIndex_neg (by omega) h4] at h1;rw [List.size_toArray, <- hl];exact Option.some.inj h1
  exact subscriptTail_builtinR (x := w) pl.isList.typeIs slot_list_getitem.lookup
   (wpAny_getItem_list_neg (Q := fun r s' => r = w /\ EP X pins σ Q r s') pl.isList (by omega) (by rw [List.size_toArray] <;> omega) (by omega) (by rw [hj]; simpa using ew) ⟨rfl, fin⟩) hs
theorem ix_tup : IxR X (rIxT X.K) := by
 intro value slice pins s σ H x y v u Q I rx ry h hs;obtain ⟨p, xs, i, z, rfl, rfl, hq, he, q⟩ := h;cases rx;obtain ⟨t, rfl⟩ := ry;obtain ⟨its, r, pl, hz⟩ := I.tuple hq;obtain ⟨j, h1, h2, h3, h4, h5⟩ := atI_get he;obtain ⟨w, ew, rw'⟩ := r.get h2;have hl := r.length;have hn := line63;have fin : EP X pins σ Q w s := ⟨z, H, I, rw', q⟩;exact subscriptTail_builtinR (x := w) pl.typeIs slot_tuple_getitem.lookup
  (getItem_tuple (j := j) (Q := fun r s' => r = w /\ EP X pins σ Q r s') pl (by omega) (by omega) (by rw [List.size_toArray, <- hl]; exact h1) (by simpa using ew) ⟨rfl, fin⟩) hs
theorem mapSeq_set (its : List Value) (n j : Nat) (u : Value) : Obj.mapSeq (·.setIfInBounds j u) { cls := .type "list", data := .seq its.toArray n } = { cls := .type "list", data := .seq (its.set j u).toArray n } := by
 simp [Obj.mapSeq]
theorem Inv.lst {pins : List (Addr × Obj)} {σ : St} {H : Hp} {s : Shared} {p : Addr} {xs : List V} (I : Inv X pins σ H s) (h : H p = some (.lst xs)) :
  ∃ (its : List Value) (n : Nat), Vals xs its /\ s.heap.get? p = some { cls := .type "list", data := .seq its.toArray n } /\ xs.length <= sizeLine := by
 obtain ⟨z, its, n, r, e⟩ := I.hok p _ h;exact ⟨its, n, r, e, z⟩
theorem Inv.lstUpd {pins : List (Addr × Obj)} {σ : St} {H : Hp} {s : Shared} {p : Addr} {xs ys : List V} {its its' : List Value} {n n' : Nat} {f : Obj -> Obj} (I : Inv X pins σ H s) (h : H p = some (.lst xs))
  (ho : s.heap.get? p = some { cls := .type "list", data := .seq its.toArray n }) (hf : f { cls := .type "list", data := .seq its.toArray n } = { cls := .type "list", data := .seq its'.toArray n' }) (r : Vals ys its') (hz : ys.length <= sizeLine) (t : Nat) :
  Inv X pins σ (upd H p (.lst ys)) { s with heap := s.heap.update p f, toks := t } := by
 have e : (s.heap.update p f).get? p = some { cls := .type "list", data := .seq its'.toArray n' } := by
  rw [Heap.get?_update_self f ho (by rw [hf] <;> rfl), hf]
 refine I.write (x := p) (e := p) (by rw [h]; trivial) (.inl rfl) (fun b u hb q => (Heap.get?_update_other _ _ (Ne.symm hb)).trans q) ⟨_, e⟩ ?_;exact ⟨hz, its', n', r, e⟩
def rSetL : V -> V -> V -> Hp -> (Hp -> Prop) -> Prop := fun o i v H Q => ∃ p xs k j, o = .ref p /\ i = .int k /\ H p = some (.lst xs) /\ ixN xs.length k = some j /\ Q (upd H p (.lst (xs.set j v)))
theorem set_list : PSet X rSetL := by
 intro pins s σ H o i v ov iv u Q I ro ri rv h;obtain ⟨p, xs, k, j, rfl, rfl, hp, hj, q⟩ := h;cases ro;obtain ⟨t, rfl⟩ := ri;obtain ⟨its, n, r, ho, hz⟩ := I.lst hp;obtain ⟨h1, h2, h3, h4⟩ := ixN_seq hj;have hl := r.length;have hn := line63;have I' : Inv X pins σ (upd H p (.lst (xs.set j v))) { s with heap := s.heap.update p (Obj.mapSeq (·.setIfInBounds j u)) } :=
  I.lstUpd hp ho (mapSeq_set its n j u) (r.set rv j) (by rw [List.length_set]; exact hz) s.toks
 by_cases h0 : 0 <= k
 ·have hk : k.toNat = j := by
   rw [seqIndex_of h0 h4] at h1;exact Option.some.inj h1
  exact PySem.W.ki_setAt ho h0 (by omega) (by rw [List.size_toArray, <- hl]; exact h4) (by rw [hk]; exact ⟨_, I', q⟩)
 ·have hk : (k + (its.toArray.size : Int)).toNat = j := by
   rw [seqIndex_neg (by omega) h3] at h1;rw [List.size_toArray, <- hl];exact Option.some.inj h1
  exact PySem.W.ki_setBack ho (by omega) (by rw [List.size_toArray, <- hl]; exact h3) (by omega) (by rw [hk]; exact ⟨_, I', q⟩)
theorem slice_bounds (lo hi : Option Int) (n : Nat) : (sliceBounds lo hi none n).1 = ((HT.sIx n 0 lo : Nat) : Int) /\ (sliceBounds lo hi none n).2.1 = ((HT.sIx n n hi : Nat) : Int) /\ (sliceBounds lo hi none n).2.2 = 1 := by
 refine ⟨?_, ?_, rfl⟩
 ·cases lo with
  | none => simp [sliceBounds, HT.sIx]
  | some i =>
   simp only [sliceBounds, HT.sIx, Option.getD_none, show (1 : Int) > 0 by decide, if_true]
   by_cases h : i < 0
   ·simp only [h, if_true] <;> omega
   ·simp only [h, if_false] <;> omega
 ·cases hi with
  | none => simp [sliceBounds, HT.sIx]
  | some i =>
   simp only [sliceBounds, HT.sIx, Option.getD_none, show (1 : Int) > 0 by decide, if_true]
   by_cases h : i < 0
   ·simp only [h, if_true] <;> omega
   ·simp only [h, if_false] <;> omega
theorem slicePick_cut (its : List Value) (lo hi : Option Int) : slicePick its.toArray lo hi none = ((its.drop (HT.sIx its.length 0 lo)).take (HT.sIx its.length its.length hi - HT.sIx its.length 0 lo)).toArray := by
 obtain ⟨h1, h2, h3⟩ := slice_bounds lo hi its.toArray.size;unfold slicePick;rw [h1, h2, h3];simp only [sliceRange_one, pick_run, List.size_toArray] <;> rfl
def rSlL (K : PySem.W.Frag) : V -> Option Int -> Option Int -> Hp -> VK -> Prop := fun x lo hi H Q => ∃ a xs, x = .ref a /\ SqL K H a xs /\ ∀ p, H p = none -> Q (.ref p) (upd H p (.lst (cutV xs lo hi)))
theorem sl_list : SlR X (rSlL X.K) := by
 intro pins s σ H x v vl vu lo hi sl Q I rx hs pl pu h;obtain ⟨a, xs, rfl, hx, q⟩ := h;cases rx;obtain ⟨its, r, ht, hz⟩ := I.list hx;have hlen := r.length;refine ⟨"list", _, slot_list_getitem.lookup, ht.isList.typeIs, ?_⟩;refine wpAny_getItem_list_slice ht.isList hs pl pu .none (by simp) ?_ (by rw [List.size_toArray] <;> omega);rw [slicePick_cut, <- hlen];refine ⟨.ref s.heap.objs.size, _, I.laid (t' := s.toks) (o := .lst (cutV xs lo hi)) (fun b ob q => Heap.get?_push_of_some _ q) (Nat.le_refl _) ?_, rfl, q _ (I.hok.fresh (Nat.le_refl _))⟩;exact ⟨Nat.le_trans (cutV_length xs lo hi) hz, _, 0, (r.drop (HT.sIx xs.length 0 lo)).take (HT.sIx xs.length xs.length hi - HT.sIx xs.length 0 lo), Heap.get?_push_size _ rfl⟩
theorem call_len_seq : CallR X (.builtin "len") (fun xs H Q => ∃ p ys, xs = [.ref p] /\ (SqL X.K H p ys ∨ SqT X.K H p ys) /\ Q (.int ys.length) H) := by
 intro pins s σ H xs us Q I r h;obtain ⟨p, ys, rfl, hq, q⟩ := h;obtain ⟨u, rfl, rx⟩ := vals1 r;cases rx;have hn := line63;rcases hq with hq | hq
 ·obtain ⟨its, r', pl, hz⟩ := I.list hq;have hlen := r'.length;exact Calls.call_len_list pl.isList (by simp only [List.size_toArray] <;> omega) ⟨.int ys.length, H, I.tok _, ⟨s.toks + 1, by rw [List.size_toArray, hlen]⟩, q⟩
 ·obtain ⟨its, r', pl, hz⟩ := I.tuple hq;have hlen := r'.length;exact len_tuple pl (by simp only [List.size_toArray] <;> omega) ⟨.int ys.length, H, I.tok _, ⟨s.toks + 1, by rw [List.size_toArray, hlen]⟩, q⟩
theorem call_list_of : CallR X (.type "list") (fun xs H Q => ∃ p ys, xs = [.ref p] /\ (SqL X.K H p ys ∨ SqT X.K H p ys) /\ ∀ l, H l = none -> Q (.ref l) (upd H l (.lst ys))) := by
 intro pins s σ H xs us Q I r h;obtain ⟨p, ys, rfl, hq, q⟩ := h;obtain ⟨u, rfl, rx⟩ := vals1 r;cases rx;have fin : ∀ (its : List Value), Vals ys its -> ys.length <= sizeLine -> ∀ (h' : Heap) (c' : Nat), (∀ b o', s.heap.get? b = some o' -> h'.get? b = some o') ->
   h'.get? s.heap.objs.size = some { cls := .type "list", dict := none, data := .seq its.toArray c', slots := #[] } -> EP X pins σ Q (.ref s.heap.objs.size) { s with heap := h' } := fun its r' hz h' c' kp e =>
  ⟨.ref s.heap.objs.size, _, I.laid (t' := s.toks) kp (Nat.le_refl _) (show ObjOk X.prog X.w _ h' _ (.lst ys) from ⟨hz, its, c', r', e⟩), rfl, q _ (I.hok.fresh (Nat.le_refl _))⟩
 rcases hq with hq | hq
 ·obtain ⟨its, r', pl, hz⟩ := I.list hq;have hlen := r'.length;obtain ⟨o, ho, hc, n, hd⟩ := pl.isList;exact call_list_seq p (.inl rfl) ho hc hd (fun h' c' kp e => fin its r' hz h' c' kp e) (by simp only [List.size_toArray] <;> omega)
 ·obtain ⟨its, r', pl, hz⟩ := I.tuple hq;have hlen := r'.length;obtain ⟨o, ho, hc, n, hd⟩ := pl;exact call_list_seq p (.inr rfl) ho hc hd (fun h' c' kp e => fin its r' hz h' c' kp e) (by simp only [List.size_toArray] <;> omega)
theorem call_tuple_of : CallR X (.type "tuple") (fun xs H Q => ∃ p ys, xs = [.ref p] /\ ((SqL X.K H p ys /\ ∀ l, H l = none -> Q (.ref l) (upd H l (.tup ys))) ∨ (SqT X.K H p ys /\ Q (.ref p) H))) := by
 intro pins s σ H xs us Q I r h;obtain ⟨p, ys, rfl, h⟩ := h;obtain ⟨u, rfl, rx⟩ := vals1 r;cases rx;rcases h with ⟨hq, q⟩ | ⟨hq, q⟩
 ·obtain ⟨its, r', pl, hz⟩ := I.list hq;have hlen := r'.length;refine call_tuple_list pl.isList (fun h' kp => ?_) (by simp only [List.size_toArray] <;> omega);have I1 : Inv X pins σ H { s with heap := h' } := I.kept (t' := s.toks) kp
  have I2 : Inv X pins σ (upd H h'.objs.size (.tup ys)) { s with heap := h'.push { cls := .type "tuple", data := .seq its.toArray } } :=
   I1.laid (t' := s.toks) (fun b o e => Heap.get?_push_of_some _ e) (Nat.le_refl _) (show ObjOk X.prog X.w _ _ _ (.tup ys) from ⟨hz, its, r', IsTup.new _ _⟩)
  exact ⟨.ref h'.objs.size, _, I2, rfl, q _ (I1.hok.fresh (Nat.le_refl _))⟩
 ·obtain ⟨its, r', pl, hz⟩ := I.tuple hq;exact call_tuple_same pl ⟨.ref p, H, I, rfl, q⟩
def tyV (K : PySem.W.Frag) (T : String) (x : V) (H : Hp) : Prop := match x with
 | .str _ => T = "str"
 | .int _ => T = "int"
 | .ref p => (T = "list" /\ ∃ xs, SqL K H p xs) ∨ (T = "tuple" /\ ∃ o, K.lookup p = some o /\ o.cls = .type "tuple" /\ o.dict = none) ∨
   (T = "dict" /\ ((∃ kvs, H p = some (.dK kvs)) ∨ ∃ kvs, H p = some (.dT kvs))) ∨ (T = "set" /\ ∃ S n, H p = some (.set S n))
 | _ => False
theorem tyV_is {pins : List (Addr × Obj)} {σ : St} {H : Hp} {s : Shared} {T : String} {x : V} {v : Value} (I : Inv X pins σ H s) (r : RelV x v) (ty : tyV X.K T x H) :
  s.TypeIs v T /\ ∀ a, v = .ref a -> ∃ ob, s.heap.get? a = some ob /\ ob.dict = none := by
 cases x with
 | str z =>
  obtain ⟨t, rfl⟩ := r;cases (show T = "str" from ty);exact ⟨typeIs_str s z t, fun _ e => nomatch e⟩
 | int i =>
  obtain ⟨t, rfl⟩ := r;cases (show T = "int" from ty);exact ⟨typeIs_int s i t, fun _ e => nomatch e⟩
 | ref p =>
  cases r;rcases ty with ⟨rfl, xs, hq⟩ | ⟨rfl, o, hk, hc, hd⟩ | ⟨rfl, hk⟩ | ⟨rfl, S, n, hk⟩
  ·obtain ⟨its, _, pl, _⟩ := I.list hq;refine ⟨pl.isList.typeIs, fun a e => ?_⟩;cases e;obtain ⟨o, n, e, c, hd, _⟩ := pl;exact ⟨o, e, hd⟩
  ·refine ⟨⟨o, I.kIn p o hk, hc⟩, fun a e => ?_⟩;cases e;exact ⟨o, I.kIn _ o hk, hd⟩
  ·have z : ∃ o, s.heap.get? p = some o /\ o.ExactDict := by
    rcases hk with ⟨kvs, hk⟩ | ⟨kvs, hk⟩
    ·obtain ⟨_, _, _, _, o, _, _, e, ex, _⟩ := I.hok p _ hk;exact ⟨o, e, ex⟩
    ·obtain ⟨_, _, _, _, o, _, _, e, ex, _⟩ := I.hok p _ hk;exact ⟨o, e, ex⟩
   obtain ⟨o, e, ex⟩ := z;refine ⟨⟨o, e, ex.1⟩, fun a e2 => ?_⟩;cases e2;exact ⟨o, e, ex.2.1⟩
  ·obtain ⟨o, _, _, _, e, ex, _⟩ := I.hok p _ hk;refine ⟨⟨o, e, ex.1⟩, fun a e2 => ?_⟩;cases e2;exact ⟨o, e, ex.2.1⟩
 | _ => exact False.elim ty
def tBM0 (K : PySem.W.Frag) (T : String) (r : V -> List V -> Hp -> VK -> Prop) (to : TE) : TE := fun σ H Q => to σ H fun x H1 => tyV K T x H1 /\ r x [] H1 Q
def tBM (K : PySem.W.Frag) (T : String) (r : V -> List V -> Hp -> VK -> Prop) (to : TE) (t : TA) : TE := fun σ H Q => to σ H fun x H1 => tyV K T x H1 /\ t σ H1 fun xs H2 => r x xs H2 Q
variable {o e : Expr} {es : List Expr} {to : TE} {t : TA} {name : Str} {apos cpos : Pos} {T id : String} {r : V -> List V -> Hp -> VK -> Prop}
theorem pe_bm0 (pa : PlainAttrs T) (slot : Slot T name id) (hty : typeOf (.builtin id) = pure (.type "method_descriptor")) (hm : MtR X id r) (ho : PE X o to)
  (hbase : attributeBase o name X.env (eval o X.env) = eval o X.env := by rfl) (hline : (apos.endLine == cpos.line) = true := by rfl) : PE X (.Call (.Attribute o name apos) [] [] cpos) (tBM0 X.K T r to) := by
 intro pins s σ H Q I h;refine wpAny_Call_method0_late hbase hline (thn (ho pins s σ H _ I h) fun v s1 ⟨x, H1, I1, r1, ty, q1⟩ => ?_);obtain ⟨h1, h2⟩ := tyV_is I1 r1 ty;exact ⟨T, id, pa, slot, hty, h1, h2, Calls.callWith_builtin rfl (PySem.evalArgs_none (hm pins s1 σ H1 x [] v [] Q I1 r1 .nil q1))⟩
theorem pe_bm (pa : PlainAttrs T) (slot : Slot T name id) (hty : typeOf (.builtin id) = pure (.type "method_descriptor")) (hm : MtR X id r) (ho : PE X o to) (ha : PA X (e :: es) t)
  (hbase : attributeBase o name X.env (eval o X.env) = eval o X.env := by rfl)
  (hfew : ((backTo cpos (starEach (e :: es) X.env)).all (fun x => !x.1) && (backToKw cpos (keywordEach [] X.env)).all (fun x => x.1.isSome)
   && decide ((e :: es).length + ([] : List Keyword).length + (if ([] : List Keyword).isEmpty then 0 else 1) < 30)) = true := by rfl)
  (hline : (apos.endLine == cpos.line) = true := by rfl) (hs : starEach (e :: es) X.env = (false, eval e X.env) :: starEach es X.env := by rfl) (hplain : (backTo cpos (starEach es X.env)).any (·.1) = false := by rfl) :
  PE X (.Call (.Attribute o name apos) (e :: es) [] cpos) (tBM X.K T r to t) := by
 intro pins s σ H Q I h;refine wpAny_Call_method_late hbase hfew hline rfl (thn (ho pins s σ H _ I h) fun v s1 ⟨x, H1, I1, r1, ty, q1⟩ => ?_);obtain ⟨h1, h2⟩ := tyV_is I1 r1 ty;refine ⟨T, id, pa, slot, hty, h1, h2, ?_⟩;have hA := ha cpos pins s1 σ H1 _ I1 q1;rw [hs] at hA ⊢;refine Calls.callWith_builtin (by show (false || (backTo cpos (starEach es X.env)).any (·.1)) = false; rw [hplain] <;> rfl) (Calls.evalArgs_plain ?_);exact thn hA fun us s2 ⟨vs, H2, I2, r2, q2⟩ => hm pins s2 σ H2 x vs v us Q I2 r1 r2 q2
/- xs.append(e), list.index on a module's tuple .. are MtR facts of 06m -/
end
end L2
namespace L2
open PySem PySem.Spec PyProof.Rows
def MtM (X : Cx) (id : String) (r : V -> List V -> Hp -> VK -> Prop) : Prop :=
 ∀ (pins : List (Addr × Obj)) (s : Shared) (σ : St) (H : Hp) (x : V) (xs : List V) (v : Value) (us : List Value) (Q : VK), Inv X pins σ H s -> RelV x v -> Vals xs us -> r x xs H Q ->
  wpAny (model X.prog X.w) X.A (call (.builtin id) (v :: us)) (EP X pins σ Q) X.xe s
theorem Vals.one : ∀ {x : V} {us : List Value}, Vals [x] us -> ∃ u, us = [u] /\ RelV x u
 | _, _, .cons r .nil => ⟨_, rfl, r⟩
theorem Vals.reverse {xs : List V} {us : List Value} (h : Vals xs us) : Vals xs.reverse us.reverse := by
 induction h with
 | nil => exact .nil
 | cons r t ih => rw [List.reverse_cons, List.reverse_cons]; exact Vals.append ih (.cons r .nil)
section
variable {X : Cx} {pins : List (Addr × Obj)} {σ : St} {H : Hp} {s : Shared} {l b : Addr} {xs ys zs : List V}
theorem Inv.lset {its its' : List Value} {n : Nat} {f : Array Value -> Array Value} {t' : Nat} (I : Inv X pins σ H s) (hH : H l = some (.lst xs))
  (e : s.heap.get? l = some { cls := .type "list", data := .seq its.toArray n }) (hf : f its.toArray = its'.toArray) (hv : Vals ys its') (hz : ys.length <= sizeLine) :
  Inv X pins σ (upd H l (.lst ys)) { s with heap := s.heap.update l (Obj.mapSeq f), toks := t' } := by
 have q := PySem.IsL.update e f;rw [hf] at q;refine I.write (x := l) (e := l) (by rw [hH]; exact trivial) (.inl rfl) (fun b' u hb hu => (Heap.get?_update_other s.heap (Obj.mapSeq f) (Ne.symm hb)).trans hu) ⟨_, q⟩ ?_;exact ⟨hz, its', _, hv, q⟩
theorem Inv.lnew {its : List Value} {t' : Nat} (I : Inv X pins σ H s) (hv : Vals ys its) (hz : ys.length <= sizeLine) :
  Inv X pins σ (upd H s.heap.objs.size (.lst ys)) { s with heap := s.heap.push { cls := .type "list", data := .seq its.toArray }, toks := t' } :=
 I.laid (fun _ _ q => Heap.get?_push_of_some _ q) (Nat.le_refl _) ⟨hz, its, 0, hv, Heap.get?_push_size _ rfl⟩
theorem Inv.fresh (I : Inv X pins σ H s) : H s.heap.objs.size = none := I.hok.fresh (Nat.le_refl _)
theorem Inv.lstM (I : Inv X pins σ H s) (hH : H l = some (.lst xs)) : xs.length <= sizeLine /\ ∃ (its : List Value) (n : Nat), Vals xs its /\ xs.length = its.length /\ s.heap.get? l = some { cls := .type "list", data := .seq its.toArray n } := by
 obtain ⟨z, its, n, r, e⟩ := I.hok l _ hH;exact ⟨z, its, n, r, r.length, e⟩
theorem notLongL {n : Nat} (h : n <= sizeLine) : Builtin.List.listTooLong n = false := by
 unfold Builtin.List.listTooLong;exact decide_eq_false (by omega)
end
section
variable {X : Cx}
def rAppend : V -> List V -> Hp -> VK -> Prop := fun x vs H Q => ∃ l xs y, x = .ref l /\ vs = [y] /\ H l = some (.lst xs) /\ xs.length < sizeLine /\ Q .non (upd H l (.lst (xs ++ [y])))
theorem mt_append : MtM X "list.append" rAppend := by
 intro pins s σ H x vs v us Q I rx rv h;obtain ⟨l, xs, y, rfl, rfl, hH, hz, q⟩ := h;cases rx;obtain ⟨u, rfl, ru⟩ := rv.one;obtain ⟨z, its, n, r, hl, e⟩ := I.lstM hH;refine call_meets F.slot_list_append ⟨_, e, rfl⟩ F.entry_list_append (F.args_list_append_2 _ _) (PySem.list_append l its.toArray n u (by rw [List.size_toArray]; omega)) ⟨e, ?_⟩;refine ⟨.non, _, I.lset (its' := its ++ [u]) hH e (by simp) (r.append (.cons ru .nil)) ?_, rfl, q⟩;rw [List.length_append, List.length_singleton];omega
def rExtend : V -> List V -> Hp -> VK -> Prop := fun x vs H Q => ∃ l b xs zs, x = .ref l /\ vs = [.ref b] /\ H l = some (.lst xs) /\ H b = some (.lst zs) /\ xs.length + zs.length <= sizeLine /\ Q .non (upd H l (.lst (xs ++ zs)))
theorem mt_extend : MtM X "list.extend" rExtend := by
 intro pins s σ H x vs v us Q I rx rv h;obtain ⟨l, b, xs, zs, rfl, rfl, hH, hB, hz, q⟩ := h;cases rx;obtain ⟨u, rfl, ru⟩ := rv.one;cases ru;obtain ⟨z, its, n, r, hl, e⟩ := I.lstM hH;obtain ⟨z2, its2, n2, r2, hl2, e2⟩ := I.lstM hB;have hsz : its.toArray.size + its2.toArray.size <= sizeLine := by rw [List.size_toArray, List.size_toArray]; omega
 have hlong : ¬ (!its.toArray.isEmpty && Builtin.List.listTooLong (its.toArray.size + its2.toArray.size)) = true := by
  rw [notLongL hsz, Bool.and_false];exact Bool.false_ne_true
 refine call_meets F.slot_list_extend ⟨_, e, rfl⟩ F.entry_list_extend (F.args_list_extend_2 _ _)
  (AutoSeq1.list_extend_list_list_0 l its.toArray n b its2.toArray n2 hlong (by rw [List.size_toArray]; omega) (by omega)) ⟨e, e2, ?_⟩
 refine ⟨.non, _, I.lset (its' := its ++ its2) hH e (by simp) (r.append r2) ?_, rfl, q⟩;rw [List.length_append];omega
def rCat : R2 := fun x y H Q => ∃ l b xs zs, x = .ref l /\ y = .ref b /\ H l = some (.lst xs) /\ H b = some (.lst zs) /\ xs.length + zs.length <= sizeLine /\ ∀ p, H p = none -> Q (.ref p) (upd H p (.lst (xs ++ zs)))
theorem op_cat : OpR X (binaryOp .Add) rCat := by
 intro pins s σ H x y v u Q I rx ry h;obtain ⟨l, b, xs, zs, rfl, rfl, hH, hB, hz, q⟩ := h;cases rx;cases ry;obtain ⟨z, its, n, r, hl, e⟩ := I.lstM hH;obtain ⟨z2, its2, n2, r2, hl2, e2⟩ := I.lstM hB;refine PySem.P.add_list e e2 ?_ (by rw [List.size_toArray, List.size_toArray]; omega);have ea : its.toArray ++ its2.toArray = (its ++ its2).toArray := by simp
 rw [ea];exact ⟨.ref _, _, I.lnew (t' := s.toks) (r.append r2) (by rw [List.length_append]; omega), rfl, q _ I.fresh⟩
end
section
variable {prog : Program} {w : World} {A : Around} {E : Value -> Shared -> Prop} {s : Shared}
end
section
variable {X : Cx}
end
end L2
namespace L2
open PySem PySem.Spec PyProof.Rows
theorem Vals.ints : ∀ {ns : List Int} {us : List Value}, Vals (ns.map V.int) us -> IntsAre us ns
 | [], us, h => by
  rw [List.map_nil] at h;cases h;exact IntsAre.nil
 | n :: ns, us, h => by
  rw [List.map_cons] at h;cases h with
  | cons r t =>
   obtain ⟨k, rfl⟩ := r;exact IntsAre.cons n k (Vals.ints t)
theorem vals_of_ints : ∀ {us : List Value} {ns : List Int}, IntsAre us ns -> Vals (ns.map V.int) us
 | _, _, .nil => by rw [List.map_nil]; exact Paired.nil
 | _, _, .cons n t h => by rw [List.map_cons]; exact Paired.cons (show RelV (V.int n) (Value.int n t) from ⟨t, rfl⟩) (vals_of_ints h)
theorem Vals.bls : ∀ {bs : List Bool} {us : List Value}, Vals (bs.map V.bl) us -> us = bs.map Value.bool
 | [], us, h => by
  rw [List.map_nil] at h;cases h;rfl
 | b :: bs, us, h => by
  rw [List.map_cons] at h;cases h with
  | cons r t =>
   cases r;rw [Vals.bls t, List.map_cons]
theorem Vals.ref1 {a : Addr} {us : List Value} (r : Vals [V.ref a] us) : us = [Value.ref a] := by
 cases r with
 | cons r t =>
  cases t;cases r;rfl
section
variable {prog : Program} {w : World} {A : Around} {E : Value -> Shared -> Prop} {s : Shared} {l : Addr} {its : List Value} {ns : List Int} {Q : Value -> Shared -> Prop}
theorem sum_raw (hh : A.handled = none) (hl : s.heap.IsList l its.toArray) (hi : IntsAre its ns)
  (h : ∀ h' tk t', (∀ b o, s.heap.get? b = some o -> h'.get? b = some o) -> Q (.int ns.sum t') { s with heap := h', toks := tk }) : wpAny (model prog w) A (call (.builtin "sum") [.ref l]) Q E s := by
 obtain ⟨xs, e⟩ := hi.allInts.items;have hn : numsOf (intItems xs).toList = ns := by rw [<- e]; exact hi.numsOf
 rw [nums_intItems] at hn;rw [e] at hl;refine PySem.sum_intListG hh hl fun h' tk t' hk => ?_;have := h h' tk t' hk;rw [preSum_eq, List.take_of_length_le (by simp), hn]; exact this
end
section
variable {X : Cx}
def rSum (K : PySem.W.Frag) : List V -> Hp -> VK -> Prop := fun vs H Q => ∃ (a : Addr) (ns : List Int), vs = [V.ref a] /\ SqL K H a (ns.map V.int) /\ Q (.int ns.sum) H
theorem cr_sum (hc : X.calm = true) : CallR X (.builtin "sum") (rSum X.K) := by
 intro pins s σ H vs us Q I r h;obtain ⟨a, ns, rfl, hs, q⟩ := h;obtain ⟨its, rv, hl, _⟩ := I.list hs;rw [Vals.ref1 r];exact sum_raw (I.ok.hd hc) hl.isList rv.ints fun h' tk t' hk => ⟨.int _, H, I.kept hk, ⟨_, rfl⟩, q⟩
theorem small64 {n : Nat} (h : n < 64) : n <= sizeLine := by rw [sizeLine_eq]; omega
end
section
variable {X : Cx}
end
section
variable {X : Cx}
end
theorem iter_any {prog : Program} {w : World} {A : Around} {E : Value -> Shared -> Prop} {s : Shared} {l : Addr} {items : Array Value} {Q : Value -> Shared -> Prop} (hl : s.heap.IsList l items)
  (h : ∀ s₂ : Shared, s₂ = { s with heap := s.heap.push { cls := .type "list_iterator", data := .fields #[.ref l, .int 0 0] } } ->
   (s₂.heap.IsListIter s.heap.objs.size l 0 /\ s₂.heap.IsList l items) -> l ≠ s.heap.objs.size -> Q (.ref s.heap.objs.size) s₂) : wpAny (model prog w) A (pyIter (.ref l)) Q E s := by
 have hlt : l < s.heap.objs.size := by obtain ⟨_, e, _⟩ := hl; exact Heap.lt_size e
 exact wpAny_pyIter_list hl (h _ rfl ⟨⟨_, Heap.get?_push_size _ rfl, rfl, rfl⟩, hl.push _⟩ (Nat.ne_of_lt hlt))
theorem truth_bools {prog : Program} {w : World} {A : Around} {bs : List Bool} {its : List Value} (e : its = bs.map Value.bool) :
  TruthOf prog w A (fun i v => its.toArray[i]? = some v) (fun i => bs.getD i false) := fun i v s Q E hv hq => by
 have hv' : its[i]? = some v := by simpa using hv
 rw [e, List.getElem?_map] at hv';obtain ⟨b, hb, rfl⟩ := Option.map_eq_some_iff.mp hv';have hg : bs.getD i false = b := by rw [List.getD_eq_getElem?_getD, hb] <;> rfl
 have hq' : Q (bs.getD i false) s := hq;rw [hg] at hq';exact wpAny_truthy_bool hq'
theorem all_range : ∀ bs : List Bool, (List.range bs.length).all (fun i => bs.getD i false) = bs.all id
 | [] => rfl
 | b :: bs => by
  rw [List.length_cons, List.range_succ_eq_map, List.all_cons, List.all_map, List.all_cons, <- all_range bs];all_goals rfl
section
variable {X : Cx}
def rAll (K : PySem.W.Frag) : List V -> Hp -> VK -> Prop := fun vs H Q => ∃ (a : Addr) (bs : List Bool), vs = [V.ref a] /\ SqL K H a (bs.map V.bl) /\ Q (.bl (bs.all id)) H
theorem cr_all (hc : X.calm = true) : CallR X (.builtin "all") (rAll X.K) := by
 intro pins s σ H vs us Q I r h;obtain ⟨a, bs, rfl, hs, q⟩ := h;obtain ⟨its, rv, hl, _⟩ := I.list hs;rw [Vals.ref1 r];have hb := rv.bls;refine call_all_walk (iter_any hl.isList fun s₂ e2 st hne => ?_);subst e2;refine ⟨_, _, _, _, _, _, _, rfl, Walks.list (A := X.A.in1) (I.ok.hd hc) _ a hne its.toArray, st, truth_bools hb, fun h' tk hk => ?_⟩;refine ⟨.bl _, H, I.kept fun b o eo => hk b o (fun hmem => ?_) (Heap.get?_push_of_some _ eo), ?_, q⟩
 ·rcases List.mem_cons.mp hmem with e1 | hmem
  ·exact absurd (e1 ▸ Heap.lt_size eo) (Nat.lt_irrefl _)
  ·cases hmem
 ·show Value.bool _ = Value.bool _;rw [<- all_range, hb, List.size_toArray, List.length_map]
end
mutual
inductive Dp (K : PySem.W.Frag) (H : Hp) : V -> PyData -> Prop
 | non : Dp K H .non .none
 | bl (b : Bool) : Dp K H (.bl b) (.bool b)
 | int (i : Int) : Dp K H (.int i) (.int i)
 | str (x : Str) : Dp K H (.str x) (.str x)
 | lst {a : Addr} {xs : List V} {ds : List PyData} : SqL K H a xs -> DpAll K H xs ds -> Dp K H (.ref a) (.list ds)
 | tup {a : Addr} {xs : List V} {ds : List PyData} : SqT K H a xs -> DpAll K H xs ds -> Dp K H (.ref a) (.tuple ds)
inductive DpAll (K : PySem.W.Frag) (H : Hp) : List V -> List PyData -> Prop
 | nil : DpAll K H [] []
 | cons {v : V} {vs : List V} {d : PyData} {ds : List PyData} : Dp K H v d -> DpAll K H vs ds -> DpAll K H (v :: vs) (d :: ds)
end
section
variable {X : Cx} {pins : List (Addr × Obj)} {σ : St} {H : Hp} {s : Shared}
mutual
theorem Dp.reads (I : Inv X pins σ H s) : ∀ (d : PyData) (v : V) (u : Value), Dp X.K H v d -> RelV v u -> ∃ as, Reads s.heap u d as
 | .none, _, _, h, r => by
  cases h;cases r;exact ⟨_, Reads.none⟩
 | .bool b, _, _, h, r => by
  cases h;cases r;exact ⟨_, Reads.bool b⟩
 | .int i, _, _, h, r => by
  cases h;obtain ⟨t, rfl⟩ := r;exact ⟨_, Reads.int i t⟩
 | .str x, _, _, h, r => by
  cases h;obtain ⟨t, rfl⟩ := r;exact ⟨_, Reads.str x t⟩
 | .list ds, _, _, h, r => by
  cases h with
  | lst hs ha =>
   cases r;obtain ⟨its, rv, ⟨o, n, ho, hc, _, hd⟩, _⟩ := I.list hs;obtain ⟨as, hr⟩ := Dp.readsAll I ds _ its ha rv;exact ⟨_, Reads.list ho hc hd hr⟩
 | .tuple ds, _, _, h, r => by
  cases h with
  | tup hs ha =>
   cases r;obtain ⟨its, rv, ⟨o, ho, hc, n, hd⟩, _⟩ := I.tuple hs;obtain ⟨as, hr⟩ := Dp.readsAll I ds _ its ha rv;exact ⟨_, Reads.tuple ho hc hd hr⟩
 | .dict _, _, _, h, _ => by cases h
theorem Dp.readsAll (I : Inv X pins σ H s) : ∀ (ds : List PyData) (vs : List V) (us : List Value), DpAll X.K H vs ds -> Vals vs us -> ∃ as, ReadsAll s.heap us ds as
 | [], _, _, h, r => by
  cases h;cases r;exact ⟨_, ReadsAll.nil⟩
 | d :: ds, _, _, h, r => by
  cases h with
  | cons h1 h2 =>
   cases r with
   | cons r1 r2 =>
    obtain ⟨as, q1⟩ := Dp.reads I d _ _ h1 r1;obtain ⟨bs, q2⟩ := Dp.readsAll I ds _ _ h2 r2;exact ⟨_, ReadsAll.cons q1 q2⟩
end
end
section
variable {X : Cx}
def rEqD (K : PySem.W.Frag) : R2 := fun x y H Q => ∃ d e, Dp K H x d /\ Dp K H y e /\ SeqAt.shaped d = true /\ SeqAt.shaped e = true /\ Q (.bl (PyData.eqv d e)) H
def rNeD (K : PySem.W.Frag) : R2 := fun x y H Q => ∃ d e, Dp K H x d /\ Dp K H y e /\ SeqAt.shaped d = true /\ SeqAt.shaped e = true /\ Q (.bl (!PyData.eqv d e)) H
theorem op_eqD (hu : X.A.units + 64 < cLine) : OpR X (compareOp .Eq) (rEqD X.K) := by
 intro pins s σ H x y v u Q I rx ry h;obtain ⟨d, e, hd, he, sd, se, q⟩ := h;obtain ⟨as, r1⟩ := Dp.reads I d x v hd rx;obtain ⟨bs, r2⟩ := Dp.reads I e y u he ry;exact SeqAt.compareEq_shaped r1 r2 sd se hu ⟨.bl _, H, I, rfl, q⟩
theorem op_neD (hu : X.A.units + 64 < cLine) : OpR X (compareOp .NotEq) (rNeD X.K) := by
 intro pins s σ H x y v u Q I rx ry h;obtain ⟨d, e, hd, he, sd, se, q⟩ := h;obtain ⟨as, r1⟩ := Dp.reads I d x v hd rx;obtain ⟨bs, r2⟩ := Dp.reads I e y u he ry;exact SeqAt.compareNe_shaped r1 r2 sd se hu ⟨.bl _, H, I, rfl, q⟩
end
end L2
namespace L2
open PySem PySem.Spec PyProof.Rows
abbrev CellAt (h : Heap) (c : Addr) (v : Option Value) : Prop := h.IsCell c v
def relS (scope sc : Scope) : Scope :=
 { scope with names := scope.names.map fun (n, k) => if (k == .free && sc.kind == .function && sc.names.lookup n == some .cell) then (n, .cell) else (n, k) }
def cloFrom (cells : List (Str × Addr)) : List (Str × NameKind) -> List (Str × Addr) -> List (Str × Addr)
 | [], acc => acc
 | (n, k) :: r, acc => if k == .free then cloFrom cells r ((n, (cells.lookup n).getD 0) :: acc) else cloFrom cells r acc
theorem closure_loop (env : Env) (f : Str × NameKind -> List (Str × Addr) -> Sem (ForInStep (List (Str × Addr))))
  (hf : ∀ n k c, f (n, k) c = if k == .free then (do let a <- cellOf env n; pure (.yield ((n, a) :: c))) else pure (.yield c)) :
  ∀ (names : List (Str × NameKind)) (acc : List (Str × Addr)), (∀ y ∈ names, y.2 = .free -> ∃ c, env.cells.lookup y.1 = some c) -> forIn names acc f = pure (cloFrom env.cells names acc)
 | [], acc, _ => by rw [List.forIn_nil]; rfl
 | (n, k) :: r, acc, h => by
  rw [List.forIn_cons, hf];have ih := fun acc => closure_loop env f hf r acc fun y hy => h y (List.mem_cons_of_mem _ hy);unfold cloFrom
  by_cases hk : (k == NameKind.free) = true
  ·rw [if_pos hk, if_pos hk];obtain ⟨c, hc⟩ := h (n, k) List.mem_cons_self (by simpa using hk);have e : cellOf env n = pure c := by unfold cellOf; rw [hc]
   rw [e];have e2 : (env.cells.lookup n).getD 0 = c := by rw [hc]; rfl
   rw [e2];exact ih _
  ·rw [if_neg hk, if_neg hk];exact ih _
theorem closure_ok {scope : Scope} {env : Env} (h : ∀ y ∈ scope.names, y.2 = .free -> ∃ c, env.cells.lookup y.1 = some c) : closureFor scope env = pure (cloFrom env.cells scope.names []) := by
 simp only [closureFor];rw [closure_loop env _ (fun n k c => rfl) scope.names [] h];rfl
theorem mem_lookup {α : Type} : ∀ {l : List (Str × α)} {n : Str} {c : α}, (n, c) ∈ l -> ∃ c', l.lookup n = some c'
 | (k, v) :: r, n, c, h => by
  rw [List.lookup_cons];cases hb : n == k with
  | true => exact ⟨_, rfl⟩
  | false =>
   rcases List.mem_cons.mp h with e | h
   ·cases e; simp at hb
   ·exact mem_lookup h
theorem cloFrom_mem {cells : List (Str × Addr)} : ∀ {names : List (Str × NameKind)} {acc : List (Str × Addr)} {n : Str} {c : Addr}, (n, c) ∈ cloFrom cells names acc -> (n, c) ∈ acc ∨ ((n, .free) ∈ names /\ c = (cells.lookup n).getD 0)
 | [], _, _, _, h => .inl h
 | (m, k) :: r, acc, n, c, h => by
  unfold cloFrom at h
  split at h
  ·rename_i hk;have hk : k = .free := by simpa using hk
   rcases cloFrom_mem h with h | ⟨h1, h2⟩
   ·rcases List.mem_cons.mp h with e | h
    ·cases e; exact .inr ⟨hk ▸ List.mem_cons_self, rfl⟩
    ·exact .inl h
   ·exact .inr ⟨List.mem_cons_of_mem _ h1, h2⟩
  ·rcases cloFrom_mem h with h | ⟨h1, h2⟩
   ·exact .inl h
   ·exact .inr ⟨List.mem_cons_of_mem _ h1, h2⟩
theorem cloFrom_acc {cells : List (Str × Addr)} : ∀ {names : List (Str × NameKind)} {acc : List (Str × Addr)} {p : Str × Addr}, p ∈ acc -> p ∈ cloFrom cells names acc
 | [], _, _, h => h
 | (m, k) :: r, acc, p, h => by
  unfold cloFrom
  split
  ·exact cloFrom_acc (List.mem_cons_of_mem _ h)
  ·exact cloFrom_acc h
theorem cloFrom_has {cells : List (Str × Addr)} : ∀ {names : List (Str × NameKind)} {acc : List (Str × Addr)} {n : Str}, (n, .free) ∈ names -> (n, (cells.lookup n).getD 0) ∈ cloFrom cells names acc
 | (m, k) :: r, acc, n, h => by
  unfold cloFrom;rcases List.mem_cons.mp h with e | h
  ·cases e;exact cloFrom_acc List.mem_cons_self
  ·split
   ·exact cloFrom_has h
   ·exact cloFrom_has h
theorem cells_mem : ∀ {names : List (Str × NameKind)} {h : Heap} {acc : List (Str × Addr)} {x : Str} {c : Addr}, (x, c) ∈ cellsFrom h.objs.size names acc ->
  (x, c) ∈ acc ∨ ((x, .cell) ∈ names /\ h.objs.size <= c /\ CellAt (pushCells h names) c none)
 | [], _, _, _, _, h => .inl h
 | (n, k) :: r, h, acc, x, c, hm => by
  unfold cellsFrom at hm;unfold pushCells
  split at hm
  ·rename_i hk;rw [if_pos hk];have hk : k = .cell := by simpa using hk
   rw [<- Heap.size_push h { cls := .type "cell", data := .cell none }] at hm;rcases cells_mem hm with hm | ⟨h1, h2, h3⟩
   ·rcases List.mem_cons.mp hm with e | hm
    ·cases e;exact .inr ⟨hk ▸ List.mem_cons_self, Nat.le_refl _, _, pushCells_keeps r _ _ _ (Heap.get?_push_size _ rfl), rfl⟩
    ·exact .inl hm
   ·rw [Heap.size_push] at h2;exact .inr ⟨List.mem_cons_of_mem _ h1, Nat.le_of_succ_le h2, h3⟩
  ·rename_i hk;rw [if_neg hk];rcases cells_mem hm with hm | ⟨h1, h2, h3⟩
   ·exact .inl hm
   ·exact .inr ⟨List.mem_cons_of_mem _ h1, h2, h3⟩
theorem cells_acc : ∀ {names : List (Str × NameKind)} {n : Nat} {acc : List (Str × Addr)} {p : Str × Addr}, p ∈ acc -> p ∈ cellsFrom n names acc
 | [], _, _, _, h => h
 | (m, k) :: r, n, acc, p, h => by
  unfold cellsFrom
  split
  ·exact cells_acc (List.mem_cons_of_mem _ h)
  ·exact cells_acc h
theorem cells_has : ∀ {names : List (Str × NameKind)} {n : Nat} {acc : List (Str × Addr)} {x : Str}, (x, .cell) ∈ names -> ∃ c, (x, c) ∈ cellsFrom n names acc
 | (m, k) :: r, n, acc, x, h => by
  unfold cellsFrom;rcases List.mem_cons.mp h with e | h
  ·cases e;exact ⟨n, cells_acc List.mem_cons_self⟩
  ·split
   ·exact cells_has h
   ·exact cells_has h
theorem cells_inj : ∀ {names : List (Str × NameKind)} {h : Heap} {acc : List (Str × Addr)} {x y : Str} {c : Addr}, (∀ p ∈ acc, p.2 < h.objs.size) -> (∀ x y c, (x, c) ∈ acc -> (y, c) ∈ acc -> x = y) ->
  (x, c) ∈ cellsFrom h.objs.size names acc -> (y, c) ∈ cellsFrom h.objs.size names acc -> x = y
 | [], _, _, _, _, _, _, hi, h1, h2 => hi _ _ _ h1 h2
 | (n, k) :: r, h, acc, x, y, c, hl, hi, h1, h2 => by
  unfold cellsFrom at h1 h2
  split at h1
  ·rename_i hk;rw [if_pos hk] at h2;rw [<- Heap.size_push h { cls := .type "cell", data := .cell none }] at h1 h2;refine cells_inj (h := h.push _) (fun p hp => ?_) (fun x y c a b => ?_) h1 h2
   ·rw [Heap.size_push];rcases List.mem_cons.mp hp with rfl | hp
    ·exact Nat.lt_succ_self _
    ·exact Nat.lt_succ_of_lt (hl p hp)
   ·rcases List.mem_cons.mp a with e | a <;> rcases List.mem_cons.mp b with e' | b
    ·cases e; cases e'; rfl
    ·cases e; exact absurd (hl _ b) (Nat.lt_irrefl _)
    ·cases e'; exact absurd (hl _ a) (Nat.lt_irrefl _)
    ·exact hi _ _ _ a b
  ·rename_i hk;rw [if_neg hk] at h2;exact cells_inj hl hi h1 h2
theorem newEnv_comp {M : Model} {A : Around} {E : Value -> Shared -> Prop} {s : Shared} {scope : Scope} {globals : Addr} {closure : List (Str × Addr)} {qual : Str} {func : Option Addr} {code : Value} {around : Env} {builtins : Addr} {Q : Env -> Shared -> Prop}
  (h : Q (newEnv scope s.heap.objs.size globals (cellsFrom (s.heap.objs.size + 1) scope.names closure) qual func code (some around) builtins)
   { s with heap := pushCells (s.heap.push { cls := .type "dict", data := .dict #[] }) scope.names }) :
  wpAny M A (newFunctionEnv scope globals closure [] qual func code (some around) builtins) Q E s := by
 simp only [newFunctionEnv, Option.isSome_some, if_true];refine wpAny_bind (wpAny_alloc ?_);refine wpAny_bind (wpAny_layCells _ (fun n k c => rfl) scope.names closure _ _ ?_);rw [show ({ s with heap := s.heap.push { cls := .type "dict", data := .dict #[] } } : Shared).heap.objs.size = s.heap.objs.size + 1 from Heap.size_push ..];rw [List.forIn_nil];exact wpAny_bind (wpAny_pure (wpAny_pure h))
theorem lookup_relS {sc : Scope} : ∀ {names : List (Str × NameKind)} {x : Str} {k : NameKind},
  (names.map fun (n, k) => if (k == NameKind.free && sc.kind == .function && sc.names.lookup n == some .cell) then (n, NameKind.cell) else (n, k)).lookup x = some k ->
  ∃ k', names.lookup x = some k' /\ (k = k' ∨ (k' = .free /\ k = .cell))
 | [], _, _, h => by simp at h
 | (n, k₀) :: r, x, k, h => by
  have ih := @lookup_relS sc r x k;have h' : List.lookup x ((if (k₀ == NameKind.free && sc.kind == .function && sc.names.lookup n == some .cell) = true then (n, NameKind.cell) else (n, k₀)) :: (r.map _)) = some k := h;cases hx : x == n with
  | true =>
   simp only [List.lookup_cons, hx]
   by_cases hc : (k₀ == NameKind.free && sc.kind == .function && sc.names.lookup n == some .cell) = true
   ·rw [if_pos hc] at h';simp only [List.lookup_cons, hx] at h';cases h';simp only [Bool.and_eq_true, beq_iff_eq] at hc;exact ⟨k₀, rfl, .inr ⟨hc.1.1, rfl⟩⟩
   ·rw [if_neg hc] at h';simp only [List.lookup_cons, hx] at h';cases h';exact ⟨_, rfl, .inl rfl⟩
  | false =>
   simp only [List.lookup_cons, hx]
   by_cases hc : (k₀ == NameKind.free && sc.kind == .function && sc.names.lookup n == some .cell) = true
   ·rw [if_pos hc] at h';simp only [List.lookup_cons, hx] at h';exact ih h'
   ·rw [if_neg hc] at h';simp only [List.lookup_cons, hx] at h';exact ih h'
structure BlkOk (N : List Str) (sc scope : Scope) (own : List (Str × Nat)) : Prop where
 kind : scope.kind = .function
 uniq : ∀ y ∈ scope.names, scope.names.lookup y.1 = some y.2
 ix : ∀ p ∈ own, N[p.2]? = some p.1
 free : ∀ y ∈ scope.names, y.2 = .free -> sc.names.lookup y.1 = some .cell ∨ sc.names.lookup y.1 = some .free
 own : ∀ y ∈ scope.names, y.2 = .local ∨ y.2 = .cell -> y.1 ∈ own.map (·.1) ∨ y.1 ∉ N
def wipe (σ : St) : List Nat -> St
 | [] => σ
 | v :: vs => (wipe σ vs).set v none
theorem wipe_length (σ : St) : ∀ vs : List Nat, (wipe σ vs).length = σ.length
 | [] => rfl
 | v :: vs => by unfold wipe; rw [List.length_set, wipe_length σ vs]
theorem wipe_some {σ : St} {i : Nat} {x : V} : ∀ {vs : List Nat}, (wipe σ vs)[i]? = some (some x) -> σ[i]? = some (some x) /\ i ∉ vs
 | [], h => ⟨h, by simp⟩
 | v :: vs, h => by
  unfold wipe at h
  by_cases hi : v = i
  ·subst hi
   by_cases hv : v < (wipe σ vs).length
   ·rw [List.getElem?_set_self hv] at h; cases h
   ·rw [List.getElem?_eq_none (by simpa using hv)] at h; cases h
  ·rw [List.getElem?_set_ne hi] at h;obtain ⟨h1, h2⟩ := wipe_some h;exact ⟨h1, by simp only [List.mem_cons, not_or]; exact ⟨fun e => hi e.symm, h2⟩⟩
abbrev Cx.blk (X : Cx) (s : Shared) (H : Hp) (scope : Scope) (cenv : Env) (fp : List Addr) : Cx := { X with s_0 := s, H_0 := H, env := cenv, outer := X.stack, ex := fp, fn := fun x => scope.names.lookup x == some .cell, pn := [], xe := fun _ _ => False }
section
variable {X : Cx} {pins : List (Addr × Obj)} {σ : St} {H : Hp} {s : Shared}
theorem block_start {scope : Scope} {own : List (Str × Nat)} {fp : List Addr} (I : Inv X pins σ H s) (ok : BlkOk X.N X.env.scope scope own) (hN : X.N.Nodup) (hfp : ∀ b ∈ fp, FpOk X pins H b /\ b < s.heap.objs.size) :
  Inv (X.blk s H scope (compEnvC scope (cellsFrom (s.heap.objs.size + 1) scope.names (cloFrom X.env.cells scope.names [])) s.heap.objs.size X.env) fp) [] (wipe σ (own.map (·.2))) H { s with heap := pushCells (s.heap.push { cls := .type "dict", data := .dict #[] }) scope.names } := by
 have hfree : ∀ y ∈ scope.names, y.2 = .free -> ∃ c, X.env.cells.lookup y.1 = some c := fun y hy e => by
  rcases ok.free y hy e with k | k
  ·exact I.ok.has _ (.inl k)
  ·exact I.ok.has _ (.inr k)
 generalize hcenv : compEnvC scope (cellsFrom (s.heap.objs.size + 1) scope.names (cloFrom X.env.cells scope.names [])) s.heap.objs.size X.env = cenv;have kp : ∀ b o, s.heap.get? b = some o -> (pushCells (s.heap.push { cls := .type "dict", data := .dict #[] }) scope.names).get? b = some o := fun b o e => pushCells_keeps _ _ _ _ (Heap.get?_push_of_some _ e);have hL : cenv.locals = s.heap.objs.size := by rw [<- hcenv]; rfl
 have hcl : cenv.cells = cellsFrom (s.heap.objs.size + 1) scope.names (cloFrom X.env.cells scope.names []) := by rw [<- hcenv]; rfl
 have hsc : cenv.scope = relS scope X.env.scope := by rw [<- hcenv]; rfl
 rw [<- Heap.size_push s.heap { cls := .type "dict", data := .dict #[] }] at hcl;have cm : ∀ {y c}, (y, c) ∈ cloFrom X.env.cells scope.names [] -> X.env.cells.lookup y = some c /\ c < s.heap.objs.size := fun {y c} hm => by
  rcases cloFrom_mem hm with hm | ⟨h1, rfl⟩
  ·cases hm
  ·obtain ⟨c, hc⟩ := hfree _ h1 rfl;rw [hc];obtain ⟨w, z⟩ := I.cell _ _ hc;exact ⟨rfl, z.lt⟩
 have mem : ∀ {y c}, cenv.cells.lookup y = some c -> (X.env.cells.lookup y = some c /\ c < s.heap.objs.size) ∨ (s.heap.objs.size + 1 <= c /\ CellAt (pushCells (s.heap.push { cls := .type "dict", data := .dict #[] }) scope.names) c none) := fun {y c} e => by
  rw [hcl] at e;rcases cells_mem (PySem.mem_of_lookup e) with hm | ⟨_, h2, h3⟩
  ·exact .inl (cm hm)
  ·rw [Heap.size_push] at h2; exact .inr ⟨h2, h3⟩
 have look : ∀ {y}, scope.names.lookup y = some .free -> ∃ c, cenv.cells.lookup y = some c /\ X.env.cells.lookup y = some c := fun {y} hl => by
  have hy : (y, NameKind.free) ∈ scope.names := PySem.mem_of_lookup hl;obtain ⟨c', e'⟩ := mem_lookup (cells_acc (names := scope.names) (n := (s.heap.push { cls := .type "dict", data := .dict #[] }).objs.size) (cloFrom_has (cells := X.env.cells) (acc := []) hy));rw [<- hcl] at e';refine ⟨c', e', ?_⟩;rw [hcl] at e';rcases cells_mem (PySem.mem_of_lookup e') with hm | ⟨h1, _, _⟩
  ·exact (cm hm).1
  ·have := ok.uniq _ h1;rw [hl] at this; cases this
 have okB : (X.blk s H scope cenv fp).Ok := by
  refine ⟨I.ok.mod, by show cenv.scope.kind = _; rw [hsc]; exact ok.kind, by show cenv.globals = _; rw [<- hcenv]; exact I.ok.glob, by show cenv.builtins = _; rw [<- hcenv]; exact I.ok.blt, by show s.heap.objs.size <= cenv.locals; rw [hL]; exact Nat.le_refl _,
   fun y z c e1 e2 => ?_, fun y hy => ?_, fun y c z e => ?_, I.ok.hd, I.ok.frames, .inl rfl, fun b hb => ⟨?_, fun y c e z => ?_⟩, I.bs, Nat.le_trans I.ok.bsz I.sz, fun b o e hb => ?_, fun b hb z => ?_, I.stack, I.stkFree⟩
  ·have e1 : cenv.cells.lookup y = some c := e1;have e2 : cenv.cells.lookup z = some c := e2;rw [hcl] at e1 e2;refine cells_inj (fun p hp => ?_) (fun y z c a b => I.ok.inj y z c (cm a).1 (cm b).1) (PySem.mem_of_lookup e1) (PySem.mem_of_lookup e2);rw [Heap.size_push];exact Nat.lt_succ_of_lt (cm (y := p.1) (c := p.2) hp).2
  ·show ∃ c, cenv.cells.lookup y = some c;have key : ∀ k, cenv.kindOf y = some k -> (k = .cell ∨ k = .free) -> ∃ c, cenv.cells.lookup y = some c := fun k hk hk' => by
    unfold Env.kindOf at hk;rw [hsc] at hk;obtain ⟨k', e, r⟩ := lookup_relS hk;have : k' = .cell ∨ k' = .free := by
     rcases r with rfl | ⟨rfl, _⟩
     ·exact hk'
     ·exact .inr rfl
    rcases this with rfl | rfl
    ·obtain ⟨c, hm⟩ := cells_has (n := (s.heap.push { cls := .type "dict", data := .dict #[] }).objs.size) (acc := cloFrom X.env.cells scope.names []) (PySem.mem_of_lookup e);obtain ⟨c', e'⟩ := mem_lookup hm;exact ⟨c', by rw [hcl]; exact e'⟩
    ·obtain ⟨c, h1, _⟩ := look e;exact ⟨c, h1⟩
   rcases hy with hy | hy
   ·exact key _ hy (.inl rfl)
   ·exact key _ hy (.inr rfl)
  ·have z : (scope.names.lookup y == some NameKind.cell) = true := z;have z : scope.names.lookup y = some .cell := by simpa using z
   have e : cenv.cells.lookup y = some c := e;rw [hcl] at e;rcases cells_mem (PySem.mem_of_lookup e) with hm | ⟨_, h2, _⟩
   ·rcases cloFrom_mem hm with hm | ⟨h1, _⟩
    ·cases hm
    ·have q := ok.uniq _ h1;rw [z] at q; cases q
   ·rw [Heap.size_push] at h2;exact Nat.le_of_succ_le h2
  ·show b ≠ cenv.locals;rw [hL]; exact Nat.ne_of_lt (hfp b hb).2
  ·have e : cenv.cells.lookup y = some c := e;rcases mem e with ⟨h1, _⟩ | ⟨h1, _⟩
   ·exact (hfp b hb).1.2.2.2.2.1 y c h1 z
   ·have h2 : s.heap.objs.size + 1 <= b := by rw [<- z]; exact h1
    exact absurd (Nat.lt_of_lt_of_le (hfp b hb).2 (Nat.le_of_succ_le h2)) (Nat.lt_irrefl _)
  ·rcases (hfp b hb).1.2.2.2.1 with z | z
   ·exact I.ok.noex b o e z
   ·exact absurd (Nat.lt_of_lt_of_le (Heap.lt_size e) (Nat.le_trans I.ok.bsz z)) (Nat.lt_irrefl _)
  ·rcases List.mem_cons.mp (I.stkSub b z) with z | z
   ·exact (hfp b hb).1.2.1 z
   ·exact (hfp b hb).1.2.2.1 z
 refine ⟨okB, rfl, I.bare, Un.kept kp, ⟨fun _ => none, ?_, fun i y av e1 e2 e3 => ?_⟩, fun y c e => ?_, ?_, fun y c e => ?_, fun p hp => ?_, I.hok.kept kp, by rw [wipe_length]; exact I.len⟩
 ·show Heap.Ns _ cenv.locals _;rw [hL];exact Heap.Ns.keeps (Heap.Ns.new ..) fun b o e => pushCells_keeps _ _ _ _ e
 ·obtain ⟨e2, hne⟩ := wipe_some e2;have hfr : scope.names.lookup y = some .free /\ (cenv.kindOf y = some .cell ∨ cenv.kindOf y = some .free) := by
   have key : ∀ k, cenv.scope.names.lookup y = some k -> k = .local ∨ k = .cell ∨ k = .free -> scope.names.lookup y = some .free /\ (cenv.kindOf y = some .cell ∨ cenv.kindOf y = some .free) := fun k hk hk' => by
    have hk0 := hk;rw [hsc] at hk;obtain ⟨k', e, r⟩ := lookup_relS hk;have no : ¬ (k' = .local ∨ k' = .cell) := fun hh => by
     rcases ok.own _ (PySem.mem_of_lookup e) hh with e' | e'
     ·obtain ⟨p, hp, hpy⟩ := List.mem_map.mp e';have e3 := ok.ix p hp;have : p.1 = y := hpy;rw [this] at e3;exact hne (List.mem_map.mpr ⟨p, hp, nodup_ix hN e3 e1⟩)
     ·exact e' (List.mem_of_getElem? e1)
    rcases r with rfl | ⟨rfl, rfl⟩
    ·rcases hk' with rfl | rfl | rfl
     ·exact absurd (.inl rfl) no
     ·exact absurd (.inr rfl) no
     ·exact ⟨e, .inr hk0⟩
    ·exact ⟨e, .inl hk0⟩
   have e3 : Vis cenv.scope y := e3;rcases e3 with e3 | e3 | e3
   ·exact key _ e3 (.inl rfl)
   ·exact key _ e3 (.inr (.inl rfl))
   ·exact key _ e3 (.inr (.inr rfl))
  obtain ⟨m, hn, hl⟩ := I.loc;have hvis : Vis X.env.scope y := (ok.free _ (PySem.mem_of_lookup hfr.1) rfl).elim (fun k => .inr (.inl k)) (fun k => .inr (.inr k));obtain ⟨w, r, q⟩ := hl i y av e1 e2 hvis;refine ⟨w, r, .inr ⟨hfr.2, ?_⟩⟩;obtain ⟨c, h1, h2⟩ := look hfr.1;rcases q with ⟨k, _⟩ | ⟨_, c', e', z⟩
  ·have k : X.env.scope.names.lookup y = some .local := k;rcases ok.free _ (PySem.mem_of_lookup hfr.1) rfl with k' | k' <;> rw [show X.env.scope.names.lookup y = _ from k'] at k <;> cases k
  ·rw [h2] at e'; cases e';exact ⟨c, h1, z.keeps kp⟩
 ·have e : cenv.cells.lookup y = some c := e;rcases mem e with ⟨h1, _⟩ | ⟨_, z⟩
  ·obtain ⟨w, z⟩ := I.cell y c h1;exact ⟨w, z.keeps kp⟩
  ·exact ⟨_, z⟩
 ·show H cenv.locals = none;rw [hL]; exact I.hok.fresh (Nat.le_refl _)
 ·have e : cenv.cells.lookup y = some c := e;rcases mem e with ⟨h1, _⟩ | ⟨h1, _⟩
  ·exact I.freeC y c h1
  ·exact I.hok.fresh (Nat.le_of_succ_le h1)
 ·exact absurd (show p ∈ ([] : List (Addr × Obj)) ++ [] from hp) (by simp)
theorem app_ok {E : Value -> Shared -> Prop} {D : Addr} {xs : List V} {y : V} {v : Value} {Q : Value -> Shared -> Prop} (I : Inv X pins σ H s) (hD : H D = some (.lst xs)) (hz : xs.length < sizeLine) (r : RelV y v)
  (h : ∀ s', Inv X pins σ (upd H D (.lst (xs ++ [y]))) s' -> Q .none s') : wpAny (model X.prog X.w) X.A (call (.builtin "list.append") [.ref D, v]) Q E s := by
 obtain ⟨hz', its, n, ri, e⟩ := I.hok D _ hD;have hl := ri.length;refine append_at (hsz := by rw [List.size_toArray]; omega) e fun h' sb ho' => ?_;refine h { s with heap := h' } (I.write (t' := s.toks) (by rw [hD]; trivial) (.inl rfl) (fun b u hb q => (sb.2 b hb).trans q) ⟨_, ho'⟩ ⟨by rw [List.length_append]; exact hz, its ++ [v], n + 1, ri.append (.cons r .nil), ?_⟩)
 rw [ho'];simp
def PTs (X : Cx) (ifs : List Expr) (t : TT) : Prop :=
 ∀ (pins : List (Addr × Obj)) (s : Shared) (σ : St) (H : Hp) (Q : Bool -> Hp -> Prop), Inv X pins σ H s -> t σ H Q ->
  wpAny (model X.prog X.w) X.A (forIn ifs true fun c r => if r = true then do let ok <- isTrue c X.env (eval c X.env); pure (ForInStep.yield ok) else pure (ForInStep.yield r)) (TP X pins σ Q) X.xe s
def tYes : TT := fun _ H Q => Q true H
theorem pts_nil : PTs X [] tYes := fun _ _ _ H _ I h => wpAny_tests_nil ⟨H, I, h⟩
theorem pts_one {c : Expr} {t : TT} (h : PT X c t) : PTs X [c] t := fun pins s σ H Q I hw => wpAny_tests_one (h pins s σ H Q I hw)
end
theorem thnF {α : Type} {t : Sem α} {Q Q' : α -> Shared -> Prop} {M : Model} {A : Around} {E : Value -> Shared -> Prop} {s : Shared} (h : wpAny M A t Q (fun _ _ => False) s) (hQ : ∀ a s, Q a s -> Q' a s) : wpAny M A t Q' E s := wpAny_mono h hQ fun _ _ z => False.elim z
theorem compLoop_any {prog : Program} {w : World} {A : Around} {R : Result -> Shared -> Prop} {s : Shared} {elt target iter : Expr} {ifs : List Expr} {scope : Scope} {pos : Pos} {it acc : Value} {env : Env} (I : Nat -> Shared -> Prop)
  (turn : ∀ n s, I n s -> wpAny (model prog w) A (pyNext it) (fun r s₁ => match r with
   | none => R (.ok .next) s₁
   | some v => wpAny (model prog w) A (letOwnedTupleGo target it v) (fun _ s₁' => wpAny (model prog w) A (assign target env v) (fun _ s₂ =>
     wpAny (model prog w) A (forIn ifs true fun c r => if r = true then do let ok <- isTrue c env (eval c env); pure (ForInStep.yield ok) else pure (ForInStep.yield r)) (fun ok s₃ =>
      if ok = true then wpAny (model prog w) A (eval elt env) (fun x s₄ =>
       wpAny (model prog w) A (call (.builtin "list.append") [acc, x]) (fun _ s₅ => ∃ m, m < n /\ I m s₅) (notedBy (model prog w) A env fun e s' => R (.error e) s') s₄) (notedBy (model prog w) A env fun e s' => R (.error e) s') s₃
      else ∃ m, m < n /\ I m s₃) (notedBy (model prog w) A env fun e s' => R (.error e) s') s₂) (notedBy (model prog w) A env fun e s' => R (.error e) s') s₁') (notedBy (model prog w) A env fun e s' => R (.error e) s') s₁) (notedBy (model prog w) A env fun e s' => R (.error e) s') s)
  (n : Nat) (h : I n s) :
  codeAny (model prog w) A (.compLoop (.ListComp elt [⟨target, iter, ifs, 0⟩] scope pos) 0 it acc env) R s := by
 refine codeAny_loop rfl I (fun n s hI => ?_) n h;show wpAny _ A ((compTurn (.ListComp elt [⟨target, iter, ifs, 0⟩] scope pos) 0 it acc env).onRaise (fun x => do noteFrame x env; theTreesLotGoes x)) _ _ s;refine wpAny_noted ?_;rw [compTurn_list];refine wpAny_bind (wpAny_standAt (wpAny_bind (wpAny_mono (turn n s hI) (fun r s₁ h₁ => ?_) fun _ _ h' => h')));cases r with
 | none => exact wpAny_pure h₁
 | some v =>
  refine wpAny_bind (wpAny_mono h₁ (fun _ s₁' h₁' => ?_) fun _ _ h' => h');refine wpAny_bind (wpAny_mono h₁' (fun _ s₂ h₂ => wpAny_bind (wpAny_mono h₂ (fun ok s₃ h₃ => ?_) fun _ _ h' => h')) fun _ _ h' => h');cases ok with
  | false => exact wpAny_pure ⟨rfl, h₃⟩
  | true =>
   exact wpAny_bind (wpAny_bind (wpAny_mono h₃ (fun x s₄ h₄ => wpAny_bind (wpAny_mono h₄ (fun _ s₅ h₅ => wpAny_pure (wpAny_pure ⟨rfl, h₅⟩)) fun _ _ h' => h')) fun _ _ h' => h'))
section
variable {X : Cx}
def tLc (wi : TI) (g : TG) (tt : TT) (te : TE) (vs : List Nat) : TE := fun σ H Q => wi σ H fun J H1 => ∀ D, H1 D = none -> ∃ W : Nat -> Nat -> Hp -> Prop, (∃ m, W 0 m (upd H1 D (.lst []))) /\ ∀ i m H, W i m H ->
 (J.stop i H /\ Q (.ref D) H) ∨ (J.go i H /\ ∃ Nx : Hp -> Prop, (∀ H', Nx H' -> ∃ m', m' < m /\ W (i + 1) m' H') /\ ∀ x H', J.yld i H x H' -> g x (wipe σ vs) H' fun σ2 H2 => wipe σ2 vs = wipe σ vs /\ tt σ2 H2 fun b H3 =>
  if b = true then te σ2 H3 fun y H4 => ∃ acc, H4 D = some (.lst acc) /\ acc.length < sizeLine /\ Nx (upd H4 D (.lst (acc ++ [y]))) else Nx H3)
theorem lc_core {pins : List (Addr × Obj)} {s : Shared} {σ : St} {H : Hp} {Q : VK} {elt tg iter : Expr} {ifs : List Expr} {scope : Scope} {own : List (Str × Nat)} {pos pos' : Pos} {wi : TI} {g : TG} {tt : TT} {te : TE} {use : Option (Value -> Sem Unit)} {Qf : Value -> Shared -> Prop}
  (hc : X.calm = true) (hN : X.N.Nodup) (I : Inv X pins σ H s) (hi : PI X tg iter wi) (ok : BlkOk X.N X.env.scope scope own)
  (hg : ∀ (s : Shared) (H : Hp) (C : Addr) (cl : List (Str × Addr)) (fp : List Addr), PG (X.blk s H scope (compEnvC scope cl C X.env) fp) tg g) (ht : ∀ (s : Shared) (H : Hp) (C : Addr) (cl : List (Str × Addr)) (fp : List Addr), PTs (X.blk s H scope (compEnvC scope cl C X.env) fp) ifs tt)
  (he : ∀ (s : Shared) (H : Hp) (C : Addr) (cl : List (Str × Addr)) (fp : List Addr), PE (X.blk s H scope (compEnvC scope cl C X.env) fp) elt te) (hs : ∀ x, foldedSetIterable iter X.env x = pure x)
  (h : tLc wi g tt te (own.map (·.2)) σ H Q)
  (hRR : ∀ D C s' m H', Inv X pins σ H' s' -> Q (.ref D) H' -> s'.heap.Ns C m -> FpOk X pins H' C -> compPost (model X.prog X.w) X.A X.xe use Qf (.ref D) C (.ok .next) s') :
  wpAny (model X.prog X.w) X.A (comprehension (.ListComp elt [⟨tg, iter, ifs, 0⟩] scope pos) scope X.env pos' (newList []) false (eval iter X.env) use) Qf X.xe s := by
 have hfree : ∀ y ∈ scope.names, y.2 = .free -> ∃ c, X.env.cells.lookup y.1 = some c := fun y hy e => by
  rcases ok.free y hy e with k | k
  ·exact I.ok.has _ (.inl k)
  ·exact I.ok.has _ (.inr k)
 refine wpAny_comprehension_free (use := use) rfl hs (closure_ok hfree) ok.kind (fun y hy e => by rw [ok.uniq y hy, e])
  (thn (hi pins s σ H _ I h) fun xv s1 hx => thn hx fun itv s2 h2 => ?_)
 obtain ⟨it, fp, tn, J, H2, e, I2, T, st2, f2, q⟩ := h2;subst e;refine wpAny_newObj_type (newEnv_comp ?_) (by show 0 <= sizeLine; decide);generalize hD : s2.heap.objs.size = D;have hDn : H2 D = none := I2.hok.fresh (Nat.le_of_eq hD);obtain ⟨W, ⟨m0, w0⟩, turn⟩ := q D hDn
 -- the new list
 generalize hs3 : ({ s2 with heap := s2.heap.push { cls := .type "list", data := .seq ([] : List Value).toArray } } : Shared) = s3
 have I3 : Inv X pins σ (upd H2 D (.lst [])) s3 := by
  rw [<- hs3];refine I2.laid (t' := s2.toks) (fun b o e => Heap.get?_push_of_some _ e) (Nat.le_of_eq hD) ⟨Nat.zero_le _, [], 0, .nil, ?_⟩;rw [<- hD];exact Heap.get?_push_size _ rfl
 have h3 : s3.heap = s2.heap.push { cls := .type "list", data := .seq ([] : List Value).toArray } := by rw [<- hs3]
 have sz : ∀ b ∈ fp, b < s2.heap.objs.size := fun b hb => by
  obtain ⟨o, e, _⟩ := T.obj _ _ st2 b hb;exact Heap.lt_size e
 have f3 : ∀ b ∈ fp, FpOk X pins (upd H2 D (.lst [])) b /\ b < s3.heap.objs.size := fun b hb => by
  have hlt := sz b hb;refine ⟨⟨?_, (f2 b hb).2⟩, by rw [h3, Heap.size_push]; exact Nat.lt_succ_of_lt hlt⟩;rw [upd_ne (by rw [<- hD]; exact Nat.ne_of_lt hlt)];exact (f2 b hb).1
 have st3 : tn 0 s3.heap := T.keep _ _ _ st2 fun b _ o e => by rw [h3]; exact Heap.get?_push_of_some _ e
 have I4 := block_start I3 ok hN f3;have pg := hg s3 (upd H2 D (.lst [])) s3.heap.objs.size (cellsFrom (s3.heap.objs.size + 1) scope.names (cloFrom X.env.cells scope.names [])) fp;have pt := ht s3 (upd H2 D (.lst [])) s3.heap.objs.size (cellsFrom (s3.heap.objs.size + 1) scope.names (cloFrom X.env.cells scope.names [])) fp;have pe := he s3 (upd H2 D (.lst [])) s3.heap.objs.size (cellsFrom (s3.heap.objs.size + 1) scope.names (cloFrom X.env.cells scope.names [])) fp;show codeAny _ _ (.compStart (.ListComp elt [⟨tg, iter, ifs, 0⟩] scope pos) 0 (.ref it) (.ref D) (compEnvC scope (cellsFrom (s3.heap.objs.size + 1) scope.names (cloFrom X.env.cells scope.names [])) s3.heap.objs.size X.env)) (compPost (model X.prog X.w) X.A X.xe use Qf (.ref D) s3.heap.objs.size) { s3 with heap := pushCells (s3.heap.push { cls := .type "dict", data := .dict #[] }) scope.names }
 have nfp : ∀ b ∈ fp, (upd H2 D (.lst [])) b = none := fun b hb => (f3 b hb).1.1;generalize hce : compEnvC scope (cellsFrom (s3.heap.objs.size + 1) scope.names (cloFrom X.env.cells scope.names [])) s3.heap.objs.size X.env = ce at I4 pg pt pe ⊢;have cL : ce.locals = s3.heap.objs.size := by subst hce; rfl
 generalize hH3 : upd H2 D (.lst []) = H3 at I3 I4 pg pt pe w0 nfp f3;generalize hs4 : ({ s3 with heap := pushCells (s3.heap.push { cls := .type "dict", data := .dict #[] }) scope.names } : Shared) = s4 at I4 ⊢
 have st4 : tn 0 s4.heap := T.keep _ _ _ st3 fun b _ o e => by rw [<- hs4]; exact pushCells_keeps _ _ _ _ (Heap.get?_push_of_some _ e)
 have stat : ∀ {σ' : St} {H' : Hp} {s' : Shared}, Inv (X.blk s3 H3 scope ce fp) [] σ' H' s' -> (∀ b ∈ fp, H' b = none) -> ∀ b ∈ fp, FpOk (X.blk s3 H3 scope ce fp) [] H' b := fun {σ' H' s'} I' hn b hb =>
  ⟨hn b hb, (I'.ok.exf b hb).1, I'.ok.exfs b hb, .inl hb, fun x c e => (I'.ok.exf b hb).2 x c e, fun p hp => absurd (show p ∈ ([] : List (Addr × Obj)) ++ [] from hp) (by simp)⟩
 have loop : codeAny (model X.prog X.w) X.A (.compLoop (.ListComp elt [⟨tg, iter, ifs, 0⟩] scope pos) 0 (.ref it) (.ref D) ce) (compPost (model X.prog X.w) X.A X.xe use Qf (.ref D) s3.heap.objs.size) s4 := by
  refine compLoop_any (fun n s' => ∃ i H', Inv (X.blk s3 H3 scope ce fp) [] (wipe σ (own.map (·.2))) H' s' /\ tn i s'.heap /\ (∀ b ∈ fp, H' b = none) /\ W i n H') ?_ m0 ⟨0, H3, I4, st4, nfp, w0⟩;rintro n s5 ⟨i, H5, I5, st5, n5, w5⟩;rcases turn i n H5 w5 with ⟨stop, qq⟩ | ⟨go, Nx, hNx, step⟩
  ·have td := T.done (X.blk s3 H3 scope ce fp) rfl rfl rfl hc i [] s5 _ H5 (fun _ _ => False) I5 (stat I5 n5) st5 stop;refine thnF td fun r s6 ⟨hr, I6⟩ => ?_;subst hr
   -- back in the def's context
   have I7 : Inv X pins σ H5 s6 := I3.call' (ch := fp) I6.os I6.base I6.hok I6.bare fun b hb => ⟨(f3 b hb).1.2.2.2.1, (f3 b hb).1.2.1, (f3 b hb).1.2.2.2.2.1, (f3 b hb).1.2.2.2.2.2⟩;have nC : H5 s3.heap.objs.size = none := by
    have z : H5 ce.locals = none := I6.free;rw [cL] at z;exact z
   obtain ⟨m, hn, _⟩ := I6.loc;have hn : s6.heap.Ns ce.locals m := hn;rw [cL] at hn;exact hRR D s3.heap.objs.size s6 m H5 I7 qq hn (I3.fpOk (Nat.le_refl _) nC)
  ·have ti := T.item (X.blk s3 H3 scope ce fp) rfl rfl rfl hc i [] s5 _ H5 (fun _ _ => False) I5 (stat I5 n5) st5 go;refine thnF ti fun r s6 ⟨u, hr, h6⟩ => ?_;subst hr;refine thnF h6 fun _ s7 ⟨x, H7, I7, r7, y7, st7, n7⟩ => ?_;have I7' := I7.pinned (stat I7 n7) (T.obj _ _ st7);refine thnF (pg _ s7 _ H7 x u _ I7' r7 (step x H7 y7)) fun _ s8 ⟨σ8, H8, I8, hw8, q8⟩ => ?_;refine thnF (pt _ s8 σ8 H8 _ I8 q8) fun b s9 ⟨H9, I9, q9⟩ => ?_
   -- the turn's end
   have fin : ∀ {s' : Shared} {H' : Hp}, Inv (X.blk s3 H3 scope ce fp) ([] ++ pinsAt fp s7.heap) σ8 H' s' -> Nx H' -> ∃ m, m < n /\ ∃ i H', Inv (X.blk s3 H3 scope ce fp) [] (wipe σ (own.map (·.2))) H' s' /\ tn i s'.heap /\ (∀ b ∈ fp, H' b = none) /\ W i m H' := fun {s' H'} I' nx => by
    obtain ⟨m', hm, w'⟩ := hNx H' nx;have pin' : ∀ b ∈ fp, ∀ o, s7.heap.get? b = some o -> s'.heap.get? b = some o /\ H' b = none := fun b hb o e =>
     let z := I'.pin (b, o) (List.mem_append_right _ (List.mem_append_right _ (mem_pinsAt hb e)))
     ⟨z.1, z.2.1⟩
    have hl : (wipe σ (own.map (·.2))).length = σ8.length := by rw [<- hw8, wipe_length]
    refine ⟨m', hm, i + 1, H', (I'.unpinned (pins := [])).weak hl (fun j v e => ?_), T.keep _ _ _ st7 fun b hb o e => (pin' b hb o e).1, fun b hb => ?_, w'⟩
    ·rw [<- hw8] at e;exact (wipe_some e).1
    ·obtain ⟨o, e, _⟩ := T.obj _ _ st7 b hb;exact (pin' b hb o e).2
   cases b with
   | false =>
    simp only [Bool.false_eq_true, if_false] at q9 ⊢;exact fin I9 q9
   | true =>
    simp only [if_true] at q9 ⊢;refine thnF (pe _ s9 σ8 H9 _ I9 q9) fun z s10 ⟨yv, H10, I10, r10, acc, hD10, hz10, nx⟩ => ?_;exact app_ok (X := X.blk s3 H3 scope ce fp) I10 hD10 hz10 r10 fun s11 I11 => fin I11 nx
 exact codeAny_compStart_list loop (T.self X.A 0 _ _ _ st4 loop)
theorem pe_lc {elt tg iter : Expr} {ifs : List Expr} {scope : Scope} {own : List (Str × Nat)} {pos : Pos} {wi : TI} {g : TG} {tt : TT} {te : TE} (hc : X.calm = true) (hN : X.N.Nodup) (hi : PI X tg iter wi) (ok : BlkOk X.N X.env.scope scope own)
  (hg : ∀ (s : Shared) (H : Hp) (C : Addr) (cl : List (Str × Addr)) (fp : List Addr), PG (X.blk s H scope (compEnvC scope cl C X.env) fp) tg g) (ht : ∀ (s : Shared) (H : Hp) (C : Addr) (cl : List (Str × Addr)) (fp : List Addr), PTs (X.blk s H scope (compEnvC scope cl C X.env) fp) ifs tt)
  (he : ∀ (s : Shared) (H : Hp) (C : Addr) (cl : List (Str × Addr)) (fp : List Addr), PE (X.blk s H scope (compEnvC scope cl C X.env) fp) elt te) (hs : ∀ x, foldedSetIterable iter X.env x = pure x := by intro _; rfl) :
  PE X (.ListComp elt [⟨tg, iter, ifs, 0⟩] scope pos) (tLc wi g tt te (own.map (·.2))) := by
 intro pins s σ H Q I h;rw [eval_ListComp];refine lc_core hc hN I hi ok hg ht he hs h fun D C s' m H' I' q hn f => ⟨m, hn, fun h'' sb => ?_⟩;obtain ⟨f0, f1, f2, f3, f4, f5⟩ := f;exact ⟨.ref D, H', I'.turned (t' := s'.toks) (fun b o hb e => (sb.2 b hb).trans e) f0 f1 f3 f4 f5, rfl, q⟩
theorem ps_setLc {i : Nat} {y : Str} {py : Pos} {elt tg iter : Expr} {ifs : List Expr} {scope : Scope} {own : List (Str × Nat)} {pos spos : Pos} {wi : TI} {g : TG} {tt : TT} {te : TE} (hc : X.calm = true) (hN : X.N.Nodup) (hy : X.N[i]? = some y) (hyl : X.env.scope.names.lookup y = some .local)
  (hsw : swapsWith (.ListComp elt [⟨tg, iter, ifs, 0⟩] scope pos) (some (.Name y py)) spos.line X.env = pure true) (hi : PI X tg iter wi) (ok : BlkOk X.N X.env.scope scope own)
  (hg : ∀ (s : Shared) (H : Hp) (C : Addr) (cl : List (Str × Addr)) (fp : List Addr), PG (X.blk s H scope (compEnvC scope cl C X.env) fp) tg g) (ht : ∀ (s : Shared) (H : Hp) (C : Addr) (cl : List (Str × Addr)) (fp : List Addr), PTs (X.blk s H scope (compEnvC scope cl C X.env) fp) ifs tt)
  (he : ∀ (s : Shared) (H : Hp) (C : Addr) (cl : List (Str × Addr)) (fp : List Addr), PE (X.blk s H scope (compEnvC scope cl C X.env) fp) elt te) (hs : ∀ x, foldedSetIterable iter X.env x = pure x := by intro _; rfl) :
  PS X (.Assign [.Name y py] (.ListComp elt [⟨tg, iter, ifs, 0⟩] scope pos) spos) (tAsg (tLc wi g tt te (own.map (·.2))) (gName i)) := by
 intro pins s σ H D I h;rw [exec_Assign_Name_used _ _ _ _ hsw];refine wpAny_bind (wpAny_standAt (wpAny_bind ?_));show wpAny _ X.A (do let _ <- comprehension (.ListComp elt [⟨tg, iter, ifs, 0⟩] scope pos) scope X.env (firstIterPos [⟨tg, iter, ifs, 0⟩] pos) (newList []) false (eval iter X.env) (some (assign (.Name y py) X.env))) _ _ s;have h : tLc wi g tt te (own.map (·.2)) σ H (fun x H1 => gName i x σ H1 D.nx) := h;refine wpAny_bind (thn (lc_core (Qf := fun _ s' => SP X pins D .next s') hc hN I hi ok hg ht he hs h fun L C s' m H' I' q hn f => ?_) fun _ s' hq => wpAny_pure (wpAny_pure hq));show wpAny _ _ (assign (.Name y py) X.env (.ref L)) _ _ _;refine wpAny_assign_Name (store_ok2 (v := V.ref L) I' hN hy (.inl hyl) rfl (fun s2 I2 ⟨a, sb, ha⟩ => ?_) (.inr hyl));obtain ⟨f0, f1, f2, f3, f4, f5⟩ := f;have haC : C ≠ a := by
  rcases ha with z | z
  ·rw [z]; exact f1
  ·exact fun e => f4 y a z e.symm
 refine ⟨m, hn.sameBut sb haC, fun h3 sb3 => ?_⟩;exact ⟨_, H', I2.turned (t' := s2.toks) (fun b o hb e => (sb3.2 b hb).trans e) f0 f1 f3 f4 f5, q⟩
theorem sw_true {elt : Expr} {gs : List Comprehension} {scope : Scope} {pos py : Pos} {y : Str} {l : Nat} {env : Env} (hk : env.scope.kind = .function) (hy : env.scope.names.lookup y = some .local) (hl : (py.line == pos.line) = true)
  (ha : (scope.names.any fun (n, k) => n == y && (k == .local || k == .cell)) = false) : swapsWith (.ListComp elt gs scope pos) (some (.Name y py)) l env = pure true := by
 have ky : env.kindOf y = some .local := hy;have hb : env.blockKind = .function := by unfold Env.blockKind; rw [hk]; rfl
 unfold swapsWith;simp only [hb, ky, ha, Expr.pos, hl];rfl
end
theorem lc_range {lo : Int} {n : Nat} {g : TG} {tt : TT} {te : TE} {vs : List Nat} {σ : St} {H1 : Hp} {D : Addr} {Qd : Hp -> Prop} (Pv : Nat -> Hp -> Prop) (h0 : Pv 0 (upd H1 D (.lst [])))
  (hs : ∀ i H, i < n -> Pv i H -> g (.int (lo + i)) (wipe σ vs) H fun σ2 H2 => wipe σ2 vs = wipe σ vs /\ tt σ2 H2 fun b H3 =>
   if b = true then te σ2 H3 fun y H4 => ∃ acc, H4 D = some (.lst acc) /\ acc.length < sizeLine /\ Pv (i + 1) (upd H4 D (.lst (acc ++ [y]))) else Pv (i + 1) H3) (hd : ∀ H, Pv n H -> Qd H) :
  ∃ W : Nat -> Nat -> Hp -> Prop, (∃ m, W 0 m (upd H1 D (.lst []))) /\ ∀ i m H, W i m H ->
   ((Itr lo n).stop i H /\ Qd H) ∨ ((Itr lo n).go i H /\ ∃ Nx : Hp -> Prop, (∀ H', Nx H' -> ∃ m', m' < m /\ W (i + 1) m' H') /\ ∀ x H', (Itr lo n).yld i H x H' -> g x (wipe σ vs) H' fun σ2 H2 => wipe σ2 vs = wipe σ vs /\ tt σ2 H2 fun b H3 =>
    if b = true then te σ2 H3 fun y H4 => ∃ acc, H4 D = some (.lst acc) /\ acc.length < sizeLine /\ Nx (upd H4 D (.lst (acc ++ [y]))) else Nx H3) := by
 refine ⟨fun i m H => m = n - i /\ i <= n /\ Pv i H, ⟨n, by simp, Nat.zero_le _, h0⟩, ?_⟩;rintro i m H ⟨rfl, hi, p⟩
 by_cases hlt : i < n
 ·refine .inr ⟨hlt, Pv (i + 1), fun H' p' => ⟨n - (i + 1), by omega, rfl, hlt, p'⟩, fun x H' y => ?_⟩;obtain ⟨e, y⟩ := y;subst e y;exact hs i _ hlt p
 ·have e : i = n := by omega
  subst e;exact .inl ⟨Nat.le_refl _, hd H p⟩
theorem lc_list {K : PySem.W.Frag} {a : Addr} {xs : List V} {g : TG} {tt : TT} {te : TE} {vs : List Nat} {σ : St} {H1 : Hp} {D : Addr} {Qd : Hp -> Prop} (Pv : Nat -> Hp -> Prop) (h0 : Pv 0 (upd H1 D (.lst []))) (hl : ∀ i H, i <= xs.length -> Pv i H -> SqL K H a xs)
  (hs : ∀ i x H, xs[i]? = some x -> Pv i H -> g x (wipe σ vs) H fun σ2 H2 => wipe σ2 vs = wipe σ vs /\ tt σ2 H2 fun b H3 =>
   if b = true then te σ2 H3 fun y H4 => ∃ acc, H4 D = some (.lst acc) /\ acc.length < sizeLine /\ Pv (i + 1) (upd H4 D (.lst (acc ++ [y]))) else Pv (i + 1) H3) (hd : ∀ H, Pv xs.length H -> Qd H) :
  ∃ W : Nat -> Nat -> Hp -> Prop, (∃ m, W 0 m (upd H1 D (.lst []))) /\ ∀ i m H, W i m H ->
   ((Itl K a).stop i H /\ Qd H) ∨ ((Itl K a).go i H /\ ∃ Nx : Hp -> Prop, (∀ H', Nx H' -> ∃ m', m' < m /\ W (i + 1) m' H') /\ ∀ x H', (Itl K a).yld i H x H' -> g x (wipe σ vs) H' fun σ2 H2 => wipe σ2 vs = wipe σ vs /\ tt σ2 H2 fun b H3 =>
    if b = true then te σ2 H3 fun y H4 => ∃ acc, H4 D = some (.lst acc) /\ acc.length < sizeLine /\ Nx (upd H4 D (.lst (acc ++ [y]))) else Nx H3) := by
 refine ⟨fun i m H => m = xs.length - i /\ i <= xs.length /\ Pv i H, ⟨xs.length, by simp, Nat.zero_le _, h0⟩, ?_⟩;rintro i m H ⟨rfl, hi, p⟩;have q := hl i H hi p
 by_cases hlt : i < xs.length
 ·refine .inr ⟨⟨xs, xs[i], q, by simp [hlt]⟩, Pv (i + 1), fun H' p' => ⟨xs.length - (i + 1), by omega, rfl, hlt, p'⟩, fun x H' y => ?_⟩;obtain ⟨e, y⟩ := y;subst e;exact hs i x _ (y xs q) p
 ·have e : i = xs.length := by omega
  subst e;exact .inl ⟨⟨xs, q, Nat.le_refl _⟩, hd H p⟩
end L2
namespace L2
open PySem PySem.Spec PyProof.Rows
section
variable {prog : Program} {w : World} {A : Around} {R : Result -> Shared -> Prop} {s : Shared} {elt t0 i0 t1 i1 : Expr} {ifs0 ifs1 : List Expr} {scope : Scope} {pos : Pos} {it acc : Value} {env : Env}
end
section
variable {X : Cx}
end
end L2
namespace L2
open PySem PySem.Spec PyProof.Rows
section
variable {κ : Type} [DecidableEq κ]
def valV (kvs : List (κ × V)) (k : κ) : Option V := (kvs.find? fun kv => decide (kv.1 = k)).map (·.2)
def putK (kvs : List (κ × V)) (k : κ) (v : V) : List (κ × V) :=
 if (kvs.any fun kv => decide (kv.1 = k)) = true then kvs.map (fun kv => if kv.1 = k then (kv.1, v) else kv) else kvs ++ [(k, v)]
theorem valV_pos {p : κ × V} {r : List (κ × V)} {k : κ} (e : p.1 = k) : valV (p :: r) k = some p.2 := by simp [valV, List.find?_cons, e]
theorem valV_neg {p : κ × V} {r : List (κ × V)} {k : κ} (e : ¬ p.1 = k) : valV (p :: r) k = valV r k := by simp [valV, List.find?_cons, e]
theorem valV_any (k : κ) : ∀ kvs : List (κ × V), (kvs.any fun kv => decide (kv.1 = k)) = (valV kvs k).isSome
 | [] => rfl
 | p :: r => by
  rw [List.any_cons]
  by_cases e : p.1 = k
  ·simp only [valV_pos e, decide_eq_true e, Bool.true_or, Option.isSome_some]
  ·rw [valV_neg e, decide_eq_false e, Bool.false_or]; exact valV_any k r
theorem length_putK (kvs : List (κ × V)) (k : κ) (v : V) : (putK kvs k v).length <= kvs.length + 1 := by
 unfold putK
 split
 ·rw [List.length_map]; omega
 ·rw [List.length_append, List.length_cons, List.length_nil]; omega
theorem RelO.isSome_eq {o : Option V} {u : Option Value} (r : RelO o u) : o.isSome = u.isSome := by
 cases o with
 | none => cases u with
  | none => rfl
  | some _ => exact (show False from r).elim
 | some _ => cases u with
  | none => exact (show False from r).elim
  | some _ => rfl
theorem KV.val {kvs : List (κ × V)} {vs : List (κ × Value)} (r : KV kvs vs) (k : κ) : RelO (valV kvs k) (valueAt vs k) := by
 unfold KV at r
 induction r with
 | nil => exact True.intro
 | @cons p q ps qs h t ih =>
  obtain ⟨h1, h2⟩ := h
  by_cases e : p.1 = k
  ·have e' : q.1 = k := h1.symm.trans e;have b : valueAt (q :: qs) k = some q.2 := by simp [valueAt, List.find?_cons, e']
   rw [valV_pos e, b]; exact h2
  ·have e' : ¬ q.1 = k := fun z => e (h1.trans z);have b : valueAt (q :: qs) k = valueAt qs k := by simp [valueAt, List.find?_cons, e']
   rw [valV_neg e, b]; exact ih
theorem KV.any {kvs : List (κ × V)} {vs : List (κ × Value)} (r : KV kvs vs) (k : κ) : (kvs.any fun kv => decide (kv.1 = k)) = vs.any fun kv => decide (kv.1 = k) := by
 unfold KV at r
 induction r with
 | nil => rfl
 | cons h t ih => rw [List.any_cons, List.any_cons, ih, h.1]
theorem KV.repl {kvs : List (κ × V)} {vs : List (κ × Value)} (r : KV kvs vs) (k : κ) {y : V} {u : Value} (ry : RelV y u) :
  KV (kvs.map fun kv => if kv.1 = k then (kv.1, y) else kv) (vs.map fun kv => if kv.1 = k then (kv.1, u) else kv) := by
 unfold KV at r ⊢
 induction r with
 | nil => exact .nil
 | @cons p q ps qs h t ih =>
  rw [List.map_cons, List.map_cons];refine .cons ?_ ih;obtain ⟨h1, h2⟩ := h
  by_cases e : p.1 = k
  ·rw [if_pos e, if_pos (h1.symm.trans e)]; exact ⟨h1, ry⟩
  ·rw [if_neg e, if_neg (fun z => e (h1.trans z))]; exact ⟨h1, h2⟩
theorem KV.put {kvs : List (κ × V)} {vs : List (κ × Value)} (r : KV kvs vs) (k : κ) {y : V} {u : Value} (ry : RelV y u) : KV (putK kvs k y) (stored vs k u) := by
 unfold putK stored;rw [r.any k]
 by_cases e : (vs.any fun kv => decide (kv.1 = k)) = true
 ·rw [if_pos e, if_pos e]; exact r.repl k ry
 ·rw [if_neg e, if_neg e]; exact Paired.snoc r ⟨rfl, ry⟩
theorem KV.length {kvs : List (κ × V)} {vs : List (κ × Value)} (r : KV kvs vs) : kvs.length = vs.length := Paired.length r
end
theorem kV_is {P : Program} {w : World} {k : Key} {u : Value} (r : RelV (kV k) u) : (mixKind P w).is k u = true := by
 cases k with
 | inl i => obtain ⟨t, e⟩ := (show ∃ t, u = Value.int i t from r); subst e; exact mixKind_int P w i t
 | inr x => obtain ⟨t, e⟩ := (show ∃ t, u = Value.str x t from r); subst e; exact mixKind_str P w x t
theorem items_are {P : Program} {w : World} : ∀ {ks : List Key} {us : List Value}, Vals (ks.map kV) us -> ItemsAre (mixKind P w) ks us
 | [], _, r => by rw [List.map_nil] at r; cases r; exact .nil
 | k :: ks, _, r => by
  rw [List.map_cons] at r;cases r with
  | cons h t => exact .cons (kV_is h) (items_are t)
abbrev KT (H : Hp) : List (List Key × V) -> List (List Key × Addr × Value) -> Prop := Paired fun p q => p.1 = q.1 /\ H q.2.1 = some (.tup (p.1.map kV)) /\ RelV p.2 q.2.2
theorem KT.val {H : Hp} {kvs : List (List Key × V)} {xs : List (List Key × Addr × Value)} (r : KT H kvs xs) (k : List Key) : RelO (valV kvs k) ((atKey xs k).map (·.2)) := by
 induction r with
 | nil => exact True.intro
 | @cons p q ps qs h t ih =>
  obtain ⟨h1, _, h2⟩ := h
  by_cases e : p.1 = k
  ·have e' : q.1 = k := h1.symm.trans e;have b : atKey (q :: qs) k = some q.2 := by simp [atKey, List.find?_cons, e']
   rw [valV_pos e, b]; exact h2
  ·have e' : ¬ q.1 = k := fun z => e (h1.trans z);have b : atKey (q :: qs) k = atKey qs k := by simp [atKey, List.find?_cons, e']
   rw [valV_neg e, b]; exact ih
theorem KT.repl {H : Hp} {kvs : List (List Key × V)} {xs : List (List Key × Addr × Value)} (r : KT H kvs xs) (k : List Key) {y : V} {u : Value} (ry : RelV y u) :
  KT H (kvs.map fun kv => if kv.1 = k then (kv.1, y) else kv) (xs.map (putAt k u)) := by
 induction r with
 | nil => exact .nil
 | @cons p q ps qs h t ih =>
  rw [List.map_cons, List.map_cons];refine .cons ?_ ih;obtain ⟨h1, h2, h3⟩ := h;unfold putAt
  by_cases e : p.1 = k
  ·rw [if_pos e, if_pos (h1.symm.trans e)]; exact ⟨h1, h2, ry⟩
  ·rw [if_neg e, if_neg (fun z => e (h1.trans z))]; exact ⟨h1, h2, h3⟩
theorem KT.put {H : Hp} {kvs : List (List Key × V)} {xs : List (List Key × Addr × Value)} (r : KT H kvs xs) (k : List Key) {b : Addr} {y : V} {u : Value} (hb : H b = some (.tup (k.map kV))) (ry : RelV y u) :
  KT H (putK kvs k y) (storedH xs k b u) := by
 have e : (kvs.any fun kv => decide (kv.1 = k)) = (atKey xs k).isSome := by
  rw [valV_any, (r.val k).isSome_eq, Option.isSome_map]
 unfold putK storedH;rw [e]
 by_cases q : (atKey xs k).isSome = true
 ·rw [if_pos q, if_pos q]; exact r.repl k ry
 ·rw [if_neg q, if_neg q]; exact Paired.snoc r ⟨rfl, hb, ry⟩
theorem KT.keeps {H H' : Hp} {kvs : List (List Key × V)} {xs : List (List Key × Addr × Value)} (r : KT H kvs xs) (ht : ∀ b ys, H b = some (.tup ys) -> H' b = some (.tup ys)) : KT H' kvs xs :=
 Paired.mapP r fun _ _ z => ⟨z.1, ht _ _ z.2.1, z.2.2⟩
section
variable {P : Program} {w : World} {H : Hp} {h : Heap} {a : Addr}
theorem rd_of {u : HO} (ok : HOk P w H h) (e : Rd H a u) : ObjOk P w H h a u := e.ok ok
theorem dk_rd {kvs : List (Key × V)} (ok : HOk P w H h) (e : Rd H a (.dK kvs)) : kvs.length <= sizeLine /\ (a == sysModules) = false /\ ∃ vs, KV kvs vs /\ h.DictOf (mixKind P w) a vs :=
 show ObjOk P w H h a (.dK kvs) from rd_of ok e
theorem dk_of {kvs : List (Key × V)} (ok : HOk P w H h) (e : H a = some (.dK kvs)) : kvs.length <= sizeLine /\ (a == sysModules) = false /\ ∃ vs, KV kvs vs /\ h.DictOf (mixKind P w) a vs := dk_rd ok (.inl e)
theorem key_of {ks : List Key} (ok : HOk P w H h) (e : H a = some (.tup (ks.map kV))) : (tupleKind (mixKind P w)).is h ks a := by
 obtain ⟨_, its, r, o, h1, h2, n, h3⟩ := (show ObjOk P w H h a (.tup (ks.map kV)) from ok a _ e);exact ⟨o, its.toArray, n, h1, h2, h3, by simpa using items_are r⟩
theorem dt_rd {kvs : List (List Key × V)} (ok : HOk P w H h) (e : Rd H a (.dT kvs)) : kvs.length <= sizeLine /\ (a == sysModules) = false /\
  ∃ xs, KT H kvs xs /\ h.DictOfH (tupleKind (mixKind P w)) a xs := by
 obtain ⟨z, y, xs, r, o, es, ep, h1, h2, h3, h4, h5⟩ := (show ObjOk P w H h a (.dT kvs) from rd_of ok e);refine ⟨z, y, xs, r, o, es, ep, h1, h2, h3, h4, fun x hx => ?_, h5⟩;have all : ∀ {l : List (List Key × V)} {m : List (List Key × Addr × Value)}, KT H l m -> ∀ x ∈ m, (tupleKind (mixKind P w)).is h x.1 x.2.1 := by
  intro l m q
  induction q with
  | nil => intro x hx; exact nomatch hx
  | @cons p q ps qs hq t ih =>
   intro x hx;rcases List.mem_cons.mp hx with e | hx
   ·subst e;exact key_of ok (by rw [<- hq.1]; exact hq.2.1)
   ·exact ih x hx
 exact all r x hx
theorem dt_of {kvs : List (List Key × V)} (ok : HOk P w H h) (e : H a = some (.dT kvs)) : kvs.length <= sizeLine /\ (a == sysModules) = false /\
  ∃ xs, KT H kvs xs /\ h.DictOfH (tupleKind (mixKind P w)) a xs := dt_rd ok (.inl e)
end
def DGet (H : Hp) (a : Addr) (y : V) (r : Option V) : Prop :=
 (∃ kvs k, Rd H a (.dK kvs) /\ y = kV k /\ r = valV kvs k) ∨ ∃ kvs k b, Rd H a (.dT kvs) /\ y = .ref b /\ H b = some (.tup (k.map kV)) /\ r = valV kvs k
def DPut (H : Hp) (a : Addr) (y v : V) (H' : Hp) : Prop :=
 (∃ kvs k, H a = some (.dK kvs) /\ y = kV k /\ kvs.length < sizeLine /\ H' = upd H a (.dK (putK kvs k v))) ∨
 ∃ kvs k b, H a = some (.dT kvs) /\ y = .ref b /\ H b = some (.tup (k.map kV)) /\ kvs.length < sizeLine /\ H' = upd H a (.dT (putK kvs k v))
theorem DPut.t {H : Hp} {a b : Addr} {kvs : List (List Key × V)} {k : List Key} {v : V} (e : H a = some (.dT kvs)) (eb : H b = some (.tup (k.map kV))) (hl : kvs.length < sizeLine) :
  DPut H a (.ref b) v (upd H a (.dT (putK kvs k v))) := .inr ⟨kvs, k, b, e, rfl, eb, hl, rfl⟩
section
variable {X : Cx} {pins : List (Addr × Obj)} {σ : St} {H : Hp} {s : Shared} {a : Addr} {y v : V} {u r : Value} {o : Option V} {A : Around} {E : Value -> Shared -> Prop}
theorem Inv.big (I : Inv X pins σ H s) : sysModules < s.heap.objs.size := by
 have h : mainGlobals < s.heap.objs.size := (I.mod.glob.keeps I.bk).lt;exact Nat.lt_trans (by decide) h
theorem d_getItem {Q : Value -> Shared -> Prop} (hu : A.units + 1 < cLine) (I : Inv X pins σ H s) (g : DGet H a y (some v)) (ry : RelV y u) (h : ∀ w' s', Inv X pins σ H s' -> RelV v w' -> Q w' s') :
  wpAny (model X.prog X.w) A (getItem (.ref a) u) Q E s := by
 rcases g with ⟨kvs, k, e, ey, l⟩ | ⟨kvs, k, b, e, ey, eb, l⟩
 ·subst ey;obtain ⟨z, hd, vs, rel, dd⟩ := dk_rd I.hok e;obtain ⟨w', hw, rw'⟩ := RelO.some_of (v := v) (o := valueAt vs k) (by rw [l]; exact rel.val k);exact wpAny_getItem_of (kV_is ry) dd.mapOf hw (h w' _ (I.tok _) rw')
 ·subst ey;cases (show u = Value.ref b from ry);obtain ⟨z, hd, xs, rel, dd⟩ := dt_rd I.hok e;obtain ⟨w', hw, rw'⟩ := RelO.some_of (v := v) (o := (atKey xs k).map (·.2)) (by rw [l]; exact rel.val k);obtain ⟨p, hp, hp2⟩ := Option.map_eq_some_iff.mp hw;refine wpAny_getItem_heap (tupleKind_room_in1 hu) (key_of I.hok eb) dd hp ?_;rw [hp2];exact h w' _ (I.tok _) rw'
theorem d_in {Q : Value -> Shared -> Prop} (hu : A.units + 1 < cLine) (I : Inv X pins σ H s) (g : DGet H a y o) (ry : RelV y u) (h : ∀ s', Inv X pins σ H s' -> Q (.bool o.isSome) s') :
  wpAny (model X.prog X.w) A (compareOp .In u (.ref a)) Q E s := by
 rcases g with ⟨kvs, k, e, ey, l⟩ | ⟨kvs, k, b, e, ey, eb, l⟩
 ·subst ey;obtain ⟨z, hd, vs, rel, dd⟩ := dk_rd I.hok e;refine wpAny_in_of (kV_is ry) hd dd.mapOf ?_;rw [<- (rel.val k).isSome_eq, <- l];exact h _ (I.tok _)
 ·subst ey;cases (show u = Value.ref b from ry);obtain ⟨z, hd, xs, rel, dd⟩ := dt_rd I.hok e;refine wpAny_in_heap (tupleKind_room_in1 hu) (key_of I.hok eb) hd dd ?_;have q := (rel.val k).isSome_eq;rw [Option.isSome_map] at q;rw [<- q, <- l];exact h _ (I.tok _)
theorem d_notIn {Q : Value -> Shared -> Prop} (hu : A.units + 1 < cLine) (I : Inv X pins σ H s) (g : DGet H a y o) (ry : RelV y u) (h : ∀ s', Inv X pins σ H s' -> Q (.bool (!o.isSome)) s') :
  wpAny (model X.prog X.w) A (compareOp .NotIn u (.ref a)) Q E s := by
 rcases g with ⟨kvs, k, e, ey, l⟩ | ⟨kvs, k, b, e, ey, eb, l⟩
 ·subst ey;obtain ⟨z, hd, vs, rel, dd⟩ := dk_rd I.hok e;refine wpAny_notIn_of (kV_is ry) hd dd.mapOf ?_;rw [<- (rel.val k).isSome_eq, <- l];exact h _ (I.tok _)
 ·subst ey;cases (show u = Value.ref b from ry);obtain ⟨z, hd, xs, rel, dd⟩ := dt_rd I.hok e;refine wpAny_notIn_heap (tupleKind_room_in1 hu) (key_of I.hok eb) hd dd ?_;have q := (rel.val k).isSome_eq;rw [Option.isSome_map] at q;rw [<- q, <- l];exact h _ (I.tok _)
theorem d_write {h' : Heap} {t' : Nat} {ob : HO} (I : Inv X pins σ H s) (mu : Mut (H a)) (hs : Heap.SameBut a s.heap h') (he : ∃ q, h'.get? a = some q) (new : ObjOk X.prog X.w (upd H a ob) h' a ob) :
  Inv X pins σ (upd H a ob) { s with heap := h', toks := t' } :=
 I.write (x := a) (e := a) mu (.inl rfl) (fun b q hb z => (hs.2 b hb).trans z) he new
theorem dk_new {P : Program} {w : World} {H' : Hp} {h' : Heap} {kvs : List (Key × V)} {vs : List (Key × Value)} (z : kvs.length <= sizeLine) (hd : (a == sysModules) = false) (rel : KV kvs vs) (dd : h'.DictOf (mixKind P w) a vs) :
  ObjOk P w H' h' a (.dK kvs) := ⟨z, hd, vs, rel, dd⟩
theorem d_setItem {H' : Hp} {Q : Unit -> Shared -> Prop} (hu : A.units + 1 < cLine) (I : Inv X pins σ H s) (g : DPut H a y v H') (ry : RelV y u) (rv : RelV v r) (h : ∀ s', Inv X pins σ H' s' -> Q () s') :
  wpAny (model X.prog X.w) A (setItem (.ref a) u r) Q E s := by
 rcases g with ⟨kvs, k, e, ey, l, eH⟩ | ⟨kvs, k, b, e, ey, eb, l, eH⟩
 ·subst ey eH;obtain ⟨z, hd, vs, rel, dd⟩ := dk_of I.hok e;have hz : vs.length <= sizeLine := by rw [<- rel.length]; exact z
  have hl : (putK kvs k v).length <= sizeLine := by have := length_putK kvs k v; omega
  refine wpAny_setItem_pairs (hsz := hz) (kV_is ry) dd fun h' dd' hs => h _ ?_;have he : ∃ q, h'.get? a = some q := let ⟨q, _, _, hq, _⟩ := dd'; ⟨q, hq⟩;exact d_write I (by rw [e]; exact True.intro) hs he (dk_new hl hd (rel.put k rv) dd')
 ·subst ey eH;cases (show u = Value.ref b from ry);obtain ⟨z, hd, xs, rel, dd⟩ := dt_of I.hok e;have hz : xs.length <= sizeLine := by rw [<- Paired.length rel]; exact z
  have hl : (putK kvs k v).length <= sizeLine := by have := length_putK kvs k v; omega
  refine wpAny_setItem_heap (hsz := hz) (tupleKind_room_in1 hu) (key_of I.hok eb) dd fun h' dd' hs => h _ ?_;obtain ⟨q, es, ep, hq, h2, h3, h4, _, h5⟩ := dd';refine d_write I (by rw [e]; exact True.intro) hs ⟨q, hq⟩ ⟨hl, hd, _, (rel.put k eb rv).keeps fun c ys ec => ?_, q, es, ep, hq, h2, h3, h4, h5⟩;rw [upd_ne (ne_of ec e (fun z => nomatch z))];exact ec
end
section
variable {X : Cx} {pins : List (Addr × Obj)} {σ : St} {H : Hp} {s : Shared} {a : Addr} {kvs : List (Key × V)} {k : Key} {u : Value} {A : Around} {E : Value -> Shared -> Prop}
end
def NoSl (i : Expr) : Prop := ∀ ov iv, subscripted i false ov iv = operate [ov, iv] (getItem ov iv)
theorem subD_of {prog : Program} {w : World} {A : Around} {E : Value -> Shared -> Prop} {s : Shared} {env : Env} {value slice : Expr} {pos : Pos} {T id : String} {Q : Value -> Shared -> Prop}
  (hl : typeLookup (.type T) "__getitem__" = pure (some (.builtin id))) (hs : NoSl slice)
  (h : wpAny (model prog w) A (eval value env) (fun o s₁ => wpAny (model prog w) A (eval slice env) (fun i s₂ => s₂.TypeIs o T /\ wpAny (model prog w) A (getItem o i) Q E s₂) E s₁) E s) :
  wpAny (model prog w) A (eval (.Subscript value slice pos) env) Q E s := by
 refine Subscript_ (wpAny_mono h (fun o s₁ h₁ => wpAny_mono h₁ (fun i s₂ h₂ => ?_) fun _ _ x => x) fun _ _ x => x);obtain ⟨hT, h₂⟩ := h₂;unfold subscriptTail;refine wpAny_bind ?_;rw [getitemInPython_of_ne hT.not_modules];refine wpAny_bind (wpAny_specialOf hT hl ?_);have fin : wpAny (model prog w) A (subscripted slice false o i) (fun r s₃ => wpAny (model prog w) A (letTemporaryGo value o r >>= fun _ => pure r) Q E s₃) E s₂ := by
  rw [hs o i];exact wpAny_operating (wpAny_mono h₂ (fun r s₃ h₃ => wpAny_bind (wpAny_letTemporaryGo (wpAny_pure h₃))) fun _ _ x => x)
 first
  | exact wpAny_pure (wpAny_bind fin)
  | exact wpAny_bind (wpAny_pure (wpAny_bind fin))
  | exact wpAny_bind fin
theorem dict_typeIs {X : Cx} {pins : List (Addr × Obj)} {σ : St} {H : Hp} {s : Shared} {a : Addr} {y : V} {o : Option V} (I : Inv X pins σ H s) (g : DGet H a y o) : s.TypeIs (.ref a) "dict" := by
 rcases g with ⟨kvs, k, e, _, _⟩ | ⟨kvs, k, b, e, _, _, _⟩
 ·obtain ⟨_, _, vs, _, dd⟩ := dk_rd I.hok e;exact dd.typeIs
 ·obtain ⟨_, _, xs, _, dd⟩ := dt_rd I.hok e;exact dd.typeIs
def tDGet (td ty : TE) : TE := fun σ H Q => td σ H fun x H1 => ty σ H1 fun y H2 => ∃ a v, x = .ref a /\ DGet H2 a y (some v) /\ Q v H2
def tDIn (ty td : TE) : TE := fun σ H Q => ty σ H fun y H1 => td σ H1 fun x H2 => ∃ a o, x = .ref a /\ DGet H2 a y o /\ Q (.bl o.isSome) H2
def tDNotIn (ty td : TE) : TE := fun σ H Q => ty σ H fun y H1 => td σ H1 fun x H2 => ∃ a o, x = .ref a /\ DGet H2 a y o /\ Q (.bl (!o.isSome)) H2
def sDPut (td ty tv : TE) : TS := fun D σ H => tv σ H fun v H1 => td σ H1 fun x H2 => ty σ H2 fun y H3 => ∃ a H4, x = .ref a /\ DPut H3 a y v H4 /\ D.nx σ H4
section
variable {X : Cx} {o i e value : Expr} {pos pos' tpos : Pos} {td ty tv : TE}
theorem pe_dget (hu : X.A.units + 1 < cLine) (ho : PE X o td) (hi : PE X i ty) (hs : NoSl i) : PE X (.Subscript o i pos) (tDGet td ty) := by
 intro pins s σ H Q I h;refine subD_of PySem.F.slot_dict_getitem.lookup hs (thn (ho pins s σ H _ I h) fun u s1 ⟨x, H1, I1, rx, q1⟩ => thn (hi pins s1 σ H1 _ I1 q1) fun iv s2 ⟨y, H2, I2, ry, a, v, ex, g, q2⟩ => ?_);subst ex;obtain rfl : u = Value.ref a := rx;exact ⟨dict_typeIs I2 g, d_getItem hu I2 g ry fun w' s3 I3 rw' => ⟨v, H2, I3, rw', q2⟩⟩
theorem pc_din (hu : X.A.units + 1 < cLine) (hi : PE X i ty) (ho : PE X o td) : PC X .In i o (tDIn ty td) := by
 intro pins s σ H Q I h;refine thn (hi pins s σ H _ I h) fun iv s1 ⟨y, H1, I1, ry, q1⟩ => thn (ho pins s1 σ H1 _ I1 q1) fun u s2 ⟨x, H2, I2, rx, a, ov, ex, g, q2⟩ => ?_;subst ex;obtain rfl : u = Value.ref a := rx;exact d_in hu I2 g ry fun s3 I3 => ⟨.bl ov.isSome, H2, I3, rfl, q2⟩
theorem pc_dnotin (hu : X.A.units + 1 < cLine) (hi : PE X i ty) (ho : PE X o td) : PC X .NotIn i o (tDNotIn ty td) := by
 intro pins s σ H Q I h;refine thn (hi pins s σ H _ I h) fun iv s1 ⟨y, H1, I1, ry, q1⟩ => thn (ho pins s1 σ H1 _ I1 q1) fun u s2 ⟨x, H2, I2, rx, a, ov, ex, g, q2⟩ => ?_;subst ex;obtain rfl : u = Value.ref a := rx;exact d_notIn hu I2 g ry fun s3 I3 => ⟨.bl (!ov.isSome), H2, I3, rfl, q2⟩
theorem ps_dput (hu : X.A.units + 1 < cLine) (ho : PE X o td) (hi : PE X i ty) (hv : PE X value tv) (hs : swapsWith value (some (.Subscript o i pos')) pos.line X.env = pure false) :
  PS X (.Assign [.Subscript o i pos'] value pos) (sDPut td ty tv) := by
 intro pins s σ H D I h;refine wpAny_Assign_Subscript (thn (hv pins s σ H _ I h) fun r s1 ⟨v, H1, I1, rv, q1⟩ => thn (ho pins s1 σ H1 _ I1 q1) fun u s2 ⟨x, H2, I2, rx, q2⟩ => thn (hi pins s2 σ H2 _ I2 q2) fun iv s3 ⟨y, H3, I3, ry, a, H4, ex, g, q3⟩ => ?_) hs;subst ex;obtain rfl : u = Value.ref a := rx;exact d_setItem hu I3 g ry rv fun s4 I4 => ⟨σ, H4, I4, q3⟩
end
theorem dt_empty {P : Program} {w : World} {H : Hp} (h : Heap) (hb : sysModules < h.objs.size) : ObjOk P w H (h.push { cls := .type "dict", data := .dict #[] }) h.objs.size (.dT []) :=
 ⟨Nat.zero_le _, beq_eq_false_iff_ne.mpr (Ne.symm (Nat.ne_of_lt hb)), [], .nil, _, #[], 0, Heap.get?_push_size _ rfl, ⟨rfl, rfl, rfl⟩, rfl, rfl, List.nodup_nil⟩
def tDNewT : TE := fun _ H Q => ∀ p, H p = none -> Q (.ref p) (upd H p (.dT []))
section
variable {X : Cx} {pos : Pos}
theorem pe_dnewT : PE X (.Dict [] [] pos) tDNewT := fun pins s σ H Q I h =>
 wpAny_Dict_empty ⟨.ref s.heap.objs.size, _, I.laid (a := s.heap.objs.size) (o := .dT []) (t' := s.toks) (fun _ _ q => Heap.get?_push_of_some _ q) (Nat.le_refl _) (dt_empty s.heap I.big), rfl, h _ (I.hok.fresh (Nat.le_refl _))⟩
end
def tPairs : List (TE × TE) -> St -> Hp -> (List (V × V) -> Hp -> Prop) -> Prop
 | [], _, H, Q => Q [] H
 | (tk, tv) :: r, σ, H, Q => tk σ H fun x H1 => tv σ H1 fun y H2 => tPairs r σ H2 fun ps H3 => Q ((x, y) :: ps) H3
abbrev VV : List (V × V) -> List (Value × Value) -> Prop := Paired fun p q => RelV p.1 q.1 /\ RelV p.2 q.2
def PPs (X : Cx) (pos : Pos) (keys : List (Option Expr)) (values : List Expr) (trs : List (TE × TE)) : Prop :=
 ∀ (pins : List (Addr × Obj)) (s : Shared) (σ : St) (H : Hp) (Q : List (V × V) -> Hp -> Prop), Inv X pins σ H s -> tPairs trs σ H Q ->
  wpAny (model X.prog X.w) X.A (evalPairs (pairTrees keys values X.env pos)) (fun vs s' => ∃ ps H', Inv X pins σ H' s' /\ VV ps vs /\ Q ps H') X.xe s
theorem pps_nil {X : Cx} {pos : Pos} : PPs X pos [] [] [] := fun pins s σ H Q I h => pairTrees_nil_walk ⟨[], H, I, .nil, h⟩
theorem pps_cons {X : Cx} {pos : Pos} {k v : Expr} {ks : List (Option Expr)} {vs : List Expr} {tk tv : TE} {trs : List (TE × TE)} (hk : PE X k tk) (hv : PE X v tv) (hr : PPs X pos ks vs trs) :
  PPs X pos (some k :: ks) (v :: vs) ((tk, tv) :: trs) := fun pins s σ H Q I h =>
 pairTrees_cons_walk (thn (hk pins s σ H _ I h) fun u s1 ⟨x, H1, I1, rx, q1⟩ => thn (hv pins s1 σ H1 _ I1 q1) fun w2 s2 ⟨y, H2, I2, ry, q2⟩ =>
  thn (hr pins s2 σ H2 _ I2 q2) fun ws s3 ⟨ps, H3, I3, rel, q3⟩ => ⟨(x, y) :: ps, H3, I3, .cons ⟨rx, ry⟩ rel, q3⟩)
structure M1 (X : Cx) (o : Expr) (m : Str) (apos : Pos) (e : Expr) (cpos : Pos) : Prop where
 base : attributeBase o m X.env (eval o X.env) = eval o X.env
 few : ((backTo cpos (starEach [e] X.env)).all (fun x => !x.1) && (backToKw cpos (keywordEach [] X.env)).all (fun x => x.1.isSome)
  && decide (([e] : List Expr).length + ([] : List Keyword).length + (if ([] : List Keyword).isEmpty then 0 else 1) < 30)) = true
 line : (apos.endLine == cpos.line) = true
 trees : backTo cpos (starEach [e] X.env) = [(false, eval e X.env)]
structure M2 (X : Cx) (o : Expr) (m : Str) (apos : Pos) (e f : Expr) (cpos : Pos) : Prop where
 base : attributeBase o m X.env (eval o X.env) = eval o X.env
 few : ((backTo cpos (starEach [e, f] X.env)).all (fun x => !x.1) && (backToKw cpos (keywordEach [] X.env)).all (fun x => x.1.isSome)
  && decide (([e, f] : List Expr).length + ([] : List Keyword).length + (if ([] : List Keyword).isEmpty then 0 else 1) < 30)) = true
 line : (apos.endLine == cpos.line) = true
 trees : backTo cpos (starEach [e, f] X.env) = [(false, eval e X.env), (false, eval f X.env)]
section
variable {X : Cx} {pins : List (Addr × Obj)} {σ : St} {H : Hp} {s : Shared} {a : Addr} {y d : V} {u r : Value} {o : Option V} {A : Around} {E : Value -> Shared -> Prop}
end
section
variable {X : Cx} {o e f : Expr} {apos cpos : Pos} {td ty tx : TE}
end
section
variable {X : Cx} {pins : List (Addr × Obj)} {σ : St} {H : Hp} {s : Shared} {a : Addr} {kvs : List (Key × V)} {A : Around} {E : Value -> Shared -> Prop}
end
section
variable {X : Cx} {pins : List (Addr × Obj)} {σ : St} {H : Hp} {s : Shared} {a : Addr} {y : V} {u : Value} {A : Around} {E : Value -> Shared -> Prop}
end
end L2
namespace L2
open PySem PySem.Spec PyProof.Rows
section
variable {prog : Program} {w : World} {A : Around} {E : Value -> Shared -> Prop}
end
section
variable {X : Cx}
end
end L2
namespace L2
open PySem PySem.Spec PyProof.Rows
section
variable {X : Cx} {pins : List (Addr × Obj)} {σ : St} {H : Hp} {s : Shared} {h' : Heap}
theorem Inv.turnedNew {t' : Nat} {ch : List Addr} {T : Addr} {ob : HO} (I : Inv X pins σ H s) (k : ∀ b o, b ∉ ch -> s.heap.get? b = some o -> h'.get? b = some o) (hf : ∀ b ∈ ch, FpOk X pins H b) (hT : s.heap.objs.size <= T)
  (new : ObjOk X.prog X.w (upd H T ob) h' T ob) : Inv X pins σ (upd H T ob) { s with heap := h', toks := t' } := by
 have hn : H T = none := I.hok.fresh hT;have nit : ∀ b u, H b = some u -> b ∉ ch := fun b u e z => by
  have q := (hf b z).1;rw [q] at e; cases e
 refine I.step (g' := s.gens) (d' := s.drawn) (ch := ch) (fun b hb => ⟨(hf b hb).2.2.2.1, (hf b hb).2.1, (hf b hb).2.2.2.2.1, (hf b hb).2.2.2.2.2⟩) (fun b o _ _ hc e _ => k b o hc e) (fun b o _ _ hc e _ => ⟨o.slots, k b o hc e⟩)
  (fun b o _ e n => ?_) (fun b o hc e => ⟨o, k b o hc e⟩) (fun b xs e => ?_) (fun b o u e => ?_) (fun b ps e => ⟨#[], ?_⟩) (fun m hm => ?_) (fun b u e => ?_) I.bare
 ·rw [upd_ne (Nat.ne_of_lt (Nat.lt_of_lt_of_le (Heap.lt_size e) hT))]; exact n
 ·rw [upd_ne (ne_of_none e hn)]; exact e
 ·rw [upd_ne (ne_of_none e hn)]; exact e
 ·rw [upd_ne (ne_of_none e hn), e]; simp
 ·obtain ⟨o, es, ep, ho, r⟩ := hm;exact ⟨o, es, ep, k _ o (fun z => (hf _ z).2.1 rfl) ho, r⟩
 ·by_cases hb : b = T
  ·subst hb;rw [upd_same] at e;cases e;exact new
  ·rw [upd_ne hb] at e;refine (I.hok b u e).stay (fun c v hc q => k c v ?_ q) (fun c q => by rw [upd_ne (ne_of_none q hn)]; exact q) fun c xs q => by rw [upd_ne (ne_of_none q hn)]; exact q
   rcases hc with z | z
   ·rw [z]; exact nit b u e
   ·exact nit c _ z
theorem Inv.lock {d : Addr} {u : HO} (I : Inv X pins σ H s) (h : H d = some u) (mu : Mut (some u)) : ∃ od, Inv X pins σ (upd H d (.frz od u)) s := by
 have x := I.hok d u h;have ex : ∃ od, s.heap.get? d = some od := by
  cases u with
  | lst xs => obtain ⟨_, _, _, _, e⟩ := x; exact ⟨_, e⟩
  | dK kvs => obtain ⟨_, _, _, _, o, _, _, e, _⟩ := x; exact ⟨o, e⟩
  | dT kvs => obtain ⟨_, _, _, _, o, _, _, e, _⟩ := x; exact ⟨o, e⟩
  | set S n => obtain ⟨o, _, _, _, e, _⟩ := x; exact ⟨o, e⟩
  | ins C dx fs => obtain ⟨_, _, _, e, _⟩ := x; exact ⟨_, e⟩
  | ext φ => obtain ⟨_, ⟨_, e⟩, _⟩ := x; exact ⟨_, e⟩
  | _ => exact False.elim mu
 obtain ⟨od, e⟩ := ex;have new : ObjOk X.prog X.w (upd H d (.frz od u)) s.heap d (.frz od u) := by
  refine ⟨e, x.stay (fun b v _ q => q) (fun b q => ?_) fun b xs q => ?_⟩
  ·rw [upd_ne (fun z => by rw [z, h] at q; cases q; exact mu)]; exact q
  ·rw [upd_ne (fun z => by rw [z, h] at q; cases q; exact mu)]; exact q
 exact ⟨od, I.write (x := d) (e := d) (t' := s.toks) (h' := s.heap) (by rw [h]; exact mu) (.inl rfl) (fun b v _ q => q) ⟨od, e⟩ new⟩
theorem Inv.nofrz {d : Addr} {u : HO} (I : Inv X pins σ H s) (h : H d = some u) (mu : Mut (some u)) : ∀ o' u', X.H_0 d ≠ some (.frz o' u') := fun o' u' e => by
 have q := I.base.frzs d o' u' e;rw [h] at q;cases q;exact mu
theorem Inv.unlock {d : Addr} {od : Obj} {u : HO} (I : Inv X pins σ H s) (h : H d = some (.frz od u)) (hn : ∀ o' u', X.H_0 d ≠ some (.frz o' u')) : Inv X pins σ (upd H d u) s := by
 have neH : ∀ b o, H b = some o -> (∀ o' u', o ≠ .frz o' u') -> b ≠ d := fun b o e hne z => by
  rw [z, h] at e;cases e;exact hne _ _ rfl
 have neN : ∀ b, H b = none -> b ≠ d := fun b e z => by rw [z, h] at e; cases e
 refine ⟨I.ok, I.os, I.bare, ⟨I.base.keep, I.base.slot, fun b o e n hx => ?_, I.base.there, fun b xs e => ?_, fun b o x e => ?_, fun b ps e => ?_⟩, I.loc, I.cell, ?_, fun x c e => ?_, fun p hp => ?_, fun b o e => ?_, I.len⟩
 ·rw [upd_ne (neN b (I.base.free b o e n hx))]; exact I.base.free b o e n hx
 ·have q := I.base.tups b xs e;rw [upd_ne (neH b _ q (fun _ _ z => nomatch z))]; exact q
 ·have q := I.base.frzs b o x e;rw [upd_ne (fun z => by rw [z] at e; exact hn _ _ e)]; exact q
 ·obtain ⟨m, q⟩ := I.base.tbls b ps e;exact ⟨m, by rw [upd_ne (neH b _ q (fun _ _ z => nomatch z))]; exact q⟩
 ·rw [upd_ne (neN _ I.free)]; exact I.free
 ·rw [upd_ne (neN c (I.freeC x c e))]; exact I.freeC x c e
 ·obtain ⟨e, n, r⟩ := I.pin p hp;exact ⟨e, by rw [upd_ne (neN _ n)]; exact n, r⟩
 ·by_cases hb : b = d
  ·rw [hb, upd_same] at e;cases e;rw [hb];obtain ⟨_, x⟩ := I.hok d _ h;exact x.stay (fun c v _ q => q) (fun c q => by rw [upd_ne (neH c _ q (fun _ _ z => nomatch z))]; exact q) fun c xs q => by rw [upd_ne (neH c _ q (fun _ _ z => nomatch z))]; exact q
  ·rw [upd_ne hb] at e;exact (I.hok b o e).stay (fun c v _ q => q) (fun c q => by rw [upd_ne (neH c _ q (fun _ _ z => nomatch z))]; exact q) fun c xs q => by rw [upd_ne (neH c _ q (fun _ _ z => nomatch z))]; exact q
end
def tLock (t : TS) : TS := fun D σ H => ∃ d u, H d = some u /\ Mut (some u) /\ ∀ od, t ⟨fun σ' H' => H' d = some (.frz od u) /\ D.nx σ' (upd H' d u), fun v H' => H' d = some (.frz od u) /\ D.rt v (upd H' d u), fun σ' H' => H' d = some (.frz od u) /\ D.bk σ' (upd H' d u), fun σ' H' => H' d = some (.frz od u) /\ D.ct σ' (upd H' d u)⟩ σ (upd H d (.frz od u))
def tLockE (t : TE) : TE := fun σ H Q => ∃ d u, H d = some u /\ Mut (some u) /\ ∀ od, t σ (upd H d (.frz od u)) fun v H' => H' d = some (.frz od u) /\ Q v (upd H' d u)
section
variable {X : Cx}
theorem ps_lock {st : Stmt} {t : TS} (h : PS X st t) : PS X st (tLock t) := by
 intro pins s σ H D I hw;obtain ⟨d, u, hd, mu, hw⟩ := hw;obtain ⟨od, I1⟩ := I.lock hd mu;refine thn (h pins s σ _ _ I1 (hw od)) fun f s1 q => ?_;cases f with
 | next => obtain ⟨σ', H', I2, e, q⟩ := q; exact ⟨σ', _, I2.unlock e (I.nofrz hd mu), q⟩
 | brk => obtain ⟨σ', H', I2, e, q⟩ := q; exact ⟨σ', _, I2.unlock e (I.nofrz hd mu), q⟩
 | cont => obtain ⟨σ', H', I2, e, q⟩ := q; exact ⟨σ', _, I2.unlock e (I.nofrz hd mu), q⟩
 | ret v => obtain ⟨x, σ', H', I2, r, e, q⟩ := q; exact ⟨x, σ', _, I2.unlock e (I.nofrz hd mu), r, q⟩
theorem pe_lock {e : Expr} {t : TE} (h : PE X e t) : PE X e (tLockE t) := by
 intro pins s σ H Q I hw;obtain ⟨d, u, hd, mu, hw⟩ := hw;obtain ⟨od, I1⟩ := I.lock hd mu;refine thn (h pins s σ _ _ I1 (hw od)) fun v s1 ⟨x, H1, I2, r, e2, q⟩ => ?_;exact ⟨x, _, I2.unlock e2 (I.nofrz hd mu), r, q⟩
theorem pi_one {tg : Expr} {pins : List (Addr × Obj)} {σ : St} {H : Hp} {s : Shared} {R : It -> Hp -> Prop} {J : It} {tn : Nat -> Heap -> Prop} {tk : Nat} (I : Inv X pins σ H s) (o : Obj)
  (T : Turn X.prog X.w X.K tg J [s.heap.objs.size] s.heap.objs.size tn) (st : tn 0 (s.heap.push o)) (q : R J H) : PIE X pins σ tg R (.ref s.heap.objs.size) { s with heap := s.heap.push o, toks := tk } := by
 refine ⟨s.heap.objs.size, [s.heap.objs.size], tn, J, H, rfl, I.kept fun b ob e => Heap.get?_push_of_some _ e, T, st, fun b hb => ?_, q⟩;have e : b = s.heap.objs.size := by simpa using hb
 subst e;exact I.fpOk (Nat.le_refl _) (I.hok.fresh (Nat.le_refl _))
end
def Itc (lo c : Int) (n : Nat) : It := ⟨fun i _ => i < n, fun i H x H' => H' = H /\ x = .int (lo + (i : Nat) * c), fun i _ => n <= i⟩
theorem turn_rangeC {P : Program} {w : World} {K : PySem.W.Frag} {tg : Expr} (it : Addr) (lo c : Int) (n : Nat) : Turn P w K tg (Itc lo c n) [it] it (fun i h => IsRangeIter h it (lo + (i : Nat) * c) ((n : Int) - (i : Nat)) c) where
 mem := by simp
 obj := fun i h st b hb => by
  have e : b = it := by simpa using hb
  subst e;exact ⟨_, st, fun v z => nomatch z⟩
 keep := fun i h h' st k => k it (by simp) _ st
 item := by
  intro X hP hw hK hc i pins s σ H E I hf st hg;subst hP hw hK;obtain ⟨f0, f1, f2, f3, f4, f5⟩ := hf it (by simp);have W := Walks.range (prog := X.prog) (w := X.w) (I.ok.hd hc) it lo c n;refine W.item i s _ _ hg st fun v h' tk hv st' kk => ?_;obtain ⟨t, rfl⟩ := hv;have I1 : Inv X pins σ H { s with heap := h', toks := tk } := I.turned (fun b o hb e => kk b o (by simpa using hb) e) f0 f1 f3 f4 f5
  exact ⟨_, rfl, go_of (s := { s with heap := h', toks := tk }) (n := "range_iterator") st' rfl rfl (by decide) ⟨.int (lo + (i : Nat) * c), H, I1, ⟨t, rfl⟩, ⟨rfl, rfl⟩, st', fun b hb => (hf b hb).1⟩⟩
 done := by
  intro X hP hw hK hc i pins s σ H E I hf st hg;subst hP hw hK;obtain ⟨f0, f1, f2, f3, f4, f5⟩ := hf it (by simp);exact wpAny_pyNext_range_end (I.ok.hd hc) st (by have : n <= i := hg; omega) fun h' eb => ⟨rfl, I.turned (t' := s.toks) (fun b o hb e => eb b o hb e) f0 f1 f3 f4 f5⟩
 self := fun A i s Q E st h => wpAny_pyIter_rangeiter st h
def RgC (i j c : Int) (n : Nat) : Prop := c ≠ 0 /\ c.natAbs < 1073741824 /\ Builtin.Range.small i j c = true /\ Builtin.Range.rangeSize i j c = n
def iRng3 (ta : TA) : TI := fun σ H R => ta σ H fun vs H1 => ∃ (i j c : Int) (n : Nat), vs = [.int i, .int j, .int c] /\ RgC i j c n /\ R (Itc i c n) H1
section
variable {X : Cx} {tg : Expr}
theorem pi_range3 {a b c : Expr} {ta : TA} {p pos : Pos} (hg : Gl X "range") (hm : X.mg "range" = none) (ha : PA X [a, b, c] ta)
  (hs : starEach [a, b, c] X.env = (false, eval a X.env) :: starEach [b, c] X.env := by rfl) (hpl : (backTo pos (starEach [b, c] X.env)).any (·.1) = false := by rfl) :
  PI X tg (.Call (.Name "range" p) [a, b, c] [] pos) (iRng3 ta) := by
 intro pins s σ H R I h;refine Call_ (ld_blt I hg hm boot_range (PyProof.Rows.callWith_type1 (thn (ha pos pins s σ H _ I h) fun us s1 ⟨vs, H1, I1, r1, q1⟩ => ?_) hs hpl));obtain ⟨i, j, k, n, e, ⟨c0, c1, c2, c3⟩, q⟩ := q1;subst e;cases r1 with
 | cons r rr =>
  cases rr with
  | cons r' rr =>
   cases rr with
   | cons r'' rr =>
    cases rr;obtain ⟨t, rfl⟩ := r;obtain ⟨t', rfl⟩ := r';obtain ⟨t'', rfl⟩ := r'';refine call_range_3 c0 ?_ (.inl (PyProof.noPylong_small c1));refine wpAny_pyIter_range (IsRange.new ..) c2 ?_;have I2 : Inv X pins σ H1 { s1 with heap := s1.heap.push { cls := .type "range", data := .fields #[.int i t, .int j t', .int k t''] } } := I1.kept (t' := s1.toks) fun b o e => Heap.get?_push_of_some _ e
    refine pi_one (tk := s1.toks) I2 _ (turn_rangeC _ i k n) ?_ q;have e1 : i + ((0 : Nat) : Int) * k = i := by simp
    have e2 : (n : Int) - ((0 : Nat) : Int) = Builtin.Range.rangeSize i j k := by rw [c3]; simp
    show IsRangeIter _ _ (i + ((0 : Nat) : Int) * k) ((n : Int) - ((0 : Nat) : Int)) k;rw [e1, e2];exact Heap.get?_push_size _ rfl
end
theorem for_rangeC {lo c : Int} {n : Nat} {g : TG} {tb : TS} {D : Ends} {σ : St} {H : Hp} (Pv : Nat -> St -> Hp -> Prop) (h0 : Pv 0 σ H)
  (hs : ∀ i σ H, i < n -> Pv i σ H -> g (.int (lo + (i : Nat) * c)) σ H fun σ2 H2 => tb { D with nx := Pv (i + 1), ct := Pv (i + 1), bk := D.nx } σ2 H2) (hd : ∀ σ H, Pv n σ H -> D.nx σ H) :
  ∃ W : Nat -> Nat -> St -> Hp -> Prop, (∃ m, W 0 m σ H) /\ ∀ i m σ H, W i m σ H ->
   ((Itc lo c n).stop i H /\ D.nx σ H) ∨ ((Itc lo c n).go i H /\ ∃ N : St -> Hp -> Prop, (∀ σ' H', N σ' H' -> ∃ m', m' < m /\ W (i + 1) m' σ' H') /\ ∀ x H', (Itc lo c n).yld i H x H' -> g x σ H' fun σ2 H2 => tb { D with nx := N, ct := N, bk := D.nx } σ2 H2) := by
 refine ⟨fun i m σ H => m = n - i /\ i <= n /\ Pv i σ H, ⟨n, by simp, Nat.zero_le _, h0⟩, ?_⟩;rintro i m σ H ⟨rfl, hi, p⟩
 by_cases hlt : i < n
 ·refine .inr ⟨hlt, Pv (i + 1), fun σ' H' p' => ⟨n - (i + 1), by omega, rfl, hlt, p'⟩, fun x H' y => ?_⟩;obtain ⟨e, y⟩ := y;subst e y;exact hs i σ _ hlt p
 ·have e : i = n := by omega
  subst e;exact .inl ⟨Nat.le_refl _, hd σ H p⟩
section
variable {X : Cx} {tg : Expr}
end
section
variable {prog : Program} {w : World} {A : Around} {E : Value -> Shared -> Prop} {s : Shared}
theorem iter_keys {d : Addr} {o : Obj} {es : Array DictEntry} {ep : Nat} {Q : Value -> Shared -> Prop} (hd : (d == sysModules) = false) (ho : s.heap.get? d = some o) (hc : o.ExactDict) (hdat : o.data = .dict es ep)
  (hQ : Q (.ref s.heap.objs.size) { s with heap := s.heap.push { cls := .type "dict_keyiterator", data := .fields #[.ref d, .int 0 0, .int es.size 0, .int ep 0] } }) :
  wpAny (model prog w) A (pyIter (.ref d)) Q E s := by
 have hT : s.TypeIs (.ref d) "dict" := ⟨o, ho, hc.1⟩;refine wpAny_pyIter_slot hT F.slot_dict_iter (wpAny_call_entry F.slot_dict_iter hT F.entry_dict_iter ?_ (F.args_dict_iter_1 _));unfold Builtin.«dict.__iter__»;refine wpAny_bind ?_;unfold Builtin.Dict.dictSlotNone;refine wpAny_bind (wpAny_notOrdered_dict hT ?_);show wpAny _ _ (pure (Value.ref d)) _ _ s;refine wpAny_pure ?_;show wpAny _ _ (Builtin.Dict.showsAll d >>= _) _ _ s;unfold Builtin.Dict.showsAll;rw [if_neg (by rw [hd]; exact Bool.false_ne_true)];refine wpAny_bind (wpAny_pure ?_);refine wpAny_bind (wpAny_dictEntries ho hdat ?_);refine wpAny_bind (wpAny_dictEpoch ho hdat ?_);refine wpAny_bind (wpAny_newObj_type (wpAny_pure ⟨_, rfl, "dict_keyiterator", _, ⟨_, Heap.get?_push_size _ rfl, rfl⟩, F.slot_dict_keyiterator_next.lookup, ?_⟩));simpa [rawInt] using hQ
theorem next_key_item {it d : Addr} {i n ep : Nat} {od : Obj} {es : Array DictEntry} {en : DictEntry} {Q : Option Value -> Shared -> Prop} (hit : s.heap.IsKeyIter it d i n ep) (hod : s.heap.get? d = some od) (hdd : od.data = .dict es ep)
  (hsz : es.size = n) (hx : es[i]? = some en) (hQ : ∀ h', h'.IsKeyIter it d (i + 1) n ep -> Heap.SameBut it s.heap h' -> Q (some en.key) { s with heap := h' }) : wpAny (model prog w) A (pyNext (.ref it)) Q E s := by
 obtain ⟨o, ho, hc, hd⟩ := id hit;unfold pyNext;refine wpAny_bind (wpAny_attempt (wpAny_callSpecial?_slot (name := Str.ofString "__next__") hit.typeIs F.slot_dict_keyiterator_next
  (wpAny_call_entry F.slot_dict_keyiterator_next hit.typeIs F.entry_dict_keyiterator_next ?_ (F.args_dict_keyiterator_next_1 _))))
 refine wpAny_bind (wpAny_pure ?_);refine wpAny_bind ?_;refine wpAny_bind ?_
 first | refine wpAny_bind (wpAny_typeNameOfWhole_keyiter hit.typeIs (wpAny_pure ?_)) | refine wpAny_bind (wpAny_typeNameOf_keyiter hit.typeIs (wpAny_pure ?_))
 refine wpAny_bind (wpAny_fieldsOf ho hd ?_);have hown : Builtin.Dict_items.ownsTuple "dict_keyiterator" = false := by decide
 simp only [hown, Bool.false_eq_true, if_false];show wpAny _ _ (if (Value.ref d == Value.none) = true then _ else _) _ _ s;rw [if_neg (show ¬ ((Value.ref d == Value.none) = true) from Bool.false_ne_true)];refine wpAny_bind (wpAny_pure ?_);refine wpAny_bind (wpAny_dictEntries hod hdd ?_);rw [if_neg (by rw [hsz]; simp)];refine wpAny_bind (wpAny_pure ?_);refine wpAny_bind (wpAny_dictEpoch hod hdd ?_);rw [if_neg (by simp)];refine wpAny_pure ?_;obtain ⟨hlt', hen⟩ := Array.getElem?_eq_some_iff.mp hx;simp only [show ¬ ((i : Int) < 0) from by omega, if_false, Int.toNat_natCast, Array.getElem?_eq_getElem hlt'];refine wpAny_bind ?_
 first | refine wpAny_bind (wpAny_typeNameOfWhole_keyiter hit.typeIs (wpAny_pure ?_)) | refine wpAny_bind (wpAny_typeNameOf_keyiter hit.typeIs (wpAny_pure ?_))
 refine wpAny_bind (wpAny_isOneOf_keyiter hit.typeIs ?_);show wpAny _ _ (setField (.ref it) 1 (rawInt ((i : Int) + 1)) >>= _) _ _ s;refine wpAny_bind (wpAny_setField ho hd (by simp) ?_);have hit' : (s.heap.update it (Obj.mapFields (·.setIfInBounds 1 (rawInt ((i : Int) + 1))))).IsKeyIter it d (i + 1) n ep :=
  ⟨_, Heap.get?_update_self _ ho (Obj.isFreed_of_fields (Obj.data_mapFields hd _)), (Obj.cls_mapFields ..).trans hc, by rw [Obj.data_mapFields hd]; simp [rawInt]⟩
 refine wpAny_bind (wpAny_holding ?_);refine wpAny_bind (wpAny_isOneOf_keyiter (s := { s with heap := s.heap.update it (Obj.mapFields (·.setIfInBounds 1 (rawInt ((i : Int) + 1)))) }) hit'.typeIs ?_)
 show wpAny _ _ (pure es[i].key) _ _ _;rw [hen];exact wpAny_pure (wpAny_pure ⟨_, rfl, wpAny_pure (hQ _ hit' (Heap.SameBut.update ..))⟩)
theorem next_key_end {it d : Addr} {i n ep : Nat} {od : Obj} {es : Array DictEntry} {Q : Option Value -> Shared -> Prop} (hh : A.handled = none) (hit : s.heap.IsKeyIter it d i n ep) (hod : s.heap.get? d = some od) (hdd : od.data = .dict es ep)
  (hsz : es.size = n) (hge : n <= i) (hQ : ∀ h', Heap.ExtBut it s.heap h' -> Q none { s with heap := h' }) : wpAny (model prog w) A (pyNext (.ref it)) Q E s := by
 obtain ⟨o, ho, hc, hd⟩ := id hit;unfold pyNext;refine wpAny_bind (wpAny_attempt (wpAny_callSpecial?_slot (name := Str.ofString "__next__") hit.typeIs F.slot_dict_keyiterator_next
  (wpAny_call_entry F.slot_dict_keyiterator_next hit.typeIs F.entry_dict_keyiterator_next ?_ (F.args_dict_keyiterator_next_1 _))))
 refine wpAny_bind (wpAny_pure ?_);refine wpAny_bind ?_;refine wpAny_bind ?_
 first | refine wpAny_bind (wpAny_typeNameOfWhole_keyiter hit.typeIs (wpAny_pure ?_)) | refine wpAny_bind (wpAny_typeNameOf_keyiter hit.typeIs (wpAny_pure ?_))
 refine wpAny_bind (wpAny_fieldsOf ho hd ?_);have hown : Builtin.Dict_items.ownsTuple "dict_keyiterator" = false := by decide
 simp only [hown, Bool.false_eq_true, if_false];show wpAny _ _ (if (Value.ref d == Value.none) = true then _ else _) _ _ s;rw [if_neg (show ¬ ((Value.ref d == Value.none) = true) from Bool.false_ne_true)];refine wpAny_bind (wpAny_pure ?_);refine wpAny_bind (wpAny_dictEntries hod hdd ?_);rw [if_neg (by rw [hsz]; simp)];refine wpAny_bind (wpAny_pure ?_);refine wpAny_bind (wpAny_dictEpoch hod hdd ?_);rw [if_neg (by simp)];refine wpAny_pure ?_;have hge' : es.size <= i := by rw [hsz]; exact hge
 simp only [show ¬ ((i : Int) < 0) from by omega, if_false, Int.toNat_natCast, Array.getElem?_eq_none hge'];refine wpAny_bind ?_
 first | refine wpAny_bind (wpAny_typeNameOfWhole_keyiter hit.typeIs (wpAny_pure ?_)) | refine wpAny_bind (wpAny_typeNameOf_keyiter hit.typeIs (wpAny_pure ?_))
 show wpAny _ _ (setField (.ref it) 0 .none >>= _) _ _ s;refine wpAny_bind (wpAny_setField ho hd (by simp) ?_);show wpAny _ _ (newExc (.type "StopIteration") [] >>= _) _ _ _;refine wpAny_bind ?_;simp only [newExc, newTuple];refine wpAny_bind (wpAny_newObj_type ?_ (by size_fits));refine wpAny_bind (m := firstArgMember _ _) (wpAny_of_eq (a := Value.none) (by first | rfl | (simp only [firstArgMember]; rfl)) ?_);refine wpAny_newObj_type ?_ (by size_fits);simp only [raiseNew];refine wpAny_bind (wpAny_handled ?_);rw [show A.in1.handled = none from hh];refine wpAny_bind (wpAny_pure (wpAny_throw ?_));refine wpAny_bind (wpAny_isInstance (T := "StopIteration") (b := true) ⟨_, Heap.get?_push_size _ rfl, rfl⟩ isSubtype_stop ?_);exact wpAny_pure (hQ _ (((Heap.SameBut.update ..).extBut.push _).push _))
end
theorem kv_get {κ : Type} {kvs : List (κ × V)} {vs : List (κ × Value)} (h : KV kvs vs) : ∀ {i : Nat} {k : κ} {v : V}, kvs[i]? = some (k, v) -> ∃ u, vs[i]? = some (k, u) /\ RelV v u := by
 unfold KV at h
 induction h with
 | nil => intro i k v e; simp at e
 | @cons a b l₁ l₂ r t ih =>
  intro i k v e;cases i with
  | zero =>
   simp only [List.getElem?_cons_zero, Option.some.injEq] at e;subst e;refine ⟨b.2, ?_, r.2⟩;simp only [List.getElem?_cons_zero];exact congrArg some (Prod.ext r.1.symm rfl)
  | succ j =>
   simp only [List.getElem?_cons_succ] at e ⊢;exact ih e
theorem paired_get {α β : Type} {G : α -> β -> Prop} {l₁ : List α} {l₂ : List β} (h : Paired G l₁ l₂) : ∀ {i : Nat} {a : α}, l₁[i]? = some a -> ∃ b, l₂[i]? = some b /\ G a b := by
 induction h with
 | nil => intro i a e; simp at e
 | @cons a b l₁ l₂ r t ih =>
  intro i a' e;cases i with
  | zero =>
   simp only [List.getElem?_cons_zero, Option.some.injEq] at e;subst e;exact ⟨b, rfl, r⟩
  | succ j =>
   simp only [List.getElem?_cons_succ] at e ⊢;exact ih e
theorem relV_key {k : Key} {u : Value} (h : keyIs k u = true) : RelV (kV k) u := by
 rcases keyIs_shape h with ⟨i, t, rfl, rfl⟩ | ⟨x, t, rfl, rfl⟩
 ·exact ⟨t, rfl⟩
 ·exact ⟨t, rfl⟩
section
variable {X : Cx} {pins : List (Addr × Obj)} {σ : St} {H : Hp} {s : Shared} {d : Addr} {o : Obj}
theorem Inv.frzK {kvs : List (Key × V)} (I : Inv X pins σ H s) (h : H d = some (.frz o (.dK kvs))) :
  (d == sysModules) = false /\ s.heap.get? d = some o /\ o.ExactDict /\ ∃ (es : Array DictEntry) (ep : Nat) (vs : List (Key × Value)), o.data = .dict es ep /\ es.size = kvs.length /\ KV kvs vs /\ s.heap.DictAt (mixKind X.prog X.w) d vs ep := by
 obtain ⟨hd, z, hs, vs, kv, o', es, ep, ho, hx, hdt, r⟩ := I.hok d _ h;rw [hd] at ho;cases ho;refine ⟨hs, hd, hx, es, ep, vs, hdt, ?_, kv, o, es, hd, hx, hdt, r⟩;have l1 := r.2.1.length;have l2 : kvs.length = vs.length := Paired.length kv;rw [Array.length_toList] at l1;omega
theorem Inv.frzT {kvs : List (List Key × V)} (I : Inv X pins σ H s) (h : H d = some (.frz o (.dT kvs))) :
  (d == sysModules) = false /\ s.heap.get? d = some o /\ o.ExactDict /\ ∃ (es : Array DictEntry) (ep : Nat), o.data = .dict es ep /\ es.size = kvs.length /\
   ∀ (i : Nat) (k : List Key) (v : V), kvs[i]? = some (k, v) -> ∃ (en : DictEntry) (q : Addr), es[i]? = some en /\ en.key = .ref q /\ H q = some (.tup (k.map kV)) := by
 obtain ⟨hd, z, hs, xs, pr, o', es, ep, ho, hx, hdt, he, _⟩ := I.hok d _ h;rw [hd] at ho;cases ho;refine ⟨hs, hd, hx, es, ep, hdt, ?_, fun i k v e => ?_⟩
 ·have l1 : es.size = xs.length := size_of_entries he;have l2 : kvs.length = xs.length := Paired.length pr;omega
 ·obtain ⟨b, hb, e1, e2, _⟩ := paired_get pr e;have q := entry_at he i;rw [hb] at q;exact ⟨_, b.2.1, q, rfl, e2⟩
end
def Itk (d : Addr) (o : Obj) (kvs : List (Key × V)) : It :=
 ⟨fun i H => H d = some (.frz o (.dK kvs)) /\ i < kvs.length, fun i H x H' => H' = H /\ ∃ k v, kvs[i]? = some (k, v) /\ x = kV k, fun i H => H d = some (.frz o (.dK kvs)) /\ kvs.length <= i⟩
def Itkt (d : Addr) (o : Obj) (kvs : List (List Key × V)) : It :=
 ⟨fun i H => H d = some (.frz o (.dT kvs)) /\ i < kvs.length, fun i H x H' => H' = H /\ ∃ (k : List Key) (v : V) (q : Addr), kvs[i]? = some (k, v) /\ x = .ref q /\ H q = some (.tup (k.map kV)), fun i H => H d = some (.frz o (.dT kvs)) /\ kvs.length <= i⟩
theorem dict_ep {o : Obj} {es es' : Array DictEntry} {ep ep' : Nat} (h : o.data = .dict es ep) (h' : o.data = .dict es' ep') : es' = es /\ ep' = ep := by
 rw [h] at h';cases h';exact ⟨rfl, rfl⟩
section
variable {P : Program} {w : World} {K : PySem.W.Frag} {tg : Expr} {d : Addr} {o : Obj} {es : Array DictEntry} {ep : Nat}
theorem turn_keys {kvs : List (Key × V)} (it : Addr) (hod : o.data = .dict es ep) : Turn P w K tg (Itk d o kvs) [it] it (fun i h => h.IsKeyIter it d i kvs.length ep) where
 mem := by simp
 obj := fun i h st b hb => by
  have e : b = it := by simpa using hb
  subst e;obtain ⟨oi, e, c, dd⟩ := st;exact ⟨oi, e, fun v z => by rw [dd] at z; cases z⟩
 keep := fun i h h' st k => st.at fun oi e => k it (by simp) oi e
 item := by
  intro X hP hw hK hc i pins s σ H E I hf st hg;subst hP hw hK;obtain ⟨hd, hi⟩ := hg;obtain ⟨f0, f1, f2, f3, f4, f5⟩ := hf it (by simp);obtain ⟨hs, hgd, hx, es', ep', vs, hdt, hsz, kv, hm⟩ := I.frzK hd;obtain ⟨rfl, rfl⟩ := dict_ep hod hdt;obtain ⟨⟨k, v⟩, hkv⟩ : ∃ p, kvs[i]? = some p := ⟨kvs[i], List.getElem?_eq_getElem hi⟩;obtain ⟨u, hu, ru⟩ := kv_get kv hkv;have hl : kvs.length = vs.length := Paired.length kv;rw [hl] at st;refine wpAny_pyNext_dict_item st hm hu fun key h' hkey st' sb => ?_;have I1 : Inv X pins σ H { s with heap := h' } := I.turned (t' := s.toks) (fun b ob hb e => (sb.2 b hb).trans e) f0 f1 f3 f4 f5
  obtain ⟨oi, e, c, dd⟩ := id st';refine ⟨key, rfl, go_of (s := { s with heap := h' }) e c dd (by decide) ⟨kV k, H, I1, relV_key (show keyIs k key = true from hkey), ⟨rfl, k, v, hkv, rfl⟩, ?_, fun b hb => (hf b hb).1⟩⟩
  show h'.IsKeyIter it d (i + 1) kvs.length _;rw [hl];exact st'
 done := by
  intro X hP hw hK hc i pins s σ H E I hf st hg;subst hP hw hK;obtain ⟨hd, hi⟩ := hg;obtain ⟨f0, f1, f2, f3, f4, f5⟩ := hf it (by simp);obtain ⟨hs, hgd, hx, es', ep', vs, hdt, hsz, kv, hm⟩ := I.frzK hd;obtain ⟨rfl, rfl⟩ := dict_ep hod hdt;exact next_key_end (I.ok.hd hc) st hgd hdt hsz hi fun h' eb => ⟨rfl, I.turned (t' := s.toks) (fun b ob hb e => eb b ob hb e) f0 f1 f3 f4 f5⟩
 self := fun A i s Q E st h => wpAny_pyIter_keyiter st h
theorem turn_keysT {kvs : List (List Key × V)} (it : Addr) (hod : o.data = .dict es ep) : Turn P w K tg (Itkt d o kvs) [it] it (fun i h => h.IsKeyIter it d i kvs.length ep) where
 mem := by simp
 obj := fun i h st b hb => by
  have e : b = it := by simpa using hb
  subst e;obtain ⟨oi, e, c, dd⟩ := st;exact ⟨oi, e, fun v z => by rw [dd] at z; cases z⟩
 keep := fun i h h' st k => st.at fun oi e => k it (by simp) oi e
 item := by
  intro X hP hw hK hc i pins s σ H E I hf st hg;subst hP hw hK;obtain ⟨hd, hi⟩ := hg;obtain ⟨f0, f1, f2, f3, f4, f5⟩ := hf it (by simp);obtain ⟨hs, hgd, hx, es', ep', hdt, hsz, ent⟩ := I.frzT hd;obtain ⟨rfl, rfl⟩ := dict_ep hod hdt;obtain ⟨⟨k, v⟩, hkv⟩ : ∃ p, kvs[i]? = some p := ⟨kvs[i], List.getElem?_eq_getElem hi⟩;obtain ⟨en, q, hen, hkey, hq⟩ := ent i k v hkv;refine next_key_item st hgd hdt hsz hen fun h' st' sb => ?_;have I1 : Inv X pins σ H { s with heap := h' } := I.turned (t' := s.toks) (fun b ob hb e => (sb.2 b hb).trans e) f0 f1 f3 f4 f5
  obtain ⟨oi, e, c, dd⟩ := id st';exact ⟨en.key, rfl, go_of (s := { s with heap := h' }) e c dd (by decide) ⟨.ref q, H, I1, hkey, ⟨rfl, k, v, q, hkv, rfl, hq⟩, st', fun b hb => (hf b hb).1⟩⟩
 done := by
  intro X hP hw hK hc i pins s σ H E I hf st hg;subst hP hw hK;obtain ⟨hd, hi⟩ := hg;obtain ⟨f0, f1, f2, f3, f4, f5⟩ := hf it (by simp);obtain ⟨hs, hgd, hx, es', ep', hdt, hsz, ent⟩ := I.frzT hd;obtain ⟨rfl, rfl⟩ := dict_ep hod hdt;exact next_key_end (I.ok.hd hc) st hgd hdt hsz hi fun h' eb => ⟨rfl, I.turned (t' := s.toks) (fun b ob hb e => eb b ob hb e) f0 f1 f3 f4 f5⟩
 self := fun A i s Q E st h => by
  refine wpAny_pyIter_slot st.typeIs F.slot_dict_keyiterator_iter (wpAny_call_entry F.slot_dict_keyiterator_iter st.typeIs F.entry_dict_keyiterator_iter ?_ (F.args_dict_keyiterator_iter_1 _));show wpAny _ _ (ret (.ref it)) _ _ s;exact wpAny_pure ⟨_, rfl, "dict_keyiterator", _, st.typeIs, F.slot_dict_keyiterator_next.lookup, h⟩
end
def iKeys (td : TE) : TI := fun σ H R => td σ H fun x H1 => ∃ d o, x = .ref d /\ ((∃ kvs, H1 d = some (.frz o (.dK kvs)) /\ R (Itk d o kvs) H1) ∨ ∃ kvs, H1 d = some (.frz o (.dT kvs)) /\ R (Itkt d o kvs) H1)
section
variable {X : Cx} {tg e : Expr} {td : TE} {apos cpos : Pos}
theorem pi_keys (he : PE X e td) : PI X tg e (iKeys td) := by
 intro pins s σ H R I h;refine thn (he pins s σ H _ I h) fun u s1 ⟨x, H1, I1, rx, d, o, ex, q⟩ => ?_;subst ex;obtain rfl : u = Value.ref d := rx;rcases q with ⟨kvs, hd, q⟩ | ⟨kvs, hd, q⟩
 ·obtain ⟨hs, hgd, hx, es, ep, vs, hdt, hsz, kv, hm⟩ := I1.frzK hd;refine iter_keys hs hgd hx hdt (pi_one (tk := s1.toks) I1 _ (turn_keys _ hdt) ⟨_, Heap.get?_push_size _ rfl, rfl, ?_⟩ q);rw [hsz] <;> rfl
 ·obtain ⟨hs, hgd, hx, es, ep, hdt, hsz, ent⟩ := I1.frzT hd;refine iter_keys hs hgd hx hdt (pi_one (tk := s1.toks) I1 _ (turn_keysT _ hdt) ⟨_, Heap.get?_push_size _ rfl, rfl, ?_⟩ q);rw [hsz] <;> rfl
end
end L2
section
namespace Bits
open PySem PyProof.Rows
end Bits
end
section
namespace TL
open PySem PySem.Builtin PySem.Builtin.Str PySem.StrLaws
end TL
end
namespace L2
open PySem PySem.Spec PyProof.Rows
section
variable {X : Cx} {pins : List (Addr × Obj)} {σ : St} {H : Hp} {s : Shared} {Q : VK}
end
section
variable {X : Cx}
end
section
variable {X : Cx} {o e : Expr} {to te : TE}
end
end L2
namespace L2
open PySem PySem.Spec PyProof.Rows
section
variable {X : Cx}
end
end L2
namespace Att
open PySem PySem.W PySem.Calls PyProof.Rows
section
variable {prog : Program} {w : World} {A : Around} {E : Value -> Shared -> Prop} {s : Shared} {K : Frag}
end
end Att
set_option maxHeartbeats 2000000
namespace L2
open PySem PySem.Spec PyProof.Rows
open PySem.W (WData Codec OpenSpec Well WellAll ReadsW ReadsAllW)
mutual
inductive Dw (K : PySem.W.Frag) (H : Hp) : V -> WData -> Prop
 | non : Dw K H .non .none
 | bl (b : Bool) : Dw K H (.bl b) (.bool b)
 | int (i : Int) : Dw K H (.int i) (.int i)
 | str (x : Str) : Dw K H (.str x) (.str x)
 | byt (b : Array UInt8) : Dw K H (.byt b) (.bytes b.toList)
 | lst {a : Addr} {xs : List V} {ds : List WData} : SqL K H a xs -> DwAll K H xs ds -> Dw K H (.ref a) (.list ds)
 | tup {a : Addr} {xs : List V} {ds : List WData} : SqT K H a xs -> DwAll K H xs ds -> Dw K H (.ref a) (.tuple ds)
inductive DwAll (K : PySem.W.Frag) (H : Hp) : List V -> List WData -> Prop
 | nil : DwAll K H [] []
 | cons {v : V} {vs : List V} {d : WData} {ds : List WData} : Dw K H v d -> DwAll K H vs ds -> DwAll K H (v :: vs) (d :: ds)
end
theorem dw_ints {K : PySem.W.Frag} {H : Hp} : ∀ ns : List Int, DwAll K H (ns.map V.int) (ns.map WData.int)
 | [] => .nil
 | n :: r => .cons (.int n) (dw_ints r)
theorem ints_dw {K : PySem.W.Frag} {H : Hp} : ∀ (ns : List Int) (xs : List V), DwAll K H xs (ns.map WData.int) -> xs = ns.map V.int
 | [], xs, h => by
  cases h;rfl
 | n :: r, xs, h => by
  cases h with
  | cons h1 h2 =>
   cases h1;rw [ints_dw r _ h2] <;> rfl
section
variable {P : Program} {w : World} {K : PySem.W.Frag} {H : Hp} {h : Heap} {R : PySem.W.WRecords} {cl : Str -> Option Addr}
theorem sqL_at {a : Addr} {xs : List V} (hok : HOk P w H h) (KX : K.In h) (q : SqL K H a xs) : ∃ (its : List Value) (o : Obj) (n : Nat), Vals xs its /\ h.get? a = some o /\ o.cls = .type "list" /\ o.data = .seq its.toArray n := by
 rcases q with q | ⟨o, its, n, e, hc, _, hd, _, hv⟩
 ·obtain ⟨_, its, n, hv, e⟩ := (show ObjOk P w H h a (.lst xs) from q.ok hok);exact ⟨its, _, n, hv, e, rfl, rfl⟩
 ·exact ⟨its.toList, o, n, hv, KX _ _ e, hc, by simp [hd]⟩
theorem sqT_at {a : Addr} {xs : List V} (hok : HOk P w H h) (KX : K.In h) (q : SqT K H a xs) : ∃ (its : List Value) (o : Obj) (n : Nat), Vals xs its /\ h.get? a = some o /\ o.cls = .type "tuple" /\ o.data = .seq its.toArray n := by
 rcases q with q | ⟨o, its, n, e, hc, hd, _, hv⟩
 ·obtain ⟨_, its, hv, o, e, hc, n, hd⟩ := (show ObjOk P w H h a (.tup xs) from q.ok hok);exact ⟨its, o, n, hv, e, hc, hd⟩
 ·exact ⟨its.toList, o, n, hv, KX _ _ e, hc, by simp [hd]⟩
mutual
theorem Dw.reads (hok : HOk P w H h) (KX : K.In h) : ∀ (d : WData) (v : V) (u : Value), Dw K H v d -> RelV v u -> ∃ as, ReadsW R cl h u d as
 | .none, _, _, x, r => by
  cases x;cases r;exact ⟨_, ReadsW.none⟩
 | .bool b, _, _, x, r => by
  cases x;cases r;exact ⟨_, ReadsW.bool b⟩
 | .int i, _, _, x, r => by
  cases x;obtain ⟨t, rfl⟩ := r;exact ⟨_, ReadsW.int i t⟩
 | .str s, _, _, x, r => by
  cases x;obtain ⟨t, rfl⟩ := r;exact ⟨_, ReadsW.str s t⟩
 | .bytes b, _, _, x, r => by
  cases x;obtain ⟨t, rfl⟩ := r;exact ⟨_, ReadsW.bytes _ t⟩
 | .list ds, _, _, x, r => by
  cases x with
  | lst hs ha =>
   cases r;obtain ⟨its, o, n, rv, ho, hc, hd⟩ := sqL_at hok KX hs;obtain ⟨as, hr⟩ := Dw.readsAll hok KX ds _ its ha rv;exact ⟨_, ReadsW.list ho hc hd hr⟩
 | .tuple ds, _, _, x, r => by
  cases x with
  | tup hs ha =>
   cases r;obtain ⟨its, o, n, rv, ho, hc, hd⟩ := sqT_at hok KX hs;obtain ⟨as, hr⟩ := Dw.readsAll hok KX ds _ its ha rv;exact ⟨_, ReadsW.tuple ho hc hd hr⟩
 | .float _, _, _, x, _ => by cases x
 | .dict _, _, _, x, _ => by cases x
 | .bytearray _, _, _, x, _ => by cases x
 | .set _, _, _, x, _ => by cases x
 | .frozenset _, _, _, x, _ => by cases x
 | .obj _ _, _, _, x, _ => by cases x
theorem Dw.readsAll (hok : HOk P w H h) (KX : K.In h) : ∀ (ds : List WData) (vs : List V) (us : List Value), DwAll K H vs ds -> Vals vs us -> ∃ as, ReadsAllW R cl h us ds as
 | [], _, _, x, r => by
  cases x;cases r;exact ⟨_, ReadsAllW.nil⟩
 | d :: ds, _, _, x, r => by
  cases x with
  | cons h1 h2 =>
   cases r with
   | cons r1 r2 =>
    obtain ⟨as, q1⟩ := Dw.reads hok KX d _ _ h1 r1;obtain ⟨bs, q2⟩ := Dw.readsAll hok KX ds _ _ h2 r2;exact ⟨_, ReadsAllW.cons q1 q2⟩
end
end
mutual
def plW : WData -> Bool
 | .none => true
 | .bool _ => true
 | .int _ => true
 | .str _ => true
 | .bytes _ => true
 | .list xs => plWs xs
 | .tuple xs => plWs xs
 | _ => false
def plWs : List WData -> Bool
 | [] => true
 | x :: r => plW x && plWs r
end
theorem plWs_map {α : Type} {f : α -> WData} (h : ∀ a, plW (f a) = true) : ∀ l : List α, plWs (l.map f) = true
 | [] => rfl
 | x :: r => by
  show (plW (f x) && plWs (r.map f)) = true;rw [h x, plWs_map h r] <;> rfl
theorem pl_enc : ∀ (c : Codec) (a : c.denote), plW (c.enc a) = true
 | .unit, _ => rfl
 | .bool, _ => rfl
 | .int _ _, _ => rfl
 | .nat _ _, _ => rfl
 | .u8, _ => rfl
 | .bytes _ _, _ => rfl
 | .text _ _ _ _, _ => rfl
 | .list _ _ c, a => plWs_map (fun x => pl_enc c x) a
 | .pair c d, a => by
  show (plW (c.enc a.1) && (plW (d.enc a.2) && true)) = true;rw [pl_enc c a.1, pl_enc d a.2] <;> rfl
 | .triple c d e, a => by
  show (plW (c.enc a.1) && (plW (d.enc a.2.1) && (plW (e.enc a.2.2) && true))) = true;rw [pl_enc c a.1, pl_enc d a.2.1, pl_enc e a.2.2] <;> rfl
 | .option c, none => rfl
 | .option c, some x => pl_enc c x
theorem pl_encAll : ∀ (cs : List Codec) (a : Codec.denoteAll cs), plWs (Codec.encAll cs a) = true
 | [], _ => rfl
 | c :: cs, a => by
  show (plW (c.enc a.1) && plWs (Codec.encAll cs a.2)) = true;rw [pl_enc c a.1, pl_encAll cs a.2] <;> rfl
theorem weight_mem : ∀ {xs : List WData} {d : WData}, d ∈ xs -> d.weight <= WData.weightAll xs
 | [], d, h => absurd h (by simp)
 | x :: r, d, h => by
  show d.weight <= x.weight + 1 + WData.weightAll r;rcases List.mem_cons.mp h with e | m
  ·rw [e];omega
  ·have z := weight_mem m;omega
def toV : Value -> V
 | .none => .non
 | .bool b => .bl b
 | .int i _ => .int i
 | .str x _ => .str x
 | .bytes b _ => .byt b
 | .ref a => .ref a
 | _ => .non
def OkU (A : List Addr) : Value -> Prop
 | .none => True
 | .bool _ => True
 | .int _ _ => True
 | .str _ _ => True
 | .bytes _ _ => True
 | .ref a => a ∈ A
 | _ => False
theorem OkU.mono {A B : List Addr} (h : ∀ a ∈ A, a ∈ B) : ∀ {u : Value}, OkU A u -> OkU B u := fun {u} x => by
 cases u with
 | ref a => exact h a x
 | none => trivial
 | bool b => trivial
 | int i t => trivial
 | str s t => trivial
 | bytes b t => trivial
 | _ => exact False.elim x
theorem relV_toV {A : List Addr} {u : Value} (x : OkU A u) : RelV (toV u) u := by
 cases u with
 | ref a => rfl
 | none => rfl
 | bool b => rfl
 | int i t => exact ⟨t, rfl⟩
 | str s t => exact ⟨t, rfl⟩
 | bytes b t => exact ⟨t, rfl⟩
 | _ => exact False.elim x
theorem vals_toV {A : List Addr} : ∀ {vs : List Value}, (∀ u ∈ vs, OkU A u) -> Vals (vs.map toV) vs
 | [], _ => .nil
 | u :: r, h => .cons (relV_toV (h u (List.mem_cons_self ..))) (vals_toV fun x hx => h x (List.mem_cons_of_mem _ hx))
def ArgOb (h : Heap) (A : List Addr) (a : Addr) : Prop := ∃ vs : List Value, vs.length <= sizeLine /\ (∀ u ∈ vs, OkU A u) /\
 (h.get? a = some { cls := .type "list", data := .seq vs.toArray } ∨ h.get? a = some { cls := .type "tuple", data := .seq vs.toArray })
theorem ArgOb.mono {h : Heap} {A B : List Addr} {a : Addr} (k : ∀ a ∈ A, a ∈ B) (x : ArgOb h A a) : ArgOb h B a := by
 obtain ⟨vs, h1, h2, h3⟩ := x;exact ⟨vs, h1, fun u hu => (h2 u hu).mono k, h3⟩
theorem wellAll_len {P : Params} {h : Heap} : ∀ {vs : List Value} {ds : List WData}, WellAll P h vs ds -> vs.length = ds.length
 | _, _, .nil => rfl
 | _, _, .cons _ b => by
  show _ + 1 = _ + 1;rw [wellAll_len b]
theorem well_list {P : Params} {h : Heap} {v : Value} {ds : List WData} (x : Well P h v (.list ds)) : ∃ (a : Addr) (vs : List Value), v = .ref a /\ h.get? a = some { cls := .type "list", data := .seq vs.toArray } /\ WellAll P h vs ds := by
 cases x with
 | list ho hall => exact ⟨_, _, rfl, ho, hall⟩
theorem well_tuple {P : Params} {h : Heap} {v : Value} {ds : List WData} (x : Well P h v (.tuple ds)) : ∃ (a : Addr) (vs : List Value), v = .ref a /\ h.get? a = some { cls := .type "tuple", data := .seq vs.toArray } /\ WellAll P h vs ds := by
 cases x with
 | tuple ho hall => exact ⟨_, _, rfl, ho, hall⟩
theorem well_cons {P : Params} {h : Heap} {us : List Value} {d : WData} {ds : List WData} (x : WellAll P h us (d :: ds)) : ∃ (v : Value) (vs : List Value), us = v :: vs /\ Well P h v d /\ WellAll P h vs ds := by
 cases x with
 | cons a b => exact ⟨_, _, rfl, a, b⟩
theorem line_of {n : Nat} (h : n <= 1048576) : n <= sizeLine := Nat.le_trans h (by decide)
section
variable {P : Params} {h : Heap}
mutual
theorem area_one : ∀ (d : WData) (v : Value), Well P h v d -> plW d = true -> d.weight <= 1048576 -> ∃ A : List Addr, OkU A v /\ ∀ a ∈ A, ArgOb h A a
 | .none, _, x, _, _ => by
  cases x;exact ⟨[], trivial, fun a m => absurd m (by simp)⟩
 | .bool b, _, x, _, _ => by
  cases x;exact ⟨[], trivial, fun a m => absurd m (by simp)⟩
 | .int i, _, x, _, _ => by
  cases x;exact ⟨[], trivial, fun a m => absurd m (by simp)⟩
 | .str s, _, x, _, _ => by
  cases x;exact ⟨[], trivial, fun a m => absurd m (by simp)⟩
 | .bytes b, _, x, _, _ => by
  cases x;exact ⟨[], trivial, fun a m => absurd m (by simp)⟩
 | .list ds, _, x, p, z => by
  obtain ⟨a, vs, rfl, ho, hall⟩ := well_list x;have z2 : WData.weightAll ds <= 1048576 := z;obtain ⟨A, h1, h2⟩ := area_all ds _ hall p fun d hd => Nat.le_trans (weight_mem hd) z2;have k : ∀ b ∈ A, b ∈ a :: A := fun b hb => List.mem_cons_of_mem _ hb;refine ⟨a :: A, List.mem_cons_self .., fun b hb => ?_⟩;rcases List.mem_cons.mp hb with e | m
  ·rw [e];exact ⟨vs, line_of (by rw [wellAll_len hall]; exact Nat.le_trans (PySem.W.length_le_weightAllW ds) z2), fun u hu => (h1 u hu).mono k, .inl ho⟩
  ·exact (h2 b m).mono k
 | .tuple ds, _, x, p, z => by
  obtain ⟨a, vs, rfl, ho, hall⟩ := well_tuple x;have z2 : WData.weightAll ds <= 1048576 := z;obtain ⟨A, h1, h2⟩ := area_all ds _ hall p fun d hd => Nat.le_trans (weight_mem hd) z2;have k : ∀ b ∈ A, b ∈ a :: A := fun b hb => List.mem_cons_of_mem _ hb;refine ⟨a :: A, List.mem_cons_self .., fun b hb => ?_⟩;rcases List.mem_cons.mp hb with e | m
  ·rw [e];exact ⟨vs, line_of (by rw [wellAll_len hall]; exact Nat.le_trans (PySem.W.length_le_weightAllW ds) z2), fun u hu => (h1 u hu).mono k, .inr ho⟩
  ·exact (h2 b m).mono k
 | .float _, _, _, p, _ => Bool.noConfusion (show false = true from p)
 | .dict _, _, _, p, _ => Bool.noConfusion (show false = true from p)
 | .bytearray _, _, _, p, _ => Bool.noConfusion (show false = true from p)
 | .set _, _, _, p, _ => Bool.noConfusion (show false = true from p)
 | .frozenset _, _, _, p, _ => Bool.noConfusion (show false = true from p)
 | .obj _ _, _, _, p, _ => Bool.noConfusion (show false = true from p)
theorem area_all : ∀ (ds : List WData) (vs : List Value), WellAll P h vs ds -> plWs ds = true -> (∀ d ∈ ds, d.weight <= 1048576) -> ∃ A : List Addr, (∀ u ∈ vs, OkU A u) /\ ∀ a ∈ A, ArgOb h A a
 | [], _, x, _, _ => by
  cases x;exact ⟨[], fun u m => absurd m (by simp), fun a m => absurd m (by simp)⟩
 | d :: ds, _, x, p, z => by
  obtain ⟨v, vs, rfl, x1, x2⟩ := well_cons x;have q : plW d = true /\ plWs ds = true := Bool.and_eq_true_iff.mp p;obtain ⟨A, a1, a2⟩ := area_one d v x1 q.1 (z d (List.mem_cons_self ..));obtain ⟨B, b1, b2⟩ := area_all ds vs x2 q.2 fun e he => z e (List.mem_cons_of_mem _ he);have kA : ∀ b ∈ A, b ∈ A ++ B := fun b hb => List.mem_append.mpr (.inl hb);have kB : ∀ b ∈ B, b ∈ A ++ B := fun b hb => List.mem_append.mpr (.inr hb);refine ⟨A ++ B, fun u hu => ?_, fun b hb => ?_⟩
  ·rcases List.mem_cons.mp hu with e | m
   ·rw [e];exact a1.mono kA
   ·exact (b1 u m).mono kB
  ·rcases List.mem_append.mp hb with m | m
   ·exact (a2 b m).mono kA
   ·exact (b2 b m).mono kB
end
end
def hoOf (o : Obj) : Option HO := match o.data with
 | .seq vs _ => if (o.cls == Value.type "list") = true then some (.frz o (.lst (vs.toList.map toV))) else some (.frz o (.tup (vs.toList.map toV)))
 | _ => none
def argH (K : PySem.W.Frag) (h : Heap) (A : List Addr) : Hp := fun b => if b ∈ A then (if (K.lookup b).isNone = true then (h.get? b).bind hoOf else none) else none
def OnlyF (H : Hp) : Prop := ∀ b, H b = none ∨ ∃ o u, H b = some (.frz o u)
theorem hoOf_lst (vs : List Value) : hoOf { cls := .type "list", data := .seq vs.toArray } = some (.frz { cls := .type "list", data := .seq vs.toArray } (.lst (vs.map toV))) := by
 show (if (Value.type "list" == Value.type "list") = true then some (HO.frz { cls := .type "list", data := .seq vs.toArray } (.lst (vs.toArray.toList.map toV))) else some (HO.frz { cls := .type "list", data := .seq vs.toArray } (.tup (vs.toArray.toList.map toV)))) = _;rw [if_pos (beq_self_eq_true _)]
theorem hoOf_tup (vs : List Value) : hoOf { cls := .type "tuple", data := .seq vs.toArray } = some (.frz { cls := .type "tuple", data := .seq vs.toArray } (.tup (vs.map toV))) := by
 show (if (Value.type "tuple" == Value.type "list") = true then some (HO.frz { cls := .type "tuple", data := .seq vs.toArray } (.lst (vs.toArray.toList.map toV))) else some (HO.frz { cls := .type "tuple", data := .seq vs.toArray } (.tup (vs.toArray.toList.map toV)))) = _;rw [if_neg (by decide)]
section
variable {P : Program} {w : World} {K : PySem.W.Frag} {h : Heap} {A : List Addr}
theorem argH_at {b : Addr} {o : Obj} (hb : b ∈ A) (hk : K.lookup b = none) (e : h.get? b = some o) : argH K h A b = hoOf o := by
 unfold argH;rw [if_pos hb, hk, if_pos (show (none : Option Obj).isNone = true from rfl), e] <;> rfl
theorem of_argH {b : Addr} {u : HO} (q : argH K h A b = some u) : b ∈ A /\ K.lookup b = none := by
 unfold argH at q
 by_cases hb : b ∈ A
 ·rw [if_pos hb] at q;cases hk : K.lookup b with
  | none => exact ⟨hb, rfl⟩
  | some o =>
   rw [hk, if_neg (by simp)] at q;cases q
 ·rw [if_neg hb] at q;cases q
theorem argH_is (ar : ∀ a ∈ A, ArgOb h A a) {b : Addr} {u : HO} (q : argH K h A b = some u) : K.lookup b = none /\ ∃ vs : List Value, vs.length <= sizeLine /\ (∀ u ∈ vs, OkU A u) /\
  ((h.get? b = some { cls := .type "list", data := .seq vs.toArray } /\ u = .frz { cls := .type "list", data := .seq vs.toArray } (.lst (vs.map toV))) ∨
   (h.get? b = some { cls := .type "tuple", data := .seq vs.toArray } /\ u = .frz { cls := .type "tuple", data := .seq vs.toArray } (.tup (vs.map toV)))) := by
 obtain ⟨hb, hk⟩ := of_argH q;obtain ⟨vs, h1, h2, h3⟩ := ar b hb;refine ⟨hk, vs, h1, h2, ?_⟩;rcases h3 with e | e
 ·rw [argH_at hb hk e, hoOf_lst] at q;exact .inl ⟨e, (Option.some.inj q).symm⟩
 ·rw [argH_at hb hk e, hoOf_tup] at q;exact .inr ⟨e, (Option.some.inj q).symm⟩
theorem argH_only (ar : ∀ a ∈ A, ArgOb h A a) : OnlyF (argH K h A) := fun b => by
 cases q : argH K h A b with
 | none => exact .inl rfl
 | some u =>
  obtain ⟨_, vs, _, _, ⟨_, e⟩ | ⟨_, e⟩⟩ := argH_is ar q
  ·exact .inr ⟨_, _, by rw [e]⟩
  ·exact .inr ⟨_, _, by rw [e]⟩
theorem argH_ok (ar : ∀ a ∈ A, ArgOb h A a) : HOk P w (argH K h A) h := fun b u q => by
 obtain ⟨_, vs, h1, h2, ⟨e, rfl⟩ | ⟨e, rfl⟩⟩ := argH_is ar q
 ·exact ⟨e, by rw [List.length_map]; exact h1, vs, _, vals_toV h2, e⟩
 ·exact ⟨e, by rw [List.length_map]; exact h1, vs, vals_toV h2, _, e, rfl, _, rfl⟩
theorem seq_inj {c c' : Value} {vs us : List Value} (e : (some { cls := c, data := .seq vs.toArray } : Option Obj) = some { cls := c', data := .seq us.toArray }) : c = c' /\ vs = us := by
 have e1 := Option.some.inj e;have e2 : c = c' := congrArg Obj.cls e1;have e3 : Data.seq vs.toArray = Data.seq us.toArray := congrArg Obj.data e1;injection e3 with e4
 refine ⟨e2, ?_⟩;have e5 := congrArg Array.toList e4;simpa using e5
theorem argL (KX : K.In h) (ar : ∀ a ∈ A, ArgOb h A a) {a : Addr} {vs : List Value} (ha : a ∈ A) (e : h.get? a = some { cls := .type "list", data := .seq vs.toArray }) : (∀ u ∈ vs, OkU A u) /\ SqL K (argH K h A) a (vs.map toV) := by
 obtain ⟨us, h1, h2, h3⟩ := ar a ha;have hu : us = vs := by
  rcases h3 with q | q
  ·rw [e] at q;exact (seq_inj q).2.symm
  ·rw [e] at q;exact absurd (Value.type.inj (seq_inj q).1) (by decide)
 subst hu;refine ⟨h2, ?_⟩;cases hk : K.lookup a with
 | none => exact .inl (.inr ⟨_, by rw [argH_at ha hk e, hoOf_lst]⟩)
 | some o =>
  have e2 := KX a o hk;rw [e] at e2;obtain rfl := Option.some.inj e2;exact .inr ⟨_, us.toArray, _, hk, rfl, rfl, rfl, by rw [List.size_toArray]; exact h1, by simpa using vals_toV h2⟩
theorem argT (KX : K.In h) (ar : ∀ a ∈ A, ArgOb h A a) {a : Addr} {vs : List Value} (ha : a ∈ A) (e : h.get? a = some { cls := .type "tuple", data := .seq vs.toArray }) : (∀ u ∈ vs, OkU A u) /\ SqT K (argH K h A) a (vs.map toV) := by
 obtain ⟨us, h1, h2, h3⟩ := ar a ha;have hu : us = vs := by
  rcases h3 with q | q
  ·rw [e] at q;exact absurd (Value.type.inj (seq_inj q).1) (by decide)
  ·rw [e] at q;exact (seq_inj q).2.symm
 subst hu;refine ⟨h2, ?_⟩;cases hk : K.lookup a with
 | none => exact .inl (.inr ⟨_, by rw [argH_at ha hk e, hoOf_tup]⟩)
 | some o =>
  have e2 := KX a o hk;rw [e] at e2;obtain rfl := Option.some.inj e2;exact .inr ⟨_, us.toArray, _, hk, rfl, rfl, by rw [List.size_toArray]; exact h1, by simpa using vals_toV h2⟩
mutual
theorem dw_one {Pm : Params} (KX : K.In h) (ar : ∀ a ∈ A, ArgOb h A a) : ∀ (d : WData) (v : Value), Well Pm h v d -> plW d = true -> OkU A v -> Dw K (argH K h A) (toV v) d
 | .none, _, x, _, _ => by
  cases x;exact .non
 | .bool b, _, x, _, _ => by
  cases x;exact .bl b
 | .int i, _, x, _, _ => by
  cases x;exact .int i
 | .str s, _, x, _, _ => by
  cases x;exact .str s
 | .bytes b, _, x, _, _ => by
  cases x;have z := Dw.byt (K := K) (H := argH K h A) b.toArray;exact z
 | .list ds, _, x, p, hu => by
  obtain ⟨a, vs, rfl, ho, hall⟩ := well_list x;obtain ⟨h2, hs⟩ := argL KX ar hu ho;exact .lst hs (dw_all KX ar ds _ hall p h2)
 | .tuple ds, _, x, p, hu => by
  obtain ⟨a, vs, rfl, ho, hall⟩ := well_tuple x;obtain ⟨h2, hs⟩ := argT KX ar hu ho;exact .tup hs (dw_all KX ar ds _ hall p h2)
 | .float _, _, _, p, _ => Bool.noConfusion (show false = true from p)
 | .dict _, _, _, p, _ => Bool.noConfusion (show false = true from p)
 | .bytearray _, _, _, p, _ => Bool.noConfusion (show false = true from p)
 | .set _, _, _, p, _ => Bool.noConfusion (show false = true from p)
 | .frozenset _, _, _, p, _ => Bool.noConfusion (show false = true from p)
 | .obj _ _, _, _, p, _ => Bool.noConfusion (show false = true from p)
theorem dw_all {Pm : Params} (KX : K.In h) (ar : ∀ a ∈ A, ArgOb h A a) : ∀ (ds : List WData) (vs : List Value), WellAll Pm h vs ds -> plWs ds = true -> (∀ u ∈ vs, OkU A u) -> DwAll K (argH K h A) (vs.map toV) ds
 | [], _, x, _, _ => by
  cases x;exact .nil
 | d :: ds, _, x, p, hu => by
  obtain ⟨v, vs, rfl, x1, x2⟩ := well_cons x;have q : plW d = true /\ plWs ds = true := Bool.and_eq_true_iff.mp p;exact .cons (dw_one KX ar d v x1 q.1 (hu _ (List.mem_cons_self ..))) (dw_all KX ar ds vs x2 q.2 fun u m => hu u (List.mem_cons_of_mem _ m))
end
end
theorem spec_call {P : Program} {w : World} {K : PySem.W.Frag} {mg mb : Str -> Option Value} {CX : CXT} {k : Nat} {fa : Addr} {fd : FuncData} {ps : List Str} {sp : Sp} {s₁ : Shared} {vals : List Value} {ds : List WData} {R : PySem.W.WRecords} {cl : Str -> Option Addr} {d0 : WData}
  (KX : K.In s₁.heap) (hns : s₁.heap.Ns mainGlobals mg) (hb : s₁.heap.Ns builtinsNs mb) (hbb : ∀ x : Str, x ≠ "__name__" -> mb x = bootBuiltins x) (hlim : s₁.heap.NoLimit) (hsee : s₁.heap.NoSeer) (hg : s₁.gens = #[])
  (hwl : WellAll w.params s₁.heap vals ds) (hpl : plWs ds = true) (hwt : ∀ d ∈ ds, d.weight <= 1048576) (hr : Room k callerA)
  (F : ∀ base : Heap, K.In base -> base.Ns mainGlobals mg -> FnOk P w K mg base CX k fa fd ps sp) (hbind : ∀ (s : Shared) (us : List Value), us.length = ps.length -> BindsTo s fd ⟨us, []⟩ (ps.zip us)) (hlen : ds.length = ps.length)
  (hsp : ∀ (H : Hp) (xs : List V), OnlyF H -> DwAll K H xs ds -> sp xs H (fun v H' => Dw K H' v d0) fun _ _ _ => False)
  (hCX : ∀ H e s', CX [] H s₁ (fun _ _ _ => False) e s' -> False) :
  codeAny (model P w) callerA (.call (.ref fa) ⟨vals, []⟩) (fun r s' => ∃ u as, r = .ok (.ret u) /\ ReadsW R cl s'.heap u d0 as /\ OldK s₁.heap s'.heap /\ s'.os = s₁.os /\ AllBare s'.gens) s₁ := by
 obtain ⟨A, ho, ar⟩ := area_all ds vals hwl hpl hwt;have hO : OnlyF (argH K s₁.heap A) := argH_only ar;have hok : HOk P w (argH K s₁.heap A) s₁.heap := argH_ok ar;have hS := dw_all KX ar ds vals hwl hpl ho;have hV := vals_toV ho;have hK : ∀ b u, argH K s₁.heap A b = some u -> K.lookup b = none := fun b u q => (argH_is ar q).1;have noA : ∀ {b : Addr} {o : Obj} {es : Array DictEntry} {ep : Nat}, s₁.heap.get? b = some o -> o.data = .dict es ep -> argH K s₁.heap A b = none := fun {b o es ep} e d => by
  cases q : argH K s₁.heap A b with
  | none => rfl
  | some u =>
   obtain ⟨_, vs, _, _, ⟨e2, _⟩ | ⟨e2, _⟩⟩ := argH_is ar q
   ·rw [e2] at e;cases e;have d' : Data.seq vs.toArray _ = Data.dict es ep := d;cases d'
   ·rw [e2] at e;cases e;have d' : Data.seq vs.toArray _ = Data.dict es ep := d;cases d'
 have noM : ∀ {b : Addr} {o : Obj}, s₁.heap.get? b = some o -> o.cls = .type "module" -> argH K s₁.heap A b = none := fun {b o} e d => by
  cases q : argH K s₁.heap A b with
  | none => rfl
  | some u =>
   obtain ⟨_, vs, _, _, ⟨e2, _⟩ | ⟨e2, _⟩⟩ := argH_is ar q
   ·rw [e2] at e;cases e;exact absurd (Value.type.inj d) (by decide)
   ·rw [e2] at e;cases e;exact absurd (Value.type.inj d) (by decide)
 generalize argH K s₁.heap A = H at hO hok hS hK noA noM;have base_of : ∀ {b : Addr} {o : Obj}, s₁.heap.get? b = some o -> H b = none -> (hidT s₁.heap H).get? b = some o := fun e n => hidT_get e n;have nsK : ∀ {b : Addr} {m : Str -> Option Value}, s₁.heap.Ns b m -> (hidT s₁.heap H).Ns b m := fun {b m} ⟨o, es, ep, e, d, r⟩ => ⟨o, es, ep, base_of e (noA e d), d, r⟩;have nK : ∀ b o, K.lookup b = some o -> H b = none := fun b o e => by
  cases q : H b with
  | none => rfl
  | some u =>
   rw [hK b u q] at e;cases e
 have hKb : K.In (hidT s₁.heap H) := fun b o e => base_of (KX b o e) (nK b o e);have hM : Mod K mg (hidT s₁.heap H) := ⟨hKb, nsK hns, ⟨mb, nsK hb, hbb⟩, let ⟨mc, h1, h2⟩ := hlim; ⟨mc, nsK h1, h2⟩, ⟨let ⟨mc, h1, h2⟩ := hsee.statics; ⟨mc, nsK h1, h2⟩, let ⟨mc, h1, h2⟩ := hsee.mods; ⟨mc, nsK h1, h2⟩, let ⟨mc, h1, h2⟩ := hsee.imp; ⟨mc, nsK h1, h2⟩,
  let ⟨mg', bm, ob, h1, h2, h3, h4, h5⟩ := hsee.main; ⟨mg', bm, ob, nsK h1, h2, base_of h3 (noM h3 h4), h4, h5⟩⟩⟩
 have e0 : Env0 P w K mg (hidT s₁.heap H) callerA [] s₁ H := ⟨rfl, hM, fun b o e => of_hidT e, Nat.le_of_eq (hidT_size _ _), trivial, fun b hb => absurd (show b ∈ ([] : List Addr) from hb) (by simp), hok, .of_eq hg⟩;have hl : vals.length = ps.length := by rw [wellAll_len hwl]; exact hlen
 refine codeAny_mono ((F _ hKb (nsK hns)).run callerA [] s₁ H ⟨vals, []⟩ vals (vals.map toV) _ _ hr e0 (hbind s₁ vals hl) hV (hsp H _ hO hS)) fun r s' x => ?_;cases r with
 | error e => exact (hCX H e s' x).elim
 | ok fl =>
  cases fl with
  | next => exact False.elim x
  | brk => exact False.elim x
  | cont => exact False.elim x
  | ret u =>
   obtain ⟨v, H', os, bare, un, hok', r', q⟩ := x;have kept : ∀ b o, s₁.heap.get? b = some o -> s'.heap.get? b = some o := fun b o e => by
    cases q2 : H b with
    | none => exact un.keep b o e q2 (by intro z; exact absurd (show b ∈ ([] : List Addr) from z) (by simp)) (by simp)
    | some u2 =>
     rcases hO b with z | ⟨ob, u3, z⟩
     ·rw [q2] at z;cases z
     ·have z2 := un.frzs b ob _ z;obtain ⟨e1, _⟩ := hok b _ z;obtain ⟨e2, _⟩ := hok' b _ z2;rw [e] at e1;cases e1;exact e2
   have KX' : K.In s'.heap := fun b o e => kept b o (KX b o e);obtain ⟨as, hrd⟩ := Dw.reads (R := R) (cl := cl) hok' KX' d0 v u q r';exact ⟨u, as, rfl, hrd, OldK.of_keep kept, os, bare⟩
theorem layable_weight {ds : List WData} (h : WData.layableAll ds = true) : ∀ d ∈ ds, d.weight <= 1048576 := fun d hd =>
 (PySem.W.layableW_iff.mp (List.all_eq_true.mp h d hd)).2.2
theorem encAll_len : ∀ (cs : List Codec) (a : Codec.denoteAll cs), (Codec.encAll cs a).length = cs.length
 | [], _ => rfl
 | c :: cs, a => by
  show (Codec.encAll cs a.2).length + 1 = cs.length + 1;rw [encAll_len cs a.2]
theorem walk_spec {r : OpenSpec} {k : Nat} {q : Program} {loose : List Str} {XP : (Str -> Option Value) -> Heap -> Prop} {YP : World -> Heap -> Prop} {d : DefRec} {K : Params -> PySem.W.Frag} {CX : World -> CXT} {ps : List Str} {sp : World -> Sp}
  (himp : PyProof.Rows.importsNone q = true) (hwell : r.wellSaid = true) (hdf : d.params.defaults = []) (hlen : r.args.length = ps.length) (hr : Room k callerA)
  (hY : ∀ (w : World) (h : Heap), YP w h -> (K w.params).In h)
  (F : ∀ (w : World) (mg : Str -> Option Value) (fa : Addr) (h : Heap), YP w h -> (K w.params).In h -> h.Ns mainGlobals mg -> mg d.name = some (.ref fa) ->
   ∃ fd : FuncData, (∀ (s : Shared) (us : List Value), us.length = ps.length -> BindsTo s fd ⟨us, []⟩ (ps.zip us)) /\
    ∀ base : Heap, (K w.params).In base -> base.Ns mainGlobals mg -> FnOk r.prog w (K w.params) mg base (CX w) k fa fd ps (sp w))
  (hsp : ∀ (w : World) (H : Hp) (xs : List V) (a : Codec.denoteAll r.args), OnlyF H -> Codec.withinAll r.args a = true -> Codec.app r.args r.asked a = true -> DwAll (K w.params) H xs (Codec.encAll r.args a) ->
   sp w xs H (fun v H' => Dw (K w.params) H' v (r.ret.enc (Codec.app r.args r.f a))) fun _ _ _ => False)
  (hCX : ∀ (w : World) (H : Hp) (s : Shared) (e : Value) (s' : Shared), CX w [] H s (fun _ _ _ => False) e s' -> False) :
  PySem.W.WalkOS q loose XP YP r d [] (fun f vs => PySem.call f vs) := by
 intro w s_0 s₁ mg mb G Y fa o pm cd doc dV kV ho hd hcd hD hmg hg args vals as hpre hlay hrd hwl hlo;obtain ⟨a, e1, e2⟩ := PySem.W.os_pre_some hpre;obtain ⟨e3, hwi⟩ := Codec.encAll_of_decAll r.args args a e1;subst e3;have KX := hY w _ Y;obtain ⟨fd, hb, hF⟩ := F w mg fa _ Y KX G.T.g hmg;refine PySem.W.enter_call (codeAny_mono (spec_call (R := []) (cl := classAt s_0.heap) (d0 := r.ret.enc (Codec.app r.args r.f a)) KX G.T.g G.T.b G.T.builtins G.T.nolimit (G.T.seer himp) hg hwl (pl_encAll _ _) (layable_weight hlay) hr hF hb (by rw [encAll_len]; exact hlen)
  (fun H xs hO hS => hsp w H xs a hO hwi e2 hS) fun H e s' => hCX w H s₁ e s') fun r' s' hq => ?_)
 obtain ⟨u, as', rfl, h1, h2, h3, h4⟩ := hq;exact ⟨.inl ⟨u, _, as', rfl, fun _ => rfl, h1, (OpenSpec.post_iff hwell hwi _ _).mpr rfl, fun z => Bool.noConfusion (show false = true from z)⟩, h2, h3, h4⟩
theorem walk_specK {r : OpenSpec} {k : Nat} {q : Program} {loose : List Str} {XP : (Str -> Option Value) -> Heap -> Prop} {YP : World -> Heap -> Prop} {d : DefRec} {K : Params -> PySem.W.Frag} {CX : CXT} {ps : List Str} {sp : PySem.W.Frag -> Sp}
  (himp : PyProof.Rows.importsNone q = true) (hwell : r.wellSaid = true) (hdf : d.params.defaults = []) (hlen : r.args.length = ps.length) (hr : Room k callerA)
  (hY : ∀ (w : World) (h : Heap), YP w h -> (K w.params).In h)
  (F : ∀ (w : World) (mg : Str -> Option Value) (fa : Addr) (h : Heap), YP w h -> (K w.params).In h -> h.Ns mainGlobals mg -> mg d.name = some (.ref fa) ->
   ∃ fd : FuncData, (∀ (s : Shared) (us : List Value), us.length = ps.length -> BindsTo s fd ⟨us, []⟩ (ps.zip us)) /\
    ∀ base : Heap, (K w.params).In base -> base.Ns mainGlobals mg -> FnOk r.prog w (K w.params) mg base CX k fa fd ps (sp (K w.params)))
  (hsp : ∀ (K : PySem.W.Frag) (H : Hp) (xs : List V) (a : Codec.denoteAll r.args), OnlyF H -> Codec.withinAll r.args a = true -> Codec.app r.args r.asked a = true -> DwAll K H xs (Codec.encAll r.args a) ->
   sp K xs H (fun v H' => Dw K H' v (r.ret.enc (Codec.app r.args r.f a))) fun _ _ _ => False)
  (hCX : ∀ (H : Hp) (s : Shared) (e : Value) (s' : Shared), CX [] H s (fun _ _ _ => False) e s' -> False) :
  PySem.W.WalkOS q loose XP YP r d [] (fun f vs => PySem.call f vs) :=
 walk_spec (K := K) (CX := fun _ => CX) (sp := fun w => sp (K w.params)) himp hwell hdf hlen hr hY F (fun w H xs a h1 h2 h3 h4 => hsp (K w.params) H xs a h1 h2 h3 h4) fun _ H s e s' => hCX H s e s'
end L2
namespace L2
open PySem PySem.Spec PyProof.Rows
def inClass (s : Stmt) (j : Nat) : Stmt := match s with
 | .ClassDef _ _ _ body _ _ _ _ _ _ _ => body.getD j (.Pass ⟨0, 0, 0, 0⟩)
 | _ => .Pass ⟨0, 0, 0, 0⟩
def defArgs (s : Stmt) : Arguments := match s with
 | .FunctionDef _ a _ _ _ _ _ _ _ _ => a
 | _ => { posonlyargs := [], args := [], vararg := none, kwonlyargs := [], kw_defaults := [], kwarg := none, defaults := [] }
def defBody (s : Stmt) : List Stmt := match s with
 | .FunctionDef _ _ b _ _ _ _ _ _ _ => b
 | _ => []
def defScope (s : Stmt) : Scope := match s with
 | .FunctionDef _ _ _ _ _ _ sc _ _ _ => sc
 | _ => { kind := .function, names := [], isGenerator := false, isCoroutine := false }
abbrev CX0 : CXT := fun _ _ _ _ _ _ => False
abbrev E0 : XK := fun _ _ _ => False
theorem pass0 {X : Cx} : Passes CX0 X E0 := fun _ _ _ _ _ _ _ h => h.elim
structure Fun (K : PySem.W.Frag) (x qual : Str) (st : Stmt) (f : Addr) (fd : FuncData) : Prop where
 ex : ∃ (oc : Value) (od : Option Addr) (kV doc pm : Value) (an : Option Addr) (cdv ct : Value) (osl : Array (Option Value)),
  fd = PySem.W.fnOf x qual (defArgs st) (defBody st) (defScope st) .none kV doc pm an cdv ct /\ K.lookup f = some ⟨oc, od, .func fd, osl⟩ /\ PySem.W.codeIn K cdv qual = true
 kp : PySem.W.keepIn K (.ref f) = true
section
variable {P : Program} {w : World} {K : PySem.W.Frag} {mg : Str -> Option Value} {base : Heap}
theorem Fun.ok {x qual : Str} {st : Stmt} {f : Addr} {fd : FuncData} {N ps : List Str} {k : Nat} {sp : Sp} (F : Fun K x qual st f fd) (S : FnScope N ps (defScope st)) (len : ∀ vs H Q E, sp vs H Q E -> vs.length = ps.length)
  (hbody : ∀ (cdv : Value) (A : Around) (outer : List Env) (s : Shared) (H : Hp) (vs : List V) (Q : VK) (E : XK), Room k (A.deeper (envOfC qual (defScope st) s.heap.objs.size f cdv)) -> sp vs H Q E ->
   ∃ t, PSs (cxOf CX0 P w K mg base N qual (defScope st) f cdv A outer s H E).nox (defBody st) t /\ t { nx := fun _ H' => Q .non H', rt := Q } (start N vs) H) : FnOk P w K mg base CX0 (k + 1) f fd ps sp := by
 obtain ⟨oc, od, kV, doc, pm, an, cdv, ct, osl, rfl, lk, hcd⟩ := F.ex;refine fn_of lk hcd S len fun A outer s H vs Q E hr hsp => ?_;obtain ⟨t, h, q⟩ := hbody cdv A outer s H vs Q E hr hsp;exact ⟨t, h.nox, q⟩
theorem Fun.binds {x qual : Str} {st : Stmt} {f : Addr} {fd : FuncData} {ps : List Str} (F : Fun K x qual st f fd)
  (h : ∀ (kV doc pm : Value) (an : Option Addr) (cdv ct : Value) (us : List Value), us.length = ps.length -> bindArgs (PySem.W.fnOf x qual (defArgs st) (defBody st) (defScope st) .none kV doc pm an cdv ct) ⟨us, []⟩ = pure (ps.zip us)) : Binds K fd ps [] := by
 obtain ⟨oc, od, kV, doc, pm, an, cdv, ct, osl, rfl, lk, hcd⟩ := F.ex;exact .all (h kV doc pm an cdv ct)
theorem fun_mk {x qual : Str} {st : Stmt} {f : Addr} {oc : Value} {od an : Option Addr} {osl : Array (Option Value)} {kV doc pm cdv ct : Value} (l : K.lookup f = some ⟨oc, od, .func (PySem.W.fnOf x qual (defArgs st) (defBody st) (defScope st) .none kV doc pm an cdv ct), osl⟩)
  (c : PySem.W.codeIn K cdv qual = true) (k : PySem.W.keepIn K (.ref f) = true) : Fun K x qual st f (PySem.W.fnOf x qual (defArgs st) (defBody st) (defScope st) .none kV doc pm an cdv ct) := ⟨⟨oc, od, kV, doc, pm, an, cdv, ct, osl, rfl, l, c⟩, k⟩
end
theorem hu_of {A : Around} {k : Nat} (hr : Room k A) : A.units + 1 < cLine := Nat.lt_of_le_of_lt (Nat.add_le_add_left (by decide : 1 <= 64) _) hr.units
section
variable {X : Cx}
theorem pv (i : Nat) {x : Str} {pos : Pos} (hN : X.N[i]? = some x := by rfl) (hv : Vis X.env.scope x := by first | exact Or.inl rfl | exact Or.inr (Or.inl rfl) | exact Or.inr (Or.inr rfl)) (hd : (x == ("__debug__" : Str)) = false := by decide)
  (hcd : (x == ("__classdict__" : Str)) = false := by decide) : PE X (.Name x pos) (tVar i) := pe_var hN hv hd hcd
end
theorem iteF {A B : Prop} (h : B) : if false = true then A else B := by
 rw [if_neg Bool.false_ne_true];exact h
theorem iteT {A B : Prop} (h : A) : if true = true then A else B := by
 rw [if_pos rfl];exact h
theorem ite2 {c A B : Prop} [Decidable c] (h1 : c -> A) (h2 : ¬ c -> B) : if c then A else B := by
 by_cases h : c
 ·rw [if_pos h];exact h1 h
 ·rw [if_neg h];exact h2 h
def Same (H H' : Hp) : Prop := ∀ b o, H b = some o -> H' b = some o
theorem Same.refl (H : Hp) : Same H H := fun _ _ h => h
theorem Same.trans {H H1 H2 : Hp} (a : Same H H1) (b : Same H1 H2) : Same H H2 := fun c o h => b c o (a c o h)
theorem Same.free {H H' : Hp} (e : Same H H') {l : Addr} (h : H' l = Option.none) : H l = Option.none := by
 cases q : H l with
 | none => rfl
 | some o =>
  rw [e l o q] at h;cases h
theorem Same.seq {K : PySem.W.Frag} {H H' : Hp} {a : Addr} {xs : List V} (e : Same H H') (h : SqL K H a xs) : SqL K H' a xs := by
 rcases h with (h | ⟨o, h⟩) | h
 ·exact .inl (.inl (e _ _ h))
 ·exact .inl (.inr ⟨o, e _ _ h⟩)
 ·exact .inr h
section
variable {κ : Type} [DecidableEq κ]
end
theorem at_of {xs : List V} {z : Int} {j : Nat} {v : V} (e : z = (j : Int)) (h : xs[j]? = some v) : atI xs z = some v := by
 rw [e];exact atI_nat h
theorem nd_ix {α : Type} {l : List α} (hN : l.Nodup) {i j : Nat} {x : α} (a : l[i]? = some x) (b : l[j]? = some x) : i = j := by
 obtain ⟨h1, e1⟩ := List.getElem?_eq_some_iff.mp a;obtain ⟨h2, e2⟩ := List.getElem?_eq_some_iff.mp b;exact (List.getElem_inj hN).mp (e1.trans e2.symm)
end L2
namespace L2
open PySem PySem.Spec PyProof.Rows
section
variable {X : Cx}
theorem op_mulB : OpR X (binaryOp .Mult) (rI IntMulOk fun i j => .int (i * j)) := opI fun _ _ _ _ _ _ _ hc q => mul_int q hc
structure BigOk (X : Cx) : Prop where
 tree : X.prog.given.tree = none
 stk : ∃ e l, X.stack = e :: l /\ e.scope.isGenerator = false /\ e.scope.isCoroutine = false /\ e.builtins = builtinsNs /\ e.globals = mainGlobals
 dp : X.A.depth + Builtin.pylongFrames < recursionLimit
theorem op_fdivB (B : BigOk X) : OpR X (binaryOp .FloorDiv) (rI (fun _ j => 0 < j) fun i j => .int (i / j)) := by
 intro pins s σ H x y v u Q I rx ry h;obtain ⟨i, j, rfl, rfl, hc, q⟩ := h;obtain ⟨t, rfl⟩ := rx;obtain ⟨t', rfl⟩ := ry;have h1 : (0 : Int) < j := hc;obtain ⟨e, l, es, g1, g2, g3, g4⟩ := B.stk;refine floordiv_int (by omega) ?_ (.inr (PylongRoom.of (I.mod.nolimit.keeps I.bk) B.dp (SeerAt.of (I.mod.seer.keeps I.bk) B.tree (by rw [I.ok.frames, es]) g1 g2 g3 g4)));rw [Int.fdiv_eq_ediv_of_nonneg i (by omega)];exact ⟨.int (i / j), H, I.tok _, ⟨_, rfl⟩, q⟩
theorem mt_bits : MtR X "int.bit_length" (fun x xs H Q => ∃ i, x = .int i /\ xs = [] /\ Q (.int (Builtin.Int.intBits i : Nat)) H) := by
 intro pins s σ H x xs v us Q I rx rs h;obtain ⟨i, rfl, rfl, q⟩ := h;obtain ⟨t, rfl⟩ := rx;cases rs;exact call_int_bit_length ⟨.int _, H, I.tok _, ⟨_, rfl⟩, q⟩
end
end L2
namespace L2
open PySem PySem.Spec PyProof.Rows
structure Def (P : Program) (w : World) (K : PySem.W.Frag) (mg : Str -> Option Value) (base : Heap) (k : Nat) (x : Str) (ps : List Str) (sp : Sp) : Prop where
 ex : ∃ (f : Addr) (fd : FuncData), FnOk P w K mg base CX0 k f fd ps sp /\ mg x = some (.ref f) /\ PySem.W.keepIn K (.ref f) = true /\ Binds K fd ps []
structure MDef (P : Program) (w : World) (K : PySem.W.Frag) (mg : Str -> Option Value) (base : Heap) (k : Nat) (C : Addr) (m : Str) (ps : List Str) (sp : Sp) : Prop where
 cl : Cls K C
 ex : ∃ (f : Addr) (fd : FuncData), FnOk P w K mg base CX0 k f fd ps sp /\ Meth K C m f /\ Binds K fd ps []
structure CDef (P : Program) (w : World) (K : PySem.W.Frag) (mg : Str -> Option Value) (base : Heap) (k : Nat) (x : Str) (C : Addr) (ps : List Str) (sp : Sp) : Prop where
 ex : ∃ (f : Addr) (fd : FuncData), FnOk P w K mg base CX0 k f fd ps sp /\ Mk K C f /\ Binds K fd ps [] /\ mg x = some (.ref C)
structure BDef (P : Program) (w : World) (K : PySem.W.Frag) (mg : Str -> Option Value) (base : Heap) (k : Nat) (C : Addr) (m : Str) (ps : List Str) (sp : Sp) : Prop where
 ga : PySem.W.specialIn K (.ref C) "__getattribute__" = some (some (.builtin "type.__getattribute__"))
 ex : ∃ (f : Addr) (fd : FuncData) (mc : Value), FnOk P w K mg base CX0 k f fd ps sp /\ PySem.W.readsIn K C mc = true /\ PySem.W.findCls K (.ref C) mc m = some (.val (.ref f)) /\ PySem.W.keepIn K (.ref f) = true /\ Binds K fd ps []
section
variable {X : Cx} {k : Nat} {C : Addr} {ps : List Str} {sp : Sp} {x m : Str} {p pos apos : Pos} {e o : Expr} {es : List Expr} {ta : TE} {t : TA}
theorem pe_cI {i : Int} (h : ∃ t, X.mg x = some (.int i t)) (hg : Gl X x) (hd : (x == ("__debug__" : Str)) = false := by decide) : PE X (.Name x pos) (tC (.int i)) := by
 obtain ⟨t, e⟩ := h;exact pe_glob hg e ⟨t, rfl⟩ hd
theorem pe_def (D : Def X.prog X.w X.K X.mg X.base k x ps sp) (hr : Room k X.A) (hg : Gl X x) (ha : PA X (e :: es) t) (hdb : (x == ("__debug__" : Str)) = false := by decide)
  (he : starEach (e :: es) X.env = (false, eval e X.env) :: starEach es X.env := by rfl) (hpl : (backTo pos (starEach es X.env)).any (·.1) = false := by rfl) : PE X (.Call (.Name x p) (e :: es) [] pos) (tCall sp [] E0 t) := by
 obtain ⟨f, fd, F, hm, hk, hb⟩ := D.ex;exact pe_call F hr hg hm hk hb .nil pass0 ha hdb he hpl
theorem pe_mdef {pl : Sem Bool} (M : MDef X.prog X.w X.K X.mg X.base k C m ps sp) (hr : Room k X.A) (he : PE X o ta) (ha : PA X (e :: es) t)
  (hst : starEach (e :: es) X.env = (false, eval e X.env) :: starEach es X.env := by rfl) (hpl : (backTo pos (starEach es X.env)).any (·.1) = false := by rfl)
  (ht : eval (.Call (.Attribute o m apos) (e :: es) [] pos) X.env = (do
   let ov <- eval o X.env
   standAt apos.atName
   let (f, first) <- holding [ov] (getMethod ov m pl)
   callWith pos f first (backTo pos (starEach (e :: es) X.env)) (backToKw pos (keywordEach [] X.env))) := by rfl) : PE X (.Call (.Attribute o m apos) (e :: es) [] pos) (tMeth C m sp [] E0 ta t) := by
 obtain ⟨f, fd, F, hm, hb⟩ := M.ex;exact pe_meth he M.cl hm F hr hb .nil pass0 ha hst hpl ht
theorem pe_mdef0 {pl : Sem Bool} (M : MDef X.prog X.w X.K X.mg X.base k C m ps sp) (hr : Room k X.A) (he : PE X o ta)
  (ht : eval (.Call (.Attribute o m apos) [] [] pos) X.env = (do
   let ov <- eval o X.env
   standAt apos.atName
   let (f, first) <- holding [ov] (getMethod ov m pl)
   callWith pos f first (backTo pos (starEach [] X.env)) (backToKw pos (keywordEach [] X.env))) := by rfl) : PE X (.Call (.Attribute o m apos) [] [] pos) (tMeth C m sp [] E0 ta tNil) := by
 obtain ⟨f, fd, F, hm, hb⟩ := M.ex;exact pe_meth0 he M.cl hm F hr hb .nil pass0 ht
theorem pe_cls (M : CDef X.prog X.w X.K X.mg X.base k x C ps sp) (hr : Room (k + 1) X.A) (hg : Gl X x) (ha : PA X (e :: es) t) (hdb : (x == ("__debug__" : Str)) = false := by decide)
  (he : starEach (e :: es) X.env = (false, eval e X.env) :: starEach es X.env := by rfl) (hpl : (backTo pos (starEach es X.env)).any (·.1) = false := by rfl) : PE X (.Call (.Name x p) (e :: es) [] pos) (tMake C sp [] E0 t) := by
 obtain ⟨f, fd, F, hk, hb, hm⟩ := M.ex;exact pe_make hk F hr hg hm hb .nil pass0 ha hdb he hpl
theorem pe_cls0 (M : CDef X.prog X.w X.K X.mg X.base k x C ps sp) (hr : Room (k + 1) X.A) (hg : Gl X x) (hdb : (x == ("__debug__" : Str)) = false := by decide) : PE X (.Call (.Name x p) [] [] pos) (tMake C sp [] E0 tNil) := by
 obtain ⟨f, fd, F, hk, hb, hm⟩ := M.ex;exact pe_make0 hk F hr hg hm hb .nil pass0 hdb
theorem pe_base {pl : Sem Bool} (M : BDef X.prog X.w X.K X.mg X.base k C m ps sp) (hr : Room k X.A) (hg : Gl X x) (hm : X.mg x = some (.ref C)) (ha : PA X (e :: es) t) (hdb : (x == ("__debug__" : Str)) = false := by decide)
  (hst : starEach (e :: es) X.env = (false, eval e X.env) :: starEach es X.env := by rfl) (hpl : (backTo pos (starEach es X.env)).any (·.1) = false := by rfl)
  (ht : eval (.Call (.Attribute (.Name x p) m apos) (e :: es) [] pos) X.env = (do
   let ov <- eval (.Name x p) X.env
   standAt apos.atName
   let (f, first) <- holding [ov] (getMethod ov m pl)
   callWith pos f first (backTo pos (starEach (e :: es) X.env)) (backToKw pos (keywordEach [] X.env))) := by rfl) : PE X (.Call (.Attribute (.Name x p) m apos) (e :: es) [] pos) (tCall sp [] E0 t) := by
 obtain ⟨f, fd, mc, F, hrd, hf, hk, hb⟩ := M.ex;intro pins s σ H Q I h;refine PySem.W.methodCall_KW (pl := pl) (ld_glob I hg hm (PySem.W.method_cls I.kIn M.ga (PySem.W.cls_value I.kIn hrd hf rfl ?_)) hdb) ht;have I1 := I.tok (s.toks + 1);refine PySem.W.callWith_K (first := []) (h₀ := X.base) I.ok.mod.kin hk (thn (ha pos pins _ σ H _ I1 h) fun us s2 ⟨vs, H2, I2, r, q2⟩ => ⟨I2.kIn, ?_⟩) hst hpl;exact run_fn (us := us) F hr hb .nil pass0 I2 r q2
def tCallV (X : Cx) (i : Nat) (t : TA) : TE := fun σ H Q => ∃ (f : Addr) (fd : FuncData) (ps : List Str) (sp : Sp) (k : Nat), σ[i]? = some (some (.ref f)) /\ FnOk X.prog X.w X.K X.mg X.base CX0 k f fd ps sp /\ Room k X.A /\
 PySem.W.keepIn X.K (.ref f) = true /\ Binds X.K fd ps [] /\ t σ H fun vs H1 => sp (vs ++ []) H1 Q E0
theorem pe_callV (i : Nat) (hN : X.N[i]? = some x) (hv : Vis X.env.scope x) (ha : PA X (e :: es) t) (hdb : (x == ("__debug__" : Str)) = false := by decide) (hcd : (x == ("__classdict__" : Str)) = false := by decide)
  (he : starEach (e :: es) X.env = (false, eval e X.env) :: starEach es X.env := by rfl) (hpl : (backTo pos (starEach es X.env)).any (·.1) = false := by rfl) : PE X (.Call (.Name x p) (e :: es) [] pos) (tCallV X i t) := by
 intro pins s σ H Q I h;obtain ⟨f, fd, ps, sp, k, hf, F, hr, hk, hb, h⟩ := h;refine wpAny_Call_Name_kw (thn (pe_var hN hv hdb hcd pins s σ H (fun y H1 => y = .ref f /\ H1 = H) I ⟨_, hf, rfl, rfl⟩) fun u s1 ⟨y, H1, I1, r, e1, e2⟩ => ?_);subst e1 e2;obtain rfl : u = Value.ref f := r;refine PySem.W.callWith_K (h₀ := X.base) I1.ok.mod.kin hk (thn (ha pos pins s1 σ H1 _ I1 h) fun us s2 ⟨vs, H2, I2, r, q⟩ => ⟨I2.kIn, ?_⟩) he hpl;exact run_fn F hr hb .nil pass0 I2 r q
def rExtendT (K : PySem.W.Frag) : V -> List V -> Hp -> VK -> Prop := fun x vs H Q => ∃ l b xs zs, x = .ref l /\ vs = [.ref b] /\ H l = some (.lst xs) /\ SqT K H b zs /\ xs.length + zs.length <= sizeLine /\ Q .non (upd H l (.lst (xs ++ zs)))
def iKeysF (td : TE) : TI := fun σ H R => td σ H fun x H1 => ∃ d kvs, x = .ref d /\ H1 d = some (.dT kvs) /\ ∀ o, R (Itkt d o kvs) (upd H1 d (.frz o (.dT kvs)))
theorem pi_keysF {tg : Expr} {td : TE} (he : PE X e td) : PI X tg e (iKeysF td) := by
 intro pins s σ H R I h;refine thn (he pins s σ H _ I h) fun u s1 ⟨x, H1, I1, rx, d, kvs, ex, hd, q⟩ => ?_;subst ex;obtain rfl : u = Value.ref d := rx;obtain ⟨o, I2⟩ := I1.lock hd True.intro;obtain ⟨hs, hgd, hx, es, ep, hdt, hsz, ent⟩ := I2.frzT upd_same;refine iter_keys hs hgd hx hdt (pi_one (tk := s1.toks) I2 _ (turn_keysT _ hdt) ⟨_, Heap.get?_push_size _ rfl, rfl, ?_⟩ (q o));rw [hsz] <;> rfl
end
theorem big_cx {CX : CXT} {P : Program} {w : World} {K : PySem.W.Frag} {mg : Str -> Option Value} {base : Heap} {N ps : List Str} {qual : Str} {scope : Scope} {f : Addr} {cdv : Value} {A : Around} {outer : List Env} {s : Shared} {H : Hp} {E : XK} {k : Nat}
  (S : FnScope N ps scope) (tree : P.given.tree = none) (hk : 32 <= k) (hr : Room k (A.deeper (envOfC qual scope s.heap.objs.size f cdv))) : BigOk (cxOf CX P w K mg base N qual scope f cdv A outer s H E).nox :=
 ⟨tree, ⟨_, _, rfl, S.gen, S.co, rfl, rfl⟩, by
  have := hr.dp;show (A.deeper (envOfC qual scope s.heap.objs.size f cdv)).depth + 100 < recursionLimit
  omega⟩
end L2
namespace L2
open PySem PySem.Spec PyProof.Rows
section
variable {σ : St} {H : Hp} {Q : VK} {v x y : V} {i j : Int} {ta tb te : TE} {t : TA} {K : PySem.W.Frag}
theorem rd_var {n : Nat} (h : σ[n]? = some (some v)) (q : Q v H) : tVar n σ H Q := ⟨v, h, q⟩
theorem rd_c (q : Q v H) : tC v σ H Q := q
theorem rd_op {r : R2} (h : ta σ H fun x H1 => tb σ H1 fun y H2 => r x y H2 Q) : tOp r ta tb σ H Q := h
theorem rd_un {r : V -> Hp -> VK -> Prop} (h : ta σ H fun x H1 => r x H1 Q) : tUn r ta σ H Q := h
theorem rd_i0 {g : Int -> Int -> V} (q : Q (g i j) H) : rI0 g (.int i) (.int j) H Q := ⟨i, j, rfl, rfl, q⟩
theorem rd_i {C : Int -> Int -> Prop} {g : Int -> Int -> V} (c : C i j) (q : Q (g i j) H) : rI C g (.int i) (.int j) H Q := ⟨i, j, rfl, rfl, c, q⟩
theorem rd_u {g : Int -> V} (q : Q (g i) H) : rU g (.int i) H Q := ⟨i, rfl, q⟩
theorem rd_eq (h : scal x y = true) (q : Q (.bl (decide (x = y))) H) : rEq x y H Q := ⟨h, q⟩
theorem rd_ne (h : scal x y = true) (q : Q (.bl (!decide (x = y))) H) : rNe x y H Q := ⟨h, q⟩
theorem rd_ixT {p : Addr} {xs : List V} (h : SqT K H p xs) (e : atI xs i = some v) (q : Q v H) : rIxT K (.ref p) (.int i) H Q := ⟨p, xs, i, v, rfl, rfl, h, e, q⟩
theorem rd_ixL {p : Addr} {xs : List V} (h : SqL K H p xs) (e : atI xs i = some v) (q : Q v H) : rIxL K (.ref p) (.int i) H Q := ⟨p, xs, i, v, rfl, rfl, h, e, q⟩
theorem rd_nil {Q : List V -> Hp -> Prop} (q : Q [] H) : tNil σ H Q := q
theorem rd_cons {Q : List V -> Hp -> Prop} (h : ta σ H fun x H1 => t σ H1 fun xs H2 => Q (x :: xs) H2) : tCons ta t σ H Q := h
theorem rd_call {sp : Sp} {dvs : List V} {E : XK} (h : t σ H fun vs H1 => sp (vs ++ dvs) H1 Q E) : tCall sp dvs E t σ H Q := h
theorem rd_cb {r : List V -> Hp -> VK -> Prop} (h : t σ H fun vs H1 => r vs H1 Q) : tCB r t σ H Q := h
def rTup : List V -> Hp -> VK -> Prop := fun xs H Q => xs.length <= sizeLine /\ ∀ p, H p = none -> Q (.ref p) (upd H p (.tup xs))
def rLst : List V -> Hp -> VK -> Prop := fun xs H Q => xs.length <= sizeLine /\ ∀ p, H p = none -> Q (.ref p) (upd H p (.lst xs))
theorem rd_tup (h : t σ H fun xs H1 => rTup xs H1 Q) : tTup t σ H Q := h
theorem rd_lst (h : t σ H fun xs H1 => rLst xs H1 Q) : tLst t σ H Q := h
theorem rd_tupE {xs : List V} (h : Nat.ble xs.length 1000 = true) (q : ∀ p, H p = none -> Q (.ref p) (upd H p (.tup xs))) : rTup xs H Q := ⟨Nat.le_trans (Nat.le_of_ble_eq_true h) (by decide), q⟩
theorem rd_lstE {xs : List V} (h : Nat.ble xs.length 1000 = true) (q : ∀ p, H p = none -> Q (.ref p) (upd H p (.lst xs))) : rLst xs H Q := ⟨Nat.le_trans (Nat.le_of_ble_eq_true h) (by decide), q⟩
def rFld (K : PySem.W.Frag) (f : Str) : V -> Hp -> VK -> Prop := fun x H1 Q => ∃ a C dx fs v, x = .ref a /\ H1 a = some (.ins C dx fs) /\ Cls K C /\ NoAttr K C f /\ fs.lookup f = some v /\ Q v H1
theorem rd_fld {f : Str} (h : ta σ H fun x H1 => rFld K f x H1 Q) : tFld K ta f σ H Q := h
theorem rd_fldE {f : Str} {a C dx : Addr} {fs : List (Str × V)} (h : H a = some (.ins C dx fs)) (c : Cls K C) (n : NoAttr K C f) (l : fs.lookup f = some v) (q : Q v H) : rFld K f (.ref a) H Q := ⟨a, C, dx, fs, v, rfl, h, c, n, l, q⟩
def rMeth (C : Addr) (m : Str) (k : V -> Hp -> Prop) : V -> Hp -> Prop := fun x H1 => ∃ a dx fs, x = .ref a /\ H1 a = some (.ins C dx fs) /\ fs.lookup m = none /\ k x H1
theorem rd_meth {C : Addr} {m : Str} {sp : Sp} {dvs : List V} {E : XK} (h : ta σ H (rMeth C m fun x H1 => t σ H1 fun vs H2 => sp (x :: (vs ++ dvs)) H2 Q E)) : tMeth C m sp dvs E ta t σ H Q := h
theorem rd_methE {C : Addr} {m : Str} {k : V -> Hp -> Prop} {a dx : Addr} {fs : List (Str × V)} (h : H a = some (.ins C dx fs)) (l : fs.lookup m = none) (q : k (.ref a) H) : rMeth C m k (.ref a) H := ⟨a, dx, fs, rfl, h, l, q⟩
theorem rd_make {C : Addr} {sp : Sp} {dvs : List V} {E : XK} (h : t σ H fun vs H1 => ∀ x dx, H1 x = none -> H1 dx = none -> dx ≠ x -> sp (.ref x :: (vs ++ dvs)) (upd (upd H1 dx (.own x)) x (.ins C dx [])) (fun v H2 => v = .non /\ Q (.ref x) H2) E) : tMake C sp dvs E t σ H Q := h
theorem rd_bm {T : String} {r : V -> List V -> Hp -> VK -> Prop} (h : ta σ H fun x H1 => tyV K T x H1 /\ t σ H1 fun xs H2 => r x xs H2 Q) : tBM K T r ta t σ H Q := h
theorem rd_bm0 {T : String} {r : V -> List V -> Hp -> VK -> Prop} (h : ta σ H fun x H1 => tyV K T x H1 /\ r x [] H1 Q) : tBM0 K T r ta σ H Q := h
theorem rd_andV (h : ta σ H fun x H1 => ∃ c, x = .bl c /\ if c = true then tb σ H1 Q else Q (.bl false) H1) : tAndV ta tb σ H Q := h
theorem rd_dget {td ty : TE} (h : td σ H fun x H1 => ty σ H1 fun y H2 => ∃ a v, x = .ref a /\ DGet H2 a y (some v) /\ Q v H2) : tDGet td ty σ H Q := h
theorem rd_din {td ty : TE} (h : ty σ H fun y H1 => td σ H1 fun x H2 => ∃ a o, x = .ref a /\ DGet H2 a y o /\ Q (.bl o.isSome) H2) : tDIn ty td σ H Q := h
theorem rd_dnotin {td ty : TE} (h : ty σ H fun y H1 => td σ H1 fun x H2 => ∃ a o, x = .ref a /\ DGet H2 a y o /\ Q (.bl (!o.isSome)) H2) : tDNotIn ty td σ H Q := h
end
section
variable {σ : St} {H : Hp} {Q : Bool -> Hp -> Prop} {te : TE} {t u : TT}
theorem rd_test (h : te σ H fun x H' => ∃ k, x = .bl k /\ Q k H') : tTest te σ H Q := h
theorem rd_tb (h : te σ H fun x H' => ∃ k, x = .bl k /\ Q k H') : tB te σ H Q := h
theorem rd_or (h : t σ H fun c H1 => if c = true then Q true H1 else u σ H1 Q) : tOr t u σ H Q := h
theorem rd_not (h : t σ H fun c H1 => Q (!c) H1) : tNot t σ H Q := h
theorem rd_yes (q : Q true H) : tYes σ H Q := q
theorem rd_bl {b : Bool} {R : Bool -> Prop} (q : R b) : ∃ k, V.bl b = .bl k /\ R k := ⟨b, rfl, q⟩
end
section
variable {σ : St} {H : Hp} {nx bk ct : St -> Hp -> Prop} {rt : VK} {t u : TS} {te ta tv : TE} {c : TT} {K : PySem.W.Frag}
theorem rd_next (q : nx σ H) : tNext ⟨nx, rt, bk, ct⟩ σ H := q
theorem rd_seq (h : t ⟨u ⟨nx, rt, bk, ct⟩, rt, bk, ct⟩ σ H) : tSeq t u ⟨nx, rt, bk, ct⟩ σ H := h
theorem rd_ret (h : te σ H rt) : tRet te ⟨nx, rt, bk, ct⟩ σ H := h
theorem rd_drop (h : te σ H fun _ H1 => nx σ H1) : tDrop te ⟨nx, rt, bk, ct⟩ σ H := h
theorem rd_asg {g : TG} (h : te σ H fun x H1 => g x σ H1 nx) : tAsg te g ⟨nx, rt, bk, ct⟩ σ H := h
theorem rd_gname {i : Nat} {v : V} {Q : St -> Hp -> Prop} (q : Q (σ.set i (some v)) H) : gName i v σ H Q := q
theorem rd_gsub {to ti : TE} {ts : TSet} {v : V} {Q : St -> Hp -> Prop} (h : to σ H fun o H1 => ti σ H1 fun i H2 => ts o i v H2 fun H3 => Q σ H3) : gSub to ti ts v σ H Q := h
theorem rd_if (h : c σ H fun b H1 => if b = true then t ⟨nx, rt, bk, ct⟩ σ H1 else u ⟨nx, rt, bk, ct⟩ σ H1) : tIfS c t u ⟨nx, rt, bk, ct⟩ σ H := h
def rSetF (K : PySem.W.Frag) (f : Str) (y : V) (nx : St -> Hp -> Prop) (σ : St) : V -> Hp -> Prop := fun x H2 => ∃ a C dx fs, x = .ref a /\ H2 a = some (.ins C dx fs) /\ Cls K C /\ NoAttr K C f /\ fs.length < 1000 /\ nx σ (upd H2 a (.ins C dx (putF f y fs)))
theorem rd_setf {f : Str} (h : tv σ H fun y H1 => ta σ H1 (rSetF K f y nx σ)) : sFld K ta tv f ⟨nx, rt, bk, ct⟩ σ H := h
theorem rd_setfE {f : Str} {y : V} {a C dx : Addr} {fs : List (Str × V)} (h : H a = some (.ins C dx fs)) (cl : Cls K C) (n : NoAttr K C f) (l : fs.length < 1000) (q : nx σ (upd H a (.ins C dx (putF f y fs)))) : rSetF K f y nx σ (.ref a) H := ⟨a, C, dx, fs, rfl, h, cl, n, l, q⟩
end
section
variable {σ : St} {H : Hp} {R : It -> Hp -> Prop} {Q : VK} {tl te td : TE} {ta : TA} {K : PySem.W.Frag} {wi : TI} {g : TG} {tt : TT} {vs : List Nat}
def LcB (g : TG) (tt : TT) (te : TE) (vs : List Nat) (σ : St) (Q : VK) (J : It) (H1 : Hp) : Prop := ∀ D, H1 D = none -> ∃ W : Nat -> Nat -> Hp -> Prop, (∃ m, W 0 m (upd H1 D (.lst []))) /\ ∀ i m H, W i m H ->
 (J.stop i H /\ Q (.ref D) H) ∨ (J.go i H /\ ∃ Nx : Hp -> Prop, (∀ H', Nx H' -> ∃ m', m' < m /\ W (i + 1) m' H') /\ ∀ x H', J.yld i H x H' -> g x (wipe σ vs) H' fun σ2 H2 => wipe σ2 vs = wipe σ vs /\ tt σ2 H2 fun b H3 =>
  if b = true then te σ2 H3 fun y H4 => ∃ acc, H4 D = some (.lst acc) /\ acc.length < sizeLine /\ Nx (upd H4 D (.lst (acc ++ [y]))) else Nx H3)
theorem rd_lc (h : wi σ H (LcB g tt te vs σ Q)) : tLc wi g tt te vs σ H Q := h
theorem rd_ilist (h : tl σ H fun x H1 => ∃ a, x = .ref a /\ (∃ xs, SqL K H1 a xs) /\ R (Itl K a) H1) : iList K tl σ H R := h
theorem rd_irng1 (h : ta σ H fun vs H1 => ∃ j : Int, vs = [.int j] /\ -(2 ^ 62) <= j /\ j < 2 ^ 62 /\ R (Itr 0 j.toNat) H1) : iRng1 ta σ H R := h
def ForB (g : TG) (tb : TS) (D : Ends) (σ : St) (J : It) (H1 : Hp) : Prop := ∃ W : Nat -> Nat -> St -> Hp -> Prop, (∃ m, W 0 m σ H1) /\ ∀ i m σ H, W i m σ H ->
 (J.stop i H /\ D.nx σ H) ∨ (J.go i H /\ ∃ N : St -> Hp -> Prop, (∀ σ' H', N σ' H' -> ∃ m', m' < m /\ W (i + 1) m' σ' H') /\ ∀ x H', J.yld i H x H' -> g x σ H' fun σ2 H2 => tb { D with nx := N, ct := N, bk := D.nx } σ2 H2)
theorem rd_for {tb : TS} {D : Ends} (h : wi σ H (ForB g tb D σ)) : tFor wi g tb D σ H := h
theorem rd_ikeysF (h : td σ H fun x H1 => ∃ d kvs, x = .ref d /\ H1 d = some (.dT kvs) /\ ∀ o, R (Itkt d o kvs) (upd H1 d (.frz o (.dT kvs)))) : iKeysF td σ H R := h
theorem rd_ikeys (h : td σ H fun x H1 => ∃ d o, x = .ref d /\ ((∃ kvs, H1 d = some (.frz o (.dK kvs)) /\ R (Itk d o kvs) H1) ∨ ∃ kvs, H1 d = some (.frz o (.dT kvs)) /\ R (Itkt d o kvs) H1)) : iKeys td σ H R := h
end
section
variable {K : PySem.W.Frag} {H H' : Hp} {a p : Addr} {xs : List V} {o : HO}
theorem Same.new (h : H p = none) : Same H (upd H p o) := fun b u e => by rw [upd_ne (ne_of_none e h)]; exact e
theorem Same.sqT (s : Same H H') (h : SqT K H a xs) : SqT K H' a xs := by
 rcases h with (h | ⟨o, h⟩) | h
 ·exact .inl (.inl (s _ _ h))
 ·exact .inl (.inr ⟨o, s _ _ h⟩)
 ·exact .inr h
def But (p : Addr) (H H' : Hp) : Prop := ∀ b o, H b = some o -> b ≠ p -> H' b = some o
theorem Same.but (s : Same H H') : But p H H' := fun b o h _ => s b o h
theorem But.refl : But p H H := fun _ _ h _ => h
theorem But.trans {H2 : Hp} (s : But p H H') (t : But p H' H2) : But p H H2 := fun b o h n => t b o (s b o h n) n
theorem But.upd : But p H (upd H p o) := fun b u e n => by rw [upd_ne n]; exact e
end
end L2
namespace L2
open PySem PySem.Spec PyProof.Rows
theorem PSs.weak {X : Cx} {sts : List Stmt} {t : TS} (t' : TS) (h : PSs X sts t) (hw : ∀ D σ H, t' D σ H -> t D σ H) : PSs X sts t' := fun pins s σ H D I q => h pins s σ H D I (hw D σ H q)
theorem ix_tupK {X : Cx} {K : PySem.W.Frag} (h : X.K = K) : IxR X (rIxT K) := by subst h; exact ix_tup
theorem ix_listK {X : Cx} {K : PySem.W.Frag} (h : X.K = K) : IxR X (rIxL K) := by subst h; exact ix_list
theorem pe_fldK {X : Cx} {K : PySem.W.Frag} {e : Expr} {f : Str} {pos : Pos} {ta : TE} (h : X.K = K) (he : PE X e ta) (hb : attributeBase e f X.env (eval e X.env) = eval e X.env) : PE X (.Attribute e f pos) (tFld K ta f) := by
 subst h;exact pe_fld he hb
end L2
namespace L2
open PySem PySem.Spec PyProof.Rows
section
variable {X : Cx}
theorem mt_extendT : MtM X "list.extend" (rExtendT X.K) := by
 intro pins s σ H x vs v us Q I rx rv h;obtain ⟨l, b, xs, zs, rfl, rfl, hH, hB, hz, q⟩ := h;cases rx;obtain ⟨u, rfl, ru⟩ := rv.one;cases ru;obtain ⟨z, its, n, r, hl, e⟩ := I.lstM hH;obtain ⟨its2, r2, ⟨ob, hob, hcb, n2, hdb⟩, hz2⟩ := I.tuple hB;have hl2 := r2.length;have hsz : its.toArray.size + its2.toArray.size <= sizeLine := by rw [List.size_toArray, List.size_toArray]; omega
 refine wpAny_call_entry F.slot_list_extend ⟨_, e, rfl⟩ F.entry_list_extend ?_ (F.args_list_extend_2 _ _);show wpAny _ _ (Builtin.List.listExtendWith (.ref l) (.ref b) .none) _ _ s;unfold Builtin.List.listExtendWith;refine wpAny_bind (wpAny_typeOf (T := "tuple") ⟨ob, hob, hcb⟩ ?_);have ht : (Value.type "tuple" == Value.type "tuple") = true := by rfl
 rw [if_pos (by rw [ht, Bool.or_true])];refine wpAny_bind (listItems_at hob hdb ?_);refine wpAny_bind (listItems_at e rfl ?_);rw [if_neg (by rw [notLongL hsz, Bool.and_false]; exact Bool.false_ne_true)];refine wpAny_bind (listUpdate_at e rfl ?_ (by rw [List.size_toArray]; omega) (by rw [Array.size_append]; omega));refine wpAny_pure ⟨_, rfl, .non, _, I.lset (t' := s.toks) (its' := its ++ its2) hH e (by simp) (r.append r2) ?_, rfl, q⟩;rw [List.length_append];omega
theorem rd_extT {K : PySem.W.Frag} {H : Hp} {Q : VK} {l b : Addr} {xs zs : List V} (h1 : H l = some (.lst xs)) (h2 : SqT K H b zs) (h3 : xs.length + zs.length <= sizeLine) (q : Q .non (upd H l (.lst (xs ++ zs)))) : rExtendT K (.ref l) [.ref b] H Q := ⟨l, b, xs, zs, rfl, rfl, h1, h2, h3, q⟩
theorem rd_app {H : Hp} {Q : VK} {l : Addr} {xs : List V} {y : V} (h1 : H l = some (.lst xs)) (h3 : xs.length < sizeLine) (q : Q .non (upd H l (.lst (xs ++ [y])))) : rAppend (.ref l) [y] H Q := ⟨l, xs, y, rfl, rfl, h1, h3, q⟩
theorem rd_ext {H : Hp} {Q : VK} {l b : Addr} {xs zs : List V} (h1 : H l = some (.lst xs)) (h2 : H b = some (.lst zs)) (h3 : xs.length + zs.length <= sizeLine) (q : Q .non (upd H l (.lst (xs ++ zs)))) : rExtend (.ref l) [.ref b] H Q := ⟨l, b, xs, zs, rfl, rfl, h1, h2, h3, q⟩
theorem call_rangeV : CallR X (.type "range") (fun xs H Q => ∃ j : Int, xs = [.int j] /\ ∀ p, H p = none -> Q (.ref p) (upd H p (.rng 0 j))) := by
 intro pins s σ H xs us Q I r h;obtain ⟨j, rfl, q⟩ := h;obtain ⟨u, rfl, rx⟩ := vals1 r;obtain ⟨t, rfl⟩ := rx;refine call_range_1 ?_;exact ⟨.ref s.heap.objs.size, _, I.laid (o := .rng 0 j) (fun _ _ e => Heap.get?_push_of_some _ e) (Nat.le_refl _) ⟨_, _, _, Heap.get?_push_size _ rfl⟩, rfl, q _ I.fresh⟩
theorem call_listR (hc : X.calm = true) : CallR X (.type "list") (fun xs H Q => ∃ (p : Addr) (j : Int), xs = [.ref p] /\ H p = some (.rng 0 j) /\ 0 <= j /\ j <= 1000 /\ ∀ l, H l = none -> Q (.ref l) (upd H l (.lst ((List.range j.toNat).map fun i : Nat => V.int (i : Int))))) := by
 intro pins s σ H xs us Q I r h;obtain ⟨p, j, rfl, hp, j0, j1, q⟩ := h;obtain ⟨u, rfl, rx⟩ := vals1 r;cases rx;obtain ⟨t, u, v, e⟩ := I.hok p _ hp;have hn : Builtin.Range.rangeSize 0 j 1 = ((j.toNat : Nat) : Int) := by rw [rangeSize_one]; split <;> omega
 refine call_list_range (I.ok.hd hc) e (small_one (by omega) (by omega) (by omega) (by omega)) hn (by omega) fun h' tk acc c kp hS hacc => ?_;have hv : Vals ((List.range j.toNat).map fun i : Nat => V.int (i : Int)) acc.toList := by
  have gen : ∀ (n : Nat) (as : List Value), as.length = n -> (∀ (i : Nat) (v : Value), as[i]? = some v -> ∃ t, v = Value.int (0 + (i : Int) * 1) t) -> Vals ((List.range n).map fun i : Nat => V.int (i : Int)) as := by
   intro n
   induction n with
   | zero =>
    intro as ha _;have : as = [] := List.length_eq_zero_iff.mp ha;subst this;exact .nil
   | succ n ih =>
    intro as ha hi;obtain ⟨as', z, rfl⟩ : ∃ as' z, as = as' ++ [z] := by
     have hne : as ≠ [] := fun z => by rw [z] at ha; simp at ha
     exact ⟨as.dropLast, as.getLast hne, (List.dropLast_concat_getLast hne).symm⟩
    have hl : as'.length = n := by simpa using ha
    rw [List.range_succ, List.map_append];refine Vals.append (ih as' hl fun i v hv => hi i v (by rw [List.getElem?_append_left (List.getElem?_eq_some_iff.mp hv).1]; exact hv)) (.cons ?_ .nil);obtain ⟨t, e⟩ := hi n z (by rw [List.getElem?_append_right (by omega), hl]; simp);exact ⟨t, by rw [e]; congr 1; omega⟩
  refine gen j.toNat acc.toList (by rw [Array.length_toList]; exact hacc.1) fun i v hv => ?_;exact hacc.2 i v (by rw [<- Array.getElem?_toList]; exact hv)
 exact ⟨.ref s.heap.objs.size, _, I.laid (o := .lst _) kp (Nat.le_refl _) ⟨by rw [List.length_map, List.length_range]; exact Nat.le_trans (show j.toNat <= 1000 by omega) (by decide), acc.toList, c, hv, by simpa using hS⟩, rfl, q _ I.fresh⟩
def rD1 (p : Addr) (Q : VK) : List (V × V) -> Hp -> Prop
 | [(x, y)], H2 => ∃ (b : Addr) (k : List Key), x = .ref b /\ H2 b = some (.tup (k.map kV)) /\ H2 p = some (.dT []) /\ Q (.ref p) (upd H2 p (.dT [(k, y)]))
 | _, _ => False
def tDisp1T (tk tv : TE) : TE := fun σ H Q => ∀ p, H p = none -> tk σ (upd H p (.dT [])) fun x H1 => tv σ H1 fun y H2 => rD1 p Q [(x, y)] H2
theorem pe_disp1T {k v : Expr} {tk tv : TE} {pos : Pos} (hu : X.A.units + 1 < cLine) (hk : PE X k tk) (hv : PE X v tv) : PE X (.Dict [some k] [v] pos) (tDisp1T tk tv) := by
 intro pins s σ H Q I q;have hn := I.hok.fresh (Nat.le_refl s.heap.objs.size);have I1 := I.laid (a := s.heap.objs.size) (o := .dT []) (h' := s.heap.push { cls := .type "dict", data := .dict #[] }) (t' := s.toks) (fun _ _ q => Heap.get?_push_of_some _ q) (Nat.le_refl _) (dt_empty s.heap I.big);refine wpAny_Dict_any rfl rfl (by simp) (by show 1 <= 15; decide) (thn ((pps_cons hk hv pps_nil) pins _ σ _ (rD1 s.heap.objs.size Q) I1 (q _ hn)) fun ws s2 ⟨ps, H2, I2, rel, q2⟩ => ?_)
 match ps, rel, q2 with
 | [(x, y)], rel, q2 =>
  obtain ⟨b, kk, ex, hb, hp, q3⟩ := q2;subst ex;cases rel with
  | @cons _ wv _ _ r rr =>
   cases rr;obtain ⟨ku, vu⟩ := wv;obtain ⟨r1, r2⟩ := r;obtain rfl : ku = Value.ref b := r1;unfold storeAll;rw [List.forIn_cons];obtain ⟨z, hd, xs, rel, dd⟩ := dt_of I2.hok hp;have hz : xs.length <= sizeLine := by rw [<- Paired.length rel]; exact z
   refine wpAny_bind (wpAny_bind (wpAny_dictSet_heap (knd := tupleKind (mixKind X.prog X.w)) (hsz := hz) (by show X.A.units < cLine; omega) (key_of I2.hok hb) dd fun h' dd' hs => wpAny_pure ?_));show wpAny _ _ (forIn [] PUnit.unit _) _ _ _;rw [List.forIn_nil];refine wpAny_pure ?_;obtain ⟨o, es, ep, ho, h2, h3, h4, _, h5⟩ := dd';cases rel;refine ⟨.ref s.heap.objs.size, _, d_write I2 (by rw [hp]; exact True.intro) hs ⟨o, ho⟩ (ob := .dT [(kk, y)]) (show ObjOk _ _ _ _ _ (.dT [(kk, y)]) from ⟨by show 1 <= sizeLine; decide, hd, storedH [] kk b vu, ?_, o, es, ep, ho, h2, h3, h4, h5⟩), rfl, q3⟩;have kt : KT H2 (putK ([] : List (List Key × V)) kk y) (storedH [] kk b vu) := KT.put .nil kk hb r2;refine kt.keeps fun c ys ec => ?_;rw [upd_ne (ne_of ec hp (fun z => nomatch z))];exact ec
end
end L2
namespace L2
open PySem PySem.Spec PyProof.Rows
section
variable {prog : Program} {w : World} {A : Around} {s : Shared} {R : Result -> Shared -> Prop} {E : Value -> Shared -> Prop}
variable {I : Addr} {fp wr : List Addr} {G : Array GenState -> Array GenState -> Prop} {n : Nat} {P : Nat -> Value -> Prop} {St : Nat -> Shared -> Prop}
theorem rv_len : typeLookup (.type "list_reverseiterator") "__len__" = pure none := by rw [typeLookup_type, builtinLookup_eq_fast]; kernel_rfl
theorem rv_hint : typeLookup (.type "list_reverseiterator") "__length_hint__" = pure (some (.builtin "list_reverseiterator.__length_hint__")) := by rw [typeLookup_type, builtinLookup_eq_fast]; kernel_rfl
theorem rv_quiet {Q : Bool -> Shared -> Prop} (hT : s.TypeIs (.ref I) "list_reverseiterator") (h : Q false s) : wpAny (model prog w) A (Builtin.List.listLengthHint (.ref I)) Q E s := by
 unfold Builtin.List.listLengthHint;refine wpAny_bind (wpAny_specialOf hT rv_len ?_);show wpAny _ A (specialOf (.ref I) (Str.ofString "__length_hint__") >>= _) _ _ s;refine wpAny_bind (wpAny_specialOf hT rv_hint ?_);generalize hid : ("list_reverseiterator.__length_hint__" : String) = idr
 wp_delta
 rw [show splitId idr = some ("list_reverseiterator", "__length_hint__") from by subst hid; decide +kernel];subst hid;refine wpAny_bind (wpAny_isInstance (b := true) hT (by rw [isSubtype_type]; kernel_rfl) ?_);exact wpAny_pure h
theorem rv_extend (W : WalksS prog w A.in1 I fp wr G n P St) (hT : ∀ i s, St i s -> s.TypeIs (.ref I) "list_reverseiterator") (L : Addr) (res : Value) (k0 : Nat) (hst : St 0 s) (hL : L ∉ fp) (hI : I ∈ fp)
  (hl : s.heap.get? L = some { cls := .type "list", data := .seq #[] k0 })
  (hR : ∀ z as k1, Moved (L :: wr) G s z -> z.heap.get? L = some { cls := .type "list", dict := none, data := .seq as k1, slots := #[] } -> ItemsOf P as n -> R (.ok (.ret res)) z) (hn : n <= sizeLine) :
  wpAny (model prog w) A.in1 (Builtin.List.listExtendWith (.ref L) (.ref I) res)
   (fun fin z => match fin with | .done f => R (.ok f) z | .again c => c.quiet = true /\ codeAny (model prog w) A c R z) (fun e z => R (.error e) z) s := by
 have ne : L ≠ I := fun e => hL (e ▸ hI);unfold Builtin.List.listExtendWith;refine wpAny_bind (wpAny_typeOf (hT 0 _ hst) ?_);have a1 : Builtin.List.listSameRef (.ref L) (.ref I) = false := by simp [Builtin.List.listSameRef, ne]
 have a2 : (Value.type "list_reverseiterator" == Value.type "list") = false := by decide
 have a3 : (Value.type "list_reverseiterator" == Value.type "tuple") = false := by decide
 simp only [a1, a2, a3, Bool.or_false, Bool.false_eq_true, if_false];refine wpAny_bind (W.self 0 _ _ _ hst ?_);refine wpAny_bind (wpAny_holding (rv_quiet (hT 0 _ hst) ?_));rw [if_neg (by decide)];exact wpAny_pure ⟨plainId_quiet F.plain_extend_loop _, codeAny_extend_loopS W hn L hL res n 0 s _ _ rfl (Nat.zero_le _) hst hl (ItemsOf.nil P) hR⟩
theorem rv_list {Q : Value -> Shared -> Prop} (W : WalksS prog w A.in1.in1 I fp wr G n P St) (hT : ∀ i s, St i s -> s.TypeIs (.ref I) "list_reverseiterator") (hst : St 0 s) (hfp : ∀ b ∈ fp, b < s.heap.objs.size) (hI : I ∈ fp) (hn : n <= sizeLine)
  (hQ : ∀ z as k1, Moved (s.heap.objs.size :: wr) G { s with heap := s.heap.push { cls := .type "list", data := .seq #[] } } z -> z.heap.get? s.heap.objs.size = some { cls := .type "list", dict := none, data := .seq as k1, slots := #[] } -> ItemsOf P as n -> Q (.ref s.heap.objs.size) z) :
  wpAny (model prog w) A (call (.type "list") [.ref I]) Q E s := by
 have hL : s.heap.objs.size ∉ fp := fun z => Nat.lt_irrefl _ (hfp _ z);refine callType_codes (Q₁ := fun ob z => ob = .ref s.heap.objs.size /\ z = { s with heap := s.heap.push { cls := .type "list", data := .seq #[] } }) F.called_list (F.typeCall_list_1 _) F.entry_list_init (code_list_new _ ⟨rfl, rfl⟩) ?_
 rintro ob z ⟨rfl, rfl⟩;have hl : (s.heap.push { cls := .type "list", data := .seq #[] }).get? s.heap.objs.size = some { cls := .type "list", data := .seq #[] } := Heap.get?_push_size _ rfl;have st1 := W.frame 0 s (s.heap.push { cls := .type "list", data := .seq #[] }) s.toks hst (Nat.le_refl _) fun b _ o e => Heap.get?_push_of_some _ e;refine ⟨⟨_, hl, rfl⟩, F.args_list_init_2 _ _, ?_⟩;show wpAny _ _ (do let old <- Builtin.List.listItems (.ref s.heap.objs.size); Builtin.List.listUpdate (.ref s.heap.objs.size) (fun _ => #[]); letGo old.toList.reverse; Builtin.List.listExtendWith (.ref s.heap.objs.size) (.ref I) .none) _ _ _;refine wpAny_bind (listItems_at hl rfl ?_);refine wpAny_bind (listUpdate_at hl rfl ?_ (by show 0 <= sizeLine; omega) (by show 0 <= sizeLine + 1; omega));refine wpAny_bind (wpAny_letGo ?_);have hl2 := Heap.get?_update_self (Obj.mapSeq (fun _ => (#[] : Array Value))) hl rfl;have oth : ∀ b o, b ≠ s.heap.objs.size -> (s.heap.push { cls := .type "list", data := .seq #[] }).get? b = some o -> ((s.heap.push { cls := .type "list", data := .seq #[] }).update s.heap.objs.size (Obj.mapSeq (fun _ => (#[] : Array Value)))).get? b = some o :=
  fun b o hb e => (Heap.get?_update_other _ _ (Ne.symm hb)).trans e
 refine rv_extend W hT s.heap.objs.size .none _ (W.frame 0 _ _ s.toks st1 (Nat.le_refl _) fun b hb o e => oth b o (fun h => hL (h ▸ hb)) e) hL hI hl2 (fun z as k1 m z1 z2 => ?_) hn;exact ⟨rfl, hQ z as k1 (Moved.trans W.gtrans ((Moved.refl W.grefl).then_heap (Nat.le_refl _) fun b o hb e => oth b o (fun h => hb (h ▸ List.mem_cons_self)) e) m) z1 z2⟩
end
section
variable {X : Cx}
def tLRev (te : TE) : TE := fun σ H Q => te σ H fun x H1 => ∃ (l : Addr) (xs : List V), x = .ref l /\ H1 l = some (.lst xs) /\ ∀ q, H1 q = none -> Q (.ref q) (upd H1 q (.lst xs.reverse))
theorem rd_lrev {te : TE} {σ : St} {H : Hp} {Q : VK} (h : te σ H fun x H1 => ∃ (l : Addr) (xs : List V), x = .ref l /\ H1 l = some (.lst xs) /\ ∀ q, H1 q = none -> Q (.ref q) (upd H1 q (.lst xs.reverse))) : tLRev te σ H Q := h
theorem pe_lrev {e : Expr} {te : TE} {p1 p2 p3 p4 : Pos} (hc : X.calm = true) (g1 : Gl X "list") (m1 : X.mg "list" = none) (v1 : bootBuiltins "list" = some (.type "list")) (g2 : Gl X "reversed") (m2 : X.mg "reversed" = none) (v2 : bootBuiltins "reversed" = some (.type "reversed")) (he : PE X e te)
  (h1 : starEach [Expr.Call (.Name "reversed" p2) [e] [] p3] X.env = [(false, eval (Expr.Call (.Name "reversed" p2) [e] [] p3) X.env)] := by rfl) (h2 : starEach [e] X.env = [(false, eval e X.env)] := by rfl) :
  PE X (.Call (.Name "list" p1) [.Call (.Name "reversed" p2) [e] [] p3] [] p4) (tLRev te) := by
 intro pins s σ H Q I h;refine wpAny_Call_Name_kw (ld_blt I g1 m1 v1 ?_ (by decide) (by decide));refine PyProof.Rows.callWith_type1 ?_ (by rw [h1]; rfl) rfl;rw [h1];show wpAny _ _ (spliced [(false, eval (Expr.Call (.Name "reversed" p2) [e] [] p3) X.env)]) _ _ s;refine Calls.spliced_cons ?_;refine wpAny_Call_Name_kw (ld_blt I g2 m2 v2 ?_ (by decide) (by decide));refine PyProof.Rows.callWith_type1 ?_ (by rw [h2]; rfl) rfl;rw [h2];show wpAny _ _ (spliced [(false, eval e X.env)]) _ _ s;refine Calls.spliced_cons (thn (he pins s σ H _ I h) fun u s1 ⟨x, H1, I1, r1, l, xs, ex, hl, q⟩ => ?_);subst ex;obtain rfl : u = Value.ref l := r1;obtain ⟨z, its, n, rel, hz, el⟩ := I1.lstM hl;have isl : s1.heap.IsList l its.toArray := ⟨_, el, rfl, _, rfl⟩;refine Calls.spliced_nil (call_reversed_list isl ?_);refine Calls.spliced_nil ?_;have lI : l ≠ s1.heap.objs.size := Nat.ne_of_lt (Heap.lt_size el);have I2 := I1.kept (h' := s1.heap.push (revObj l ((its.toArray.size : Int) - 1))) (t' := s1.toks) fun b ob e => Heap.get?_push_of_some _ e;have hI : (s1.heap.push (revObj l ((its.toArray.size : Int) - 1))).get? s1.heap.objs.size = some (revObj l ((its.toArray.size : Int) - 1)) := Heap.get?_push_size _ rfl;refine rv_list (A := X.A) (W := (Walks.listRev (prog := X.prog) (w := X.w) (A := X.A.in1.in1) (I1.ok.hd hc) s1.heap.objs.size l lI its.toArray).toS) (fun i z st => st.2.1.typeIs) ⟨Nat.zero_le _, ⟨_, hI, rfl, by rw [Int.natCast_zero, Int.sub_zero]; rfl⟩, isl.at fun o e => Heap.get?_push_of_some _ e⟩ ?_ (by simp) ?_ ?_
 ·intro b hb;show b < (s1.heap.push (revObj l ((its.toArray.size : Int) - 1))).objs.size;rcases List.mem_cons.mp hb with rfl | hb
  ·exact Heap.lt_size hI
  ·rw [List.mem_singleton.mp hb];exact Heap.lt_size (Heap.get?_push_of_some _ el)
 ·rw [List.size_toArray, <- rel.length];exact z
 ·intro z2 as k1 m zl zi;have ez : z2 = { s1 with heap := z2.heap, toks := z2.toks } := (Moved.eq_with m).trans rfl
  have kp : ∀ b o, b ∉ [s1.heap.objs.size] -> (s1.heap.push (revObj l ((its.toArray.size : Int) - 1))).get? b = some o -> z2.heap.get? b = some o := fun b o hb e => by
   refine m.heap b o (fun hm => ?_) (Heap.get?_push_of_some _ e);rcases List.mem_cons.mp hm with rfl | hm
   ·exact Nat.lt_irrefl _ (Heap.lt_size e)
   ·exact hb hm
  have vr : Vals xs.reverse as.toList := by
   have ea : as.toList = its.reverse := by
    refine List.ext_getElem? fun i => ?_
    by_cases hi : i < its.length
    ·have hia : i < as.size := by rw [zi.1, List.size_toArray]; exact hi
     have e1 := zi.2 i as[i] (Array.getElem?_eq_getElem hia);rw [Array.getElem?_toList, Array.getElem?_eq_getElem hia, List.getElem?_reverse hi, <- e1, List.getElem?_toArray, List.size_toArray]
    ·rw [List.getElem?_eq_none (by rw [Array.length_toList, zi.1, List.size_toArray]; omega), List.getElem?_eq_none (by rw [List.length_reverse]; omega)]
   rw [ea];exact rel.reverse
  refine ⟨.ref (s1.heap.push (revObj l ((its.toArray.size : Int) - 1))).objs.size, _, ?_, rfl, q _ (I2.hok.fresh (Nat.le_refl _))⟩;rw [ez];refine I2.turnedNew (ch := [s1.heap.objs.size]) (ob := .lst xs.reverse) kp ?_ (Nat.le_refl _) ⟨by rw [List.length_reverse]; exact z, as.toList, k1, vr, by simpa using zl⟩;intro b hb;rw [List.mem_singleton.mp hb];exact I1.fpOk (Nat.le_refl _) (I1.hok.fresh (Nat.le_refl _))
end
end L2
namespace L2
open PySem PySem.Spec PyProof.Rows
def Rise (xs : Array Nat) : Prop := xs.toList.Pairwise (· < ·)
theorem Rise.lt {xs : Array Nat} (h : Rise xs) {i k : Nat} (hk : k < xs.size) (hik : i < k) : xs[i] < xs[k] := by
 have := List.pairwise_iff_getElem.mp h i k (by rw [Array.length_toList]; omega) (by rw [Array.length_toList]; exact hk) hik;simpa using this
theorem go_below {xs : Array Nat} {j : Nat} (h : Rise xs) : ∀ (f lo hi : Nat), hi - lo <= f -> lo <= hi -> hi <= xs.size -> (∀ i (hi : i < xs.size), i < lo -> xs[i] < j) -> (∀ i (hh : i < xs.size), hi <= i -> j <= xs[i]) ->
  SetTable.below.go xs j f lo hi <= xs.size /\ (∀ i (hh : i < xs.size), i < SetTable.below.go xs j f lo hi -> xs[i] < j) /\ ∀ i (hh : i < xs.size), SetTable.below.go xs j f lo hi <= i -> j <= xs[i]
 | 0, lo, hi, hf, hl, hs, a, b => by
  unfold SetTable.below.go;have e : lo = hi := by omega
  subst e;exact ⟨hs, a, b⟩
 | f + 1, lo, hi, hf, hl, hs, a, b => by
  unfold SetTable.below.go
  by_cases c : lo < hi
  ·rw [if_pos c];have hm : (lo + hi) / 2 < xs.size := by omega
   have eg : xs.getD ((lo + hi) / 2) j = xs[(lo + hi) / 2] := by simp [Array.getD, hm]
   dsimp only;rw [eg]
   by_cases q : xs[(lo + hi) / 2] < j
   ·rw [if_pos q];refine go_below h f _ _ (by omega) (by omega) hs (fun i hi' z => ?_) b
    by_cases e : i = (lo + hi) / 2
    ·subst e; exact q
    ·exact Nat.lt_trans (h.lt hm (by omega)) q
   ·rw [if_neg q];refine go_below h f _ _ (by omega) (by omega) (by omega) a (fun i hi' z => ?_)
    by_cases e : i = (lo + hi) / 2
    ·subst e; omega
    ·have := h.lt hi' (show (lo + hi) / 2 < i by omega);omega
  ·rw [if_neg c];have e : lo = hi := by omega
   subst e;exact ⟨hs, a, b⟩
theorem below_ok {xs : Array Nat} (h : Rise xs) (j : Nat) : SetTable.below xs j <= xs.size /\ (∀ i (hh : i < xs.size), i < SetTable.below xs j -> xs[i] < j) /\ ∀ i (hh : i < xs.size), SetTable.below xs j <= i -> j <= xs[i] :=
 go_below h xs.size 0 xs.size (by omega) (by omega) (Nat.le_refl _) (fun i _ z => by omega) (fun i hh z => by omega)
theorem below_next {xs : Array Nat} (h : Rise xs) {i : Nat} (hi : i < xs.size) : SetTable.below xs (xs[i] + 1) = i + 1 := by
 obtain ⟨b1, b2, b3⟩ := below_ok h (xs[i] + 1)
 by_cases c : SetTable.below xs (xs[i] + 1) <= i
 ·have := b3 i hi c;omega
 ·by_cases d : i + 1 < SetTable.below xs (xs[i] + 1)
  ·have h1 := b2 (i + 1) (by omega) d;have h2 := h.lt (show i + 1 < xs.size by omega) (show i < i + 1 by omega);omega
  ·omega
theorem below_zero {xs : Array Nat} (h : Rise xs) : SetTable.below xs 0 = 0 := by
 obtain ⟨b1, b2, b3⟩ := below_ok h 0
 by_cases c : SetTable.below xs 0 = 0
 ·exact c
 ·have := b2 0 (by omega) (by omega);omega
theorem insert_list {α : Type} (xs : Array α) (p : Nat) (x : α) : (SetTable.insertAt xs p x).toList = xs.toList.take p ++ x :: xs.toList.drop p := by
 unfold SetTable.insertAt;rw [Array.toList_append, Array.toList_push, Array.toList_extract, Array.toList_extract, List.append_assoc];simp [List.extract_eq_drop_take];rw [List.take_of_length_le];simp
def Free (t : SetTable) (j : Nat) : Prop := (t.place[SetTable.below t.place j]? == some j) = false
theorem put_rise {t : SetTable} (h : Rise t.place) {j : Nat} (hj : Free t j) : Rise (t.put j).1.place := by
 obtain ⟨b1, b2, b3⟩ := below_ok h j;unfold SetTable.put Rise;dsimp only;rw [insert_list];unfold Free at hj;have hs : t.place.toList = t.place.toList.take (SetTable.below t.place j) ++ t.place.toList.drop (SetTable.below t.place j) := (List.take_append_drop _ _).symm;have h0 : (t.place.toList.take (SetTable.below t.place j) ++ t.place.toList.drop (SetTable.below t.place j)).Pairwise (· < ·) := by rw [<- hs]; exact h
 rw [List.pairwise_append] at h0 ⊢;have hlo : ∀ a ∈ t.place.toList.take (SetTable.below t.place j), a < j := fun a ha => by
  obtain ⟨i, hi, rfl⟩ := List.mem_take_iff_getElem.mp ha;have := b2 i (by rw [Array.length_toList] at hi; omega) (by omega);simpa using this
 have hhi : ∀ a ∈ t.place.toList.drop (SetTable.below t.place j), j < a := fun a ha => by
  obtain ⟨i, hi, rfl⟩ := List.mem_drop_iff_getElem.mp ha;rw [Array.length_toList] at hi;have h1 := b3 (SetTable.below t.place j + i) (by omega) (by omega);rw [Array.getElem_toList]
  by_cases e : i = 0
  ·subst e;have hne : t.place[SetTable.below t.place j]'(by omega) ≠ j := fun z => by
    rw [Array.getElem?_eq_getElem (by omega), z] at hj;simp at hj
   have h1 := b3 (SetTable.below t.place j) (by omega) (Nat.le_refl _);simp only [Nat.add_zero];omega
  ·have h2 := h.lt (show SetTable.below t.place j + i < t.place.size by omega) (show SetTable.below t.place j < SetTable.below t.place j + i by omega);have h3 := b3 (SetTable.below t.place j) (by omega) (Nat.le_refl _);omega
 refine ⟨h0.1, List.pairwise_cons.mpr ⟨hhi, h0.2.1⟩, fun a ha b hb => ?_⟩;rcases List.mem_cons.mp hb with rfl | hb
 ·exact hlo a ha
 ·exact h0.2.2 a ha b hb
theorem probe_free {t : SetTable} {hh : Nat -> Int} {h : Int} : ∀ (f : Nat) (p : SetTable.Probe) (j : Nat) (dm : Option Nat), (∀ d, p.dummy = some d -> Free t d) -> SetTable.probe.go t hh h f p = some (.empty j dm) -> Free t (dm.getD j)
 | 0, _, _, _, _, e => by simp [SetTable.probe.go] at e
 | f + 1, p, j, dm, hd, e => by
  unfold SetTable.probe.go at e;cases hs : t.slot p.j with
  | empty =>
   rw [hs] at e;simp only [Option.some.injEq, SetTable.Met.empty.injEq] at e;obtain ⟨rfl, rfl⟩ := e;cases hq : p.dummy with
   | some d => exact hd d hq
   | none =>
    unfold SetTable.slot at hs;dsimp only at hs;unfold Free;show (t.place[SetTable.below t.place p.j]? == some p.j) = false;cases hb : (t.place[SetTable.below t.place p.j]? == some p.j) with
    | false => rfl
    | true => rw [hb] at hs; simp at hs
  | dummy =>
   rw [hs] at e;refine probe_free f _ j dm (fun d z => ?_) e;have z : (some p.j : Option Nat) = some d := by
    rw [<- z];unfold SetTable.advance;dsimp only
    split <;> rfl
   cases z;unfold SetTable.slot at hs;dsimp only at hs;unfold Free;cases hb : (t.place[SetTable.below t.place p.j]? == some p.j) with
   | false => rfl
   | true => rw [hb] at hs; simp at hs
  | live i =>
   rw [hs] at e;dsimp only at e
   split at e
   ·cases e
   ·refine probe_free f _ j dm (fun d z => hd d ?_) e;rw [<- z];unfold SetTable.advance
    split <;> rfl
theorem range_rise (n : Nat) : Rise (Array.range n) := by
 unfold Rise;rw [Array.toList_range];exact List.pairwise_lt_range
theorem lay_rise {t : SetTable} {es : Array (Int × Value)} {h : Int} {x : Value} (r : Rise t.place) : Rise (layNew t es h x).2.1.place /\ (layNew t es h x).2.1.led = t.led := by
 unfold layNew;cases hf : t.freeSlot h with
 | none => exact ⟨range_rise _, rfl⟩
 | some sd =>
  obtain ⟨slot, wd⟩ := sd;dsimp only;unfold SetTable.orStandIn;have fr : Free t slot := by
   unfold SetTable.freeSlot at hf
   split at hf
   ·rename_i j dm hp;cases hf;exact probe_free _ _ j dm (fun d z => by cases z) hp
   ·cases hf
  split
  ·exact ⟨put_rise r fr, rfl⟩
  ·exact ⟨range_rise _, rfl⟩
theorem relay_rise {t : SetTable} {es : Array (Int × Value)} {n : Nat} : Rise (relayAll t es n).2.1.place /\ (relayAll t es n).2.1.led = t.led := by
 unfold relayAll;cases hr : t.relaid (es.map (·.1)) n with
 | none => exact ⟨range_rise _, rfl⟩
 | some q =>
  obtain ⟨t', order⟩ := q;dsimp only
  split
  ·unfold SetTable.relaid SetTable.laid at hr;cases hl : SetTable.layClean (SetTable.sizeAbove n - 1) (es.map (·.1)) with
   | none => rw [hl] at hr; cases hr
   | some owner =>
    rw [hl] at hr;cases hr;refine ⟨?_, rfl⟩;unfold Rise;dsimp only;rw [List.pairwise_map];refine List.Pairwise.filterMap _ (fun a a' haa b hb b' hb' => ?_) List.pairwise_lt_range;cases ho : owner.getD a none with
    | none => rw [ho] at hb; cases hb
    | some u =>
     cases ho' : owner.getD a' none with
     | none => rw [ho'] at hb'; cases hb'
     | some u' =>
      rw [ho] at hb;rw [ho'] at hb';cases hb;cases hb';exact haa
  ·exact ⟨range_rise _, rfl⟩
end L2
namespace L2
open PySem PySem.Spec PyProof.Rows
def iv : Value -> Int
 | .int n _ => n
 | _ => 0
section
variable {P : Program} {w : World} {A : Around} {E : Value -> Shared -> Prop} {s : Shared} {a : Addr} {led : Bool} {ns : List Int}
def EsOk (P : Program) (w : World) (led : Bool) (ns : List Int) (es : Array (Int × Value)) (t : SetTable) : Prop :=
 ElemsOf (PySem.intKind P w) es.toList /\ es.size < scanBound /\ t.fits es.size = true /\ (es.toList.map fun e => iv e.2).Perm ns /\ Rise t.place /\ t.led = led
def SO (P : Program) (w : World) (h : Heap) (a : Addr) (led : Bool) (ns : List Int) : Prop := ∃ o es ep t, h.get? a = some o /\ o.ExactSet /\ o.data = .set es ep t /\ EsOk P w led ns es t
theorem SO.at {h h' : Heap} (x : SO P w h a led ns) (k : ∀ o, h.get? a = some o -> h'.get? a = some o) : SO P w h' a led ns := let ⟨o, es, ep, t, e, r⟩ := x; ⟨o, es, ep, t, k o e, r⟩
theorem isInt_iv {k : Int} {v : Value} (h : Value.isInt k v = true) : iv v = k := by
 obtain ⟨t, rfl⟩ := Value.isInt_shape h;rfl
theorem EsOk.mem {es : Array (Int × Value)} {t : SetTable} (h : EsOk P w led ns es t) (k : Int) : k ∈ ns ↔ ∃ e ∈ es.toList, (PySem.intKind P w).is k e.2 = true := by
 obtain ⟨h1, _, _, h4, _⟩ := h;rw [<- h4.mem_iff, List.mem_map];constructor
 ·rintro ⟨e, he, rfl⟩;obtain ⟨⟨k', hk, _⟩, _⟩ := h1 e he;refine ⟨e, he, ?_⟩;rw [isInt_iv hk];exact hk
 ·rintro ⟨e, he, hk⟩;exact ⟨e, he, isInt_iv hk⟩
theorem store_at {o : Obj} {es es' : Array (Int × Value)} {ep : Nat} {t t' : SetTable} {Q : Unit -> Shared -> Prop} (ho : s.heap.get? a = some o) (hx : o.ExactSet) (hd : o.data = .set es ep t) (hk : EsOk P w led ns es' t')
  (q : ∀ h' o', h'.get? a = some o' -> o'.ExactSet -> o'.data = .set es' (ep + 1) t' -> Heap.SameBut a s.heap h' -> Q () { s with heap := h' }) : wpAny (model P w) A (storeSet a es' t') Q E s := by
 refine wpAny_storeSet_of ho hd ?_ (fits_of_scanBound hk.2.1);have g := Heap.get?_update_self (Obj.putSet es' t') ho (by rw [putSet_of es' t' hd]; rfl);rw [putSet_of es' t' hd] at g;exact q _ _ g hx rfl (Heap.SameBut.update _ _ _)
theorem so_add {k : Int} {tk : Tok} {Q : Bool -> Shared -> Prop} (x : SO P w s.heap a led ns) (room : ns.length + 1 < scanBound) (q : ∀ b h', Heap.SameBut a s.heap h' -> SO P w h' a led (if k ∈ ns then ns else ns ++ [k]) -> Q b { s with heap := h' }) :
  wpAny (model P w) A (setAddHashed a (.int k tk) (hashInt k)) Q E s := by
 obtain ⟨o, es, ep, t, ho, hx, hd, ok⟩ := x;obtain ⟨el, sb, fi, pm, ri, hl⟩ := id ok;have hkey : (PySem.intKind P w).is k (.int k tk) = true := intKind_is _ _ _ _;have hsc : (Value.int k tk).scannable = true := rfl;unfold setAddHashed;refine wpAny_holding ?_;unfold setAddHashedIn;refine wpAny_bind (wpAny_setState_of ho hd fi ?_);dsimp only;rw [byScan_of (knd := PySem.intKind P w) hsc sb el, if_pos rfl];unfold setAddByScan;refine wpAny_bind ?_;refine wpAny_bind (wpAny_rule ?_);refine wpAny_bind (wpAny_setScan_of (knd := PySem.intKind P w) (k := k) hkey ho hd fi el ?_);have hm := ok.mem k;cases hr : List.findIdx? (fun e => (PySem.intKind P w).is k e.2) es.toList with
 | some j =>
  dsimp only;obtain ⟨hj, hpj, _⟩ := List.findIdx?_eq_some_iff_getElem.mp hr;have hin : k ∈ ns := hm.mpr ⟨es.toList[j], List.getElem_mem hj, hpj⟩;refine wpAny_pure (wpAny_pure ?_);exact q false s.heap (Heap.SameBut.refl a s.heap) (by rw [if_pos hin]; exact ⟨o, es, ep, t, ho, hx, hd, ok⟩)
 | none =>
  dsimp only;have hin : ¬ k ∈ ns := fun z => by
   obtain ⟨e, he, hp⟩ := hm.mp z;have := List.findIdx?_eq_none_iff.mp hr e he;rw [hp] at this;cases this
  rw [if_neg hin] at q;have ns1 : ns.length = es.size := by rw [<- pm.length_eq, List.length_map, Array.length_toList]
  have p1 := layNew_perm t es (hashInt k) (.int k tk);have f1 := layNew_fits t es (hashInt k) (.int k tk);have r1 := lay_rise (es := es) (h := hashInt k) (x := .int k tk) ri;generalize layNew t es (hashInt k) (.int k tk) = L at p1 f1 r1 ⊢;obtain ⟨es1, t1, wd, gave⟩ := L;dsimp only at p1 f1 r1 ⊢;rw [Array.toList_push] at p1;have ok1 : EsOk P w led (ns ++ [k]) es1 t1 := by
   refine ⟨(el.push (knd := PySem.intKind P w) hkey hsc).perm p1, ?_, f1, ?_, r1.1, r1.2.trans hl⟩
   ·rw [<- Array.length_toList, p1.length_eq, List.length_append, Array.length_toList];simp only [List.length_cons, List.length_nil];omega
   ·refine (p1.map _).trans ?_;rw [List.map_append];exact pm.append_right _
  have gw : ∀ (b : Bool) {s1 : Shared} {Q' : Unit -> Shared -> Prop}, Q' () s1 -> wpAny (model P w) A (match b with | true => rule "set.scan.the-table-gave-way" | false => pure ()) Q' E s1 := fun b s1 Q' z => by
   cases b
   ·exact wpAny_pure z
   ·exact wpAny_rule z
  refine wpAny_bind (gw _ ?_);have ok2 : EsOk P w led (ns ++ [k]) es1 (if true = true then t1 else { t1 with plain := false }) := ok1
  have fin : wpAny (model P w) A (do
    storeSet a es1 t1
    if (!wd && t1.tooFull) = true then
     let (es, t, gave) := relayAll t1 es1 (SetTable.grown es1.size)
     (match gave with | true => rule "set.scan.the-table-gave-way" | false => pure ())
     storeSet a es t
     pure (some true)
    else pure (some true)) (fun (r : Option Bool) s' => r = some true /\ Q true s') E s := by
   refine wpAny_bind (store_at ho hx hd ok1 fun h1 o1 g1 x1 d1 b1 => ?_)
   split
   ·have p2 := relayAll_perm t1 es1 (SetTable.grown es1.size);have f2 := relayAll_fits t1 es1 (SetTable.grown es1.size);have r2 := relay_rise (t := t1) (es := es1) (n := SetTable.grown es1.size);generalize relayAll t1 es1 (SetTable.grown es1.size) = L at p2 f2 r2 ⊢;obtain ⟨es2, t2, gave2⟩ := L;dsimp only at p2 f2 r2 ⊢;have ok3 : EsOk P w led (ns ++ [k]) es2 t2 := ⟨ok1.1.perm p2, by rw [<- Array.length_toList, p2.length_eq, Array.length_toList]; exact ok1.2.1, f2, (p2.map _).trans ok1.2.2.2.1, r2.1, r2.2.trans ok1.2.2.2.2.2⟩;refine wpAny_bind (gw _ ?_);refine wpAny_bind (store_at (s := { s with heap := h1 }) g1 x1 d1 ok3 fun h2 o2 g2 x2 d2 b2 => ?_)
    exact wpAny_pure ⟨rfl, q true h2 (b1.trans b2) ⟨o2, es2, _, t2, g2, x2, d2, ok3⟩⟩
   ·exact wpAny_pure ⟨rfl, q true h1 b1 ⟨o1, es1, _, t1, g1, x1, d1, ok1⟩⟩
  have fin2 := fun (R : Option Bool -> Shared -> Prop) (h : ∀ s', Q true s' -> R (some true) s') => thn fin (Q' := R) fun r s' ⟨e, z⟩ => by rw [e]; exact h s' z
  split
  ·rename_i hpl;refine wpAny_bind ?_;rw [hashByValue_scannable 8 hsc];refine wpAny_pure ?_;exact fin2 _ fun s' z => wpAny_pure z
  ·refine wpAny_bind (wpAny_pure ?_);exact fin2 _ fun s' z => wpAny_pure z
end
end L2
namespace L2
open PySem PySem.Spec PyProof.Rows
def dd (val : Nat -> Int) : Nat -> List Int
 | 0 => []
 | i + 1 => if val i ∈ dd val i then dd val i else dd val i ++ [val i]
theorem dd_mem (val : Nat -> Int) (x : Int) : ∀ n, x ∈ dd val n ↔ ∃ i, i < n /\ x = val i
 | 0 => by simp [dd]
 | n + 1 => by
  have ih := dd_mem val x n;unfold dd;constructor
  ·intro h
   split at h
   ·obtain ⟨i, hi, e⟩ := ih.mp h;exact ⟨i, by omega, e⟩
   ·rcases List.mem_append.mp h with h | h
    ·obtain ⟨i, hi, e⟩ := ih.mp h;exact ⟨i, by omega, e⟩
    ·exact ⟨n, by omega, by simpa using h⟩
  ·rintro ⟨i, hi, rfl⟩
   by_cases e : i = n
   ·subst e
    split
    ·assumption
    ·simp
   ·have := ih.mpr ⟨i, by omega, rfl⟩
    split
    ·exact this
    ·exact List.mem_append_left _ this
theorem dd_nodup (val : Nat -> Int) : ∀ n, (dd val n).Nodup
 | 0 => by simp [dd]
 | n + 1 => by
  have ih := dd_nodup val n;unfold dd
  split
  ·exact ih
  ·rename_i h;rw [List.nodup_append];refine ⟨ih, by simp, fun a ha b hb e => h ?_⟩;have hb : b = val n := by simpa using hb
   rw [<- hb, <- e];exact ha
theorem len_sub : ∀ (l m : List Int), l.Nodup -> (∀ x ∈ l, x ∈ m) -> l.length <= m.length
 | [], m, _, _ => Nat.zero_le _
 | a :: l, m, nd, h => by
  have ha := h a (by simp);rw [List.nodup_cons] at nd;have := len_sub l (m.erase a) nd.2 fun x hx => (List.mem_erase_of_ne fun e => nd.1 (by rw [<- e]; exact hx)).mpr (h x (by simp [hx]));rw [List.length_erase_of_mem ha] at this;have := List.length_pos_of_mem ha;rw [List.length_cons];omega
theorem dd_len {val : Nat -> Int} (h : ∀ i, 0 <= val i /\ val i <= 12) (n : Nat) : (dd val n).length <= 13 := by
 have nd := dd_nodup val n;have sub : ∀ x ∈ dd val n, x ∈ (List.range 13).map fun i : Nat => (i : Int) := fun x hx => by
  obtain ⟨i, _, rfl⟩ := (dd_mem val x n).mp hx;have := h i;exact List.mem_map.mpr ⟨(val i).toNat, List.mem_range.mpr (by omega), by omega⟩
 have := len_sub _ _ nd sub;simpa using this
section
variable {P : Program} {w : World} {A : Around} {s : Shared} {a : Addr} {led : Bool} {ns : List Int}
variable {R : Result -> Shared -> Prop} {I : Addr} {fp wr : List Addr} {G : Array GenState -> Array GenState -> Prop} {n : Nat} {Pr : Nat -> Value -> Prop} {St : Nat -> Shared -> Prop}
theorem so_loop (W : WalksS P w A.in1 I fp wr G n Pr St) (S : Addr) (hS : S ∉ fp) (val : Nat -> Int) (hv : ∀ i v, Pr i v -> ∃ t, v = .int (val i) t) (ub : ∀ i, (dd val i).length + 1 < scanBound) :
  ∀ (k i : Nat) (s : Shared), n - i = k -> i <= n -> St i s -> SO P w s.heap S led (dd val i) -> (∀ z, Moved (S :: wr) G s z -> SO P w z.heap S led (dd val n) -> R (.ok (.ret .none)) z) ->
   codeAny (model P w) A (.builtin "set.update.loop" ⟨[.ref S, .ref I], []⟩) R s := by
 have nw : S ∉ wr := fun h => hS (W.sub _ h);have up : ∀ b ∈ wr, b ∈ S :: wr := fun b z => List.mem_cons_of_mem _ z;intro k
 induction k with
 | zero =>
  intro i s e hi st so q;obtain rfl : i = n := by omega
  refine codeAny_builtin PyProof.Rows.F.entry_set_update_loop ?_;rw [Around.under_plainId PyProof.Rows.F.plain_set_update_loop _];show wpAny _ A.in1 (pyNext (.ref I) >>= _) _ _ s;refine wpAny_bind (W.done s _ _ st fun z m => ?_);show wpAny _ A.in1 (ret Value.none) _ _ z;exact wpAny_pure (q z (m.mono up) (so.at fun o e => m.heap S o nw e))
 | succ k ih =>
  intro i s e hi st so q;refine codeAny_builtin PyProof.Rows.F.entry_set_update_loop ?_;rw [Around.under_plainId PyProof.Rows.F.plain_set_update_loop _];show wpAny _ A.in1 (pyNext (.ref I) >>= _) _ _ s;refine wpAny_bind (W.item i s _ _ (by omega) st fun v z p st' m => ?_);obtain ⟨t, rfl⟩ := hv i v p;show wpAny _ A.in1 (holding [Value.int (val i) t] (setAdd S (.int (val i) t)) >>= _) _ _ z;refine wpAny_bind (wpAny_holding ?_);unfold setAdd;refine wpAny_holding ?_;refine wpAny_bind ((PySem.intKind P w).pyHash (k := val i) (intKind_is _ _ _ _) ?_);refine so_add (s := { z with toks := z.toks + 1 }) (so.at fun o e => m.heap S o nw e) (ub i) fun b h' sb so2 => ?_
  refine wpAny_pure ⟨plainId_quiet PyProof.Rows.F.plain_set_update_loop _, ih (i + 1) _ (by omega) (by omega) (W.frame _ z _ _ st' (Nat.le_succ _) fun c hc o e => ?_) so2 fun y m2 so3 => ?_⟩
  ·rw [sb.2 c (fun h : c = S => hS (by rw [<- h]; exact hc))];exact e
  ·refine q y (Moved.trans W.gtrans ((m.mono up).then_heap (Nat.le_succ _) fun c o hc e => ?_) m2) so3;rw [sb.2 c (fun h : c = S => hc (by rw [h]; exact List.mem_cons_self))];exact e
end
section
variable {P : Program} {w : World} {A : Around} {E : Value -> Shared -> Prop} {s : Shared}
def ledW (w : World) : Bool := !w.params.followText "set-order"
def newSetO (w : World) : Obj := { cls := .type "set", dict := none, data := .set #[] 0 (.fresh 0 0 (ledW w)) }
theorem so_new (x : Value) {Q1 : Value -> Shared -> Prop} (h : Q1 (.ref s.heap.objs.size) { s with heap := s.heap.push (newSetO w) }) : codeAny (model P w) A (.call (.builtin "set.__new__") ⟨[.type "set", x], []⟩) (wants Q1 E) s := by
 refine codeAny_of_tree ?_;show wpAny _ A.in1 (do checkBuiltinCall "set.__new__" ⟨[.type "set", x], []⟩; again (.builtin "set.__new__" ⟨[.type "set", x], []⟩)) _ _ s;refine wpAny_bind (wpAny_of_eq (PySem.F.newCall_set_1 x) (wpAny_pure ⟨plainId_quiet PySem.F.plain_set_new _, codeAny_builtin PySem.F.entry_set_new ?_⟩));rw [Around.under_plainId PySem.F.plain_set_new _];unfold Builtin.«set.__new__» Builtin.Frozenset.newClass;have hsub := sub_set_self;obtain ⟨hp, g, d, tk, os⟩ := s;dsimp only
 wp_walk
 refine wpAny_askSetting (wpAny_pure ?_);dsimp only;simp only [newObj];refine wpAny_bind (wpAny_alloc (wpAny_pure ?_));exact wpAny_pure h
end
end L2
namespace L2
open PySem PySem.Spec PyProof.Rows
section
variable {P : Program} {w : World} {A : Around} {E : Value -> Shared -> Prop} {s : Shared}
theorem so_call {l : Addr} {its : Array Value} {val : Nat -> Int} {Q : Value -> Shared -> Prop} (hh : A.handled = none) (hl : s.heap.IsList l its) (hv : ∀ (i : Nat) (v : Value), its[i]? = some v -> ∃ t, v = Value.int (val i) t) (ub : ∀ i, (dd val i).length + 1 < scanBound)
  (q : ∀ (h' : Heap) (tk : Nat), SO P w h' s.heap.objs.size (ledW w) (dd val its.size) -> (∀ b o, s.heap.get? b = some o -> h'.get? b = some o) -> Q (.ref s.heap.objs.size) { s with heap := h', toks := tk }) :
  wpAny (model P w) A (call (.type "set") [.ref l]) Q E s := by
 obtain ⟨c, tl, hmro⟩ := PySem.F.called_set.mro;have hmade := PySem.F.called_set.made;have hsub := PySem.F.called_set.sub;refine wpAny_call (codeAny_of_tree ?_);show wpAny _ _ (callAny (.type "set") _) _ _ _;refine wpAny_pure ⟨Code.quiet_builtin _ (by decide +kernel), codeAny_builtin PySem.F.entry_type_call ?_⟩;rw [Around.under_plain (weight_type_call_type "set" [.ref l] []) rfl];have h1 := PySem.F.called_set.notType;have h2 := PySem.F.called_set.canCreate;have hct := PySem.F.typeCall_set_1 (.ref l);repeat (any_goals (first | assumption | wp_step))
 refine codeAny_mono (so_new (.ref l) (E := E) (Q1 := fun ob z => ob = .ref s.heap.objs.size /\ z = { s with heap := s.heap.push (newSetO w) }) ⟨rfl, rfl⟩) fun r z hr => ?_
 cases r with
 | error e => exact hr
 | ok fl =>
  cases fl with
  | ret ob =>
   obtain ⟨rfl, rfl⟩ := hr;have gS : (s.heap.push (newSetO w)).get? s.heap.objs.size = some (newSetO w) := Heap.get?_push_size _ rfl;have hT : Shared.TypeIs { s with heap := s.heap.push (newSetO w) } (.ref s.heap.objs.size) "set" := ⟨_, gS, rfl⟩
   have hli := PySem.F.called_set.init.lookup;have hbi := PySem.F.called_set.init.bind (.ref s.heap.objs.size);repeat (any_goals (first | assumption | wp_step))
   refine codeAny_mono (codeAny_call_builtin (R := wants (fun r z => r = .none /\ ∃ h' tk, z = { s with heap := h', toks := tk } /\ SO P w h' s.heap.objs.size (ledW w) (dd val its.size) /\ ∀ b o, s.heap.get? b = some o -> h'.get? b = some o) E) PySem.F.called_set.init.plain PySem.F.entry_set_init (check_set_init_1 hT ?_)) fun r2 z2 hr2 => ?_
   ·obtain ⟨ol, hol, hcl, nl, hdl⟩ := hl;obtain ⟨ocls, odict, odata, oslots⟩ := ol;simp only at hcl hdl;subst hcl;subst hdl;have hol' : (s.heap.push (newSetO w)).get? l = some { cls := .type "list", dict := odict, data := .seq its nl, slots := oslots } := Heap.get?_push_of_some _ hol;have hsls := PySem.F.sub_list_set;have hslf := PySem.F.sub_list_frozenset;have hne : (Value.type "list" == Value.type "dict") = false := by decide
    have hl1 : (s.heap.push (newSetO w)).IsList l its := ⟨_, hol', rfl, nl, rfl⟩;unfold Builtin.«set.__init__» noKeywords Builtin.Frozenset.updateFrom;generalize hPI : pyIter = PI
    wp_walk
    subst hPI;refine wpAny_pyIter_list hl1 ?_;refine wpAny_bind (wpAny_runValue ?_);have lS : l < s.heap.objs.size := Heap.lt_size hol;have h3 : A.in1.in1.in1.handled = none := by simp [hh]
    have nI : l ≠ (s.heap.push (newSetO w)).objs.size := by
     rw [Heap.size_push];exact Nat.ne_of_lt (Nat.lt_succ_of_lt lS)
    have nS : s.heap.objs.size ∉ [(s.heap.push (newSetO w)).objs.size, l] := by
     rw [Heap.size_push];simp only [List.mem_cons, List.not_mem_nil, or_false, not_or];exact ⟨Nat.ne_of_lt (Nat.lt_succ_self _), Nat.ne_of_gt lS⟩
    refine so_loop (P := P) (w := w) (led := ledW w) ((Walks.list h3 _ l nI its).toS) s.heap.objs.size nS val hv ub (its.size - 0) 0 _ (by omega) (Nat.zero_le _) ⟨⟨_, Heap.get?_push_size _ rfl, rfl, rfl⟩, (hl1.push _)⟩ ?hS0 ?hR
    case hS0 =>
     exact ⟨newSetO w, #[], 0, .fresh 0 0 (ledW w), Heap.get?_push_of_some _ gS, ⟨rfl, rfl, rfl⟩, rfl, (fun e he => by simp at he), (by show 0 < 4096; decide), rfl, List.Perm.nil, List.Pairwise.nil, rfl⟩
    case hR =>
     intro z m so;obtain ⟨h', g', d', tk', os'⟩ := z;have eg : g' = s.gens := m.gens;have ed : d' = s.drawn := m.drawn;have eo : os' = s.os := m.os;subst eg;subst ed;subst eo;show wpAny _ _ _ _ _ _;refine wpAny_pure ?_;show wpAny _ _ (ret Value.none) _ _ _;refine wpAny_pure ⟨rfl, h', tk', rfl, so, fun b o e => ?_⟩;have hb := Heap.lt_size e;refine m.heap b o ?_ (Heap.get?_push_of_some _ (Heap.get?_push_of_some _ e));rw [Heap.size_push];simp only [List.mem_cons, List.not_mem_nil, or_false, not_or];exact ⟨Nat.ne_of_lt hb, Nat.ne_of_lt (Nat.lt_succ_of_lt hb)⟩
   ·cases r2 with
    | error e => exact hr2
    | ok fl2 =>
     cases fl2 with
     | ret r =>
      obtain ⟨rfl, h', tk, rfl, so, kp⟩ := hr2;repeat (any_goals (first | assumption | wp_step))
      exact q _ _ so kp
     | _ => exact hr2.elim
  | _ => exact hr.elim
end
end L2
namespace L2
open PySem PySem.Spec PyProof.Rows
theorem own_si : Manifest.owners.lookup (String.ofList ['r', 'o', 't', 'a', 'r', 'e', 't', 'i', '_', 't', 'e', 's'].reverse) = some Manifest.sig_set_iterator := by kernel_rfl
theorem si_next : Slot "set_iterator" "__next__" "set_iterator.__next__" :=
 .of (owner := "set_iterator") (n := "__next__") (by rw [typeLookup_type, builtinLookup_eq_fast]; kernel_rfl) (by decide +kernel) (by decide +kernel) (by decide +kernel) (by first | exact .inl (by decide +kernel) | exact .inr (by decide +kernel)) (by rw [isSubtype_type]; kernel_rfl)
theorem si_nextE : entryFor table "set_iterator.__next__" = some Builtin.«set_iterator.__next__» := entryFor_of_tree (by kernel_rfl)
theorem si_nextA (a : Value) : argsOk "set_iterator.__next__" ⟨[a], []⟩ := by
 unfold argsOk;rw [signature?_of (id := "set_iterator.__next__") (n := ['_', '_', 't', 'x', 'e', 'n', '_', '_']) (o := ['r', 'o', 't', 'a', 'r', 'e', 't', 'i', '_', 't', 'e', 's']) (by kernel_rfl) own_si]
 kernel_rfl
theorem si_iter : Slot "set_iterator" "__iter__" "set_iterator.__iter__" :=
 .of (owner := "set_iterator") (n := "__iter__") (by rw [typeLookup_type, builtinLookup_eq_fast]; kernel_rfl) (by decide +kernel) (by decide +kernel) (by decide +kernel) (by first | exact .inl (by decide +kernel) | exact .inr (by decide +kernel)) (by rw [isSubtype_type]; kernel_rfl)
theorem si_iterA (a : Value) : argsOk "set_iterator.__iter__" ⟨[a], []⟩ := by
 unfold argsOk;rw [signature?_of (id := "set_iterator.__iter__") (n := ['_', '_', 'r', 'e', 't', 'i', '_', '_']) (o := ['r', 'o', 't', 'a', 'r', 'e', 't', 'i', '_', 't', 'e', 's']) (by kernel_rfl) own_si]
 kernel_rfl
theorem si_iterE : entryFor table "set_iterator.__iter__" = some Builtin.«dict_keyiterator.__iter__» :=
 entryFor_alias (id' := "dict_keyiterator.__iter__") (by kernel_rfl) (by first | rfl | decide +kernel | (unfold String.splitOn; simp +decide [String.splitOnAux])) (by decide +kernel) (by kernel_rfl)
theorem set_iterE : entryFor table "set.__iter__" = some Builtin.«frozenset.__iter__» := entryFor_alias (id' := "frozenset.__iter__") (by kernel_rfl) rfl (by decide +kernel) (by kernel_rfl)
section
variable {P : Program} {w : World} {A : Around} {E : Value -> Shared -> Prop} {s : Shared} {S I : Addr}
def IsSI (h : Heap) (I : Addr) (fs : Array Value) : Prop := ∃ o, h.get? I = some o /\ o.cls = .type "set_iterator" /\ o.data = .fields fs
theorem IsSI.ty {fs : Array Value} (x : IsSI s.heap I fs) : s.TypeIs (.ref I) "set_iterator" := let ⟨o, e, c, _⟩ := x; ⟨o, e, c⟩
theorem IsSI.at {h h' : Heap} {fs : Array Value} (x : IsSI h I fs) (k : ∀ o, h.get? I = some o -> h'.get? I = some o) : IsSI h' I fs := let ⟨o, e, r⟩ := x; ⟨o, k o e, r⟩
theorem si_set {fs : Array Value} {i : Nat} {v : Value} {Q : Unit -> Shared -> Prop} (x : IsSI s.heap I fs) (hi : i < fs.size) (q : ∀ h', IsSI h' I (fs.setIfInBounds i v) -> Heap.SameBut I s.heap h' -> Q () { s with heap := h' }) : wpAny (model P w) A (setField (.ref I) i v) Q E s := by
 obtain ⟨o, e, c, d⟩ := x;refine wpAny_setField e d hi (q _ ?_ (Heap.SameBut.update ..));exact ⟨_, Heap.get?_update_self _ e (Obj.isFreed_of_fields (Obj.data_mapFields d _)), (Obj.cls_mapFields ..).trans c, Obj.data_mapFields d _⟩
theorem si_self {fs : Array Value} {Q : Value -> Shared -> Prop} (x : IsSI s.heap I fs) (q : Q (.ref I) s) : wpAny (model P w) A (pyIter (.ref I)) Q E s := by
 refine wpAny_pyIter_slot x.ty si_iter (wpAny_call_entry si_iter x.ty si_iterE ?_ (si_iterA _));show wpAny _ _ (ret (.ref I)) _ _ s;exact wpAny_pure ⟨_, rfl, "set_iterator", _, x.ty, si_next.lookup, q⟩
end
end L2
namespace L2
open PySem PySem.Spec PyProof.Rows
section
variable {P : Program} {w : World} {A : Around} {E : Value -> Shared -> Prop} {s : Shared} {S I : Addr}
structure SetAt (h : Heap) (S : Addr) (es : Array (Int × Value)) (ep : Nat) (t : SetTable) : Prop where
 ex : ∃ o, h.get? S = some o /\ o.ExactSet /\ o.data = .set es ep t
 fit : t.fits es.size = true
theorem SetAt.at {h h' : Heap} {es : Array (Int × Value)} {ep : Nat} {t : SetTable} (x : SetAt h S es ep t) (k : ∀ o, h.get? S = some o -> h'.get? S = some o) : SetAt h' S es ep t := let ⟨⟨o, e, r⟩, f⟩ := x; ⟨⟨o, k o e, r⟩, f⟩
theorem SetAt.st {es : Array (Int × Value)} {ep : Nat} {t : SetTable} {Q : (Array (Int × Value) × Nat × SetTable) -> Shared -> Prop} (x : SetAt s.heap S es ep t) (q : Q (es, ep, t) s) : wpAny (model P w) A (setState S) Q E s := by
 obtain ⟨⟨o, e, c, d⟩, f⟩ := x;exact wpAny_setState_of e d f q
def Nx (P : Program) (w : World) (S : Addr) (es : Array (Int × Value)) (ep : Nat) (t : SetTable) (ys : List Value) (slot : Nat -> Nat) : Prop :=
 ∀ (A : Around) (E : Value -> Shared -> Prop) (s : Shared) (Q : Option (Value × Nat) -> Shared -> Prop) (i : Nat), i <= ys.length -> SetAt s.heap S es ep t -> Q ((ys[i]?).map fun v => (v, slot (i + 1))) s -> wpAny (model P w) A (setNext S (slot i) i ep) Q E s
def fA (slot i : Nat) (S : Addr) (n ep : Nat) : Array Value := #[rawInt (slot : Int), rawInt (i : Int), .ref S, rawInt (n : Int), rawInt (ep : Int)]
theorem siA_item {es : Array (Int × Value)} {ep i : Nat} {t : SetTable} {ys : List Value} {slot : Nat -> Nat} {v : Value} {Q : Option Value -> Shared -> Prop} (nx : Nx P w S es ep t ys slot) (sa : SetAt s.heap S es ep t) (x : IsSI s.heap I (fA (slot i) i S es.size ep)) (hv : ys[i]? = some v)
  (q : ∀ h', IsSI h' I (fA (slot (i + 1)) (i + 1) S es.size ep) -> Heap.SameBut I s.heap h' -> Q (some v) { s with heap := h' }) : wpAny (model P w) A (pyNext (.ref I)) Q E s := by
 obtain ⟨o, e, c, d⟩ := id x;unfold pyNext;refine wpAny_bind (wpAny_attempt (wpAny_callSpecial?_slot (name := Str.ofString "__next__") x.ty si_next (wpAny_call_entry si_next x.ty si_nextE ?_ (si_nextA _))));unfold Builtin.«set_iterator.__next__»;refine wpAny_bind (wpAny_of_eq (a := (Value.ref I, [])) rfl ?_);try dsimp only
 refine wpAny_bind (wpAny_fieldsOf e d ?_);show wpAny _ _ (setEntries S >>= _) _ _ s;unfold setEntries;refine wpAny_bind (wpAny_bind (sa.st (wpAny_pure ?_)));dsimp only;rw [if_neg (by simp)];show wpAny _ _ (setNext S ((slot i : Nat) : Int).toNat ((i : Nat) : Int).toNat ((ep : Nat) : Int).toNat >>= _) _ _ s;rw [Int.toNat_natCast, Int.toNat_natCast, Int.toNat_natCast];refine wpAny_bind (nx _ _ s _ i (Nat.le_of_lt (List.getElem?_eq_some_iff.mp hv).1) sa ?_);rw [hv];dsimp only [Option.map_some];refine wpAny_bind (si_set x (by show 0 < 5; decide) fun h1 x1 b1 => ?_);refine wpAny_bind (si_set (s := { s with heap := h1 }) x1 (by simp [fA]) fun h2 x2 b2 => ?_)
 refine wpAny_pure ⟨v, rfl, wpAny_pure (q h2 ?_ (b1.trans b2))⟩;exact x2
theorem siA_end {es : Array (Int × Value)} {ep i : Nat} {t : SetTable} {ys : List Value} {slot : Nat -> Nat} {Q : Option Value -> Shared -> Prop} (hh : A.handled = none) (nx : Nx P w S es ep t ys slot) (sa : SetAt s.heap S es ep t) (x : IsSI s.heap I (fA (slot i) i S es.size ep)) (hv : ys[i]? = none) (hi : i <= ys.length)
  (q : ∀ h', Heap.ExtBut I s.heap h' -> Q none { s with heap := h' }) : wpAny (model P w) A (pyNext (.ref I)) Q E s := by
 obtain ⟨o, e, c, d⟩ := id x;unfold pyNext;refine wpAny_bind (wpAny_attempt (wpAny_callSpecial?_slot (name := Str.ofString "__next__") x.ty si_next (wpAny_call_entry si_next x.ty si_nextE ?_ (si_nextA _))));unfold Builtin.«set_iterator.__next__»;refine wpAny_bind (wpAny_of_eq (a := (Value.ref I, [])) rfl ?_);try dsimp only
 refine wpAny_bind (wpAny_fieldsOf e d ?_);show wpAny _ _ (setEntries S >>= _) _ _ s;unfold setEntries;refine wpAny_bind (wpAny_bind (sa.st (wpAny_pure ?_)));dsimp only;rw [if_neg (by simp)];show wpAny _ _ (setNext S ((slot i : Nat) : Int).toNat ((i : Nat) : Int).toNat ((ep : Nat) : Int).toNat >>= _) _ _ s;rw [Int.toNat_natCast, Int.toNat_natCast, Int.toNat_natCast];refine wpAny_bind (nx _ _ s _ i hi sa ?_);rw [hv];dsimp only [Option.map_none];refine wpAny_bind (si_set x (by show 2 < 5; decide) fun h1 x1 b1 => ?_);refine wpAny_bind ?_;simp only [newExc, newTuple];refine wpAny_bind (wpAny_newObj_type ?_ (by size_fits));refine wpAny_bind (m := firstArgMember _ _) (wpAny_of_eq (a := Value.none) (by first | rfl | (simp only [firstArgMember]; rfl)) ?_);refine wpAny_newObj_type ?_ (by size_fits);simp only [raiseNew];refine wpAny_bind (wpAny_handled ?_);rw [show A.in1.handled = none from hh];refine wpAny_bind (wpAny_pure (wpAny_throw ?_));refine wpAny_bind (wpAny_isInstance (T := "StopIteration") (b := true) ⟨_, Heap.get?_push_size _ rfl, rfl⟩ isSubtype_stop ?_);exact wpAny_pure (q _ ((b1.extBut.push _).push _))
end
end L2
namespace L2
open PySem PySem.Spec PyProof.Rows
section
variable {P : Program} {w : World} {A : Around} {E : Value -> Shared -> Prop} {s : Shared} {S I : Addr}
def IsT (h : Heap) (T : Addr) (vs : Array Value) : Prop := ∃ o n, h.get? T = some o /\ o.data = .seq vs n
def fB (T : Addr) (i : Nat) (S : Addr) (n ep : Nat) : Array Value := #[.ref T, rawInt (i : Int), .ref S, rawInt (n : Int), rawInt (ep : Int)]
def pls (ps : List Nat) : Array Value := (ps.map fun (k : Nat) => rawInt (k : Int)).toArray
theorem pls_at (ps : List Nat) (i : Nat) : (pls ps)[i]? = (ps[i]?).map fun (k : Nat) => rawInt (k : Int) := by
 unfold pls;rw [List.getElem?_toArray, List.getElem?_map]
theorem siB_item {es : Array (Int × Value)} {ep i p : Nat} {t : SetTable} {ps : List Nat} {T : Addr} {e : Int × Value} {Q : Option Value -> Shared -> Prop} (sa : SetAt s.heap S es ep t) (x : IsSI s.heap I (fB T i S es.size ep)) (ht : IsT s.heap T (pls ps)) (hp : ps[i]? = some p) (hv : es[p]? = some e)
  (q : ∀ h', IsSI h' I (fB T (i + 1) S es.size ep) -> Heap.SameBut I s.heap h' -> Q (some e.2) { s with heap := h' }) : wpAny (model P w) A (pyNext (.ref I)) Q E s := by
 obtain ⟨o, eo, c, d⟩ := id x;obtain ⟨oT, nT, eT, dT⟩ := ht;unfold pyNext;refine wpAny_bind (wpAny_attempt (wpAny_callSpecial?_slot (name := Str.ofString "__next__") x.ty si_next (wpAny_call_entry si_next x.ty si_nextE ?_ (si_nextA _))));unfold Builtin.«set_iterator.__next__»;refine wpAny_bind (wpAny_of_eq (a := (Value.ref I, [])) rfl ?_);try dsimp only
 refine wpAny_bind (wpAny_fieldsOf eo d ?_);show wpAny _ _ (setEntries S >>= _) _ _ s;unfold setEntries;refine wpAny_bind (wpAny_bind (sa.st (wpAny_pure ?_)));dsimp only;rw [if_neg (by simp)];refine wpAny_bind (wpAny_seqItems eT dT ?_);show wpAny _ _ (match (pls ps)[((i : Nat) : Int).toNat]? with | some (.int place _) => _ | some _ => _ | none => _) _ _ s
 rw [Int.toNat_natCast, pls_at, hp];show wpAny _ _ (setNextDrawn S ((p : Nat) : Int).toNat ((ep : Nat) : Int).toNat >>= _) _ _ s;rw [Int.toNat_natCast, Int.toNat_natCast];unfold setNextDrawn;refine wpAny_bind (wpAny_bind (sa.st ?_));dsimp only;rw [if_neg (by simp), hv];refine wpAny_pure ?_;refine wpAny_bind (si_set x (by show 1 < 5; decide) fun h1 x1 b1 => ?_);exact wpAny_pure ⟨e.2, rfl, wpAny_pure (q h1 x1 b1)⟩
theorem siB_end {es : Array (Int × Value)} {ep i : Nat} {t : SetTable} {ps : List Nat} {T : Addr} {Q : Option Value -> Shared -> Prop} (hh : A.handled = none) (sa : SetAt s.heap S es ep t) (x : IsSI s.heap I (fB T i S es.size ep)) (ht : IsT s.heap T (pls ps)) (hp : ps[i]? = none)
  (q : ∀ h', Heap.ExtBut I s.heap h' -> Q none { s with heap := h' }) : wpAny (model P w) A (pyNext (.ref I)) Q E s := by
 obtain ⟨o, eo, c, d⟩ := id x;obtain ⟨oT, nT, eT, dT⟩ := ht;unfold pyNext;refine wpAny_bind (wpAny_attempt (wpAny_callSpecial?_slot (name := Str.ofString "__next__") x.ty si_next (wpAny_call_entry si_next x.ty si_nextE ?_ (si_nextA _))));unfold Builtin.«set_iterator.__next__»;refine wpAny_bind (wpAny_of_eq (a := (Value.ref I, [])) rfl ?_);try dsimp only
 refine wpAny_bind (wpAny_fieldsOf eo d ?_);show wpAny _ _ (setEntries S >>= _) _ _ s;unfold setEntries;refine wpAny_bind (wpAny_bind (sa.st (wpAny_pure ?_)));dsimp only;rw [if_neg (by simp)];refine wpAny_bind (wpAny_seqItems eT dT ?_);show wpAny _ _ (match (pls ps)[((i : Nat) : Int).toNat]? with | some (.int place _) => _ | some _ => _ | none => _) _ _ s
 rw [Int.toNat_natCast, pls_at, hp];try dsimp only [Option.map_none]
 refine wpAny_bind (si_set x (by show 0 < 5; decide) fun h1 x1 b1 => ?_);refine wpAny_bind (si_set (s := { s with heap := h1 }) x1 (by simp [fB]) fun h2 x2 b2 => ?_)
 refine wpAny_bind ?_;simp only [newExc, newTuple];refine wpAny_bind (wpAny_newObj_type ?_ (by size_fits));refine wpAny_bind (m := firstArgMember _ _) (wpAny_of_eq (a := Value.none) (by first | rfl | (simp only [firstArgMember]; rfl)) ?_);refine wpAny_newObj_type ?_ (by size_fits);simp only [raiseNew];refine wpAny_bind (wpAny_handled ?_);rw [show A.in1.handled = none from hh];refine wpAny_bind (wpAny_pure (wpAny_throw ?_));refine wpAny_bind (wpAny_isInstance (T := "StopIteration") (b := true) ⟨_, Heap.get?_push_size _ rfl, rfl⟩ isSubtype_stop ?_);exact wpAny_pure (q _ (((b1.trans b2).extBut.push _).push _))
theorem walkA {es : Array (Int × Value)} {ep : Nat} {t : SetTable} {ys : List Value} {slot : Nat -> Nat} (hh : A.handled = none) (hne : S ≠ I) (nx : Nx P w S es ep t ys slot) :
  Walks P w A I [I, S] [I] ys.length (fun i v => ys[i]? = some v) (fun i h => IsSI h I (fA (slot i) i S es.size ep) /\ SetAt h S es ep t) where
 sub := fun b hb => by simp at hb; simp [hb]
 frame := fun _ _ _ st hk => ⟨st.1.at fun o e => hk I (by simp) o e, st.2.at fun o e => hk S (by simp) o e⟩
 item := fun i s Q E hi st hQ => by
  have hv : ys[i]? = some ys[i] := List.getElem?_eq_getElem hi;exact siA_item nx st.2 st.1 hv fun h' x' b' => hQ _ h' s.toks hv ⟨x', st.2.at fun o e => (b'.2 S hne).trans e⟩ fun b o hb e => b'.extBut b o (fun h => hb (by simp [h])) e
 done := fun s Q E st hQ => siA_end hh nx st.2 st.1 (List.getElem?_eq_none (Nat.le_refl _)) (Nat.le_refl _) fun h' b' => hQ h' s.toks fun b o hb e => b' b o (fun h => hb (by simp [h])) e
 self := fun _ _ _ _ st hQ => si_self st.1 hQ
theorem walkB {es : Array (Int × Value)} {ep : Nat} {t : SetTable} {ps : List Nat} {T : Addr} (hh : A.handled = none) (hne : S ≠ I) (hnT : T ≠ I) (hp : ∀ p ∈ ps, p < es.size) :
  Walks P w A I [I, S, T] [I] ps.length (fun i v => ∃ (p : Nat) (e : Int × Value), ps[i]? = some p /\ es[p]? = some e /\ v = e.2) (fun i h => IsSI h I (fB T i S es.size ep) /\ SetAt h S es ep t /\ IsT h T (pls ps)) where
 sub := fun b hb => by simp at hb; simp [hb]
 frame := fun _ _ _ st hk => ⟨st.1.at fun o e => hk I (by simp) o e, st.2.1.at fun o e => hk S (by simp) o e, let ⟨o, n, e, d⟩ := st.2.2; ⟨o, n, hk T (by simp) o e, d⟩⟩
 item := fun i s Q E hi st hQ => by
  have hv : ps[i]? = some ps[i] := List.getElem?_eq_getElem hi;have hlt := hp ps[i] (List.getElem_mem hi);have he : es[ps[i]]? = some es[ps[i]] := Array.getElem?_eq_getElem hlt;refine siB_item st.2.1 st.1 st.2.2 hv he fun h' x' b' => hQ _ h' s.toks ?_ ⟨x', st.2.1.at fun o e => (b'.2 S hne).trans e, let ⟨o, n, e, d⟩ := st.2.2; ⟨o, n, (b'.2 T hnT).trans e, d⟩⟩ fun b o hb e => b'.extBut b o (fun h => hb (by simp [h])) e;exact ⟨_, _, hv, he, rfl⟩
 done := fun s Q E st hQ => siB_end hh st.2.1 st.1 st.2.2 (List.getElem?_eq_none (Nat.le_refl _)) fun h' b' => hQ h' s.toks fun b o hb e => b' b o (fun h => hb (by simp [h])) e
 self := fun _ _ _ _ st hQ => si_self st.1 hQ
end
end L2
namespace L2
open PySem PySem.Spec PyProof.Rows
theorem erase_perm {α : Type} : ∀ {l : List α} {i : Nat} (h : i < l.length), (l[i] :: l.eraseIdx i).Perm l
 | [], i, h => absurd h (by simp)
 | a :: l, 0, _ => List.Perm.refl _
 | a :: l, i + 1, h => by
  have h' : i < l.length := by simpa using h
  show (l[i] :: a :: l.eraseIdx i).Perm (a :: l);exact (List.Perm.swap _ _ _).trans ((erase_perm h').cons a)
theorem pick_go {α : Type} (next : Nat -> Nat) : ∀ (f k : Nat) (left : List α) (out : Array α), f = left.length -> (pickOrder.go next f k left out).toList.Perm (out.toList ++ left)
 | 0, k, left, out, h => by
  have e : left = [] := List.length_eq_zero_iff.mp h.symm;subst e;unfold pickOrder.go;rw [List.append_nil]
 | f + 1, k, left, out, h => by
  unfold pickOrder.go;have hl : next k % left.length < left.length := Nat.mod_lt _ (by omega);rw [List.getElem?_eq_getElem hl];dsimp only;refine (pick_go next f (k + 1) _ _ (by rw [List.length_eraseIdx_of_lt hl]; omega)).trans ?_;rw [Array.toList_push, List.append_assoc];exact List.Perm.append_left _ (erase_perm hl)
theorem pick_perm {α : Type} (next : Nat -> Nat) (xs : Array α) : (pickOrder next xs).toList.Perm xs.toList := by
 have := pick_go next xs.size 0 xs.toList #[] (by rw [Array.length_toList]);simpa [pickOrder] using this
section
variable {P : Program} {w : World} {A : Around} {E : Value -> Shared -> Prop} {s : Shared} {S I : Addr}
theorem by_text {Q : Bool -> Shared -> Prop} (q : Q (w.params.followText "set-order") s) : wpAny (model P w) A setsByText Q E s := by
 unfold setsByText;exact wpAny_bind (wpAny_askSetting (wpAny_pure q))
theorem nx_text {es : Array (Int × Value)} {ep : Nat} {t : SetTable} (bt : w.params.followText "set-order" = true) : Nx P w S es ep t ((pickOrder (w.params.setOrder S ep) es).toList.map (·.2)) (fun _ => 0) := by
 intro A E s Q i hi sa q;unfold setNext;refine wpAny_bind (sa.st ?_);dsimp only;refine wpAny_bind (by_text ?_);rw [bt, if_pos rfl, if_neg (by simp)];unfold setWalk;refine wpAny_bind (wpAny_bind (sa.st ?_));dsimp only;refine wpAny_bind (by_text ?_);rw [bt, if_pos rfl];refine wpAny_bind (wpAny_askSetting (wpAny_pure (wpAny_pure ?_)));have e : ((pickOrder (w.params.setOrder S ep) es)[i]?).map (fun e => (e.2, 0)) = ((((pickOrder (w.params.setOrder S ep) es).toList.map (·.2))[i]?).map fun v => (v, 0)) := by
  rw [List.getElem?_map, Array.getElem?_toList];cases (pickOrder (w.params.setOrder S ep) es)[i]? <;> rfl
 exact e ▸ q
def slotOf (t : SetTable) : Nat -> Nat
 | 0 => 0
 | i + 1 => match t.place[i]? with
  | some j => j + 1
  | none => 0
theorem slot_succ {t : SetTable} {i : Nat} (h : i < t.place.size) : slotOf t (i + 1) = t.place[i] + 1 := by
 show (match t.place[i]? with | some j => j + 1 | none => 0) = _
 rw [Array.getElem?_eq_getElem h]
theorem nx_slot {es : Array (Int × Value)} {ep : Nat} {t : SetTable} (bt : w.params.followText "set-order" = false) (hr : Rise t.place) (hf : t.fits es.size = true) (hl : t.led = true) (hd : (!t.plain && decide (es.size > 1)) = false) : Nx P w S es ep t (es.toList.map (·.2)) (slotOf t) := by
 intro A E s Q i hi sa q;have sz : t.place.size = es.size := by
  simp only [SetTable.fits, Bool.and_eq_true, beq_iff_eq] at hf;exact hf.1
 unfold setNext;refine wpAny_bind (sa.st ?_);dsimp only;refine wpAny_bind (by_text ?_);rw [bt, if_neg (by decide)];show wpAny _ _ (if (!t.plain && decide (es.size > 1)) = true then _ else _) _ _ s;rw [hd, if_neg (by decide)];refine wpAny_bind ?_;show wpAny _ _ (if (!t.led && !es.isEmpty) = true then _ else pure ()) _ _ s;rw [hl, if_neg (by simp)];refine wpAny_pure (wpAny_pure ?_);rw [List.length_map, Array.length_toList] at hi;have eb : SetTable.below t.place (slotOf t i) = i := by
  cases i with
  | zero => exact below_zero hr
  | succ i =>
   rw [slot_succ (show i < t.place.size by omega)];exact below_next hr (by omega)
 rw [eb];rw [List.getElem?_map, Array.getElem?_toList] at q
 by_cases hlt : i < es.size
 ·rw [Array.getElem?_eq_getElem hlt, Array.getElem?_eq_getElem (show i < t.place.size by omega)];rw [Array.getElem?_eq_getElem hlt] at q;rw [slot_succ (show i < t.place.size by omega)] at q;exact q
 ·have e1 : es[i]? = none := Array.getElem?_eq_none (by omega);rw [e1] at q ⊢;exact q
theorem draw_order {α : Type} : ∀ (n : Nat) (xs : List α) (s : Shared) (Q : List α -> Shared -> Prop), n = xs.length -> (∀ l d, l.Perm xs -> Q l { s with drawn := d }) -> wpAny (model P w) A (drawOrder n xs) Q E s
 | 0, xs, s, Q, h, q => by
  have e : xs = [] := List.length_eq_zero_iff.mp h.symm;subst e;unfold drawOrder;exact wpAny_pure (q [] s.drawn List.Perm.nil)
 | n + 1, [], s, Q, h, q => by simp at h
 | n + 1, x :: xs, s, Q, h, q => by
  unfold drawOrder;refine wpAny_bind ?_;have ch : ∀ (Q' : Nat -> Shared -> Prop), (∀ i d, i < (x :: xs).length -> Q' i { s with drawn := d }) -> wpAny (model P w) A (choose .order (x :: xs).length) Q' E s := fun Q' z => by
   intro Γ p hΓ;show Sem.wp _ Γ (Sem.choose .order (x :: xs).length Sem.pure) _ _ p s;rw [Sem.wp_choose];refine ⟨by simp, ?_⟩;rw [Sem.wp_pure];exact z _ _ (Nat.mod_lt _ (by simp))
  refine ch _ fun i d hi => ?_;rw [List.getElem?_eq_getElem hi];dsimp only;refine wpAny_bind (draw_order n ((x :: xs).eraseIdx i) _ _ (by rw [List.length_eraseIdx_of_lt hi]; simp at h ⊢; omega) fun l d' hp => wpAny_pure ?_);exact q _ d' ((hp.cons _).trans (erase_perm hi))
end
end L2
namespace L2
open PySem PySem.Spec PyProof.Rows
section
variable {P : Program} {w : World} {A : Around} {E : Value -> Shared -> Prop} {s : Shared} {S I : Addr}
def Wk (P : Program) (w : World) (es : Array (Int × Value)) (S : Addr) (lo : Nat) (I : Addr) (z : Shared) : Prop :=
 ∃ (fp : List Addr) (n : Nat) (Pr : Nat -> Value -> Prop) (St : Nat -> Heap -> Prop), n = es.size /\ (∀ A : Around, A.handled = none -> Walks P w A I fp [I] n Pr St) /\ St 0 z.heap /\ (∀ b ∈ fp, b < z.heap.objs.size /\ (b = S ∨ lo <= b)) /\ I ∈ fp /\ ∀ acc : Array Value, ItemsOf Pr acc n -> acc.toList.Perm (es.toList.map (·.2))
theorem set_ty {es : Array (Int × Value)} {ep : Nat} {t : SetTable} (sa : SetAt s.heap S es ep t) : s.TypeIs (.ref S) "set" := let ⟨⟨o, e, x, _⟩, _⟩ := sa; ⟨o, e, x.1⟩
theorem items_eq {ys : List Value} {acc : Array Value} (h : ItemsOf (fun i v => ys[i]? = some v) acc ys.length) : acc.toList = ys := by
 refine List.ext_getElem? fun i => ?_
 by_cases hi : i < acc.size
 ·rw [Array.getElem?_toList, Array.getElem?_eq_getElem hi];exact (h.2 i _ (Array.getElem?_eq_getElem hi)).symm
 ·rw [List.getElem?_eq_none (by rw [Array.length_toList]; omega), List.getElem?_eq_none (by have := h.1; omega)]
theorem set_iter {es : Array (Int × Value)} {ep : Nat} {t : SetTable} {Q : Value -> Shared -> Prop} (sa : SetAt s.heap S es ep t) (hr : Rise t.place) (hl : t.led = ledW w) (hz : es.size < scanBound)
  (q : ∀ (I : Addr) (h' : Heap) (d : Drawn), s.heap.objs.size <= I -> (∀ b o, s.heap.get? b = some o -> h'.get? b = some o) -> Wk P w es S s.heap.objs.size I { s with heap := h', drawn := d } -> Q (.ref I) { s with heap := h', drawn := d }) : wpAny (model P w) A (pyIter (.ref S)) Q E s := by
 refine wpAny_pyIter_slot (set_ty sa) PySem.F.slot_set_iter (wpAny_call_entry PySem.F.slot_set_iter (set_ty sa) set_iterE ?_ (PySem.F.args_set_iter_1 _));have hS : S < s.heap.objs.size := let ⟨⟨o, e, _⟩, _⟩ := sa; Heap.lt_size e;unfold Builtin.«frozenset.__iter__»;refine wpAny_bind (wpAny_of_eq (a := S) rfl ?_);unfold Builtin.Frozenset.sizeOf setEntries;refine wpAny_bind (wpAny_bind (wpAny_bind (sa.st (wpAny_pure (wpAny_pure ?_)))));dsimp only;unfold setDrawn;refine wpAny_bind (wpAny_bind (sa.st ?_));dsimp only;refine wpAny_bind (by_text (wpAny_pure ?_))
 by_cases hd : (!w.params.followText "set-order" && (!t.plain && decide (es.size > 1))) = true
 ·show wpAny _ _ (if (!w.params.followText "set-order" && (!t.plain && decide (es.size > 1))) = true then _ else _) _ _ _;rw [if_pos hd];refine wpAny_bind (draw_order _ _ _ _ (by rw [List.length_range]) fun ps d hp => ?_);refine wpAny_bind ?_;unfold newTuple;have hlen : ps.length = es.size := by rw [hp.length_eq, List.length_range]
  refine wpAny_newObj_type ?_ ?_
  ·have gT : (s.heap.push { cls := .type "tuple", data := .seq (pls ps) }).get? s.heap.objs.size = some { cls := .type "tuple", data := .seq (pls ps) } := Heap.get?_push_size _ rfl;have sa1 : SetAt (s.heap.push { cls := .type "tuple", data := .seq (pls ps) }) S es ep t := sa.at fun o e => Heap.get?_push_of_some _ e;refine wpAny_bind ?_;unfold setEpoch;refine wpAny_bind (SetAt.st (s := { s with heap := s.heap.push { cls := .type "tuple", data := .seq (pls ps) }, drawn := d }) sa1 (wpAny_pure ?_))
   refine wpAny_bind ?_;unfold newFields;refine wpAny_newObj_type ?_ ?_
   ·refine wpAny_pure ⟨_, rfl, "set_iterator", _, ⟨_, Heap.get?_push_size _ rfl, rfl⟩, si_next.lookup, ?_⟩;refine q (s.heap.push { cls := .type "tuple", data := .seq (pls ps) }).objs.size ((s.heap.push { cls := .type "tuple", data := .seq (pls ps) }).push { cls := .type "set_iterator", data := .fields (fB s.heap.objs.size 0 S es.size ep) }) d (by rw [Heap.size_push]; exact Nat.le_succ _) (fun b o e => Heap.get?_push_of_some _ (Heap.get?_push_of_some _ e)) ?_;have nS : S ≠ (s.heap.push { cls := .type "tuple", data := .seq (pls ps) }).objs.size := by rw [Heap.size_push]; exact Nat.ne_of_lt (Nat.lt_succ_of_lt hS)
    have nT : s.heap.objs.size ≠ (s.heap.push { cls := .type "tuple", data := .seq (pls ps) }).objs.size := by rw [Heap.size_push]; exact Nat.ne_of_lt (Nat.lt_succ_self _)
    have mem : ∀ p ∈ ps, p < es.size := fun p h => List.mem_range.mp (hp.mem_iff.mp h);refine ⟨_, ps.length, _, _, hlen, fun A hh => walkB (t := t) (ep := ep) hh nS nT mem, ⟨⟨_, Heap.get?_push_size _ rfl, rfl, rfl⟩, sa1.at fun o e => Heap.get?_push_of_some _ e, ⟨_, _, Heap.get?_push_of_some _ gT, rfl⟩⟩, fun b hb => ?_, by simp, fun acc ha => ?_⟩
    ·show b < ((s.heap.push _).push _).objs.size /\ _;rw [Heap.size_push, Heap.size_push];simp only [List.mem_cons, List.not_mem_nil, or_false] at hb;rcases hb with rfl | rfl | rfl
     ·rw [Heap.size_push]; exact ⟨Nat.lt_succ_self _, .inr (Nat.le_succ _)⟩
     ·exact ⟨Nat.lt_succ_of_lt (Nat.lt_succ_of_lt hS), .inl rfl⟩
     ·exact ⟨Nat.lt_succ_of_lt (Nat.lt_succ_self _), .inr (Nat.le_refl _)⟩
    ·have e1 : acc.toList = ps.map fun p => (es.getD p (0, .none)).2 := by
      refine List.ext_getElem? fun i => ?_
      by_cases hi : i < acc.size
      ·obtain ⟨p, e, h1, h2, h3⟩ := ha.2 i _ (Array.getElem?_eq_getElem hi);rw [Array.getElem?_toList, Array.getElem?_eq_getElem hi, List.getElem?_map, h1, h3];simp [h2, Array.getD_eq_getD_getElem?]
      ·rw [List.getElem?_eq_none (by rw [Array.length_toList]; omega), List.getElem?_eq_none (by rw [List.length_map]; have := ha.1; omega)]
     have e2 : (List.range es.size).map (fun p => (es.getD p (0, .none)).2) = es.toList.map (·.2) := by
      refine List.ext_getElem? fun i => ?_;rw [List.getElem?_map, List.getElem?_map, show es.toList[i]? = es[i]? from Array.getElem?_toList]
      by_cases hi : i < es.size
      ·rw [List.getElem?_range hi, Array.getElem?_eq_getElem hi];simp [Array.getD_eq_getD_getElem?, hi]
      ·rw [List.getElem?_eq_none (by rw [List.length_range]; omega), Array.getElem?_eq_none (by omega)];rfl
     rw [e1, <- e2];exact hp.map _
   ·size_fits
  ·show (List.map (fun (i : Nat) => rawInt (i : Int)) ps).toArray.size <= sizeLine;rw [List.size_toArray, List.length_map, hlen];exact fits_of_scanBound hz
 ·show wpAny _ _ (if (!w.params.followText "set-order" && (!t.plain && decide (es.size > 1))) = true then _ else _) _ _ _;rw [if_neg hd];refine wpAny_bind (wpAny_pure ?_);refine wpAny_bind ?_;unfold setEpoch;refine wpAny_bind (sa.st (wpAny_pure ?_));refine wpAny_bind ?_;unfold newFields;refine wpAny_newObj_type ?_ ?_
  ·refine wpAny_pure ⟨_, rfl, "set_iterator", _, ⟨_, Heap.get?_push_size _ rfl, rfl⟩, si_next.lookup, ?_⟩;refine q s.heap.objs.size (s.heap.push { cls := .type "set_iterator", data := .fields (fA 0 0 S es.size ep) }) s.drawn (Nat.le_refl _) (fun b o e => Heap.get?_push_of_some _ e) ?_;have nS : S ≠ s.heap.objs.size := Nat.ne_of_lt hS;have sa1 : SetAt (s.heap.push { cls := .type "set_iterator", data := .fields (fA 0 0 S es.size ep) }) S es ep t := sa.at fun o e => Heap.get?_push_of_some _ e;have fpl : ∀ b ∈ [s.heap.objs.size, S], b < (s.heap.push { cls := .type "set_iterator", data := .fields (fA 0 0 S es.size ep) }).objs.size /\ (b = S ∨ s.heap.objs.size <= b) := fun b hb => by
    rw [Heap.size_push];simp only [List.mem_cons, List.not_mem_nil, or_false] at hb;rcases hb with rfl | rfl
    ·exact ⟨Nat.lt_succ_self _, .inr (Nat.le_refl _)⟩
    ·exact ⟨Nat.lt_succ_of_lt hS, .inl rfl⟩
   cases bt : w.params.followText "set-order" with
   | true =>
    have pp := pick_perm (w.params.setOrder S ep) es;refine ⟨_, _, _, _, ?_, fun A hh => walkA (t := t) hh nS (nx_text bt), ⟨⟨_, Heap.get?_push_size _ rfl, rfl, rfl⟩, sa1⟩, fpl, by simp, fun acc ha => ?_⟩
    ·rw [List.length_map, pp.length_eq, Array.length_toList]
    ·rw [items_eq ha];exact pp.map _
   | false =>
    rw [bt] at hd;refine ⟨_, _, _, _, ?_, fun A hh => walkA (t := t) hh nS (nx_slot bt hr sa.fit (by rw [hl]; unfold ledW; rw [bt]; rfl) (by simpa using hd)), ⟨⟨_, Heap.get?_push_size _ rfl, rfl, rfl⟩, sa1⟩, fpl, by simp, fun acc ha => ?_⟩
    ·rw [List.length_map, Array.length_toList]
    ·rw [items_eq ha]
  ·size_fits
end
end L2
namespace L2
open PySem PySem.Spec PyProof.Rows
section
variable {P : Program} {w : World} {A : Around} {E : Value -> Shared -> Prop} {s : Shared} {S I : Addr}
theorem set_quiet {Q : Bool -> Shared -> Prop} (hT : s.TypeIs (.ref S) "set") (h : Q false s) : wpAny (model P w) A (Builtin.List.listLengthHint (.ref S)) Q E s := by
 unfold Builtin.List.listLengthHint;refine wpAny_bind (wpAny_specialOf hT PySem.F.slot_set_len.lookup ?_);generalize hid : ("set.__len__" : String) = ids
 wp_delta
 rw [show splitId ids = some ("set", "__len__") from by subst hid; decide +kernel];subst hid;refine wpAny_bind (wpAny_isInstance (T := "set") (b := true) hT (by rw [isSubtype_type]; kernel_rfl) ?_);refine wpAny_ite_split (fun z => absurd z (by decide)) (fun _ => ?_);refine wpAny_ite_split (fun _ => ?_) (fun z => absurd (by decide +kernel) z);refine wpAny_bind (wpAny_typeOf hT ?_);exact wpAny_pure h
theorem so_collect {ns : List Int} {Q : List Value -> Shared -> Prop} (hh : A.handled = none) (so : SO P w s.heap S (ledW w) ns)
  (q : ∀ (vs : List Value) (ms : List Int) (h' : Heap) (tk : Nat) (d : Drawn), IntsAre vs ms -> ms.Perm ns -> s.heap.objs.size < h'.objs.size -> (∀ b o, s.heap.get? b = some o -> h'.get? b = some o) -> Q vs { s with heap := h', toks := tk, drawn := d }) : wpAny (model P w) A (collect (.ref S)) Q E s := by
 obtain ⟨o, es, ep, t, ho, hx, hd, el, sb, fi, pm, ri, hl⟩ := so;have hS : S < s.heap.objs.size := Heap.lt_size ho;have sa : SetAt s.heap S es ep t := ⟨⟨o, ho, hx, hd⟩, fi⟩;unfold collect;refine wpAny_bind (wpAny_runValue (codeAny_builtin PySem.F.entry_proto_collect ?_));rw [Around.under_plainId PySem.F.plain_proto_collect _];show wpAny _ A.in1 (newList [] >>= fun l => again (.builtin "list.__iadd__" ⟨[l, .ref S], []⟩)) _ _ s;refine wpAny_bind (wpAny_newObj_type ?_);refine wpAny_pure ⟨plainId_quiet PySem.F.plain_list_iadd _, codeAny_builtin PySem.F.entry_list_iadd ?_⟩;rw [Around.under_plainId PySem.F.plain_list_iadd _];have gL : (s.heap.push { cls := .type "list", data := .seq ([] : List Value).toArray }).get? s.heap.objs.size = some { cls := .type "list", data := .seq ([] : List Value).toArray } := Heap.get?_push_size _ rfl;have sa1 : SetAt (s.heap.push { cls := .type "list", data := .seq ([] : List Value).toArray }) S es ep t := sa.at fun o e => Heap.get?_push_of_some _ e;have nLS : s.heap.objs.size ≠ S := Nat.ne_of_gt hS;have a1 : Builtin.List.listSameRef (.ref s.heap.objs.size) (.ref S) = false := by simp [Builtin.List.listSameRef, nLS]
 show wpAny _ A.in1 (Builtin.List.listExtendWith (.ref s.heap.objs.size) (.ref S) (.ref s.heap.objs.size)) _ _ _;unfold Builtin.List.listExtendWith;refine wpAny_bind (wpAny_typeOf (T := "set") (set_ty (s := { s with heap := s.heap.push { cls := .type "list", data := .seq ([] : List Value).toArray } }) sa1) ?_)
 rw [if_neg (by rw [a1]; decide)];refine wpAny_bind (set_iter (s := { s with heap := s.heap.push { cls := .type "list", data := .seq ([] : List Value).toArray } }) sa1 ri hl sb fun I h1 d hI kp wk => ?_)
 obtain ⟨fp, n, Pr, St, hn, W, st, fpl, hIf, acp⟩ := wk;have sa2 : SetAt h1 S es ep t := sa1.at fun o e => kp S o e;refine wpAny_bind (wpAny_holding (set_quiet (S := S) (set_ty (s := { s with heap := h1, drawn := d }) sa2) ?_))
 rw [if_pos (by decide)];have W1 := W A.in1 hh;have g1 := kp _ _ gL;have hLI : s.heap.objs.size ∉ fp := fun z => by
  rcases (fpl _ z).2 with e | e
  ·exact nLS e
  ·have e : (s.heap.push { cls := .type "list", data := .seq ([] : List Value).toArray }).objs.size <= s.heap.objs.size := e;rw [Heap.size_push] at e;exact Nat.not_succ_le_self _ e
 refine wpAny_bind (wpAny_rule ?_);refine wpAny_bind ?_;show wpAny _ _ (updateSeq s.heap.objs.size (·.push .none) >>= fun _ => updateSeq s.heap.objs.size (·.pop)) _ _ _;refine wpAny_bind (wpAny_updateSeq g1 rfl ?_);have g2 := Heap.get?_update_self (Obj.mapSeq (·.push Value.none)) g1 rfl;refine wpAny_updateSeq (hz := by seq_fits) g2 rfl ?_;have g3 := Heap.get?_update_self (Obj.mapSeq (·.pop)) g2 rfl;have oth : ∀ b o, b ≠ s.heap.objs.size -> h1.get? b = some o -> ((h1.update s.heap.objs.size (Obj.mapSeq (·.push Value.none))).update s.heap.objs.size (Obj.mapSeq (·.pop))).get? b = some o := fun b o hb e => (Heap.get?_update_other _ _ (Ne.symm hb)).trans ((Heap.get?_update_other _ _ (Ne.symm hb)).trans e);refine wpAny_pure ⟨plainId_quiet PySem.F.plain_extend_loop _, codeAny_extend_loopS W1.toS (by rw [hn]; exact fits_of_scanBound sb) _ hLI _ n 0 _ #[] _ rfl (Nat.zero_le _) (W1.frame 0 _ _ st fun b hb o e => oth b o (fun z => hLI (z ▸ hb)) e) g3 (ItemsOf.nil _) fun z acc c' m gz ha => ?_⟩;show wpAny _ A (load s.heap.objs.size >>= _) _ _ z;refine wpAny_bind (wpAny_load gz ?_);have ez : z = { s with heap := z.heap, toks := z.toks, drawn := d } := (Moved.eq_with m).trans rfl
 have pv := acp acc ha;have allI : ∀ l : List Value, (∀ v ∈ l, ∃ k t, v = Value.int k t) -> IntsAre l (l.map iv) := by
  intro l
  induction l with
  | nil => intro _; exact .nil
  | cons v l ih =>
   intro h;obtain ⟨k, t, rfl⟩ := h v (by simp);exact .cons k t (ih fun u hu => h u (by simp [hu]))
 rw [ez];refine wpAny_pure (q acc.toList (acc.toList.map iv) z.heap z.toks d (allI _ fun v hv => ?_) ?_ (Heap.lt_size gz) fun b o e => ?_)
 ·obtain ⟨e, he, rfl⟩ := List.mem_map.mp (pv.mem_iff.mp hv);obtain ⟨⟨k, hk, _⟩, _⟩ := el e he;obtain ⟨t, ht⟩ := Value.isInt_shape hk;exact ⟨k, t, ht⟩
 ·refine (pv.map iv).trans ?_;rw [List.map_map];exact pm
 ·have hb := Heap.lt_size e;refine m.heap b o (fun hm => ?_) (oth b o (Nat.ne_of_lt hb) (kp b o (Heap.get?_push_of_some _ e)));rcases List.mem_cons.mp hm with z | hm
  ·exact Nat.ne_of_lt hb z
  ·rw [List.mem_singleton] at hm;rw [hm] at hb;have : (s.heap.push { cls := .type "list", data := .seq ([] : List Value).toArray }).objs.size <= I := hI;rw [Heap.size_push] at this;exact absurd hb (Nat.not_lt.mpr (Nat.le_trans (Nat.le_succ _) this))
end
end L2
namespace L2
open PySem PySem.Spec PyProof.Rows
section
variable {P : Program} {w : World} {A : Around} {E : Value -> Shared -> Prop} {s : Shared} {S I : Addr}
theorem so_sorted {ns : List Int} {Q : Value -> Shared -> Prop} (hh : A.handled = none) (so : SO P w s.heap S (ledW w) ns) (hz : ns.length < 64)
  (q : ∀ (out : Array Value) (ns' : List Int) (L : Addr) (c : Nat) (h' : Heap) (tk : Nat) (d : Drawn), IntsAre out.toList ns' -> ns'.Perm ns -> ns'.Pairwise (· <= ·) -> s.heap.objs.size <= L -> h'.get? L = some (seqObj "list" out c) -> (∀ b o, s.heap.get? b = some o -> h'.get? b = some o) -> Q (.ref L) { s with heap := h', toks := tk, drawn := d }) :
  wpAny (model P w) A (call (.builtin "sorted") [.ref S]) Q E s := by
 refine Calls.call_function_entry kind_sorted plain_sorted entry_sorted (args_sorted1 _) ?_;unfold Builtin.«sorted»;refine wpAny_bind (m := checkCount "sorted" 1 1 _) (wpAny_pure ?_);refine wpAny_bind (so_collect (by simpa using hh) so fun vs ms h1 tk d hi pm lt1 kp => ?_);have v64 : vs.length < 64 := by
  rw [hi.length, pm.length_eq];exact hz
 have vl : vs.length <= sizeLine := small64 v64;refine wpAny_bind (wpAny_newList (hsz := vl) ?_);have gL : (h1.push (seqObj "list" vs.toArray 0)).get? h1.objs.size = some (seqObj "list" vs.toArray 0) := Heap.get?_push_size _ rfl;have le1 : s.heap.objs.size <= h1.objs.size := Nat.le_of_lt lt1;refine wpAny_bind (wpAny_holding (wpAny_call_entry slot_list_sort ⟨_, gL, rfl⟩ entry_list_sort (list_sort_tree (s := { s with heap := h1.push (seqObj "list" vs.toArray 0), toks := tk, drawn := d }) gL hi v64 fun out ns' a1 a2 a3 => ⟨_, rfl, ?_⟩) (args_list_sort _)))
 obtain ⟨c, g2⟩ := sortedHeap_at (out := out) gL;refine wpAny_pure ⟨_, rfl, q out ns' h1.objs.size c _ tk d a1 (a2.trans pm) a3 le1 g2 fun b o e => ?_⟩;have e1 := kp b o e;have hb := Heap.lt_size e1;rw [sortedHeap_old (Nat.ne_of_lt hb) (by rw [Heap.size_push]; exact Nat.lt_succ_of_lt hb)];exact Heap.get?_push_of_some _ e1
end
section
variable {X : Cx}
theorem Inv.dr {pins : List (Addr × Obj)} {σ : St} {H : Hp} {s : Shared} {d : Drawn} (I : Inv X pins σ H s) : Inv X pins σ H { s with drawn := d } := ⟨I.ok, I.os, I.bare, I.base, I.loc, I.cell, I.free, I.freeC, I.pin, I.hok, I.len⟩
def tSSet (te : TE) : TE := fun σ H Q => te σ H fun x H1 => ∃ (l : Addr) (ns : List Int), x = .ref l /\ H1 l = some (.lst (ns.map V.int)) /\ (∀ n ∈ ns, 0 <= n /\ n <= 12) /\ ∀ (out : List Int) (q : Addr), out.Pairwise (· <= ·) -> out.Nodup -> (∀ x, x ∈ out ↔ x ∈ ns) -> H1 q = none -> Q (.ref q) (upd H1 q (.lst (out.map V.int)))
theorem pe_sset {e : Expr} {te : TE} {p1 p2 p3 p4 : Pos} (hc : X.calm = true) (g1 : Gl X "sorted") (m1 : X.mg "sorted" = none) (v1 : bootBuiltins "sorted" = some (.builtin "sorted")) (g2 : Gl X "set") (m2 : X.mg "set" = none) (v2 : bootBuiltins "set" = some (.type "set")) (he : PE X e te)
  (h1 : starEach [Expr.Call (.Name "set" p2) [e] [] p3] X.env = [(false, eval (Expr.Call (.Name "set" p2) [e] [] p3) X.env)] := by rfl) (h2 : starEach [e] X.env = [(false, eval e X.env)] := by rfl) :
  PE X (.Call (.Name "sorted" p1) [.Call (.Name "set" p2) [e] [] p3] [] p4) (tSSet te) := by
 intro pins s σ H Q I h;refine wpAny_Call_Name_kw (ld_blt I g1 m1 v1 ?_ (by decide) (by decide));refine PyProof.Rows.callWith_builtin1 ?_ (by rw [h1]; rfl) rfl;rw [h1];show wpAny _ _ (spliced [(false, eval (Expr.Call (.Name "set" p2) [e] [] p3) X.env)]) _ _ s;refine Calls.spliced_cons ?_;refine wpAny_Call_Name_kw (ld_blt I g2 m2 v2 ?_ (by decide) (by decide));refine PyProof.Rows.callWith_type1 ?_ (by rw [h2]; rfl) rfl;rw [h2];show wpAny _ _ (spliced [(false, eval e X.env)]) _ _ s;refine Calls.spliced_cons (thn (he pins s σ H _ I h) fun u s1 ⟨x, H1, I1, r1, l, ns, ex, hl, hb, q⟩ => ?_);subst ex;obtain rfl : u = Value.ref l := r1;obtain ⟨z, its, n, rel, hz, el⟩ := I1.lstM hl;have isl : s1.heap.IsList l its.toArray := ⟨_, el, rfl, _, rfl⟩;have hi := rel.ints;have hd := I1.ok.hd hc;have len : its.length = ns.length := hi.length;have vb : ∀ i, 0 <= ns.getD i 0 /\ ns.getD i 0 <= 12 := fun i => by
  by_cases c : i < ns.length
  ·rw [List.getD_eq_getElem?_getD, List.getElem?_eq_getElem c];exact hb _ (List.getElem_mem c)
  ·rw [List.getD_eq_getElem?_getD, List.getElem?_eq_none (by omega)];exact ⟨Int.le_refl _, by decide⟩
 refine Calls.spliced_nil (so_call (val := fun i => ns.getD i 0) hd isl (fun i v hv => PyProof.Rows.IntsAre.int_at hi i v (by rw [List.getElem?_toArray] at hv; exact hv)) (fun i => Nat.lt_of_le_of_lt (Nat.succ_le_succ (dd_len vb i)) (by decide)) fun h1 tk so kp => ?_);refine Calls.spliced_nil ?_;refine so_sorted (s := { s1 with heap := h1, toks := tk }) hd so (Nat.lt_of_le_of_lt (dd_len vb _) (by decide)) fun out ns' L c h2 tk2 d a1 a2 a3 hL g2 kp2 => ?_
 have szL : s1.heap.objs.size <= L := Nat.le_trans (Nat.le_of_lt (let ⟨_, _, _, _, e, _⟩ := so; Heap.lt_size e)) hL;have nd : ns'.Nodup := a2.nodup_iff.mpr (dd_nodup _ _);have mm : ∀ x, x ∈ ns' ↔ x ∈ ns := fun x => by
  rw [a2.mem_iff, dd_mem];rw [List.size_toArray, len];constructor
  ·rintro ⟨i, hi, rfl⟩;rw [List.getD_eq_getElem?_getD, List.getElem?_eq_getElem hi];exact List.getElem_mem hi
  ·intro hx;obtain ⟨i, hi, rfl⟩ := List.getElem_of_mem hx;exact ⟨i, hi, by rw [List.getD_eq_getElem?_getD, List.getElem?_eq_getElem hi]; rfl⟩
 have l13 : ns'.length <= 13 := by
  rw [a2.length_eq];exact dd_len vb _
 exact ⟨.ref L, _, (I1.laid (a := L) (o := .lst (ns'.map V.int)) (h' := h2) (t' := tk2) (fun b o e => kp2 b o (kp b o e)) szL ⟨by rw [List.length_map]; exact Nat.le_trans l13 (by decide), out.toList, c, vals_of_ints a1, by simpa using g2⟩).dr, rfl, q ns' L a3 nd mm (I1.hok.fresh szL)⟩
end
end L2
local macro_rules | `(tactic| walk_at "rd1") => `(tactic| ((first | (with_reducible refine L2.rd_seq ?_) | (with_reducible refine L2.rd_var (by with_unfolding_all rfl) ?_) | (with_reducible refine L2.rd_c ?_) | (with_reducible refine L2.rd_op ?_) | (with_reducible refine L2.rd_un ?_) | (with_reducible refine L2.rd_i0 ?_) | (with_reducible refine L2.rd_u ?_) | (with_reducible refine L2.rd_cons ?_) | (with_reducible refine L2.rd_nil ?_) | (with_reducible refine L2.rd_call ?_) | (with_reducible refine L2.rd_cb ?_) | (with_reducible refine L2.rd_asg ?_) | (with_reducible refine L2.rd_gname ?_) | (with_reducible refine L2.rd_gsub ?_) | (with_reducible refine L2.rd_lc ?_) | (with_reducible refine L2.rd_ilist ?_) | (with_reducible refine L2.rd_irng1 ?_) | (with_reducible refine L2.rd_for ?_) | (with_reducible refine L2.rd_ikeysF ?_) | (with_reducible refine L2.rd_ikeys ?_) | (with_reducible refine L2.rd_ret ?_) | (with_reducible refine L2.rd_if ?_) | (with_reducible refine L2.rd_test ?_) | (with_reducible refine L2.rd_tb ?_) | (with_reducible refine L2.rd_bl ?_) | (with_reducible refine L2.rd_tup ?_) | (with_reducible refine L2.rd_lst ?_) | (with_reducible refine L2.rd_fld ?_) | (with_reducible refine L2.rd_meth ?_) | (with_reducible refine L2.rd_make ?_) | (with_reducible refine L2.rd_bm ?_) | (with_reducible refine L2.rd_bm0 ?_) | (with_reducible refine L2.rd_andV ?_) | (with_reducible refine L2.rd_orV ?_) | (with_reducible refine L2.rd_notV ?_) | (with_reducible refine L2.rd_and ?_) | (with_reducible refine L2.rd_or ?_) | (with_reducible refine L2.rd_not ?_) | (with_reducible refine L2.rd_yes ?_) | (with_reducible refine L2.rd_dget ?_) | (with_reducible refine L2.rd_din ?_) | (with_reducible refine L2.rd_dnotin ?_) | (with_reducible refine L2.rd_next ?_) | (with_reducible refine L2.rd_drop ?_) | (with_reducible refine L2.rd_setf ?_) | ((with_reducible show L2.rIxT _ _ _ _ _); (refine L2.rd_ixT (by first | assumption | exact L2.SqT.of (by assumption)) (by rfl) ?_)) | (with_reducible refine L2.rd_eq (by with_unfolding_all rfl) ?_) | (with_reducible refine L2.rd_ne (by with_unfolding_all rfl) ?_)); skip))
local macro_rules | `(tactic| walk_at "r") => `(tactic| (repeat walk_at "rd1"))
local macro_rules | `(tactic| walk_at "o") => `(tactic| first | exact Or.inl rfl | exact Or.inr rfl)
local macro_rules | `(tactic| walk_at "sc") => `(tactic| exact ⟨rfl, rfl, rfl, by decide +kernel, rfl, by decide +kernel, by decide +kernel⟩)
namespace Vr
open PySem PySem.Spec PyProof.Rows L2
def top (i : Nat) : Stmt := PySem.Challenge.pw_vesselriddle_s01_answers.main.body.getD i (.Pass ⟨0, 0, 0, 0⟩)
abbrev s_with_content : Stmt := top 1
abbrev N_with_content : List Str := ["contents", "vessel", "content", "changed"]
abbrev p_with_content : List Str := ["contents", "vessel", "content"]
theorem sc_with_content : FnScope N_with_content p_with_content (defScope s_with_content) := by walk_at "sc"
abbrev s_poured : Stmt := top 2
abbrev N_poured : List Str := ["sizes", "contents", "a", "b", "total", "changed"]
abbrev p_poured : List Str := ["sizes", "contents", "a", "b"]
theorem sc_poured : FnScope N_poured p_poured (defScope s_poured) := by walk_at "sc"
abbrev s_outcomes : Stmt := top 3
abbrev N_outcomes : List Str := ["sizes", "contents", "tap", "vessels", "found", "a", "vessel", "b"]
abbrev p_outcomes : List Str := ["sizes", "contents", "tap"]
theorem sc_outcomes : FnScope N_outcomes p_outcomes (defScope s_outcomes) := by walk_at "sc"
abbrev s_come_to : Stmt := top 4
abbrev N_come_to : List Str := ["sizes", "start", "tap", "origins", "order", "at", "found", "deed"]
abbrev p_come_to : List Str := ["sizes", "start", "tap"]
theorem sc_come_to : FnScope N_come_to p_come_to (defScope s_come_to) := by walk_at "sc"
abbrev s_those_with : Stmt := top 5
abbrev N_those_with : List Str := ["origins", "vessel", "n", "contents"]
abbrev p_those_with : List Str := ["origins", "vessel", "n"]
theorem sc_those_with : FnScope N_those_with p_those_with (defScope s_those_with) := by walk_at "sc"
abbrev s_way_to : Stmt := top 6
abbrev N_way_to : List Str := ["origins", "contents", "deeds", "origin"]
abbrev p_way_to : List Str := ["origins", "contents"]
theorem sc_way_to : FnScope N_way_to p_way_to (defScope s_way_to) := by walk_at "sc"
abbrev s_told_contents : Stmt := top 7
abbrev N_told_contents : List Str := ["row", "count", "told", "at"]
abbrev p_told_contents : List Str := ["row", "count"]
theorem sc_told_contents : FnScope N_told_contents p_told_contents (defScope s_told_contents) := by walk_at "sc"
abbrev s_stays_within : Stmt := top 8
abbrev N_stays_within : List Str := ["sizes", "contents", "tap", "told", "after"]
abbrev p_stays_within : List Str := ["sizes", "contents", "tap", "told"]
theorem sc_stays_within : FnScope N_stays_within p_stays_within (defScope s_stays_within) := by walk_at "sc"
abbrev s_proves : Stmt := top 9
abbrev N_proves : List Str := ["sizes", "start", "tap", "vessel", "n", "row", "told", "contents"]
abbrev p_proves : List Str := ["sizes", "start", "tap", "vessel", "n", "row"]
theorem sc_proves : FnScope N_proves p_proves (defScope s_proves) := by walk_at "sc"
abbrev s_leap : Stmt := top 14
abbrev N_leap : List Str := ["larger", "smaller", "shift", "first", "second", "quotient", "third"]
abbrev p_leap : List Str := ["larger", "smaller"]
theorem sc_leap : FnScope N_leap p_leap (defScope s_leap) := by walk_at "sc"
abbrev s_common_measure : Stmt := top 15
abbrev N_common_measure : List Str := ["a", "b", "rest", "pair"]
abbrev p_common_measure : List Str := ["a", "b"]
theorem sc_common_measure : FnScope N_common_measure p_common_measure (defScope s_common_measure) := by walk_at "sc"
abbrev s_lowest : Stmt := top 16
abbrev N_lowest : List Str := ["above", "below", "measure"]
abbrev p_lowest : List Str := ["above", "below"]
theorem sc_lowest : FnScope N_lowest p_lowest (defScope s_lowest) := by walk_at "sc"
abbrev s_plus : Stmt := top 17
abbrev N_plus : List Str := ["x", "y"]
abbrev p_plus : List Str := ["x", "y"]
theorem sc_plus : FnScope N_plus p_plus (defScope s_plus) := by walk_at "sc"
abbrev s_minus : Stmt := top 18
abbrev N_minus : List Str := ["x", "y"]
abbrev p_minus : List Str := ["x", "y"]
theorem sc_minus : FnScope N_minus p_minus (defScope s_minus) := by walk_at "sc"
abbrev s_times : Stmt := top 19
abbrev N_times : List Str := ["x", "y", "first", "second"]
abbrev p_times : List Str := ["x", "y"]
theorem sc_times : FnScope N_times p_times (defScope s_times) := by walk_at "sc"
abbrev s_over : Stmt := top 20
abbrev N_over : List Str := ["x", "y"]
abbrev p_over : List Str := ["x", "y"]
theorem sc_over : FnScope N_over p_over (defScope s_over) := by walk_at "sc"
abbrev s_is_more : Stmt := top 21
abbrev N_is_more : List Str := ["x", "y"]
abbrev p_is_more : List Str := ["x", "y"]
theorem sc_is_more : FnScope N_is_more p_is_more (defScope s_is_more) := by walk_at "sc"
abbrev s_lesser : Stmt := top 22
abbrev N_lesser : List Str := ["x", "y"]
abbrev p_lesser : List Str := ["x", "y"]
theorem sc_lesser : FnScope N_lesser p_lesser (defScope s_lesser) := by walk_at "sc"
abbrev s_is_within : Stmt := top 35
abbrev N_is_within : List Str := ["number", "least", "most"]
abbrev p_is_within : List Str := ["number", "least", "most"]
theorem sc_is_within : FnScope N_is_within p_is_within (defScope s_is_within) := by walk_at "sc"
abbrev s_is_kind : Stmt := top 36
abbrev N_is_kind : List Str := ["number"]
abbrev p_is_kind : List Str := ["number"]
theorem sc_is_kind : FnScope N_is_kind p_is_kind (defScope s_is_kind) := by walk_at "sc"
abbrev s_shares_of_one_kind : Stmt := top 37
abbrev N_shares_of_one_kind : List Str := ["kind", "shares", "other"]
abbrev p_shares_of_one_kind : List Str := ["kind"]
theorem sc_shares_of_one_kind : FnScope N_shares_of_one_kind p_shares_of_one_kind (defScope s_shares_of_one_kind) := by walk_at "sc"
abbrev s_mixed_shares : Stmt := top 38
abbrev N_mixed_shares : List Str := ["content", "shares", "total", "others", "one_share", "one_other", "weight", "kind"]
abbrev p_mixed_shares : List Str := ["content", "shares", "total", "others"]
theorem sc_mixed_shares : FnScope N_mixed_shares p_mixed_shares (defScope s_mixed_shares) := by walk_at "sc"
abbrev s_Mixture_init : Stmt := inClass (top 39) 0
abbrev N_Mixture_init : List Str := ["self"]
abbrev p_Mixture_init : List Str := ["self"]
theorem sc_Mixture_init : FnScope N_Mixture_init p_Mixture_init (defScope s_Mixture_init) := by walk_at "sc"
abbrev s_Mixture_put : Stmt := inClass (top 39) 1
abbrev N_Mixture_put : List Str := ["self", "total", "shares"]
abbrev p_Mixture_put : List Str := ["self", "total", "shares"]
theorem sc_Mixture_put : FnScope N_Mixture_put p_Mixture_put (defScope s_Mixture_put) := by walk_at "sc"
abbrev s_Mixture_take : Stmt := inClass (top 39) 2
abbrev N_Mixture_take : List Str := ["self", "total"]
abbrev p_Mixture_take : List Str := ["self", "total"]
theorem sc_Mixture_take : FnScope N_Mixture_take p_Mixture_take (defScope s_Mixture_take) := by walk_at "sc"
abbrev s_Mixture_strengths : Stmt := inClass (top 39) 3
abbrev N_Mixture_strengths : List Str := ["self", "whole", "share"]
abbrev p_Mixture_strengths : List Str := ["self"]
theorem sc_Mixture_strengths : FnScope N_Mixture_strengths p_Mixture_strengths (defScope s_Mixture_strengths) := by walk_at "sc"
abbrev s_Mixture_amounts : Stmt := inClass (top 39) 4
abbrev N_Mixture_amounts : List Str := ["self", "kind", "strength"]
abbrev p_Mixture_amounts : List Str := ["self"]
theorem sc_Mixture_amounts : FnScope N_Mixture_amounts p_Mixture_amounts (defScope s_Mixture_amounts) := by walk_at "sc"
abbrev s_Vessel_init : Stmt := inClass (top 40) 0
abbrev N_Vessel_init : List Str := ["self", "size"]
abbrev p_Vessel_init : List Str := ["self", "size"]
theorem sc_Vessel_init : FnScope N_Vessel_init p_Vessel_init (defScope s_Vessel_init) := by walk_at "sc"
abbrev s_Vessel_room : Stmt := inClass (top 40) 1
abbrev N_Vessel_room : List Str := ["self"]
abbrev p_Vessel_room : List Str := ["self"]
theorem sc_Vessel_room : FnScope N_Vessel_room p_Vessel_room (defScope s_Vessel_room) := by walk_at "sc"
abbrev s_Line_init : Stmt := inClass (top 41) 0
abbrev N_Line_init : List Str := ["self", "kind"]
abbrev p_Line_init : List Str := ["self"]
theorem sc_Line_init : FnScope N_Line_init p_Line_init (defScope s_Line_init) := by walk_at "sc"
abbrev s_Line_has_vessel : Stmt := inClass (top 41) 1
abbrev N_Line_has_vessel : List Str := ["self", "number"]
abbrev p_Line_has_vessel : List Str := ["self", "number"]
theorem sc_Line_has_vessel : FnScope N_Line_has_vessel p_Line_has_vessel (defScope s_Line_has_vessel) := by walk_at "sc"
abbrev s_Line_sizes : Stmt := inClass (top 41) 2
abbrev N_Line_sizes : List Str := ["self", "vessel"]
abbrev p_Line_sizes : List Str := ["self"]
theorem sc_Line_sizes : FnScope N_Line_sizes p_Line_sizes (defScope s_Line_sizes) := by walk_at "sc"
abbrev s_Line_is_whole : Stmt := inClass (top 41) 3
abbrev N_Line_is_whole : List Str := ["self", "vessel"]
abbrev p_Line_is_whole : List Str := ["self"]
theorem sc_Line_is_whole : FnScope N_Line_is_whole p_Line_is_whole (defScope s_Line_is_whole) := by walk_at "sc"
abbrev s_Line_contents : Stmt := inClass (top 41) 4
abbrev N_Line_contents : List Str := ["self", "vessel"]
abbrev p_Line_contents : List Str := ["self"]
theorem sc_Line_contents : FnScope N_Line_contents p_Line_contents (defScope s_Line_contents) := by walk_at "sc"
abbrev s_move : Stmt := top 42
abbrev N_move : List Str := ["source", "target", "total"]
abbrev p_move : List Str := ["source", "target", "total"]
theorem sc_move : FnScope N_move p_move (defScope s_move) := by walk_at "sc"
abbrev s_call_vessel : Stmt := top 43
abbrev N_call_vessel : List Str := ["line", "told", "size"]
abbrev p_call_vessel : List Str := ["line", "told"]
theorem sc_call_vessel : FnScope N_call_vessel p_call_vessel (defScope s_call_vessel) := by walk_at "sc"
abbrev s_call_fill : Stmt := top 44
abbrev N_call_fill : List Str := ["line", "told", "number", "kind", "vessel", "total"]
abbrev p_call_fill : List Str := ["line", "told"]
theorem sc_call_fill : FnScope N_call_fill p_call_fill (defScope s_call_fill) := by walk_at "sc"
abbrev s_call_drain : Stmt := top 45
abbrev N_call_drain : List Str := ["line", "told", "number", "vessel"]
abbrev p_call_drain : List Str := ["line", "told"]
theorem sc_call_drain : FnScope N_call_drain p_call_drain (defScope s_call_drain) := by walk_at "sc"
abbrev s_pair_refusal : Stmt := top 46
abbrev N_pair_refusal : List Str := ["line", "a", "b"]
abbrev p_pair_refusal : List Str := ["line", "a", "b"]
theorem sc_pair_refusal : FnScope N_pair_refusal p_pair_refusal (defScope s_pair_refusal) := by walk_at "sc"
abbrev s_call_pour : Stmt := top 47
abbrev N_call_pour : List Str := ["line", "told", "refusal", "source", "target"]
abbrev p_call_pour : List Str := ["line", "told"]
theorem sc_call_pour : FnScope N_call_pour p_call_pour (defScope s_call_pour) := by walk_at "sc"
abbrev s_call_some : Stmt := top 48
abbrev N_call_some : List Str := ["line", "told", "refusal", "source", "target", "total"]
abbrev p_call_some : List Str := ["line", "told"]
theorem sc_call_some : FnScope N_call_some p_call_some (defScope s_call_some) := by walk_at "sc"
abbrev s_call_state : Stmt := top 49
abbrev N_call_state : List Str := ["line", "told", "answer", "vessel", "amount"]
abbrev p_call_state : List Str := ["line", "told"]
theorem sc_call_state : FnScope N_call_state p_call_state (defScope s_call_state) := by walk_at "sc"
abbrev s_call_strength : Stmt := top 50
abbrev N_call_strength : List Str := ["line", "told", "number", "kind", "vessel", "strength"]
abbrev p_call_strength : List Str := ["line", "told"]
theorem sc_call_strength : FnScope N_call_strength p_call_strength (defScope s_call_strength) := by walk_at "sc"
abbrev s_is_tap : Stmt := top 51
abbrev N_is_tap : List Str := ["number"]
abbrev p_is_tap : List Str := ["number"]
theorem sc_is_tap : FnScope N_is_tap p_is_tap (defScope s_is_tap) := by walk_at "sc"
abbrev s_is_question : Stmt := top 52
abbrev N_is_question : List Str := ["line", "told"]
abbrev p_is_question : List Str := ["line", "told"]
theorem sc_is_question : FnScope N_is_question p_is_question (defScope s_is_question) := by walk_at "sc"
abbrev s_call_way : Stmt := top 53
abbrev N_call_way : List Str := ["line", "told", "origins", "ends"]
abbrev p_call_way : List Str := ["line", "told"]
theorem sc_call_way : FnScope N_call_way p_call_way (defScope s_call_way) := by walk_at "sc"
abbrev s_call_can : Stmt := top 54
abbrev N_call_can : List Str := ["line", "told", "amounts", "contents"]
abbrev p_call_can : List Str := ["line", "told"]
theorem sc_call_can : FnScope N_call_can p_call_can (defScope s_call_can) := by walk_at "sc"
abbrev s_call_proof : Stmt := top 55
abbrev N_call_proof : List Str := ["line", "told", "origins", "answer", "contents"]
abbrev p_call_proof : List Str := ["line", "told"]
theorem sc_call_proof : FnScope N_call_proof p_call_proof (defScope s_call_proof) := by walk_at "sc"
abbrev s_is_row : Stmt := top 56
abbrev N_is_row : List Str := ["line", "row", "number"]
abbrev p_is_row : List Str := ["line", "row"]
theorem sc_is_row : FnScope N_is_row p_is_row (defScope s_is_row) := by walk_at "sc"
abbrev s_call_check : Stmt := top 57
abbrev N_call_check : List Str := ["line", "told", "row"]
abbrev p_call_check : List Str := ["line", "told"]
theorem sc_call_check : FnScope N_call_check p_call_check (defScope s_call_check) := by walk_at "sc"
abbrev s_call_gcd : Stmt := top 58
abbrev N_call_gcd : List Str := ["line", "told", "measure", "size"]
abbrev p_call_gcd : List Str := ["line", "told"]
theorem sc_call_gcd : FnScope N_call_gcd p_call_gcd (defScope s_call_gcd) := by walk_at "sc"
abbrev s_call_ledger : Stmt := top 59
abbrev N_call_ledger : List Str := ["line", "told", "answer", "amount"]
abbrev p_call_ledger : List Str := ["line", "told"]
theorem sc_call_ledger : FnScope N_call_ledger p_call_ledger (defScope s_call_ledger) := by walk_at "sc"
abbrev s_behind_call : Stmt := top 61
abbrev N_behind_call : List Str := ["calls", "at", "behind"]
abbrev p_behind_call : List Str := ["calls", "at"]
theorem sc_behind_call : FnScope N_behind_call p_behind_call (defScope s_behind_call) := by walk_at "sc"
abbrev s_answers : Stmt := top 62
abbrev N_answers : List Str := ["calls", "line", "given", "at", "work", "behind", "answer"]
abbrev p_answers : List Str := ["calls"]
theorem sc_answers : FnScope N_answers p_answers (defScope s_answers) := by walk_at "sc"
theorem bt_len : bootBuiltins "len" = some (.builtin "len") := by decide +kernel
theorem bt_min : bootBuiltins "min" = some (.builtin "min") := by decide +kernel
theorem bt_max : bootBuiltins "max" = some (.builtin "max") := by decide +kernel
theorem bt_abs : bootBuiltins "abs" = some (.builtin "abs") := by decide +kernel
theorem bt_sum : bootBuiltins "sum" = some (.builtin "sum") := by decide +kernel
theorem bt_all : bootBuiltins "all" = some (.builtin "all") := by decide +kernel
theorem bt_sorted : bootBuiltins "sorted" = some (.builtin "sorted") := by decide +kernel
theorem bt_list : bootBuiltins "list" = some (.type "list") := by decide +kernel
theorem bt_tuple : bootBuiltins "tuple" = some (.type "tuple") := by decide +kernel
theorem bt_range : bootBuiltins "range" = some (.type "range") := by decide +kernel
theorem bt_set : bootBuiltins "set" = some (.type "set") := by decide +kernel
theorem bt_reversed : bootBuiltins "reversed" = some (.type "reversed") := by decide +kernel
structure Ad where
 CM : Addr
 CV : Addr
 CL : Addr
 aN : Addr
 aT : Addr
 aW : Addr
 ws : List Addr
structure IsM (K : PySem.W.Frag) (C : Addr) : Prop where
 cl : Cls K C
 nc : NoAttr K C "content"
 ns : NoAttr K C "shares"
 nk : NoAttr K C "known_strengths"
structure Txt (P : Program) (K : PySem.W.Frag) (mg : Str -> Option Value) (t : Ad) : Prop where
 tree : P.given.tree = none
 c_HALF_WINDOW : ∃ t, mg "HALF_WINDOW" = some (.int 120 t)
 c_LONG : ∃ t, mg "LONG" = some (.int 480 t)
 c_MOST_VESSELS : ∃ t, mg "MOST_VESSELS" = some (.int 3 t)
 c_LARGEST_SIZE : ∃ t, mg "LARGEST_SIZE" = some (.int 12 t)
 c_KINDS : ∃ t, mg "KINDS" = some (.int 3 t)
 c_LARGEST_TOLD_PART : ∃ t, mg "LARGEST_TOLD_PART" = some (.int 1000 t)
 c_CHECK : ∃ t, mg "CHECK" = some (.int 10 t)
 c_OUT_OF_RANGE : ∃ t, mg "OUT_OF_RANGE" = some (.int (-1) t)
 c_ONE_VESSEL : ∃ t, mg "ONE_VESSEL" = some (.int (-3) t)
 c_NOT_SO : ∃ t, mg "NOT_SO" = some (.int (-4) t)
 c_NO_PLACE : ∃ t, mg "NO_PLACE" = some (.int (-5) t)
 c_NOT_WHOLE : ∃ t, mg "NOT_WHOLE" = some (.int (-6) t)
 m_NOTHING : mg "NOTHING" = some (.ref t.aN)
 n_NOTHING : ∀ H, SqT K H t.aN [.int 0, .int 1]
 m_TOLD : mg "TOLD" = some (.ref t.aT)
 n_TOLD : ∀ H, SqT K H t.aT (([1, 2, 1, 2, 4, 0, 2, 3, 1, 3, 4, 0, 0] : List Int).map V.int)
 m_WORKS : mg "WORKS" = some (.ref t.aW)
 n_WORKS : ∀ H, SqT K H t.aW (t.ws.map V.ref)
 m_Mixture : mg "Mixture" = some (.ref t.CM)
 iM : IsM K t.CM
 iV : IsM K t.CV
 nV_size : NoAttr K t.CV "size"
 cL : Cls K t.CL
 nL_vessels : NoAttr K t.CL "vessels"
 nL_filled : NoAttr K t.CL "filled"
 nL_gone : NoAttr K t.CL "gone"
 b_len : mg "len" = none
 b_list : mg "list" = none
 b_tuple : mg "tuple" = none
 b_range : mg "range" = none
 b_min : mg "min" = none
 b_max : mg "max" = none
 b_abs : mg "abs" = none
 b_sum : mg "sum" = none
 b_all : mg "all" = none
 b_set : mg "set" = none
 b_sorted : mg "sorted" = none
 b_reversed : mg "reversed" = none
end Vr
namespace Vr
open PySem PySem.Spec PyProof.Rows L2
section
variable {P : Program} {w : World} {K : PySem.W.Frag} {mg : Str -> Option Value} {base : Heap} {t : Ad} {f : Addr} {fd : FuncData}
theorem bits_eq (x : Int) : Builtin.Int.intBits x = bl x := rfl
theorem mulOk {a b : Int} {m n : Nat} (ha : bl a <= m) (hb : bl b <= n) (h : m + n <= 134217728) : IntMulOk a b := IntMulOk.of_le (show Builtin.Int.intBits a <= m from ha) (show Builtin.Int.intBits b <= n from hb) h
def spWithin : Sp := fun vs H Q _ => ∃ n l m : Int, vs = [.int n, .int l, .int m] /\ Q (.bl (decide (l <= n /\ n <= m))) H
theorem ok_is_within (F : Fun K "is_within" "is_within" s_is_within f fd) : FnOk P w K mg base CX0 34 f fd p_is_within spWithin := by
 refine F.ok sc_is_within (fun vs H Q E h => ?_) (fun cdv A outer s H vs Q E hr h => ?_)
 ·obtain ⟨n, l, m, rfl, _⟩ := h;rfl
 ·obtain ⟨n, l, m, rfl, k⟩ := h;refine ⟨_, (pss_one (ps_ret (pe_and (pe_cmpR op_le (pv 1) (pv 0) (nomark _)) (pe_one (pe_cmpR op_le (pv 0) (pv 2) (nomark _)))))), ?_⟩;refine rd_ret (rd_andV ?_);walk_at "r"
  by_cases h1 : l <= n
  ·rw [if_pos (decide_eq_true h1)];walk_at "r";have e : decide (l <= n /\ n <= m) = decide (n <= m) := by simp [h1]
   rw [e] at k;exact k
  ·rw [if_neg (by simp [h1])];have e : decide (l <= n /\ n <= m) = false := by simp [h1]
   rw [e] at k;exact k
def spKind : Sp := fun vs H Q _ => ∃ n : Int, vs = [.int n] /\ Q (.bl (decide (0 <= n /\ n <= 2))) H
theorem ok_is_kind (F : Fun K "is_kind" "is_kind" s_is_kind f fd) (T : Txt P K mg t) (D_is_within : Def P w K mg base 34 "is_within" p_is_within spWithin) : FnOk P w K mg base CX0 35 f fd p_is_kind spKind := by
 refine F.ok sc_is_kind (fun vs H Q E h => ?_) (fun cdv A outer s H vs Q E hr h => ?_)
 ·obtain ⟨n, rfl, _⟩ := h;rfl
 ·obtain ⟨n, rfl, k⟩ := h;refine ⟨_, (pss_one (ps_ret (pe_def D_is_within (hr.mono (by decide)) rfl (pa_cons (pv 0) (pa_cons pe_int (pa_cons (pe_op op_sub (pe_cI T.c_KINDS rfl) pe_int) pa_nil)))))), ?_⟩;walk_at "r";exact ⟨n, 0, 2, rfl, k⟩
theorem abs_nat (x : Int) : (if x < 0 then -x else x) = (x.natAbs : Int) := by split <;> omega
theorem Leap.b {a b L S f0 f1 f2 s0 s1 s2 : Int} (J : Leap a b L S f0 f1 f2 s0 s1 s2) (ha0 : 0 <= a) (ha : a < 2 ^ 240) (hb : b <= a) :
  bl f0 <= 240 /\ bl f1 <= 240 /\ bl f2 <= 240 /\ bl s0 <= 240 /\ bl s1 <= 240 /\ bl s2 <= 240 := by
 have h1 := J.d1 ha0 hb;have h2 := J.d2 ha0;have h3 := J.c1;have h4 := J.c2;have h5 := J.fa;have h6 := J.fs;have h7 := J.s0n;simp only [bl_le];have e : ((2 : Nat) ^ 240 : Nat) = ((2 : Int) ^ 240).toNat := by decide
 rw [e];refine ⟨?_, ?_, ?_, ?_, ?_, ?_⟩ <;> omega
def spLeap : Sp := fun vs H Q _ => ∃ L S : Int, vs = [.int L, .int S] /\ 0 <= S /\ S < L /\ 480 < bl S /\ bl L <= 130000000 /\
 ∀ (H' : Hp) (p : Addr) (a b : Nat), Same H H' -> H' p = some (.tup [.int a, .int b]) -> Nat.gcd a b = Int.gcd L S -> a <= L.natAbs -> b < L.natAbs -> Q (.ref p) H'
theorem ok_leap (F : Fun K "leap" "leap" s_leap f fd) (T : Txt P K mg t) : FnOk P w K mg base CX0 34 f fd p_leap spLeap := by
 refine F.ok sc_leap (fun vs H Q E h => ?_) (fun cdv A outer s H vs Q E hr h => ?_)
 ·obtain ⟨L, S, rfl, _⟩ := h;rfl
 ·obtain ⟨L, S, rfl, S0, SL, hS, hL, k⟩ := h;have nd := sc_leap.nd;have BG : BigOk _ := big_cx (CX := CX0) (P := P) (w := w) (K := K) (mg := mg) (base := base) (outer := outer) (H := H) (E := E) sc_leap T.tree (by decide) hr;obtain ⟨l1, kp, a1, a2, b1, b2⟩ := leading hS S0 SL;refine ⟨_, (pss_cons (ps_set (i := 2) nd rfl (by walk_at "o") (pe_op op_sub (pe_bm0 PySem.F.plainAttrs_int PySem.F.slot_int_bit_length PySem.F.type_int_bit_length mt_bits (pv 0)) (pe_op op_mulB pe_int (pe_cI T.c_HALF_WINDOW rfl)))) (pss_cons (ps_set (i := 3) nd rfl (by walk_at "o") (pe_tup (pa_cons (pe_op op_shr (pv 0) (pv 2)) (pa_cons pe_int (pa_cons pe_int pa_nil))))) (pss_cons (ps_set (i := 4) nd rfl (by walk_at "o") (pe_tup (pa_cons (pe_op op_shr (pv 1) (pv 2)) (pa_cons pe_int (pa_cons pe_int pa_nil))))) (pss_cons (ps_while PassesOwn.never (pt_cmpR op_gt (pe_bm0 PySem.F.plainAttrs_int PySem.F.slot_int_bit_length PySem.F.type_int_bit_length mt_bits (pe_ix ix_tup (pv 4) pe_int (fun _ _ => rfl))) (pe_cI T.c_HALF_WINDOW rfl) (nomark _)) (pss_cons (ps_set (i := 5) nd rfl (by walk_at "o") (pe_op (op_fdivB BG) (pe_ix ix_tup (pv 3) pe_int (fun _ _ => rfl)) (pe_ix ix_tup (pv 4) pe_int (fun _ _ => rfl)))) (pss_cons (ps_set (i := 6) nd rfl (by walk_at "o") (pe_tup (pa_cons (pe_op op_sub (pe_ix ix_tup (pv 3) pe_int (fun _ _ => rfl)) (pe_op op_mulB (pv 5) (pe_ix ix_tup (pv 4) pe_int (fun _ _ => rfl)))) (pa_cons (pe_op op_sub (pe_ix ix_tup (pv 3) pe_int (fun _ _ => rfl)) (pe_op op_mulB (pv 5) (pe_ix ix_tup (pv 4) pe_int (fun _ _ => rfl)))) (pa_cons (pe_op op_sub (pe_ix ix_tup (pv 3) pe_int (fun _ _ => rfl)) (pe_op op_mulB (pv 5) (pe_ix ix_tup (pv 4) pe_int (fun _ _ => rfl)))) pa_nil))))) (pss_cons (ps_set (i := 3) nd rfl (by walk_at "o") (pv 4)) (pss_one (ps_set (i := 4) nd rfl (by walk_at "o") (pv 6))))))) (pss_one (ps_ret (pe_tup (pa_cons (pe_callB call_abs (by rfl) T.b_abs bt_abs (pa_cons (pe_op op_add (pe_op op_mulB (pe_ix ix_tup (pv 3) pe_int (fun _ _ => rfl)) (pv 0)) (pe_op op_mulB (pe_ix ix_tup (pv 3) pe_int (fun _ _ => rfl)) (pv 1))) pa_nil)) (pa_cons (pe_callB call_abs (by rfl) T.b_abs bt_abs (pa_cons (pe_op op_add (pe_op op_mulB (pe_ix ix_tup (pv 4) pe_int (fun _ _ => rfl)) (pv 0)) (pe_op op_mulB (pe_ix ix_tup (pv 4) pe_int (fun _ _ => rfl)) (pv 1))) pa_nil)) pa_nil))))))))), ?_⟩
  -- shift
  walk_at "r";refine ⟨rfl, L, rfl, rfl, ?_⟩;walk_at "r";refine rd_i (mulOk (m := 10) (n := 10) (by decide) (by decide) (by decide)) ?_;walk_at "r";have es : (((Builtin.Int.intBits L : Nat) : Int) - 2 * 120).toNat = bl L - 240 := by rw [bits_eq]; omega
  have e0 : (0 : Int) <= ((Builtin.Int.intBits L : Nat) : Int) - 2 * 120 := by rw [bits_eq]; omega
  generalize ((Builtin.Int.intBits L : Nat) : Int) - 2 * 120 = sh at es e0;refine rd_i e0 ?_;walk_at "r";refine rd_tupE rfl fun p1 hp1 => ?_;walk_at "r";refine rd_i e0 ?_;walk_at "r";refine rd_tupE rfl fun p2 hp2 => ?_;walk_at "r";rw [es] at hp2 ⊢;have eL : L = L / 2 ^ (bl L - 240) * 2 ^ (bl L - 240) + L % 2 ^ (bl L - 240) := (Int.ediv_mul_add_emod _ _).symm;have eS : S = S / 2 ^ (bl L - 240) * 2 ^ (bl L - 240) + S % 2 ^ (bl L - 240) := (Int.ediv_mul_add_emod _ _).symm;have rL := Int.emod_nonneg L (Int.ne_of_gt kp);have rL2 := Int.emod_lt_of_pos L kp;have rS := Int.emod_nonneg S (Int.ne_of_gt kp);have rS2 := Int.emod_lt_of_pos S kp;generalize L / 2 ^ (bl L - 240) = a at *;generalize S / 2 ^ (bl L - 240) = b at *;have a0 : (0 : Int) <= a := by omega
  have s1 : Same H (upd H p1 (.tup [.int a, .int 1, .int 0])) := Same.new hp1;have s2 : Same (upd H p1 (.tup [.int a, .int 1, .int 0])) (upd (upd H p1 (.tup [.int a, .int 1, .int 0])) p2 (.tup [.int b, .int 0, .int 1])) := Same.new hp2;refine ⟨fun m σ H' => ∃ (g1 g2 : Addr) (f0 f1 f2 s0 s1 s2 : Int) (u v : Option V), σ = [some (.int L), some (.int S), some (.int sh), some (.ref g1), some (.ref g2), u, v] /\ Same H H' /\ H' g1 = some (.tup [.int f0, .int f1, .int f2]) /\ H' g2 = some (.tup [.int s0, .int s1, .int s2]) /\ Leap a b L S f0 f1 f2 s0 s1 s2 /\ m = s0.toNat,
   ⟨_, p1, p2, a, 1, 0, b, 0, 1, none, none, rfl, s1.trans s2, s2 _ _ upd_same, upd_same, leap_start b1 b2 (by omega) S0 SL, rfl⟩, ?_⟩
  rintro m σ' H' ⟨g1, g2, f0, f1, f2, s0, s1, s2, u, v, rfl, sm, h1, h2, J, rfl⟩;obtain ⟨q0, q1, q2, q3, q4, q5⟩ := J.b a0 a2 b2;walk_at "r";refine ⟨rfl, s0, rfl, rfl, ?_⟩;walk_at "r";refine ite2 (fun c => ?_) (fun c => ?_)
  ·have c : (120 : Int) < ((Builtin.Int.intBits s0 : Nat) : Int) := of_decide_eq_true c;have big : (2 : Int) ^ 120 <= s0 := by
    rw [bits_eq] at c;have h3 := bl_gt.mp (show 120 < bl s0 by omega);have h4 := J.s0n;have e : ((2 : Nat) ^ 120 : Nat) = ((2 : Int) ^ 120).toNat := by decide
    rw [e] at h3;omega
   have s0p : 0 < s0 := by omega
   have J' := leap_turn J big rfl b2 (by omega) eL eS kp rL rL2 rS rS2;have hm1 : f0 - f0 / s0 * s0 < s0 := by
    have h3 := Int.emod_lt_of_pos f0 s0p;have h4 := Int.emod_add_mul_ediv f0 s0;have h5 : f0 / s0 * s0 = s0 * (f0 / s0) := Int.mul_comm _ _;omega
   have hq : bl (f0 / s0) <= 240 := by
    refine Nat.le_trans (bl_mono ?_) q0;have h3 : f0 / s0 <= f0 := Int.ediv_le_self _ (by have := J.fs; have := J.s0n; omega);have h4 : 0 <= f0 / s0 := Int.ediv_nonneg (by have := J.fs; have := J.s0n; omega) (by omega);omega
   refine ⟨_, fun _ _ h => h, ?_⟩;walk_at "r";refine rd_i (show (0 : Int) < s0 from s0p) ?_;walk_at "r";refine rd_i (mulOk (m := 240) (n := 240) hq q3 (by decide)) ?_;walk_at "r";refine rd_i (mulOk (m := 240) (n := 240) hq q4 (by decide)) ?_;walk_at "r";refine rd_i (mulOk (m := 240) (n := 240) hq q5 (by decide)) ?_;walk_at "r";refine rd_tupE rfl fun p hp => ?_;walk_at "r";have s3 : Same H' (upd H' p (.tup [.int (f0 - f0 / s0 * s0), .int (f1 - f0 / s0 * s1), .int (f2 - f0 / s0 * s2)])) := Same.new hp;refine ⟨_, ?_, g2, p, _, _, _, _, _, _, _, _, rfl, sm.trans s3, s3 _ _ h2, upd_same, J', rfl⟩;have := J'.s0n;omega
  ·walk_at "r";refine rd_i (mulOk (m := 240) (n := 130000000) q1 hL (by decide)) ?_;walk_at "r";have hS2 : bl S <= 130000000 := Nat.le_trans (bl_mono (by omega)) hL;refine rd_i (mulOk (m := 240) (n := 130000000) q2 hS2 (by decide)) ?_;walk_at "r";refine ⟨_, rfl, ?_⟩;walk_at "r";refine rd_i (mulOk (m := 240) (n := 130000000) q4 hL (by decide)) ?_;walk_at "r";refine rd_i (mulOk (m := 240) (n := 130000000) q5 hS2 (by decide)) ?_;walk_at "r";refine ⟨_, rfl, ?_⟩;walk_at "r";rw [abs_nat, abs_nat];refine rd_tupE rfl fun p hp => ?_;have h3 := leap_end J;exact k _ p _ _ (sm.trans (Same.new hp)) upd_same h3 J.gf J.gs
theorem gcd_mod {a b : Int} (ha : 0 <= a) (hb : 0 <= b) : Int.gcd b (a % b) = Int.gcd a b := by
 obtain ⟨x, rfl⟩ : ∃ x : Nat, a = x := ⟨a.toNat, by omega⟩;obtain ⟨y, rfl⟩ : ∃ y : Nat, b = y := ⟨b.toNat, by omega⟩;show Nat.gcd y (x % y) = Nat.gcd x y;rw [Nat.gcd_comm x y, Nat.gcd_rec y x, Nat.gcd_comm]
def spCm : Sp := fun vs H Q _ => ∃ a b : Int, vs = [.int a, .int b] /\ 0 <= a /\ 0 <= b /\ bl a <= 130000000 /\ bl b <= 130000000 /\ ∀ H' : Hp, Same H H' -> Q (.int (Int.gcd a b : Nat)) H'
theorem ok_common_measure (F : Fun K "common_measure" "common_measure" s_common_measure f fd) (T : Txt P K mg t) (D_leap : Def P w K mg base 34 "leap" p_leap spLeap) : FnOk P w K mg base CX0 35 f fd p_common_measure spCm := by
 refine F.ok sc_common_measure (fun vs H Q E h => ?_) (fun cdv A outer s H vs Q E hr h => ?_)
 ·obtain ⟨L, S, rfl, _⟩ := h;rfl
 ·obtain ⟨a, b, rfl, a0, b0, ba, bb, k⟩ := h;have nd := sc_common_measure.nd;refine ⟨_, (pss_cons (ps_while PassesOwn.never (pt_cmpR op_gt (pv 1) pe_int (nomark _)) (pss_cons (ps_set (i := 2) nd rfl (by walk_at "o") (pe_op op_mod (pv 0) (pv 1))) (pss_cons (ps_set (i := 0) nd rfl (by walk_at "o") (pv 1)) (pss_cons (ps_set (i := 1) nd rfl (by walk_at "o") (pv 2)) (pss_one (ps_if (pt_cmpR op_gt (pe_bm0 PySem.F.plainAttrs_int PySem.F.slot_int_bit_length PySem.F.type_int_bit_length mt_bits (pv 1)) (pe_cI T.c_LONG rfl) (nomark _)) (pss_cons (ps_set (i := 3) nd rfl (by walk_at "o") (pe_def D_leap (hr.mono (by decide)) rfl (pa_cons (pv 0) (pa_cons (pv 1) pa_nil)))) (pss_cons (ps_set (i := 0) nd rfl (by walk_at "o") (pe_ix ix_tup (pv 3) pe_int (fun _ _ => rfl))) (pss_one (ps_set (i := 1) nd rfl (by walk_at "o") (pe_ix ix_tup (pv 3) pe_int (fun _ _ => rfl)))))) pss_nil)))))) (pss_one (ps_ret (pv 0)))), ?_⟩;refine rd_seq ⟨fun m σ H' => ∃ (a' b' : Int) (u v : Option V), σ = [some (.int a'), some (.int b'), u, v] /\ Same H H' /\ 0 <= a' /\ 0 <= b' /\ bl a' <= 130000000 /\ bl b' <= 130000000 /\ Int.gcd a' b' = Int.gcd a b /\ m = b'.toNat,
   ⟨_, a, b, none, none, rfl, Same.refl H, a0, b0, ba, bb, rfl, rfl⟩, ?_⟩
  rintro m σ' H' ⟨a', b', u, v, rfl, sm, a0', b0', ba', bb', hg, rfl⟩;walk_at "r";refine ite2 (fun c => ?_) (fun c => ?_)
  ·have c : (0 : Int) < b' := of_decide_eq_true c;refine ⟨_, fun _ _ h => h, ?_⟩;walk_at "r";refine rd_i (show (0 : Int) < b' from c) ?_;walk_at "r";have r0 := Int.emod_nonneg a' (Int.ne_of_gt c);have r1 := Int.emod_lt_of_pos a' c;have hg2 : Int.gcd b' (a' % b') = Int.gcd a b := by rw [<- hg]; exact gcd_mod a0' b0'
   have br : bl (a' % b') <= 130000000 := Nat.le_trans (bl_mono (by omega)) bb';generalize a' % b' = r at *;refine ⟨rfl, r, rfl, rfl, ?_⟩;walk_at "r";refine ite2 (fun c2 => ?_) (fun c2 => ?_)
   ·have c2 : (480 : Int) < ((Builtin.Int.intBits r : Nat) : Int) := of_decide_eq_true c2;rw [bits_eq] at c2;walk_at "r";refine ⟨b', r, rfl, r0, r1, by omega, bb', fun H2 p x y s2 hp hgc hx hy => ?_⟩;have hp' : SqT K H2 p [.int x, .int y] := SqT.of hp;walk_at "r";refine ⟨_, ?_, x, y, _, _, rfl, sm.trans s2, by omega, by omega, Nat.le_trans (bl_mono (by omega)) bb', Nat.le_trans (bl_mono (by omega)) bb', ?_, rfl⟩
    ·omega
    ·rw [<- hg2, <- hgc];rfl
   ·walk_at "r";exact ⟨_, by omega, b', r, _, _, rfl, sm, by omega, r0, bb', br, hg2, rfl⟩
  ·have c : ¬ (0 : Int) < b' := fun z => c (decide_eq_true z);have e : b' = 0 := by omega
   subst e;walk_at "r";have e2 : (a' : Int) = ((Int.gcd a b : Nat) : Int) := by
    rw [<- hg, Int.gcd_zero_right];omega
   rw [e2];exact k H' sm
abbrev fr (x : Vbtaam.Frac) : List V := [.int x.num, .int x.den]
def spLowest : Sp := fun vs H Q _ => ∃ a b : Int, vs = [.int a, .int b] /\ 0 <= a /\ 0 < b /\ bl a <= 130000000 /\ bl b <= 130000000 /\
 ∀ (H' : Hp) (p : Addr), Same H H' -> H p = none -> H' p = some (.tup (fr (Vbtaam.frac a.toNat b.toNat))) -> Q (.ref p) H'
theorem frac_fr {a b : Int} (h0 : 0 <= a) (h : 0 < b) : ([.int (a / (Int.gcd a b : Nat)), .int (b / (Int.gcd a b : Nat))] : List V) = fr (Vbtaam.frac a.toNat b.toNat) := by
 obtain ⟨x, rfl⟩ : ∃ x : Nat, a = x := ⟨a.toNat, by omega⟩;obtain ⟨y, rfl⟩ : ∃ y : Nat, b = y := ⟨b.toNat, by omega⟩;have hy : 0 < y := by omega
 have hg : 0 < Nat.gcd x y := Nat.gcd_pos_of_pos_right x hy;have e : Vbtaam.frac x y = ⟨x / Nat.gcd x y, y / Nat.gcd x y⟩ := by
  unfold Vbtaam.frac;simp only;rw [if_neg (by omega)]
 show _ = fr (Vbtaam.frac x y);rw [e];rfl
theorem ok_lowest (F : Fun K "lowest" "lowest" s_lowest f fd) (T : Txt P K mg t) (D_common_measure : Def P w K mg base 35 "common_measure" p_common_measure spCm) : FnOk P w K mg base CX0 36 f fd p_lowest spLowest := by
 refine F.ok sc_lowest (fun vs H Q E h => ?_) (fun cdv A outer s H vs Q E hr h => ?_)
 ·obtain ⟨L, S, rfl, _⟩ := h;rfl
 ·obtain ⟨a, b, rfl, a0, b0, ba, bb, k⟩ := h;have nd := sc_lowest.nd;have BG : BigOk _ := big_cx (CX := CX0) (P := P) (w := w) (K := K) (mg := mg) (base := base) (outer := outer) (H := H) (E := E) sc_lowest T.tree (by decide) hr;refine ⟨_, (pss_cons (ps_set (i := 2) nd rfl (by walk_at "o") (pe_def D_common_measure (hr.mono (by decide)) rfl (pa_cons (pv 0) (pa_cons (pv 1) pa_nil)))) (pss_one (ps_ret (pe_tup (pa_cons (pe_op (op_fdivB BG) (pv 0) (pv 2)) (pa_cons (pe_op (op_fdivB BG) (pv 1) (pv 2)) pa_nil)))))), ?_⟩;walk_at "r";refine ⟨a, b, rfl, a0, by omega, ba, bb, fun H1 s1 => ?_⟩;walk_at "r";have gp : (0 : Int) < ((Int.gcd a b : Nat) : Int) := by
   have : 0 < Int.gcd a b := Int.gcd_pos_of_ne_zero_right _ (by omega);omega
  refine rd_i (show (0 : Int) < _ from gp) ?_;walk_at "r";refine rd_i (show (0 : Int) < _ from gp) ?_;walk_at "r";rw [frac_fr a0 b0];refine rd_tupE rfl fun p hp => ?_;exact k _ p (s1.trans (Same.new hp)) (s1.free hp) upd_same
def OutF (H : Hp) (Q : VK) (x : Vbtaam.Frac) : Prop := ∀ (H' : Hp) (p : Addr), Same H H' -> H p = none -> H' p = some (.tup (fr x)) -> Q (.ref p) H'
abbrev FAt (K : PySem.W.Frag) (H : Hp) (a : Addr) (x : Vbtaam.Frac) : Prop := SqT K H a (fr x)
theorem FAt.same {H H' : Hp} {a : Addr} {x : Vbtaam.Frac} (h : FAt K H a x) (s : Same H H') : FAt K H' a x := s.sqT h
def spPlusI (K : PySem.W.Frag) : Sp := fun vs H Q _ => ∃ (a b : Addr) (x0 x1 y0 y1 : Int), vs = [.ref a, .ref b] /\ SqT K H a [.int x0, .int x1] /\ SqT K H b [.int y0, .int y1] /\ 0 < x1 /\ 0 < y1 /\ 0 <= x0 * y1 + y0 * x1 /\
 bl x0 <= 60000000 /\ bl x1 <= 60000000 /\ bl y0 <= 60000000 /\ bl y1 <= 60000000 /\ OutF H Q (Vbtaam.frac (x0 * y1 + y0 * x1).toNat (x1 * y1).toNat)
theorem ok_plus (F : Fun K "plus" "plus" s_plus f fd) (T : Txt P K mg t) (D_lowest : Def P w K mg base 36 "lowest" p_lowest spLowest) : FnOk P w K mg base CX0 37 f fd p_plus (spPlusI K) := by
 refine F.ok sc_plus (fun vs H Q E h => ?_) (fun cdv A outer s H vs Q E hr h => ?_)
 ·obtain ⟨a, b, x0, x1, y0, y1, rfl, _⟩ := h;rfl
 ·obtain ⟨a, b, x0, x1, y0, y1, rfl, ha, hb, xp, yp, nn, b1, b2, b3, b4, k⟩ := h;refine ⟨_, (pss_one (ps_ret (pe_def D_lowest (hr.mono (by decide)) rfl (pa_cons (pe_op op_add (pe_op op_mulB (pe_ix ix_tup (pv 0) pe_int (fun _ _ => rfl)) (pe_ix ix_tup (pv 1) pe_int (fun _ _ => rfl))) (pe_op op_mulB (pe_ix ix_tup (pv 1) pe_int (fun _ _ => rfl)) (pe_ix ix_tup (pv 0) pe_int (fun _ _ => rfl)))) (pa_cons (pe_op op_mulB (pe_ix ix_tup (pv 0) pe_int (fun _ _ => rfl)) (pe_ix ix_tup (pv 1) pe_int (fun _ _ => rfl))) pa_nil))))), ?_⟩;walk_at "r";refine rd_i (mulOk b1 b4 (by decide)) ?_;walk_at "r";refine rd_i (mulOk b3 b2 (by decide)) ?_;walk_at "r";refine rd_i (mulOk b2 b4 (by decide)) ?_;walk_at "r";have m1 := Nat.le_trans (bl_mul x0 y1) (Nat.add_le_add b1 b4);have m2 := Nat.le_trans (bl_mul y0 x1) (Nat.add_le_add b3 b2);have m3 := Nat.le_trans (bl_mul x1 y1) (Nat.add_le_add b2 b4);exact ⟨_, _, rfl, nn, Int.mul_pos xp yp, Nat.le_trans (bl_add m1 m2) (by decide), Nat.le_trans m3 (by decide), fun H' p s1 hp hq => k H' p s1 hp hq⟩
def spPlus (K : PySem.W.Frag) : Sp := fun vs H Q _ => ∃ (a b : Addr) (x y : Vbtaam.Frac), vs = [.ref a, .ref b] /\ FAt K H a x /\ FAt K H b y /\ 0 < x.den /\ 0 < y.den /\ FB 60000000 x /\ FB 60000000 y /\ OutF H Q (Vbtaam.plus x y)
theorem plus_of {vs : List V} {H : Hp} {Q : VK} {E : XK} (h : spPlus K vs H Q E) : spPlusI K vs H Q E := by
 obtain ⟨a, b, x, y, rfl, ha, hb, xp, yp, bx, by_, k⟩ := h;refine ⟨a, b, x.num, x.den, y.num, y.den, rfl, ha, hb, by omega, by omega, ?_, bx.num, bx.den, by_.num, by_.den, ?_⟩
 ·have h1 : (0 : Int) <= (x.num : Int) * (y.den : Int) := Int.mul_nonneg (by omega) (by omega);have h2 : (0 : Int) <= (y.num : Int) * (x.den : Int) := Int.mul_nonneg (by omega) (by omega);omega
 ·exact k
def spMinus (K : PySem.W.Frag) : Sp := fun vs H Q _ => ∃ (a b : Addr) (x y : Vbtaam.Frac), vs = [.ref a, .ref b] /\ FAt K H a x /\ FAt K H b y /\ Low x /\ Low y /\ q y <= q x /\ FB 60000000 x /\ FB 60000000 y /\ OutF H Q (Vbtaam.less x y)
theorem ok_minus (F : Fun K "minus" "minus" s_minus f fd) (T : Txt P K mg t) (D_plus : Def P w K mg base 37 "plus" p_plus (spPlusI K)) : FnOk P w K mg base CX0 38 f fd p_minus (spMinus K) := by
 refine F.ok sc_minus (fun vs H Q E h => ?_) (fun cdv A outer s H vs Q E hr h => ?_)
 ·obtain ⟨a, b, x, y, rfl, _⟩ := h;rfl
 ·obtain ⟨a, b, x, y, rfl, ha, hb, lx, ly, le, bx, by_, k⟩ := h;refine ⟨_, (pss_one (ps_ret (pe_def D_plus (hr.mono (by decide)) rfl (pa_cons (pv 0) (pa_cons (pe_tup (pa_cons (pe_un un_neg (pe_ix ix_tup (pv 1) pe_int (fun _ _ => rfl))) (pa_cons (pe_ix ix_tup (pv 1) pe_int (fun _ _ => rfl)) pa_nil))) pa_nil))))), ?_⟩;walk_at "r";refine rd_tupE rfl fun p hp => ?_;walk_at "r";have s1 : Same H (upd H p (.tup [.int (-(y.num : Int)), .int y.den])) := Same.new hp;have le' := (le_iff ly lx).mp le;have e : (x.num : Int) * (y.den : Int) + -(y.num : Int) * (x.den : Int) = ((x.num * y.den - y.num * x.den : Nat) : Int) := by
   rw [Int.ofNat_sub le', Int.neg_mul];rfl
  have xp := lx.pos;have yp := ly.pos;refine ⟨a, p, x.num, x.den, -(y.num : Int), y.den, rfl, s1.sqT ha, SqT.of upd_same, by omega, by omega, by rw [e]; omega, bx.num, bx.den, by rw [bl_neg]; exact by_.num, by_.den, fun H' p' s2 hp' hq => ?_⟩;rw [e] at hq;exact k H' p' (s1.trans s2) (s1.free hp') hq
def spTimes (K : PySem.W.Frag) : Sp := fun vs H Q _ => ∃ (a b : Addr) (x y : Vbtaam.Frac), vs = [.ref a, .ref b] /\ FAt K H a x /\ FAt K H b y /\ Low x /\ Low y /\ FB 60000000 x /\ FB 60000000 y /\ OutF H Q (Vbtaam.times x y)
theorem ok_times (F : Fun K "times" "times" s_times f fd) (T : Txt P K mg t) (D_common_measure : Def P w K mg base 35 "common_measure" p_common_measure spCm) : FnOk P w K mg base CX0 36 f fd p_times (spTimes K) := by
 refine F.ok sc_times (fun vs H Q E h => ?_) (fun cdv A outer s H vs Q E hr h => ?_)
 ·obtain ⟨a, b, x, y, rfl, _⟩ := h;rfl
 ·obtain ⟨a, b, x, y, rfl, ha, hb, lx, ly, bx, by_, k⟩ := h;have nd := sc_times.nd;have BG : BigOk _ := big_cx (CX := CX0) (P := P) (w := w) (K := K) (mg := mg) (base := base) (outer := outer) (H := H) (E := E) sc_times T.tree (by decide) hr;have xp := lx.pos;have yp := ly.pos;have g1 : 0 < Nat.gcd x.num y.den := Nat.gcd_pos_of_pos_right _ yp;have g2 : 0 < Nat.gcd y.num x.den := Nat.gcd_pos_of_pos_right _ xp;refine ⟨_, (pss_cons (ps_set (i := 2) nd rfl (by walk_at "o") (pe_def D_common_measure (hr.mono (by decide)) rfl (pa_cons (pe_ix ix_tup (pv 0) pe_int (fun _ _ => rfl)) (pa_cons (pe_ix ix_tup (pv 1) pe_int (fun _ _ => rfl)) pa_nil)))) (pss_cons (ps_set (i := 3) nd rfl (by walk_at "o") (pe_def D_common_measure (hr.mono (by decide)) rfl (pa_cons (pe_ix ix_tup (pv 1) pe_int (fun _ _ => rfl)) (pa_cons (pe_ix ix_tup (pv 0) pe_int (fun _ _ => rfl)) pa_nil)))) (pss_one (ps_ret (pe_tup (pa_cons (pe_op op_mulB (pe_op (op_fdivB BG) (pe_ix ix_tup (pv 0) pe_int (fun _ _ => rfl)) (pv 2)) (pe_op (op_fdivB BG) (pe_ix ix_tup (pv 1) pe_int (fun _ _ => rfl)) (pv 3))) (pa_cons (pe_op op_mulB (pe_op (op_fdivB BG) (pe_ix ix_tup (pv 0) pe_int (fun _ _ => rfl)) (pv 3)) (pe_op (op_fdivB BG) (pe_ix ix_tup (pv 1) pe_int (fun _ _ => rfl)) (pv 2))) pa_nil))))))), ?_⟩;walk_at "r";refine ⟨x.num, y.den, rfl, by omega, by omega, Nat.le_trans bx.num (by decide), Nat.le_trans by_.den (by decide), fun H1 s1 => ?_⟩;have ha1 := ha.same s1;have hb1 := hb.same s1;walk_at "r";refine ⟨y.num, x.den, rfl, by omega, by omega, Nat.le_trans by_.num (by decide), Nat.le_trans bx.den (by decide), fun H2 s2 => ?_⟩;have ha2 := ha1.same s2;have hb2 := hb1.same s2;walk_at "r";refine rd_i (show (0 : Int) < ((Nat.gcd x.num y.den : Nat) : Int) by omega) ?_;walk_at "r";refine rd_i (show (0 : Int) < ((Nat.gcd y.num x.den : Nat) : Int) by omega) ?_;walk_at "r";refine rd_i (mulOk (m := 60000000) (n := 60000000) (Nat.le_trans (bl_nle (Nat.div_le_self x.num (Nat.gcd x.num y.den))) bx.num) (Nat.le_trans (bl_nle (Nat.div_le_self y.num (Nat.gcd y.num x.den))) by_.num) (by decide)) ?_;walk_at "r";refine rd_i (show (0 : Int) < ((Nat.gcd y.num x.den : Nat) : Int) by omega) ?_;walk_at "r";refine rd_i (show (0 : Int) < ((Nat.gcd x.num y.den : Nat) : Int) by omega) ?_;walk_at "r";refine rd_i (mulOk (m := 60000000) (n := 60000000) (Nat.le_trans (bl_nle (Nat.div_le_self x.den (Nat.gcd y.num x.den))) bx.den) (Nat.le_trans (bl_nle (Nat.div_le_self y.den (Nat.gcd x.num y.den))) by_.den) (by decide)) ?_;walk_at "r";refine rd_tupE rfl fun p hp => ?_;refine k _ p ((s1.trans s2).trans (Same.new hp)) ((s1.trans s2).free hp) ?_;have e : Vbtaam.times x y = _ := (cross xp yp lx.cop ly.cop).symm;rw [e];exact upd_same
def spOver (K : PySem.W.Frag) : Sp := fun vs H Q _ => ∃ (a b : Addr) (x y : Vbtaam.Frac), vs = [.ref a, .ref b] /\ FAt K H a x /\ FAt K H b y /\ Low x /\ Low y /\ 0 < y.num /\ FB 60000000 x /\ FB 60000000 y /\ OutF H Q (Vbtaam.over x y)
theorem ok_over (F : Fun K "over" "over" s_over f fd) (T : Txt P K mg t) (D_times : Def P w K mg base 36 "times" p_times (spTimes K)) : FnOk P w K mg base CX0 37 f fd p_over (spOver K) := by
 refine F.ok sc_over (fun vs H Q E h => ?_) (fun cdv A outer s H vs Q E hr h => ?_)
 ·obtain ⟨a, b, x, y, rfl, _⟩ := h;rfl
 ·obtain ⟨a, b, x, y, rfl, ha, hb, lx, ly, np, bx, by_, k⟩ := h;refine ⟨_, (pss_one (ps_ret (pe_def D_times (hr.mono (by decide)) rfl (pa_cons (pv 0) (pa_cons (pe_tup (pa_cons (pe_ix ix_tup (pv 1) pe_int (fun _ _ => rfl)) (pa_cons (pe_ix ix_tup (pv 1) pe_int (fun _ _ => rfl)) pa_nil))) pa_nil))))), ?_⟩;walk_at "r";refine rd_tupE rfl fun p hp => ?_;walk_at "r";have s1 : Same H (upd H p (.tup [.int y.den, .int y.num])) := Same.new hp;refine ⟨a, p, x, ⟨y.den, y.num⟩, rfl, s1.sqT ha, SqT.of upd_same, lx, ⟨np, by rw [Nat.gcd_comm]; exact ly.cop⟩, bx, ⟨by_.den, by_.num⟩, fun H' p' s2 hp' hq => ?_⟩;exact k H' p' (s1.trans s2) (s1.free hp') hq
def spMore (K : PySem.W.Frag) : Sp := fun vs H Q _ => ∃ (a b : Addr) (x y : Vbtaam.Frac), vs = [.ref a, .ref b] /\ FAt K H a x /\ FAt K H b y /\ FB 60000000 x /\ FB 60000000 y /\ Q (.bl (!Vbtaam.atMost x y)) H
theorem ok_is_more (F : Fun K "is_more" "is_more" s_is_more f fd) : FnOk P w K mg base CX0 34 f fd p_is_more (spMore K) := by
 refine F.ok sc_is_more (fun vs H Q E h => ?_) (fun cdv A outer s H vs Q E hr h => ?_)
 ·obtain ⟨a, b, x, y, rfl, _⟩ := h;rfl
 ·obtain ⟨a, b, x, y, rfl, ha, hb, bx, by_, k⟩ := h;refine ⟨_, (pss_one (ps_ret (pe_cmpR op_gt (pe_op op_mulB (pe_ix ix_tup (pv 0) pe_int (fun _ _ => rfl)) (pe_ix ix_tup (pv 1) pe_int (fun _ _ => rfl))) (pe_op op_mulB (pe_ix ix_tup (pv 1) pe_int (fun _ _ => rfl)) (pe_ix ix_tup (pv 0) pe_int (fun _ _ => rfl))) (nomark _)))), ?_⟩;walk_at "r";refine rd_i (mulOk bx.num by_.den (by decide)) ?_;walk_at "r";refine rd_i (mulOk by_.num bx.den (by decide)) ?_;walk_at "r";have e : decide ((y.num : Int) * (x.den : Int) < (x.num : Int) * (y.den : Int)) = !Vbtaam.atMost x y := by
   unfold Vbtaam.atMost
   by_cases h : x.num * y.den <= y.num * x.den
   ·rw [decide_eq_true h, decide_eq_false (by have : (x.num : Int) * y.den <= y.num * x.den := by exact_mod_cast h
                                              omega)]
    rfl
   ·rw [decide_eq_false h, decide_eq_true (by have : (y.num : Int) * x.den < x.num * y.den := by exact_mod_cast (by omega : y.num * x.den < x.num * y.den)
                                              exact this)]
    rfl
  rw [e];exact k
def spLesser (K : PySem.W.Frag) : Sp := fun vs H Q _ => ∃ (a b : Addr) (x y : Vbtaam.Frac), vs = [.ref a, .ref b] /\ FAt K H a x /\ FAt K H b y /\ FB 60000000 x /\ FB 60000000 y /\ ∀ p, FAt K H p (Vbtaam.least x y) -> Q (.ref p) H
theorem ok_lesser (F : Fun K "lesser" "lesser" s_lesser f fd) (D_is_more : Def P w K mg base 34 "is_more" p_is_more (spMore K)) : FnOk P w K mg base CX0 35 f fd p_lesser (spLesser K) := by
 refine F.ok sc_lesser (fun vs H Q E h => ?_) (fun cdv A outer s H vs Q E hr h => ?_)
 ·obtain ⟨a, b, x, y, rfl, _⟩ := h;rfl
 ·obtain ⟨a, b, x, y, rfl, ha, hb, bx, by_, k⟩ := h;refine ⟨_, (pss_cons (ps_if (pt_val (pe_def D_is_more (hr.mono (by decide)) rfl (pa_cons (pv 0) (pa_cons (pv 1) pa_nil)))) (pss_one (ps_ret (pv 1))) pss_nil) (pss_one (ps_ret (pv 0)))), ?_⟩;walk_at "r";refine ⟨a, b, x, y, rfl, ha, hb, bx, by_, ?_⟩;walk_at "r";cases e : Vbtaam.atMost x y with
  | true =>
   refine iteF ?_;walk_at "r";refine k a ?_;unfold Vbtaam.least;rw [if_pos e];exact ha
  | false =>
   refine iteT ?_;walk_at "r";refine k b ?_;unfold Vbtaam.least;rw [if_neg (by rw [e]; decide)];exact hb
def nl (l : List Nat) : List V := l.map fun n : Nat => V.int (n : Int)
def OutN (H : Hp) (Q : VK) (l : List Nat) : Prop := ∀ (H' : Hp) (p : Addr), Same H H' -> H p = none -> H' p = some (.lst (nl l)) -> Q (.ref p) H'
def spShares1 : Sp := fun vs H Q _ => ∃ kd : Nat, vs = [.int kd] /\ kd < 3 /\ OutN H Q (([0, 0, 0] : List Nat).set kd 1)
theorem ok_shares_of_one_kind (F : Fun K "shares_of_one_kind" "shares_of_one_kind" s_shares_of_one_kind f fd) (T : Txt P K mg t) : FnOk P w K mg base CX0 34 f fd p_shares_of_one_kind spShares1 := by
 refine F.ok sc_shares_of_one_kind (fun vs H Q E h => ?_) (fun cdv A outer s H vs Q E hr h => ?_)
 ·obtain ⟨a, rfl, _⟩ := h;rfl
 ·obtain ⟨kd, rfl, hk, k⟩ := h;have nd := sc_shares_of_one_kind.nd;refine ⟨_, (pss_cons (ps_setLc (i := 1) rfl nd rfl rfl (sw_true rfl rfl rfl rfl) (pi_range1 rfl T.b_range (pa_cons (pe_cI T.c_KINDS rfl) pa_nil)) (own := [("other", 2)]) (show BlkOk N_shares_of_one_kind (defScope s_shares_of_one_kind) _ _ from ⟨rfl, by decide +kernel, by decide +kernel, by decide +kernel, by decide +kernel⟩) (fun _ _ _ _ _ => pg_name (i := 2) nd rfl (by walk_at "o")) (fun _ _ _ _ _ => pts_nil) (fun _ _ _ _ _ => pe_int)) (pss_cons (ps_asg pe_int (pg_sub (pv 1) (pv 0) set_list)) (pss_one (ps_ret (pv 1))))), ?_⟩;refine rd_seq (rd_asg ⟨3, rfl, by decide, by decide, fun D hD => ?_⟩);refine lc_range (lo := 0) (n := (3 : Int).toNat) (fun i H' => H' D = some (.lst (List.replicate i (V.int 0))) /\ Same H H') ⟨upd_same, Same.new hD⟩ ?_ ?_
  ·rintro i H' hi ⟨h1, h2⟩;refine rd_gname ⟨rfl, ?_⟩;walk_at "r";refine iteT ?_;walk_at "r";refine ⟨_, h1, by rw [List.length_replicate]; exact Nat.lt_trans hi (by decide), ?_, ?_⟩
   ·rw [upd_same, List.replicate_succ']
   ·intro b o e;rw [upd_ne (ne_of_none e hD)];exact h2 b o e
  ·rintro H' ⟨h1, h2⟩;walk_at "r";refine ⟨D, _, kd, kd, rfl, rfl, h1, ?_, ?_⟩
   ·show ixN 3 _ = _;unfold ixN;rw [if_pos (by omega), if_pos (by omega)];simp
   ·walk_at "r";refine k _ D (fun b o e => ?_) hD ?_
    ·rw [upd_ne (ne_of_none e hD)];exact h2 b o e
    ·rw [upd_same]
     match kd, hk with
     | 0, _ => rfl
     | 1, _ => rfl
     | 2, _ => rfl
theorem fb_over {m n : Nat} {x y : Vbtaam.Frac} (hx : 0 < x.den) (hy : 0 < y.num) (bx : FB m x) (by_ : FB n y) : FB (m + n) (Vbtaam.over x y) := by
 unfold Vbtaam.over;refine fb_frac (Nat.mul_pos hx hy) ?_ ?_
 ·have := bl_mul (x.num : Int) (y.den : Int);have h1 := bx.num;have h2 := by_.den;have e : ((x.num * y.den : Nat) : Int) = (x.num : Int) * (y.den : Int) := by rfl
  rw [e];omega
 ·have := bl_mul (x.den : Int) (y.num : Int);have h1 := bx.den;have h2 := by_.num;have e : ((x.den * y.num : Nat) : Int) = (x.den : Int) * (y.num : Int) := by rfl
  rw [e];omega
theorem fb_whole {n m : Nat} (h : bl (m : Int) <= n) (h1 : 1 <= n) : FB n (Vbtaam.whole m) := ⟨h, Nat.le_trans (show bl ((1 : Nat) : Int) <= 1 by decide) h1⟩
structure Sh3 (ss : List Nat) (a b d : Nat) : Prop where
 eq : ss = [a, b, d]
 pos : 0 < a + b + d
 bit : bl ((a + b + d : Nat) : Int) <= 402401
def spMixed (K : PySem.W.Frag) : Sp := fun vs H Q _ => ∃ (ca sa ta oa : Addr) (c tt : Vbtaam.Frac) (ss os : List Nat) (a b d a' b' d' : Nat), vs = [.ref ca, .ref sa, .ref ta, .ref oa] /\ FAt K H ca c /\ SqL K H sa (nl ss) /\ FAt K H ta tt /\ SqL K H oa (nl os) /\
 Low c /\ Low tt /\ 0 < tt.num /\ FB 2013 c /\ FB 2013 tt /\ Sh3 ss a b d /\ Sh3 os a' b' d' /\ OutN H Q (mixS c ss tt os)
theorem ok_mixed_shares (F : Fun K "mixed_shares" "mixed_shares" s_mixed_shares f fd) (T : Txt P K mg t) (D_over : Def P w K mg base 37 "over" p_over (spOver K)) : FnOk P w K mg base CX0 38 f fd p_mixed_shares (spMixed K) := by
 refine F.ok sc_mixed_shares (fun vs H Q E h => ?_) (fun cdv A outer s H vs Q E hr h => ?_)
 ·obtain ⟨_, _, _, _, _, _, _, _, _, _, _, _, _, _, rfl, _⟩ := h;rfl
 ·obtain ⟨ca, sa, ta, oa, c, tt, ss, os, a, b, d, a', b', d', rfl, hc, hs, ht, ho, lc, lt, tp, bc, bt, ⟨rfl, sp1, sb1⟩, ⟨rfl, sp2, sb2⟩, k⟩ := h;have nd := sc_mixed_shares.nd;refine ⟨_, (pss_cons (ps_set (i := 4) nd rfl (by walk_at "o") (pe_def D_over (hr.mono (by decide)) rfl (pa_cons (pv 0) (pa_cons (pe_tup (pa_cons (pe_callB (cr_sum rfl) (by rfl) T.b_sum bt_sum (pa_cons (pv 1) pa_nil)) (pa_cons pe_int pa_nil))) pa_nil)))) (pss_cons (ps_set (i := 5) nd rfl (by walk_at "o") (pe_def D_over (hr.mono (by decide)) rfl (pa_cons (pv 2) (pa_cons (pe_tup (pa_cons (pe_callB (cr_sum rfl) (by rfl) T.b_sum bt_sum (pa_cons (pv 3) pa_nil)) (pa_cons pe_int pa_nil))) pa_nil)))) (pss_cons (ps_set (i := 6) nd rfl (by walk_at "o") (pe_def D_over (hr.mono (by decide)) rfl (pa_cons (pv 4) (pa_cons (pv 5) pa_nil)))) (pss_one (ps_ret (pe_lc rfl nd (pi_range1 rfl T.b_range (pa_cons (pe_cI T.c_KINDS rfl) pa_nil)) (own := [("kind", 7)]) (show BlkOk N_mixed_shares (defScope s_mixed_shares) _ _ from ⟨rfl, by decide +kernel, by decide +kernel, by decide +kernel, by decide +kernel⟩) (fun _ _ _ _ _ => pg_name (i := 7) nd rfl (by walk_at "o")) (fun _ _ _ _ _ => pts_nil) (fun _ _ _ _ _ => (pe_op op_add (pe_op op_mulB (pe_ix (ix_listK (K := K) rfl) (pv 1) (pv 7) (fun _ _ => rfl)) (pe_ix (ix_tupK (K := K) rfl) (pv 6) pe_int (fun _ _ => rfl))) (pe_op op_mulB (pe_ix (ix_listK (K := K) rfl) (pv 3) (pv 7) (fun _ _ => rfl)) (pe_ix (ix_tupK (K := K) rfl) (pv 6) pe_int (fun _ _ => rfl))))))))))), ?_⟩;walk_at "r";refine ⟨sa, [(a : Int), b, d], rfl, hs, ?_⟩;walk_at "r";have e1 : ([(a : Int), b, d] : List Int).sum = ((a + b + d : Nat) : Int) := by simp; omega
  rw [e1];refine rd_tupE rfl fun p1 hp1 => ?_;walk_at "r";have s1 : Same H (upd H p1 (.tup [.int ((a + b + d : Nat) : Int), .int 1])) := Same.new hp1;refine ⟨ca, p1, c, Vbtaam.whole (a + b + d), rfl, hc.same s1, SqT.of upd_same, lc, low_whole _, sp1, bc.mono (by decide), fb_whole (Nat.le_trans sb1 (by decide)) (by decide), fun H2 q2 s2 n2 h2 => ?_⟩;have z2 := s1.trans s2;walk_at "r";refine ⟨oa, [(a' : Int), b', d'], rfl, z2.seq ho, ?_⟩;walk_at "r";have e2 : ([(a' : Int), b', d'] : List Int).sum = ((a' + b' + d' : Nat) : Int) := by simp; omega
  rw [e2];refine rd_tupE rfl fun p3 hp3 => ?_;walk_at "r";have s3 : Same H2 (upd H2 p3 (.tup [.int ((a' + b' + d' : Nat) : Int), .int 1])) := Same.new hp3;have z3 := z2.trans s3;refine ⟨ta, p3, tt, Vbtaam.whole (a' + b' + d'), rfl, ht.same z3, SqT.of upd_same, lt, low_whole _, sp2, bt.mono (by decide), fb_whole (Nat.le_trans sb2 (by decide)) (by decide), fun H4 q4 s4 n4 h4 => ?_⟩;have z4 := z3.trans s4;have h2' : H4 q2 = some (.tup (fr (Vbtaam.over c (Vbtaam.whole (a + b + d))))) := s4 _ _ (s3 _ _ h2);walk_at "r";have f1 : FB 404414 (Vbtaam.over c (Vbtaam.whole (a + b + d))) := fb_over (m := 2013) (n := 402401) lc.pos sp1 bc (fb_whole sb1 (by decide));have f2 : FB 404414 (Vbtaam.over tt (Vbtaam.whole (a' + b' + d'))) := fb_over (m := 2013) (n := 402401) lt.pos sp2 bt (fb_whole sb2 (by decide));have np := over_num_pos lt (low_whole (a' + b' + d')) tp sp2;refine ⟨q2, q4, _, _, rfl, SqT.of h2', SqT.of h4, low_over lc sp1, low_over lt sp2, np, f1.mono (by decide), f2.mono (by decide), fun H5 q5 s5 n5 h5 => ?_⟩;have z5 := z4.trans s5;have fw : FB 808828 (weight c tt (a + b + d) (a' + b' + d')) := fb_over (m := 404414) (n := 404414) (low_over lc sp1).pos np f1 f2;have h5 : H5 q5 = some (.tup (fr (weight c tt (a + b + d) (a' + b' + d')))) := h5;have es := mixS3 c tt a b d a' b' d';generalize weight c tt (a + b + d) (a' + b' + d') = wt at *;walk_at "r";refine ⟨3, rfl, by decide, by decide, fun D hD => ?_⟩;refine lc_range (lo := 0) (n := (3 : Int).toNat) (fun i H' => H' D = some (.lst ((nl (mixS c [a, b, d] tt [a', b', d'])).take i)) /\ Same H5 H') ⟨upd_same, Same.new hD⟩ ?_ ?_
  ·rintro i H' hi ⟨h6, s6⟩;have hi : i < 3 := hi;obtain ⟨x, y, hx, hy, hxb, hyb, hxy⟩ : ∃ x y : Nat, (nl [a, b, d])[i]? = some (.int x) /\ (nl [a', b', d'])[i]? = some (.int y) /\ x <= a + b + d /\ y <= a' + b' + d' /\ (nl (mixS c [a, b, d] tt [a', b', d']))[i]? = some (.int ((x : Int) * wt.num + (y : Int) * wt.den)) := by
    rw [es]
    match i, hi with
    | 0, _ => exact ⟨a, a', rfl, rfl, by omega, by omega, rfl⟩
    | 1, _ => exact ⟨b, b', rfl, rfl, by omega, by omega, rfl⟩
    | 2, _ => exact ⟨d, d', rfl, rfl, by omega, by omega, rfl⟩
   have z6 := z5.trans s6;have hw : SqT K H' q5 (fr wt) := SqT.of (s6 _ _ h5);have hs6 := z6.seq hs;have ho6 := z6.seq ho;refine rd_gname ⟨rfl, ?_⟩;walk_at "r";refine iteT ?_;walk_at "r";refine rd_ixL hs6 (at_of (j := i) (by omega) hx) ?_;walk_at "r";refine rd_i (mulOk (m := 402401) (n := 808828) (Nat.le_trans (bl_nle hxb) sb1) fw.num (by decide)) ?_;walk_at "r";refine rd_ixL ho6 (at_of (j := i) (by omega) hy) ?_;walk_at "r";refine rd_i (mulOk (m := 402401) (n := 808828) (Nat.le_trans (bl_nle hyb) sb2) fw.den (by decide)) ?_;walk_at "r";refine ⟨_, h6, ?_, ?_, ?_⟩
   ·rw [List.length_take];exact Nat.lt_of_le_of_lt (Nat.min_le_left _ _) (Nat.lt_trans hi (by decide))
   ·rw [upd_same, List.take_add_one, hxy];rfl
   ·intro b o e;rw [upd_ne (ne_of_none e hD)];exact s6 b o e
  ·rintro H' ⟨h6, s6⟩;refine k H' D (z5.trans s6) (z5.free hD) ?_;rw [h6];show some (HO.lst ((nl (mixS c [a, b, d] tt [a', b', d'])).take 3)) = _;rw [es];rfl
theorem lk_eq {g : Str} {x : V} {l : List (Str × V)} : ((g, x) :: l).lookup g = some x := by rw [List.lookup_cons, beq_self_eq_true]
theorem lk_ne {f g : Str} {x : V} {l : List (Str × V)} (h : (f == g) = false) : ((g, x) :: l).lookup f = l.lookup f := by rw [List.lookup_cons, h]
theorem put_eq {g : Str} {x y : V} {l : List (Str × V)} : putF g y ((g, x) :: l) = (g, y) :: l := if_pos rfl
theorem put_ne {f g : Str} {x y : V} {l : List (Str × V)} (h : ¬ g = f) : putF f y ((g, x) :: l) = (g, x) :: putF f y l := if_neg h
def restOf : Option Nat -> List (Str × V)
 | none => []
 | some n => [("size", .int n)]
def mf (c s k : Addr) (o : Option Nat) : List (Str × V) := ("content", .ref c) :: ("shares", .ref s) :: ("known_strengths", .ref k) :: restOf o
theorem rest_no (o : Option Nat) {m : Str} (h : (m == ("size" : Str)) = false) : (restOf o).lookup m = none := by
 cases o with
 | none => rfl
 | some n => exact lk_ne h
theorem mf_c (c s k : Addr) (o : Option Nat) : (mf c s k o).lookup ("content" : Str) = some (V.ref c) := lk_eq
theorem mf_s (c s k : Addr) (o : Option Nat) : (mf c s k o).lookup ("shares" : Str) = some (V.ref s) := (lk_ne (by decide +kernel)).trans lk_eq
theorem mf_k (c s k : Addr) (o : Option Nat) : (mf c s k o).lookup ("known_strengths" : Str) = some (V.ref k) := (lk_ne (by decide +kernel)).trans ((lk_ne (by decide +kernel)).trans lk_eq)
theorem mf_z (c s k : Addr) (n : Nat) : (mf c s k (some n)).lookup ("size" : Str) = some (V.int n) := (lk_ne (by decide +kernel)).trans ((lk_ne (by decide +kernel)).trans ((lk_ne (by decide +kernel)).trans lk_eq))
theorem mf_no (c s k : Addr) (o : Option Nat) {m : Str} (h1 : (m == ("content" : Str)) = false) (h2 : (m == ("shares" : Str)) = false) (h3 : (m == ("known_strengths" : Str)) = false) (h4 : (m == ("size" : Str)) = false) : (mf c s k o).lookup m = none :=
 (lk_ne h1).trans ((lk_ne h2).trans ((lk_ne h3).trans (rest_no o h4)))
theorem mf_len (c s k : Addr) (o : Option Nat) : (mf c s k o).length < 1000 := by
 cases o with
 | none => show 3 < 1000; decide
 | some n => show 4 < 1000; decide
theorem mf_pc (c s k : Addr) (o : Option Nat) (x : Addr) : putF "content" (.ref x) (mf c s k o) = mf x s k o := put_eq
theorem mf_ps (c s k : Addr) (o : Option Nat) (x : Addr) : putF "shares" (.ref x) (mf c s k o) = mf c x k o := (put_ne (by decide +kernel)).trans (congrArg _ put_eq)
theorem mf_pk (c s k : Addr) (o : Option Nat) (x : Addr) : putF "known_strengths" (.ref x) (mf c s k o) = mf c s x o := (put_ne (by decide +kernel)).trans (congrArg _ ((put_ne (by decide +kernel)).trans (congrArg _ put_eq)))
def Kn (K : PySem.W.Frag) (H : Hp) (ks : List Addr) (ss : List Nat) : Prop := ks = [] ∨ ∃ (a b d : Nat) (x y z : Addr), ss = [a, b, d] /\ ks = [x, y, z] /\ FAt K H x (Vbtaam.frac a (a + b + d)) /\ FAt K H y (Vbtaam.frac b (a + b + d)) /\ FAt K H z (Vbtaam.frac d (a + b + d))
structure MAd (K : PySem.W.Frag) (av : List Addr) (H : Hp) (p C dx c s k : Addr) (ks : List Addr) (o : Option Nat) (m : Mx) : Prop where
 at_ : H p = some (.ins C dx (mf c s k o))
 con : FAt K H c m.c
 sh : H s = some (.lst (nl m.ss))
 kn : H k = some (.lst (ks.map V.ref))
 sa : s ∉ av
 ka : k ∉ av
 kk : Kn K H ks m.ss
def MAt (K : PySem.W.Frag) (av : List Addr) (H : Hp) (p C : Addr) (o : Option Nat) (m : Mx) : Prop := ∃ (dx c s k : Addr) (ks : List Addr), MAd K av H p C dx c s k ks o m
theorem _root_.L2.But.sqT {p a : Addr} {H H' : Hp} {xs : List V} {o : HO} (s : But p H H') (hp : H p = some o) (no : ∀ ys, o ≠ .tup ys) (nf : ∀ ob u, o ≠ .frz ob u) (h : SqT K H a xs) : SqT K H' a xs := by
 rcases h with (h | ⟨ob, h⟩) | h
 ·exact .inl (.inl (s _ _ h fun e => by subst e; rw [hp] at h; exact no _ (Option.some.inj h)))
 ·exact .inl (.inr ⟨ob, s _ _ h fun e => by subst e; rw [hp] at h; exact nf _ _ (Option.some.inj h)⟩)
 ·exact .inr h
theorem Kn.imp {H H' : Hp} {ks : List Addr} {ss : List Nat} (i : ∀ a x, FAt K H a x -> FAt K H' a x) (h : Kn K H ks ss) : Kn K H' ks ss := by
 rcases h with h | ⟨a, b, d, x, y, z, e1, e2, h1, h2, h3⟩
 ·exact .inl h
 ·exact .inr ⟨a, b, d, x, y, z, e1, e2, i _ _ h1, i _ _ h2, i _ _ h3⟩
theorem _root_.L2.But.ins {p a C dx : Addr} {H H' : Hp} {fs : List (Str × V)} {xs : List V} (s : But p H H') (hp : H p = some (.ins C dx fs)) (h : SqT K H a xs) : SqT K H' a xs := s.sqT hp (fun _ e => by cases e) (fun _ _ e => by cases e) h
theorem _root_.L2.But.insL {p a C dx : Addr} {H H' : Hp} {fs : List (Str × V)} {xs : List V} (s : But p H H') (hp : H p = some (.ins C dx fs)) (h : H a = some (.lst xs)) : H' a = some (.lst xs) := s a _ h (ne_of h hp (by intro e; cases e))
theorem MAt.but {av : List Addr} {H H' : Hp} {p q C Cq dq : Addr} {o : Option Nat} {m : Mx} {fq : List (Str × V)} (h : MAt K av H p C o m) (s : But q H H') (hq : H q = some (.ins Cq dq fq)) (ne : p ≠ q) : MAt K av H' p C o m := by
 obtain ⟨dx, c, sA, k, ks, h1, h2, h3, h4, h5, h6, h7⟩ := h;exact ⟨dx, c, sA, k, ks, s _ _ h1 ne, s.ins hq h2, s.insL hq h3, s.insL hq h4, h5, h6, h7.imp fun _ _ => s.ins hq⟩
theorem MAt.same {av : List Addr} {H H' : Hp} {p C : Addr} {o : Option Nat} {m : Mx} (h : MAt K av H p C o m) (s : Same H H') : MAt K av H' p C o m := by
 obtain ⟨dx, c, sA, k, ks, h1, h2, h3, h4, h5, h6, h7⟩ := h;exact ⟨dx, c, sA, k, ks, s _ _ h1, s.sqT h2, s _ _ h3, s _ _ h4, h5, h6, h7.imp fun _ _ => s.sqT⟩
theorem MAt.butL {av : List Addr} {H H' : Hp} {p q C : Addr} {o : Option Nat} {m : Mx} {xs : List V} (h : MAt K av H p C o m) (s : But q H H') (hq : H q = some (.lst xs)) (hm : q ∈ av) : MAt K av H' p C o m := by
 obtain ⟨dx, c, sA, k, ks, h1, h2, h3, h4, h5, h6, h7⟩ := h;have i : ∀ {a : Addr} {xs : List V}, SqT K H a xs -> SqT K H' a xs := fun h => s.sqT hq (fun _ e => by cases e) (fun _ _ e => by cases e) h;exact ⟨dx, c, sA, k, ks, s _ _ h1 (ne_of h1 hq (by intro e; cases e)), i h2, s _ _ h3 (fun e => h5 (by rw [e]; exact hm)), s _ _ h4 (fun e => h6 (by rw [e]; exact hm)), h5, h6, h7.imp fun _ _ => i⟩
theorem MAt.ins {av : List Addr} {H : Hp} {p C : Addr} {o : Option Nat} {m : Mx} (h : MAt K av H p C o m) : ∃ dx fs, H p = some (.ins C dx fs) := by
 obtain ⟨dx, c, sA, k, ks, h1, _⟩ := h;exact ⟨dx, _, h1⟩
theorem nothing_eqv {x : Vbtaam.Frac} (h : Low x) : PyData.eqv (.tuple [.int x.num, .int x.den]) (.tuple [.int 0, .int 1]) = decide (x.num = 0) := by
 have e : PyData.eqv (.tuple [.int x.num, .int x.den]) (.tuple [.int 0, .int 1]) = (((x.num : Int) == 0) && (((x.den : Int) == 1) && true)) := by
  simp only [PyData.eqv, PyData.eqvAll]
 rw [e]
 by_cases h0 : x.num = 0
 ·have := zero_low h h0;subst this;rfl
 ·rw [decide_eq_false h0];have : ((x.num : Int) == 0) = false := by simp; omega
  rw [this];rfl
theorem dpF {H : Hp} {a : Addr} {x : Vbtaam.Frac} (h : FAt K H a x) : Dp K H (.ref a) (.tuple [.int x.num, .int x.den]) := .tup h (.cons (.int _) (.cons (.int _) .nil))
theorem rd_isN {H : Hp} {Q : VK} {a : Addr} {x : Vbtaam.Frac} (T : Txt P K mg t) (h : FAt K H a x) (l : Low x) (q : Q (.bl (decide (x.num = 0))) H) : rEqD K (.ref a) (.ref t.aN) H Q :=
 ⟨_, _, dpF h, .tup (T.n_NOTHING H) (.cons (.int _) (.cons (.int _) .nil)), rfl, rfl, by rw [nothing_eqv l]; exact q⟩
theorem rd_notN {H : Hp} {Q : VK} {a : Addr} {x : Vbtaam.Frac} (T : Txt P K mg t) (h : FAt K H a x) (l : Low x) (q : Q (.bl (!decide (x.num = 0))) H) : rNeD K (.ref a) (.ref t.aN) H Q :=
 ⟨_, _, dpF h, .tup (T.n_NOTHING H) (.cons (.int _) (.cons (.int _) .nil)), rfl, rfl, by rw [nothing_eqv l]; exact q⟩
def spMInit (K : PySem.W.Frag) : Sp := fun vs H Q _ => ∃ (p C dx : Addr) (av : List Addr), vs = [.ref p] /\ IsM K C /\ H p = some (.ins C dx []) /\ (∀ a ∈ av, H a ≠ none) /\
 ∀ (H' : Hp) (c s k : Addr), MAd K av H' p C dx c s k [] none ⟨{}, []⟩ -> But p H H' -> Q .non H'
theorem ok_Mixture_init (F : Fun K "__init__" "Mixture.__init__" s_Mixture_init f fd) (T : Txt P K mg t) : FnOk P w K mg base CX0 34 f fd p_Mixture_init (spMInit K) := by
 refine F.ok sc_Mixture_init (fun vs H Q E h => ?_) (fun cdv A outer s H vs Q E hr h => ?_)
 ·obtain ⟨p, C, dx, av, rfl, _⟩ := h;rfl
 ·obtain ⟨p, C, dx, av, rfl, I, hp, hav, k⟩ := h;refine ⟨_, (pss_cons (ps_fld (pv 0) (pe_glob (v := .ref t.aN) rfl T.m_NOTHING rfl) rfl) (pss_cons (ps_fld (pv 0) (pe_lst pa_nil) rfl) (pss_one (ps_fld (pv 0) (pe_lst pa_nil) rfl)))), ?_⟩;walk_at "r";refine rd_setfE hp I.cl I.nc (by show 0 < 1000; decide) ?_;walk_at "r";refine rd_lstE rfl fun l1 hl1 => ?_;walk_at "r";have n1 : l1 ≠ p := fun e => by rw [e, upd_same] at hl1; cases hl1
  refine rd_setfE (fs := putF "content" (.ref t.aN) []) (by rw [upd_ne (Ne.symm n1)]; exact upd_same) I.cl I.ns (by show 1 < 1000; decide) ?_;walk_at "r";refine rd_lstE rfl fun l2 hl2 => ?_;walk_at "r";have n2 : l2 ≠ p := fun e => by rw [e, upd_same] at hl2; cases hl2
  have n3 : l2 ≠ l1 := fun e => by rw [e, upd_ne n1, upd_same] at hl2; cases hl2
  refine rd_setfE (fs := putF "shares" (.ref l1) (putF "content" (.ref t.aN) [])) (by rw [upd_ne (Ne.symm n2)]; exact upd_same) I.cl I.nk ?_ ?_
  ·show (putF "shares" (.ref l1) [("content", V.ref t.aN)]).length < 1000;rw [put_ne (by decide +kernel)];show 2 < 1000;decide
  ·rw [upd_ne n1] at hl1;rw [upd_ne n2, upd_ne n3, upd_ne n2] at hl2;refine k _ t.aN l1 l2 ⟨?_, T.n_NOTHING _, ?_, ?_, fun e => hav _ e ?_, fun e => hav _ e ?_, .inl rfl⟩ ?_
   ·rw [upd_same];have e : putF "known_strengths" (V.ref l2) (putF "shares" (V.ref l1) (putF "content" (V.ref t.aN) [])) = mf t.aN l1 l2 none := by
     show putF "known_strengths" (V.ref l2) (putF "shares" (V.ref l1) [("content", V.ref t.aN)]) = _;rw [put_ne (by decide +kernel)];show putF "known_strengths" (V.ref l2) [("content", V.ref t.aN), ("shares", V.ref l1)] = _;rw [put_ne (by decide +kernel), put_ne (by decide +kernel)];rfl
    rw [e]
   ·rw [upd_ne n1, upd_ne (Ne.symm n3), upd_ne n1, upd_same];rfl
   ·rw [upd_ne n2, upd_same];rfl
   ·exact hl1
   ·exact hl2
   ·intro b o e ne;rw [upd_ne ne, upd_ne (ne_of_none e hl2), upd_ne ne, upd_ne (ne_of_none e hl1), upd_ne ne];exact e
structure PutOk (m : Mx) (tt : Vbtaam.Frac) (os : List Nat) : Prop where
 lc : Low m.c
 bc : FB 2013 m.c
 lt : Low tt
 bt : FB 2013 tt
 so : 0 < tt.num -> ∃ a b d, Sh3 os a b d
 sc : 0 < m.c.num -> ∃ a b d, Sh3 m.ss a b d
def spPut (K : PySem.W.Frag) : Sp := fun vs H Q _ => ∃ (p C ta oa : Addr) (av : List Addr) (o : Option Nat) (m : Mx) (tt : Vbtaam.Frac) (os : List Nat), vs = [.ref p, .ref ta, .ref oa] /\ IsM K C /\ MAt K av H p C o m /\ FAt K H ta tt /\ SqL K H oa (nl os) /\ PutOk m tt os /\ (∀ a ∈ av, H a ≠ none) /\
 ∀ H' : Hp, But p H H' -> MAt K av H' p C o (mput m tt os) -> Q .non H'
theorem put_tail {av : List Addr} {H H1 H2 : Hp} {p C dx c c' s k l : Addr} {o : Option Nat} {m : Mx} {x : Vbtaam.Frac} (h1 : H1 p = some (.ins C dx (mf c s k o))) (hs : H1 s = some (.lst (nl m.ss))) (sa : s ∉ av) (hav : ∀ a ∈ av, H a ≠ none) (b1 : But p H H1)
  (s2 : Same H1 H2) (n2 : H2 c' = some (.tup (fr x))) (hl : (upd H2 p (.ins C dx (mf c' s k o))) l = none) (hx : x = m.c) :
  But p H (upd (upd (upd H2 p (.ins C dx (mf c' s k o))) l (.lst [])) p (.ins C dx (mf c' s l o))) /\ MAt K av (upd (upd (upd H2 p (.ins C dx (mf c' s k o))) l (.lst [])) p (.ins C dx (mf c' s l o))) p C o m := by
 have np : l ≠ p := fun e => by rw [e, upd_same] at hl; cases hl
 rw [upd_ne np] at hl;have bb : But p H H2 := b1.trans s2.but;have B : But p H (upd (upd (upd H2 p (.ins C dx (mf c' s k o))) l (.lst [])) p (.ins C dx (mf c' s l o))) := fun b u e ne => by
  rw [upd_ne ne, upd_ne (ne_of_none (bb b u e ne) hl), upd_ne ne];exact bb b u e ne
 refine ⟨B, dx, c', s, l, [], upd_same, ?_, ?_, ?_, sa, fun e => ?_, .inl rfl⟩
 ·subst hx;refine SqT.of ?_;have e1 : c' ≠ p := fun e => by rw [e, s2 _ _ h1] at n2; cases n2
  rw [upd_ne e1, upd_ne (ne_of_none n2 hl), upd_ne e1];exact n2
 ·have e1 : s ≠ p := ne_of hs h1 (by intro e; cases e);rw [upd_ne e1, upd_ne (ne_of_none (s2 _ _ hs) hl), upd_ne e1];exact s2 _ _ hs
 ·rw [upd_ne np, upd_same];rfl
 ·refine hav _ e ?_;cases q : H l with
  | none => rfl
  | some u =>
   rw [bb l u q np] at hl;cases hl
theorem ok_Mixture_put (F : Fun K "put" "Mixture.put" s_Mixture_put f fd) (T : Txt P K mg t) (D_plus : Def P w K mg base 37 "plus" p_plus (spPlusI K)) (D_mixed_shares : Def P w K mg base 38 "mixed_shares" p_mixed_shares (spMixed K)) :
  FnOk P w K mg base CX0 39 f fd p_Mixture_put (spPut K) := by
 refine F.ok sc_Mixture_put (fun vs H Q E h => ?_) (fun cdv A outer s H vs Q E hr h => ?_)
 ·obtain ⟨p, C, ta, oa, av, o, m, tt, os, rfl, _⟩ := h;rfl
 ·obtain ⟨p, C, ta, oa, av, o, m, tt, os, rfl, I, ⟨dx, c, sA, kA, ks, M⟩, ht, ho, ok, hav, k⟩ := h;have hu64 := hr.units;refine ⟨_, (pss_one (ps_if (pt_cmpR (op_neD hu64) (pv 1) (pe_glob (v := .ref t.aN) rfl T.m_NOTHING rfl) (nomark _)) (pss_cons (ps_if (pt_cmpR (op_eqD hu64) (pe_fld (pv 0) rfl) (pe_glob (v := .ref t.aN) rfl T.m_NOTHING rfl) (nomark _)) (pss_one (ps_fld (pv 0) (pe_callTy call_list_of (by rfl) T.b_list bt_list (pa_cons (pv 2) pa_nil)) rfl)) (pss_one (ps_fld (pv 0) (pe_def D_mixed_shares (hr.mono (by decide)) rfl (pa_cons (pe_fld (pv 0) rfl) (pa_cons (pe_fld (pv 0) rfl) (pa_cons (pv 1) (pa_cons (pv 2) pa_nil))))) rfl))) (pss_cons (ps_fld (pv 0) (pe_def D_plus (hr.mono (by decide)) rfl (pa_cons (pe_fld (pv 0) rfl) (pa_cons (pv 1) pa_nil))) rfl) (pss_one (ps_fld (pv 0) (pe_lst pa_nil) rfl)))) pss_nil)), ?_⟩;walk_at "r";refine rd_notN T ht ok.lt ?_;walk_at "r"
  by_cases t0 : tt.num = 0
  ·rw [decide_eq_true t0];refine iteF ?_;walk_at "r";have e : mput m tt os = m := by unfold mput; rw [if_pos t0]
   rw [e] at k;exact k H But.refl ⟨dx, c, sA, kA, ks, M⟩
  ·rw [decide_eq_false t0];refine iteT ?_;have tp : 0 < tt.num := by omega
   obtain ⟨a', b', d', So⟩ := ok.so tp;walk_at "r";refine rd_fldE M.at_ I.cl I.nc (mf_c _ _ _ _) ?_;walk_at "r";refine rd_isN T M.con ok.lc ?_;walk_at "r"
   by_cases c0 : m.c.num = 0
   ·rw [decide_eq_true c0];refine iteT ?_;have e : mput m tt os = ⟨Vbtaam.plus m.c tt, os⟩ := by unfold mput; rw [if_neg t0, if_pos c0]
    rw [e] at k;walk_at "r";refine ⟨oa, nl os, rfl, .inl ho, fun l hl => ?_⟩;walk_at "r";have s1 : Same H (upd H l (.lst (nl os))) := Same.new hl;refine rd_setfE (s1 _ _ M.at_) I.cl I.ns (mf_len _ _ _ _) ?_;rw [mf_ps];walk_at "r";have b1 : But p H (upd (upd H l (.lst (nl os))) p (.ins C dx (mf c l kA o))) := (s1.but (p := p)).trans But.upd;refine rd_fldE upd_same I.cl I.nc (mf_c _ _ _ _) ?_;walk_at "r";refine plus_of ⟨c, ta, m.c, tt, rfl, b1.ins M.at_ M.con, b1.ins M.at_ ht, ok.lc.pos, ok.lt.pos, ok.bc.mono (by decide), ok.bt.mono (by decide), fun H2 c' s2 n2 h2 => ?_⟩;walk_at "r";refine rd_setfE (s2 _ _ upd_same) I.cl I.nc (mf_len _ _ _ _) ?_;rw [mf_pc];walk_at "r";refine rd_lstE rfl fun l3 hl3 => ?_;walk_at "r";have np : l3 ≠ p := fun e => by rw [e, upd_same] at hl3; cases hl3
    refine rd_setfE (by rw [upd_ne (Ne.symm np)]; exact upd_same) I.cl I.nk (mf_len _ _ _ _) ?_;rw [mf_pk];have lnp : l ≠ p := fun e => by rw [e, M.at_] at hl; cases hl
    obtain ⟨r1, r2⟩ := put_tail (K := K) (m := ⟨Vbtaam.plus m.c tt, os⟩) (av := av) (H := H) upd_same (by rw [upd_ne lnp]; exact upd_same) (fun e => hav _ e hl) hav b1 s2 h2 hl3 rfl;exact k _ r1 r2
   ·rw [decide_eq_false c0];refine iteF ?_;have cp : 0 < m.c.num := by omega
    obtain ⟨a, b, d, Sc⟩ := ok.sc cp;have e : mput m tt os = ⟨Vbtaam.plus m.c tt, mixS m.c m.ss tt os⟩ := by unfold mput; rw [if_neg t0, if_neg c0]
    rw [e] at k;walk_at "r";refine rd_fldE M.at_ I.cl I.nc (mf_c _ _ _ _) ?_;walk_at "r";refine rd_fldE M.at_ I.cl I.ns (mf_s _ _ _ _) ?_;walk_at "r";refine ⟨c, sA, ta, oa, m.c, tt, m.ss, os, a, b, d, a', b', d', rfl, M.con, SqL.of M.sh, ht, ho, ok.lc, ok.lt, tp, ok.bc, ok.bt, Sc, So, fun H1 l s1 hl h1 => ?_⟩;walk_at "r";refine rd_setfE (s1 _ _ M.at_) I.cl I.ns (mf_len _ _ _ _) ?_;rw [mf_ps];walk_at "r";have b1 : But p H (upd H1 p (.ins C dx (mf c l kA o))) := (s1.but (p := p)).trans But.upd;refine rd_fldE upd_same I.cl I.nc (mf_c _ _ _ _) ?_;walk_at "r";refine plus_of ⟨c, ta, m.c, tt, rfl, b1.ins M.at_ M.con, b1.ins M.at_ ht, ok.lc.pos, ok.lt.pos, ok.bc.mono (by decide), ok.bt.mono (by decide), fun H2 c' s2 n2 h2 => ?_⟩;walk_at "r";refine rd_setfE (s2 _ _ upd_same) I.cl I.nc (mf_len _ _ _ _) ?_;rw [mf_pc];walk_at "r";refine rd_lstE rfl fun l3 hl3 => ?_;walk_at "r";have np : l3 ≠ p := fun e => by rw [e, upd_same] at hl3; cases hl3
    refine rd_setfE (by rw [upd_ne (Ne.symm np)]; exact upd_same) I.cl I.nk (mf_len _ _ _ _) ?_;rw [mf_pk];have lnp : l ≠ p := fun e => by rw [e, M.at_] at hl; cases hl
    obtain ⟨r1, r2⟩ := put_tail (K := K) (m := ⟨Vbtaam.plus m.c tt, mixS m.c m.ss tt os⟩) (av := av) (H := H) upd_same (by rw [upd_ne lnp]; exact h1) (fun e => hav _ e hl) hav b1 s2 h2 hl3 rfl;exact k _ r1 r2
def spTake (K : PySem.W.Frag) : Sp := fun vs H Q _ => ∃ (p C ta : Addr) (av : List Addr) (o : Option Nat) (m : Mx) (tt : Vbtaam.Frac), vs = [.ref p, .ref ta] /\ IsM K C /\ MAt K av H p C o m /\ FAt K H ta tt /\ Low m.c /\ Low tt /\ q tt <= q m.c /\ FB 2013 m.c /\ FB 2013 tt /\
 ∀ H' : Hp, But p H H' -> MAt K av H' p C o (mtake m tt) -> Q .non H'
theorem ok_Mixture_take (F : Fun K "take" "Mixture.take" s_Mixture_take f fd) (T : Txt P K mg t) (D_minus : Def P w K mg base 38 "minus" p_minus (spMinus K)) : FnOk P w K mg base CX0 39 f fd p_Mixture_take (spTake K) := by
 refine F.ok sc_Mixture_take (fun vs H Q E h => ?_) (fun cdv A outer s H vs Q E hr h => ?_)
 ·obtain ⟨p, C, ta, av, o, m, tt, rfl, _⟩ := h;rfl
 ·obtain ⟨p, C, ta, av, o, m, tt, rfl, I, ⟨dx, c, sA, kA, ks, M⟩, ht, lc, lt, le, bc, bt, k⟩ := h;refine ⟨_, (pss_one (ps_fld (pv 0) (pe_def D_minus (hr.mono (by decide)) rfl (pa_cons (pe_fld (pv 0) rfl) (pa_cons (pv 1) pa_nil))) rfl)), ?_⟩;walk_at "r";refine rd_fldE M.at_ I.cl I.nc (mf_c _ _ _ _) ?_;walk_at "r";refine ⟨c, ta, m.c, tt, rfl, M.con, ht, lc, lt, le, bc.mono (by decide), bt.mono (by decide), fun H1 c' s1 n1 h1 => ?_⟩;walk_at "r";refine rd_setfE (s1 _ _ M.at_) I.cl I.nc (mf_len _ _ _ _) ?_;rw [mf_pc];have B : But p H (upd H1 p (.ins C dx (mf c' sA kA o))) := (s1.but (p := p)).trans But.upd;have cnp : c' ≠ p := fun e => by rw [e, M.at_] at n1; cases n1
  exact k _ B ⟨dx, c', sA, kA, ks, upd_same, SqT.of (by rw [upd_ne cnp]; exact h1), B.insL M.at_ M.sh, B.insL M.at_ M.kn, M.sa, M.ka, M.kk.imp fun _ _ => B.ins M.at_⟩
theorem fb_share {a n : Nat} (h : 0 < n) (ha : a <= n) (hb : bl (n : Int) <= 402401) : FB 402401 (Vbtaam.frac a n) := fb_frac h (Nat.le_trans (bl_nle ha) hb) hb
def spStr (K : PySem.W.Frag) : Sp := fun vs H Q _ => ∃ (p C : Addr) (av : List Addr) (o : Option Nat) (m : Mx) (a b d : Nat), vs = [.ref p] /\ IsM K C /\ MAt K av H p C o m /\ Sh3 m.ss a b d /\ (∀ a ∈ av, H a ≠ none) /\
 ∀ (H' : Hp) (l x y z : Addr), But p H H' -> MAt K av H' p C o m -> H' l = some (.lst [.ref x, .ref y, .ref z]) -> FAt K H' x (Vbtaam.frac a (a + b + d)) -> FAt K H' y (Vbtaam.frac b (a + b + d)) -> FAt K H' z (Vbtaam.frac d (a + b + d)) -> Q (.ref l) H'
def Fs (K : PySem.W.Frag) (H : Hp) (as : List Addr) (xs : List Vbtaam.Frac) : Prop := as.length = xs.length /\ ∀ (j : Nat) (a : Addr) (x : Vbtaam.Frac), as[j]? = some a -> xs[j]? = some x -> FAt K H a x
theorem Fs.nil {H : Hp} : Fs K H [] [] := ⟨rfl, fun j a x h => by simp at h⟩
theorem Fs.imp {H H' : Hp} {as : List Addr} {xs : List Vbtaam.Frac} (i : ∀ a x, FAt K H a x -> FAt K H' a x) (h : Fs K H as xs) : Fs K H' as xs := ⟨h.1, fun j a x h1 h2 => i _ _ (h.2 j a x h1 h2)⟩
theorem Fs.snoc {H : Hp} {as : List Addr} {xs : List Vbtaam.Frac} {a : Addr} {x : Vbtaam.Frac} (h : Fs K H as xs) (hx : FAt K H a x) : Fs K H (as ++ [a]) (xs ++ [x]) := by
 refine ⟨by simp only [List.length_append, List.length_cons, List.length_nil, h.1], fun j b y h1 h2 => ?_⟩
 by_cases hj : j < as.length
 ·rw [List.getElem?_append_left hj] at h1;rw [List.getElem?_append_left (by rw [<- h.1]; exact hj)] at h2;exact h.2 j b y h1 h2
 ·rw [List.getElem?_append_right (by omega)] at h1;rw [List.getElem?_append_right (by rw [<- h.1]; omega)] at h2;rw [<- h.1] at h2;cases e : j - as.length with
  | zero =>
   rw [e] at h1 h2;simp at h1 h2;subst h1 h2;exact hx
  | succ n =>
   rw [e] at h1;simp at h1
theorem Fs.three {H : Hp} {as : List Addr} {x y z : Vbtaam.Frac} (h : Fs K H as [x, y, z]) : ∃ a b c, as = [a, b, c] /\ FAt K H a x /\ FAt K H b y /\ FAt K H c z := by
 match as, h with
 | [a, b, c], h => exact ⟨a, b, c, rfl, h.2 0 a x rfl rfl, h.2 1 b y rfl rfl, h.2 2 c z rfl rfl⟩
 | [], h => exact absurd h.1 (by simp)
 | [_], h => exact absurd h.1 (by simp)
 | [_, _], h => exact absurd h.1 (by simp)
 | _ :: _ :: _ :: _ :: _, h => exact absurd h.1 (by simp)
theorem ok_Mixture_strengths (F : Fun K "strengths" "Mixture.strengths" s_Mixture_strengths f fd) (T : Txt P K mg t) (D_lowest : Def P w K mg base 36 "lowest" p_lowest spLowest) : FnOk P w K mg base CX0 37 f fd p_Mixture_strengths (spStr K) := by
 refine F.ok sc_Mixture_strengths (fun vs H Q E h => ?_) (fun cdv A outer s H vs Q E hr h => ?_)
 ·obtain ⟨p, C, av, o, m, a, b, d, rfl, _⟩ := h;rfl
 ·obtain ⟨p, C, av, o, m, a, b, d, rfl, I, ⟨dx, c, sA, kA, ks, M⟩, S3, hav, k⟩ := h;have nd := sc_Mixture_strengths.nd;refine ⟨_, (pss_cons (ps_if (pt_cmpR op_eq (pe_callB call_len_seq (by rfl) T.b_len bt_len (pa_cons (pe_fld (pv 0) rfl) pa_nil)) pe_int (nomark _)) (pss_cons (ps_set (i := 1) nd rfl (by walk_at "o") (pe_callB (cr_sum rfl) (by rfl) T.b_sum bt_sum (pa_cons (pe_fld (pv 0) rfl) pa_nil))) (pss_one (ps_fld (pv 0) (pe_lc rfl nd (pi_list (pe_fld (pv 0) rfl)) (own := [("share", 2)]) (show BlkOk N_Mixture_strengths (defScope s_Mixture_strengths) _ _ from ⟨rfl, by decide +kernel, by decide +kernel, by decide +kernel, by decide +kernel⟩) (fun _ _ _ _ _ => pg_name (i := 2) nd rfl (by walk_at "o")) (fun _ _ _ _ _ => pts_nil) (fun _ _ _ _ _ => (pe_def D_lowest (hr.mono (by decide)) rfl (pa_cons (pv 2) (pa_cons (pv 1) pa_nil))))) rfl))) pss_nil) (pss_one (ps_ret (pe_fld (pv 0) rfl)))), ?_⟩;walk_at "r";refine rd_fldE M.at_ I.cl I.nk (mf_k _ _ _ _) ?_;walk_at "r";refine ⟨kA, _, rfl, .inl (SqL.of M.kn), ?_⟩;walk_at "r";rcases M.kk with e | ⟨a', b', d', x, y, z, e1, e2, f1, f2, f3⟩
  ·subst e;refine iteT ?_;walk_at "r";refine rd_fldE M.at_ I.cl I.ns (mf_s _ _ _ _) ?_;walk_at "r";have hsh := M.sh;have ess := S3.eq;rw [ess] at hsh;refine ⟨sA, [(a : Int), b, d], rfl, SqL.of hsh, ?_⟩;have e1 : ([(a : Int), b, d] : List Int).sum = ((a + b + d : Nat) : Int) := by simp; omega
   rw [e1];walk_at "r";refine rd_fldE M.at_ I.cl I.ns (mf_s _ _ _ _) ?_;refine ⟨sA, rfl, ⟨_, SqL.of hsh⟩, fun D hD => ?_⟩;have Dp : D ≠ p := fun e => by rw [e, M.at_] at hD; cases hD
   refine lc_list (K := K) (a := sA) (xs := nl [a, b, d]) (fun i H' => ∃ ads : List Addr, H' D = some (.lst (ads.map V.ref)) /\ Fs K H' ads (([a, b, d].take i).map fun n => Vbtaam.frac n (a + b + d)) /\ Same H H') ⟨[], upd_same, Fs.nil, Same.new hD⟩ (fun i H' _ ⟨_, _, _, s1⟩ => s1.seq (SqL.of hsh)) ?_ ?_
   ·rintro i x H' hi ⟨ads, h1, h2, s1⟩;obtain ⟨n, hn, hnb, rfl⟩ : ∃ n : Nat, [a, b, d][i]? = some n /\ n <= a + b + d /\ x = .int n := by
     match i, hi with
     | 0, hi => exact ⟨a, rfl, by omega, (Option.some.inj hi).symm⟩
     | 1, hi => exact ⟨b, rfl, by omega, (Option.some.inj hi).symm⟩
     | 2, hi => exact ⟨d, rfl, by omega, (Option.some.inj hi).symm⟩
     | i + 3, hi => simp [nl] at hi
    refine rd_gname ⟨rfl, ?_⟩;walk_at "r";refine iteT ?_;walk_at "r";have sp := S3.pos;refine ⟨n, ((a + b + d : Nat) : Int), rfl, by omega, by omega, Nat.le_trans (bl_nle hnb) (Nat.le_trans S3.bit (by decide)), Nat.le_trans S3.bit (by decide), fun H2 q s2 n2 h3 => ?_⟩;have e3 : ((a + b + d : Nat) : Int).toNat = a + b + d := by omega
    rw [e3] at h3;have s3 : Same H2 (upd H2 D (.lst (ads.map V.ref ++ [.ref q]))) -> True := fun _ => trivial;refine ⟨_, s2 _ _ h1, ?_, ads ++ [q], ?_, ?_, ?_⟩
    ·rw [List.length_map];have hl := h2.1;rw [List.length_map, List.length_take] at hl;exact Nat.lt_of_le_of_lt (Nat.le_trans (Nat.le_of_eq hl) (Nat.min_le_right _ _)) (by show 3 < sizeLine; decide)
    ·rw [upd_same, List.map_append];rfl
    ·rw [List.take_add_one, hn, List.map_append];have qD : q ≠ D := fun e => by rw [e, h1] at n2; cases n2
     have tk : ∀ {b : Addr} {x : Vbtaam.Frac}, FAt K H2 b x -> FAt K (upd H2 D (.lst (ads.map V.ref ++ [.ref q]))) b x := fun h =>
      (But.upd (p := D)).sqT (s2 _ _ h1) (fun _ e => by cases e) (fun _ _ e => by cases e) h
     exact Fs.snoc (h2.imp fun _ _ h => tk (s2.sqT h)) (SqT.of (by rw [upd_ne qD]; exact h3))
    ·intro b' o' e;rw [upd_ne (ne_of_none e hD)];exact s2 _ _ (s1 _ _ e)
   ·rintro H' ⟨ads, h1, h2, s1⟩;walk_at "r";refine rd_setfE (s1 _ _ M.at_) I.cl I.nk (mf_len _ _ _ _) ?_;rw [mf_pk];walk_at "r";refine rd_fldE upd_same I.cl I.nk (mf_k _ _ _ _) ?_;obtain ⟨x, y, z, rfl, f1, f2, f3⟩ := Fs.three (show Fs K H' ads [Vbtaam.frac a (a + b + d), Vbtaam.frac b (a + b + d), Vbtaam.frac d (a + b + d)] from h2);have B : But p H' (upd H' p (.ins C dx (mf c sA D o))) := But.upd;have B2 : But p H (upd H' p (.ins C dx (mf c sA D o))) := s1.but.trans B;have at1 := s1 _ _ M.at_;refine k _ D x y z B2 ⟨dx, c, sA, D, [x, y, z], upd_same, B2.ins M.at_ M.con, B2.insL M.at_ M.sh, B.insL at1 h1, M.sa, fun e => hav _ e hD, .inr ⟨a, b, d, x, y, z, ess, rfl, B.ins at1 f1, B.ins at1 f2, B.ins at1 f3⟩⟩ (B.insL at1 h1) (B.ins at1 f1) (B.ins at1 f2) (B.ins at1 f3)
  ·subst e2;have ess := S3.eq;rw [e1] at ess;simp only [List.cons.injEq, and_true] at ess;obtain ⟨rfl, rfl, rfl⟩ := ess;refine iteF ?_;walk_at "r";refine rd_fldE M.at_ I.cl I.nk (mf_k _ _ _ _) ?_;exact k H kA x y z But.refl ⟨dx, c, sA, kA, _, M⟩ M.kn f1 f2 f3
def ams (m : Mx) : List Vbtaam.Frac := if m.c.num = 0 then [{}, {}, {}] else m.ss.map fun a => Vbtaam.times m.c (Vbtaam.frac a m.ss.sum)
def spAm (K : PySem.W.Frag) (t : Ad) : Sp := fun vs H Q _ => ∃ (p C : Addr) (av : List Addr) (o : Option Nat) (m : Mx), vs = [.ref p] /\ IsM K C /\ (C = t.CM ∨ C = t.CV) /\ MAt K av H p C o m /\ Low m.c /\ FB 2013 m.c /\ (0 < m.c.num -> ∃ a b d, Sh3 m.ss a b d) /\ (∀ a ∈ av, H a ≠ none) /\
 ∀ (H' : Hp) (l : Addr) (as : List Addr), But p H H' -> MAt K av H' p C o m -> H' l = some (.lst (as.map V.ref)) -> Fs K H' as (ams m) -> H l = none -> Q (.ref l) H'
theorem ok_Mixture_amounts (F : Fun K "amounts" "Mixture.amounts" s_Mixture_amounts f fd) (T : Txt P K mg t) (D_times : Def P w K mg base 36 "times" p_times (spTimes K))
  (MS : ∀ C, (C = t.CM ∨ C = t.CV) -> MDef P w K mg base 37 C "strengths" p_Mixture_strengths (spStr K)) : FnOk P w K mg base CX0 38 f fd p_Mixture_amounts (spAm K t) := by
 refine F.ok sc_Mixture_amounts (fun vs H Q E h => ?_) (fun cdv A outer s H vs Q E hr h => ?_)
 ·obtain ⟨p, C, av, o, m, rfl, _⟩ := h;rfl
 ·obtain ⟨p, C, av, o, m, rfl, I, hC, ⟨dx, c, sA, kA, ks, M⟩, lc, bc, sc, hav, k⟩ := h;have M_Mixture_strengths := MS C hC;have nd := sc_Mixture_amounts.nd;have hu64 := hr.units;refine ⟨_, (pss_cons (ps_if (pt_cmpR (op_eqD hu64) (pe_fld (pv 0) rfl) (pe_glob (v := .ref t.aN) rfl T.m_NOTHING rfl) (nomark _)) (pss_one (ps_ret (pe_lc rfl nd (pi_range1 rfl T.b_range (pa_cons (pe_cI T.c_KINDS rfl) pa_nil)) (own := [("kind", 1)]) (show BlkOk N_Mixture_amounts (defScope s_Mixture_amounts) _ _ from ⟨rfl, by decide +kernel, by decide +kernel, by decide +kernel, by decide +kernel⟩) (fun _ _ _ _ _ => pg_name (i := 1) nd rfl (by walk_at "o")) (fun _ _ _ _ _ => pts_nil) (fun _ _ _ _ _ => (pe_glob (v := .ref t.aN) rfl T.m_NOTHING rfl))))) pss_nil) (pss_one (ps_ret (pe_lc rfl nd (pi_list (pe_mdef0 M_Mixture_strengths (hr.mono (by decide)) (pv 0))) (own := [("strength", 2)]) (show BlkOk N_Mixture_amounts (defScope s_Mixture_amounts) _ _ from ⟨rfl, by decide +kernel, by decide +kernel, by decide +kernel, by decide +kernel⟩) (fun _ _ _ _ _ => pg_name (i := 2) nd rfl (by walk_at "o")) (fun _ _ _ _ _ => pts_nil) (fun _ _ _ _ _ => (pe_def D_times (hr.mono (by decide)) rfl (pa_cons (pe_fldK (K := K) rfl (pv 0) rfl) (pa_cons (pv 2) pa_nil)))))))), ?_⟩;walk_at "r";refine rd_fldE M.at_ I.cl I.nc (mf_c _ _ _ _) ?_;walk_at "r";refine rd_isN T M.con lc ?_;walk_at "r"
  by_cases c0 : m.c.num = 0
  ·rw [decide_eq_true c0];refine iteT ?_;walk_at "r";refine ⟨3, rfl, by decide, by decide, fun D hD => ?_⟩;refine lc_range (lo := 0) (n := (3 : Int).toNat) (fun i H' => H' D = some (.lst (List.replicate i (V.ref t.aN))) /\ Same H H') ⟨upd_same, Same.new hD⟩ ?_ ?_
   ·rintro i H' hi ⟨h1, h2⟩;refine rd_gname ⟨rfl, ?_⟩;walk_at "r";refine iteT ?_;walk_at "r";refine ⟨_, h1, by rw [List.length_replicate]; exact Nat.lt_trans hi (by decide), ?_, ?_⟩
    ·rw [upd_same, List.replicate_succ']
    ·intro b o e;rw [upd_ne (ne_of_none e hD)];exact h2 b o e
   ·rintro H' ⟨h1, h2⟩;have e : ams m = [{}, {}, {}] := if_pos c0;refine k H' D [t.aN, t.aN, t.aN] h2.but (MAt.same ⟨dx, c, sA, kA, ks, M⟩ h2) h1 ?_ hD;rw [e];exact ((Fs.nil.snoc (T.n_NOTHING H')).snoc (T.n_NOTHING H')).snoc (T.n_NOTHING H')
  ·rw [decide_eq_false c0];refine iteF ?_;obtain ⟨a, b, d, S3⟩ := sc (by omega);walk_at "r";refine rd_methE M.at_ (mf_no _ _ _ _ (by decide +kernel) (by decide +kernel) (by decide +kernel) (by decide +kernel)) ?_;walk_at "r";refine ⟨p, C, av, o, m, a, b, d, rfl, I, ⟨dx, c, sA, kA, ks, M⟩, S3, hav, fun H1 l x y z B1 M1 hl f1 f2 f3 => ?_⟩;refine ⟨l, rfl, ⟨_, SqL.of hl⟩, fun D hD => ?_⟩;have ea : ams m = ([a, b, d] : List Nat).map fun n => Vbtaam.times m.c (Vbtaam.frac n (a + b + d)) := by
    unfold ams;rw [if_neg c0, S3.eq, sum3]
   have fx : Fs K H1 [x, y, z] [Vbtaam.frac a (a + b + d), Vbtaam.frac b (a + b + d), Vbtaam.frac d (a + b + d)] := ((Fs.nil.snoc f1).snoc f2).snoc f3;have M1' := M1;obtain ⟨dx1, c1, s1A, k1A, ks1, N⟩ := M1;refine lc_list (K := K) (a := l) (xs := [.ref x, .ref y, .ref z]) (fun i H' => ∃ ads : List Addr, H' D = some (.lst (ads.map V.ref)) /\ Fs K H' ads ((ams m).take i) /\ Same H1 H') ⟨[], upd_same, Fs.nil, Same.new hD⟩ (fun i H' _ ⟨_, _, _, s1⟩ => s1.seq (SqL.of hl)) ?_ ?_
   ·rintro i v H' hi ⟨ads, h1, h2, s1⟩;obtain ⟨n, av', hn, hnb, rfl, hf, han⟩ : ∃ (n : Nat) (q : Addr), [a, b, d][i]? = some n /\ n <= a + b + d /\ v = .ref q /\ FAt K H1 q (Vbtaam.frac n (a + b + d)) /\ (ams m)[i]? = some (Vbtaam.times m.c (Vbtaam.frac n (a + b + d))) := by
     rw [ea]
     match i, hi with
     | 0, hi => exact ⟨a, x, rfl, by omega, (Option.some.inj hi).symm, f1, rfl⟩
     | 1, hi => exact ⟨b, y, rfl, by omega, (Option.some.inj hi).symm, f2, rfl⟩
     | 2, hi => exact ⟨d, z, rfl, by omega, (Option.some.inj hi).symm, f3, rfl⟩
     | i + 3, hi => simp at hi
    refine rd_gname ⟨rfl, ?_⟩;walk_at "r";refine iteT ?_;walk_at "r";refine rd_fldE (s1 _ _ N.at_) I.cl I.nc (mf_c _ _ _ _) ?_;walk_at "r";refine ⟨c1, av', m.c, _, rfl, N.con.same s1, hf.same s1, lc, low_frac S3.pos, bc.mono (by decide), (fb_share S3.pos hnb S3.bit).mono (by decide), fun H2 q s2 n2 h3 => ?_⟩;refine ⟨_, s2 _ _ h1, ?_, ads ++ [q], ?_, ?_, ?_⟩
    ·rw [List.length_map];have hl := h2.1;rw [List.length_take] at hl;have e3 : (ams m).length = 3 := by rw [ea]; rfl
     rw [e3] at hl;exact Nat.lt_of_le_of_lt (Nat.le_trans (Nat.le_of_eq hl) (Nat.min_le_right _ _)) (by show 3 < sizeLine; decide)
    ·rw [upd_same, List.map_append];rfl
    ·rw [List.take_add_one, han];have qD : q ≠ D := fun e => by rw [e, h1] at n2; cases n2
     have tk : ∀ {b : Addr} {x : Vbtaam.Frac}, FAt K H2 b x -> FAt K (upd H2 D (.lst (ads.map V.ref ++ [.ref q]))) b x := fun h =>
      (But.upd (p := D)).sqT (s2 _ _ h1) (fun _ e => by cases e) (fun _ _ e => by cases e) h
     exact Fs.snoc (h2.imp fun _ _ h => tk (s2.sqT h)) (SqT.of (by rw [upd_ne qD]; exact h3))
    ·intro b' o' e;rw [upd_ne (ne_of_none e hD)];exact s2 _ _ (s1 _ _ e)
   ·rintro H' ⟨ads, h1, h2, s1⟩;have e3 : (ams m).length = 3 := by rw [ea]; rfl
    have h2 : Fs K H' ads ((ams m).take 3) := h2;rw [List.take_of_length_le (by omega)] at h2;refine k H' D ads (B1.trans s1.but) (M1'.same s1) h1 h2 ?_;cases hq : H D with
    | none => rfl
    | some u =>
     have : D ≠ p := fun e => by rw [e, N.at_] at hD; cases hD
     rw [B1 D u hq this] at hD;cases hD
def spVInit (K : PySem.W.Frag) (t : Ad) : Sp := fun vs H Q _ => ∃ (p dx : Addr) (n : Nat) (av : List Addr), vs = [.ref p, .int n] /\ H p = some (.ins t.CV dx []) /\ (∀ a ∈ av, H a ≠ none) /\
 ∀ H' : Hp, MAt K av H' p t.CV (some n) ⟨{}, []⟩ -> But p H H' -> Q .non H'
theorem ok_Vessel_init (F : Fun K "__init__" "Vessel.__init__" s_Vessel_init f fd) (T : Txt P K mg t) (M_Mixture_init : BDef P w K mg base 34 t.CM "__init__" p_Mixture_init (spMInit K)) : FnOk P w K mg base CX0 35 f fd p_Vessel_init (spVInit K t) := by
 refine F.ok sc_Vessel_init (fun vs H Q E h => ?_) (fun cdv A outer s H vs Q E hr h => ?_)
 ·obtain ⟨p, dx, n, av, rfl, _⟩ := h;rfl
 ·obtain ⟨p, dx, n, av, rfl, hp, hav, k⟩ := h;refine ⟨_, (pss_cons (ps_expr (pe_base M_Mixture_init (hr.mono (by decide)) rfl T.m_Mixture (pa_cons (pv 0) pa_nil))) (pss_one (ps_fld (pv 0) (pv 1) rfl))), ?_⟩;walk_at "r";refine ⟨p, t.CV, dx, av, rfl, T.iV, hp, hav, fun H1 c sA kA M B => ?_⟩;walk_at "r";refine rd_setfE M.at_ T.iV.cl T.nV_size (mf_len _ _ _ _) ?_;have e : putF "size" (V.int n) (mf c sA kA none) = mf c sA kA (some n) := by
   show putF "size" (V.int n) [("content", V.ref c), ("shares", V.ref sA), ("known_strengths", V.ref kA)] = _;rw [put_ne (by decide +kernel), put_ne (by decide +kernel), put_ne (by decide +kernel)];rfl
  have B2 : But p H1 (upd H1 p (.ins t.CV dx (mf c sA kA (some n)))) := But.upd;rw [e];exact k _ ⟨dx, c, sA, kA, [], upd_same, B2.ins M.at_ M.con, B2.insL M.at_ M.sh, B2.insL M.at_ M.kn, M.sa, M.ka, .inl rfl⟩ (B.trans B2)
def spRoom (K : PySem.W.Frag) (t : Ad) : Sp := fun vs H Q _ => ∃ (p : Addr) (av : List Addr) (n : Nat) (m : Mx), vs = [.ref p] /\ MAt K av H p t.CV (some n) m /\ Low m.c /\ FB 2013 m.c /\ q m.c <= q (Vbtaam.whole n) /\ n <= 12 /\ OutF H Q (Vbtaam.less (Vbtaam.whole n) m.c)
theorem ok_Vessel_room (F : Fun K "room" "Vessel.room" s_Vessel_room f fd) (T : Txt P K mg t) (D_minus : Def P w K mg base 38 "minus" p_minus (spMinus K)) : FnOk P w K mg base CX0 39 f fd p_Vessel_room (spRoom K t) := by
 refine F.ok sc_Vessel_room (fun vs H Q E h => ?_) (fun cdv A outer s H vs Q E hr h => ?_)
 ·obtain ⟨p, av, n, m, rfl, _⟩ := h;rfl
 ·obtain ⟨p, av, n, m, rfl, ⟨dx, c, sA, kA, ks, M⟩, lc, bc, le, n12, k⟩ := h;refine ⟨_, (pss_one (ps_ret (pe_def D_minus (hr.mono (by decide)) rfl (pa_cons (pe_tup (pa_cons (pe_fld (pv 0) rfl) (pa_cons pe_int pa_nil))) (pa_cons (pe_fld (pv 0) rfl) pa_nil))))), ?_⟩;walk_at "r";refine rd_fldE M.at_ T.iV.cl T.nV_size (mf_z _ _ _ _) ?_;walk_at "r";refine rd_tupE rfl fun p1 hp1 => ?_;walk_at "r";have s1 : Same H (upd H p1 (.tup [.int n, .int 1])) := Same.new hp1;refine rd_fldE (s1 _ _ M.at_) T.iV.cl T.iV.nc (mf_c _ _ _ _) ?_;walk_at "r";refine ⟨p1, c, Vbtaam.whole n, m.c, rfl, SqT.of upd_same, M.con.same s1, low_whole _, lc, le, fb_whole (Nat.le_trans (bl_small (by omega)) (by decide)) (by decide), bc.mono (by decide), fun H2 q2 s2 n2 h2 => ?_⟩;exact k H2 q2 (s1.trans s2) (s1.free n2) h2
def lf (l fl ga : Addr) : List (Str × V) := [("vessels", .ref l), ("filled", .ref fl), ("gone", .ref ga)]
theorem lf_v (l fl ga : Addr) : (lf l fl ga).lookup ("vessels" : Str) = some (V.ref l) := lk_eq
theorem lf_f (l fl ga : Addr) : (lf l fl ga).lookup ("filled" : Str) = some (V.ref fl) := (lk_ne (by decide +kernel)).trans lk_eq
theorem lf_g (l fl ga : Addr) : (lf l fl ga).lookup ("gone" : Str) = some (V.ref ga) := (lk_ne (by decide +kernel)).trans ((lk_ne (by decide +kernel)).trans lk_eq)
theorem lf_no (l fl ga : Addr) {m : Str} (h1 : (m == ("vessels" : Str)) = false) (h2 : (m == ("filled" : Str)) = false) (h3 : (m == ("gone" : Str)) = false) : (lf l fl ga).lookup m = none :=
 (lk_ne h1).trans ((lk_ne h2).trans ((lk_ne h3).trans rfl))
structure LAd (K : PySem.W.Frag) (t : Ad) (H : Hp) (ln dx l fl ga : Addr) (as pf : List Addr) (caps : List Nat) (vs : List Mx) (pu : List Vbtaam.Frac) (g : Mx) : Prop where
 at_ : H ln = some (.ins t.CL dx (lf l fl ga))
 vl : H l = some (.lst (as.map V.ref))
 nd : as.Nodup
 la : as.length = vs.length
 lc : caps.length = vs.length
 fll : H fl = some (.lst (pf.map V.ref))
 fs : Fs K H pf pu
 ne : l ≠ fl
 go : MAt K [l, fl] H ga t.CM none g
 ve : ∀ (i : Nat) (a : Addr) (m : Mx) (n : Nat), as[i]? = some a -> vs[i]? = some m -> caps[i]? = some n -> MAt K [l, fl] H a t.CV (some n) m
 gn : ga ∉ as
 ln1 : ln ∉ as
 ln2 : ln ≠ ga
def LAt (K : PySem.W.Frag) (t : Ad) (H : Hp) (ln : Addr) (caps : List Nat) (vs : List Mx) (pu : List Vbtaam.Frac) (g : Mx) : Prop := ∃ (dx l fl ga : Addr) (as pf : List Addr), LAd K t H ln dx l fl ga as pf caps vs pu g
theorem LAd.av {H : Hp} {ln dx l fl ga : Addr} {as pf : List Addr} {caps : List Nat} {vs : List Mx} {pu : List Vbtaam.Frac} {g : Mx} (L : LAd K t H ln dx l fl ga as pf caps vs pu g) : ∀ a ∈ [l, fl], H a ≠ none := by
 intro a ha;simp at ha;rcases ha with rfl | rfl
 ·rw [L.vl]; simp
 ·rw [L.fll]; simp
theorem LAt.same {H H' : Hp} {ln : Addr} {caps : List Nat} {vs : List Mx} {pu : List Vbtaam.Frac} {g : Mx} (h : LAt K t H ln caps vs pu g) (s : Same H H') : LAt K t H' ln caps vs pu g := by
 obtain ⟨dx, l, fl, ga, as, pf, L⟩ := h;exact ⟨dx, l, fl, ga, as, pf, s _ _ L.at_, s _ _ L.vl, L.nd, L.la, L.lc, s _ _ L.fll, L.fs.imp fun _ _ h => s.sqT h, L.ne, L.go.same s, fun i a m n h1 h2 h3 => (L.ve i a m n h1 h2 h3).same s, L.gn, L.ln1, L.ln2⟩
def lf1 (l : Addr) : List (Str × V) := [("vessels", .ref l)]
def lf2 (l fl : Addr) : List (Str × V) := [("vessels", .ref l), ("filled", .ref fl)]
def spLInit (K : PySem.W.Frag) (t : Ad) : Sp := fun vs H Q _ => ∃ (p dx : Addr), vs = [.ref p] /\ H p = some (.ins t.CL dx []) /\ ∀ H' : Hp, LAt K t H' p [] [] [{}, {}, {}] ⟨{}, []⟩ -> But p H H' -> Q .non H'
theorem ok_Line_init (F : Fun K "__init__" "Line.__init__" s_Line_init f fd) (T : Txt P K mg t) (C_Mixture : CDef P w K mg base 34 "Mixture" t.CM p_Mixture_init (spMInit K)) : FnOk P w K mg base CX0 36 f fd p_Line_init (spLInit K t) := by
 refine F.ok sc_Line_init (fun vs H Q E h => ?_) (fun cdv A outer s H vs Q E hr h => ?_)
 ·obtain ⟨p, dx, rfl, _⟩ := h;rfl
 ·obtain ⟨p, dx, rfl, hp, k⟩ := h;have nd := sc_Line_init.nd;refine ⟨_, (pss_cons (ps_fld (pv 0) (pe_lst pa_nil) rfl) (pss_cons (ps_fld (pv 0) (pe_lc rfl nd (pi_range1 rfl T.b_range (pa_cons (pe_cI T.c_KINDS rfl) pa_nil)) (own := [("kind", 1)]) (show BlkOk N_Line_init (defScope s_Line_init) _ _ from ⟨rfl, by decide +kernel, by decide +kernel, by decide +kernel, by decide +kernel⟩) (fun _ _ _ _ _ => pg_name (i := 1) nd rfl (by walk_at "o")) (fun _ _ _ _ _ => pts_nil) (fun _ _ _ _ _ => (pe_glob (v := .ref t.aN) rfl T.m_NOTHING rfl))) rfl) (pss_one (ps_fld (pv 0) (pe_cls0 C_Mixture (hr.mono (by decide)) rfl) rfl)))), ?_⟩;walk_at "r";refine rd_lstE rfl fun l hl => ?_;walk_at "r";have n1 : l ≠ p := fun e => by rw [e, hp] at hl; cases hl
  refine rd_setfE (fs := []) (dx := dx) (C := t.CL) (by rw [upd_ne (Ne.symm n1)]; exact hp) T.cL T.nL_vessels (by show 0 < 1000; decide) ?_;have e1 : putF "vessels" (V.ref l) [] = (lf1 l) := rfl;rw [e1];have B1 : But p H (upd (upd H l (.lst [])) p (.ins t.CL dx (lf1 l))) := ((Same.new hl).but (p := p)).trans But.upd;have p1 : (upd (upd H l (.lst [])) p (.ins t.CL dx (lf1 l))) p = some (.ins t.CL dx (lf1 l)) := upd_same;have l1 : (upd (upd H l (.lst [])) p (.ins t.CL dx (lf1 l))) l = some (.lst []) := by rw [upd_ne n1]; exact upd_same
  generalize upd (upd H l (.lst [])) p (.ins t.CL dx (lf1 l)) = H2 at *;walk_at "r";refine ⟨3, rfl, by decide, by decide, fun D hD => ?_⟩;refine lc_range (lo := 0) (n := (3 : Int).toNat) (fun i H' => H' D = some (.lst (List.replicate i (V.ref t.aN))) /\ Same H2 H') ⟨upd_same, Same.new hD⟩ ?_ ?_
  ·rintro i H' hi ⟨h1, h2⟩;refine rd_gname ⟨rfl, ?_⟩;walk_at "r";refine iteT ?_;walk_at "r";refine ⟨_, h1, by rw [List.length_replicate]; exact Nat.lt_trans hi (by decide), ?_, ?_⟩
   ·rw [upd_same, List.replicate_succ']
   ·intro b o e;rw [upd_ne (ne_of_none e hD)];exact h2 b o e
  ·rintro H3 ⟨d3, s3⟩;have d3 : H3 D = some (.lst ([t.aN, t.aN, t.aN].map V.ref)) := d3;walk_at "r";refine rd_setfE (s3 _ _ p1) T.cL T.nL_filled (by show 1 < 1000; decide) ?_;have e2 : putF "filled" (V.ref D) (lf1 l) = (lf2 l D) := by
    unfold lf1;rw [put_ne (by decide +kernel)];rfl
   rw [e2];have Dp : D ≠ p := fun e => by rw [e, p1] at hD; cases hD
   have Dl : D ≠ l := fun e => by rw [e, l1] at hD; cases hD
   have B4 : But p H3 (upd H3 p (.ins t.CL dx (lf2 l D))) := But.upd;have p4 : (upd H3 p (.ins t.CL dx (lf2 l D))) p = some (.ins t.CL dx (lf2 l D)) := upd_same;have l4 := B4 _ _ (s3 _ _ l1) n1;have d4 := B4 _ _ d3 Dp;generalize upd H3 p (.ins t.CL dx (lf2 l D)) = H4 at *;have B24 : But p H H4 := (B1.trans s3.but).trans B4;walk_at "r";intro x dx' nx ndx nex;have s5 : Same H4 (upd (upd H4 dx' (.own x)) x (.ins t.CM dx' [])) := fun b o e => by rw [upd_ne (ne_of_none e nx), upd_ne (ne_of_none e ndx)]; exact e
   refine ⟨x, t.CM, dx', [l, D], rfl, T.iM, upd_same, ?_, fun H5 c sA kA M B => ⟨rfl, ?_⟩⟩
   ·intro a ha;simp at ha;rcases ha with rfl | rfl
    ·rw [s5 _ _ l4]; simp
    ·rw [s5 _ _ d4]; simp
   ·have k5 : ∀ b o, H4 b = some o -> H5 b = some o := fun b o e => B b o (s5 b o e) (ne_of_none e nx);walk_at "r";refine rd_setfE (k5 _ _ p4) T.cL T.nL_gone (by show 2 < 1000; decide) ?_;have e3 : putF "gone" (V.ref x) (lf2 l D) = lf l D x := by
     unfold lf2;rw [put_ne (by decide +kernel), put_ne (by decide +kernel)];rfl
    rw [e3];have B6 : But p H5 (upd H5 p (.ins t.CL dx (lf l D x))) := But.upd;have xp : x ≠ p := fun e => by rw [e, p4] at nx; cases nx
    refine k _ ⟨dx, l, D, x, [], [t.aN, t.aN, t.aN], upd_same, B6 _ _ (k5 _ _ l4) n1, by simp, rfl, rfl, B6 _ _ (k5 _ _ d4) Dp, ?_, Ne.symm Dl, MAt.but ⟨dx', c, sA, kA, [], M⟩ B6 (k5 _ _ p4) xp, fun i a m n h => by simp at h, by simp, by simp, Ne.symm xp⟩ ?_
    ·exact ((Fs.nil.snoc (T.n_NOTHING _)).snoc (T.n_NOTHING _)).snoc (T.n_NOTHING _)
    ·intro b o e ne;exact B6 _ _ (k5 _ _ (B24 b o e ne)) ne
def spHas (K : PySem.W.Frag) (t : Ad) : Sp := fun us H Q _ => ∃ (ln : Addr) (caps : List Nat) (vs : List Mx) (pu : List Vbtaam.Frac) (g : Mx) (n : Int), us = [.ref ln, .int n] /\ LAt K t H ln caps vs pu g /\ Q (.bl (decide (0 <= n /\ n <= (vs.length : Int) - 1))) H
theorem ok_Line_has_vessel (F : Fun K "has_vessel" "Line.has_vessel" s_Line_has_vessel f fd) (T : Txt P K mg t) (D_is_within : Def P w K mg base 34 "is_within" p_is_within spWithin) : FnOk P w K mg base CX0 35 f fd p_Line_has_vessel (spHas K t) := by
 refine F.ok sc_Line_has_vessel (fun vs H Q E h => ?_) (fun cdv A outer s H vs Q E hr h => ?_)
 ·obtain ⟨ln, caps, vs, pu, g, n, rfl, _⟩ := h;rfl
 ·obtain ⟨ln, caps, vs, pu, g, n, rfl, ⟨dx, l, fl, ga, as, pf, L⟩, k⟩ := h;refine ⟨_, (pss_one (ps_ret (pe_def D_is_within (hr.mono (by decide)) rfl (pa_cons (pv 1) (pa_cons pe_int (pa_cons (pe_op op_sub (pe_callB call_len_seq (by rfl) T.b_len bt_len (pa_cons (pe_fld (pv 0) rfl) pa_nil)) pe_int) pa_nil)))))), ?_⟩;walk_at "r";refine rd_fldE L.at_ T.cL T.nL_vessels (lf_v _ _ _) ?_;walk_at "r";refine ⟨l, _, rfl, .inl (SqL.of L.vl), ?_⟩;walk_at "r";refine ⟨n, 0, _, rfl, ?_⟩;rw [List.length_map, L.la];exact k
theorem LAd.vessel {H : Hp} {ln dx l fl ga : Addr} {as pf : List Addr} {caps : List Nat} {vs : List Mx} {pu : List Vbtaam.Frac} {g : Mx} (L : LAd K t H ln dx l fl ga as pf caps vs pu g) {i : Nat} (hi : i < vs.length) :
  ∃ (a : Addr) (m : Mx) (n : Nat), as[i]? = some a /\ vs[i]? = some m /\ caps[i]? = some n /\ MAt K [l, fl] H a t.CV (some n) m := by
 have h1 : i < as.length := by rw [L.la]; exact hi
 have h2 : i < caps.length := by rw [L.lc]; exact hi
 exact ⟨_, _, _, List.getElem?_eq_getElem h1, List.getElem?_eq_getElem hi, List.getElem?_eq_getElem h2, L.ve i _ _ _ (List.getElem?_eq_getElem h1) (List.getElem?_eq_getElem hi) (List.getElem?_eq_getElem h2)⟩
theorem refs_at {as : List Addr} {i : Nat} {x : V} (h : (as.map V.ref)[i]? = some x) : ∃ a, as[i]? = some a /\ x = .ref a := by
 rw [List.getElem?_map] at h;cases e : as[i]? with
 | none => rw [e] at h; cases h
 | some a => rw [e] at h; exact ⟨a, rfl, (Option.some.inj h).symm⟩
theorem small3 {n : Nat} (h : n <= 1000) : n < sizeLine := Nat.lt_of_le_of_lt h (by decide)
def spSizes (K : PySem.W.Frag) (t : Ad) : Sp := fun us H Q _ => ∃ (ln : Addr) (caps : List Nat) (vs : List Mx) (pu : List Vbtaam.Frac) (g : Mx), us = [.ref ln] /\ LAt K t H ln caps vs pu g /\ vs.length <= 3 /\ OutN H Q caps
theorem ok_Line_sizes (F : Fun K "sizes" "Line.sizes" s_Line_sizes f fd) (T : Txt P K mg t) : FnOk P w K mg base CX0 34 f fd p_Line_sizes (spSizes K t) := by
 refine F.ok sc_Line_sizes (fun vs H Q E h => ?_) (fun cdv A outer s H vs Q E hr h => ?_)
 ·obtain ⟨ln, caps, vs, pu, g, rfl, _⟩ := h;rfl
 ·obtain ⟨ln, caps, vs, pu, g, rfl, ⟨dx, l, fl, ga, as, pf, L⟩, l3, k⟩ := h;have nd := sc_Line_sizes.nd;refine ⟨_, (pss_one (ps_ret (pe_lc rfl nd (pi_list (pe_fld (pv 0) rfl)) (own := [("vessel", 1)]) (show BlkOk N_Line_sizes (defScope s_Line_sizes) _ _ from ⟨rfl, by decide +kernel, by decide +kernel, by decide +kernel, by decide +kernel⟩) (fun _ _ _ _ _ => pg_name (i := 1) nd rfl (by walk_at "o")) (fun _ _ _ _ _ => pts_nil) (fun _ _ _ _ _ => (pe_fldK (K := K) rfl (pv 1) rfl))))), ?_⟩;walk_at "r";refine rd_fldE L.at_ T.cL T.nL_vessels (lf_v _ _ _) ?_;refine ⟨l, rfl, ⟨_, SqL.of L.vl⟩, fun D hD => ?_⟩;refine lc_list (K := K) (a := l) (xs := as.map V.ref) (fun i H' => H' D = some (.lst (nl (caps.take i))) /\ Same H H') ⟨upd_same, Same.new hD⟩ (fun i H' _ ⟨_, s1⟩ => s1.seq (SqL.of L.vl)) ?_ ?_
  ·rintro i x H' hi ⟨h1, s1⟩;obtain ⟨a, ha, rfl⟩ := refs_at hi;obtain ⟨a', m, n, ha', hm, hn, dx', c, sA, kA, ks, M⟩ := L.vessel (i := i) (by rw [<- L.la]; exact (List.getElem?_eq_some_iff.mp ha).1);cases ha.symm.trans ha';refine rd_gname ⟨rfl, ?_⟩;walk_at "r";refine iteT ?_;walk_at "r";refine rd_fldE (s1 _ _ M.at_) T.iV.cl T.nV_size (mf_z _ _ _ _) ?_;refine ⟨_, h1, ?_, ?_, ?_⟩
   ·have := L.lc;unfold nl;rw [List.length_map, List.length_take];exact small3 (by omega)
   ·rw [upd_same, List.take_add_one, hn];unfold nl;rw [List.map_append];rfl
   ·intro b o e;rw [upd_ne (ne_of_none e hD)];exact s1 b o e
  ·rintro H' ⟨h1, s1⟩;refine k H' D s1 hD ?_;rw [h1, List.take_of_length_le (by rw [List.length_map, L.la, L.lc]; exact Nat.le_refl _)]
def whole1 (vs : List Mx) : List Bool := vs.map fun m => decide (m.c.den = 1)
def spWhole (K : PySem.W.Frag) (t : Ad) : Sp := fun us H Q _ => ∃ (ln : Addr) (caps : List Nat) (vs : List Mx) (pu : List Vbtaam.Frac) (g : Mx), us = [.ref ln] /\ LAt K t H ln caps vs pu g /\ vs.length <= 3 /\ ∀ H' : Hp, Same H H' -> Q (.bl ((whole1 vs).all id)) H'
theorem ok_Line_is_whole (F : Fun K "is_whole" "Line.is_whole" s_Line_is_whole f fd) (T : Txt P K mg t) : FnOk P w K mg base CX0 34 f fd p_Line_is_whole (spWhole K t) := by
 refine F.ok sc_Line_is_whole (fun vs H Q E h => ?_) (fun cdv A outer s H vs Q E hr h => ?_)
 ·obtain ⟨ln, caps, vs, pu, g, rfl, _⟩ := h;rfl
 ·obtain ⟨ln, caps, vs, pu, g, rfl, ⟨dx, l, fl, ga, as, pf, L⟩, l3, k⟩ := h;have nd := sc_Line_is_whole.nd;refine ⟨_, (pss_one (ps_ret (pe_callB (cr_all rfl) (by rfl) T.b_all bt_all (pa_cons (pe_lc rfl nd (pi_list (pe_fld (pv 0) rfl)) (own := [("vessel", 1)]) (show BlkOk N_Line_is_whole (defScope s_Line_is_whole) _ _ from ⟨rfl, by decide +kernel, by decide +kernel, by decide +kernel, by decide +kernel⟩) (fun _ _ _ _ _ => pg_name (i := 1) nd rfl (by walk_at "o")) (fun _ _ _ _ _ => pts_nil) (fun _ _ _ _ _ => (pe_cmpR op_eq (pe_ix (ix_tupK (K := K) rfl) (pe_fldK (K := K) rfl (pv 1) rfl) pe_int (fun _ _ => rfl)) pe_int (nomark _)))) pa_nil)))), ?_⟩;walk_at "r";refine rd_fldE L.at_ T.cL T.nL_vessels (lf_v _ _ _) ?_;refine ⟨l, rfl, ⟨_, SqL.of L.vl⟩, fun D hD => ?_⟩;have lw : (whole1 vs).length = vs.length := by unfold whole1; rw [List.length_map]
  refine lc_list (K := K) (a := l) (xs := as.map V.ref) (fun i H' => H' D = some (.lst (((whole1 vs).take i).map V.bl)) /\ Same H H') ⟨upd_same, Same.new hD⟩ (fun i H' _ ⟨_, s1⟩ => s1.seq (SqL.of L.vl)) ?_ ?_
  ·rintro i x H' hi ⟨h1, s1⟩;obtain ⟨a, ha, rfl⟩ := refs_at hi;obtain ⟨a', m, n, ha', hm, hn, dx', c, sA, kA, ks, M⟩ := L.vessel (i := i) (by rw [<- L.la]; exact (List.getElem?_eq_some_iff.mp ha).1);cases ha.symm.trans ha';refine rd_gname ⟨rfl, ?_⟩;walk_at "r";refine iteT ?_;walk_at "r";refine rd_fldE (s1 _ _ M.at_) T.iV.cl T.iV.nc (mf_c _ _ _ _) ?_;walk_at "r";refine rd_ixT (M.con.same s1) rfl ?_;walk_at "r";refine ⟨_, h1, ?_, ?_, ?_⟩
   ·rw [List.length_map, List.length_take];exact small3 (by omega)
   ·have e : (whole1 vs)[i]? = some (decide (m.c.den = 1)) := by
     unfold whole1;rw [List.getElem?_map, hm];rfl
    have e2 : decide (V.int (m.c.den : Int) = V.int 1) = decide (m.c.den = 1) := by
     by_cases z : m.c.den = 1
     ·rw [z]; rfl
     ·rw [decide_eq_false z, decide_eq_false (fun q => z (by have := V.int.inj q; omega))]
    rw [upd_same, List.take_add_one, e, e2, List.map_append];rfl
   ·intro b o e;rw [upd_ne (ne_of_none e hD)];exact s1 b o e
  ·rintro H' ⟨h1, s1⟩;rw [List.take_of_length_le (by rw [List.length_map, L.la, lw]; exact Nat.le_refl _)] at h1;walk_at "r";exact ⟨D, whole1 vs, rfl, SqL.of h1, k H' s1⟩
def spCon (K : PySem.W.Frag) (t : Ad) : Sp := fun us H Q _ => ∃ (ln : Addr) (caps : List Nat) (vs : List Mx) (pu : List Vbtaam.Frac) (g : Mx), us = [.ref ln] /\ LAt K t H ln caps vs pu g /\ vs.length <= 3 /\
 ∀ (H' : Hp) (p : Addr), Same H H' -> H p = none -> H' p = some (.tup (nl (vs.map fun m => m.c.num))) -> Q (.ref p) H'
theorem ok_Line_contents (F : Fun K "contents" "Line.contents" s_Line_contents f fd) (T : Txt P K mg t) : FnOk P w K mg base CX0 34 f fd p_Line_contents (spCon K t) := by
 refine F.ok sc_Line_contents (fun vs H Q E h => ?_) (fun cdv A outer s H vs Q E hr h => ?_)
 ·obtain ⟨ln, caps, vs, pu, g, rfl, _⟩ := h;rfl
 ·obtain ⟨ln, caps, vs, pu, g, rfl, ⟨dx, l, fl, ga, as, pf, L⟩, l3, k⟩ := h;have nd := sc_Line_contents.nd;refine ⟨_, (pss_one (ps_ret (pe_callTy call_tuple_of (by rfl) T.b_tuple bt_tuple (pa_cons (pe_lc rfl nd (pi_list (pe_fld (pv 0) rfl)) (own := [("vessel", 1)]) (show BlkOk N_Line_contents (defScope s_Line_contents) _ _ from ⟨rfl, by decide +kernel, by decide +kernel, by decide +kernel, by decide +kernel⟩) (fun _ _ _ _ _ => pg_name (i := 1) nd rfl (by walk_at "o")) (fun _ _ _ _ _ => pts_nil) (fun _ _ _ _ _ => (pe_ix (ix_tupK (K := K) rfl) (pe_fldK (K := K) rfl (pv 1) rfl) pe_int (fun _ _ => rfl)))) pa_nil)))), ?_⟩;walk_at "r";refine rd_fldE L.at_ T.cL T.nL_vessels (lf_v _ _ _) ?_;refine ⟨l, rfl, ⟨_, SqL.of L.vl⟩, fun D hD => ?_⟩;refine lc_list (K := K) (a := l) (xs := as.map V.ref) (fun i H' => H' D = some (.lst (nl ((vs.map fun m => m.c.num).take i))) /\ Same H H') ⟨upd_same, Same.new hD⟩ (fun i H' _ ⟨_, s1⟩ => s1.seq (SqL.of L.vl)) ?_ ?_
  ·rintro i x H' hi ⟨h1, s1⟩;obtain ⟨a, ha, rfl⟩ := refs_at hi;obtain ⟨a', m, n, ha', hm, hn, dx', c, sA, kA, ks, M⟩ := L.vessel (i := i) (by rw [<- L.la]; exact (List.getElem?_eq_some_iff.mp ha).1);cases ha.symm.trans ha';refine rd_gname ⟨rfl, ?_⟩;walk_at "r";refine iteT ?_;walk_at "r";refine rd_fldE (s1 _ _ M.at_) T.iV.cl T.iV.nc (mf_c _ _ _ _) ?_;walk_at "r";refine rd_ixT (M.con.same s1) rfl ?_;refine ⟨_, h1, ?_, ?_, ?_⟩
   ·unfold nl;rw [List.length_map, List.length_take, List.length_map];exact small3 (by omega)
   ·have e : (vs.map fun m => m.c.num)[i]? = some m.c.num := by rw [List.getElem?_map, hm]; rfl
    rw [upd_same, List.take_add_one, e];unfold nl;rw [List.map_append];rfl
   ·intro b o e;rw [upd_ne (ne_of_none e hD)];exact s1 b o e
  ·rintro H' ⟨h1, s1⟩;rw [List.take_of_length_le (by rw [List.length_map, List.length_map, L.la]; exact Nat.le_refl _)] at h1;walk_at "r";refine ⟨D, _, rfl, .inl ⟨SqL.of h1, fun p hp => ?_⟩⟩;exact k _ p (s1.trans (Same.new hp)) (s1.free hp) upd_same
structure MvOk (ma mb : Mx) (tt : Vbtaam.Frac) : Prop where
 put : PutOk mb tt ma.ss
 la : Low ma.c
 ba : FB 2013 ma.c
 le : q tt <= q ma.c
def spMove (K : PySem.W.Frag) (t : Ad) : Sp := fun us H Q _ => ∃ (a b ta Ca Cb : Addr) (av : List Addr) (oa ob : Option Nat) (ma mb : Mx) (tt : Vbtaam.Frac), us = [.ref a, .ref b, .ref ta] /\ (Ca = t.CM ∨ Ca = t.CV) /\ (Cb = t.CM ∨ Cb = t.CV) /\ a ≠ b /\
 MAt K av H a Ca oa ma /\ MAt K av H b Cb ob mb /\ FAt K H ta tt /\ MvOk ma mb tt /\ (∀ a ∈ av, H a ≠ none) /\
 ∀ (H' : Hp) (l : Addr), (∀ x o, H x = some o -> x ≠ a -> x ≠ b -> H' x = some o) -> MAt K av H' a Ca oa (mtake ma tt) -> MAt K av H' b Cb ob (mput mb tt ma.ss) -> H' l = some (.lst [.int 0, .int tt.num, .int tt.den]) -> H l = none -> Q (.ref l) H'
theorem isM_of (T : Txt P K mg t) {C : Addr} (h : C = t.CM ∨ C = t.CV) : IsM K C := by
 rcases h with rfl | rfl
 ·exact T.iM
 ·exact T.iV
theorem ok_move (F : Fun K "move" "move" s_move f fd) (T : Txt P K mg t) (MP : ∀ C, (C = t.CM ∨ C = t.CV) -> MDef P w K mg base 39 C "put" p_Mixture_put (spPut K)) (MT : ∀ C, (C = t.CM ∨ C = t.CV) -> MDef P w K mg base 39 C "take" p_Mixture_take (spTake K)) :
  FnOk P w K mg base CX0 40 f fd p_move (spMove K t) := by
 refine F.ok sc_move (fun vs H Q E h => ?_) (fun cdv A outer s H vs Q E hr h => ?_)
 ·obtain ⟨_, _, _, _, _, _, _, _, _, _, _, rfl, _⟩ := h;rfl
 ·obtain ⟨a, b, ta, Ca, Cb, av, oa, ob, ma, mb, tt, rfl, hCa, hCb, hab, MA, MB', ht, ok, hav, k⟩ := h;have M_Mixture_put := MP Cb hCb;have M_Mixture_take := MT Ca hCa;have Ia := isM_of T hCa;have Ib := isM_of T hCb;refine ⟨_, (pss_cons (ps_expr (pe_mdef M_Mixture_put (hr.mono (by decide)) (pv 1) (pa_cons (pv 2) (pa_cons (pe_fld (pv 0) rfl) pa_nil)))) (pss_cons (ps_expr (pe_mdef M_Mixture_take (hr.mono (by decide)) (pv 0) (pa_cons (pv 2) pa_nil))) (pss_one (ps_ret (pe_lst (pa_cons pe_int (pa_cons (pe_ix ix_tup (pv 2) pe_int (fun _ _ => rfl)) (pa_cons (pe_ix ix_tup (pv 2) pe_int (fun _ _ => rfl)) pa_nil)))))))), ?_⟩;have MA0 := MA;have MB0 := MB';obtain ⟨dxa, ca, sa, ka, ksa, NA⟩ := MA;obtain ⟨dxb, cb, sb, kb, ksb, NB⟩ := MB';walk_at "r";refine rd_methE NB.at_ (mf_no _ _ _ _ (by decide +kernel) (by decide +kernel) (by decide +kernel) (by decide +kernel)) ?_;walk_at "r";refine rd_fldE NA.at_ Ia.cl Ia.ns (mf_s _ _ _ _) ?_;walk_at "r";refine ⟨b, Cb, ta, sa, av, ob, mb, tt, ma.ss, rfl, Ib, MB0, ht, SqL.of NA.sh, ok.put, hav, fun H1 B1 M1 => ?_⟩;have MA1 := MA0.but B1 NB.at_ hab;have ht1 : FAt K H1 ta tt := B1.ins NB.at_ ht;have at1 := B1 _ _ NA.at_ hab;walk_at "r";refine rd_methE at1 (mf_no _ _ _ _ (by decide +kernel) (by decide +kernel) (by decide +kernel) (by decide +kernel)) ?_;walk_at "r";refine ⟨a, Ca, ta, av, oa, ma, tt, rfl, Ia, MA1, ht1, ok.la, ok.put.lt, ok.le, ok.ba, ok.put.bt, fun H2 B2 M2 => ?_⟩;have ht2 : FAt K H2 ta tt := B2.ins at1 ht1;walk_at "r";refine rd_lstE rfl fun l hl => ?_;have s3 : Same H2 (upd H2 l (.lst [.int 0, .int tt.num, .int tt.den])) := Same.new hl;refine k _ l (fun x o e na nb => s3 _ _ (B2 _ _ (B1 _ _ e nb) na)) (M2.same s3) ((M1.but B2 at1 (Ne.symm hab)).same s3) upd_same ?_;cases hq : H l with
  | none => rfl
  | some u =>
   have nla : l ≠ a := fun e => by
    obtain ⟨d, fs, z⟩ := M2.ins;rw [e, z] at hl; cases hl
   have nlb : l ≠ b := fun e => by
    obtain ⟨d, fs, z⟩ := (M1.but B2 at1 (Ne.symm hab)).ins;rw [e, z] at hl; cases hl
   rw [B2 _ _ (B1 _ _ hq nlb) nla] at hl;cases hl
def NoIns (o : HO) : Prop := ∀ C d fs, o ≠ .ins C d fs
def FrI (H H' : Hp) : Prop := ∀ x o, H x = some o -> NoIns o -> H' x = some o
def Fr (l fl : Addr) (H H' : Hp) : Prop := ∀ x o, H x = some o -> x ≠ l -> x ≠ fl -> NoIns o -> H' x = some o
theorem FrI.of_same {H H' : Hp} (s : Same H H') : FrI H H' := fun x o h _ => s x o h
theorem FrI.trans {H H1 H2 : Hp} (a : FrI H H1) (b : FrI H1 H2) : FrI H H2 := fun x o h n => b x o (a x o h n) n
theorem FrI.of_but {H H' : Hp} {p C d : Addr} {fs : List (Str × V)} (s : But p H H') (h : H p = some (.ins C d fs)) : FrI H H' := fun x o e n => s x o e fun z => by
 subst z;rw [h] at e;exact n C d fs (Option.some.inj e).symm
theorem FrI.fr {H H' : Hp} {l fl : Addr} (a : FrI H H') : Fr l fl H H' := fun x o h _ _ n => a x o h n
theorem Fr.trans {H H1 H2 : Hp} {l fl : Addr} (a : Fr l fl H H1) (b : Fr l fl H1 H2) : Fr l fl H H2 := fun x o h n1 n2 n => b x o (a x o h n1 n2 n) n1 n2 n
theorem Fr.of_butl {H H' : Hp} {l fl : Addr} (s : But l H H') : Fr l fl H H' := fun x o e n1 _ _ => s x o e n1
theorem Fr.of_butf {H H' : Hp} {l fl : Addr} (s : But fl H H') : Fr l fl H H' := fun x o e _ n2 _ => s x o e n2
theorem noins_lst {xs : List V} : NoIns (.lst xs) := fun _ _ _ e => by cases e
theorem noins_tup {xs : List V} : NoIns (.tup xs) := fun _ _ _ e => by cases e
theorem noins_frz {ob : Obj} {u : HO} : NoIns (.frz ob u) := fun _ _ _ e => by cases e
theorem FrI.sqT {H H' : Hp} {a : Addr} {xs : List V} (s : FrI H H') (h : SqT K H a xs) : SqT K H' a xs := by
 rcases h with (h | ⟨o, h⟩) | h
 ·exact .inl (.inl (s _ _ h noins_tup))
 ·exact .inl (.inr ⟨o, s _ _ h noins_frz⟩)
 ·exact .inr h
theorem LAd.remake {H H' : Hp} {ln dx l fl ga : Addr} {as pf : List Addr} {caps : List Nat} {vs vs' : List Mx} {pu : List Vbtaam.Frac} {g g' : Mx} (L : LAd K t H ln dx l fl ga as pf caps vs pu g) (fr : FrI H H') (hln : H' ln = some (.ins t.CL dx (lf l fl ga)))
  (go : MAt K [l, fl] H' ga t.CM none g') (len : vs'.length = vs.length) (ve : ∀ (i : Nat) (a : Addr) (m : Mx) (n : Nat), as[i]? = some a -> vs'[i]? = some m -> caps[i]? = some n -> MAt K [l, fl] H' a t.CV (some n) m) : LAd K t H' ln dx l fl ga as pf caps vs' pu g' :=
 ⟨hln, fr _ _ L.vl noins_lst, L.nd, by rw [L.la, len], by rw [L.lc, len], fr _ _ L.fll noins_lst, L.fs.imp fun _ _ h => fr.sqT h, L.ne, go, ve, L.gn, L.ln1, L.ln2⟩
theorem LAd.set1 {H H' : Hp} {ln dx l fl ga a : Addr} {as pf : List Addr} {caps : List Nat} {vs : List Mx} {pu : List Vbtaam.Frac} {g m' : Mx} {i n : Nat} (L : LAd K t H ln dx l fl ga as pf caps vs pu g) (ha : as[i]? = some a) (hn : caps[i]? = some n) (B : But a H H') (M : MAt K [l, fl] H' a t.CV (some n) m') :
  LAd K t H' ln dx l fl ga as pf caps (vs.set i m') pu g := by
 have hi : i < vs.length := by rw [<- L.la]; exact (List.getElem?_eq_some_iff.mp ha).1
 obtain ⟨a0, m0, n0, e1, _, _, M0⟩ := L.vessel hi;cases ha.symm.trans e1;obtain ⟨d0, f0, I0⟩ := M0.ins;have am : a ∈ as := List.mem_of_getElem? ha;refine L.remake (FrI.of_but B I0) (B _ _ L.at_ fun e => L.ln1 (by rw [e]; exact am)) (L.go.but B I0 fun e => L.gn (by rw [e]; exact am)) (by simp) fun j b m k h1 h2 h3 => ?_;rcases set_at h2 with ⟨rfl, rfl, _⟩ | ⟨ne, h2⟩
 ·cases ha.symm.trans h1;cases hn.symm.trans h3;exact M
 ·exact (L.ve j b m k h1 h2 h3).but B I0 fun e => ne (nd_ix L.nd ha (by rw [<- e]; exact h1))
def LS (K : PySem.W.Frag) (t : Ad) (k : Nat) (H : Hp) (ln l fl : Addr) (s : Vbtaam.State) : Prop := ∃ (dx ga : Addr) (as pf : List Addr) (vs : List Mx) (g : Mx), LAd K t H ln dx l fl ga as pf (Vbtaam.caps s) vs s.put g /\ Rel k s vs g
def spC (K : PySem.W.Frag) (t : Ad) (ok : List Int -> Vbtaam.Call -> Prop) : Sp := fun us H Q _ => ∃ (ln ta l fl : Addr) (k : Nat) (s : Vbtaam.State) (args : List Int) (d : Vbtaam.Call), us = [.ref ln, .ref ta] /\ H ta = some (.lst (args.map V.int)) /\ ok args d /\ LS K t k H ln l fl s /\ k < 200 /\ ta ≠ l /\ ta ≠ fl /\
 ∀ (H' : Hp) (r : Addr), LS K t (k + 1) H' ln l fl (Vbtaam.step s d).1 -> Fr l fl H H' -> H' r = some (.lst ((Vbtaam.step s d).2.map V.int)) -> H r = none -> Q (.ref r) H'
theorem LS.mono {k : Nat} {H : Hp} {ln l fl : Addr} {s : Vbtaam.State} (h : LS K t k H ln l fl s) : LS K t (k + 1) H ln l fl s := by
 obtain ⟨dx, ga, as, pf, vs, g, L, R⟩ := h;exact ⟨dx, ga, as, pf, vs, g, L, R.mono⟩
theorem LAd.same {H H' : Hp} {ln dx l fl ga : Addr} {as pf : List Addr} {caps : List Nat} {vs : List Mx} {pu : List Vbtaam.Frac} {g : Mx} (L : LAd K t H ln dx l fl ga as pf caps vs pu g) (s : Same H H') : LAd K t H' ln dx l fl ga as pf caps vs pu g :=
 L.remake (.of_same s) (s _ _ L.at_) (L.go.same s) rfl fun i a m n h1 h2 h3 => (L.ve i a m n h1 h2 h3).same s
theorem LS.same {k : Nat} {H H' : Hp} {ln l fl : Addr} {s : Vbtaam.State} (h : LS K t k H ln l fl s) (e : Same H H') : LS K t k H' ln l fl s := by
 obtain ⟨dx, ga, as, pf, vs, g, L, R⟩ := h;exact ⟨dx, ga, as, pf, vs, g, L.same e, R⟩
theorem LS.lat {k : Nat} {H : Hp} {ln l fl : Addr} {s : Vbtaam.State} (h : LS K t k H ln l fl s) : ∃ vs g, LAt K t H ln (Vbtaam.caps s) vs s.put g /\ Rel k s vs g /\ vs.length = s.vessels.length /\ vs.length <= 3 := by
 obtain ⟨dx, ga, as, pf, vs, g, L, R⟩ := h;obtain ⟨l1, m1, q⟩ := id R;exact ⟨vs, g, ⟨dx, l, fl, ga, as, pf, L⟩, R, q.len.symm, q.le3⟩
theorem done_same {k : Nat} {H H' : Hp} {Q : VK} {ln l fl r : Addr} {s : Vbtaam.State} {d : Vbtaam.Call} {xs : List V} (hk : LS K t k H ln l fl s)
  (kk : ∀ (H' : Hp) (r : Addr), LS K t (k + 1) H' ln l fl (Vbtaam.step s d).1 -> Fr l fl H H' -> H' r = some (.lst ((Vbtaam.step s d).2.map V.int)) -> H r = none -> Q (.ref r) H') (e : Same H H') (hr : H' r = none) (e1 : (Vbtaam.step s d).1 = s) (e2 : (Vbtaam.step s d).2.map V.int = xs) : Q (.ref r) (upd H' r (.lst xs)) := by
 have s2 : Same H (upd H' r (.lst xs)) := e.trans (Same.new hr);refine kk _ r ?_ (FrI.of_same s2).fr (by rw [e2]; exact upd_same) (e.free hr);rw [e1];exact hk.mono.same s2
theorem fromD (n lo hi : Int) : Vbtaam.from_ n lo hi = decide (lo <= n /\ n <= hi) := rfl
def okVessel (args : List Int) (d : Vbtaam.Call) : Prop := ∃ c, args = [c] /\ d = .vessel c
theorem ok_call_vessel (F : Fun K "call_vessel" "call_vessel" s_call_vessel f fd) (T : Txt P K mg t) (D_is_within : Def P w K mg base 34 "is_within" p_is_within spWithin) (C_Vessel : CDef P w K mg base 35 "Vessel" t.CV p_Vessel_init (spVInit K t)) :
  FnOk P w K mg base CX0 41 f fd p_call_vessel (spC K t okVessel) := by
 refine F.ok sc_call_vessel (fun vs H Q E h => ?_) (fun cdv A outer s H vs Q E hr h => ?_)
 ·obtain ⟨_, _, _, _, _, _, _, _, rfl, _⟩ := h;rfl
 ·obtain ⟨ln, ta, l, fl, k, S, _, _, rfl, hta, ⟨c, rfl, rfl⟩, hLS, k200, tl, tf, kk⟩ := h;have nd := sc_call_vessel.nd;refine ⟨_, (pss_cons (ps_set (i := 2) nd rfl (by walk_at "o") (pe_ix ix_list (pv 1) pe_int (fun _ _ => rfl))) (pss_cons (ps_if (pt_not (pt_val (pe_def D_is_within (hr.mono (by decide)) rfl (pa_cons (pv 2) (pa_cons pe_int (pa_cons (pe_cI T.c_LARGEST_SIZE rfl) pa_nil)))))) (pss_one (ps_ret (pe_lst (pa_cons (pe_cI T.c_OUT_OF_RANGE rfl) pa_nil)))) pss_nil) (pss_cons (ps_if (pt_cmpR op_eq (pe_callB call_len_seq (by rfl) T.b_len bt_len (pa_cons (pe_fld (pv 0) rfl) pa_nil)) (pe_cI T.c_MOST_VESSELS rfl) (nomark _)) (pss_one (ps_ret (pe_lst (pa_cons (pe_cI T.c_NO_PLACE rfl) pa_nil)))) pss_nil) (pss_cons (ps_expr (pe_bm PySem.F.plainAttrs_list PySem.F.slot_list_append PySem.F.type_list_append mt_append (pe_fld (pv 0) rfl) (pa_cons (pe_cls C_Vessel (hr.mono (by decide)) rfl (pa_cons (pv 2) pa_nil)) pa_nil))) (pss_one (ps_ret (pe_lst (pa_cons pe_int (pa_cons (pe_op op_sub (pe_callB call_len_seq (by rfl) T.b_len bt_len (pa_cons (pe_fld (pv 0) rfl) pa_nil)) pe_int) pa_nil))))))))), ?_⟩;walk_at "r";refine rd_ixL (SqL.of hta) rfl ?_;walk_at "r";refine ⟨c, 1, 12, rfl, ?_⟩;walk_at "r"
  by_cases hc : 1 <= c /\ c <= 12
  ·rw [decide_eq_true hc];refine iteF ?_;obtain ⟨dx, ga, as, pf, vs, g, L, R⟩ := id hLS;obtain ⟨_, _, q⟩ := id R;have lenS := q.len;walk_at "r";refine rd_fldE L.at_ T.cL T.nL_vessels (lf_v _ _ _) ?_;walk_at "r";refine ⟨l, _, rfl, .inl (SqL.of L.vl), ?_⟩;walk_at "r";rw [List.length_map, L.la];have e1 : ¬ Vbtaam.from_ c 1 Vbtaam.CAP = false := by rw [fromD, decide_eq_true (show 1 <= c /\ c <= ((Vbtaam.CAP : Nat) : Int) from hc)]; decide
   by_cases h3 : vs.length = 3
   ·rw [h3];refine iteT ?_;walk_at "r";refine rd_lstE rfl fun r hr => ?_;have e2 : Vbtaam.step S (.vessel c) = Vbtaam.no S 5 := by
     show (if Vbtaam.from_ c 1 Vbtaam.CAP = false then _ else _) = _;rw [if_neg e1, if_pos (by rw [lenS, h3]; decide)]
    exact done_same hLS kk (Same.refl H) hr (by rw [e2]; rfl) (by rw [e2]; rfl)
   ·have h4 : vs.length < 3 := by have := q.le3; omega
    have e3 : decide (V.int (vs.length : Int) = V.int 3) = false := decide_eq_false fun z => h3 (by have := V.int.inj z; omega);rw [e3];refine iteF ?_;walk_at "r";refine rd_fldE L.at_ T.cL T.nL_vessels (lf_v _ _ _) ?_;refine ⟨.inl ⟨rfl, _, SqL.of L.vl⟩, ?_⟩;walk_at "r";obtain ⟨n, rfl⟩ : ∃ n : Nat, c = n := ⟨c.toNat, by omega⟩;intro x dx' nx ndx nex;have s1 : Same H (upd (upd H dx' (.own x)) x (.ins t.CV dx' [])) := fun b o e => by rw [upd_ne (ne_of_none e nx), upd_ne (ne_of_none e ndx)]; exact e
    refine ⟨x, dx', n, [l, fl], rfl, upd_same, fun a ha => ?_, fun H2 M B => ⟨rfl, ?_⟩⟩
    ·cases hq : H a with
     | none => exact absurd hq (L.av a ha)
     | some u => rw [s1 _ _ hq]; simp
    ·have s2 : Same H H2 := fun b o e => B b o (s1 b o e) (ne_of_none e nx);have L2 := L.same s2;walk_at "r";refine ⟨l, _, .ref x, rfl, rfl, L2.vl, by rw [List.length_map, L.la]; exact small3 (by omega), ?_⟩;have B3 : But l H2 (upd H2 l (.lst (as.map V.ref ++ [.ref x]))) := But.upd;have l3 : (upd H2 l (.lst (as.map V.ref ++ [.ref x]))) l = some (.lst ((as ++ [x]).map V.ref)) := by rw [upd_same, List.map_append]; rfl
     generalize upd H2 l (.lst (as.map V.ref ++ [.ref x])) = H3 at *;have lne : ∀ {b : Addr} {o : HO}, H2 b = some o -> NoIns o -> b ≠ l -> H3 b = some o := fun h _ n => B3 _ _ h n;have atl : H3 ln = some (.ins t.CL dx (lf l fl ga)) := B3 _ _ L2.at_ (ne_of L2.at_ L2.vl (by intro e; cases e));have xas : x ∉ as := fun hm => by
      obtain ⟨j, hj, e⟩ := List.getElem_of_mem hm;obtain ⟨a', m', n', h1, _, _, M'⟩ := L.vessel (i := j) (by rw [<- L.la]; exact hj);have : a' = x := by rw [List.getElem?_eq_getElem hj, e] at h1; exact (Option.some.inj h1).symm
      obtain ⟨d', f', I'⟩ := M'.ins;rw [this, nx] at I';cases I'
     have xga : ga ≠ x := fun e => by
      obtain ⟨d', f', I'⟩ := L.go.ins;rw [e, nx] at I';cases I'
     have xln : ln ≠ x := ne_of_none L.at_ nx;walk_at "r";refine rd_fldE atl T.cL T.nL_vessels (lf_v _ _ _) ?_;walk_at "r";refine ⟨l, _, rfl, .inl (SqL.of l3), ?_⟩;walk_at "r";refine rd_lstE rfl fun r hr => ?_;have e4 : Vbtaam.step S (.vessel n) = Vbtaam.yes { S with vessels := S.vessels ++ [{ cap := ((n : Nat) : Int).toNat, has := List.replicate Vbtaam.KINDS {} }] } [S.vessels.length] := by
      show (if Vbtaam.from_ n 1 Vbtaam.CAP = false then _ else _) = _;rw [if_neg e1, if_neg (by show ¬ 3 <= S.vessels.length; omega)]
     rw [Int.toNat_natCast] at e4;rw [e4] at kk;have s5 : Same H3 (upd H3 r (.lst [.int 0, .int (((((as ++ [x]).map V.ref).length : Nat) : Int) - 1)])) := Same.new hr;have Lnew : LAd K t H3 ln dx l fl ga (as ++ [x]) pf (Vbtaam.caps S ++ [n]) (vs ++ [⟨{}, []⟩]) S.put g := by
      refine ⟨atl, l3, ?_, by simp only [List.length_append, List.length_cons, List.length_nil, L.la], by simp only [List.length_append, List.length_cons, List.length_nil, L.lc], B3 _ _ L2.fll (Ne.symm L.ne), ?_, L.ne, L2.go.butL B3 L2.vl (by simp), fun i a m k' h1 h2 h3' => ?_, ?_, ?_, L.ln2⟩
      ·rw [List.nodup_append];exact ⟨L.nd, by simp, fun a ha b hb e => xas (by simp at hb; rw [<- hb, <- e]; exact ha)⟩
      ·exact L2.fs.imp fun _ _ h => B3.sqT L2.vl (fun _ e => by cases e) (fun _ _ e => by cases e) h
      ·by_cases hi : i < as.length
       ·rw [List.getElem?_append_left hi] at h1;rw [List.getElem?_append_left (by rw [<- L.la]; exact hi)] at h2;rw [List.getElem?_append_left (by rw [L.lc, <- L.la]; exact hi)] at h3';exact (L2.ve i a m k' h1 h2 h3').butL B3 L2.vl (by simp)
       ·rw [List.getElem?_append_right (by omega)] at h1;rw [List.getElem?_append_right (by rw [<- L.la]; omega)] at h2;rw [List.getElem?_append_right (by rw [L.lc, <- L.la]; omega)] at h3';rw [<- L.la] at h2;rw [L.lc, <- L.la] at h3';cases hz : i - as.length with
        | zero =>
         rw [hz] at h1 h2 h3';simp at h1 h2 h3';subst h1 h2 h3';exact M.butL B3 L2.vl (by simp)
        | succ z =>
         rw [hz] at h1;simp at h1
      ·intro hm;rcases List.mem_append.mp hm with hm | hm
       ·exact L.gn hm
       ·exact xga (by simpa using hm)
      ·intro hm;rcases List.mem_append.mp hm with hm | hm
       ·exact L.ln1 hm
       ·exact xln (by simpa using hm)
     have Rn := rel_new (n := n) R (by omega) (by omega) h4;refine kk _ r ⟨dx, ga, as ++ [x], pf, vs ++ [(⟨{}, []⟩ : Mx)], g, ?_, Rn⟩ (((FrI.of_same s2).fr.trans (Fr.of_butl B3)).trans (FrI.of_same s5).fr) ?_ ?_
     ·have ec : Vbtaam.caps { S with vessels := S.vessels ++ [{ cap := n, has := List.replicate Vbtaam.KINDS {} }] } = Vbtaam.caps S ++ [n] := by
       unfold Vbtaam.caps;rw [List.map_append];rfl
      show LAd K t _ ln dx l fl ga (as ++ [x]) pf (Vbtaam.caps { S with vessels := S.vessels ++ [{ cap := n, has := List.replicate Vbtaam.KINDS {} }] }) _ S.put g
      rw [ec];exact Lnew.same s5
     ·rw [upd_same];have : (((((as ++ [x]).map V.ref).length : Nat) : Int) - 1) = (S.vessels.length : Int) := by
       simp only [List.length_map, List.length_append, List.length_cons, List.length_nil, L.la, lenS];omega
      rw [this];rfl
     ·cases hq : H r with
      | none => rfl
      | some u =>
       have rl : r ≠ l := fun e => by rw [e, l3] at hr; cases hr
       rw [B3 _ _ (s2 _ _ hq) rl] at hr;cases hr
  ·rw [decide_eq_false hc];refine iteT ?_;walk_at "r";refine rd_lstE rfl fun r hr => ?_;have e2 : Vbtaam.step S (.vessel c) = Vbtaam.no S 1 := by
    show (if Vbtaam.from_ c 1 Vbtaam.CAP = false then _ else _) = _;rw [if_pos (by rw [fromD]; exact decide_eq_false hc)]
   exact done_same hLS kk (Same.refl H) hr (by rw [e2]; rfl) (by rw [e2]; rfl)
theorem caps_modify {l : List Vbtaam.Vessel} {i : Nat} {g : Vbtaam.Vessel -> Vbtaam.Vessel} (h : ∀ v, (g v).cap = v.cap) : (l.modify i g).map (fun v => v.cap) = l.map fun v => v.cap := by
 apply List.ext_getElem?;intro j;rw [List.getElem?_map, List.getElem?_map, List.getElem?_modify];cases hj : l[j]? with
 | none => simp
 | some v =>
  by_cases e : i = j
  ·simp [e, h]
  ·simp [e]
theorem LAd.pick {k : Nat} {H : Hp} {ln dx l fl ga : Addr} {as pf : List Addr} {vs : List Mx} {g : Mx} {S : Vbtaam.State} (L : LAd K t H ln dx l fl ga as pf (Vbtaam.caps S) vs S.put g) (R : Rel k S vs g) {v : Int} (h : 0 <= v /\ v <= (vs.length : Int) - 1) :
  ∃ (i : Nat) (a : Addr) (m : Mx) (sv : Vbtaam.Vessel), v = i /\ as[i]? = some a /\ vs[i]? = some m /\ S.vessels[i]? = some sv /\ (Vbtaam.caps S)[i]? = some sv.cap /\ MAt K [l, fl] H a t.CV (some sv.cap) m /\ sv.cap <= 12 /\ VRel sv m.c m.ss := by
 obtain ⟨i, rfl⟩ : ∃ i : Nat, v = i := ⟨v.toNat, by omega⟩;obtain ⟨a, m, n, h1, h2, h3, M⟩ := L.vessel (i := i) (by omega);obtain ⟨sv, e1, e2, e3⟩ := R.at_ h2;have e4 : (Vbtaam.caps S)[i]? = some sv.cap := by
  unfold Vbtaam.caps;rw [List.getElem?_map, e1];rfl
 cases h3.symm.trans e4;exact ⟨i, a, m, sv, rfl, h1, h2, e1, e4, M, e3, e2⟩
theorem sh3_of {m : Mx} {v : Vbtaam.Vessel} (b : MB m) (r : VRel v m.c m.ss) (h : 0 < m.c.num) : ∃ a b d, Sh3 m.ss a b d := by
 obtain ⟨a, b', d, e, p⟩ := r.shares h;refine ⟨a, b', d, e, p, ?_⟩;have := b.s h;rw [e, sum3] at this;exact this
theorem one_sh3 (kd : Nat) (h : kd < 3) : ∃ a b d, Sh3 (([0, 0, 0] : List Nat).set kd 1) a b d := by
 match kd, h with
 | 0, _ => exact ⟨1, 0, 0, rfl, by decide, by decide⟩
 | 1, _ => exact ⟨0, 1, 0, rfl, by decide, by decide⟩
 | 2, _ => exact ⟨0, 0, 1, rfl, by decide, by decide⟩
def okFill (args : List Int) (d : Vbtaam.Call) : Prop := ∃ v k, args = [v, k] /\ d = .fill v k
theorem isV_eq (S : Vbtaam.State) (v : Int) : Vbtaam.isVessel S v = decide (0 <= v /\ v <= (S.vessels.length : Int) - 1) := rfl
theorem ok_call_fill (F : Fun K "call_fill" "call_fill" s_call_fill f fd) (T : Txt P K mg t) (M_Line_has_vessel : MDef P w K mg base 35 t.CL "has_vessel" p_Line_has_vessel (spHas K t)) (D_is_kind : Def P w K mg base 35 "is_kind" p_is_kind spKind)
  (M_Vessel_room : MDef P w K mg base 39 t.CV "room" p_Vessel_room (spRoom K t)) (D_shares_of_one_kind : Def P w K mg base 34 "shares_of_one_kind" p_shares_of_one_kind spShares1) (MP : ∀ C, (C = t.CM ∨ C = t.CV) -> MDef P w K mg base 39 C "put" p_Mixture_put (spPut K))
  (D_plus : Def P w K mg base 37 "plus" p_plus (spPlusI K)) : FnOk P w K mg base CX0 41 f fd p_call_fill (spC K t okFill) := by
 refine F.ok sc_call_fill (fun vs H Q E h => ?_) (fun cdv A outer s H vs Q E hr h => ?_)
 ·obtain ⟨_, _, _, _, _, _, _, _, rfl, _⟩ := h;rfl
 ·obtain ⟨ln, ta, l, fl, k, S, _, _, rfl, hta, ⟨v, kd, rfl, rfl⟩, hLS, k200, tl, tf, kk⟩ := h;have nd := sc_call_fill.nd;have M_Mixture_put := MP t.CV (.inr rfl);refine ⟨_, (pss_cons (ps_set (i := 2) nd rfl (by walk_at "o") (pe_ix ix_list (pv 1) pe_int (fun _ _ => rfl))) (pss_cons (ps_set (i := 3) nd rfl (by walk_at "o") (pe_ix ix_list (pv 1) pe_int (fun _ _ => rfl))) (pss_cons (ps_if (PW.pt (pw_or (pt_not (pt_val (pe_mdef M_Line_has_vessel (hr.mono (by decide)) (pv 0) (pa_cons (pv 2) pa_nil)))) (pw_or1 (pt_not (pt_val (pe_def D_is_kind (hr.mono (by decide)) rfl (pa_cons (pv 3) pa_nil))))))) (pss_one (ps_ret (pe_lst (pa_cons (pe_cI T.c_OUT_OF_RANGE rfl) pa_nil)))) pss_nil) (pss_cons (ps_set (i := 4) nd rfl (by walk_at "o") (pe_ix ix_list (pe_fld (pv 0) rfl) (pv 2) (fun _ _ => rfl))) (pss_cons (ps_set (i := 5) nd rfl (by walk_at "o") (pe_mdef0 M_Vessel_room (hr.mono (by decide)) (pv 4))) (pss_cons (ps_expr (pe_mdef M_Mixture_put (hr.mono (by decide)) (pv 4) (pa_cons (pv 5) (pa_cons (pe_def D_shares_of_one_kind (hr.mono (by decide)) rfl (pa_cons (pv 3) pa_nil)) pa_nil)))) (pss_cons (ps_asg (pe_def D_plus (hr.mono (by decide)) rfl (pa_cons (pe_ix ix_list (pe_fld (pv 0) rfl) (pv 3) (fun _ _ => rfl)) (pa_cons (pv 5) pa_nil))) (pg_sub (pe_fld (pv 0) rfl) (pv 3) set_list)) (pss_one (ps_ret (pe_lst (pa_cons pe_int (pa_cons (pe_ix ix_tup (pv 5) pe_int (fun _ _ => rfl)) (pa_cons (pe_ix ix_tup (pv 5) pe_int (fun _ _ => rfl)) pa_nil))))))))))))), ?_⟩;obtain ⟨dx, ga, as, pf, vs, g, L, R⟩ := id hLS;have lenS : vs.length = S.vessels.length := by obtain ⟨_, _, q⟩ := id R; exact q.len.symm
  have hL : LAt K t H ln (Vbtaam.caps S) vs S.put g := ⟨dx, l, fl, ga, as, pf, L⟩;walk_at "r";refine rd_ixL (SqL.of hta) rfl ?_;walk_at "r";refine rd_ixL (SqL.of hta) rfl ?_;walk_at "r";refine rd_methE L.at_ (lf_no _ _ _ (by decide +kernel) (by decide +kernel) (by decide +kernel)) ?_;walk_at "r";refine ⟨ln, _, vs, _, g, v, rfl, hL, ?_⟩;walk_at "r"
  by_cases hv : 0 <= v /\ v <= (vs.length : Int) - 1
  ·rw [decide_eq_true hv];refine iteF ?_;walk_at "r";refine ⟨kd, rfl, ?_⟩;walk_at "r"
   by_cases hk : 0 <= kd /\ kd <= 2
   ·rw [decide_eq_true hk];refine iteF ?_;obtain ⟨i, a, m, sv, rfl, ha, hm, hsv, hcap, M, cap12, VR'⟩ := L.pick R hv;obtain ⟨kn, rfl⟩ : ∃ n : Nat, kd = n := ⟨kd.toNat, by omega⟩;have k3 : kn < 3 := by omega
    obtain ⟨room_eq, lowr, fbr, leq, cap1⟩ := R.room (by omega) hm hsv;have mb := R.mb (by omega) hm;obtain ⟨px, py, pz, PT, fb1, fb2, fb3⟩ := R.putb (by omega);have hput : ∃ p, S.put[kn]? = some p /\ Low p /\ FB 2013 p := by
     rw [PT.eq]
     match kn, k3 with
     | 0, _ => exact ⟨px, rfl, PT.lx, fb1⟩
     | 1, _ => exact ⟨py, rfl, PT.ly, fb2⟩
     | 2, _ => exact ⟨pz, rfl, PT.lz, fb3⟩
    obtain ⟨pu, hpu, lpu, fpu⟩ := hput;have e2 : Vbtaam.step S (.fill i kn) = Vbtaam.yes { S with vessels := S.vessels.modify i (fun x => Vbtaam.with_ x (Vbtaam.alone kn (Vbtaam.room sv))), put := Vbtaam.addAll S.put (Vbtaam.alone kn (Vbtaam.room sv)) } (Vbtaam.row (Vbtaam.room sv)) := by
     show (if Vbtaam.isVessel S i = false ∨ Vbtaam.from_ kn 0 2 = false then _ else _) = _;rw [if_neg (by rw [isV_eq, fromD, <- lenS, decide_eq_true hv, decide_eq_true hk]; decide)];simp only [Int.toNat_natCast, getD_at hsv]
    rw [e2] at kk;have Rn := rel_fill R k200 k3 hsv hm;rw [put_set PT kn k3 hpu] at kk Rn;rw [room_eq] at kk Rn;obtain ⟨dxm, cm, sm, km, ksm, N⟩ := id M;walk_at "r";refine rd_fldE L.at_ T.cL T.nL_vessels (lf_v _ _ _) ?_;walk_at "r";refine rd_ixL (SqL.of L.vl) (at_of (j := i) rfl (by rw [List.getElem?_map, ha]; rfl)) ?_;walk_at "r";refine rd_methE N.at_ (mf_no _ _ _ _ (by decide +kernel) (by decide +kernel) (by decide +kernel) (by decide +kernel)) ?_;walk_at "r";refine ⟨a, [l, fl], sv.cap, m, rfl, M, mb.low, mb.c, leq, cap12, fun H1 tA s1 n1 h1 => ?_⟩;have L1 := L.same s1;walk_at "r";refine rd_methE (s1 _ _ N.at_) (mf_no _ _ _ _ (by decide +kernel) (by decide +kernel) (by decide +kernel) (by decide +kernel)) ?_;walk_at "r";refine ⟨kn, rfl, k3, fun H2 oA s2 n2 h2 => ?_⟩;have L2 := L1.same s2;have s12 := s1.trans s2;refine ⟨a, t.CV, tA, oA, [l, fl], some sv.cap, m, _, _, rfl, T.iV, M.same s12, SqT.of (s2 _ _ h1), SqL.of h2, ⟨mb.low, mb.c, lowr, fbr, fun _ => one_sh3 kn k3, fun hp => sh3_of mb VR' hp⟩, L2.av, fun H3 B3 M3 => ?_⟩;have at2 := s12 _ _ N.at_;have L3 := L2.set1 ha hcap B3 M3;have ht3 : FAt K H3 tA (Vbtaam.less (Vbtaam.whole sv.cap) m.c) := B3.ins at2 (SqT.of (s2 _ _ h1));walk_at "r";refine rd_fldE L3.at_ T.cL T.nL_filled (lf_f _ _ _) ?_;walk_at "r";have hl3 : S.put.length = 3 := by rw [PT.eq]; rfl
    have hpl : pf.length = 3 := by rw [L3.fs.1, hl3]
    obtain ⟨pa, hpa⟩ : ∃ pa, pf[kn]? = some pa := ⟨_, List.getElem?_eq_getElem (by omega)⟩;refine rd_ixL (SqL.of L3.fll) (at_of (j := kn) rfl (by rw [List.getElem?_map, hpa]; rfl)) ?_;walk_at "r";refine plus_of ⟨pa, tA, pu, _, rfl, L3.fs.2 kn pa pu hpa hpu, ht3, lpu.pos, lowr.pos, fpu.mono (by decide), fbr.mono (by decide), fun H4 qa s4 n4 h4 => ?_⟩;have L4 := L3.same s4;walk_at "r";refine rd_fldE L4.at_ T.cL T.nL_filled (lf_f _ _ _) ?_;walk_at "r";refine ⟨fl, _, kn, kn, rfl, rfl, L4.fll, ?_, ?_⟩
    ·rw [List.length_map, hpl];show ixN 3 _ = _;unfold ixN;rw [if_pos (by omega), if_pos (by omega)];simp
    ·have B5 : But fl H4 (upd H4 fl (.lst ((pf.map V.ref).set kn (.ref qa)))) := But.upd;have fl5 : (upd H4 fl (.lst ((pf.map V.ref).set kn (.ref qa)))) fl = some (.lst ((pf.set kn qa).map V.ref)) := by rw [upd_same, List.map_set]
     generalize upd H4 fl (.lst ((pf.map V.ref).set kn (.ref qa))) = H5 at *;have i5 : ∀ {a : Addr} {xs : List V}, SqT K H4 a xs -> SqT K H5 a xs := fun h => B5.sqT L4.fll (fun _ e => by cases e) (fun _ _ e => by cases e) h;have ht5 : FAt K H5 tA (Vbtaam.less (Vbtaam.whole sv.cap) m.c) := i5 (ht3.same s4);walk_at "r";refine rd_lstE rfl fun r hr => ?_;have s6 : Same H5 (upd H5 r (.lst [.int 0, .int ((Vbtaam.less (Vbtaam.whole sv.cap) m.c).num : Int), .int ((Vbtaam.less (Vbtaam.whole sv.cap) m.c).den : Int)])) := Same.new hr;have L5 : LAd K t H5 ln dx l fl ga as (pf.set kn qa) (Vbtaam.caps S) (vs.set i (mput m (Vbtaam.less (Vbtaam.whole sv.cap) m.c) (([0, 0, 0] : List Nat).set kn 1))) (S.put.set kn (Vbtaam.plus pu (Vbtaam.less (Vbtaam.whole sv.cap) m.c))) g := by
      refine ⟨B5 _ _ L4.at_ (ne_of L4.at_ L4.fll (by intro e; cases e)), B5 _ _ L4.vl L.ne, L4.nd, L4.la, L4.lc, fl5, ⟨by simp only [List.length_set]; exact L4.fs.1, fun j b x h1 h2 => ?_⟩, L.ne, L4.go.butL B5 L4.fll (by simp), fun j b x n h1 h2 h3 => (L4.ve j b x n h1 h2 h3).butL B5 L4.fll (by simp), L4.gn, L4.ln1, L4.ln2⟩;rcases set_at h1 with ⟨rfl, rfl, _⟩ | ⟨ne, h1⟩
      ·rcases set_at h2 with ⟨_, rfl, _⟩ | ⟨ne, _⟩
       ·exact i5 (SqT.of h4)
       ·exact absurd rfl ne
      ·rcases set_at h2 with ⟨e, _⟩ | ⟨_, h2⟩
       ·exact absurd e ne
       ·exact i5 (L4.fs.2 j b x h1 h2)
     have ec : Vbtaam.caps { S with vessels := S.vessels.modify i (fun x => Vbtaam.with_ x (Vbtaam.alone kn (Vbtaam.less (Vbtaam.whole sv.cap) m.c))), put := S.put.set kn (Vbtaam.plus pu (Vbtaam.less (Vbtaam.whole sv.cap) m.c)) } = Vbtaam.caps S := caps_modify fun _ => rfl
     refine kk _ r ⟨dx, ga, as, pf.set kn qa, _, g, ?_, Rn⟩ ?_ upd_same ?_
     ·show LAd K t _ ln dx l fl ga as (pf.set kn qa) (Vbtaam.caps { S with vessels := _, put := _ }) _ _ g
      rw [ec];exact L5.same s6
     ·exact ((((FrI.of_same s12).trans (FrI.of_but B3 at2)).trans (FrI.of_same s4)).fr.trans (Fr.of_butf B5)).trans (FrI.of_same s6).fr
     ·cases hq : H r with
      | none => rfl
      | some u =>
       have ra : r ≠ a := fun e => by
        obtain ⟨d', f', I'⟩ := (L5.ve i a _ _ ha (by rw [List.getElem?_set_self (List.getElem?_eq_some_iff.mp hm).1]) hcap).ins;rw [e, I'] at hr;cases hr
       have rf : r ≠ fl := fun e => by rw [e, fl5] at hr; cases hr
       rw [B5 _ _ (s4 _ _ (B3 _ _ (s12 _ _ hq) ra)) rf] at hr;cases hr
   ·rw [decide_eq_false hk];refine iteT ?_;walk_at "r";refine rd_lstE rfl fun r hr => ?_;have e2 : Vbtaam.step S (.fill v kd) = Vbtaam.no S 1 := by
     show (if Vbtaam.isVessel S v = false ∨ Vbtaam.from_ kd 0 2 = false then _ else _) = _;rw [if_pos (.inr (by rw [fromD]; exact decide_eq_false hk))]
    exact done_same hLS kk (Same.refl H) hr (by rw [e2]; rfl) (by rw [e2]; rfl)
  ·rw [decide_eq_false hv];refine iteT ?_;refine iteT ?_;walk_at "r";refine rd_lstE rfl fun r hr => ?_;have e2 : Vbtaam.step S (.fill v kd) = Vbtaam.no S 1 := by
    show (if Vbtaam.isVessel S v = false ∨ Vbtaam.from_ kd 0 2 = false then _ else _) = _;rw [if_pos (.inl (by rw [isV_eq, <- lenS]; exact decide_eq_false hv))]
   exact done_same hLS kk (Same.refl H) hr (by rw [e2]; rfl) (by rw [e2]; rfl)
theorem Rel.grel {k : Nat} {S : Vbtaam.State} {vs : List Mx} {g : Mx} (h : Rel k S vs g) : VRel (gv S) g.c g.ss := by
 obtain ⟨_, _, h⟩ := h;exact h.gone.rel
theorem Rel.lens {k : Nat} {S : Vbtaam.State} {vs : List Mx} {g : Mx} (h : Rel k S vs g) : vs.length = S.vessels.length /\ vs.length <= 3 := by
 obtain ⟨_, _, h⟩ := h;exact ⟨h.len.symm, h.le3⟩
def okDrain (args : List Int) (d : Vbtaam.Call) : Prop := ∃ v, args = [v] /\ d = .drain v
theorem ok_call_drain (F : Fun K "call_drain" "call_drain" s_call_drain f fd) (T : Txt P K mg t) (M_Line_has_vessel : MDef P w K mg base 35 t.CL "has_vessel" p_Line_has_vessel (spHas K t)) (D_move : Def P w K mg base 40 "move" p_move (spMove K t)) :
  FnOk P w K mg base CX0 41 f fd p_call_drain (spC K t okDrain) := by
 refine F.ok sc_call_drain (fun vs H Q E h => ?_) (fun cdv A outer s H vs Q E hr h => ?_)
 ·obtain ⟨_, _, _, _, _, _, _, _, rfl, _⟩ := h;rfl
 ·obtain ⟨ln, ta, l, fl, k, S, _, _, rfl, hta, ⟨v, rfl, rfl⟩, hLS, k200, tl, tf, kk⟩ := h;have nd := sc_call_drain.nd;refine ⟨_, (pss_cons (ps_set (i := 2) nd rfl (by walk_at "o") (pe_ix ix_list (pv 1) pe_int (fun _ _ => rfl))) (pss_cons (ps_if (pt_not (pt_val (pe_mdef M_Line_has_vessel (hr.mono (by decide)) (pv 0) (pa_cons (pv 2) pa_nil)))) (pss_one (ps_ret (pe_lst (pa_cons (pe_cI T.c_OUT_OF_RANGE rfl) pa_nil)))) pss_nil) (pss_cons (ps_set (i := 3) nd rfl (by walk_at "o") (pe_ix ix_list (pe_fld (pv 0) rfl) (pv 2) (fun _ _ => rfl))) (pss_one (ps_ret (pe_def D_move (hr.mono (by decide)) rfl (pa_cons (pv 3) (pa_cons (pe_fld (pv 0) rfl) (pa_cons (pe_fld (pv 3) rfl) pa_nil))))))))), ?_⟩;obtain ⟨dx, ga, as, pf, vs, g, L, R⟩ := id hLS;obtain ⟨lenS, le3⟩ := R.lens;have hL : LAt K t H ln (Vbtaam.caps S) vs S.put g := ⟨dx, l, fl, ga, as, pf, L⟩;walk_at "r";refine rd_ixL (SqL.of hta) rfl ?_;walk_at "r";refine rd_methE L.at_ (lf_no _ _ _ (by decide +kernel) (by decide +kernel) (by decide +kernel)) ?_;walk_at "r";refine ⟨ln, _, vs, _, g, v, rfl, hL, ?_⟩;walk_at "r"
  by_cases hv : 0 <= v /\ v <= (vs.length : Int) - 1
  ·rw [decide_eq_true hv];refine iteF ?_;obtain ⟨i, a, m, sv, rfl, ha, hm, hsv, hcap, M, cap12, VR'⟩ := L.pick R hv;have mb := R.mb (by omega) hm;have mg' := R.mbg (by omega);have grel := R.grel;have e2 : Vbtaam.step S (.drain i) = Vbtaam.yes { S with vessels := S.vessels.modify i Vbtaam.empty, gone := Vbtaam.addAll S.gone sv.has } (Vbtaam.row (Vbtaam.content sv)) := by
    show (if Vbtaam.isVessel S i = false then _ else _) = _;rw [if_neg (by rw [isV_eq, <- lenS, decide_eq_true hv]; decide)];simp only [Int.toNat_natCast, getD_at hsv]
   rw [e2, <- VR'.ec] at kk;have Rn := rel_drain R k200 hsv hm;obtain ⟨dxm, cm, sm, km, ksm, N⟩ := id M;have agn : a ≠ ga := fun e => L.gn (by rw [<- e]; exact List.mem_of_getElem? ha);walk_at "r";refine rd_fldE L.at_ T.cL T.nL_vessels (lf_v _ _ _) ?_;walk_at "r";refine rd_ixL (SqL.of L.vl) (at_of (j := i) rfl (by rw [List.getElem?_map, ha]; rfl)) ?_;walk_at "r";refine rd_fldE L.at_ T.cL T.nL_gone (lf_g _ _ _) ?_;walk_at "r";refine rd_fldE N.at_ T.iV.cl T.iV.nc (mf_c _ _ _ _) ?_;walk_at "r";refine ⟨a, ga, cm, t.CV, t.CM, [l, fl], some sv.cap, none, m, g, m.c, rfl, .inr rfl, .inl rfl, agn, M, L.go, N.con, ⟨⟨mg'.low, mg'.c, mb.low, mb.c, fun hp => sh3_of mb VR' hp, fun hp => sh3_of mg' grel hp⟩, mb.low, mb.c, Rat.le_refl⟩, L.av, fun H' r fr M1 M2 hr nr => ?_⟩;obtain ⟨dg, fg, Ig⟩ := L.go.ins;have FI : FrI H H' := fun x o e n => fr x o e (fun z => by subst z; rw [N.at_] at e; exact n _ _ _ (Option.some.inj e).symm) (fun z => by subst z; rw [Ig] at e; exact n _ _ _ (Option.some.inj e).symm);have am : a ∈ as := List.mem_of_getElem? ha;have Ln : LAd K t H' ln dx l fl ga as pf (Vbtaam.caps S) (vs.set i (mtake m m.c)) S.put (mput g m.c m.ss) := by
    refine L.remake FI (fr _ _ L.at_ (fun e => L.ln1 (by rw [e]; exact am)) L.ln2) M2 (by simp) fun j b x n h1 h2 h3 => ?_;rcases set_at h2 with ⟨rfl, rfl, _⟩ | ⟨ne, h2⟩
    ·cases ha.symm.trans h1;cases hcap.symm.trans h3;exact M1
    ·have nb : b ≠ a := fun e => ne (nd_ix L.nd ha (by rw [<- e]; exact h1));have ng : b ≠ ga := fun e => L.gn (by rw [<- e]; exact List.mem_of_getElem? h1);obtain ⟨d1, c1, s1, k1, ks1, N1⟩ := L.ve j b x n h1 h2 h3;exact ⟨d1, c1, s1, k1, ks1, fr _ _ N1.at_ nb ng, FI.sqT N1.con, FI _ _ N1.sh noins_lst, FI _ _ N1.kn noins_lst, N1.sa, N1.ka, N1.kk.imp fun _ _ h => FI.sqT h⟩
   have ec : Vbtaam.caps { S with vessels := S.vessels.modify i Vbtaam.empty, gone := Vbtaam.addAll S.gone sv.has } = Vbtaam.caps S := caps_modify fun _ => rfl
   refine kk H' r ⟨dx, ga, as, pf, _, _, ?_, Rn⟩ FI.fr hr nr;show LAd K t H' ln dx l fl ga as pf (Vbtaam.caps { S with vessels := S.vessels.modify i Vbtaam.empty, gone := Vbtaam.addAll S.gone sv.has }) _ S.put _
   rw [ec];exact Ln
  ·rw [decide_eq_false hv];refine iteT ?_;walk_at "r";refine rd_lstE rfl fun r hr => ?_;have e2 : Vbtaam.step S (.drain v) = Vbtaam.no S 1 := by
    show (if Vbtaam.isVessel S v = false then _ else _) = _;rw [if_pos (by rw [isV_eq, <- lenS]; exact decide_eq_false hv)]
   exact done_same hLS kk (Same.refl H) hr (by rw [e2]; rfl) (by rw [e2]; rfl)
def pairR (n : Nat) (a b : Int) : Int := if ¬ (0 <= a /\ a <= (n : Int) - 1) ∨ ¬ (0 <= b /\ b <= (n : Int) - 1) then -1 else if a = b then -3 else 0
def spPair (K : PySem.W.Frag) (t : Ad) : Sp := fun us H Q _ => ∃ (ln : Addr) (caps : List Nat) (vs : List Mx) (pu : List Vbtaam.Frac) (g : Mx) (a b : Int), us = [.ref ln, .int a, .int b] /\ LAt K t H ln caps vs pu g /\ Q (.int (pairR vs.length a b)) H
theorem ok_pair_refusal (F : Fun K "pair_refusal" "pair_refusal" s_pair_refusal f fd) (T : Txt P K mg t) (M_Line_has_vessel : MDef P w K mg base 35 t.CL "has_vessel" p_Line_has_vessel (spHas K t)) : FnOk P w K mg base CX0 36 f fd p_pair_refusal (spPair K t) := by
 refine F.ok sc_pair_refusal (fun vs H Q E h => ?_) (fun cdv A outer s H vs Q E hr h => ?_)
 ·obtain ⟨_, _, _, _, _, _, _, rfl, _⟩ := h;rfl
 ·obtain ⟨ln, caps, vs, pu, g, a, b, rfl, hL, k⟩ := h;have hL0 := hL;obtain ⟨dx, l, fl, ga, as, pf, L⟩ := hL;refine ⟨_, (pss_cons (ps_if (PW.pt (pw_or (pt_not (pt_val (pe_mdef M_Line_has_vessel (hr.mono (by decide)) (pv 0) (pa_cons (pv 1) pa_nil)))) (pw_or1 (pt_not (pt_val (pe_mdef M_Line_has_vessel (hr.mono (by decide)) (pv 0) (pa_cons (pv 2) pa_nil))))))) (pss_one (ps_ret (pe_cI T.c_OUT_OF_RANGE rfl))) pss_nil) (pss_cons (ps_if (pt_cmpR op_eq (pv 1) (pv 2) (nomark _)) (pss_one (ps_ret (pe_cI T.c_ONE_VESSEL rfl))) pss_nil) (pss_one (ps_ret pe_int)))), ?_⟩;walk_at "r";refine rd_methE L.at_ (lf_no _ _ _ (by decide +kernel) (by decide +kernel) (by decide +kernel)) ?_;walk_at "r";refine ⟨ln, _, vs, _, g, a, rfl, hL0, ?_⟩;walk_at "r"
  by_cases h1 : 0 <= a /\ a <= (vs.length : Int) - 1
  ·rw [decide_eq_true h1];refine iteF ?_;walk_at "r";refine rd_methE L.at_ (lf_no _ _ _ (by decide +kernel) (by decide +kernel) (by decide +kernel)) ?_;walk_at "r";refine ⟨ln, _, vs, _, g, b, rfl, hL0, ?_⟩;walk_at "r"
   by_cases h2 : 0 <= b /\ b <= (vs.length : Int) - 1
   ·rw [decide_eq_true h2];refine iteF ?_;walk_at "r";have e : pairR vs.length a b = if a = b then -3 else 0 := if_neg (by simp only [not_or, Decidable.not_not]; exact ⟨h1, h2⟩)
    by_cases h3 : a = b
    ·subst h3;refine ite2 (fun _ => ?_) (fun c => absurd (decide_eq_true rfl) c);walk_at "r";rw [e, if_pos rfl] at k;exact k
    ·refine ite2 (fun c => absurd (V.int.inj (of_decide_eq_true c)) h3) (fun _ => ?_);walk_at "r";rw [e, if_neg h3] at k;exact k
   ·rw [decide_eq_false h2];refine iteT ?_;walk_at "r";have e : pairR vs.length a b = -1 := if_pos (.inr h2);rw [e] at k;exact k
  ·rw [decide_eq_false h1];refine iteT ?_;refine iteT ?_;walk_at "r";have e : pairR vs.length a b = -1 := if_pos (.inl h1);rw [e] at k;exact k
theorem moved {k i j d : Nat} {H H' : Hp} {ln dx l fl ga a b : Addr} {as pf : List Addr} {vs : List Mx} {g ma mb : Mx} {S : Vbtaam.State} {sa sb : Vbtaam.Vessel} {tt : Vbtaam.Frac} (L : LAd K t H ln dx l fl ga as pf (Vbtaam.caps S) vs S.put g) (R : Rel k S vs g) (k200 : k < 200) (hij : i ≠ j)
  (ha : as[i]? = some a) (hma : vs[i]? = some ma) (hsa : S.vessels[i]? = some sa) (hca : (Vbtaam.caps S)[i]? = some sa.cap) (hb : as[j]? = some b) (hmb : vs[j]? = some mb) (hsb : S.vessels[j]? = some sb) (hcb : (Vbtaam.caps S)[j]? = some sb.cap)
  (lt : Low tt) (dp : 0 < d) (d1000 : d <= 1000) (dt : ∀ L, (∀ (i : Nat) m, vs[i]? = some m -> m.c.den ∣ L) -> tt.den ∣ L * d) (le1 : q tt <= q ma.c) (le2 : q tt <= q (Vbtaam.room sb))
  (fr : ∀ x o, H x = some o -> x ≠ a -> x ≠ b -> H' x = some o) (M1 : MAt K [l, fl] H' a t.CV (some sa.cap) (mtake ma tt)) (M2 : MAt K [l, fl] H' b t.CV (some sb.cap) (mput mb tt ma.ss)) :
  LS K t (k + 1) H' ln l fl (Vbtaam.pourOf S i j tt) /\ FrI H H' := by
 have Rn := rel_move R k200 hij hsa hma hsb hmb lt dp d1000 dt le1 le2;obtain ⟨da, fa, Ia⟩ := (L.ve i a ma _ ha hma hca).ins;obtain ⟨db, fb, Ib⟩ := (L.ve j b mb _ hb hmb hcb).ins;have FI : FrI H H' := fun x o e n => fr x o e (fun z => by subst z; rw [Ia] at e; exact n _ _ _ (Option.some.inj e).symm) (fun z => by subst z; rw [Ib] at e; exact n _ _ _ (Option.some.inj e).symm);have am : a ∈ as := List.mem_of_getElem? ha;have bm : b ∈ as := List.mem_of_getElem? hb;refine ⟨⟨dx, ga, as, pf, _, g, ?_, Rn⟩, FI⟩;have ec : Vbtaam.caps (Vbtaam.pourOf S i j tt) = Vbtaam.caps S := by
  unfold Vbtaam.pourOf Vbtaam.caps;simp only;exact (caps_modify (g := fun v => Vbtaam.with_ v (Vbtaam.part (Vbtaam.vessel S i) tt)) fun _ => rfl).trans (caps_modify (g := fun v => Vbtaam.without v tt) fun _ => rfl)
 rw [ec];show LAd K t H' ln dx l fl ga as pf (Vbtaam.caps S) _ S.put g;have keep : ∀ {p C : Addr} {o : Option Nat} {m : Mx}, MAt K [l, fl] H p C o m -> p ≠ a -> p ≠ b -> MAt K [l, fl] H' p C o m := fun h na nb => by
  obtain ⟨d1, c1, s1, k1, ks1, N1⟩ := h;exact ⟨d1, c1, s1, k1, ks1, fr _ _ N1.at_ na nb, FI.sqT N1.con, FI _ _ N1.sh noins_lst, FI _ _ N1.kn noins_lst, N1.sa, N1.ka, N1.kk.imp fun _ _ h => FI.sqT h⟩
 refine L.remake FI (fr _ _ L.at_ (fun e => L.ln1 (by rw [e]; exact am)) (fun e => L.ln1 (by rw [e]; exact bm))) (keep L.go (fun e => L.gn (by rw [e]; exact am)) (fun e => L.gn (by rw [e]; exact bm))) (by simp) fun z c x n h1 h2 h3 => ?_;rcases set_at h2 with ⟨rfl, rfl, _⟩ | ⟨ne, h2⟩
 ·cases ha.symm.trans h1;cases hca.symm.trans h3;exact M1
 ·rcases set_at h2 with ⟨rfl, rfl, _⟩ | ⟨ne2, h2⟩
  ·cases hb.symm.trans h1;cases hcb.symm.trans h3;exact M2
  ·exact keep (L.ve z c x n h1 h2 h3) (fun e => ne (nd_ix L.nd ha (by rw [<- e]; exact h1))) (fun e => ne2 (nd_ix L.nd hb (by rw [<- e]; exact h1)))
def okPour (args : List Int) (d : Vbtaam.Call) : Prop := ∃ a b, args = [a, b] /\ d = .pour a b
theorem ok_call_pour (F : Fun K "call_pour" "call_pour" s_call_pour f fd) (T : Txt P K mg t) (D_pair_refusal : Def P w K mg base 36 "pair_refusal" p_pair_refusal (spPair K t)) (D_move : Def P w K mg base 40 "move" p_move (spMove K t)) (D_lesser : Def P w K mg base 35 "lesser" p_lesser (spLesser K))
  (M_Vessel_room : MDef P w K mg base 39 t.CV "room" p_Vessel_room (spRoom K t)) : FnOk P w K mg base CX0 41 f fd p_call_pour (spC K t okPour) := by
 refine F.ok sc_call_pour (fun vs H Q E h => ?_) (fun cdv A outer s H vs Q E hr h => ?_)
 ·obtain ⟨_, _, _, _, _, _, _, _, rfl, _⟩ := h;rfl
 ·obtain ⟨ln, ta, l, fl, k, S, _, _, rfl, hta, ⟨a, b, rfl, rfl⟩, hLS, k200, tl, tf, kk⟩ := h;have nd := sc_call_pour.nd;refine ⟨_, (pss_cons (ps_set (i := 2) nd rfl (by walk_at "o") (pe_def D_pair_refusal (hr.mono (by decide)) rfl (pa_cons (pv 0) (pa_cons (pe_ix ix_list (pv 1) pe_int (fun _ _ => rfl)) (pa_cons (pe_ix ix_list (pv 1) pe_int (fun _ _ => rfl)) pa_nil))))) (pss_cons (ps_if (pt_cmpR op_lt (pv 2) pe_int (nomark _)) (pss_one (ps_ret (pe_lst (pa_cons (pv 2) pa_nil)))) pss_nil) (pss_cons (ps_set (i := 3) nd rfl (by walk_at "o") (pe_ix ix_list (pe_fld (pv 0) rfl) (pe_ix ix_list (pv 1) pe_int (fun _ _ => rfl)) (fun _ _ => rfl))) (pss_cons (ps_set (i := 4) nd rfl (by walk_at "o") (pe_ix ix_list (pe_fld (pv 0) rfl) (pe_ix ix_list (pv 1) pe_int (fun _ _ => rfl)) (fun _ _ => rfl))) (pss_one (ps_ret (pe_def D_move (hr.mono (by decide)) rfl (pa_cons (pv 3) (pa_cons (pv 4) (pa_cons (pe_def D_lesser (hr.mono (by decide)) rfl (pa_cons (pe_fld (pv 3) rfl) (pa_cons (pe_mdef0 M_Vessel_room (hr.mono (by decide)) (pv 4)) pa_nil))) pa_nil)))))))))), ?_⟩;obtain ⟨dx, ga, as, pf, vs, g, L, R⟩ := id hLS;obtain ⟨lenS, le3⟩ := R.lens;have hL : LAt K t H ln (Vbtaam.caps S) vs S.put g := ⟨dx, l, fl, ga, as, pf, L⟩;walk_at "r";refine rd_ixL (SqL.of hta) rfl ?_;walk_at "r";refine rd_ixL (SqL.of hta) rfl ?_;walk_at "r";refine ⟨ln, _, vs, _, g, a, b, rfl, hL, ?_⟩;walk_at "r"
  by_cases hv : (0 <= a /\ a <= (vs.length : Int) - 1) /\ (0 <= b /\ b <= (vs.length : Int) - 1)
  ·have ep : pairR vs.length a b = if a = b then -3 else 0 := if_neg (by simp only [not_or, Decidable.not_not]; exact hv);have es : ¬ (Vbtaam.isVessel S a = false ∨ Vbtaam.isVessel S b = false) := by rw [isV_eq, isV_eq, <- lenS, decide_eq_true hv.1, decide_eq_true hv.2]; decide
   rw [ep]
   by_cases hab : a = b
   ·rw [if_pos hab];refine iteT ?_;walk_at "r";refine rd_lstE rfl fun r hr => ?_;have e2 : Vbtaam.step S (.pour a b) = Vbtaam.no S 3 := by
     show (if Vbtaam.isVessel S a = false ∨ Vbtaam.isVessel S b = false then _ else _) = _;rw [if_neg es, if_pos hab]
    exact done_same hLS kk (Same.refl H) hr (by rw [e2]; rfl) (by rw [e2]; rfl)
   ·rw [if_neg hab];refine iteF ?_;obtain ⟨i, xa, ma, sa, rfl, ha, hma, hsa, hca, MA, capa, VRa⟩ := L.pick R hv.1;obtain ⟨j, xb, mb, sb, rfl, hb, hmb, hsb, hcb, MB', capb, VRb⟩ := L.pick R hv.2;have hij : i ≠ j := fun e => hab (by rw [e]);have mba := R.mb (by omega) hma;have mbb := R.mb (by omega) hmb;obtain ⟨room_eq, lowr, fbr, leq, cap1⟩ := R.room (by omega) hmb hsb;have e2 : Vbtaam.step S (.pour i j) = Vbtaam.yes (Vbtaam.pourOf S i j (Vbtaam.least ma.c (Vbtaam.less (Vbtaam.whole sb.cap) mb.c))) (Vbtaam.row (Vbtaam.least ma.c (Vbtaam.less (Vbtaam.whole sb.cap) mb.c))) := by
     show (if Vbtaam.isVessel S i = false ∨ Vbtaam.isVessel S j = false then _ else _) = _;rw [if_neg es, if_neg hab];simp only [Int.toNat_natCast, getD_at hsa, getD_at hsb, <- VRa.ec, room_eq]
    rw [e2] at kk;have nab : xa ≠ xb := fun e => hij (nd_ix L.nd ha (by rw [e]; exact hb));obtain ⟨dxa, ca, sa', ka, ksa, NA⟩ := id MA;obtain ⟨dxb, cb, sb', kb, ksb, NB⟩ := id MB';walk_at "r";refine rd_fldE L.at_ T.cL T.nL_vessels (lf_v _ _ _) ?_;walk_at "r";refine rd_ixL (SqL.of hta) rfl ?_;walk_at "r";refine rd_ixL (SqL.of L.vl) (at_of (j := i) rfl (by rw [List.getElem?_map, ha]; rfl)) ?_;walk_at "r";refine rd_fldE L.at_ T.cL T.nL_vessels (lf_v _ _ _) ?_;walk_at "r";refine rd_ixL (SqL.of hta) rfl ?_;walk_at "r";refine rd_ixL (SqL.of L.vl) (at_of (j := j) rfl (by rw [List.getElem?_map, hb]; rfl)) ?_;walk_at "r";refine rd_fldE NA.at_ T.iV.cl T.iV.nc (mf_c _ _ _ _) ?_;walk_at "r";refine rd_methE NB.at_ (mf_no _ _ _ _ (by decide +kernel) (by decide +kernel) (by decide +kernel) (by decide +kernel)) ?_;walk_at "r";refine ⟨xb, [l, fl], sb.cap, mb, rfl, MB', mbb.low, mbb.c, leq, capb, fun H1 rA s1 n1 h1 => ?_⟩;refine ⟨ca, rA, ma.c, _, rfl, NA.con.same s1, SqT.of h1, mba.c.mono (by decide), fbr.mono (by decide), fun tA htA => ?_⟩;have Lt : Low (Vbtaam.least ma.c (Vbtaam.less (Vbtaam.whole sb.cap) mb.c)) /\ FB 2013 (Vbtaam.least ma.c (Vbtaam.less (Vbtaam.whole sb.cap) mb.c)) /\ q (Vbtaam.least ma.c (Vbtaam.less (Vbtaam.whole sb.cap) mb.c)) <= q ma.c /\ q (Vbtaam.least ma.c (Vbtaam.less (Vbtaam.whole sb.cap) mb.c)) <= q (Vbtaam.less (Vbtaam.whole sb.cap) mb.c) /\
      ∀ L, (∀ (i : Nat) m, vs[i]? = some m -> m.c.den ∣ L) -> (Vbtaam.least ma.c (Vbtaam.less (Vbtaam.whole sb.cap) mb.c)).den ∣ L * 1 := by
     unfold Vbtaam.least
     by_cases hm : Vbtaam.atMost ma.c (Vbtaam.less (Vbtaam.whole sb.cap) mb.c) = true
     ·rw [if_pos hm];exact ⟨mba.low, mba.c, Rat.le_refl, (atMost_iff mba.low lowr).mp hm, fun L h => by rw [Nat.mul_one]; exact h i ma hma⟩
     ·rw [if_neg hm];have hle : q (Vbtaam.less (Vbtaam.whole sb.cap) mb.c) <= q ma.c := by
       have hn : ¬ q ma.c <= q (Vbtaam.less (Vbtaam.whole sb.cap) mb.c) := fun z => hm ((atMost_iff mba.low lowr).mpr z);exact Rat.le_of_lt (Rat.not_le.mp hn)
      exact ⟨lowr, fbr, hle, Rat.le_refl, fun L h => by rw [Nat.mul_one]; exact den_less (low_whole _) mbb.low leq (den_whole _ _) (h j mb hmb)⟩
    obtain ⟨lowt, fbt, le1, le2, dt⟩ := Lt;have L1 := L.same s1;refine ⟨xa, xb, tA, t.CV, t.CV, [l, fl], some sa.cap, some sb.cap, ma, mb, _, rfl, .inr rfl, .inr rfl, nab, MA.same s1, MB'.same s1, htA, ⟨⟨mbb.low, mbb.c, lowt, fbt, fun hp => sh3_of mba VRa (num_pos mba.low (by have := q_pos lowt hp; grind)), fun hp => sh3_of mbb VRb hp⟩, mba.low, mba.c, le1⟩, L1.av, fun H' r fr M1 M2 hr nr => ?_⟩;obtain ⟨r1, r2⟩ := moved L1 R k200 hij ha hma hsa hca hb hmb hsb hcb lowt (by decide) (by decide) dt le1 (by rw [room_eq]; exact le2) fr M1 M2;exact kk H' r r1 ((FrI.of_same s1).trans r2).fr hr (s1.free nr)
  ·have ep : pairR vs.length a b = -1 := if_pos (by
    by_cases h1 : 0 <= a /\ a <= (vs.length : Int) - 1
    ·exact .inr fun h2 => hv ⟨h1, h2⟩
    ·exact .inl h1)
   rw [ep];refine iteT ?_;walk_at "r";refine rd_lstE rfl fun r hr => ?_;have e2 : Vbtaam.step S (.pour a b) = Vbtaam.no S 1 := by
    show (if Vbtaam.isVessel S a = false ∨ Vbtaam.isVessel S b = false then _ else _) = _;rw [if_pos (by
     rw [isV_eq, isV_eq, <- lenS]
     by_cases h1 : 0 <= a /\ a <= (vs.length : Int) - 1
     ·exact .inr (decide_eq_false fun h2 => hv ⟨h1, h2⟩)
     ·exact .inl (decide_eq_false h1))]
   exact done_same hLS kk (Same.refl H) hr (by rw [e2]; rfl) (by rw [e2]; rfl)
theorem set_self {α : Type} {l : List α} {i : Nat} {x : α} (h : l[i]? = some x) : l.set i x = l := by
 apply List.ext_getElem?;intro j;rw [List.getElem?_set]
 by_cases e : i = j
 ·subst e;rw [if_pos rfl, if_pos (List.getElem?_eq_some_iff.mp h).1, h]
 ·rw [if_neg e]
def okSome (args : List Int) (d : Vbtaam.Call) : Prop := ∃ a b x y, args = [a, b, x, y] /\ d = .some_ a b x y
theorem ok_call_some (F : Fun K "call_some" "call_some" s_call_some f fd) (T : Txt P K mg t) (D_is_within : Def P w K mg base 34 "is_within" p_is_within spWithin) (D_pair_refusal : Def P w K mg base 36 "pair_refusal" p_pair_refusal (spPair K t)) (D_move : Def P w K mg base 40 "move" p_move (spMove K t))
  (D_lowest : Def P w K mg base 36 "lowest" p_lowest spLowest) (D_is_more : Def P w K mg base 34 "is_more" p_is_more (spMore K)) (M_Vessel_room : MDef P w K mg base 39 t.CV "room" p_Vessel_room (spRoom K t)) : FnOk P w K mg base CX0 41 f fd p_call_some (spC K t okSome) := by
 refine F.ok sc_call_some (fun vs H Q E h => ?_) (fun cdv A outer s H vs Q E hr h => ?_)
 ·obtain ⟨_, _, _, _, _, _, _, _, rfl, _⟩ := h;rfl
 ·obtain ⟨ln, ta, l, fl, k, S, _, _, rfl, hta, ⟨a, b, x, y, rfl, rfl⟩, hLS, k200, tl, tf, kk⟩ := h;have nd := sc_call_some.nd;refine ⟨_, (pss_cons (ps_if (PW.pt (pw_or (pt_not (pt_val (pe_def D_is_within (hr.mono (by decide)) rfl (pa_cons (pe_ix ix_list (pv 1) pe_int (fun _ _ => rfl)) (pa_cons pe_int (pa_cons (pe_cI T.c_LARGEST_TOLD_PART rfl) pa_nil)))))) (pw_or1 (pt_not (pt_val (pe_def D_is_within (hr.mono (by decide)) rfl (pa_cons (pe_ix ix_list (pv 1) pe_int (fun _ _ => rfl)) (pa_cons pe_int (pa_cons (pe_cI T.c_LARGEST_TOLD_PART rfl) pa_nil))))))))) (pss_one (ps_ret (pe_lst (pa_cons (pe_cI T.c_OUT_OF_RANGE rfl) pa_nil)))) pss_nil) (pss_cons (ps_set (i := 2) nd rfl (by walk_at "o") (pe_def D_pair_refusal (hr.mono (by decide)) rfl (pa_cons (pv 0) (pa_cons (pe_ix ix_list (pv 1) pe_int (fun _ _ => rfl)) (pa_cons (pe_ix ix_list (pv 1) pe_int (fun _ _ => rfl)) pa_nil))))) (pss_cons (ps_if (pt_cmpR op_lt (pv 2) pe_int (nomark _)) (pss_one (ps_ret (pe_lst (pa_cons (pv 2) pa_nil)))) pss_nil) (pss_cons (ps_set (i := 3) nd rfl (by walk_at "o") (pe_ix ix_list (pe_fld (pv 0) rfl) (pe_ix ix_list (pv 1) pe_int (fun _ _ => rfl)) (fun _ _ => rfl))) (pss_cons (ps_set (i := 4) nd rfl (by walk_at "o") (pe_ix ix_list (pe_fld (pv 0) rfl) (pe_ix ix_list (pv 1) pe_int (fun _ _ => rfl)) (fun _ _ => rfl))) (pss_cons (ps_set (i := 5) nd rfl (by walk_at "o") (pe_def D_lowest (hr.mono (by decide)) rfl (pa_cons (pe_ix ix_list (pv 1) pe_int (fun _ _ => rfl)) (pa_cons (pe_ix ix_list (pv 1) pe_int (fun _ _ => rfl)) pa_nil)))) (pss_cons (ps_if (PW.pt (pw_or (pt_val (pe_def D_is_more (hr.mono (by decide)) rfl (pa_cons (pv 5) (pa_cons (pe_fld (pv 3) rfl) pa_nil)))) (pw_or1 (pt_val (pe_def D_is_more (hr.mono (by decide)) rfl (pa_cons (pv 5) (pa_cons (pe_mdef0 M_Vessel_room (hr.mono (by decide)) (pv 4)) pa_nil))))))) (pss_one (ps_ret (pe_lst (pa_cons (pe_cI T.c_NOT_SO rfl) pa_nil)))) pss_nil) (pss_one (ps_ret (pe_def D_move (hr.mono (by decide)) rfl (pa_cons (pv 3) (pa_cons (pv 4) (pa_cons (pv 5) pa_nil))))))))))))), ?_⟩;obtain ⟨dx, ga, as, pf, vs, g, L, R⟩ := id hLS;obtain ⟨lenS, le3⟩ := R.lens;have hL : LAt K t H ln (Vbtaam.caps S) vs S.put g := ⟨dx, l, fl, ga, as, pf, L⟩;have bad : ∀ {r : Addr}, H r = none -> (Vbtaam.isVessel S a = false ∨ Vbtaam.isVessel S b = false ∨ Vbtaam.from_ x 0 1000 = false ∨ Vbtaam.from_ y 1 1000 = false) -> Q (.ref r) (upd H r (.lst [.int (-1)])) := fun {r} hr hb => by
   have e2 : Vbtaam.step S (.some_ a b x y) = Vbtaam.no S 1 := by
    show (if Vbtaam.isVessel S a = false ∨ Vbtaam.isVessel S b = false ∨ Vbtaam.from_ x 0 1000 = false ∨ Vbtaam.from_ y 1 1000 = false then _ else _) = _;rw [if_pos hb]
   exact done_same hLS kk (Same.refl H) hr (by rw [e2]; rfl) (by rw [e2]; rfl)
  walk_at "r";refine rd_ixL (SqL.of hta) rfl ?_;walk_at "r";refine ⟨x, 0, 1000, rfl, ?_⟩;walk_at "r"
  by_cases hx : 0 <= x /\ x <= 1000
  ·rw [decide_eq_true hx];refine iteF ?_;walk_at "r";refine rd_ixL (SqL.of hta) rfl ?_;walk_at "r";refine ⟨y, 1, 1000, rfl, ?_⟩;walk_at "r"
   by_cases hy : 1 <= y /\ y <= 1000
   ·rw [decide_eq_true hy];refine iteF ?_;walk_at "r";refine rd_ixL (SqL.of hta) rfl ?_;walk_at "r";refine rd_ixL (SqL.of hta) rfl ?_;walk_at "r";refine ⟨ln, _, vs, _, g, a, b, rfl, hL, ?_⟩;walk_at "r"
    by_cases hv : (0 <= a /\ a <= (vs.length : Int) - 1) /\ (0 <= b /\ b <= (vs.length : Int) - 1)
    ·have ep : pairR vs.length a b = if a = b then -3 else 0 := if_neg (by simp only [not_or, Decidable.not_not]; exact hv);have es : ¬ (Vbtaam.isVessel S a = false ∨ Vbtaam.isVessel S b = false ∨ Vbtaam.from_ x 0 1000 = false ∨ Vbtaam.from_ y 1 1000 = false) := by rw [isV_eq, isV_eq, fromD, fromD, <- lenS, decide_eq_true hv.1, decide_eq_true hv.2, decide_eq_true hx, decide_eq_true hy]; decide
     rw [ep]
     by_cases hab : a = b
     ·rw [if_pos hab];refine iteT ?_;walk_at "r";refine rd_lstE rfl fun r hr => ?_;have e2 : Vbtaam.step S (.some_ a b x y) = Vbtaam.no S 3 := by
       show (if Vbtaam.isVessel S a = false ∨ Vbtaam.isVessel S b = false ∨ Vbtaam.from_ x 0 1000 = false ∨ Vbtaam.from_ y 1 1000 = false then _ else _) = _;rw [if_neg es, if_pos hab]
      exact done_same hLS kk (Same.refl H) hr (by rw [e2]; rfl) (by rw [e2]; rfl)
     ·rw [if_neg hab];refine iteF ?_;obtain ⟨i, xa, ma, sa, rfl, ha, hma, hsa, hca, MA, capa, VRa⟩ := L.pick R hv.1;obtain ⟨j, xb, mb, sb, rfl, hb, hmb, hsb, hcb, MB', capb, VRb⟩ := L.pick R hv.2;have hij : i ≠ j := fun e => hab (by rw [e]);have mba := R.mb (by omega) hma;have mbb := R.mb (by omega) hmb;obtain ⟨room_eq, lowr, fbr, leq, cap1⟩ := R.room (by omega) hmb hsb;have yp : 0 < y.toNat := by omega
      have lowt : Low (Vbtaam.frac x.toNat y.toNat) := low_frac yp;have bx : bl x <= 11 := by
       have := bl_small (a := x.toNat) (by omega);have e : ((x.toNat : Nat) : Int) = x := by omega
       rw [e] at this;exact this
      have by_ : bl y <= 11 := by
       have := bl_small (a := y.toNat) (by omega);have e : ((y.toNat : Nat) : Int) = y := by omega
       rw [e] at this;exact this
      have fbt : FB 2013 (Vbtaam.frac x.toNat y.toNat) := (fb_frac (n := 11) yp (bl_small (by omega)) (bl_small (by omega))).mono (by decide);have e0 : Vbtaam.step S (.some_ i j x y) = if Vbtaam.atMost (Vbtaam.frac x.toNat y.toNat) ma.c = false ∨ Vbtaam.atMost (Vbtaam.frac x.toNat y.toNat) (Vbtaam.less (Vbtaam.whole sb.cap) mb.c) = false then Vbtaam.no S 4 else Vbtaam.yes (Vbtaam.pourOf S i j (Vbtaam.frac x.toNat y.toNat)) (Vbtaam.row (Vbtaam.frac x.toNat y.toNat)) := by
       show (if Vbtaam.isVessel S i = false ∨ Vbtaam.isVessel S j = false ∨ Vbtaam.from_ x 0 1000 = false ∨ Vbtaam.from_ y 1 1000 = false then _ else _) = _;rw [if_neg es, if_neg hab];simp only [Int.toNat_natCast, getD_at hsa, getD_at hsb, <- VRa.ec, room_eq]
      have nab : xa ≠ xb := fun e => hij (nd_ix L.nd ha (by rw [e]; exact hb));obtain ⟨dxa, ca, sa', ka, ksa, NA⟩ := id MA;obtain ⟨dxb, cb, sb', kb, ksb, NB⟩ := id MB';walk_at "r";refine rd_fldE L.at_ T.cL T.nL_vessels (lf_v _ _ _) ?_;walk_at "r";refine rd_ixL (SqL.of hta) rfl ?_;walk_at "r";refine rd_ixL (SqL.of L.vl) (at_of (j := i) rfl (by rw [List.getElem?_map, ha]; rfl)) ?_;walk_at "r";refine rd_fldE L.at_ T.cL T.nL_vessels (lf_v _ _ _) ?_;walk_at "r";refine rd_ixL (SqL.of hta) rfl ?_;walk_at "r";refine rd_ixL (SqL.of L.vl) (at_of (j := j) rfl (by rw [List.getElem?_map, hb]; rfl)) ?_;walk_at "r";refine rd_ixL (SqL.of hta) rfl ?_;walk_at "r";refine rd_ixL (SqL.of hta) rfl ?_;walk_at "r";refine ⟨x, y, rfl, hx.1, by omega, Nat.le_trans bx (by decide), Nat.le_trans by_ (by decide), fun H1 tA s1 n1 h1 => ?_⟩;have ht1 : FAt K H1 tA (Vbtaam.frac x.toNat y.toNat) := SqT.of h1;walk_at "r";refine rd_fldE (s1 _ _ NA.at_) T.iV.cl T.iV.nc (mf_c _ _ _ _) ?_;walk_at "r";refine ⟨tA, ca, _, ma.c, rfl, ht1, NA.con.same s1, fbt.mono (by decide), mba.c.mono (by decide), ?_⟩;walk_at "r";cases am1 : Vbtaam.atMost (Vbtaam.frac x.toNat y.toNat) ma.c with
      | false =>
       refine iteT (iteT ?_);walk_at "r";refine rd_lstE rfl fun r hr => ?_;have e2 : Vbtaam.step S (.some_ i j x y) = Vbtaam.no S 4 := by rw [e0, if_pos (.inl am1)]
       exact done_same hLS kk s1 hr (by rw [e2]; rfl) (by rw [e2]; rfl)
      | true =>
       refine iteF ?_;walk_at "r";refine rd_methE (s1 _ _ NB.at_) (mf_no _ _ _ _ (by decide +kernel) (by decide +kernel) (by decide +kernel) (by decide +kernel)) ?_;walk_at "r";refine ⟨xb, [l, fl], sb.cap, mb, rfl, MB'.same s1, mbb.low, mbb.c, leq, capb, fun H2 rA s2 n2 h2 => ?_⟩;have s12 := s1.trans s2;refine ⟨tA, rA, _, _, rfl, ht1.same s2, SqT.of h2, fbt.mono (by decide), fbr.mono (by decide), ?_⟩;walk_at "r";cases am2 : Vbtaam.atMost (Vbtaam.frac x.toNat y.toNat) (Vbtaam.less (Vbtaam.whole sb.cap) mb.c) with
       | false =>
        refine iteT ?_;walk_at "r";refine rd_lstE rfl fun r hr => ?_;have e2 : Vbtaam.step S (.some_ i j x y) = Vbtaam.no S 4 := by rw [e0, if_pos (.inr am2)]
        exact done_same hLS kk s12 hr (by rw [e2]; rfl) (by rw [e2]; rfl)
       | true =>
        refine iteF ?_;walk_at "r";have e2 : Vbtaam.step S (.some_ i j x y) = Vbtaam.yes (Vbtaam.pourOf S i j (Vbtaam.frac x.toNat y.toNat)) (Vbtaam.row (Vbtaam.frac x.toNat y.toNat)) := by rw [e0, if_neg (by rw [am1, am2]; decide)]
        rw [e2] at kk;have le1 := (atMost_iff lowt mba.low).mp am1;have le2 := (atMost_iff lowt lowr).mp am2;have L2 := L.same s12;refine ⟨xa, xb, tA, t.CV, t.CV, [l, fl], some sa.cap, some sb.cap, ma, mb, _, rfl, .inr rfl, .inr rfl, nab, MA.same s12, MB'.same s12, ht1.same s2, ⟨⟨mbb.low, mbb.c, lowt, fbt, fun hp => sh3_of mba VRa (num_pos mba.low (by have := q_pos lowt hp; grind)), fun hp => sh3_of mbb VRb hp⟩, mba.low, mba.c, le1⟩, L2.av, fun H' r fr M1 M2 hr nr => ?_⟩;obtain ⟨r1, r2⟩ := moved (d := y.toNat) L2 R k200 hij ha hma hsa hca hb hmb hsb hcb lowt yp (by omega) (fun L _ => Nat.dvd_trans (den_frac yp) (Nat.dvd_mul_left _ _)) le1 (by rw [room_eq]; exact le2) fr M1 M2;exact kk H' r r1 ((FrI.of_same s12).trans r2).fr hr (s12.free nr)
    ·have ep : pairR vs.length a b = -1 := if_pos (by
      by_cases h1 : 0 <= a /\ a <= (vs.length : Int) - 1
      ·exact .inr fun h2 => hv ⟨h1, h2⟩
      ·exact .inl h1)
     rw [ep];refine iteT ?_;walk_at "r";refine rd_lstE rfl fun r hr => bad hr ?_;rw [isV_eq, isV_eq, <- lenS]
     by_cases h1 : 0 <= a /\ a <= (vs.length : Int) - 1
     ·exact .inr (.inl (decide_eq_false fun h2 => hv ⟨h1, h2⟩))
     ·exact .inl (decide_eq_false h1)
   ·rw [decide_eq_false hy];refine iteT ?_;walk_at "r";refine rd_lstE rfl fun r hr => bad hr (.inr (.inr (.inr (by rw [fromD]; exact decide_eq_false hy))))
  ·rw [decide_eq_false hx];refine iteT (iteT ?_);walk_at "r";refine rd_lstE rfl fun r hr => bad hr (.inr (.inr (.inl (by rw [fromD]; exact decide_eq_false hx))))
def okStr (args : List Int) (d : Vbtaam.Call) : Prop := ∃ v k, args = [v, k] /\ d = .strength v k
theorem ok_call_strength (F : Fun K "call_strength" "call_strength" s_call_strength f fd) (T : Txt P K mg t) (M_Line_has_vessel : MDef P w K mg base 35 t.CL "has_vessel" p_Line_has_vessel (spHas K t)) (D_is_kind : Def P w K mg base 35 "is_kind" p_is_kind spKind)
  (MS : ∀ C, (C = t.CM ∨ C = t.CV) -> MDef P w K mg base 37 C "strengths" p_Mixture_strengths (spStr K)) : FnOk P w K mg base CX0 41 f fd p_call_strength (spC K t okStr) := by
 refine F.ok sc_call_strength (fun vs H Q E h => ?_) (fun cdv A outer s H vs Q E hr h => ?_)
 ·obtain ⟨_, _, _, _, _, _, _, _, rfl, _⟩ := h;rfl
 ·obtain ⟨ln, ta, l, fl, k, S, _, _, rfl, hta, ⟨v, kd, rfl, rfl⟩, hLS, k200, tl, tf, kk⟩ := h;have nd := sc_call_strength.nd;have hu64 := hr.units;have M_Mixture_strengths := MS t.CV (.inr rfl);refine ⟨_, (pss_cons (ps_set (i := 2) nd rfl (by walk_at "o") (pe_ix ix_list (pv 1) pe_int (fun _ _ => rfl))) (pss_cons (ps_set (i := 3) nd rfl (by walk_at "o") (pe_ix ix_list (pv 1) pe_int (fun _ _ => rfl))) (pss_cons (ps_if (PW.pt (pw_or (pt_not (pt_val (pe_mdef M_Line_has_vessel (hr.mono (by decide)) (pv 0) (pa_cons (pv 2) pa_nil)))) (pw_or1 (pt_not (pt_val (pe_def D_is_kind (hr.mono (by decide)) rfl (pa_cons (pv 3) pa_nil))))))) (pss_one (ps_ret (pe_lst (pa_cons (pe_cI T.c_OUT_OF_RANGE rfl) pa_nil)))) pss_nil) (pss_cons (ps_set (i := 4) nd rfl (by walk_at "o") (pe_ix ix_list (pe_fld (pv 0) rfl) (pv 2) (fun _ _ => rfl))) (pss_cons (ps_if (pt_cmpR (op_eqD hu64) (pe_fld (pv 4) rfl) (pe_glob (v := .ref t.aN) rfl T.m_NOTHING rfl) (nomark _)) (pss_one (ps_ret (pe_lst (pa_cons (pe_cI T.c_NOT_SO rfl) pa_nil)))) pss_nil) (pss_cons (ps_set (i := 5) nd rfl (by walk_at "o") (pe_ix ix_list (pe_mdef0 M_Mixture_strengths (hr.mono (by decide)) (pv 4)) (pv 3) (fun _ _ => rfl))) (pss_one (ps_ret (pe_lst (pa_cons pe_int (pa_cons (pe_ix ix_tup (pv 5) pe_int (fun _ _ => rfl)) (pa_cons (pe_ix ix_tup (pv 5) pe_int (fun _ _ => rfl)) pa_nil)))))))))))), ?_⟩;obtain ⟨dx, ga, as, pf, vs, g, L, R⟩ := id hLS;obtain ⟨lenS, le3⟩ := R.lens;have hL : LAt K t H ln (Vbtaam.caps S) vs S.put g := ⟨dx, l, fl, ga, as, pf, L⟩;have bad : ∀ {r : Addr}, H r = none -> (Vbtaam.isVessel S v = false ∨ Vbtaam.from_ kd 0 2 = false) -> Q (.ref r) (upd H r (.lst [.int (-1)])) := fun {r} hr hb => by
   have e2 : Vbtaam.step S (.strength v kd) = Vbtaam.no S 1 := by
    show (if Vbtaam.isVessel S v = false ∨ Vbtaam.from_ kd 0 2 = false then _ else _) = _;rw [if_pos hb]
   exact done_same hLS kk (Same.refl H) hr (by rw [e2]; rfl) (by rw [e2]; rfl)
  walk_at "r";refine rd_ixL (SqL.of hta) rfl ?_;walk_at "r";refine rd_ixL (SqL.of hta) rfl ?_;walk_at "r";refine rd_methE L.at_ (lf_no _ _ _ (by decide +kernel) (by decide +kernel) (by decide +kernel)) ?_;walk_at "r";refine ⟨ln, _, vs, _, g, v, rfl, hL, ?_⟩;walk_at "r"
  by_cases hv : 0 <= v /\ v <= (vs.length : Int) - 1
  ·rw [decide_eq_true hv];refine iteF ?_;walk_at "r";refine ⟨kd, rfl, ?_⟩;walk_at "r"
   by_cases hk : 0 <= kd /\ kd <= 2
   ·rw [decide_eq_true hk];refine iteF ?_;obtain ⟨i, a, m, sv, rfl, ha, hm, hsv, hcap, M, cap12, VR'⟩ := L.pick R hv;obtain ⟨kn, rfl⟩ : ∃ n : Nat, kd = n := ⟨kd.toNat, by omega⟩;have k3 : kn < 3 := by omega
    have mb := R.mb (by omega) hm;have e0 : Vbtaam.step S (.strength i kn) = if m.c.num = 0 then Vbtaam.no S 4 else Vbtaam.yes S (Vbtaam.row (Vbtaam.strength sv kn)) := by
     show (if Vbtaam.isVessel S i = false ∨ Vbtaam.from_ kn 0 2 = false then _ else _) = _;rw [if_neg (by rw [isV_eq, fromD, <- lenS, decide_eq_true hv, decide_eq_true hk]; decide)];simp only [Int.toNat_natCast, getD_at hsv, <- VR'.ec]
    obtain ⟨dxm, cm, sm, km, ksm, N⟩ := id M;walk_at "r";refine rd_fldE L.at_ T.cL T.nL_vessels (lf_v _ _ _) ?_;walk_at "r";refine rd_ixL (SqL.of L.vl) (at_of (j := i) rfl (by rw [List.getElem?_map, ha]; rfl)) ?_;walk_at "r";refine rd_fldE N.at_ T.iV.cl T.iV.nc (mf_c _ _ _ _) ?_;walk_at "r";refine rd_isN T N.con mb.low ?_;walk_at "r"
    by_cases c0 : m.c.num = 0
    ·rw [decide_eq_true c0];refine iteT ?_;walk_at "r";refine rd_lstE rfl fun r hr => ?_;have e2 : Vbtaam.step S (.strength i kn) = Vbtaam.no S 4 := by rw [e0, if_pos c0]
     exact done_same hLS kk (Same.refl H) hr (by rw [e2]; rfl) (by rw [e2]; rfl)
    ·rw [decide_eq_false c0];refine iteF ?_;have cp : 0 < m.c.num := by omega
     obtain ⟨a3, b3, d3, S3⟩ := sh3_of mb VR' cp;walk_at "r";refine rd_methE N.at_ (mf_no _ _ _ _ (by decide +kernel) (by decide +kernel) (by decide +kernel) (by decide +kernel)) ?_;walk_at "r";refine ⟨a, t.CV, [l, fl], some sv.cap, m, a3, b3, d3, rfl, T.iV, M, S3, L.av, fun H1 la x y z B1 M1 hla f1 f2 f3 => ?_⟩;have L1 : LAd K t H1 ln dx l fl ga as pf (Vbtaam.caps S) vs S.put g := by
      have := L.set1 ha hcap B1 M1;rw [set_self hm] at this;exact this
     obtain ⟨q1, hq1, fq⟩ : ∃ q1, ([x, y, z] : List Addr)[kn]? = some q1 /\ FAt K H1 q1 (Vbtaam.strength sv kn) := by
      obtain ⟨x1, y1, z1, n1, n2, n3, Sh'⟩ := VR'.sh cp;have es := Sh'.es;rw [S3.eq] at es;simp only [List.cons.injEq, and_true] at es;obtain ⟨rfl, rfl, rfl⟩ := es;have ec : Vbtaam.content sv = m.c := VR'.ec.symm;unfold Vbtaam.strength;rw [ec, Sh'.eq]
      match kn, k3 with
      | 0, _ => exact ⟨x, rfl, by rw [<- share_over (show Low (([x1, y1, z1] : List Vbtaam.Frac).getD 0 {}) from Sh'.lx) mb.low cp S3.pos Sh'.e0]; exact f1⟩
      | 1, _ => exact ⟨y, rfl, by rw [<- share_over (show Low (([x1, y1, z1] : List Vbtaam.Frac).getD 1 {}) from Sh'.ly) mb.low cp S3.pos Sh'.e1]; exact f2⟩
      | 2, _ => exact ⟨z, rfl, by rw [<- share_over (show Low (([x1, y1, z1] : List Vbtaam.Frac).getD 2 {}) from Sh'.lz) mb.low cp S3.pos Sh'.e2]; exact f3⟩
     walk_at "r";refine rd_ixL (xs := ([x, y, z] : List Addr).map V.ref) (SqL.of hla) (at_of (j := kn) rfl (by rw [List.getElem?_map, hq1]; rfl)) ?_;walk_at "r";refine rd_lstE rfl fun r hr => ?_;have s2 : Same H1 (upd H1 r (.lst [.int 0, .int ((Vbtaam.strength sv kn).num : Int), .int ((Vbtaam.strength sv kn).den : Int)])) := Same.new hr;have e2 : Vbtaam.step S (.strength i kn) = Vbtaam.yes S (Vbtaam.row (Vbtaam.strength sv kn)) := by rw [e0, if_neg c0]
     rw [e2] at kk;refine kk _ r ⟨dx, ga, as, pf, vs, g, L1.same s2, R.mono⟩ ((FrI.of_but B1 N.at_).trans (FrI.of_same s2)).fr upd_same ?_;cases hq : H r with
     | none => rfl
     | some u =>
      have ra : r ≠ a := fun e => by
       obtain ⟨d', f', I'⟩ := M1.ins;rw [e, I'] at hr;cases hr
      rw [B1 _ _ hq ra] at hr;cases hr
   ·rw [decide_eq_false hk];refine iteT ?_;walk_at "r";refine rd_lstE rfl fun r hr => bad hr (.inr (by rw [fromD]; exact decide_eq_false hk))
  ·rw [decide_eq_false hv];refine iteT (iteT ?_);walk_at "r";refine rd_lstE rfl fun r hr => bad hr (.inl (by rw [isV_eq, <- lenS]; exact decide_eq_false hv))
def okGcd (args : List Int) (d : Vbtaam.Call) : Prop := args = [] /\ d = .gcd
theorem gcd_fold (l : List Nat) : ∀ x : Nat, l.foldl Nat.gcd x = Nat.gcd x (Vbtaam.gcdOf l) := by
 induction l with
 | nil =>
  intro x;show x = Nat.gcd x 0;rw [Nat.gcd_zero_right]
 | cons a l ih =>
  intro x;show l.foldl Nat.gcd (Nat.gcd x a) = Nat.gcd x (Nat.gcd a (Vbtaam.gcdOf l));rw [ih, Nat.gcd_assoc]
theorem ok_call_gcd (F : Fun K "call_gcd" "call_gcd" s_call_gcd f fd) (T : Txt P K mg t) (M_Line_sizes : MDef P w K mg base 34 t.CL "sizes" p_Line_sizes (spSizes K t)) (D_common_measure : Def P w K mg base 35 "common_measure" p_common_measure spCm) : FnOk P w K mg base CX0 41 f fd p_call_gcd (spC K t okGcd) := by
 refine F.ok sc_call_gcd (fun vs H Q E h => ?_) (fun cdv A outer s H vs Q E hr h => ?_)
 ·obtain ⟨_, _, _, _, _, _, _, _, rfl, _⟩ := h;rfl
 ·obtain ⟨ln, ta, l, fl, k, S, _, _, rfl, hta, ⟨rfl, rfl⟩, hLS, k200, tl, tf, kk⟩ := h;have nd := sc_call_gcd.nd;refine ⟨_, (pss_cons (ps_set (i := 2) nd rfl (by walk_at "o") pe_int) (pss_cons (ps_for PassesOwn.never rfl (pi_list (pe_mdef0 M_Line_sizes (hr.mono (by decide)) (pv 0))) (pg_name (i := 3) nd rfl (by walk_at "o")) (pss_one (ps_set (i := 2) nd rfl (by walk_at "o") (pe_def D_common_measure (hr.mono (by decide)) rfl (pa_cons (pv 2) (pa_cons (pv 3) pa_nil)))))) (pss_one (ps_ret (pe_lst (pa_cons pe_int (pa_cons (pv 2) pa_nil))))))), ?_⟩;obtain ⟨dx, ga, as, pf, vs, g, L, R⟩ := id hLS;obtain ⟨lenS, le3⟩ := R.lens;have hL : LAt K t H ln (Vbtaam.caps S) vs S.put g := ⟨dx, l, fl, ga, as, pf, L⟩;have cap12 : ∀ (i : Nat) (n : Nat), (Vbtaam.caps S)[i]? = some n -> n <= 12 := fun i n h => by
   obtain ⟨a, m, n', h1, h2, h3, _⟩ := L.vessel (i := i) (by rw [<- L.lc]; exact (List.getElem?_eq_some_iff.mp h).1);obtain ⟨sv, e1, e2, e3⟩ := R.at_ h2;unfold Vbtaam.caps at h;rw [List.getElem?_map, e1] at h;cases h;exact e3
  walk_at "r";refine rd_methE L.at_ (lf_no _ _ _ (by decide +kernel) (by decide +kernel) (by decide +kernel)) ?_;walk_at "r";refine ⟨ln, _, vs, _, g, rfl, hL, le3, fun H1 sA s1 n1 h1 => ?_⟩;refine ⟨sA, rfl, ⟨_, SqL.of h1⟩, for_list (K := K) (a := sA) (xs := nl (Vbtaam.caps S)) (fun i σ H' => ∃ (m : Nat) (u : Option V), σ = [some (.ref ln), some (.ref ta), some (.int m), u] /\ m = ((Vbtaam.caps S).take i).foldl Nat.gcd 0 /\ m <= 12 /\ Same H1 H') ⟨0, none, rfl, rfl, by omega, Same.refl _⟩ (fun i σ H' _ ⟨_, _, _, _, _, s2⟩ => s2.seq (SqL.of h1)) ?_ ?_⟩
  ·rintro i x σ H' hi ⟨m, u, rfl, em, m12, s2⟩;obtain ⟨n, hn, rfl⟩ : ∃ n : Nat, (Vbtaam.caps S)[i]? = some n /\ x = .int n := by
    unfold nl at hi;rw [List.getElem?_map] at hi;cases e : (Vbtaam.caps S)[i]? with
    | none => rw [e] at hi; cases hi
    | some n => rw [e] at hi; exact ⟨n, rfl, (Option.some.inj hi).symm⟩
   have n12 := cap12 i n hn;walk_at "r";refine ⟨m, n, rfl, by omega, by omega, Nat.le_trans (bl_small (by omega)) (by decide), Nat.le_trans (bl_small (by omega)) (by decide), fun H2 s3 => ?_⟩;walk_at "r";refine ⟨Nat.gcd m n, some (.int n), rfl, ?_, ?_, s2.trans s3⟩
   ·rw [List.take_add_one, hn, List.foldl_append, <- em];rfl
   ·rcases Nat.eq_zero_or_pos n with z | z
    ·rw [z, Nat.gcd_zero_right]; exact m12
    ·exact Nat.le_trans (Nat.le_of_dvd z (Nat.gcd_dvd_right _ _)) n12
  ·rintro σ H' ⟨m, u, rfl, em, m12, s2⟩;walk_at "r";refine rd_lstE rfl fun r hr => ?_;have e2 : Vbtaam.step S .gcd = Vbtaam.yes S [Vbtaam.gcdOf (Vbtaam.caps S)] := rfl;have em' : m = Vbtaam.gcdOf (Vbtaam.caps S) := by
    rw [em, List.take_of_length_le (by unfold nl; rw [List.length_map]; exact Nat.le_refl _), gcd_fold, Nat.gcd_zero_left]
   exact done_same hLS kk (s1.trans s2) hr (by rw [e2]; rfl) (by rw [e2, em']; rfl)
theorem ams_has {v : Vbtaam.Vessel} {m : Mx} (r : VRel v m.c m.ss) : ams m = v.has := by
 obtain ⟨x, y, z, k⟩ := r.ok;unfold ams
 by_cases c0 : m.c.num = 0
 ·rw [if_pos c0];have ec := k.con.2;rw [<- r.ec, (q_zero r.low).mpr c0] at ec;obtain ⟨zx, zy, zz⟩ := zero3 (q_nn x) (q_nn y) (q_nn z) ec.symm;rw [k.eq, q_eq_zero k.lx zx, q_eq_zero k.ly zy, q_eq_zero k.lz zz]
 ·rw [if_neg c0];obtain ⟨x1, y1, z1, a, b, d, S⟩ := r.sh (by omega);rw [S.es, S.eq, sum3];show [Vbtaam.times m.c (Vbtaam.frac a (a + b + d)), Vbtaam.times m.c (Vbtaam.frac b (a + b + d)), Vbtaam.times m.c (Vbtaam.frac d (a + b + d))] = _;rw [share_frac S.lx r.low S.pos S.e0, share_frac S.ly r.low S.pos S.e1, share_frac S.lz r.low S.pos S.e2]
theorem ams_len {v : Vbtaam.Vessel} {m : Mx} (r : VRel v m.c m.ss) : (ams m).length = 3 := by
 obtain ⟨x, y, z, k⟩ := r.ok;rw [ams_has r, k.eq];rfl
theorem MAt.addav {av : List Addr} {H : Hp} {p C x : Addr} {o : Option Nat} {m : Mx} (h : MAt K av H p C o m) (hx : H x = none) : MAt K (av ++ [x]) H p C o m := by
 obtain ⟨dx, c, sA, k, ks, M⟩ := h;refine ⟨dx, c, sA, k, ks, M.at_, M.con, M.sh, M.kn, fun e => ?_, fun e => ?_, M.kk⟩
 ·rcases List.mem_append.mp e with e | e
  ·exact M.sa e
  ·simp at e;exact absurd (M.sh) (by rw [e, hx]; simp)
 ·rcases List.mem_append.mp e with e | e
  ·exact M.ka e
  ·simp at e;exact absurd (M.kn) (by rw [e, hx]; simp)
theorem MAt.dropav {av av' : List Addr} {H : Hp} {p C : Addr} {o : Option Nat} {m : Mx} (h : MAt K av' H p C o m) (hs : ∀ x ∈ av, x ∈ av') : MAt K av H p C o m := by
 obtain ⟨dx, c, sA, k, ks, M⟩ := h;exact ⟨dx, c, sA, k, ks, M.at_, M.con, M.sh, M.kn, fun e => M.sa (hs _ e), fun e => M.ka (hs _ e), M.kk⟩
structure LAe (K : PySem.W.Frag) (t : Ad) (an : Addr) (H : Hp) (ln dx l fl ga : Addr) (as pf : List Addr) (caps : List Nat) (vs : List Mx) (pu : List Vbtaam.Frac) (g : Mx) : Prop where
 lad : LAd K t H ln dx l fl ga as pf caps vs pu g
 go : MAt K [l, fl, an] H ga t.CM none g
 ve : ∀ (i : Nat) (a : Addr) (m : Mx) (n : Nat), as[i]? = some a -> vs[i]? = some m -> caps[i]? = some n -> MAt K [l, fl, an] H a t.CV (some n) m
theorem LAd.ext {H : Hp} {ln dx l fl ga an : Addr} {as pf : List Addr} {caps : List Nat} {vs : List Mx} {pu : List Vbtaam.Frac} {g : Mx} (L : LAd K t H ln dx l fl ga as pf caps vs pu g) (h : H an = none) : LAe K t an H ln dx l fl ga as pf caps vs pu g :=
 ⟨L, L.go.addav h, fun i a m n h1 h2 h3 => (L.ve i a m n h1 h2 h3).addav h⟩
theorem LAe.same {H H' : Hp} {ln dx l fl ga an : Addr} {as pf : List Addr} {caps : List Nat} {vs : List Mx} {pu : List Vbtaam.Frac} {g : Mx} (L : LAe K t an H ln dx l fl ga as pf caps vs pu g) (s : Same H H') : LAe K t an H' ln dx l fl ga as pf caps vs pu g :=
 ⟨L.lad.same s, L.go.same s, fun i a m n h1 h2 h3 => (L.ve i a m n h1 h2 h3).same s⟩
theorem LAe.butA {H H' : Hp} {ln dx l fl ga an : Addr} {as pf : List Addr} {caps : List Nat} {vs : List Mx} {pu : List Vbtaam.Frac} {g : Mx} {xs : List V} (L : LAe K t an H ln dx l fl ga as pf caps vs pu g) (s : But an H H') (hq : H an = some (.lst xs)) (n1 : l ≠ an) (n2 : fl ≠ an) : LAe K t an H' ln dx l fl ga as pf caps vs pu g := by
 have go := L.go.butL s hq (by simp);have ve : ∀ (i : Nat) (a : Addr) (m : Mx) (n : Nat), as[i]? = some a -> vs[i]? = some m -> caps[i]? = some n -> MAt K [l, fl, an] H' a t.CV (some n) m := fun i a m n h1 h2 h3 => (L.ve i a m n h1 h2 h3).butL s hq (by simp);have sub : ∀ x ∈ [l, fl], x ∈ [l, fl, an] := fun x hx => by
  simp at hx;rcases hx with rfl | rfl <;> simp
 have M := L.lad;exact ⟨⟨s _ _ M.at_ (ne_of M.at_ hq (by intro e; cases e)), s _ _ M.vl n1, M.nd, M.la, M.lc, s _ _ M.fll n2, M.fs.imp fun _ _ h => s.sqT hq (fun _ e => by cases e) (fun _ _ e => by cases e) h, M.ne, go.dropav sub, fun i a m n h1 h2 h3 => (ve i a m n h1 h2 h3).dropav sub, M.gn, M.ln1, M.ln2⟩, go, ve⟩
theorem LAe.set1 {H H' : Hp} {ln dx l fl ga an a : Addr} {as pf : List Addr} {caps : List Nat} {vs : List Mx} {pu : List Vbtaam.Frac} {g m : Mx} {i n : Nat} (L : LAe K t an H ln dx l fl ga as pf caps vs pu g) (ha : as[i]? = some a) (hm : vs[i]? = some m) (hn : caps[i]? = some n) (B : But a H H') (M : MAt K [l, fl, an] H' a t.CV (some n) m) :
  LAe K t an H' ln dx l fl ga as pf caps vs pu g := by
 have sub : ∀ x ∈ [l, fl], x ∈ [l, fl, an] := fun x hx => by
  simp at hx;rcases hx with rfl | rfl <;> simp
 have L1 := L.lad.set1 ha hn B (M.dropav sub);rw [set_self hm] at L1;obtain ⟨d0, f0, I0⟩ := (L.ve i a m n ha hm hn).ins;have am : a ∈ as := List.mem_of_getElem? ha;refine ⟨L1, L.go.but B I0 fun e => L.lad.gn (by rw [e]; exact am), fun j b m' k h1 h2 h3 => ?_⟩
 by_cases e : i = j
 ·subst e;cases ha.symm.trans h1;cases hm.symm.trans h2;cases hn.symm.trans h3;exact M
 ·exact (L.ve j b m' k h1 h2 h3).but B I0 fun z => e (nd_ix L.lad.nd ha (by rw [<- z]; exact h1))
theorem LAe.gone1 {H H' : Hp} {ln dx l fl ga an : Addr} {as pf : List Addr} {caps : List Nat} {vs : List Mx} {pu : List Vbtaam.Frac} {g : Mx} (L : LAe K t an H ln dx l fl ga as pf caps vs pu g) (B : But ga H H') (M : MAt K [l, fl, an] H' ga t.CM none g) :
  LAe K t an H' ln dx l fl ga as pf caps vs pu g := by
 have sub : ∀ x ∈ [l, fl], x ∈ [l, fl, an] := fun x hx => by
  simp at hx;rcases hx with rfl | rfl <;> simp
 obtain ⟨d0, f0, I0⟩ := L.go.ins;have ve : ∀ (i : Nat) (a : Addr) (m : Mx) (n : Nat), as[i]? = some a -> vs[i]? = some m -> caps[i]? = some n -> MAt K [l, fl, an] H' a t.CV (some n) m := fun i a m n h1 h2 h3 => (L.ve i a m n h1 h2 h3).but B I0 fun e => L.lad.gn (by rw [<- e]; exact List.mem_of_getElem? h1);exact ⟨L.lad.remake (FrI.of_but B I0) (B _ _ L.lad.at_ L.lad.ln2) (M.dropav sub) rfl fun i a m n h1 h2 h3 => (ve i a m n h1 h2 h3).dropav sub, M, ve⟩
theorem fr_len (x : Vbtaam.Frac) : (fr x).length = 2 := rfl
theorem row_len (x : Vbtaam.Frac) : (Vbtaam.row x).length = 2 := rfl
theorem nl_app (a b : List Nat) : nl (a ++ b) = nl a ++ nl b := by
 unfold nl;rw [List.map_append]
theorem nl_len (a : List Nat) : (nl a).length = a.length := by
 unfold nl;rw [List.length_map]
theorem yes_nl (S : Vbtaam.State) (l : List Nat) : (Vbtaam.yes S l).2.map V.int = .int 0 :: nl l := by
 unfold Vbtaam.yes nl;rw [List.map_cons, List.map_map];rfl
theorem Fs.at_ {H : Hp} {as : List Addr} {xs : List Vbtaam.Frac} (h : Fs K H as xs) {j : Nat} {a : Addr} (ha : as[j]? = some a) : ∃ x, xs[j]? = some x /\ FAt K H a x := by
 have : j < xs.length := by rw [<- h.1]; exact (List.getElem?_eq_some_iff.mp ha).1
 exact ⟨_, List.getElem?_eq_getElem this, h.2 j a _ ha (List.getElem?_eq_getElem this)⟩
theorem flat_take {α : Type} {xs : List α} {g : α -> List Nat} {j : Nat} {x : α} (h : xs[j]? = some x) : (xs.take (j + 1)).flatMap g = (xs.take j).flatMap g ++ g x := by
 rw [List.take_add_one, h, List.flatMap_append];simp
theorem flat_len {α : Type} {g : α -> List Nat} {c : Nat} (xs : List α) (h : ∀ x ∈ xs, (g x).length <= c) : (xs.flatMap g).length <= xs.length * c := by
 induction xs with
 | nil => simp
 | cons x xs ih =>
  rw [List.flatMap_cons, List.length_append, List.length_cons, Nat.succ_mul];have := h x (by simp);have := ih fun y hy => h y (List.mem_cons_of_mem _ hy);omega
def okState (args : List Int) (d : Vbtaam.Call) : Prop := args = [] /\ d = .state
def outv (v : Vbtaam.Vessel) : List Nat := v.cap :: (Vbtaam.row (Vbtaam.content v) ++ v.has.flatMap Vbtaam.row)
theorem ok_call_state (F : Fun K "call_state" "call_state" s_call_state f fd) (T : Txt P K mg t) (MA : ∀ C, (C = t.CM ∨ C = t.CV) -> MDef P w K mg base 38 C "amounts" p_Mixture_amounts (spAm K t)) : FnOk P w K mg base CX0 41 f fd p_call_state (spC K t okState) := by
 refine F.ok sc_call_state (fun vs H Q E h => ?_) (fun cdv A outer s H vs Q E hr h => ?_)
 ·obtain ⟨_, _, _, _, _, _, _, _, rfl, _⟩ := h;rfl
 ·obtain ⟨ln, ta, l, fl, k, S, _, _, rfl, hta, ⟨rfl, rfl⟩, hLS, k200, tl, tf, kk⟩ := h;have nd := sc_call_state.nd;have M_Mixture_amounts := MA t.CV (.inr rfl);refine ⟨_, (pss_cons (ps_set (i := 2) nd rfl (by walk_at "o") (pe_lst (pa_cons pe_int pa_nil))) (pss_cons (ps_for PassesOwn.never rfl (pi_list (pe_fld (pv 0) rfl)) (pg_name (i := 3) nd rfl (by walk_at "o")) (pss_cons (ps_expr (pe_bm PySem.F.plainAttrs_list PySem.F.slot_list_append PySem.F.type_list_append mt_append (pv 2) (pa_cons (pe_fld (pv 3) rfl) pa_nil))) (pss_cons (ps_expr (pe_bm PySem.F.plainAttrs_list PySem.F.slot_list_extend PySem.F.type_list_extend mt_extendT (pv 2) (pa_cons (pe_fld (pv 3) rfl) pa_nil))) (pss_one (ps_for PassesOwn.never rfl (pi_list (pe_mdef0 M_Mixture_amounts (hr.mono (by decide)) (pv 3))) (pg_name (i := 4) nd rfl (by walk_at "o")) (pss_one (ps_expr (pe_bm PySem.F.plainAttrs_list PySem.F.slot_list_extend PySem.F.type_list_extend mt_extendT (pv 2) (pa_cons (pv 4) pa_nil))))))))) (pss_one (ps_ret (pv 2))))), ?_⟩;obtain ⟨dx, ga, as, pf, vs, g, L, R⟩ := id hLS;obtain ⟨lenS, le3⟩ := R.lens;walk_at "r";refine rd_lstE rfl fun an han => ?_;walk_at "r";have s0 : Same H (upd H an (.lst [.int 0])) := Same.new han;have nl1 : l ≠ an := ne_of_none L.vl han;have nl2 : fl ≠ an := ne_of_none L.fll han;have h0 : (upd H an (.lst [.int 0])) an = some (.lst [.int 0]) := upd_same;have L0 : LAe K t an (upd H an (.lst [.int 0])) ln dx l fl ga as pf (Vbtaam.caps S) vs S.put g := (L.ext han).same s0;generalize upd H an (.lst [.int 0]) = H0 at *;refine rd_fldE L0.lad.at_ T.cL T.nL_vessels (lf_v _ _ _) ?_;have out9 : ∀ v ∈ S.vessels, (outv v).length <= 9 := fun v hv => by
   obtain ⟨i, hi, e⟩ := List.getElem_of_mem hv;have hm : i < vs.length := by rw [lenS]; exact hi
   obtain ⟨v', e1, e2, _⟩ := R.at_ (List.getElem?_eq_getElem hm);rw [List.getElem?_eq_getElem hi, e] at e1;cases e1;obtain ⟨x, y, z, k⟩ := e2.ok;unfold outv;rw [k.eq];simp [Vbtaam.row]
  refine ⟨l, rfl, ⟨_, SqL.of L0.lad.vl⟩, for_list (K := K) (a := l) (xs := as.map V.ref) (fun i σ H' => ∃ (u v : Option V), σ = [some (.ref ln), some (.ref ta), some (.ref an), u, v] /\ LAe K t an H' ln dx l fl ga as pf (Vbtaam.caps S) vs S.put g /\ H' an = some (.lst (.int 0 :: nl ((S.vessels.take i).flatMap outv))) /\ FrI H H')
   ⟨none, none, rfl, L0, h0, FrI.of_same s0⟩ (fun i σ H' _ ⟨_, _, _, L', _, _⟩ => SqL.of L'.lad.vl) ?_ ?_⟩
  ·rintro i x σ H1 hi ⟨u, v, rfl, L1, h1, f1⟩;obtain ⟨a, ha, rfl⟩ := refs_at hi;have hiv : i < vs.length := by rw [<- L.la]; exact (List.getElem?_eq_some_iff.mp ha).1
   obtain ⟨a', m, n, ha', hm, hn, _⟩ := L1.lad.vessel hiv;cases ha.symm.trans ha';obtain ⟨sv, hsv, VR', cap12⟩ := R.at_ hm;have mb := R.mb (by omega) hm;have hn' : (Vbtaam.caps S)[i]? = some sv.cap := by
    unfold Vbtaam.caps;rw [List.getElem?_map, hsv];rfl
   cases hn.symm.trans hn';have M := L1.ve i a m _ ha hm hn';obtain ⟨dxm, cm, sm, km, ksm, N⟩ := id M;have tl9 : ((S.vessels.take i).flatMap outv).length <= 27 := by
    have := flat_len (S.vessels.take i) (fun v hv => out9 v (List.mem_of_mem_take hv));have h2 : (S.vessels.take i).length <= 3 := by rw [List.length_take]; omega
    omega
   walk_at "r";refine ⟨.inl ⟨rfl, _, SqL.of h1⟩, ?_⟩;walk_at "r";refine rd_fldE N.at_ T.iV.cl T.nV_size (mf_z _ _ _ _) ?_;walk_at "r";refine rd_app h1 (by rw [List.length_cons, nl_len]; exact small3 (by omega)) ?_;have B2 : But an H1 (upd H1 an (.lst (.int 0 :: nl ((S.vessels.take i).flatMap outv) ++ [.int sv.cap]))) := But.upd;have h2 : (upd H1 an (.lst (.int 0 :: nl ((S.vessels.take i).flatMap outv) ++ [.int sv.cap]))) an = some (.lst (.int 0 :: nl ((S.vessels.take i).flatMap outv ++ [sv.cap]))) := by rw [upd_same, nl_app]; rfl
   have L2 := L1.butA B2 h1 nl1 nl2;have f2 : FrI H (upd H1 an (.lst (.int 0 :: nl ((S.vessels.take i).flatMap outv) ++ [.int sv.cap]))) := fun b o e no => B2 _ _ (f1 _ _ e no) (ne_of_none e han);generalize upd H1 an (.lst (.int 0 :: nl ((S.vessels.take i).flatMap outv) ++ [.int sv.cap])) = H2 at *;have M2 := L2.ve i a m _ ha hm hn';obtain ⟨dx2, c2, s2, k2, ks2, N2⟩ := id M2;walk_at "r";refine ⟨.inl ⟨rfl, _, SqL.of h2⟩, ?_⟩;walk_at "r";refine rd_fldE N2.at_ T.iV.cl T.iV.nc (mf_c _ _ _ _) ?_;walk_at "r";refine rd_extT h2 N2.con (by rw [List.length_cons, nl_len, List.length_append]; exact Nat.le_of_lt (small3 (by simp only [List.length_cons, List.length_nil, fr_len]; omega))) ?_;have B3 : But an H2 (upd H2 an (.lst (.int 0 :: nl ((S.vessels.take i).flatMap outv ++ [sv.cap]) ++ fr m.c))) := But.upd;have h3 : (upd H2 an (.lst (.int 0 :: nl ((S.vessels.take i).flatMap outv ++ [sv.cap]) ++ fr m.c))) an = some (.lst (.int 0 :: nl ((S.vessels.take i).flatMap outv ++ [sv.cap] ++ Vbtaam.row m.c))) := by rw [upd_same, nl_app _ (Vbtaam.row m.c)]; rfl
   have L3 := L2.butA B3 h2 nl1 nl2;have f3 : FrI H (upd H2 an (.lst (.int 0 :: nl ((S.vessels.take i).flatMap outv ++ [sv.cap]) ++ fr m.c))) := fun b o e no => B3 _ _ (f2 _ _ e no) (ne_of_none e han);generalize upd H2 an (.lst (.int 0 :: nl ((S.vessels.take i).flatMap outv ++ [sv.cap]) ++ fr m.c)) = H3 at *;have M3 := L3.ve i a m _ ha hm hn';obtain ⟨dx3, c3, s3, k3, ks3, N3⟩ := id M3;walk_at "r";refine rd_methE N3.at_ (mf_no _ _ _ _ (by decide +kernel) (by decide +kernel) (by decide +kernel) (by decide +kernel)) ?_;walk_at "r";refine ⟨a, t.CV, [l, fl, an], some sv.cap, m, rfl, T.iV, .inr rfl, M3, mb.low, mb.c, fun hp => sh3_of mb VR' hp, fun z hz => ?_, fun H4 la ads B4 M4 hla fs hn4 => ?_⟩
   ·simp at hz;rcases hz with rfl | rfl | rfl
    ·rw [L3.lad.vl]; simp
    ·rw [L3.lad.fll]; simp
    ·rw [h3]; simp
   ·have L4 := L3.set1 ha hm hn' B4 M4;have h4 := B4.insL N3.at_ h3;have f4 : FrI H H4 := f3.trans (FrI.of_but B4 N3.at_);have lan : la ≠ an := fun e => by rw [e, h3] at hn4; cases hn4
    have al3 := ams_len VR';refine ⟨la, rfl, ⟨_, SqL.of hla⟩, for_list (K := K) (a := la) (xs := ads.map V.ref) (fun j σ H' => ∃ (v : Option V), σ = [some (.ref ln), some (.ref ta), some (.ref an), some (.ref a), v] /\ LAe K t an H' ln dx l fl ga as pf (Vbtaam.caps S) vs S.put g /\ H' an = some (.lst (.int 0 :: nl ((S.vessels.take i).flatMap outv ++ [sv.cap] ++ Vbtaam.row m.c ++ ((ams m).take j).flatMap Vbtaam.row))) /\ FrI H H' /\ H' la = some (.lst (ads.map V.ref)) /\ Fs K H' ads (ams m))
     ⟨v, rfl, L4, by rw [h4]; simp, f4, hla, fs⟩ (fun j σ H' _ ⟨_, _, _, _, _, z, _⟩ => SqL.of z) ?_ ?_⟩
    ·rintro j x σ H5 hj ⟨v', rfl, L5, h5, f5, la5, fs5⟩;obtain ⟨b, hb, rfl⟩ := refs_at hj;obtain ⟨y, hy, fy⟩ := fs5.at_ hb;walk_at "r";refine ⟨.inl ⟨rfl, _, SqL.of h5⟩, ?_⟩;walk_at "r";refine rd_extT h5 fy ?_ ?_
     ·have e1 : (((ams m).take j).flatMap Vbtaam.row).length <= 6 := by
       have := flat_len (g := Vbtaam.row) (c := 2) ((ams m).take j) (fun _ _ => Nat.le_refl _);have h2 : ((ams m).take j).length <= 3 := by rw [List.length_take]; omega
       omega
      rw [List.length_cons, nl_len, List.length_append, List.length_append, List.length_append];exact Nat.le_of_lt (small3 (by simp only [List.length_cons, List.length_nil, fr_len, row_len]; omega))
     ·have B6 : But an H5 (upd H5 an (.lst (.int 0 :: nl ((S.vessels.take i).flatMap outv ++ [sv.cap] ++ Vbtaam.row m.c ++ ((ams m).take j).flatMap Vbtaam.row) ++ fr y))) := But.upd;refine ⟨_, rfl, L5.butA B6 h5 nl1 nl2, ?_, fun b o e no => B6 _ _ (f5 _ _ e no) (ne_of_none e han), B6 _ _ la5 lan, fs5.imp fun _ _ h => B6.sqT h5 (fun _ e => by cases e) (fun _ _ e => by cases e) h⟩;rw [upd_same, flat_take hy, <- List.append_assoc, nl_app _ (Vbtaam.row y)];rfl
    ·rintro σ H5 ⟨v', rfl, L5, h5, f5, la5, fs5⟩;refine ⟨_, _, rfl, L5, ?_, f5⟩;rw [h5, show (ams m).take (ads.map V.ref).length = ams m from List.take_of_length_le (by rw [List.length_map, fs.1]; exact Nat.le_refl _), flat_take hsv];congr 3;have : outv sv = sv.cap :: (Vbtaam.row m.c ++ (ams m).flatMap Vbtaam.row) := by
      unfold outv;rw [<- VR'.ec, ams_has VR']
     rw [this];simp only [List.append_assoc, List.cons_append, List.nil_append]
  ·rintro σ H1 ⟨u, v, rfl, L1, h1, f1⟩;walk_at "r";have e2 : Vbtaam.step S .state = Vbtaam.yes S (S.vessels.flatMap outv) := rfl;refine kk H1 an ?_ f1.fr ?_ han
   ·rw [e2];exact ⟨dx, ga, as, pf, vs, g, L1.lad, R.mono⟩
   ·rw [e2, yes_nl, h1, List.length_map, L.la, lenS, List.take_length]
def okLedger (args : List Int) (d : Vbtaam.Call) : Prop := args = [] /\ d = .ledger
theorem Fs.append {H : Hp} {as bs : List Addr} {xs ys : List Vbtaam.Frac} (h : Fs K H as xs) (h2 : Fs K H bs ys) : Fs K H (as ++ bs) (xs ++ ys) := by
 refine ⟨by rw [List.length_append, List.length_append, h.1, h2.1], fun j a x e1 e2 => ?_⟩
 by_cases hj : j < as.length
 ·rw [List.getElem?_append_left hj] at e1;rw [List.getElem?_append_left (by rw [<- h.1]; exact hj)] at e2;exact h.2 j a x e1 e2
 ·rw [List.getElem?_append_right (by omega)] at e1;rw [List.getElem?_append_right (by rw [<- h.1]; omega), <- h.1] at e2;exact h2.2 _ a x e1 e2
theorem ok_call_ledger (F : Fun K "call_ledger" "call_ledger" s_call_ledger f fd) (T : Txt P K mg t) (MA : ∀ C, (C = t.CM ∨ C = t.CV) -> MDef P w K mg base 38 C "amounts" p_Mixture_amounts (spAm K t)) : FnOk P w K mg base CX0 41 f fd p_call_ledger (spC K t okLedger) := by
 refine F.ok sc_call_ledger (fun vs H Q E h => ?_) (fun cdv A outer s H vs Q E hr h => ?_)
 ·obtain ⟨_, _, _, _, _, _, _, _, rfl, _⟩ := h;rfl
 ·obtain ⟨ln, ta, l, fl, k, S, _, _, rfl, hta, ⟨rfl, rfl⟩, hLS, k200, tl, tf, kk⟩ := h;have nd := sc_call_ledger.nd;have M_Mixture_amounts := MA t.CM (.inl rfl);refine ⟨_, (pss_cons (ps_set (i := 2) nd rfl (by walk_at "o") (pe_lst (pa_cons pe_int pa_nil))) (pss_cons (ps_for PassesOwn.never rfl (pi_list (pe_op op_cat (pe_fld (pv 0) rfl) (pe_mdef0 M_Mixture_amounts (hr.mono (by decide)) (pe_fld (pv 0) rfl)))) (pg_name (i := 3) nd rfl (by walk_at "o")) (pss_one (ps_expr (pe_bm PySem.F.plainAttrs_list PySem.F.slot_list_extend PySem.F.type_list_extend mt_extendT (pv 2) (pa_cons (pv 3) pa_nil))))) (pss_one (ps_ret (pv 2))))), ?_⟩;obtain ⟨dx, ga, as, pf, vs, g, L, R⟩ := id hLS;have mgb := R.mbg (by omega);have grel := R.grel;obtain ⟨px, py, pz, PT, _⟩ := R.putb (by omega);have lput : S.put.length = 3 := by rw [PT.eq]; rfl
  have al3 := ams_len grel;walk_at "r";refine rd_lstE rfl fun an han => ?_;walk_at "r";have s0 : Same H (upd H an (.lst [.int 0])) := Same.new han;have nl1 : l ≠ an := ne_of_none L.vl han;have nl2 : fl ≠ an := ne_of_none L.fll han;have h0 : (upd H an (.lst [.int 0])) an = some (.lst [.int 0]) := upd_same;have L0 : LAe K t an (upd H an (.lst [.int 0])) ln dx l fl ga as pf (Vbtaam.caps S) vs S.put g := (L.ext han).same s0;generalize upd H an (.lst [.int 0]) = H0 at *;refine rd_fldE L0.lad.at_ T.cL T.nL_filled (lf_f _ _ _) ?_;walk_at "r";refine rd_fldE L0.lad.at_ T.cL T.nL_gone (lf_g _ _ _) ?_;obtain ⟨dxg, cg, sg, kg, ksg, N⟩ := id L0.go;refine rd_methE N.at_ (mf_no _ _ _ _ (by decide +kernel) (by decide +kernel) (by decide +kernel) (by decide +kernel)) ?_;walk_at "r";refine ⟨ga, t.CM, [l, fl, an], none, g, rfl, T.iM, .inl rfl, L0.go, mgb.low, mgb.c, fun hp => sh3_of mgb grel hp, fun z hz => ?_, fun H1 la ads B1 M1 hla fs hn1 => ?_⟩
  ·simp at hz;rcases hz with rfl | rfl | rfl
   ·rw [L0.lad.vl]; simp
   ·rw [L0.lad.fll]; simp
   ·rw [h0]; simp
  ·have L1 := L0.gone1 B1 M1;have h1 := B1.insL N.at_ h0;have f1 : FrI H H1 := (FrI.of_same s0).trans (FrI.of_but B1 N.at_);have l1 : ads.length = 3 := by rw [fs.1]; exact al3
   have l2 : pf.length = 3 := by rw [L1.lad.fs.1]; exact lput
   refine ⟨fl, la, _, _, rfl, rfl, L1.lad.fll, hla, by rw [List.length_map, List.length_map]; exact Nat.le_of_lt (small3 (by omega)), fun cA hcA => ?_⟩;have s2 : Same H1 (upd H1 cA (.lst (pf.map V.ref ++ ads.map V.ref))) := Same.new hcA;have c2 : (upd H1 cA (.lst (pf.map V.ref ++ ads.map V.ref))) cA = some (.lst ((pf ++ ads).map V.ref)) := by rw [upd_same, List.map_append]
   have can : cA ≠ an := fun e => by rw [e, h1] at hcA; cases hcA
   have L2 := L1.same s2;have h2 := s2 _ _ h1;have f2 : FrI H (upd H1 cA (.lst (pf.map V.ref ++ ads.map V.ref))) := f1.trans (FrI.of_same s2);have fs2 : Fs K (upd H1 cA (.lst (pf.map V.ref ++ ads.map V.ref))) (pf ++ ads) (S.put ++ ams g) := (L2.lad.fs).append (fs.imp fun _ _ h => s2.sqT h);generalize upd H1 cA (.lst (pf.map V.ref ++ ads.map V.ref)) = H2 at *;refine ⟨cA, rfl, ⟨_, SqL.of c2⟩, for_list (K := K) (a := cA) (xs := (pf ++ ads).map V.ref) (fun j σ H' => ∃ (v : Option V), σ = [some (.ref ln), some (.ref ta), some (.ref an), v] /\ LAe K t an H' ln dx l fl ga as pf (Vbtaam.caps S) vs S.put g /\ H' an = some (.lst (.int 0 :: nl (((S.put ++ ams g).take j).flatMap Vbtaam.row))) /\ FrI H H' /\ H' cA = some (.lst ((pf ++ ads).map V.ref)) /\ Fs K H' (pf ++ ads) (S.put ++ ams g))
    ⟨none, rfl, L2, h2, f2, c2, fs2⟩ (fun j σ H' _ ⟨_, _, _, _, _, z, _⟩ => SqL.of z) ?_ ?_⟩
   ·rintro j x σ H5 hj ⟨v', rfl, L5, h5, f5, la5, fs5⟩;obtain ⟨b, hb, rfl⟩ := refs_at hj;obtain ⟨y, hy, fy⟩ := fs5.at_ hb;walk_at "r";refine ⟨.inl ⟨rfl, _, SqL.of h5⟩, ?_⟩;walk_at "r";refine rd_extT h5 fy ?_ ?_
    ·have e1 : (((S.put ++ ams g).take j).flatMap Vbtaam.row).length <= 12 := by
      have := flat_len (g := Vbtaam.row) (c := 2) ((S.put ++ ams g).take j) (fun _ _ => Nat.le_refl _);have h2 : ((S.put ++ ams g).take j).length <= 6 := by rw [List.length_take, List.length_append]; omega
      omega
     rw [List.length_cons, nl_len];exact Nat.le_of_lt (small3 (by simp only [List.length_cons, List.length_nil, fr_len]; omega))
    ·have B6 : But an H5 (upd H5 an (.lst (.int 0 :: nl (((S.put ++ ams g).take j).flatMap Vbtaam.row) ++ fr y))) := But.upd;refine ⟨_, rfl, L5.butA B6 h5 nl1 nl2, ?_, fun b o e no => B6 _ _ (f5 _ _ e no) (ne_of_none e han), B6 _ _ la5 can, fs5.imp fun _ _ h => B6.sqT h5 (fun _ e => by cases e) (fun _ _ e => by cases e) h⟩;rw [upd_same, flat_take hy, nl_app _ (Vbtaam.row y)];rfl
   ·rintro σ H5 ⟨v', rfl, L5, h5, f5, la5, fs5⟩;walk_at "r";have e2 : Vbtaam.step S .ledger = Vbtaam.yes S (S.put.flatMap Vbtaam.row ++ S.gone.flatMap Vbtaam.row) := rfl;refine kk H5 an ?_ f5.fr ?_ han
    ·rw [e2];exact ⟨dx, ga, as, pf, vs, g, L5.lad, R.mono⟩
    ·rw [e2, yes_nl, h5, List.take_of_length_le (by rw [List.length_map, fs5.1]; exact Nat.le_refl _), List.flatMap_append, ams_has grel]
def OutT (H : Hp) (Q : VK) (x : Vbtaam.Amounts) : Prop := ∀ (H' : Hp) (p : Addr), Same H H' -> H p = none -> H' p = some (.tup (nl x)) -> Q (.ref p) H'
theorem nl_at {l : List Nat} {i n : Nat} (h : l[i]? = some n) : (nl l)[i]? = some (.int n) := by
 unfold nl;rw [List.getElem?_map, h];rfl
theorem nl_set (l : List Nat) (i n : Nat) : (nl l).set i (.int n) = nl (l.set i n) := by
 unfold nl;rw [List.map_set]
theorem at_get {l : List Nat} {i : Nat} (h : i < l.length) : l[i]? = some (Vbtaam.at_ l i) := by
 unfold Vbtaam.at_;rw [List.getD_eq_getElem?_getD, List.getElem?_eq_getElem h];rfl
theorem ixN_nat {n i : Nat} (h : i < n) : ixN n (i : Int) = some i := by
 unfold ixN;rw [if_pos (by omega), if_pos (by omega)];simp
def spWc (K : PySem.W.Frag) : Sp := fun us H Q _ => ∃ (a : Addr) (x : Vbtaam.Amounts) (v c : Nat), us = [.ref a, .int v, .int c] /\ SqT K H a (nl x) /\ v < x.length /\ OutT H Q (x.set v c)
theorem ok_with_content (F : Fun K "with_content" "with_content" s_with_content f fd) (T : Txt P K mg t) : FnOk P w K mg base CX0 34 f fd p_with_content (spWc K) := by
 refine F.ok sc_with_content (fun vs H Q E h => ?_) (fun cdv A outer s H vs Q E hr h => ?_)
 ·obtain ⟨a, x, v, c, rfl, _⟩ := h;rfl
 ·obtain ⟨a, x, v, c, rfl, ha, hv, k⟩ := h;have nd := sc_with_content.nd;refine ⟨_, (pss_cons (ps_set (i := 3) nd rfl (by walk_at "o") (pe_callTy call_list_of (by rfl) T.b_list bt_list (pa_cons (pv 0) pa_nil))) (pss_cons (ps_asg (pv 2) (pg_sub (pv 3) (pv 1) set_list)) (pss_one (ps_ret (pe_callTy call_tuple_of (by rfl) T.b_tuple bt_tuple (pa_cons (pv 3) pa_nil)))))), ?_⟩;walk_at "r";refine ⟨a, _, rfl, .inr ha, fun l hl => ?_⟩;walk_at "r";refine ⟨l, _, v, v, rfl, rfl, upd_same, by rw [nl_len]; exact ixN_nat hv, ?_⟩;walk_at "r";rw [nl_set];refine ⟨l, _, rfl, .inl ⟨SqL.of upd_same, fun p hp => ?_⟩⟩;have s1 : Same H (upd (upd (upd H l (.lst (nl x))) l (.lst (nl (x.set v c)))) p (.tup (nl (x.set v c)))) := fun b o e => by
   have e1 : (upd (upd H l (.lst (nl x))) l (.lst (nl (x.set v c)))) b = some o := by
    rw [upd_ne (ne_of_none e hl), upd_ne (ne_of_none e hl)];exact e
   rw [upd_ne (ne_of_none e1 hp)];exact e1
  refine k _ p s1 ?_ upd_same;have pl : p ≠ l := fun e => by rw [e, upd_same] at hp; cases hp
  rw [upd_ne pl, upd_ne pl] at hp;exact hp
def spPoured (K : PySem.W.Frag) : Sp := fun us H Q _ => ∃ (sA cA : Addr) (caps : List Nat) (x : Vbtaam.Amounts) (a b : Nat), us = [.ref sA, .ref cA, .int a, .int b] /\ SqL K H sA (nl caps) /\ SqT K H cA (nl x) /\ a < x.length /\ b < x.length /\ x.length = caps.length /\ a ≠ b /\ OutT H Q (Vbtaam.done caps x (.pour a b))
theorem ok_poured (F : Fun K "poured" "poured" s_poured f fd) (T : Txt P K mg t) : FnOk P w K mg base CX0 34 f fd p_poured (spPoured K) := by
 refine F.ok sc_poured (fun vs H Q E h => ?_) (fun cdv A outer s H vs Q E hr h => ?_)
 ·obtain ⟨_, _, _, _, _, _, rfl, _⟩ := h;rfl
 ·obtain ⟨sA, cA, caps, x, a, b, rfl, hs, hc, ha, hb, hl, hab, k⟩ := h;have nd := sc_poured.nd;refine ⟨_, (pss_cons (ps_set (i := 4) nd rfl (by walk_at "o") (pe_callB (call_min2 rfl) (by rfl) T.b_min bt_min (pa_cons (pe_ix ix_tup (pv 1) (pv 2) (fun _ _ => rfl)) (pa_cons (pe_callB (call_max2 rfl) (by rfl) T.b_max bt_max (pa_cons (pe_op op_sub (pe_ix ix_list (pv 0) (pv 3) (fun _ _ => rfl)) (pe_ix ix_tup (pv 1) (pv 3) (fun _ _ => rfl))) (pa_cons pe_int pa_nil))) pa_nil)))) (pss_cons (ps_set (i := 5) nd rfl (by walk_at "o") (pe_callTy call_list_of (by rfl) T.b_list bt_list (pa_cons (pv 1) pa_nil))) (pss_cons (ps_asg (pe_op op_sub (pe_ix ix_tup (pv 1) (pv 2) (fun _ _ => rfl)) (pv 4)) (pg_sub (pv 5) (pv 2) set_list)) (pss_cons (ps_asg (pe_op op_add (pe_ix ix_tup (pv 1) (pv 3) (fun _ _ => rfl)) (pv 4)) (pg_sub (pv 5) (pv 3) set_list)) (pss_one (ps_ret (pe_callTy call_tuple_of (by rfl) T.b_tuple bt_tuple (pa_cons (pv 5) pa_nil)))))))), ?_⟩;have ga : (nl x)[a]? = some (.int (Vbtaam.at_ x a : Nat)) := nl_at (at_get ha);have gb : (nl x)[b]? = some (.int (Vbtaam.at_ x b : Nat)) := nl_at (at_get hb);have gs : (nl caps)[b]? = some (.int (Vbtaam.at_ caps b : Nat)) := nl_at (at_get (by omega));walk_at "r";refine rd_ixT hc (at_of (j := a) rfl ga) ?_;walk_at "r";refine rd_ixL hs (at_of (j := b) rfl gs) ?_;walk_at "r";refine rd_ixT hc (at_of (j := b) rfl gb) ?_;walk_at "r";refine ⟨_, _, rfl, ?_⟩;walk_at "r";refine ⟨_, _, rfl, ?_⟩;have et : (if (if (0 : Int) > (Vbtaam.at_ caps b : Int) - (Vbtaam.at_ x b : Int) then (0 : Int) else (Vbtaam.at_ caps b : Int) - (Vbtaam.at_ x b : Int)) < (Vbtaam.at_ x a : Int) then (if (0 : Int) > (Vbtaam.at_ caps b : Int) - (Vbtaam.at_ x b : Int) then (0 : Int) else (Vbtaam.at_ caps b : Int) - (Vbtaam.at_ x b : Int)) else (Vbtaam.at_ x a : Int)) = ((min (Vbtaam.at_ x a) (Vbtaam.at_ caps b - Vbtaam.at_ x b) : Nat) : Int) := by
   split <;> split <;> omega
  rw [et];have ed : Vbtaam.done caps x (.pour a b) = (x.set a (Vbtaam.at_ x a - min (Vbtaam.at_ x a) (Vbtaam.at_ caps b - Vbtaam.at_ x b))).set b (Vbtaam.at_ x b + min (Vbtaam.at_ x a) (Vbtaam.at_ caps b - Vbtaam.at_ x b)) := rfl;rw [ed] at k;have qle : min (Vbtaam.at_ x a) (Vbtaam.at_ caps b - Vbtaam.at_ x b) <= Vbtaam.at_ x a := Nat.min_le_left _ _;generalize min (Vbtaam.at_ x a) (Vbtaam.at_ caps b - Vbtaam.at_ x b) = q at *;walk_at "r";refine ⟨cA, _, rfl, .inr hc, fun l hl' => ?_⟩;have s0 : Same H (upd H l (.lst (nl x))) := Same.new hl';have h0 : (upd H l (.lst (nl x))) l = some (.lst (nl x)) := upd_same;have fr0 : ∀ {y : Addr}, (upd H l (.lst (nl x))) y = none -> H y = none := fun h => s0.free h;generalize upd H l (.lst (nl x)) = H0 at *;walk_at "r";refine rd_ixT (s0.sqT hc) (at_of (j := a) rfl ga) ?_;walk_at "r";have e1 : ((Vbtaam.at_ x a : Nat) : Int) - (q : Int) = ((Vbtaam.at_ x a - q : Nat) : Int) := by omega
  rw [e1];refine ⟨l, _, a, a, rfl, rfl, h0, by rw [nl_len]; exact ixN_nat ha, ?_⟩;rw [nl_set];have s1 : Same H (upd H0 l (.lst (nl (x.set a (Vbtaam.at_ x a - q))))) := fun b o e => by rw [upd_ne (ne_of_none e hl')]; exact s0 _ _ e
  have h1 : (upd H0 l (.lst (nl (x.set a (Vbtaam.at_ x a - q))))) l = some (.lst (nl (x.set a (Vbtaam.at_ x a - q)))) := upd_same;generalize upd H0 l (.lst (nl (x.set a (Vbtaam.at_ x a - q)))) = H1 at *;walk_at "r";refine rd_ixT (s1.sqT hc) (at_of (j := b) rfl gb) ?_;walk_at "r";have e2 : ((Vbtaam.at_ x b : Nat) : Int) + (q : Int) = ((Vbtaam.at_ x b + q : Nat) : Int) := by omega
  rw [e2];refine ⟨l, _, b, b, rfl, rfl, h1, by rw [nl_len, List.length_set]; exact ixN_nat hb, ?_⟩;rw [nl_set];have s2 : Same H (upd H1 l (.lst (nl ((x.set a (Vbtaam.at_ x a - q)).set b (Vbtaam.at_ x b + q))))) := fun b o e => by rw [upd_ne (ne_of_none e hl')]; exact s1 _ _ e
  have h2 : (upd H1 l (.lst (nl ((x.set a (Vbtaam.at_ x a - q)).set b (Vbtaam.at_ x b + q))))) l = some (.lst (nl ((x.set a (Vbtaam.at_ x a - q)).set b (Vbtaam.at_ x b + q)))) := upd_same;generalize upd H1 l (.lst (nl ((x.set a (Vbtaam.at_ x a - q)).set b (Vbtaam.at_ x b + q)))) = H2 at *;walk_at "r";refine ⟨l, _, rfl, .inl ⟨SqL.of h2, fun p hp => ?_⟩⟩;exact k _ p (s2.trans (Same.new hp)) (s2.free hp) upd_same
def Ts (H : Hp) (as : List Addr) (xs : List Vbtaam.Amounts) : Prop := as.length = xs.length /\ ∀ (j : Nat) (a : Addr) (x : Vbtaam.Amounts), as[j]? = some a -> xs[j]? = some x -> H a = some (.tup (nl x))
theorem Ts.nil {H : Hp} : Ts H [] [] := ⟨rfl, fun j a x h => by simp at h⟩
theorem Ts.imp {H H' : Hp} {as : List Addr} {xs : List Vbtaam.Amounts} (h : Ts H as xs) (i : ∀ a x, H a = some (.tup (nl x)) -> H' a = some (.tup (nl x))) : Ts H' as xs := ⟨h.1, fun j a x h1 h2 => i _ _ (h.2 j a x h1 h2)⟩
theorem Ts.append {H : Hp} {as bs : List Addr} {xs ys : List Vbtaam.Amounts} (h : Ts H as xs) (h2 : Ts H bs ys) : Ts H (as ++ bs) (xs ++ ys) := by
 refine ⟨by rw [List.length_append, List.length_append, h.1, h2.1], fun j a x e1 e2 => ?_⟩
 by_cases hj : j < as.length
 ·rw [List.getElem?_append_left hj] at e1;rw [List.getElem?_append_left (by rw [<- h.1]; exact hj)] at e2;exact h.2 j a x e1 e2
 ·rw [List.getElem?_append_right (by omega)] at e1;rw [List.getElem?_append_right (by rw [<- h.1]; omega), <- h.1] at e2;exact h2.2 _ a x e1 e2
theorem Ts.one {H : Hp} {a : Addr} {x : Vbtaam.Amounts} (h : H a = some (.tup (nl x))) : Ts H [a] [x] := ⟨rfl, fun j b y e1 e2 => by
 match j, e1, e2 with
 | 0, e1, e2 =>
  cases e1;cases e2;exact h
 | j + 1, e1, _ => simp at e1⟩
theorem rng_at {n i : Nat} {x : V} (h : ((List.range n).map fun i : Nat => V.int (i : Int))[i]? = some x) : i < n /\ x = .int i := by
 rw [List.getElem?_map] at h;cases e : (List.range n)[i]? with
 | none => rw [e] at h; cases h
 | some j =>
  rw [e] at h;have hi := (List.getElem?_eq_some_iff.mp e).1;rw [List.length_range] at hi;rw [List.getElem?_range hi] at e;cases e;exact ⟨hi, (Option.some.inj h).symm⟩
theorem range_take {n i : Nat} (h : i < n) : (List.range n).take (i + 1) = (List.range n).take i ++ [i] := by
 rw [List.take_add_one, List.getElem?_range h];rfl
theorem range_all (n : Nat) : (List.range n).take ((List.range n).map fun i : Nat => V.int (i : Int)).length = List.range n := List.take_of_length_le (by rw [List.length_map]; exact Nat.le_refl _)
def spOut (K : PySem.W.Frag) : Sp := fun us H Q _ => ∃ (sA cA : Addr) (caps : List Nat) (x : Vbtaam.Amounts) (tap : Int), us = [.ref sA, .ref cA, .int tap] /\ SqL K H sA (nl caps) /\ SqT K H cA (nl x) /\ x.length = caps.length /\ caps.length <= 3 /\
 ∀ (H' : Hp) (l : Addr) (ads : List Addr), Same H H' -> H l = none -> H' l = some (.lst (ads.map V.ref)) -> Ts H' ads (outs caps (tap == 1) x) -> Q (.ref l) H'
theorem lc_snoc {H H' H2 : Hp} {D q : Addr} {ads : List Addr} {xs : List Vbtaam.Amounts} {y : Vbtaam.Amounts} (hD : H D = none) (h1 : H' D = some (.lst (ads.map V.ref))) (h2 : Ts H' ads xs) (s1 : Same H H') (s2 : Same H' H2) (n2 : H' q = none) (h3 : H2 q = some (.tup (nl y))) :
  (upd H2 D (.lst (ads.map V.ref ++ [.ref q]))) D = some (.lst ((ads ++ [q]).map V.ref)) /\ Ts (upd H2 D (.lst (ads.map V.ref ++ [.ref q]))) (ads ++ [q]) (xs ++ [y]) /\ Same H (upd H2 D (.lst (ads.map V.ref ++ [.ref q]))) := by
 have qD : q ≠ D := fun e => by rw [e, h1] at n2; cases n2
 have tk : ∀ a x, H2 a = some (.tup (nl x)) -> (upd H2 D (.lst (ads.map V.ref ++ [.ref q]))) a = some (.tup (nl x)) := fun a x h => by
  rw [upd_ne (ne_of h (s2 _ _ h1) (by intro e; cases e))];exact h
 refine ⟨by rw [upd_same, List.map_append]; rfl, (h2.imp fun a x h => tk a x (s2 _ _ h)).append (Ts.one (tk _ _ h3)), fun b o e => ?_⟩;rw [upd_ne (ne_of_none e hD)];exact s2 _ _ (s1 _ _ e)
theorem ok_outcomes (F : Fun K "outcomes" "outcomes" s_outcomes f fd) (T : Txt P K mg t) (D_with_content : Def P w K mg base 34 "with_content" p_with_content (spWc K)) (D_poured : Def P w K mg base 34 "poured" p_poured (spPoured K)) : FnOk P w K mg base CX0 35 f fd p_outcomes (spOut K) := by
 refine F.ok sc_outcomes (fun vs H Q E h => ?_) (fun cdv A outer s H vs Q E hr h => ?_)
 ·obtain ⟨_, _, _, _, _, rfl, _⟩ := h;rfl
 ·obtain ⟨sA, cA, caps, x, tap, rfl, hs, hc, hl, l3, k⟩ := h;have nd := sc_outcomes.nd;obtain ⟨TP, hTP⟩ : ∃ TP : TS, TP = fun D σ H3 => ∃ (vA fA : Addr) (ads : List Addr) (pre : List Vbtaam.Amounts) (u6 u7 u8 : Option V), σ = [some (.ref sA), some (.ref cA), some (.int tap), some (.ref vA), some (.ref fA), u6, u7, u8] /\ pre.length <= 6 /\ Same H H3 /\ H fA = none /\ H3 vA = some (.lst ((List.range caps.length).map fun i : Nat => V.int (i : Int))) /\ vA ≠ fA /\ H3 fA = some (.lst (ads.map V.ref)) /\ Ts H3 ads pre /\ outs caps (tap == 1) x = pre ++ (List.range caps.length).flatMap (outsP caps x) /\
   ∀ (H' : Hp) (ads : List Addr), Same H H' -> H' fA = some (.lst (ads.map V.ref)) -> Ts H' ads (outs caps (tap == 1) x) -> D.rt (.ref fA) H' := ⟨_, rfl⟩
  refine ⟨_, (pss_cons (ps_set (i := 3) nd rfl (by walk_at "o") (pe_callTy (call_listR rfl) (by rfl) T.b_list bt_list (pa_cons (pe_callTy call_rangeV (by rfl) T.b_range bt_range (pa_cons (pe_callB call_len_seq (by rfl) T.b_len bt_len (pa_cons (pv 0) pa_nil)) pa_nil)) pa_nil))) (pss_cons (ps_set (i := 4) nd rfl (by walk_at "o") (pe_lst pa_nil)) (pss_cons (ps_if (pt_cmpR op_eq (pv 2) pe_int (nomark _)) (pss_cons (ps_expr (pe_bm PySem.F.plainAttrs_list PySem.F.slot_list_extend PySem.F.type_list_extend mt_extend (pv 4) (pa_cons (pe_lc rfl nd (pi_list (pv 3)) (own := [("vessel", 6)]) (show BlkOk N_outcomes (defScope s_outcomes) _ _ from ⟨rfl, by decide +kernel, by decide +kernel, by decide +kernel, by decide +kernel⟩) (fun _ _ _ _ _ => pg_name (i := 6) nd rfl (by walk_at "o")) (fun _ _ _ _ _ => pts_nil) (fun _ _ _ _ _ => (pe_def D_with_content (hr.mono (by decide)) rfl (pa_cons (pv 1) (pa_cons (pv 6) (pa_cons (pe_ix (ix_listK (K := K) rfl) (pv 0) (pv 6) (fun _ _ => rfl)) pa_nil)))))) pa_nil))) (pss_one (ps_expr (pe_bm PySem.F.plainAttrs_list PySem.F.slot_list_extend PySem.F.type_list_extend mt_extend (pv 4) (pa_cons (pe_lc rfl nd (pi_list (pv 3)) (own := [("vessel", 6)]) (show BlkOk N_outcomes (defScope s_outcomes) _ _ from ⟨rfl, by decide +kernel, by decide +kernel, by decide +kernel, by decide +kernel⟩) (fun _ _ _ _ _ => pg_name (i := 6) nd rfl (by walk_at "o")) (fun _ _ _ _ _ => pts_nil) (fun _ _ _ _ _ => (pe_def D_with_content (hr.mono (by decide)) rfl (pa_cons (pv 1) (pa_cons (pv 6) (pa_cons pe_int pa_nil)))))) pa_nil))))) pss_nil) (PSs.weak TP (pss_cons (ps_for PassesOwn.never rfl (pi_list (pv 3)) (pg_name (i := 5) nd rfl (by walk_at "o")) (pss_one (ps_expr (pe_bm PySem.F.plainAttrs_list PySem.F.slot_list_extend PySem.F.type_list_extend mt_extend (pv 4) (pa_cons (pe_lc rfl nd (pi_list (pv 3)) (own := [("b", 7)]) (show BlkOk N_outcomes (defScope s_outcomes) _ _ from ⟨rfl, by decide +kernel, by decide +kernel, by decide +kernel, by decide +kernel⟩) (fun _ _ _ _ _ => pg_name (i := 7) nd rfl (by walk_at "o")) (fun _ _ _ _ _ => (pts_one (pt_cmpR op_ne (pv 7) (pv 5) (nomark _)))) (fun _ _ _ _ _ => (pe_def D_poured (hr.mono (by decide)) rfl (pa_cons (pv 0) (pa_cons (pv 1) (pa_cons (pv 5) (pa_cons (pv 7) pa_nil))))))) pa_nil))))) (pss_one (ps_ret (pv 4)))) ?hw)))), ?_⟩
  case hw =>
   rintro ⟨nx, rt, bk, ct⟩ σ H3 hT;rw [hTP] at hT;obtain ⟨vA, fA, ads, pre, u6, u7, u8, rfl, p6, s3, fA0, v3, vf, f3, t3, eo, kk⟩ := hT;walk_at "r";refine ⟨vA, rfl, ⟨_, SqL.of v3⟩, for_list (K := K) (a := vA) (xs := (List.range caps.length).map fun i : Nat => V.int (i : Int)) (fun i σ H' => ∃ (ads : List Addr) (u6 u7 u8 : Option V), σ = [some (.ref sA), some (.ref cA), some (.int tap), some (.ref vA), some (.ref fA), u6, u7, u8] /\ Same H H' /\ H' vA = some (.lst ((List.range caps.length).map fun i : Nat => V.int (i : Int))) /\ H' fA = some (.lst (ads.map V.ref)) /\ Ts H' ads (pre ++ ((List.range caps.length).take i).flatMap (outsP caps x)))
    ⟨ads, u6, u7, u8, rfl, s3, v3, f3, by simpa using t3⟩ (fun i σ H' _ ⟨_, _, _, _, _, _, z, _⟩ => SqL.of z) ?_ ?_⟩
   ·rintro i y σ H4 hi ⟨ads4, v6, v7, v8, rfl, s4, v4, f4, t4⟩;obtain ⟨hin, rfl⟩ := rng_at hi;walk_at "r";refine ⟨.inl ⟨rfl, _, SqL.of f4⟩, ?_⟩;walk_at "r";refine ⟨vA, rfl, ⟨_, SqL.of v4⟩, fun D hD => ?_⟩;have Df : fA ≠ D := ne_of_none f4 hD;have Dv : vA ≠ D := ne_of_none v4 hD;refine lc_list (K := K) (a := vA) (xs := (List.range caps.length).map fun i : Nat => V.int (i : Int)) (fun j H' => ∃ bds : List Addr, H' D = some (.lst (bds.map V.ref)) /\ Ts H' bds ((((List.range caps.length).take j).filter fun b => b != i).map fun b => Vbtaam.done caps x (.pour i b)) /\ Same H4 H') ⟨[], upd_same, Ts.nil, Same.new hD⟩ (fun j H' _ ⟨_, _, _, z⟩ => z.seq (SqL.of v4)) ?_ ?_
    ·rintro j z H5 hj ⟨bds, d5, t5, s5⟩;obtain ⟨hjn, rfl⟩ := rng_at hj;have s45 := s4.trans s5;refine rd_gname ⟨rfl, ?_⟩;walk_at "r"
     by_cases e : j = i
     ·subst e;refine ite2 (fun c => ?_) (fun _ => ?_)
      ·rw [decide_eq_true rfl] at c;cases c
      ·refine ⟨bds, d5, ?_, s5⟩;rw [range_take hjn, List.filter_append, List.filter_cons, if_neg (by simp), List.filter_nil, List.append_nil];exact t5
     ·refine ite2 (fun _ => ?_) (fun c => ?_)
      ·walk_at "r";refine ⟨sA, cA, caps, x, i, j, rfl, s45.seq hs, s45.sqT hc, by omega, by omega, hl, fun z => e z.symm, fun H6 q s6 n6 h6 => ?_⟩;obtain ⟨r1, r2, r3⟩ := lc_snoc hD d5 t5 s5 s6 n6 h6;refine ⟨_, s6 _ _ d5, ?_, bds ++ [q], r1, ?_, r3⟩
       ·rw [List.length_map, t5.1, List.length_map];have h2 : (((List.range caps.length).take j).filter fun b => b != i).length <= 3 := Nat.le_trans (List.length_filter_le _ _) (by rw [List.length_take, List.length_range]; omega);exact small3 (by omega)
       ·rw [range_take hjn, List.filter_append, List.filter_cons, if_pos (by simpa using e), List.filter_nil, List.map_append];exact r2
      ·exact absurd (by rw [decide_eq_false (fun z => e (by have := V.int.inj z; omega))]; rfl) c
    ·rintro H5 ⟨bds, d5, t5, s5⟩;rw [range_all] at t5;have t5 : Ts H5 bds (outsP caps x i) := t5;walk_at "r";have lp : ∀ a, (outsP caps x a).length <= 3 := fun a => by
      unfold outsP;rw [List.length_map];exact Nat.le_trans (List.length_filter_le _ _) (by rw [List.length_range]; omega)
     have la : ads4.length <= 15 := by
      rw [t4.1, List.length_append, List.length_flatMap];have : ∀ l : List Nat, (l.map fun a => (outsP caps x a).length).sum <= l.length * 3 := fun l => by
       induction l with
       | nil => simp
       | cons a l ih =>
        have := lp a;simp only [List.map_cons, List.sum_cons, List.length_cons];omega
      have := this ((List.range caps.length).take i);have : ((List.range caps.length).take i).length <= 3 := by rw [List.length_take, List.length_range]; omega
      omega
     have lb : bds.length <= 3 := by rw [t5.1]; exact lp i
     refine rd_ext (s5 _ _ f4) d5 (by rw [List.length_map, List.length_map]; exact Nat.le_of_lt (small3 (by omega))) ?_;have B6 : But fA H5 (upd H5 fA (.lst (ads4.map V.ref ++ bds.map V.ref))) := But.upd;have f5 := s5 _ _ f4;have tk : ∀ a y, H5 a = some (.tup (nl y)) -> (upd H5 fA (.lst (ads4.map V.ref ++ bds.map V.ref))) a = some (.tup (nl y)) := fun a y h => B6 _ _ h (ne_of h f5 (by intro e; cases e));refine ⟨ads4 ++ bds, _, _, _, rfl, fun b o e => B6 _ _ (s5 _ _ (s4 _ _ e)) (ne_of_none e fA0), B6 _ _ (s5 _ _ v4) vf, by rw [upd_same, List.map_append], ?_⟩;rw [range_take hin, List.flatMap_append, <- List.append_assoc];have e1 : [i].flatMap (outsP caps x) = outsP caps x i := by simp
     rw [e1];exact (t4.imp fun a y h => tk a y (s5 _ _ h)).append (t5.imp tk)
   ·rintro σ H4 ⟨ads4, v6, v7, v8, rfl, s4, v4, f4, t4⟩;rw [range_all] at t4;walk_at "r";exact kk H4 ads4 s4 f4 (by rw [eo]; exact t4)
  walk_at "r";refine ⟨sA, _, rfl, .inl hs, ?_⟩;walk_at "r";refine ⟨_, rfl, fun pr hpr => ?_⟩;walk_at "r";refine ⟨pr, _, rfl, upd_same, by omega, by rw [nl_len]; omega, fun vA hvA => ?_⟩;have s1 : Same H (upd (upd H pr (.rng 0 ((nl caps).length : Int))) vA (.lst ((List.range (((nl caps).length : Int)).toNat).map fun i : Nat => V.int (i : Int)))) := (Same.new hpr).trans (Same.new hvA);have h1 : (upd (upd H pr (.rng 0 ((nl caps).length : Int))) vA (.lst ((List.range (((nl caps).length : Int)).toNat).map fun i : Nat => V.int (i : Int)))) vA = some (.lst ((List.range caps.length).map fun i : Nat => V.int (i : Int))) := by rw [upd_same, nl_len, Int.toNat_natCast]
  generalize upd (upd H pr (.rng 0 ((nl caps).length : Int))) vA (.lst ((List.range (((nl caps).length : Int)).toNat).map fun i : Nat => V.int (i : Int))) = H1 at *;walk_at "r";refine rd_lstE rfl fun fA hfA => ?_;have s2 : Same H1 (upd H1 fA (.lst [])) := Same.new hfA;have h2 : (upd H1 fA (.lst [])) fA = some (.lst (([] : List Addr).map V.ref)) := upd_same;have fv : vA ≠ fA := ne_of_none h1 hfA;have s12 := s1.trans s2;have v2 := s2 _ _ h1;have fA0 : H fA = none := s1.free hfA;generalize upd H1 fA (.lst []) = H2 at *;walk_at "r"
  by_cases ht : tap = 1
  ·subst ht;refine ite2 (fun _ => ?_) (fun c => absurd (decide_eq_true rfl) c);walk_at "r";refine ⟨.inl ⟨rfl, _, SqL.of h2⟩, ?_⟩;walk_at "r";refine ⟨vA, rfl, ⟨_, SqL.of v2⟩, fun D hD => ?_⟩;have Df : fA ≠ D := ne_of_none h2 hD;refine lc_list (K := K) (a := vA) (xs := (List.range caps.length).map fun i : Nat => V.int (i : Int)) (fun j H' => ∃ bds : List Addr, H' D = some (.lst (bds.map V.ref)) /\ Ts H' bds (((List.range caps.length).take j).map fun v => x.set v (Vbtaam.at_ caps v)) /\ Same H2 H') ⟨[], upd_same, Ts.nil, Same.new hD⟩ (fun j H' _ ⟨_, _, _, z⟩ => z.seq (SqL.of v2)) ?_ ?_
   ·rintro j z H5 hj ⟨bds, d5, t5, s5⟩;obtain ⟨hjn, rfl⟩ := rng_at hj;have s45 := s12.trans s5;refine rd_gname ⟨rfl, ?_⟩;walk_at "r";refine iteT ?_;walk_at "r";refine rd_ixL (s45.seq hs) (at_of (j := j) rfl (nl_at (at_get hjn))) ?_;walk_at "r";refine ⟨cA, x, j, _, rfl, s45.sqT hc, by omega, fun H6 q s6 n6 h6 => ?_⟩;obtain ⟨r1, r2, r3⟩ := lc_snoc hD d5 t5 s5 s6 n6 h6;refine ⟨_, s6 _ _ d5, ?_, bds ++ [q], r1, ?_, r3⟩
    ·rw [List.length_map, t5.1, List.length_map, List.length_take, List.length_range];exact small3 (by omega)
    ·rw [range_take hjn, List.map_append];exact r2
   ·rintro H5 ⟨bds, d5, t5, s5⟩;rw [range_all] at t5;have lb : bds.length <= 3 := by rw [t5.1, List.length_map, List.length_range]; omega
    have f5 := s5 _ _ h2;walk_at "r";refine rd_ext f5 d5 (by rw [List.length_map, List.length_map]; exact Nat.le_of_lt (small3 (by simp only [List.length_nil]; omega))) ?_;have B6 : But fA H5 (upd H5 fA (.lst (([] : List Addr).map V.ref ++ bds.map V.ref))) := But.upd;have f6 : (upd H5 fA (.lst (([] : List Addr).map V.ref ++ bds.map V.ref))) fA = some (.lst (bds.map V.ref)) := by rw [upd_same]; rfl
    have t6 : Ts (upd H5 fA (.lst (([] : List Addr).map V.ref ++ bds.map V.ref))) bds ((List.range caps.length).map fun v => x.set v (Vbtaam.at_ caps v)) := t5.imp fun a y h => B6 _ _ h (ne_of h f5 (by intro e; cases e));have v6 := B6 _ _ (s5 _ _ v2) fv;have s6 : Same H (upd H5 fA (.lst (([] : List Addr).map V.ref ++ bds.map V.ref))) := fun b o e => B6 _ _ (s5 _ _ (s12 _ _ e)) (ne_of_none e fA0);generalize upd H5 fA (.lst (([] : List Addr).map V.ref ++ bds.map V.ref)) = H6 at *;walk_at "r";refine ⟨.inl ⟨rfl, _, SqL.of f6⟩, ?_⟩;walk_at "r";refine ⟨vA, rfl, ⟨_, SqL.of v6⟩, fun D2 hD2 => ?_⟩;refine lc_list (K := K) (a := vA) (xs := (List.range caps.length).map fun i : Nat => V.int (i : Int)) (fun j H' => ∃ bds : List Addr, H' D2 = some (.lst (bds.map V.ref)) /\ Ts H' bds (((List.range caps.length).take j).map fun v => x.set v 0) /\ Same H6 H') ⟨[], upd_same, Ts.nil, Same.new hD2⟩ (fun j H' _ ⟨_, _, _, z⟩ => z.seq (SqL.of v6)) ?_ ?_
    ·rintro j z H7 hj ⟨cds, d7, t7, s7⟩;obtain ⟨hjn, rfl⟩ := rng_at hj;have s67 := s6.trans s7;refine rd_gname ⟨rfl, ?_⟩;walk_at "r";refine iteT ?_;walk_at "r";refine ⟨cA, x, j, 0, rfl, s67.sqT hc, by omega, fun H8 q s8 n8 h8 => ?_⟩;obtain ⟨r1, r2, r3⟩ := lc_snoc hD2 d7 t7 s7 s8 n8 h8;refine ⟨_, s8 _ _ d7, ?_, cds ++ [q], r1, ?_, r3⟩
     ·rw [List.length_map, t7.1, List.length_map, List.length_take, List.length_range];exact small3 (by omega)
     ·rw [range_take hjn, List.map_append];exact r2
    ·rintro H7 ⟨cds, d7, t7, s7⟩;rw [range_all] at t7;have lc : cds.length <= 3 := by rw [t7.1, List.length_map, List.length_range]; omega
     have f7 := s7 _ _ f6;walk_at "r";refine rd_ext f7 d7 (by rw [List.length_map, List.length_map]; exact Nat.le_of_lt (small3 (by omega))) ?_;have B8 : But fA H7 (upd H7 fA (.lst (bds.map V.ref ++ cds.map V.ref))) := But.upd;have tk : ∀ a y, H7 a = some (.tup (nl y)) -> (upd H7 fA (.lst (bds.map V.ref ++ cds.map V.ref))) a = some (.tup (nl y)) := fun a y h => B8 _ _ h (ne_of h f7 (by intro e; cases e));rw [hTP];refine ⟨vA, fA, bds ++ cds, ((List.range caps.length).map fun v => x.set v (Vbtaam.at_ caps v)) ++ (List.range caps.length).map fun v => x.set v 0, none, none, none, rfl, ?_, fun b o e => B8 _ _ (s7 _ _ (s6 _ _ e)) (ne_of_none e fA0), fA0, B8 _ _ (s7 _ _ v6) fv, fv, by rw [upd_same, List.map_append], (t6.imp fun a y h => tk a y (s7 _ _ h)).append (t7.imp tk), ?_, fun H' ads a b c => k H' fA ads a fA0 b c⟩
     ·rw [List.length_append, List.length_map, List.length_map, List.length_range];omega
     ·rw [outs_eq];rfl
  ·refine ite2 (fun c => absurd (V.int.inj (of_decide_eq_true c)) ht) (fun _ => ?_);walk_at "r";rw [hTP];refine ⟨vA, fA, [], [], none, none, none, rfl, by simp, s12, fA0, v2, fv, h2, Ts.nil, ?_, fun H' ads a b c => k H' fA ads a fA0 b c⟩;rw [outs_eq, if_neg (by simpa using ht)]
end
end Vr
namespace Vr
open PySem PySem.Spec PyProof.Rows L2
open Vbtaam (Way found steps)
def kk (x : Vbtaam.Amounts) : List Key := x.map fun n : Nat => (Sum.inl (n : Int) : Key)
theorem kk_nl (x : Vbtaam.Amounts) : (kk x).map kV = nl x := by
 unfold kk nl;rw [List.map_map];rfl
theorem kk_inj {x y : Vbtaam.Amounts} (h : kk x = kk y) : x = y := by
 unfold kk at h;exact (List.map_inj_right fun a b e => Int.ofNat.inj (Sum.inl.inj e)).mp h
theorem valV_at {kvs : List (List Key × V)} {j : Nat} {k : List Key} {v : V} (h : (kvs.map (·.1)).Nodup) (e : kvs[j]? = some (k, v)) : valV kvs k = some v := by
 induction kvs generalizing j with
 | nil => simp at e
 | cons p r ih =>
  cases j with
  | zero =>
   simp at e;subst e;exact valV_pos rfl
  | succ j =>
   rw [List.getElem?_cons_succ] at e;rw [List.map_cons, List.nodup_cons] at h;rw [valV_neg fun z => h.1 (by rw [z]; exact List.mem_map.mpr ⟨_, List.mem_of_getElem? e, rfl⟩)];exact ih h.2 e
def Keys (kvs : List (List Key × V)) (xs : List Vbtaam.Amounts) : Prop := kvs.map (·.1) = xs.map kk
theorem Keys.len {kvs : List (List Key × V)} {xs : List Vbtaam.Amounts} (h : Keys kvs xs) : kvs.length = xs.length := by
 have := congrArg List.length h;simpa using this
theorem Keys.isSome {kvs : List (List Key × V)} {xs : List Vbtaam.Amounts} (h : Keys kvs xs) (x : Vbtaam.Amounts) : (valV kvs (kk x)).isSome = xs.contains x := by
 rw [<- valV_any];have e1 : (kvs.any fun kv => decide (kv.1 = kk x)) = (kvs.map (·.1)).any fun k => decide (k = kk x) := by rw [List.any_map]; rfl
 rw [e1, h, List.any_map];rw [Bool.eq_iff_iff, List.any_eq_true, List.contains_iff_mem];constructor
 ·rintro ⟨y, hy, e⟩;rw [<- kk_inj (of_decide_eq_true e)];exact hy
 ·exact fun hx => ⟨x, hx, decide_eq_true rfl⟩
theorem Keys.at {kvs : List (List Key × V)} {xs : List Vbtaam.Amounts} (h : Keys kvs xs) {i : Nat} {k : List Key} {v : V} (e : kvs[i]? = some (k, v)) : ∃ x, xs[i]? = some x /\ k = kk x := by
 have e1 : (kvs.map (·.1))[i]? = some k := by rw [List.getElem?_map, e]; rfl
 rw [h, List.getElem?_map] at e1;cases hx : xs[i]? with
 | none => rw [hx] at e1; cases e1
 | some x => rw [hx] at e1; exact ⟨x, rfl, (Option.some.inj e1).symm⟩
theorem Keys.put {kvs : List (List Key × V)} {xs : List Vbtaam.Amounts} (h : Keys kvs xs) (x : Vbtaam.Amounts) (v : V) : Keys (putK kvs (kk x) v) (if xs.contains x = true then xs else xs ++ [x]) := by
 unfold putK;rw [valV_any, h.isSome x]
 split
 ·unfold Keys;rw [<- h, List.map_map];refine List.map_congr_left fun p _ => ?_;show (if p.1 = kk x then (p.1, v) else p).1 = p.1
  split <;> rfl
 ·unfold Keys;rw [List.map_append, List.map_append, h];rfl
def Or1 (H : Hp) (ws : List Way) (v : V) (w : Way) : Prop := ∃ b, v = .ref b /\ ((w.path = [] /\ H b = some (.tup [])) ∨
 ∃ (d : Nat) (p : Way) (a : Addr), p ∈ ws /\ w.path = d :: p.path /\ H b = some (.tup [.ref a, .int d]) /\ H a = some (.tup (nl p.amounts)))
structure Orig (H : Hp) (kvs : List (List Key × V)) (ws : List Way) : Prop where
 keys : Keys kvs (ws.map (·.amounts))
 vals : ∀ (j : Nat) (w : Way) (k : List Key) (v : V), ws[j]? = some w -> kvs[j]? = some (k, v) -> Or1 H ws v w
theorem Or1.imp {H H' : Hp} {ws ws' : List Way} {v : V} {w : Way} (h : Or1 H ws v w) (s : ∀ b xs, H b = some (.tup xs) -> H' b = some (.tup xs)) (sub : ∀ p, p ∈ ws -> p ∈ ws') : Or1 H' ws' v w := by
 obtain ⟨b, e, h⟩ := h;refine ⟨b, e, ?_⟩;rcases h with ⟨h1, h2⟩ | ⟨d, p, a, h1, h2, h3, h4⟩
 ·exact .inl ⟨h1, s _ _ h2⟩
 ·exact .inr ⟨d, p, a, sub _ h1, h2, s _ _ h3, s _ _ h4⟩
theorem Orig.imp {H H' : Hp} {kvs : List (List Key × V)} {ws : List Way} (h : Orig H kvs ws) (s : ∀ b xs, H b = some (.tup xs) -> H' b = some (.tup xs)) : Orig H' kvs ws := ⟨h.keys, fun j w k v h1 h2 => (h.vals j w k v h1 h2).imp s fun _ q => q⟩
theorem Orig.snoc {H : Hp} {kvs : List (List Key × V)} {ws : List Way} (h : Orig H kvs ws) {w : Way} {v : V} (n : ¬ (ws.map (·.amounts)).contains w.amounts = true) (o : Or1 H ws v w) : Orig H (putK kvs (kk w.amounts) v) (add1 ws w) := by
 have e2 : add1 ws w = ws ++ [w] := by unfold add1; rw [if_neg n]
 have hk := h.keys.put w.amounts v;rw [if_neg n] at hk;refine ⟨?_, ?_⟩
 ·rw [e2, List.map_append];exact hk
 ·have e1 : putK kvs (kk w.amounts) v = kvs ++ [(kk w.amounts, v)] := by
   unfold putK;rw [valV_any, h.keys.isSome, if_neg n]
  have hl := h.keys.len;rw [List.length_map] at hl;rw [e1, e2];intro j w2 k v2 h1 h2
  by_cases hj : j < ws.length
  ·rw [List.getElem?_append_left hj] at h1;rw [List.getElem?_append_left (by omega)] at h2;exact (h.vals j w2 k v2 h1 h2).imp (fun _ _ q => q) fun p q => List.mem_append_left _ q
  ·rw [List.getElem?_append_right (by omega)] at h1 h2;have ej : j - ws.length = 0 := by
    have := (List.getElem?_eq_some_iff.mp h1).1;simp at this;omega
   have ej2 : j - kvs.length = 0 := by omega
   rw [ej] at h1;rw [ej2] at h2;cases h1;cases h2;exact o.imp (fun _ _ q => q) fun p q => List.mem_append_left _ q
theorem add1_same {ws : List Way} {w : Way} (n : (ws.map (·.amounts)).contains w.amounts = true) : add1 ws w = ws := by
 unfold add1;rw [if_pos n]
theorem size_le : ∀ {cs : List Nat}, (∀ c ∈ cs, c <= 12) -> cs.length <= 3 -> Vbtaam.size cs <= 2197 := by
 have m : ∀ {a b : Nat}, a <= 12 -> ∀ {n : Nat}, b <= n -> (a + 1) * b <= 13 * n := fun ha _ hb => Nat.mul_le_mul (by omega) hb;intro cs h l
 match cs, h, l with
 | [], _, _ => decide
 | [a], h, _ => exact Nat.le_trans (m (h a (by simp)) (n := 1) (by decide)) (by decide)
 | [a, b], h, _ => exact Nat.le_trans (m (h a (by simp)) (m (h b (by simp)) (n := 1) (by decide))) (by decide)
 | [a, b, c], h, _ => exact m (h a (by simp)) (m (h b (by simp)) (m (h c (by simp)) (n := 1) (by decide)))
 | _ :: _ :: _ :: _ :: _, _, l => simp at l
theorem outs_len12 {caps : List Nat} (h : caps.length <= 3) (tap : Bool) (x : Vbtaam.Amounts) : (outs caps tap x).length <= 12 := by
 unfold outs;rw [List.length_map];have all : ∀ n : Fin 4, ∀ t : Bool, (Vbtaam.deeds n.1 t).length <= 12 := by decide
 exact all ⟨caps.length, by omega⟩ tap
section
variable {P : Program} {w : World} {K : PySem.W.Frag} {mg : Str -> Option Value} {base : Heap} {t : Ad} {f : Addr} {fd : FuncData}
theorem Ts.at {H : Hp} {as : List Addr} {xs : List Vbtaam.Amounts} (h : Ts H as xs) {j : Nat} {x : Vbtaam.Amounts} (e : xs[j]? = some x) : ∃ a, as[j]? = some a /\ H a = some (.tup (nl x)) := by
 have hj : j < as.length := by rw [h.1]; exact (List.getElem?_eq_some_iff.mp e).1
 exact ⟨as[j], List.getElem?_eq_getElem hj, h.2 j _ _ (List.getElem?_eq_getElem hj) e⟩
theorem refs_get {as : List Addr} {j : Nat} {a : Addr} (h : as[j]? = some a) : (as.map V.ref)[j]? = some (.ref a) := by
 rw [List.getElem?_map, h];rfl
theorem rd_dputT {H : Hp} {d b : Addr} {kvs : List (List Key × V)} {y : Vbtaam.Amounts} {v : V} {C : Hp -> Prop} (e : H d = some (.dT kvs)) (hb : H b = some (.tup (nl y))) (l : kvs.length < sizeLine) (q : C (upd H d (.dT (putK kvs (kk y) v)))) : ∃ a H4, V.ref d = .ref a /\ DPut H a (.ref b) v H4 /\ C H4 := ⟨d, _, rfl, DPut.t e (by rw [kk_nl]; exact hb) l, q⟩
theorem rd_dinT {H : Hp} {d b : Addr} {kvs : List (List Key × V)} {xs : List Vbtaam.Amounts} {y : Vbtaam.Amounts} {C : Option V -> Prop} (e : Rd H d (.dT kvs)) (hb : H b = some (.tup (nl y))) (q : C (valV kvs (kk y))) : ∃ a o, V.ref d = .ref a /\ DGet H a (.ref b) o /\ C o := ⟨d, _, rfl, .inr ⟨kvs, kk y, b, e, rfl, by rw [kk_nl]; exact hb, rfl⟩, q⟩
def spCome (K : PySem.W.Frag) : Sp := fun us H Q _ => ∃ (sA cA : Addr) (caps : List Nat) (x : Vbtaam.Amounts) (tap : Int), us = [.ref sA, .ref cA, .int tap] /\ SqL K H sA (nl caps) /\ H cA = some (.tup (nl x)) /\ InBox caps x /\ caps.length <= 3 /\ (∀ c ∈ caps, c <= 12) /\
 ∀ (H' : Hp) (d : Addr) (kvs : List (List Key × V)), Same H H' -> H d = none -> H' d = some (.dT kvs) -> Orig H' kvs (found caps (tap == 1) x) -> ((found caps (tap == 1) x).map (·.amounts)).Nodup -> (∀ w ∈ found caps (tap == 1) x, InBox caps w.amounts) -> kvs.length <= 2197 -> Q (.ref d) H'
theorem ok_come_to (F : Fun K "come_to" "come_to" s_come_to f fd) (T : Txt P K mg t) (D_outcomes : Def P w K mg base 35 "outcomes" p_outcomes (spOut K)) : FnOk P w K mg base CX0 36 f fd p_come_to (spCome K) := by
 refine F.ok sc_come_to (fun vs H Q E h => ?_) (fun cdv A outer s H vs Q E hr h => ?_)
 ·obtain ⟨_, _, _, _, _, rfl, _⟩ := h;rfl
 ·obtain ⟨sA, cA, caps, x, tap, rfl, hs, hc, hb, l3, c12, k⟩ := h;have nd := sc_come_to.nd;have hu := hu_of hr;refine ⟨_, (pss_cons (ps_set (i := 3) nd rfl (by walk_at "o") (pe_disp1T hu (pv 1) (pe_tup pa_nil))) (pss_cons (ps_set (i := 4) nd rfl (by walk_at "o") (pe_lst (pa_cons (pv 1) pa_nil))) (pss_cons (ps_set (i := 5) nd rfl (by walk_at "o") pe_int) (pss_cons (ps_while PassesOwn.never (pt_cmpR op_lt (pv 5) (pe_callB call_len_seq (by rfl) T.b_len bt_len (pa_cons (pv 4) pa_nil)) (nomark _)) (pss_cons (ps_set (i := 6) nd rfl (by walk_at "o") (pe_def D_outcomes (hr.mono (by decide)) rfl (pa_cons (pv 0) (pa_cons (pe_ix ix_list (pv 4) (pv 5) (fun _ _ => rfl)) (pa_cons (pv 2) pa_nil))))) (pss_cons (ps_for PassesOwn.never rfl (pi_range1 rfl T.b_range (pa_cons (pe_callB call_len_seq (by rfl) T.b_len bt_len (pa_cons (pv 6) pa_nil)) pa_nil)) (pg_name (i := 7) nd rfl (by walk_at "o")) (pss_one (ps_if (pt_cmp (pc_dnotin hu (pe_ix ix_list (pv 6) (pv 7) (fun _ _ => rfl)) (pv 3)) (by with_unfolding_all rfl)) (pss_cons (ps_dput hu (pv 3) (pe_ix ix_list (pv 6) (pv 7) (fun _ _ => rfl)) (pe_tup (pa_cons (pe_ix ix_list (pv 4) (pv 5) (fun _ _ => rfl)) (pa_cons (pv 7) pa_nil))) rfl) (pss_one (ps_expr (pe_bm PySem.F.plainAttrs_list PySem.F.slot_list_append PySem.F.type_list_append mt_append (pv 4) (pa_cons (pe_ix ix_list (pv 6) (pv 7) (fun _ _ => rfl)) pa_nil))))) pss_nil))) (pss_one (ps_aug (i := 5) nd rfl (by walk_at "o") pe_int ip_add))))) (pss_one (ps_ret (pv 3))))))), ?_⟩
  walk_at "r";intro d hd;refine rd_var rfl ?_;walk_at "r";refine rd_tupE rfl fun e0 he0 => ?_;have h0 : (upd (upd H d (.dT [])) e0 (.tup [])) cA = some (.tup (nl x)) := by
   have h1 : (upd H d (.dT [])) cA = some (.tup (nl x)) := Same.new hd _ _ hc;exact Same.new he0 _ _ h1
  have hd0 : (upd (upd H d (.dT [])) e0 (.tup [])) d = some (.dT []) := Same.new he0 _ _ upd_same;have he00 : (upd (upd H d (.dT [])) e0 (.tup [])) e0 = some (.tup []) := upd_same;have s0 : Same H (upd (upd H d (.dT [])) e0 (.tup [])) := (Same.new hd).trans (Same.new he0);generalize upd (upd H d (.dT [])) e0 (.tup []) = H0 at *;refine ⟨cA, kk x, rfl, by rw [kk_nl]; exact h0, hd0, ?_⟩;have B1 : But d H0 (upd H0 d (.dT [(kk x, .ref e0)])) := But.upd;have h1 := B1 _ _ h0 (ne_of h0 hd0 (by intro e; cases e));have e1 := B1 _ _ he00 (ne_of he00 hd0 (by intro e; cases e));have s1 : Same H (upd H0 d (.dT [(kk x, .ref e0)])) := fun b o e => B1 _ _ (s0 _ _ e) (ne_of_none e hd);have d1 : (upd H0 d (.dT [(kk x, .ref e0)])) d = some (.dT [(kk x, .ref e0)]) := upd_same;generalize upd H0 d (.dT [(kk x, .ref e0)]) = H1 at *;walk_at "r";refine rd_lstE rfl fun l hl => ?_;have s2 : Same H1 (upd H1 l (.lst ([cA].map V.ref))) := Same.new hl;have l2 : (upd H1 l (.lst ([cA].map V.ref))) l = some (.lst ([cA].map V.ref)) := upd_same;have hl0 : H l = none := s1.free hl;have dl : d ≠ l := ne_of_none d1 hl;show tSeq _ _ _ _ (upd H1 l (.lst ([cA].map V.ref)));have s12 := s1.trans s2;have d2 := s2 _ _ d1;have e2 := s2 _ _ e1;have c2 := s2 _ _ h1;generalize upd H1 l (.lst ([cA].map V.ref)) = H2 at *;walk_at "r";have sz := size_le c12 l3;refine ⟨fun m σ H' => ∃ (ws : List Way) (at_ : Nat) (ads : List Addr) (kvs : List (List Key × V)) (u6 u7 : Option V), σ = [some (.ref sA), some (.ref cA), some (.int tap), some (.ref d), some (.ref l), some (.int at_), u6, u7] /\ m = Vbtaam.size caps + 1 - at_ /\ Same H H' /\ H' d = some (.dT kvs) /\ H' l = some (.lst (ads.map V.ref)) /\ Ts H' ads (ws.map (·.amounts)) /\ Orig H' kvs ws /\ Bfs caps (tap == 1) x ws at_,
   ⟨_, [{ amounts := x, path := [] }], 0, [cA], [(kk x, .ref e0)], none, none, rfl, rfl, s12, d2, l2, Ts.one c2, ⟨rfl, fun j w k v h1 h2 => ?_⟩, bfs_start hb⟩, ?_⟩
  ·match j, h1, h2 with
   | 0, h1, h2 =>
    cases h1;cases h2;exact ⟨e0, rfl, .inl ⟨rfl, e2⟩⟩
   | j + 1, h1, _ => simp at h1
  rintro m σ' H' ⟨ws, a, ads, kvs, u6, u7, rfl, rfl, s3, d3, l3', t3, o3, B⟩;walk_at "r";refine ⟨l, _, rfl, .inl (SqL.of l3'), ?_⟩;walk_at "r";have lw : ads.length = ws.length := by rw [t3.1, List.length_map]
  refine ite2 (fun c => ?_) (fun c => ?_)
  ·have c : ((a : Nat) : Int) < ((ads.map V.ref).length : Int) := of_decide_eq_true c;rw [List.length_map] at c;have ha : a < ws.length := by omega
   obtain ⟨p, hp⟩ : ∃ p, ws[a]? = some p := ⟨_, List.getElem?_eq_getElem ha⟩;have pbox := B.box p (List.mem_of_getElem? hp);obtain ⟨ca, hca, hct⟩ := t3.at (j := a) (x := p.amounts) (by rw [List.getElem?_map, hp]; rfl);refine ⟨fun σ'' H'' => ∃ (ws : List Way) (ads : List Addr) (kvs : List (List Key × V)) (u6 u7 : Option V), σ'' = [some (.ref sA), some (.ref cA), some (.int tap), some (.ref d), some (.ref l), some (.int ((a + 1 : Nat) : Int)), u6, u7] /\ Same H H'' /\ H'' d = some (.dT kvs) /\ H'' l = some (.lst (ads.map V.ref)) /\ Ts H'' ads (ws.map (·.amounts)) /\ Orig H'' kvs ws /\ Bfs caps (tap == 1) x ws (a + 1), ?_, ?_⟩
   ·rintro σ'' H'' ⟨ws, ads, kvs, u6, u7, rfl, q1, q2, q3, q4, q5, q6⟩;have := B.size;exact ⟨_, by omega, ws, a + 1, ads, kvs, u6, u7, rfl, rfl, q1, q2, q3, q4, q5, q6⟩
   walk_at "r";refine rd_ixL (SqL.of l3') (at_of (j := a) rfl (refs_get hca)) ?_;walk_at "r";refine ⟨sA, ca, caps, p.amounts, tap, rfl, s3.seq hs, SqT.of hct, pbox.len, l3, fun H4 fA fds s4 fn f4 t4 => ?_⟩;have fd0 : d ≠ fA := ne_of_none d3 fn;have fl0 : l ≠ fA := ne_of_none l3' fn;walk_at "r";refine ⟨fA, _, rfl, .inl (SqL.of f4), ?_⟩;have n12 : fds.length <= 12 := by rw [t4.1]; exact outs_len12 l3 _ _
   refine ⟨_, rfl, by omega, by rw [List.length_map]; omega, ?_⟩;have en : (((fds.map V.ref).length : Nat) : Int).toNat = (outs caps (tap == 1) p.amounts).length := by rw [Int.toNat_natCast, List.length_map, t4.1]
   rw [en];refine for_range (lo := 0) (n := (outs caps (tap == 1) p.amounts).length) (fun i σ H' => ∃ (ads : List Addr) (kvs : List (List Key × V)) (u7 : Option V), σ = [some (.ref sA), some (.ref cA), some (.int tap), some (.ref d), some (.ref l), some (.int (a : Nat)), some (.ref fA), u7] /\ Same H H' /\ H' d = some (.dT kvs) /\ H' l = some (.lst (ads.map V.ref)) /\ H' fA = some (.lst (fds.map V.ref)) /\ Ts H' fds (outs caps (tap == 1) p.amounts) /\ ads[a]? = some ca /\ Ts H' ads ((grow ws ((steps caps (tap == 1) p).take i)).map (·.amounts)) /\ Orig H' kvs (grow ws ((steps caps (tap == 1) p).take i)) /\ H' ca = some (.tup (nl p.amounts)))
    ⟨ads, kvs, u7, rfl, s3.trans s4, s4 _ _ d3, s4 _ _ l3', f4, t4, hca, t3.imp fun _ _ q => s4 _ _ q, o3.imp fun _ _ q => s4 _ _ q, s4 _ _ hct⟩ ?_ ?_
   ·rintro i σ H5 hi ⟨ads5, kvs5, v7, rfl, s5, d5, l5, f5, t5, ca5, a5, o5, ct5⟩;obtain ⟨y, hy⟩ : ∃ y, (outs caps (tap == 1) p.amounts)[i]? = some y := ⟨_, List.getElem?_eq_getElem hi⟩;have hst := steps_at (w := p) hy;obtain ⟨ya, hya, hyt⟩ := t5.at hy;have eg := grow_take (ws := ws) hst;have wl : (grow ws ((steps caps (tap == 1) p).take i)).length <= Vbtaam.size caps := box_len (grow_nodup _ _ B.nd) fun v hv => by
     rcases grow_mem _ _ hv with hv | hv
     ·exact B.box v hv
     ·exact steps_box pbox v (List.mem_of_mem_take hv)
    have pin := grow_keeps ((steps caps (tap == 1) p).take i) hp;generalize grow ws ((steps caps (tap == 1) p).take i) = wi at *;rw [Int.zero_add];walk_at "r";refine rd_ixL (SqL.of f5) (at_of (j := i) rfl (refs_get hya)) ?_;walk_at "r";refine rd_dinT (xs := []) (.inl d5) hyt ?_;walk_at "r";rw [o5.keys.isSome];refine ite2 (fun c => ?_) (fun c => ?_)
    ·have n : ¬ (wi.map (·.amounts)).contains y = true := fun z => by rw [z] at c; cases c
     have kl := o5.keys.len;have al := a5.1;rw [List.length_map] at kl al;refine rd_seq ?_;refine rd_tup ?_;walk_at "r";refine rd_ixL (SqL.of l5) (at_of (j := a) rfl (refs_get ca5)) ?_;walk_at "r";refine rd_tupE rfl fun o ho => ?_;have s6 : Same H5 (upd H5 o (.tup [.ref ca, .int i])) := Same.new ho;have o6 : (upd H5 o (.tup [.ref ca, .int i])) o = some (.tup [.ref ca, .int i]) := upd_same;generalize upd H5 o (.tup [.ref ca, .int i]) = H6 at *;refine rd_var rfl ?_;walk_at "r";refine rd_ixL (SqL.of (s6 _ _ f5)) (at_of (j := i) rfl (refs_get hya)) ?_;have d6 := s6 _ _ d5;refine rd_dputT d6 (s6 _ _ hyt) (Nat.lt_of_le_of_lt (show kvs5.length <= 2197 by omega) (by decide)) ?_;have B7 : But d H6 (upd H6 d (.dT (putK kvs5 (kk y) (.ref o)))) := But.upd;have d7 : (upd H6 d (.dT (putK kvs5 (kk y) (.ref o)))) d = some (.dT (putK kvs5 (kk y) (.ref o))) := upd_same;have tk : ∀ b xs, H6 b = some (.tup xs) -> (upd H6 d (.dT (putK kvs5 (kk y) (.ref o)))) b = some (.tup xs) := fun b xs h => B7 _ _ h (ne_of h d6 (by intro e; cases e));have l7 := B7 _ _ (s6 _ _ l5) (ne_of (s6 _ _ l5) d6 (by intro e; cases e));have f7 := B7 _ _ (s6 _ _ f5) (ne_of (s6 _ _ f5) d6 (by intro e; cases e));have s7 : Same H (upd H6 d (.dT (putK kvs5 (kk y) (.ref o)))) := fun b o e => B7 _ _ (s6 _ _ (s5 _ _ e)) (ne_of_none e hd);generalize upd H6 d (.dT (putK kvs5 (kk y) (.ref o))) = H7 at *;walk_at "r";refine ⟨.inl ⟨rfl, _, SqL.of l7⟩, ?_⟩;walk_at "r";refine rd_ixL (SqL.of f7) (at_of (j := i) rfl (refs_get hya)) ?_;walk_at "r";refine rd_app l7 (Nat.lt_of_le_of_lt (show (ads5.map V.ref).length <= 2197 by rw [List.length_map]; omega) (by decide)) ?_;have fl : fA ≠ l := fun e => fl0 e.symm;have B8 : But l H7 (upd H7 l (.lst (ads5.map V.ref ++ [.ref ya]))) := But.upd;have tk8 : ∀ b xs, H7 b = some (.tup xs) -> (upd H7 l (.lst (ads5.map V.ref ++ [.ref ya]))) b = some (.tup xs) := fun b xs h => B8 _ _ h (ne_of h l7 (by intro e; cases e));have tk9 : ∀ b xs, H5 b = some (.tup xs) -> (upd H7 l (.lst (ads5.map V.ref ++ [.ref ya]))) b = some (.tup xs) := fun b xs h => tk8 _ _ (tk _ _ (s6 _ _ h));rw [eg];refine ⟨ads5 ++ [ya], putK kvs5 (kk y) (.ref o), some (.int i), rfl, fun b o e => B8 _ _ (s7 _ _ e) (ne_of_none e hl0), B8 _ _ d7 dl, by rw [upd_same, List.map_append]; rfl, B8 _ _ f7 fl, t5.imp fun _ _ q => tk9 _ _ q, ?_, ?_, ?_, tk9 _ _ ct5⟩
     ·rw [List.getElem?_append_left (List.getElem?_eq_some_iff.mp ca5).1];exact ca5
     ·unfold add1;rw [if_neg n, List.map_append];exact (a5.imp fun _ _ q => tk9 _ _ q).append (Ts.one (tk9 _ _ hyt))
     ·exact (o5.imp fun b xs q => tk9 b xs q).snoc (w := ⟨y, i :: p.path⟩) n ⟨o, rfl, .inr ⟨i, p, ca, List.mem_of_getElem? pin, rfl, tk8 _ _ (tk _ _ o6), tk9 _ _ ct5⟩⟩
    ·have n : (wi.map (·.amounts)).contains y = true := by
      cases z : (wi.map (·.amounts)).contains y with
      | true => rfl
      | false => exact absurd (by rw [z]; rfl) c
     walk_at "r";rw [add1_same n] at eg;exact ⟨ads5, kvs5, some (.int i), rfl, s5, d5, l5, f5, t5, ca5, by rw [eg]; exact a5, by rw [eg]; exact o5, ct5⟩
   ·rintro σ H5 ⟨ads5, kvs5, v7, rfl, s5, d5, l5, f5, t5, ca5, a5, o5, ct5⟩;rw [List.take_of_length_le (by rw [steps_len]; exact Nat.le_refl _)] at a5 o5;walk_at "r";refine ⟨_, rfl, ?_⟩;walk_at "r";refine ⟨a, 1, rfl, rfl, ?_⟩;exact ⟨_, ads5, kvs5, some (.ref fA), v7, rfl, s5, d5, l5, a5, o5, bfs_turn B hp⟩
  ·have c : ¬ ((a : Nat) : Int) < ((ads.map V.ref).length : Int) := fun z => c (decide_eq_true z);rw [List.length_map] at c;walk_at "r";have ef := bfs_end B (by omega);refine k _ d kvs s3 hd d3 (by rw [ef]; exact o3) (by rw [ef]; exact B.nd) (by rw [ef]; exact B.box) ?_;have := o3.keys.len;rw [List.length_map] at this;have := B.size;omega
open Vbtaam (Way found steps)
theorem lc_keysT {d : Addr} {o : Obj} {kvs : List (List Key × V)} {g : TG} {tt : TT} {te : TE} {vs : List Nat} {σ : L2.St} {H1 : Hp} {D : Addr} {Qd : Hp -> Prop} (Pv : Nat -> Hp -> Prop) (h0 : Pv 0 (upd H1 D (.lst []))) (hl : ∀ i H, i <= kvs.length -> Pv i H -> H d = some (.frz o (.dT kvs)))
  (hs : ∀ i k v q H, kvs[i]? = some (k, v) -> H q = some (.tup (k.map kV)) -> Pv i H -> g (.ref q) (wipe σ vs) H fun σ2 H2 => wipe σ2 vs = wipe σ vs /\ tt σ2 H2 fun b H3 =>
   if b = true then te σ2 H3 fun y H4 => ∃ acc, H4 D = some (.lst acc) /\ acc.length < sizeLine /\ Pv (i + 1) (upd H4 D (.lst (acc ++ [y]))) else Pv (i + 1) H3) (hd : ∀ H, Pv kvs.length H -> Qd H) :
  ∃ W : Nat -> Nat -> Hp -> Prop, (∃ m, W 0 m (upd H1 D (.lst []))) /\ ∀ i m H, W i m H ->
   ((Itkt d o kvs).stop i H /\ Qd H) ∨ ((Itkt d o kvs).go i H /\ ∃ Nx : Hp -> Prop, (∀ H', Nx H' -> ∃ m', m' < m /\ W (i + 1) m' H') /\ ∀ x H', (Itkt d o kvs).yld i H x H' -> g x (wipe σ vs) H' fun σ2 H2 => wipe σ2 vs = wipe σ vs /\ tt σ2 H2 fun b H3 =>
    if b = true then te σ2 H3 fun y H4 => ∃ acc, H4 D = some (.lst acc) /\ acc.length < sizeLine /\ Nx (upd H4 D (.lst (acc ++ [y]))) else Nx H3) := by
 refine ⟨fun i m H => m = kvs.length - i /\ i <= kvs.length /\ Pv i H, ⟨kvs.length, by simp, Nat.zero_le _, h0⟩, ?_⟩;rintro i m H ⟨rfl, hi, p⟩;have q := hl i H hi p
 by_cases hlt : i < kvs.length
 ·refine .inr ⟨⟨q, hlt⟩, Pv (i + 1), fun H' p' => ⟨kvs.length - (i + 1), by omega, rfl, hlt, p'⟩, fun x H' y => ?_⟩;obtain ⟨rfl, k, v, a, e1, rfl, e2⟩ := y;exact hs i k v a _ e1 e2 p
 ·have e : i = kvs.length := by omega
  subst e;exact .inl ⟨⟨q, Nat.le_refl _⟩, hd H p⟩
theorem lc_snocA {H H' : Hp} {D q : Addr} {ads : List Addr} {xs : List Vbtaam.Amounts} {y : Vbtaam.Amounts} (hD : H D = none) (h1 : H' D = some (.lst (ads.map V.ref))) (h2 : Ts H' ads xs) (s1 : Same H H') (h3 : H' q = some (.tup (nl y))) :
  (upd H' D (.lst (ads.map V.ref ++ [.ref q]))) D = some (.lst ((ads ++ [q]).map V.ref)) /\ Ts (upd H' D (.lst (ads.map V.ref ++ [.ref q]))) (ads ++ [q]) (xs ++ [y]) /\ Same H (upd H' D (.lst (ads.map V.ref ++ [.ref q]))) := by
 have tk : ∀ a x, H' a = some (.tup (nl x)) -> (upd H' D (.lst (ads.map V.ref ++ [.ref q]))) a = some (.tup (nl x)) := fun a x h => by
  rw [upd_ne (ne_of h h1 (by intro e; cases e))];exact h
 refine ⟨by rw [upd_same, List.map_append]; rfl, (h2.imp fun a x h => tk a x h).append (Ts.one (tk _ _ h3)), fun b o e => ?_⟩;rw [upd_ne (ne_of_none e hD)];exact s1 _ _ e
theorem unlock {H H' : Hp} {d : Addr} {o : Obj} {u : HO} (hd : H d = some u) (s : Same (upd H d (.frz o u)) H') : Same H (upd H' d u) := fun b ob e => by
 by_cases hb : b = d
 ·subst hb;rw [upd_same, <- hd];exact e
 ·rw [upd_ne hb];exact s _ _ (by rw [upd_ne hb]; exact e)
def spThose (K : PySem.W.Frag) : Sp := fun us H Q _ => ∃ (d : Addr) (kvs : List (List Key × V)) (xs : List Vbtaam.Amounts) (v n : Nat), us = [.ref d, .int v, .int n] /\ H d = some (.dT kvs) /\ Keys kvs xs /\ (∀ x ∈ xs, v < x.length) /\ xs.length < sizeLine /\
 ∀ (H' : Hp) (l : Addr) (ads : List Addr), Same H H' -> H l = none -> H' l = some (.lst (ads.map V.ref)) -> Ts H' ads (xs.filter fun x => Vbtaam.at_ x v == n) -> Q (.ref l) H'
theorem ok_those_with (F : Fun K "those_with" "those_with" s_those_with f fd) (T : Txt P K mg t) : FnOk P w K mg base CX0 34 f fd p_those_with (spThose K) := by
 refine F.ok sc_those_with (fun vs H Q E h => ?_) (fun cdv A outer s H vs Q E hr h => ?_)
 ·obtain ⟨_, _, _, _, _, rfl, _⟩ := h;rfl
 ·obtain ⟨d, kvs, xs, v, n, rfl, hd, hk, hv, hl, k⟩ := h;have nd := sc_those_with.nd;refine ⟨_, (pss_one (ps_ret (pe_lock (pe_lc rfl nd (pi_keys (pv 0)) (own := [("contents", 3)]) (show BlkOk N_those_with (defScope s_those_with) _ _ from ⟨rfl, by decide +kernel, by decide +kernel, by decide +kernel, by decide +kernel⟩) (fun _ _ _ _ _ => pg_name (i := 3) nd rfl (by walk_at "o")) (fun _ _ _ _ _ => (pts_one (pt_cmpR op_eq (pe_ix (ix_tupK (K := K) rfl) (pv 3) (pv 1) (fun _ _ => rfl)) (pv 2) (nomark _)))) (fun _ _ _ _ _ => (pv 3)))))), ?_⟩;walk_at "r";refine ⟨d, _, hd, True.intro, fun od => ?_⟩;have d1 : (upd H d (.frz od (.dT kvs))) d = some (.frz od (.dT kvs)) := upd_same;walk_at "r";refine ⟨d, od, rfl, .inr ⟨kvs, d1, fun D hD => ?_⟩⟩;have Dd : D ≠ d := fun e => by rw [e, d1] at hD; cases hD
  have hDn : H D = none := by rw [upd_ne Dd] at hD; exact hD
  have S1 := fun H' (z : Same (upd H d (.frz od (.dT kvs))) H') => unlock hd z;generalize upd H d (.frz od (.dT kvs)) = H1 at *;refine lc_keysT (fun i H' => ∃ bds : List Addr, H' D = some (.lst (bds.map V.ref)) /\ Ts H' bds ((xs.take i).filter fun x => Vbtaam.at_ x v == n) /\ Same H1 H') ⟨[], upd_same, Ts.nil, Same.new hD⟩ (fun i H' _ ⟨_, _, _, z⟩ => z _ _ d1) ?_ ?_
  ·rintro i ky vl q H2 e1 e2 ⟨bds, d2, t2, s2⟩;obtain ⟨x, hx, rfl⟩ := hk.at e1;rw [kk_nl] at e2;have et : xs.take (i + 1) = xs.take i ++ [x] := by rw [List.take_add_one, hx]; rfl
   refine rd_gname ⟨rfl, ?_⟩;walk_at "r";refine rd_ixT (SqT.of e2) (at_of (j := v) rfl (nl_at (at_get (hv x (List.mem_of_getElem? hx))))) ?_;walk_at "r";have tl := t2.1;have tl2 : ((xs.take i).filter fun x => Vbtaam.at_ x v == n).length <= i := Nat.le_trans (List.length_filter_le _ _) (by rw [List.length_take]; omega);have il := (List.getElem?_eq_some_iff.mp hx).1;refine ite2 (fun c => ?_) (fun c => ?_)
   ·have c : Vbtaam.at_ x v = n := Int.ofNat.inj (V.int.inj (of_decide_eq_true c));walk_at "r";obtain ⟨r1, r2, r3⟩ := lc_snocA hD d2 t2 s2 e2;refine ⟨_, d2, by rw [List.length_map, tl]; exact Nat.lt_of_le_of_lt tl2 (by omega), bds ++ [q], r1, ?_, r3⟩;rw [et, List.filter_append, List.filter_cons, if_pos (by simpa using c), List.filter_nil];exact r2
   ·refine ⟨bds, d2, ?_, s2⟩;rw [et, List.filter_append, List.filter_cons, if_neg (fun z => c (decide_eq_true (by rw [eq_of_beq z]))), List.filter_nil, List.append_nil];exact t2
  ·rintro H2 ⟨bds, d2, t2, s2⟩;rw [List.take_of_length_le (by rw [hk.len]; exact Nat.le_refl _)] at t2;refine ⟨s2 _ _ d1, ?_⟩;refine k _ D bds (S1 _ s2) hDn (by rw [upd_ne Dd]; exact d2) (t2.imp fun a x h => ?_);rw [upd_ne (ne_of h (s2 _ _ d1) (by intro e; cases e))];exact h
theorem small_pos {b c : Int} (hb : 0 <= b) (hb' : b < 2 ^ 60) (hc : 1 <= c) (hc' : c < 2 ^ 20) : Builtin.Range.small 0 b c = true := by
 unfold Builtin.Range.small;have h2 : 0 <= (b - 0 - 1) / c + 1 /\ (b - 0 - 1) / c + 1 <= b + 1 := by
  by_cases h : 1 <= b
  ·have h1 : 0 <= (b - 0 - 1) / c := Int.ediv_nonneg (by omega) (by omega);have h2 : (b - 0 - 1) / c <= b - 0 - 1 := Int.ediv_le_self _ (by omega);omega
  ·have : b = 0 := by omega
   subst this;have h1 : (0 - 0 - 1 : Int) / c = -1 := by
    have : (0 - 0 - 1 : Int) = -1 := rfl;rw [this];have h3 := Int.emod_add_mul_ediv (-1) c;have h4 := Int.emod_nonneg (-1) (show c ≠ 0 by omega);have h5 := Int.emod_lt_of_pos (-1) (show 0 < c by omega);have h6 : -1 <= (-1 : Int) / c := by
     by_cases h : -1 <= (-1 : Int) / c
     ·exact h
     ·have : c * ((-1 : Int) / c) <= c * (-2) := Int.mul_le_mul_of_nonneg_left (by omega) (by omega);omega
    have h7 : (-1 : Int) / c <= -1 := by
     by_cases h : (-1 : Int) / c <= -1
     ·exact h
     ·have : 0 <= c * ((-1 : Int) / c) := Int.mul_nonneg (by omega) (by omega);omega
    omega
   omega
 have h3 : 0 <= Builtin.Range.rangeSize 0 b c /\ Builtin.Range.rangeSize 0 b c <= b + 1 := by
  unfold Builtin.Range.rangeSize;rw [if_pos (show c > 0 by omega)]
  split <;> omega
 generalize Builtin.Range.rangeSize 0 b c = z at *;rw [if_pos (show c > 0 by omega)];simp only [Builtin.Range.rangeFitsLong, Bool.and_eq_true, Bool.or_eq_true, decide_eq_true_eq, beq_iff_eq];omega
theorem size_pos {m n : Nat} (hn : 0 < n) : Builtin.Range.rangeSize 0 ((m * n : Nat) : Int) (n : Int) = (m : Int) := by
 rw [rangeSize_pos (by omega) (by omega)];have h : ((m * n : Nat) : Int) + (n : Int) - 1 = ((n : Int) - 1) + (m : Int) * (n : Int) := by
  rw [Int.natCast_mul];omega
 rw [h, Int.add_mul_ediv_right _ _ (by omega), Int.ediv_eq_zero_of_lt (by omega) (by omega)];omega
theorem chunk_cut {l : List Nat} {m n i : Nat} (hl : l.length = m * n) (hi : i < m) (hn : 0 < n) : cutV (nl l) (some ((i * n : Nat) : Int)) (some ((i * n + n : Nat) : Int)) = nl (chunk n l i) /\ (chunk n l i).length = n := by
 have h1 : (i + 1) * n <= m * n := Nat.mul_le_mul_right n hi;rw [Nat.succ_mul] at h1;have e1 : min (i * n) (nl l).length = i * n := by rw [nl_len]; omega
 have e2 : min (i * n + n) (nl l).length = i * n + n := by rw [nl_len]; omega
 constructor
 ·unfold cutV chunk;rw [HT.sIx_nat, HT.sIx_nat, e1, e2];have e3 : i * n + n - i * n = n := by omega
  rw [e3];unfold nl;rw [<- List.map_drop, <- List.map_take]
 ·unfold chunk;rw [List.length_take, List.length_drop];omega
def spTold (K : PySem.W.Frag) : Sp := fun us H Q _ => ∃ (r : Addr) (l : List Nat) (m n : Nat), us = [.ref r, .int n] /\ SqL K H r (nl l) /\ 0 < n /\ n <= 3 /\ l.length = m * n /\ l.length < sizeLine /\
 ∀ (H' : Hp) (d : Addr) (kvs : List (List Key × V)) (xs : List Vbtaam.Amounts), Same H H' -> H d = none -> H' d = some (.dT kvs) -> Keys kvs xs -> (∀ x, x ∈ xs ↔ x ∈ (List.range m).map (chunk n l)) -> xs.length <= m -> Q (.ref d) H'
theorem ok_told_contents (F : Fun K "told_contents" "told_contents" s_told_contents f fd) (T : Txt P K mg t) : FnOk P w K mg base CX0 34 f fd p_told_contents (spTold K) := by
 refine F.ok sc_told_contents (fun vs H Q E h => ?_) (fun cdv A outer s H vs Q E hr h => ?_)
 ·obtain ⟨_, _, _, _, rfl, _⟩ := h;rfl
 ·obtain ⟨r, l, m, n, rfl, hr', hn, n3, hl, lz, k⟩ := h;have nd := sc_told_contents.nd;have hu := hu_of hr;have lz' : l.length < 2 ^ 24 := Nat.lt_of_lt_of_le lz (by decide);have ml : m <= l.length := by rw [hl]; exact Nat.le_mul_of_pos_right m hn
  refine ⟨_, (pss_cons (ps_set (i := 2) nd rfl (by walk_at "o") pe_dnewT) (pss_cons (ps_for PassesOwn.never rfl (pi_range3 rfl T.b_range (pa_cons pe_int (pa_cons (pe_callB call_len_seq (by rfl) T.b_len bt_len (pa_cons (pv 0) pa_nil)) (pa_cons (pv 1) pa_nil)))) (pg_name (i := 3) nd rfl (by walk_at "o")) (pss_one (ps_dput hu (pv 2) (pe_callTy call_tuple_of (by rfl) T.b_tuple bt_tuple (pa_cons (pe_slice sl_list (pv 0) (po_some (pv 3)) (po_some (pe_op op_add (pv 3) (pv 1)))) pa_nil)) pe_bl rfl))) (pss_one (ps_ret (pv 2))))), ?_⟩;walk_at "r";intro d hd;have s1 : Same H (upd H d (.dT [])) := Same.new hd;have d1 : (upd H d (.dT [])) d = some (.dT []) := upd_same;refine rd_gname ?_;generalize upd H d (.dT []) = H1 at *;walk_at "r";show tCons _ _ _ _ _;walk_at "r";refine ⟨r, _, rfl, .inl (s1.seq hr'), ?_⟩;walk_at "r";refine ⟨_, _, _, m, rfl, ⟨by omega, by omega, ?_, ?_⟩, ?_⟩
  ·rw [nl_len];exact small_pos (by omega) (by omega) (by omega) (by omega)
  ·rw [nl_len, hl];exact size_pos hn
  refine for_rangeC (lo := 0) (c := (n : Int)) (n := m) (fun i σ H' => ∃ (kvs : List (List Key × V)) (xs : List Vbtaam.Amounts) (u3 : Option V), σ = [some (.ref r), some (.int n), some (.ref d), u3] /\ Same H H' /\ H' d = some (.dT kvs) /\ Keys kvs xs /\ (∀ x, x ∈ xs ↔ x ∈ ((List.range m).take i).map (chunk n l)) /\ xs.length <= i)
   ⟨[], [], none, rfl, s1, d1, rfl, fun x => by simp, Nat.le_refl _⟩ ?_ ?_
  ·rintro i σ H2 hi ⟨kvs, xs, u3, rfl, s2, d2, k2, m2, n2⟩;have hrow := s2.seq hr';obtain ⟨c1, c2⟩ := chunk_cut hl hi hn;have ea : (0 : Int) + (i : Int) * (n : Int) = ((i * n : Nat) : Int) := by rw [Int.natCast_mul]; omega
   have eb : ((i * n : Nat) : Int) + (n : Int) = ((i * n + n : Nat) : Int) := by omega
   rw [ea];refine rd_gname ?_;show tC _ _ _ _;refine rd_c ?_;refine rd_var rfl ?_;walk_at "r";refine rd_var rfl ?_;show tVar _ _ _ _;refine rd_var rfl ⟨_, rfl, ?_⟩;show tOp _ _ _ _ _ _;walk_at "r";refine ⟨_, rfl, r, _, rfl, hrow, fun p hp => ?_⟩;rw [eb, c1];have s3 : Same H2 (upd H2 p (.lst (nl (chunk n l i)))) := Same.new hp;have p3 : (upd H2 p (.lst (nl (chunk n l i)))) p = some (.lst (nl (chunk n l i))) := upd_same;generalize upd H2 p (.lst (nl (chunk n l i))) = H3 at *;walk_at "r";refine ⟨p, _, rfl, .inl ⟨SqL.of p3, fun q hq => ?_⟩⟩;have s4 : Same H3 (upd H3 q (.tup (nl (chunk n l i)))) := Same.new hq;have q4 : (upd H3 q (.tup (nl (chunk n l i)))) q = some (.tup (nl (chunk n l i))) := upd_same;generalize upd H3 q (.tup (nl (chunk n l i))) = H4 at *;have s24 := s3.trans s4;have kl := k2.len;refine rd_dputT (s24 _ _ d2) q4 (by omega) ?_;refine ⟨_, _, some (.int ((i * n : Nat) : Int)), rfl, fun b o e => But.upd _ _ (s24 _ _ (s2 _ _ e)) (ne_of_none e hd), upd_same, k2.put (chunk n l i) (.bl true), fun x => ?_, ?_⟩
   ·rw [range_take hi, List.map_append, List.mem_append, <- m2 x]
    split
    ·rename_i hc;have hc := List.contains_iff_mem.mp hc;constructor
     ·exact .inl
     ·rintro (h | h)
      ·exact h
      ·rw [List.map_cons, List.map_nil, List.mem_singleton] at h;rw [h];exact hc
    ·rw [List.mem_append];exact Iff.rfl
   ·split
    ·omega
    ·rw [List.length_append];simp only [List.length_cons, List.length_nil];omega
  ·rintro σ H2 ⟨kvs, xs, u3, rfl, s2, d2, k2, m2, n2⟩;rw [List.take_of_length_le (by rw [List.length_range]; exact Nat.le_refl _)] at m2;walk_at "r";exact k _ d kvs xs s2 hd d2 k2 m2 n2
theorem Rd.same {H H' : Hp} {a : Addr} {u : HO} (s : Same H H') (h : Rd H a u) : Rd H' a u := by
 rcases h with h | ⟨o, h⟩
 ·exact .inl (s _ _ h)
 ·exact .inr ⟨o, s _ _ h⟩
theorem sq_lock {H : Hp} {a d : Addr} {xs : List V} {kvs : List (List Key × V)} {o : HO} (h : SqL K H a xs) (hd : H d = some (.dT kvs)) : SqL K (upd H d o) a xs := by
 rcases h with (h | ⟨o, h⟩) | h
 ·exact .inl (.inl (by rw [upd_ne (ne_of h hd (by intro e; cases e))]; exact h))
 ·exact .inl (.inr ⟨o, by rw [upd_ne (ne_of h hd (by intro e; cases e))]; exact h⟩)
 ·exact .inr h
def spStays (K : PySem.W.Frag) : Sp := fun us H Q _ => ∃ (sA cA d : Addr) (caps : List Nat) (x : Vbtaam.Amounts) (tap : Int) (kvs : List (List Key × V)) (xs : List Vbtaam.Amounts), us = [.ref sA, .ref cA, .int tap, .ref d] /\ SqL K H sA (nl caps) /\ SqT K H cA (nl x) /\ x.length = caps.length /\ caps.length <= 3 /\ Rd H d (.dT kvs) /\ Keys kvs xs /\
 ∀ H' : Hp, Same H H' -> Q (.bl ((outs caps (tap == 1) x).all fun y => xs.contains y)) H'
theorem ok_stays_within (F : Fun K "stays_within" "stays_within" s_stays_within f fd) (T : Txt P K mg t) (D_outcomes : Def P w K mg base 35 "outcomes" p_outcomes (spOut K)) : FnOk P w K mg base CX0 36 f fd p_stays_within (spStays K) := by
 refine F.ok sc_stays_within (fun vs H Q E h => ?_) (fun cdv A outer s H vs Q E hr h => ?_)
 ·obtain ⟨_, _, _, _, _, _, _, _, rfl, _⟩ := h;rfl
 ·obtain ⟨sA, cA, d, caps, x, tap, kvs, xs, rfl, hs, hc, hl, l3, hd, hk, k⟩ := h;have nd := sc_stays_within.nd;have hu := hu_of hr;refine ⟨_, (pss_one (ps_ret (pe_callB (cr_all rfl) (by rfl) T.b_all bt_all (pa_cons (pe_lc rfl nd (pi_list (pe_def D_outcomes (hr.mono (by decide)) rfl (pa_cons (pv 0) (pa_cons (pv 1) (pa_cons (pv 2) pa_nil))))) (own := [("after", 4)]) (show BlkOk N_stays_within (defScope s_stays_within) _ _ from ⟨rfl, by decide +kernel, by decide +kernel, by decide +kernel, by decide +kernel⟩) (fun _ _ _ _ _ => pg_name (i := 4) nd rfl (by walk_at "o")) (fun _ _ _ _ _ => pts_nil) (fun _ _ _ _ _ => (pe_cmp (pc_din hu (pv 4) (pv 3)) (by with_unfolding_all rfl)))) pa_nil)))), ?_⟩
  walk_at "r";refine ⟨sA, cA, caps, x, tap, rfl, hs, hc, hl, l3, fun H1 fA fds s1 fn f1 t1 => ?_⟩;refine ⟨fA, rfl, ⟨_, SqL.of f1⟩, fun D hD => ?_⟩;have n12 : fds.length <= 12 := by rw [t1.1]; exact outs_len12 l3 _ _
  refine lc_list (K := K) (a := fA) (xs := fds.map V.ref) (fun i H' => H' D = some (.lst ((((outs caps (tap == 1) x).take i).map fun y => xs.contains y).map V.bl)) /\ Same H1 H') ⟨upd_same, Same.new hD⟩ (fun i H' _ ⟨_, z⟩ => z.seq (SqL.of f1)) ?_ ?_
  ·rintro i z H2 hi ⟨d2, s2⟩;obtain ⟨a, ha, rfl⟩ := refs_at hi;obtain ⟨y, hy⟩ : ∃ y, (outs caps (tap == 1) x)[i]? = some y := ⟨_, List.getElem?_eq_getElem (by rw [<- t1.1]; exact (List.getElem?_eq_some_iff.mp ha).1)⟩;have hay := t1.2 i a y ha hy;have il := (List.getElem?_eq_some_iff.mp ha).1;refine rd_gname ⟨rfl, ?_⟩;walk_at "r";refine iteT ?_;walk_at "r";refine rd_dinT (xs := []) (Rd.same (s1.trans s2) hd) (s2 _ _ hay) ?_;rw [hk.isSome];refine ⟨_, d2, ?_, ?_, fun b o e => But.upd _ _ (s2 _ _ e) (ne_of_none e hD)⟩
   ·rw [List.length_map, List.length_map, List.length_take];exact small3 (by omega)
   ·rw [upd_same, List.take_add_one, hy, Option.toList_some, List.map_append, List.map_append];rfl
  ·rintro H2 ⟨d2, s2⟩;rw [List.take_of_length_le (by rw [List.length_map, t1.1]; exact Nat.le_refl _)] at d2;walk_at "r";refine ⟨D, _, rfl, SqL.of d2, ?_⟩;rw [List.all_map];exact k _ (s1.trans s2)
def spProves (K : PySem.W.Frag) : Sp := fun us H Q _ => ∃ (sA cA r : Addr) (caps : List Nat) (x : Vbtaam.Amounts) (tap : Int) (v n m : Nat) (l : List Nat), us = [.ref sA, .ref cA, .int tap, .int v, .int n, .ref r] /\ SqL K H sA (nl caps) /\ H cA = some (.tup (nl x)) /\ x.length = caps.length /\ caps.length <= 3 /\ v < caps.length /\ SqL K H r (nl l) /\ l.length = m * caps.length /\ l.length < sizeLine /\
 ∀ H' : Hp, Same H H' -> Q (.bl (Vbtaam.proves caps (tap == 1) x v n ((List.range m).map (chunk caps.length l)))) H'
theorem ok_proves (F : Fun K "proves" "proves" s_proves f fd) (T : Txt P K mg t) (D_told_contents : Def P w K mg base 34 "told_contents" p_told_contents (spTold K)) (D_those_with : Def P w K mg base 34 "those_with" p_those_with (spThose K)) (D_stays_within : Def P w K mg base 36 "stays_within" p_stays_within (spStays K)) : FnOk P w K mg base CX0 37 f fd p_proves (spProves K) := by
 refine F.ok sc_proves (fun vs H Q E h => ?_) (fun cdv A outer s H vs Q E hr h => ?_)
 ·obtain ⟨_, _, _, _, _, _, _, _, _, _, rfl, _⟩ := h;rfl
 ·obtain ⟨sA, cA, r, caps, x, tap, v, n, m, l, rfl, hs, hc, hx, l3, hv, hr', hl, lz, k⟩ := h;have nd := sc_proves.nd;have hu := hu_of hr;have n0 : 0 < caps.length := by omega
  have ml : m <= l.length := by rw [hl]; exact Nat.le_mul_of_pos_right m n0
  refine ⟨_, (pss_cons (ps_set (i := 6) nd rfl (by walk_at "o") (pe_def D_told_contents (hr.mono (by decide)) rfl (pa_cons (pv 5) (pa_cons (pe_callB call_len_seq (by rfl) T.b_len bt_len (pa_cons (pv 0) pa_nil)) pa_nil)))) (pss_cons (ps_if (PW.pt (pw_or (pt_cmp (pc_dnotin hu (pv 1) (pv 6)) (by with_unfolding_all rfl)) (pw_or1 (pt_cmpR op_gt (pe_callB call_len_seq (by rfl) T.b_len bt_len (pa_cons (pe_def D_those_with (hr.mono (by decide)) rfl (pa_cons (pv 6) (pa_cons (pv 3) (pa_cons (pv 4) pa_nil)))) pa_nil)) pe_int (nomark _))))) (pss_one (ps_ret pe_bl)) pss_nil) (pss_one (ps_ret (pe_callB (cr_all rfl) (by rfl) T.b_all bt_all (pa_cons (pe_lock (pe_lc rfl nd (pi_keys (pv 6)) (own := [("contents", 7)]) (show BlkOk N_proves (defScope s_proves) _ _ from ⟨rfl, by decide +kernel, by decide +kernel, by decide +kernel, by decide +kernel⟩) (fun _ _ _ _ _ => pg_name (i := 7) nd rfl (by walk_at "o")) (fun _ _ _ _ _ => pts_nil) (fun _ _ _ _ _ => (pe_def D_stays_within (hr.mono (by decide)) rfl (pa_cons (pv 0) (pa_cons (pv 7) (pa_cons (pv 2) (pa_cons (pv 6) pa_nil)))))))) pa_nil)))))), ?_⟩
  walk_at "r";refine ⟨sA, _, rfl, .inl hs, ?_⟩;walk_at "r";rw [nl_len];refine ⟨r, l, m, caps.length, rfl, hr', n0, l3, hl, lz, fun H1 d kvs xs s1 dn d1 k1 m1 n1 => ?_⟩;have xl : ∀ y ∈ xs, y.length = caps.length := fun y hy => by
   obtain ⟨i, hi, rfl⟩ := List.mem_map.mp ((m1 y).mp hy);exact (chunk_cut hl (List.mem_range.mp hi) n0).2
  have c1 := s1 _ _ hc;rw [proves_eq m1] at k;walk_at "r";refine rd_dinT (xs := []) (.inl d1) c1 ?_;rw [k1.isSome];walk_at "r";refine ite2 (fun c => ?_) (fun c => ?_)
  ·have c : xs.contains x = false := by
    cases z : xs.contains x with
    | false => rfl
    | true => rw [z] at c; cases c
   rw [c] at k;refine iteT ?_;walk_at "r";exact k _ s1
  have c : xs.contains x = true := by
   cases z : xs.contains x with
   | true => rfl
   | false => exact absurd (by rw [z]; rfl) c
  rw [c, Bool.true_and] at k;walk_at "r";refine ⟨d, kvs, xs, v, n, rfl, d1, k1, fun y hy => by rw [xl y hy]; exact hv, by omega, fun H2 t ads s2 tn t2 ts2 => ?_⟩;walk_at "r";refine ⟨t, _, rfl, .inl (SqL.of t2), ?_⟩;walk_at "r";rw [List.length_map, ts2.1];generalize (xs.filter fun x => Vbtaam.at_ x v == n).length = cnt at *;refine ite2 (fun c => ?_) (fun c => ?_)
  ·have c : (cnt : Int) > 0 := of_decide_eq_true c;have e : decide (0 < cnt) = true := decide_eq_true (by omega);rw [e] at k;walk_at "r";exact k _ (s1.trans s2)
  ·have c : ¬ (cnt : Int) > 0 := fun z => c (decide_eq_true z);have e : decide (0 < cnt) = false := decide_eq_false (by omega);rw [e] at k;have s12 := s1.trans s2;have d2 := s2 _ _ d1;walk_at "r";refine ⟨d, _, d2, True.intro, fun od => ?_⟩;have d3 : (upd H2 d (.frz od (.dT kvs))) d = some (.frz od (.dT kvs)) := upd_same;have hs3 : SqL K (upd H2 d (.frz od (.dT kvs))) sA (nl caps) := sq_lock (s12.seq hs) d2;walk_at "r";refine ⟨d, od, rfl, .inr ⟨kvs, d3, fun D hD => ?_⟩⟩;have Dd : D ≠ d := fun e => by rw [e, d3] at hD; cases hD
   have S1 := fun H' (z : Same (upd H2 d (.frz od (.dT kvs))) H') => unlock d2 z;generalize upd H2 d (.frz od (.dT kvs)) = H3 at *;refine lc_keysT (fun i H' => H' D = some (.lst (((xs.take i).map fun x => (outs caps (tap == 1) x).all fun y => xs.contains y).map V.bl)) /\ Same H3 H') ⟨upd_same, Same.new hD⟩ (fun i H' _ ⟨_, z⟩ => z _ _ d3) ?_ ?_
   ·rintro i ky vl q H4 e1 e2 ⟨d4, s4⟩;obtain ⟨y, hy, rfl⟩ := k1.at e1;rw [kk_nl] at e2;have il := (List.getElem?_eq_some_iff.mp hy).1;refine rd_gname ⟨rfl, ?_⟩;walk_at "r";refine iteT ?_;walk_at "r";refine ⟨sA, q, d, caps, y, tap, kvs, xs, rfl, s4.seq hs3, SqT.of e2, xl y (List.mem_of_getElem? hy), l3, .inr ⟨od, s4 _ _ d3⟩, k1, fun H5 s5 => ?_⟩;refine ⟨_, s5 _ _ d4, ?_, ?_, fun b o e => But.upd _ _ (s5 _ _ (s4 _ _ e)) (ne_of_none e hD)⟩
    ·rw [List.length_map, List.length_map, List.length_take];omega
    ·rw [upd_same, List.take_add_one, hy, Option.toList_some, List.map_append, List.map_append];rfl
   ·rintro H4 ⟨d4, s4⟩;rw [List.take_of_length_le (by rw [k1.len]; exact Nat.le_refl _)] at d4;refine ⟨s4 _ _ d3, ?_⟩;walk_at "r";refine ⟨D, _, rfl, SqL.of (by rw [upd_ne Dd]; exact d4), ?_⟩;rw [List.all_map];exact k _ (s12.trans (S1 _ s4))
end
end Vr
namespace Vr
open PySem PySem.Spec PyProof.Rows L2
open Vbtaam (Way found steps)
theorem steps_path {caps : List Nat} {tap : Bool} {w v : Way} (h : v ∈ steps caps tap w) : v.path.length = w.path.length + 1 := by
 unfold steps at h;obtain ⟨p, _, rfl⟩ := List.mem_map.mp h;rfl
theorem layers_path {caps : List Nat} {tap : Bool} : ∀ (n : Nat) (seen : List Vbtaam.Amounts) (l : List Way) (k : Nat), (∀ w ∈ l, w.path.length <= k) -> ∀ w ∈ Vbtaam.layers caps tap n seen l, w.path.length <= k + n
 | 0, _, l, k, h, w, hw => by
  unfold Vbtaam.layers at hw;exact h w hw
 | n + 1, seen, l, k, h, w, hw => by
  unfold Vbtaam.layers at hw
  split at hw
  ·simp at hw
  ·rcases List.mem_append.mp hw with hw | hw
   ·have := h w hw;omega
   ·have := layers_path n _ _ (k + 1) (fun v hv => by
     obtain ⟨u, hu, hv⟩ := List.mem_flatMap.mp (fresh_sub _ _ v hv);rw [steps_path hv];have := h u hu
     omega) w hw
    omega
theorem found_path {caps : List Nat} {tap : Bool} {x : Vbtaam.Amounts} {w : Way} (h : w ∈ found caps tap x) : w.path.length <= Vbtaam.size caps := by
 have := layers_path (Vbtaam.size caps) [x] [{ amounts := x, path := [] }] 0 (by simp) w h;omega
section
variable {P : Program} {w : World} {K : PySem.W.Frag} {mg : Str -> Option Value} {base : Heap} {t : Ad} {f : Addr} {fd : FuncData}
theorem Orig.get {H : Hp} {kvs : List (List Key × V)} {ws : List Way} (h : Orig H kvs ws) (nd : (ws.map (·.amounts)).Nodup) {w : Way} (hw : w ∈ ws) : ∃ v, valV kvs (kk w.amounts) = some v /\ Or1 H ws v w := by
 obtain ⟨j, hj⟩ := List.mem_iff_getElem?.mp hw;have hl := h.keys.len;rw [List.length_map] at hl;have hjl := (List.getElem?_eq_some_iff.mp hj).1;have hjk : j < kvs.length := by omega
 obtain ⟨k, v, hv⟩ : ∃ k v, kvs[j]? = some (k, v) := ⟨kvs[j].1, kvs[j].2, List.getElem?_eq_getElem hjk⟩;obtain ⟨x, hx, ek⟩ := h.keys.at hv;rw [List.getElem?_map, hj] at hx;cases hx;refine ⟨v, valV_at ?_ (by rw [<- ek]; exact hv), h.vals j w k v hj hv⟩;rw [h.keys];exact List.Pairwise.map _ (fun a b hab e => hab (kk_inj e)) nd
def spWay (K : PySem.W.Frag) : Sp := fun us H Q _ => ∃ (d c : Addr) (kvs : List (List Key × V)) (ws : List Way) (x : Way), us = [.ref d, .ref c] /\ H d = some (.dT kvs) /\ Orig H kvs ws /\ (ws.map (·.amounts)).Nodup /\ x ∈ ws /\ x.path.length <= 2197 /\ H c = some (.tup (nl x.amounts)) /\ OutN H Q x.path.reverse
theorem ok_way_to (F : Fun K "way_to" "way_to" s_way_to f fd) (T : Txt P K mg t) : FnOk P w K mg base CX0 34 f fd p_way_to (spWay K) := by
 refine F.ok sc_way_to (fun vs H Q E h => ?_) (fun cdv A outer s H vs Q E hr h => ?_)
 ·obtain ⟨_, _, _, _, _, rfl, _⟩ := h;rfl
 ·obtain ⟨d, c, kvs, ws, x, rfl, hd, ho, hn, hx, px, hc, k⟩ := h;have nd := sc_way_to.nd;have hu := hu_of hr;refine ⟨_, (pss_cons (ps_set (i := 2) nd rfl (by walk_at "o") (pe_lst pa_nil)) (pss_cons (ps_set (i := 3) nd rfl (by walk_at "o") (pe_dget hu (pv 0) (pv 1) (fun _ _ => rfl))) (pss_cons (ps_while PassesOwn.never (pt_cmpR op_gt (pe_callB call_len_seq (by rfl) T.b_len bt_len (pa_cons (pv 3) pa_nil)) pe_int (nomark _)) (pss_cons (ps_expr (pe_bm PySem.F.plainAttrs_list PySem.F.slot_list_append PySem.F.type_list_append mt_append (pv 2) (pa_cons (pe_ix ix_tup (pv 3) pe_int (fun _ _ => rfl)) pa_nil))) (pss_one (ps_set (i := 3) nd rfl (by walk_at "o") (pe_dget hu (pv 0) (pe_ix ix_tup (pv 3) pe_int (fun _ _ => rfl)) (fun _ _ => rfl)))))) (pss_one (ps_ret (pe_lrev rfl (by rfl) T.b_list bt_list (by rfl) T.b_reversed bt_reversed (pv 2))))))), ?_⟩;walk_at "r";refine rd_lstE rfl fun l hl => ?_;have s1 : Same H (upd H l (.lst [])) := Same.new hl;have l1 : (upd H l (.lst [])) l = some (.lst (nl [])) := upd_same;generalize upd H l (.lst []) = H1 at *;walk_at "r";obtain ⟨v, hv, o1⟩ := ho.get hn hx;refine ⟨d, v, rfl, by rw [<- hv]; exact .inr ⟨kvs, kk x.amounts, c, .inl (s1 _ _ hd), rfl, by rw [kk_nl]; exact s1 _ _ hc, rfl⟩, ?_⟩;walk_at "r";refine ⟨fun m σ H' => ∃ (ds : List Nat) (u : Way) (v : V), σ = [some (.ref d), some (.ref c), some (.ref l), some v] /\ Same H H' /\ H' l = some (.lst (nl ds)) /\ x.path = ds ++ u.path /\ Or1 H ws v u /\ m = u.path.length, ⟨_, [], x, v, rfl, s1, l1, rfl, o1, rfl⟩, ?_⟩;rintro m σ H2 ⟨ds, u, v, rfl, s2, l2, ep, ⟨b, rfl, o2⟩, rfl⟩;have dl : ds.length <= 2197 := by
   have := congrArg List.length ep;rw [List.length_append] at this;omega
  walk_at "r";rcases o2 with ⟨e1, e2⟩ | ⟨n, p, a, hp, e1, e2, e3⟩
  ·refine ⟨b, _, rfl, .inr (SqT.of (s2 _ _ e2)), ?_⟩;walk_at "r";refine ite2 (fun c => ?_) (fun c => ?_)
   ·exact absurd (of_decide_eq_true c) (by decide)
   rw [e1, List.append_nil] at ep;walk_at "r";refine rd_lrev ?_;walk_at "r";refine ⟨l, _, rfl, l2, fun q hq => ?_⟩;refine k _ q (s2.trans (Same.new hq)) (s2.free hq) ?_;rw [upd_same, ep];unfold nl;rw [List.map_reverse]
  ·refine ⟨b, _, rfl, .inr (SqT.of (s2 _ _ e2)), ?_⟩;walk_at "r";refine ite2 (fun _ => ?_) (fun cc => ?_)
   ·obtain ⟨v, hv, o3⟩ := ho.get hn hp;refine ⟨fun σ' H' => σ' = [some (.ref d), some (.ref c), some (.ref l), some v] /\ Same H H' /\ H' l = some (.lst (nl (ds ++ [n]))), ?_, ?_⟩
    ·rintro σ' H' ⟨rfl, z1, z2⟩;exact ⟨_, by rw [e1]; exact Nat.lt_succ_self _, ds ++ [n], p, v, rfl, z1, z2, by rw [ep, e1, List.append_assoc]; rfl, o3, rfl⟩
    walk_at "r";refine ⟨.inl ⟨rfl, _, SqL.of l2⟩, ?_⟩;walk_at "r";refine rd_ixT (SqT.of (s2 _ _ e2)) rfl ?_;walk_at "r";refine rd_app l2 (Nat.lt_of_le_of_lt (show (nl ds).length <= 2197 by rw [nl_len]; exact dl) (by decide)) ?_;have s3 : Same H (upd H2 l (.lst (nl ds ++ [.int n]))) := fun b o e => But.upd _ _ (s2 _ _ e) (ne_of_none e hl);have l3 : (upd H2 l (.lst (nl ds ++ [.int n]))) l = some (.lst (nl (ds ++ [n]))) := by rw [upd_same]; unfold nl; rw [List.map_append]; rfl
    generalize upd H2 l (.lst (nl ds ++ [.int n])) = H3 at *;walk_at "r";refine rd_ixT (SqT.of (s3 _ _ e2)) rfl ?_;refine ⟨d, v, rfl, by rw [<- hv]; exact .inr ⟨kvs, kk p.amounts, a, .inl (s3 _ _ hd), rfl, by rw [kk_nl]; exact s3 _ _ e3, rfl⟩, ?_⟩;walk_at "r";exact ⟨rfl, s3, l3⟩
   ·exact absurd (decide_eq_true (show (0 : Int) < 2 by decide)) cc
end
end Vr
namespace Vr
open PySem PySem.Spec PyProof.Rows L2
open Vbtaam (Way found steps)
theorem Rel.conts {k : Nat} {S : Vbtaam.State} {vs : List Mx} {g : Mx} (R : Rel k S vs g) : S.vessels.map Vbtaam.content = vs.map (·.c) := by
 obtain ⟨l1, _⟩ := R.lens;refine List.ext_getElem? fun i => ?_;rw [List.getElem?_map, List.getElem?_map];cases e : vs[i]? with
 | none =>
  rw [List.getElem?_eq_none (by have := List.getElem?_eq_none_iff.mp e; omega)];rfl
 | some m =>
  obtain ⟨v, hv, r, _⟩ := R.at_ e;rw [hv];show some (Vbtaam.content v) = some m.c;rw [r.ec]
theorem Rel.amounts {k : Nat} {S : Vbtaam.State} {vs : List Mx} {g : Mx} (R : Rel k S vs g) : Vbtaam.amounts S = if (whole1 vs).all id = true then some (vs.map fun m => m.c.num) else none := by
 have e1 : S.vessels.all (fun v => (Vbtaam.content v).den == 1) = (whole1 vs).all id := by
  have : S.vessels.all (fun v => (Vbtaam.content v).den == 1) = (S.vessels.map Vbtaam.content).all fun c => c.den == 1 := by rw [List.all_map]; rfl
  rw [this, R.conts];unfold whole1;rw [List.all_map, List.all_map];congr 1
 have e2 : (S.vessels.map fun v => (Vbtaam.content v).num) = vs.map fun m => m.c.num := by
  have : (S.vessels.map fun v => (Vbtaam.content v).num) = (S.vessels.map Vbtaam.content).map fun c => c.num := by rw [List.map_map]; rfl
  rw [this, R.conts, List.map_map];rfl
 unfold Vbtaam.amounts;rw [e1, e2]
theorem inbox_of : ∀ (cs as : List Nat), as.length = cs.length -> (∀ (i c a : Nat), cs[i]? = some c -> as[i]? = some a -> a <= c) -> InBox cs as
 | [], [], _, _ => True.intro
 | [], _ :: _, h, _ => by simp at h
 | _ :: _, [], h, _ => by simp at h
 | c :: cs, a :: as, h, k => ⟨k 0 c a rfl rfl, inbox_of cs as (by simpa using h) fun i => k (i + 1)⟩
theorem Rel.box {k : Nat} {S : Vbtaam.State} {vs : List Mx} {g : Mx} (R : Rel k S vs g) (h : (whole1 vs).all id = true) : InBox (Vbtaam.caps S) (vs.map fun m => m.c.num) := by
 obtain ⟨l1, _⟩ := R.lens;refine inbox_of _ _ (by unfold Vbtaam.caps; rw [List.length_map, List.length_map]; exact l1) fun i c a h1 h2 => ?_;unfold Vbtaam.caps at h1;rw [List.getElem?_map] at h1 h2;cases e : vs[i]? with
 | none => rw [e] at h2; cases h2
 | some m =>
  obtain ⟨v, hv, r, _⟩ := R.at_ e;rw [hv] at h1;rw [e] at h2;cases h1;cases h2;have hd : m.c.den = 1 := by
   have := List.all_eq_true.mp h (decide (m.c.den = 1)) (by unfold whole1; exact List.mem_map.mpr ⟨m, List.mem_of_getElem? e, rfl⟩);exact of_decide_eq_true this
  have hq := r.le;unfold q at hq;rw [hd] at hq;have e1 : (m.c.num : Rat) / ((1 : Nat) : Rat) = (m.c.num : Rat) := by
   have : ((1 : Nat) : Rat) = 1 := rfl;rw [this];grind
  rw [e1] at hq;exact_mod_cast hq
theorem Rel.c12 {k : Nat} {S : Vbtaam.State} {vs : List Mx} {g : Mx} (R : Rel k S vs g) : ∀ c ∈ Vbtaam.caps S, c <= 12 := fun c hc => by
 obtain ⟨v, hv, rfl⟩ := List.mem_map.mp hc;obtain ⟨i, hi⟩ := List.mem_iff_getElem?.mp hv;obtain ⟨l1, _⟩ := R.lens;obtain ⟨v', hv', _, h⟩ := R.at_ (i := i) (m := vs[i]'(by rw [l1]; exact (List.getElem?_eq_some_iff.mp hi).1)) (List.getElem?_eq_getElem _);cases hi.symm.trans hv';exact h
theorem caps_len (S : Vbtaam.State) : (Vbtaam.caps S).length = S.vessels.length := List.length_map _
def qb (len : Nat) (tap v n : Int) : Bool := decide (0 <= tap /\ tap <= 1) && (decide (0 <= v /\ v <= (len : Int) - 1) && decide (0 <= n /\ n <= 12))
theorem qb_iff {S : Vbtaam.State} {tap v n : Int} : (Vbtaam.from_ tap 0 1 = false ∨ Vbtaam.isVessel S v = false ∨ Vbtaam.from_ n 0 Vbtaam.CAP = false) ↔ qb S.vessels.length tap v n = false := by
 rw [isV_eq, fromD, fromD];unfold qb;rw [Bool.and_eq_false_iff, Bool.and_eq_false_iff];exact Iff.rfl
section
variable {P : Program} {w : World} {K : PySem.W.Frag} {mg : Str -> Option Value} {base : Heap} {t : Ad} {f : Addr} {fd : FuncData}
def spTap : Sp := fun us H Q _ => ∃ n : Int, us = [.int n] /\ Q (.bl (decide (0 <= n /\ n <= 1))) H
theorem ok_is_tap (F : Fun K "is_tap" "is_tap" s_is_tap f fd) (T : Txt P K mg t) (D_is_within : Def P w K mg base 34 "is_within" p_is_within spWithin) : FnOk P w K mg base CX0 35 f fd p_is_tap spTap := by
 refine F.ok sc_is_tap (fun vs H Q E h => ?_) (fun cdv A outer s H vs Q E hr h => ?_)
 ·obtain ⟨_, rfl, _⟩ := h;rfl
 ·obtain ⟨n, rfl, k⟩ := h;refine ⟨_, (pss_one (ps_ret (pe_def D_is_within (hr.mono (by decide)) rfl (pa_cons (pv 0) (pa_cons pe_int (pa_cons pe_int pa_nil)))))), ?_⟩;walk_at "r";exact ⟨n, 0, 1, rfl, k⟩
def spQue (K : PySem.W.Frag) (t : Ad) : Sp := fun us H Q _ => ∃ (ln ta : Addr) (caps : List Nat) (vs : List Mx) (pu : List Vbtaam.Frac) (g : Mx) (tap v n : Int) (r : List Int), us = [.ref ln, .ref ta] /\ H ta = some (.lst ((tap :: v :: n :: r).map V.int)) /\ LAt K t H ln caps vs pu g /\ Q (.bl (qb vs.length tap v n)) H
theorem ok_is_question (F : Fun K "is_question" "is_question" s_is_question f fd) (T : Txt P K mg t) (D_is_within : Def P w K mg base 34 "is_within" p_is_within spWithin) (D_is_tap : Def P w K mg base 35 "is_tap" p_is_tap spTap) (M_Line_has_vessel : MDef P w K mg base 35 t.CL "has_vessel" p_Line_has_vessel (spHas K t)) : FnOk P w K mg base CX0 36 f fd p_is_question (spQue K t) := by
 refine F.ok sc_is_question (fun vs H Q E h => ?_) (fun cdv A outer s H vs Q E hr h => ?_)
 ·obtain ⟨_, _, _, _, _, _, _, _, _, _, rfl, _⟩ := h;rfl
 ·obtain ⟨ln, ta, caps, vs, pu, g, tap, v, n, r, rfl, hta, hL, k⟩ := h;obtain ⟨dx, l, fl, ga, as, pf, L⟩ := id hL;unfold qb at k;refine ⟨_, (pss_one (ps_ret (pe_and (pe_def D_is_tap (hr.mono (by decide)) rfl (pa_cons (pe_ix ix_list (pv 1) pe_int (fun _ _ => rfl)) pa_nil)) (pe_and (pe_mdef M_Line_has_vessel (hr.mono (by decide)) (pv 0) (pa_cons (pe_ix ix_list (pv 1) pe_int (fun _ _ => rfl)) pa_nil)) (pe_one (pe_def D_is_within (hr.mono (by decide)) rfl (pa_cons (pe_ix ix_list (pv 1) pe_int (fun _ _ => rfl)) (pa_cons pe_int (pa_cons (pe_cI T.c_LARGEST_SIZE rfl) pa_nil))))))))), ?_⟩;walk_at "r";refine rd_ixL (SqL.of hta) (at_of (j := 0) rfl rfl) ?_;walk_at "r";refine ⟨tap, rfl, ?_⟩;walk_at "r";refine ite2 (fun c => ?_) (fun c => ?_)
  ·rw [c, Bool.true_and] at k;walk_at "r";refine rd_methE L.at_ (by with_unfolding_all rfl) ?_
   walk_at "r";refine rd_ixL (SqL.of hta) (at_of (j := 1) rfl rfl) ?_;walk_at "r";refine ⟨ln, caps, vs, pu, g, v, rfl, hL, ?_⟩;walk_at "r";refine ite2 (fun c => ?_) (fun c => ?_)
   ·rw [c, Bool.true_and] at k;walk_at "r";refine rd_ixL (SqL.of hta) (at_of (j := 2) rfl rfl) ?_;walk_at "r";exact ⟨n, 0, 12, rfl, k⟩
   ·rw [Bool.eq_false_iff.mpr c, Bool.false_and] at k;exact k
  ·rw [Bool.eq_false_iff.mpr c, Bool.false_and] at k;exact k
end
end Vr
namespace Vr
open PySem PySem.Spec PyProof.Rows L2
open Vbtaam (Way found steps)
theorem step_way {k : Nat} {S : Vbtaam.State} {vs : List Mx} {g : Mx} (R : Rel k S vs g) (tap v n : Int) : Vbtaam.step S (.way tap v n) = if qb vs.length tap v n = false then Vbtaam.no S 1 else if (whole1 vs).all id = true then (match ((found (Vbtaam.caps S) (tap == 1) (vs.map fun m => m.c.num)).find? fun x => Vbtaam.at_ x.amounts v.toNat == n.toNat) with | none => Vbtaam.yes S [0] | some x => Vbtaam.yes S (1 :: x.path.reverse)) else Vbtaam.no S 6 := by
 show (if (Vbtaam.from_ tap 0 1 = false ∨ Vbtaam.isVessel S v = false ∨ Vbtaam.from_ n 0 Vbtaam.CAP = false) then Vbtaam.no S 1 else (match Vbtaam.amounts S with | none => Vbtaam.no S 6 | some w => (match Vbtaam.wayTo (Vbtaam.caps S) (tap == 1) w v.toNat n.toNat with | none => Vbtaam.yes S [0] | some p => Vbtaam.yes S (1 :: p)))) = _
 rw [R.amounts, R.lens.1]
 by_cases c : qb S.vessels.length tap v n = false
 ·rw [if_pos (qb_iff.mpr c), if_pos c]
 ·rw [if_neg (fun z => c (qb_iff.mp z)), if_neg c]
  by_cases h : (whole1 vs).all id = true
  ·rw [if_pos h, if_pos h];unfold Vbtaam.wayTo;dsimp only;cases (found (Vbtaam.caps S) (tap == 1) (vs.map fun m => m.c.num)).find? fun x => Vbtaam.at_ x.amounts v.toNat == n.toNat <;> rfl
  ·rw [if_neg h, if_neg h]
theorem step_proof {k : Nat} {S : Vbtaam.State} {vs : List Mx} {g : Mx} (R : Rel k S vs g) (tap v n : Int) : Vbtaam.step S (.proof tap v n) = if qb vs.length tap v n = false then Vbtaam.no S 1 else if (whole1 vs).all id = true then (if ((found (Vbtaam.caps S) (tap == 1) (vs.map fun m => m.c.num)).any fun x => Vbtaam.at_ x.amounts v.toNat == n.toNat) = true then Vbtaam.no S 4 else Vbtaam.yes S ((found (Vbtaam.caps S) (tap == 1) (vs.map fun m => m.c.num)).flatMap fun x => x.amounts)) else Vbtaam.no S 6 := by
 show (if (Vbtaam.from_ tap 0 1 = false ∨ Vbtaam.isVessel S v = false ∨ Vbtaam.from_ n 0 Vbtaam.CAP = false) then Vbtaam.no S 1 else (match Vbtaam.amounts S with | none => Vbtaam.no S 6 | some w => (if ((found (Vbtaam.caps S) (tap == 1) w).any fun x => Vbtaam.at_ x.amounts v.toNat == n.toNat) = true then Vbtaam.no S 4 else Vbtaam.yes S ((found (Vbtaam.caps S) (tap == 1) w).flatMap fun x => x.amounts)))) = _
 rw [R.amounts, R.lens.1]
 by_cases c : qb S.vessels.length tap v n = false
 ·rw [if_pos (qb_iff.mpr c), if_pos c]
 ·rw [if_neg (fun z => c (qb_iff.mp z)), if_neg c]
  by_cases h : (whole1 vs).all id = true
  ·rw [if_pos h, if_pos h]
  ·rw [if_neg h, if_neg h]
theorem qb_true {l : Nat} {tap v n : Int} (h : ¬ qb l tap v n = false) : (0 <= tap /\ tap <= 1) /\ ∃ (v' n' : Nat), v = v' /\ n = n' /\ v' < l /\ n' <= 12 := by
 have h : qb l tap v n = true := by simpa using h
 unfold qb at h;rw [Bool.and_eq_true, Bool.and_eq_true] at h;have h1 := of_decide_eq_true h.1;have h2 := of_decide_eq_true h.2.1;have h3 := of_decide_eq_true h.2.2;exact ⟨h1, v.toNat, n.toNat, by omega, by omega, by omega, by omega⟩
theorem ints_nl (l : List Nat) : (l.map fun (n : Nat) => (n : Int)).map V.int = nl l := by
 unfold nl;rw [List.map_map];rfl
section
variable {P : Program} {w : World} {K : PySem.W.Frag} {mg : Str -> Option Value} {base : Heap} {t : Ad} {f : Addr} {fd : FuncData}
def okWay (args : List Int) (d : Vbtaam.Call) : Prop := ∃ tap v n, args = [tap, v, n] /\ d = .way tap v n
theorem ok_call_way (F : Fun K "call_way" "call_way" s_call_way f fd) (T : Txt P K mg t) (D_is_question : Def P w K mg base 36 "is_question" p_is_question (spQue K t)) (M_Line_is_whole : MDef P w K mg base 34 t.CL "is_whole" p_Line_is_whole (spWhole K t))
  (M_Line_sizes : MDef P w K mg base 34 t.CL "sizes" p_Line_sizes (spSizes K t)) (M_Line_contents : MDef P w K mg base 34 t.CL "contents" p_Line_contents (spCon K t)) (D_come_to : Def P w K mg base 36 "come_to" p_come_to (spCome K)) (D_those_with : Def P w K mg base 34 "those_with" p_those_with (spThose K)) (D_way_to : Def P w K mg base 34 "way_to" p_way_to (spWay K)) : FnOk P w K mg base CX0 41 f fd p_call_way (spC K t okWay) := by
 refine F.ok sc_call_way (fun vs H Q E h => ?_) (fun cdv A outer s H vs Q E hr h => ?_)
 ·obtain ⟨_, _, _, _, _, _, _, _, rfl, _⟩ := h;rfl
 ·obtain ⟨ln, ta, l, fl, k, S, _, _, rfl, hta, ⟨tap, v, n, rfl, rfl⟩, hLS, k200, tl, tf, kk⟩ := h;have nd := sc_call_way.nd;obtain ⟨dx, ga, as, pf, vs, g, L, R⟩ := id hLS;obtain ⟨lenS, le3⟩ := R.lens;have hL : LAt K t H ln (Vbtaam.caps S) vs S.put g := ⟨dx, l, fl, ga, as, pf, L⟩;have st := step_way R tap v n;refine ⟨_, (pss_cons (ps_if (pt_not (pt_val (pe_def D_is_question (hr.mono (by decide)) rfl (pa_cons (pv 0) (pa_cons (pv 1) pa_nil))))) (pss_one (ps_ret (pe_lst (pa_cons (pe_cI T.c_OUT_OF_RANGE rfl) pa_nil)))) pss_nil) (pss_cons (ps_if (pt_not (pt_val (pe_mdef0 M_Line_is_whole (hr.mono (by decide)) (pv 0)))) (pss_one (ps_ret (pe_lst (pa_cons (pe_cI T.c_NOT_WHOLE rfl) pa_nil)))) pss_nil) (pss_cons (ps_set (i := 2) nd rfl (by walk_at "o") (pe_def D_come_to (hr.mono (by decide)) rfl (pa_cons (pe_mdef0 M_Line_sizes (hr.mono (by decide)) (pv 0)) (pa_cons (pe_mdef0 M_Line_contents (hr.mono (by decide)) (pv 0)) (pa_cons (pe_ix ix_list (pv 1) pe_int (fun _ _ => rfl)) pa_nil))))) (pss_cons (ps_set (i := 3) nd rfl (by walk_at "o") (pe_def D_those_with (hr.mono (by decide)) rfl (pa_cons (pv 2) (pa_cons (pe_ix ix_list (pv 1) pe_int (fun _ _ => rfl)) (pa_cons (pe_ix ix_list (pv 1) pe_int (fun _ _ => rfl)) pa_nil))))) (pss_cons (ps_if (pt_cmpR op_eq (pe_callB call_len_seq (by rfl) T.b_len bt_len (pa_cons (pv 3) pa_nil)) pe_int (nomark _)) (pss_one (ps_ret (pe_lst (pa_cons pe_int (pa_cons pe_int pa_nil))))) pss_nil) (pss_one (ps_ret (pe_op op_cat (pe_lst (pa_cons pe_int (pa_cons pe_int pa_nil))) (pe_def D_way_to (hr.mono (by decide)) rfl (pa_cons (pv 2) (pa_cons (pe_ix ix_list (pv 3) pe_int (fun _ _ => rfl)) pa_nil))))))))))), ?_⟩;walk_at "r";refine ⟨ln, ta, _, vs, _, g, tap, v, n, [], rfl, hta, hL, ?_⟩;walk_at "r"
  by_cases hq : qb vs.length tap v n = false
  ·rw [if_pos hq] at st;rw [hq];refine iteT ?_;walk_at "r";refine rd_lstE rfl fun r hr => ?_;exact done_same hLS kk (Same.refl H) hr (by rw [st]; rfl) (by rw [st]; rfl)
  rw [if_neg hq] at st;obtain ⟨ht, v, n, rfl, rfl, hv, hn⟩ := qb_true hq;have hq : qb vs.length tap v n = true := by simpa using hq
  rw [hq];refine iteF ?_;walk_at "r";refine rd_methE L.at_ (by with_unfolding_all rfl) ?_
  refine ⟨ln, _, vs, _, g, rfl, hL, le3, fun H1 s1 => ?_⟩;walk_at "r"
  by_cases hw : (whole1 vs).all id = true
  ·rw [if_pos hw] at st;rw [hw];refine iteF ?_;have L1 := L.same s1;have hL1 : LAt K t H1 ln (Vbtaam.caps S) vs S.put g := ⟨dx, l, fl, ga, as, pf, L1⟩;have bx := R.box hw;have c12 := R.c12;have l3 : (Vbtaam.caps S).length <= 3 := by rw [caps_len]; omega
   walk_at "r";refine rd_methE L1.at_ (by with_unfolding_all rfl) ?_
   refine ⟨ln, _, vs, _, g, rfl, hL1, le3, fun H2 sA s2 n2 h2 => ?_⟩;walk_at "r";have L2 := L1.same s2;refine rd_methE L2.at_ (by with_unfolding_all rfl) ?_
   refine ⟨ln, _, vs, _, g, rfl, ⟨dx, l, fl, ga, as, pf, L2⟩, le3, fun H3 cA s3 n3 h3 => ?_⟩;have s13 := (s1.trans s2).trans s3;walk_at "r";refine rd_ixL (SqL.of (s13 _ _ hta)) rfl ?_;walk_at "r";generalize hx : (vs.map fun m => m.c.num) = x at *;refine ⟨sA, cA, _, x, tap, rfl, SqL.of (s3 _ _ h2), h3, bx, l3, c12, fun H4 d kvs s4 dn d4 o4 nd4 bx4 l4 => ?_⟩;have s14 := s13.trans s4;have ht4 := s14 _ _ hta;have pl := fun w (h : w ∈ found (Vbtaam.caps S) (tap == 1) x) => Nat.le_trans (found_path h) (size_le c12 l3);generalize found (Vbtaam.caps S) (tap == 1) x = ws at *;walk_at "r";refine rd_ixL (SqL.of ht4) rfl ?_;walk_at "r";refine rd_ixL (SqL.of ht4) rfl ?_;walk_at "r";have kl := o4.keys.len;refine ⟨d, kvs, ws.map (·.amounts), v, n, rfl, d4, o4.keys, fun y hy => ?_, Nat.lt_of_le_of_lt (show (ws.map (·.amounts)).length <= 2197 by omega) (by decide), fun H5 eA ads s5 en e5 t5 => ?_⟩
   ·obtain ⟨u, hu, rfl⟩ := List.mem_map.mp hy;rw [(bx4 u hu).len, caps_len];omega
   have s15 := s14.trans s5;have ef : (ws.map (·.amounts)).filter (fun x => Vbtaam.at_ x v == n) = (ws.filter fun x => Vbtaam.at_ x.amounts v == n).map (·.amounts) := by rw [List.filter_map]; rfl
   rw [ef] at t5;rw [Int.toNat_natCast, Int.toNat_natCast, <- List.head?_filter] at st;have sub : ∀ u ∈ ws.filter (fun x => Vbtaam.at_ x.amounts v == n), u ∈ ws := fun u hu => (List.mem_filter.mp hu).1;generalize (ws.filter fun x => Vbtaam.at_ x.amounts v == n) = fs at *;walk_at "r";refine ⟨eA, _, rfl, .inl (SqL.of e5), ?_⟩;walk_at "r";cases fs with
   | nil =>
    have ea : ads = [] := List.length_eq_zero_iff.mp (by rw [t5.1]; rfl);subst ea;refine iteT ?_;walk_at "r";refine rd_lstE rfl fun r hr => ?_;exact done_same hLS kk s15 hr (by rw [st]; rfl) (by rw [st]; rfl)
   | cons u us =>
    obtain ⟨a0, as0, rfl⟩ : ∃ a0 as0, ads = a0 :: as0 := by
     cases ads with
     | nil => exact absurd t5.1 (by simp)
     | cons a0 as0 => exact ⟨a0, as0, rfl⟩
    have h0 : H5 a0 = some (.tup (nl u.amounts)) := t5.2 0 a0 _ rfl rfl;refine ite2 (fun c => ?_) (fun _ => ?_)
    ·exact absurd (V.int.inj (of_decide_eq_true c)) (by simp only [List.map_cons, List.length_cons]; omega)
    walk_at "r";refine rd_lstE rfl fun p hp => ?_;have s6 : Same H5 (upd H5 p (.lst [.int 0, .int 1])) := Same.new hp;have p6 : (upd H5 p (.lst [.int 0, .int 1])) p = some (.lst [.int 0, .int 1]) := upd_same;generalize upd H5 p (.lst [.int 0, .int 1]) = H6 at *;walk_at "r";refine rd_ixL (SqL.of (s6 _ _ e5)) (at_of (j := 0) rfl rfl) ?_;walk_at "r";have uw := sub u (by simp);have s56 := s5.trans s6;refine ⟨d, a0, kvs, ws, u, rfl, s56 _ _ d4, o4.imp fun _ _ q => s56 _ _ q, nd4, uw, pl u uw, s6 _ _ h0, fun H7 q s7 q0 q7 => ?_⟩;refine ⟨p, q, _, _, rfl, rfl, s7 _ _ p6, q7, ?_, fun r hr => ?_⟩
    ·rw [nl_len, List.length_reverse];exact Nat.le_trans (show 2 + u.path.length <= 2199 by have := pl u uw; omega) (by decide)
    refine done_same hLS kk ((s15.trans s6).trans s7) hr (by rw [st]; rfl) ?_;rw [st];show V.int 0 :: V.int 1 :: ((u.path.reverse.map fun (n : Nat) => (n : Int)).map V.int) = _;rw [ints_nl];rfl
  ·rw [if_neg hw] at st;rw [Bool.eq_false_iff.mpr hw];refine iteT ?_;walk_at "r";refine rd_lstE rfl fun r hr => ?_;exact done_same hLS kk s1 hr (by rw [st]; rfl) (by rw [st]; rfl)
open Vbtaam (Way found steps)
theorem for_keysT {d : Addr} {o : Obj} {kvs : List (List Key × V)} {g : TG} {tb : TS} {D : Ends} {σ : L2.St} {H : Hp} (Pv : Nat -> L2.St -> Hp -> Prop) (h0 : Pv 0 σ H) (hl : ∀ i σ H, i <= kvs.length -> Pv i σ H -> H d = some (.frz o (.dT kvs)))
  (hs : ∀ i k v q σ H, kvs[i]? = some (k, v) -> H q = some (.tup (k.map kV)) -> Pv i σ H -> g (.ref q) σ H fun σ2 H2 => tb { D with nx := Pv (i + 1), ct := Pv (i + 1), bk := D.nx } σ2 H2) (hd : ∀ σ H, Pv kvs.length σ H -> D.nx σ H) : ForB g tb D σ (Itkt d o kvs) H := by
 refine ⟨fun i m σ H => m = kvs.length - i /\ i <= kvs.length /\ Pv i σ H, ⟨kvs.length, by simp, Nat.zero_le _, h0⟩, ?_⟩;rintro i m σ H ⟨rfl, hi, p⟩;have q := hl i σ H hi p
 by_cases hlt : i < kvs.length
 ·refine .inr ⟨⟨q, hlt⟩, Pv (i + 1), fun σ' H' p' => ⟨kvs.length - (i + 1), by omega, rfl, hlt, p'⟩, fun x H' y => ?_⟩;obtain ⟨rfl, k, v, a, e1, rfl, e2⟩ := y;exact hs i k v a _ _ e1 e2 p
 ·have e : i = kvs.length := by omega
  subst e;exact .inl ⟨⟨q, Nat.le_refl _⟩, hd σ H p⟩
theorem way_flen {cs : List Nat} (l3 : cs.length <= 3) : ∀ ws : List Way, (∀ w ∈ ws, InBox cs w.amounts) -> (ws.flatMap fun x => x.amounts).length <= 3 * ws.length
 | [], _ => by simp
 | w :: ws, h => by
  have h1 := (h w (by simp)).len;have h2 := way_flen l3 ws fun u hu => h u (by simp [hu]);rw [List.flatMap_cons, List.length_append, List.length_cons];omega
theorem way_ftake {ws : List Way} {i : Nat} {x : Vbtaam.Amounts} (h : (ws.map (·.amounts))[i]? = some x) : (ws.take (i + 1)).flatMap (fun x => x.amounts) = (ws.take i).flatMap (fun x => x.amounts) ++ x := by
 rw [List.getElem?_map] at h;cases e : ws[i]? with
 | none => rw [e] at h; cases h
 | some w =>
  rw [e] at h;cases h;rw [List.take_add_one, e, List.flatMap_append];simp
theorem nl_app2 (a b : List Nat) : nl (a ++ b) = nl a ++ nl b := List.map_append
def okProof (args : List Int) (d : Vbtaam.Call) : Prop := ∃ tap v n, args = [tap, v, n] /\ d = .proof tap v n
theorem ok_call_proof (F : Fun K "call_proof" "call_proof" s_call_proof f fd) (T : Txt P K mg t) (D_is_question : Def P w K mg base 36 "is_question" p_is_question (spQue K t)) (M_Line_is_whole : MDef P w K mg base 34 t.CL "is_whole" p_Line_is_whole (spWhole K t))
  (M_Line_sizes : MDef P w K mg base 34 t.CL "sizes" p_Line_sizes (spSizes K t)) (M_Line_contents : MDef P w K mg base 34 t.CL "contents" p_Line_contents (spCon K t)) (D_come_to : Def P w K mg base 36 "come_to" p_come_to (spCome K)) (D_those_with : Def P w K mg base 34 "those_with" p_those_with (spThose K)) : FnOk P w K mg base CX0 41 f fd p_call_proof (spC K t okProof) := by
 refine F.ok sc_call_proof (fun vs H Q E h => ?_) (fun cdv A outer s H vs Q E hr h => ?_)
 ·obtain ⟨_, _, _, _, _, _, _, _, rfl, _⟩ := h;rfl
 ·obtain ⟨ln, ta, l, fl, k, S, _, _, rfl, hta, ⟨tap, v, n, rfl, rfl⟩, hLS, k200, tl, tf, kk⟩ := h;have nd := sc_call_proof.nd;obtain ⟨dx, ga, as, pf, vs, g, L, R⟩ := id hLS;obtain ⟨lenS, le3⟩ := R.lens;have hL : LAt K t H ln (Vbtaam.caps S) vs S.put g := ⟨dx, l, fl, ga, as, pf, L⟩;have st := step_proof R tap v n;refine ⟨_, (pss_cons (ps_if (pt_not (pt_val (pe_def D_is_question (hr.mono (by decide)) rfl (pa_cons (pv 0) (pa_cons (pv 1) pa_nil))))) (pss_one (ps_ret (pe_lst (pa_cons (pe_cI T.c_OUT_OF_RANGE rfl) pa_nil)))) pss_nil) (pss_cons (ps_if (pt_not (pt_val (pe_mdef0 M_Line_is_whole (hr.mono (by decide)) (pv 0)))) (pss_one (ps_ret (pe_lst (pa_cons (pe_cI T.c_NOT_WHOLE rfl) pa_nil)))) pss_nil) (pss_cons (ps_set (i := 2) nd rfl (by walk_at "o") (pe_def D_come_to (hr.mono (by decide)) rfl (pa_cons (pe_mdef0 M_Line_sizes (hr.mono (by decide)) (pv 0)) (pa_cons (pe_mdef0 M_Line_contents (hr.mono (by decide)) (pv 0)) (pa_cons (pe_ix ix_list (pv 1) pe_int (fun _ _ => rfl)) pa_nil))))) (pss_cons (ps_if (pt_cmpR op_gt (pe_callB call_len_seq (by rfl) T.b_len bt_len (pa_cons (pe_def D_those_with (hr.mono (by decide)) rfl (pa_cons (pv 2) (pa_cons (pe_ix ix_list (pv 1) pe_int (fun _ _ => rfl)) (pa_cons (pe_ix ix_list (pv 1) pe_int (fun _ _ => rfl)) pa_nil)))) pa_nil)) pe_int (nomark _)) (pss_one (ps_ret (pe_lst (pa_cons (pe_cI T.c_NOT_SO rfl) pa_nil)))) pss_nil) (pss_cons (ps_set (i := 3) nd rfl (by walk_at "o") (pe_lst (pa_cons pe_int pa_nil))) (pss_cons (ps_lock (ps_for PassesOwn.never rfl (pi_keys (pv 2)) (pg_name (i := 4) nd rfl (by walk_at "o")) (pss_one (ps_expr (pe_bm PySem.F.plainAttrs_list PySem.F.slot_list_extend PySem.F.type_list_extend mt_extendT (pv 3) (pa_cons (pv 4) pa_nil)))))) (pss_one (ps_ret (pv 3))))))))), ?_⟩;walk_at "r";refine ⟨ln, ta, _, vs, _, g, tap, v, n, [], rfl, hta, hL, ?_⟩;walk_at "r"
  by_cases hq : qb vs.length tap v n = false
  ·rw [if_pos hq] at st;rw [hq];refine iteT ?_;walk_at "r";refine rd_lstE rfl fun r hr => ?_;exact done_same hLS kk (Same.refl H) hr (by rw [st]; rfl) (by rw [st]; rfl)
  rw [if_neg hq] at st;obtain ⟨ht, v, n, rfl, rfl, hv, hn⟩ := qb_true hq;have hq : qb vs.length tap v n = true := by simpa using hq
  rw [hq];refine iteF ?_;walk_at "r";refine rd_methE L.at_ (by with_unfolding_all rfl) ?_
  refine ⟨ln, _, vs, _, g, rfl, hL, le3, fun H1 s1 => ?_⟩;walk_at "r"
  by_cases hw : (whole1 vs).all id = true
  ·rw [if_pos hw] at st;rw [hw];refine iteF ?_;have L1 := L.same s1;have hL1 : LAt K t H1 ln (Vbtaam.caps S) vs S.put g := ⟨dx, l, fl, ga, as, pf, L1⟩;have bx := R.box hw;have c12 := R.c12;have l3 : (Vbtaam.caps S).length <= 3 := by rw [caps_len]; omega
   walk_at "r";refine rd_methE L1.at_ (by with_unfolding_all rfl) ?_
   refine ⟨ln, _, vs, _, g, rfl, hL1, le3, fun H2 sA s2 n2 h2 => ?_⟩;walk_at "r";have L2 := L1.same s2;refine rd_methE L2.at_ (by with_unfolding_all rfl) ?_
   refine ⟨ln, _, vs, _, g, rfl, ⟨dx, l, fl, ga, as, pf, L2⟩, le3, fun H3 cA s3 n3 h3 => ?_⟩;have s13 := (s1.trans s2).trans s3;walk_at "r";refine rd_ixL (SqL.of (s13 _ _ hta)) rfl ?_;walk_at "r";generalize hx : (vs.map fun m => m.c.num) = x at *;refine ⟨sA, cA, _, x, tap, rfl, SqL.of (s3 _ _ h2), h3, bx, l3, c12, fun H4 d kvs s4 dn d4 o4 nd4 bx4 l4 => ?_⟩;have s14 := s13.trans s4;have ht4 := s14 _ _ hta;have pl := fun w (h : w ∈ found (Vbtaam.caps S) (tap == 1) x) => Nat.le_trans (found_path h) (size_le c12 l3);generalize found (Vbtaam.caps S) (tap == 1) x = ws at *;walk_at "r";refine rd_ixL (SqL.of ht4) rfl ?_;walk_at "r";refine rd_ixL (SqL.of ht4) rfl ?_;walk_at "r";have kl := o4.keys.len;refine ⟨d, kvs, ws.map (·.amounts), v, n, rfl, d4, o4.keys, fun y hy => ?_, Nat.lt_of_le_of_lt (show (ws.map (·.amounts)).length <= 2197 by omega) (by decide), fun H5 eA ads s5 en e5 t5 => ?_⟩
   ·obtain ⟨u, hu, rfl⟩ := List.mem_map.mp hy;rw [(bx4 u hu).len, caps_len];omega
   have s15 := s14.trans s5;have ef : (ws.map (·.amounts)).filter (fun x => Vbtaam.at_ x v == n) = (ws.filter fun x => Vbtaam.at_ x.amounts v == n).map (·.amounts) := by rw [List.filter_map]; rfl
   rw [ef] at t5;rw [Int.toNat_natCast, Int.toNat_natCast] at st;walk_at "r";refine ⟨eA, _, rfl, .inl (SqL.of e5), ?_⟩;walk_at "r";rw [List.length_map, t5.1, List.length_map]
   by_cases hany : (ws.any fun x => Vbtaam.at_ x.amounts v == n) = true
   ·rw [if_pos hany] at st;obtain ⟨u, hu, he⟩ := List.any_eq_true.mp hany;have lp : 0 < (ws.filter fun x => Vbtaam.at_ x.amounts v == n).length := List.length_pos_of_mem (List.mem_filter.mpr ⟨hu, he⟩);refine ite2 (fun _ => ?_) (fun c => ?_)
    ·walk_at "r";refine rd_lstE rfl fun r hr => ?_;exact done_same hLS kk s15 hr (by rw [st]; rfl) (by rw [st]; rfl)
    ·exact absurd (decide_eq_true (by omega)) c
   ·rw [if_neg hany] at st;have l0 : (ws.filter fun x => Vbtaam.at_ x.amounts v == n) = [] := List.filter_eq_nil_iff.mpr fun u hu he => hany (List.any_eq_true.mpr ⟨u, hu, he⟩);rw [l0];refine iteF ?_;walk_at "r";refine rd_lstE rfl fun r hr => ?_;have s6 : Same H5 (upd H5 r (.lst [.int 0])) := Same.new hr;have r6 : (upd H5 r (.lst [.int 0])) r = some (.lst ([V.int 0] ++ nl [])) := upd_same;have r0 : H r = none := s15.free hr;generalize upd H5 r (.lst [.int 0]) = H6 at *;walk_at "r";have s16 := s15.trans s6;have d6 := s6 _ _ (s5 _ _ d4);refine ⟨d, _, d6, True.intro, fun od => ?_⟩;have d7 : (upd H6 d (.frz od (.dT kvs))) d = some (.frz od (.dT kvs)) := upd_same;have rd0 : r ≠ d := ne_of r6 d6 (by intro e; cases e);have r7 : (upd H6 d (.frz od (.dT kvs))) r = some (.lst ([V.int 0] ++ nl [])) := by rw [upd_ne rd0]; exact r6
    have d0 : H d = none := s13.free dn;have s7 : Same H (upd H6 d (.frz od (.dT kvs))) := fun b o e => by rw [upd_ne (ne_of_none e d0)]; exact s16 _ _ e
    generalize upd H6 d (.frz od (.dT kvs)) = H7 at *;walk_at "r";refine ⟨d, od, rfl, .inr ⟨kvs, d7, ?_⟩⟩;rw [List.length_map] at kl;have fl3 : ∀ i, ((ws.take i).flatMap fun x => x.amounts).length <= 6591 := fun i => by
     have h1 := way_flen l3 (ws.take i) fun u hu => bx4 u (List.mem_of_mem_take hu);have h2 : (ws.take i).length <= ws.length := by rw [List.length_take]; omega
     omega
    refine for_keysT (fun i σ H' => ∃ u4 : Option V, σ = [some (.ref ln), some (.ref ta), some (.ref d), some (.ref r), u4] /\ Same H H' /\ H' d = some (.frz od (.dT kvs)) /\ H' r = some (.lst ([V.int 0] ++ nl ((ws.take i).flatMap fun x => x.amounts)))) ⟨none, rfl, s7, d7, r7⟩ (fun i σ H' _ ⟨_, _, _, z, _⟩ => z) ?_ ?_
    ·rintro i ky vl q σ H8 e1 e2 ⟨u4, rfl, s8, d8, r8⟩;obtain ⟨y, hy, rfl⟩ := o4.keys.at e1;rw [kk_nl] at e2;walk_at "r";refine ⟨.inl ⟨rfl, _, SqL.of r8⟩, ?_⟩;walk_at "r";have fi := way_ftake hy;have f3 := fl3 (i + 1);rw [fi, List.length_append] at f3;refine rd_extT r8 (SqT.of e2) (by rw [List.length_append, nl_len, nl_len]; exact Nat.le_trans (show 1 + _ + y.length <= 7000 by omega) (by decide)) ?_;refine ⟨some (.ref q), rfl, fun b o e => But.upd _ _ (s8 _ _ e) (ne_of_none e r0), But.upd _ _ d8 (Ne.symm rd0), ?_⟩;rw [upd_same, fi, nl_app2, List.append_assoc]
    ·rintro σ H8 ⟨u4, rfl, s8, d8, r8⟩;rw [List.take_of_length_le (by omega)] at r8;refine ⟨d8, ?_⟩;walk_at "r";have s9 : Same H (upd H8 d (.dT kvs)) := fun b o e => by rw [upd_ne (ne_of_none e d0)]; exact s8 _ _ e
     refine kk _ r ?_ (FrI.of_same s9).fr ?_ r0
     ·rw [st];exact hLS.mono.same s9
     ·rw [upd_ne rd0, r8, st];show _ = some (HO.lst (V.int 0 :: ((ws.flatMap fun x => x.amounts).map fun (n : Nat) => (n : Int)).map V.int));rw [ints_nl];rfl
  ·rw [if_neg hw] at st;rw [Bool.eq_false_iff.mpr hw];refine iteT ?_;walk_at "r";refine rd_lstE rfl fun r hr => ?_;exact done_same hLS kk s1 hr (by rw [st]; rfl) (by rw [st]; rfl)
end
end Vr
namespace Vr
open PySem PySem.Spec PyProof.Rows L2
open Vbtaam (Way found steps)
theorem step_check {k : Nat} {S : Vbtaam.State} {vs : List Mx} {g : Mx} (R : Rel k S vs g) (tap v n : Int) (l : List Int) : Vbtaam.step S (.check tap v n l) = if (qb vs.length tap v n && (decide (l.length % vs.length = 0) && l.all fun x => decide (0 <= x /\ x <= 12))) = false then Vbtaam.no S 1 else if (whole1 vs).all id = true then Vbtaam.yes S [if Vbtaam.proves (Vbtaam.caps S) (tap == 1) (vs.map fun m => m.c.num) v.toNat n.toNat (Vbtaam.cut vs.length l.length (l.map Int.toNat)) = true then 1 else 0] else Vbtaam.no S 6 := by
 show (if (Vbtaam.from_ tap 0 1 = false ∨ Vbtaam.isVessel S v = false ∨ Vbtaam.from_ n 0 Vbtaam.CAP = false ∨ (l.all fun x => Vbtaam.from_ x 0 Vbtaam.CAP) = false ∨ l.length % S.vessels.length ≠ 0) then Vbtaam.no S 1 else (match Vbtaam.amounts S with | none => Vbtaam.no S 6 | some w => Vbtaam.yes S [if Vbtaam.proves (Vbtaam.caps S) (tap == 1) w v.toNat n.toNat (Vbtaam.cut S.vessels.length l.length (l.map Int.toNat)) = true then 1 else 0])) = _
 rw [R.amounts, R.lens.1];have ec : (Vbtaam.from_ tap 0 1 = false ∨ Vbtaam.isVessel S v = false ∨ Vbtaam.from_ n 0 Vbtaam.CAP = false ∨ (l.all fun x => Vbtaam.from_ x 0 Vbtaam.CAP) = false ∨ l.length % S.vessels.length ≠ 0) ↔ (qb S.vessels.length tap v n && (decide (l.length % S.vessels.length = 0) && l.all fun x => decide (0 <= x /\ x <= 12))) = false := by
  rw [Bool.and_eq_false_iff, Bool.and_eq_false_iff, <- qb_iff, decide_eq_false_iff_not];constructor
  ·rintro (h | h | h | h | h)
   ·exact .inl (.inl h)
   ·exact .inl (.inr (.inl h))
   ·exact .inl (.inr (.inr h))
   ·exact .inr (.inr h)
   ·exact .inr (.inl h)
  ·rintro ((h | h | h) | h | h)
   ·exact .inl h
   ·exact .inr (.inl h)
   ·exact .inr (.inr (.inl h))
   ·exact .inr (.inr (.inr (.inr h)))
   ·exact .inr (.inr (.inr (.inl h)))
 by_cases c : (qb S.vessels.length tap v n && (decide (l.length % S.vessels.length = 0) && l.all fun x => decide (0 <= x /\ x <= 12))) = false
 ·rw [if_pos (ec.mpr c), if_pos c]
 ·rw [if_neg (fun z => c (ec.mp z)), if_neg c]
  by_cases h : (whole1 vs).all id = true
  ·rw [if_pos h, if_pos h]
  ·rw [if_neg h, if_neg h]
section
variable {P : Program} {w : World} {K : PySem.W.Frag} {mg : Str -> Option Value} {base : Heap} {t : Ad} {f : Addr} {fd : FuncData}
def spRow (K : PySem.W.Frag) (t : Ad) : Sp := fun us H Q _ => ∃ (ln r : Addr) (caps : List Nat) (vs : List Mx) (pu : List Vbtaam.Frac) (g : Mx) (l : List Int), us = [.ref ln, .ref r] /\ SqL K H r (l.map V.int) /\ LAt K t H ln caps vs pu g /\ 0 < vs.length /\ l.length < sizeLine /\
 ∀ H' : Hp, Same H H' -> Q (.bl (decide (l.length % vs.length = 0) && l.all fun x => decide (0 <= x /\ x <= 12))) H'
theorem ok_is_row (F : Fun K "is_row" "is_row" s_is_row f fd) (T : Txt P K mg t) (D_is_within : Def P w K mg base 34 "is_within" p_is_within spWithin) : FnOk P w K mg base CX0 35 f fd p_is_row (spRow K t) := by
 refine F.ok sc_is_row (fun vs H Q E h => ?_) (fun cdv A outer s H vs Q E hr h => ?_)
 ·obtain ⟨_, _, _, _, _, _, _, rfl, _⟩ := h;rfl
 ·obtain ⟨ln, r, caps, vs, pu, g, l, rfl, hr', ⟨dx, lv, fl, ga, as, pf, L⟩, v0, lz, k⟩ := h;have nd := sc_is_row.nd;refine ⟨_, (pss_one (ps_ret (pe_and (pe_cmpR op_eq (pe_op op_mod (pe_callB call_len_seq (by rfl) T.b_len bt_len (pa_cons (pv 1) pa_nil)) (pe_callB call_len_seq (by rfl) T.b_len bt_len (pa_cons (pe_fld (pv 0) rfl) pa_nil))) pe_int (nomark _)) (pe_one (pe_callB (cr_all rfl) (by rfl) T.b_all bt_all (pa_cons (pe_lc rfl nd (pi_list (pv 1)) (own := [("number", 2)]) (show BlkOk N_is_row (defScope s_is_row) _ _ from ⟨rfl, by decide +kernel, by decide +kernel, by decide +kernel, by decide +kernel⟩) (fun _ _ _ _ _ => pg_name (i := 2) nd rfl (by walk_at "o")) (fun _ _ _ _ _ => pts_nil) (fun _ _ _ _ _ => (pe_def D_is_within (hr.mono (by decide)) rfl (pa_cons (pv 2) (pa_cons pe_int (pa_cons (pe_cI T.c_LARGEST_SIZE rfl) pa_nil)))))) pa_nil)))))), ?_⟩;walk_at "r";refine ⟨r, _, rfl, .inl hr', ?_⟩;walk_at "r";refine rd_fldE L.at_ T.cL T.nL_vessels (lf_v _ _ _) ?_;walk_at "r";refine ⟨lv, _, rfl, .inl (SqL.of L.vl), ?_⟩;walk_at "r";rw [List.length_map, List.length_map, L.la];refine rd_i (show (0 : Int) < (vs.length : Int) by omega) ?_;walk_at "r";have em : decide (V.int ((l.length : Int) % (vs.length : Int)) = V.int 0) = decide (l.length % vs.length = 0) := by
   rw [Bool.eq_iff_iff, decide_eq_true_iff, decide_eq_true_iff];constructor
   ·intro z;have z := V.int.inj z;rw [<- Int.natCast_emod] at z;omega
   ·intro z;rw [<- Int.natCast_emod, z];rfl
  rw [em];refine ite2 (fun c => ?_) (fun c => ?_)
  ·rw [c, Bool.true_and] at k;walk_at "r";refine ⟨r, rfl, ⟨_, hr'⟩, fun D hD => ?_⟩;refine lc_list (K := K) (a := r) (xs := l.map V.int) (fun i H' => H' D = some (.lst (((l.take i).map fun x => decide (0 <= x /\ x <= 12)).map V.bl)) /\ Same H H') ⟨upd_same, Same.new hD⟩ (fun i H' _ ⟨_, z⟩ => z.seq hr') ?_ ?_
   ·rintro i z H2 hi ⟨d2, s2⟩;rw [List.getElem?_map] at hi;cases hy : l[i]? with
    | none => rw [hy] at hi; cases hi
    | some y =>
     rw [hy] at hi;cases hi;have il := (List.getElem?_eq_some_iff.mp hy).1;refine rd_gname ⟨rfl, ?_⟩;walk_at "r";refine iteT ?_;walk_at "r";refine ⟨y, 0, 12, rfl, ?_⟩;refine ⟨_, d2, ?_, ?_, fun b o e => But.upd _ _ (s2 _ _ e) (ne_of_none e hD)⟩
     ·rw [List.length_map, List.length_map, List.length_take];omega
     ·rw [upd_same, List.take_add_one, hy, Option.toList_some, List.map_append, List.map_append];rfl
   ·rintro H2 ⟨d2, s2⟩;rw [List.take_of_length_le (by rw [List.length_map]; exact Nat.le_refl _)] at d2;walk_at "r";refine ⟨D, _, rfl, SqL.of d2, ?_⟩;rw [List.all_map];exact k _ s2
  ·rw [Bool.eq_false_iff.mpr c, Bool.false_and] at k;exact k _ (Same.refl H)
def okCheck (args : List Int) (d : Vbtaam.Call) : Prop := ∃ tap v n m l, args = tap :: v :: n :: m :: l /\ d = .check tap v n l /\ l.length < sizeLine
theorem ok_call_check (F : Fun K "call_check" "call_check" s_call_check f fd) (T : Txt P K mg t) (D_is_question : Def P w K mg base 36 "is_question" p_is_question (spQue K t)) (M_Line_is_whole : MDef P w K mg base 34 t.CL "is_whole" p_Line_is_whole (spWhole K t))
  (M_Line_sizes : MDef P w K mg base 34 t.CL "sizes" p_Line_sizes (spSizes K t)) (M_Line_contents : MDef P w K mg base 34 t.CL "contents" p_Line_contents (spCon K t)) (D_is_row : Def P w K mg base 35 "is_row" p_is_row (spRow K t)) (D_proves : Def P w K mg base 37 "proves" p_proves (spProves K)) : FnOk P w K mg base CX0 41 f fd p_call_check (spC K t okCheck) := by
 refine F.ok sc_call_check (fun vs H Q E h => ?_) (fun cdv A outer s H vs Q E hr h => ?_)
 ·obtain ⟨_, _, _, _, _, _, _, _, rfl, _⟩ := h;rfl
 ·obtain ⟨ln, ta, l, fl, k, S, _, _, rfl, hta, ⟨tap, v, n, m0, l0, rfl, rfl, lz⟩, hLS, k200, tl, tf, kk⟩ := h;have nd := sc_call_check.nd;obtain ⟨dx, ga, as, pf, vs, g, L, R⟩ := id hLS;obtain ⟨lenS, le3⟩ := R.lens;have hL : LAt K t H ln (Vbtaam.caps S) vs S.put g := ⟨dx, l, fl, ga, as, pf, L⟩;have st := step_check R tap v n l0;refine ⟨_, (pss_cons (ps_set (i := 2) nd rfl (by walk_at "o") (pe_slice sl_list (pv 1) (po_some (pe_ix ix_tup (pe_glob (v := .ref t.aT) rfl T.m_TOLD rfl) (pe_cI T.c_CHECK rfl) (fun _ _ => rfl))) po_none)) (pss_cons (ps_if (PW.pt (pw_or (pt_not (pt_val (pe_def D_is_question (hr.mono (by decide)) rfl (pa_cons (pv 0) (pa_cons (pv 1) pa_nil))))) (pw_or1 (pt_not (pt_val (pe_def D_is_row (hr.mono (by decide)) rfl (pa_cons (pv 0) (pa_cons (pv 2) pa_nil)))))))) (pss_one (ps_ret (pe_lst (pa_cons (pe_cI T.c_OUT_OF_RANGE rfl) pa_nil)))) pss_nil) (pss_cons (ps_if (pt_not (pt_val (pe_mdef0 M_Line_is_whole (hr.mono (by decide)) (pv 0)))) (pss_one (ps_ret (pe_lst (pa_cons (pe_cI T.c_NOT_WHOLE rfl) pa_nil)))) pss_nil) (pss_cons (ps_if (pt_val (pe_def D_proves (hr.mono (by decide)) rfl (pa_cons (pe_mdef0 M_Line_sizes (hr.mono (by decide)) (pv 0)) (pa_cons (pe_mdef0 M_Line_contents (hr.mono (by decide)) (pv 0)) (pa_cons (pe_ix ix_list (pv 1) pe_int (fun _ _ => rfl)) (pa_cons (pe_ix ix_list (pv 1) pe_int (fun _ _ => rfl)) (pa_cons (pe_ix ix_list (pv 1) pe_int (fun _ _ => rfl)) (pa_cons (pv 2) pa_nil)))))))) (pss_one (ps_ret (pe_lst (pa_cons pe_int (pa_cons pe_int pa_nil))))) pss_nil) (pss_one (ps_ret (pe_lst (pa_cons pe_int (pa_cons pe_int pa_nil))))))))), ?_⟩;walk_at "r";refine rd_var rfl ?_;show tOp _ _ _ _ _ _;walk_at "r";refine rd_ixT (T.n_TOLD H) rfl ?_;refine ⟨4, rfl, ?_⟩;refine ⟨ta, _, rfl, SqL.of hta, fun r hr0 => ?_⟩;have ec : cutV ((tap :: v :: n :: m0 :: l0).map V.int) (some 4) none = l0.map V.int := by
   unfold cutV;have e1 : HT.sIx ((tap :: v :: n :: m0 :: l0).map V.int).length 0 (some ((4 : Nat) : Int)) = 4 := by
    rw [HT.sIx_nat];simp only [List.map_cons, List.length_cons];omega
   have e1 : HT.sIx ((tap :: v :: n :: m0 :: l0).map V.int).length 0 (some (4 : Int)) = 4 := e1;rw [e1, HT.sIx_none];show (l0.map V.int).take _ = _;exact List.take_of_length_le (by simp only [List.map_cons, List.length_cons]; omega)
  rw [ec];have s0 : Same H (upd H r (.lst (l0.map V.int))) := Same.new hr0;have r0 : (upd H r (.lst (l0.map V.int))) r = some (.lst (l0.map V.int)) := upd_same;generalize upd H r (.lst (l0.map V.int)) = H0 at *;have L0 := L.same s0;have hL0 : LAt K t H0 ln (Vbtaam.caps S) vs S.put g := ⟨dx, l, fl, ga, as, pf, L0⟩;walk_at "r";refine ⟨ln, ta, _, vs, _, g, tap, v, n, m0 :: l0, rfl, s0 _ _ hta, hL0, ?_⟩;walk_at "r"
  by_cases hq : qb vs.length tap v n = false
  ·rw [hq, Bool.false_and, if_pos rfl] at st;rw [hq];refine iteT ?_;refine iteT ?_;walk_at "r";refine rd_lstE rfl fun r hr => ?_;exact done_same hLS kk s0 hr (by rw [st]; rfl) (by rw [st]; rfl)
  obtain ⟨ht, v, n, rfl, rfl, hv, hn⟩ := qb_true hq;have hq : qb vs.length tap v n = true := by simpa using hq
  rw [hq, Bool.true_and] at st;rw [hq];refine iteF ?_;walk_at "r";refine ⟨ln, r, _, vs, _, g, l0, rfl, SqL.of r0, hL0, by omega, lz, fun H1 s1 => ?_⟩;have s01 := s0.trans s1;walk_at "r"
  by_cases hw : (decide (l0.length % vs.length = 0) && l0.all fun x => decide (0 <= x /\ x <= 12)) = false
  ·rw [if_pos hw] at st;rw [hw];refine iteT ?_;walk_at "r";refine rd_lstE rfl fun r hr => ?_;exact done_same hLS kk s01 hr (by rw [st]; rfl) (by rw [st]; rfl)
  rw [if_neg hw] at st;have hw : (decide (l0.length % vs.length = 0) && l0.all fun x => decide (0 <= x /\ x <= 12)) = true := by simpa using hw
  rw [hw];refine iteF ?_;rw [Bool.and_eq_true] at hw;have lmod := of_decide_eq_true hw.1;have lall : ∀ x ∈ l0, 0 <= x /\ x <= 12 := fun x hx => of_decide_eq_true (List.all_eq_true.mp hw.2 x hx);have L1 := L.same s01;walk_at "r";refine rd_methE L1.at_ (by with_unfolding_all rfl) ?_
  refine ⟨ln, _, vs, _, g, rfl, ⟨dx, l, fl, ga, as, pf, L1⟩, le3, fun H2 s2 => ?_⟩;have s02 := s01.trans s2;walk_at "r"
  by_cases hw2 : (whole1 vs).all id = true
  ·rw [if_pos hw2] at st;rw [hw2];refine iteF ?_;have L2 := L.same s02;have bx := R.box hw2;have l3 : (Vbtaam.caps S).length <= 3 := by rw [caps_len]; omega
   walk_at "r";refine rd_methE L2.at_ (by with_unfolding_all rfl) ?_
   refine ⟨ln, _, vs, _, g, rfl, ⟨dx, l, fl, ga, as, pf, L2⟩, le3, fun H3 sA s3 n3 h3 => ?_⟩;walk_at "r";have L3 := L2.same s3;refine rd_methE L3.at_ (by with_unfolding_all rfl) ?_
   refine ⟨ln, _, vs, _, g, rfl, ⟨dx, l, fl, ga, as, pf, L3⟩, le3, fun H4 cA s4 n4 h4 => ?_⟩;have s04 := (s02.trans s3).trans s4;have ht4 := s04 _ _ hta;walk_at "r";refine rd_ixL (SqL.of ht4) (at_of (j := 0) rfl rfl) ?_;walk_at "r";refine rd_ixL (SqL.of ht4) (at_of (j := 1) rfl rfl) ?_;walk_at "r";refine rd_ixL (SqL.of ht4) (at_of (j := 2) rfl rfl) ?_;walk_at "r";have el : l0.map V.int = nl (l0.map Int.toNat) := by
    unfold nl;rw [List.map_map];refine List.map_congr_left fun x hx => ?_;show V.int x = V.int ((x.toNat : Nat) : Int);have := lall x hx;congr 1;omega
   have r4 := s4 _ _ (s3 _ _ (s2 _ _ (s1 _ _ r0)));rw [el] at r4;have cl : (Vbtaam.caps S).length = vs.length := by rw [caps_len]; omega
   have ml : (l0.map Int.toNat).length = l0.length / vs.length * (Vbtaam.caps S).length := by
    rw [List.length_map, cl];have := Nat.div_add_mod l0.length vs.length;rw [lmod, Nat.add_zero, Nat.mul_comm] at this;exact this.symm
   refine ⟨sA, cA, r, _, _, tap, v, n, l0.length / vs.length, _, rfl, SqL.of (s4 _ _ h3), h4, bx.len, l3, by omega, SqL.of r4, ml, by rw [List.length_map]; exact lz, fun H5 s5 => ?_⟩;have ecut := cut_eq (n := (Vbtaam.caps S).length) (by omega) (l0.length / vs.length) l0.length (l0.map Int.toNat) ml (Nat.div_le_self _ _);rw [cl] at ecut;rw [Int.toNat_natCast, Int.toNat_natCast, ecut] at st;have s05 := s04.trans s5;rw [cl];generalize Vbtaam.proves (Vbtaam.caps S) (tap == 1) (vs.map fun m => m.c.num) v n _ = b at *;walk_at "r";cases b with
   | true =>
    refine iteT ?_;walk_at "r";refine rd_lstE rfl fun r hr => ?_;exact done_same hLS kk s05 hr (by rw [st]; rfl) (by rw [st]; rfl)
   | false =>
    refine iteF ?_;walk_at "r";refine rd_lstE rfl fun r hr => ?_;exact done_same hLS kk s05 hr (by rw [st]; rfl) (by rw [st]; rfl)
  ·rw [if_neg hw2] at st;rw [Bool.eq_false_iff.mpr hw2];refine iteT ?_;walk_at "r";refine rd_lstE rfl fun r hr => ?_;exact done_same hLS kk s02 hr (by rw [st]; rfl) (by rw [st]; rfl)
end
end Vr
namespace Vr
open PySem PySem.Spec PyProof.Rows L2
open Vbtaam (Way found steps)
theorem box12 : ∀ {cs : List Nat} {as : Vbtaam.Amounts}, (∀ c ∈ cs, c <= 12) -> InBox cs as -> ∀ n ∈ as, n <= 12
 | [], [], _, _, n, hn => by simp at hn
 | c :: cs, a :: as, h, b, n, hn => by
  rcases List.mem_cons.mp hn with rfl | hn
  ·exact Nat.le_trans b.1 (h c (by simp))
  ·exact box12 (fun d hd => h d (by simp [hd])) b.2 n hn
theorem step_can {k : Nat} {S : Vbtaam.State} {vs : List Mx} {g : Mx} (R : Rel k S vs g) (tap : Int) : Vbtaam.step S (.can tap) = if decide (0 <= tap /\ tap <= 1) = false then Vbtaam.no S 1 else if (whole1 vs).all id = true then Vbtaam.yes S ((List.range (Vbtaam.CAP + 1)).filter fun n => (found (Vbtaam.caps S) (tap == 1) (vs.map fun m => m.c.num)).any fun x => x.amounts.contains n) else Vbtaam.no S 6 := by
 show (if Vbtaam.from_ tap 0 1 = false then Vbtaam.no S 1 else (match Vbtaam.amounts S with | none => Vbtaam.no S 6 | some w => Vbtaam.yes S ((List.range (Vbtaam.CAP + 1)).filter fun n => (found (Vbtaam.caps S) (tap == 1) w).any fun x => x.amounts.contains n))) = _
 rw [R.amounts, fromD]
 by_cases h : (whole1 vs).all id = true
 ·rw [if_pos h, if_pos h]
 ·rw [if_neg h, if_neg h]
section
variable {P : Program} {w : World} {K : PySem.W.Frag} {mg : Str -> Option Value} {base : Heap} {t : Ad} {f : Addr} {fd : FuncData}
def okCan (args : List Int) (d : Vbtaam.Call) : Prop := ∃ tap, args = [tap] /\ d = .can tap
theorem ok_call_can (F : Fun K "call_can" "call_can" s_call_can f fd) (T : Txt P K mg t) (D_is_tap : Def P w K mg base 35 "is_tap" p_is_tap spTap) (M_Line_is_whole : MDef P w K mg base 34 t.CL "is_whole" p_Line_is_whole (spWhole K t))
  (M_Line_sizes : MDef P w K mg base 34 t.CL "sizes" p_Line_sizes (spSizes K t)) (M_Line_contents : MDef P w K mg base 34 t.CL "contents" p_Line_contents (spCon K t)) (D_come_to : Def P w K mg base 36 "come_to" p_come_to (spCome K)) : FnOk P w K mg base CX0 41 f fd p_call_can (spC K t okCan) := by
 refine F.ok sc_call_can (fun vs H Q E h => ?_) (fun cdv A outer s H vs Q E hr h => ?_)
 ·obtain ⟨_, _, _, _, _, _, _, _, rfl, _⟩ := h;rfl
 ·obtain ⟨ln, ta, l, fl, k, S, _, _, rfl, hta, ⟨tap, rfl, rfl⟩, hLS, k200, tl, tf, kk⟩ := h;have nd := sc_call_can.nd;obtain ⟨dx, ga, as, pf, vs, g, L, R⟩ := id hLS;obtain ⟨lenS, le3⟩ := R.lens;have hL : LAt K t H ln (Vbtaam.caps S) vs S.put g := ⟨dx, l, fl, ga, as, pf, L⟩;have st := step_can R tap;refine ⟨_, (pss_cons (ps_if (pt_not (pt_val (pe_def D_is_tap (hr.mono (by decide)) rfl (pa_cons (pe_ix ix_list (pv 1) pe_int (fun _ _ => rfl)) pa_nil)))) (pss_one (ps_ret (pe_lst (pa_cons (pe_cI T.c_OUT_OF_RANGE rfl) pa_nil)))) pss_nil) (pss_cons (ps_if (pt_not (pt_val (pe_mdef0 M_Line_is_whole (hr.mono (by decide)) (pv 0)))) (pss_one (ps_ret (pe_lst (pa_cons (pe_cI T.c_NOT_WHOLE rfl) pa_nil)))) pss_nil) (pss_cons (ps_set (i := 2) nd rfl (by walk_at "o") (pe_lst pa_nil)) (pss_cons (ps_for PassesOwn.never rfl (pi_keysF (pe_def D_come_to (hr.mono (by decide)) rfl (pa_cons (pe_mdef0 M_Line_sizes (hr.mono (by decide)) (pv 0)) (pa_cons (pe_mdef0 M_Line_contents (hr.mono (by decide)) (pv 0)) (pa_cons (pe_ix ix_list (pv 1) pe_int (fun _ _ => rfl)) pa_nil))))) (pg_name (i := 3) nd rfl (by walk_at "o")) (pss_one (ps_expr (pe_bm PySem.F.plainAttrs_list PySem.F.slot_list_extend PySem.F.type_list_extend mt_extendT (pv 2) (pa_cons (pv 3) pa_nil))))) (pss_one (ps_ret (pe_op op_cat (pe_lst (pa_cons pe_int pa_nil)) (pe_sset rfl (by rfl) T.b_sorted bt_sorted (by rfl) T.b_set bt_set (pv 2))))))))), ?_⟩;walk_at "r";refine rd_ixL (SqL.of hta) rfl ?_;walk_at "r";refine ⟨tap, rfl, ?_⟩;walk_at "r"
  by_cases hq : decide (0 <= tap /\ tap <= 1) = false
  ·rw [if_pos hq] at st;rw [hq];refine iteT ?_;walk_at "r";refine rd_lstE rfl fun r hr => ?_;exact done_same hLS kk (Same.refl H) hr (by rw [st]; rfl) (by rw [st]; rfl)
  rw [if_neg hq] at st;have hq : decide (0 <= tap /\ tap <= 1) = true := by simpa using hq
  rw [hq];refine iteF ?_;walk_at "r";refine rd_methE L.at_ (by with_unfolding_all rfl) ?_
  refine ⟨ln, _, vs, _, g, rfl, hL, le3, fun H1 s1 => ?_⟩;walk_at "r"
  by_cases hw : (whole1 vs).all id = true
  ·rw [if_pos hw] at st;rw [hw];refine iteF ?_;have L1 := L.same s1;have bx := R.box hw;have c12 := R.c12;have l3 : (Vbtaam.caps S).length <= 3 := by rw [caps_len]; omega
   walk_at "r";refine rd_lstE rfl fun r hr => ?_;have s2 : Same H1 (upd H1 r (.lst [])) := Same.new hr;have r2 : (upd H1 r (.lst [])) r = some (.lst (nl [])) := upd_same;have r0 : H r = none := s1.free hr;show tSeq _ _ _ _ (upd H1 r (.lst []));generalize upd H1 r (.lst []) = H2 at *;have s02 := s1.trans s2;have L2 := L.same s02;walk_at "r";refine rd_methE L2.at_ (by with_unfolding_all rfl) ?_
   refine ⟨ln, _, vs, _, g, rfl, ⟨dx, l, fl, ga, as, pf, L2⟩, le3, fun H3 sA s3 n3 h3 => ?_⟩;walk_at "r";have L3 := L2.same s3;refine rd_methE L3.at_ (by with_unfolding_all rfl) ?_
   refine ⟨ln, _, vs, _, g, rfl, ⟨dx, l, fl, ga, as, pf, L3⟩, le3, fun H4 cA s4 n4 h4 => ?_⟩;have s04 := (s02.trans s3).trans s4;walk_at "r";refine rd_ixL (SqL.of (s04 _ _ hta)) rfl ?_;walk_at "r";generalize hx : (vs.map fun m => m.c.num) = x at *;refine ⟨sA, cA, _, x, tap, rfl, SqL.of (s4 _ _ h3), h4, bx, l3, c12, fun H5 d kvs s5 dn d5 o5 nd5 bx5 l5 => ?_⟩;have s05 := s04.trans s5;have r5 := s5 _ _ (s4 _ _ (s3 _ _ r2));have d0 : H d = none := s04.free dn;have rd0 : r ≠ d := ne_of r5 d5 (by intro e; cases e);generalize found (Vbtaam.caps S) (tap == 1) x = ws at *;have kl := o5.keys.len;rw [List.length_map] at kl;have fl3 : ∀ i, ((ws.take i).flatMap fun x => x.amounts).length <= 6591 := fun i => by
    have h1 := way_flen l3 (ws.take i) fun u hu => bx5 u (List.mem_of_mem_take hu);have h2 : (ws.take i).length <= ws.length := by rw [List.length_take]; omega
    omega
   have a12 : ∀ n ∈ ws.flatMap (fun x => x.amounts), n <= 12 := fun n hn => by
    obtain ⟨u, hu, hn⟩ := List.mem_flatMap.mp hn;exact box12 c12 (bx5 u hu) n hn
   refine ⟨d, kvs, rfl, d5, fun od => ?_⟩;have d6 : (upd H5 d (.frz od (.dT kvs))) d = some (.frz od (.dT kvs)) := upd_same;have r6 : (upd H5 d (.frz od (.dT kvs))) r = some (.lst (nl [])) := by rw [upd_ne rd0]; exact r5
   have s06 : Same H (upd H5 d (.frz od (.dT kvs))) := fun b o e => by rw [upd_ne (ne_of_none e d0)]; exact s05 _ _ e
   generalize upd H5 d (.frz od (.dT kvs)) = H6 at *;refine for_keysT (fun i σ H' => ∃ u3 : Option V, σ = [some (.ref ln), some (.ref ta), some (.ref r), u3] /\ Same H H' /\ H' d = some (.frz od (.dT kvs)) /\ H' r = some (.lst (nl ((ws.take i).flatMap fun x => x.amounts)))) ⟨none, rfl, s06, d6, r6⟩ (fun i σ H' _ ⟨_, _, _, z, _⟩ => z) ?_ ?_
   ·rintro i ky vl q σ H8 e1 e2 ⟨u3, rfl, s8, d8, r8⟩;obtain ⟨y, hy, rfl⟩ := o5.keys.at e1;rw [kk_nl] at e2;walk_at "r";refine ⟨.inl ⟨rfl, _, SqL.of r8⟩, ?_⟩;walk_at "r";have fi := way_ftake hy;have f3 := fl3 (i + 1);rw [fi, List.length_append] at f3;refine rd_extT r8 (SqT.of e2) (by rw [nl_len, nl_len]; exact Nat.le_trans f3 (by decide)) ?_;refine ⟨some (.ref q), rfl, fun b o e => But.upd _ _ (s8 _ _ e) (ne_of_none e r0), But.upd _ _ d8 (Ne.symm rd0), ?_⟩;rw [upd_same, fi, nl_app2]
   ·rintro σ H8 ⟨u3, rfl, s8, d8, r8⟩;rw [List.take_of_length_le (by omega)] at r8;walk_at "r";refine rd_lstE rfl fun p hp => ?_;have s9 : Same H8 (upd H8 p (.lst [.int 0])) := Same.new hp;have p9 : (upd H8 p (.lst [.int 0])) p = some (.lst [.int 0]) := upd_same;generalize upd H8 p (.lst [.int 0]) = H9 at *;show tSSet _ _ _ _;show tVar _ _ _ _;refine rd_var rfl ?_;refine ⟨r, (ws.flatMap fun x => x.amounts).map fun (n : Nat) => (n : Int), rfl, by rw [ints_nl]; exact s9 _ _ r8, fun n hn => ?_, fun out q o1 o2 o3 hq => ?_⟩
    ·obtain ⟨m, hm, rfl⟩ := List.mem_map.mp hn;have := a12 m hm;omega
    have s10 : Same H9 (upd H9 q (.lst (out.map V.int))) := Same.new hq;have q10 : (upd H9 q (.lst (out.map V.int))) q = some (.lst (out.map V.int)) := upd_same;generalize upd H9 q (.lst (out.map V.int)) = H10 at *;have ec := can_eq (am := ws.flatMap fun x => x.amounts) o1 o2 (fun x => by
     rw [o3, List.mem_map];constructor
     ·rintro ⟨n, hn, rfl⟩;exact ⟨n, hn, rfl⟩
     ·rintro ⟨n, hn, rfl⟩;exact ⟨n, hn, rfl⟩) a12
    have ol : out.length <= 13 := by
     rw [ec, List.length_map];exact Nat.le_trans (List.length_filter_le _ _) (by rw [List.length_range]; decide)
    refine ⟨p, q, _, _, rfl, rfl, s10 _ _ p9, q10, ?_, fun r1 hr1 => ?_⟩
    ·rw [List.length_map];exact Nat.le_trans (show 1 + out.length <= 14 by omega) (by decide)
    refine done_same hLS kk ((s8.trans s9).trans s10) hr1 (by rw [st]; rfl) ?_;rw [st, ec];show V.int 0 :: (((List.range 13).filter fun n => ws.any fun x => x.amounts.contains n).map fun (n : Nat) => (n : Int)).map V.int = V.int 0 :: (((List.range 13).filter fun n => (ws.flatMap fun x => x.amounts).contains n).map fun (n : Nat) => (n : Int)).map V.int;congr 4;funext n;rw [Bool.eq_iff_iff, List.any_eq_true, List.contains_iff_mem, List.mem_flatMap];simp only [List.contains_iff_mem]
  ·rw [if_neg hw] at st;rw [Bool.eq_false_iff.mpr hw];refine iteT ?_;walk_at "r";refine rd_lstE rfl fun r hr => ?_;exact done_same hLS kk s1 hr (by rw [st]; rfl) (by rw [st]; rfl)
open Vbtaam (Way found steps)
theorem pre_at {pre r : List Int} {p : Int} : ((pre ++ p :: r).map V.int)[pre.length]? = some (.int p) := by
 rw [List.getElem?_map, List.getElem?_append_right (Nat.le_refl _), Nat.sub_self];rfl
theorem pre_at2 {pre r : List Int} {p : Int} {j : Nat} {y : Int} (h : (p :: r)[j]? = some y) : ((pre ++ p :: r).map V.int)[pre.length + j]? = some (.int y) := by
 rw [List.getElem?_map, List.getElem?_append_right (by omega), Nat.add_sub_cancel_left, h];rfl
def spBehind (K : PySem.W.Frag) : Sp := fun us H Q _ => ∃ (cA : Addr) (pre r : List Int) (p : Int) (c : List (List Int)) (tl : List Int), us = [.ref cA, .int (pre.length : Nat)] /\ SqL K H cA ((pre ++ p :: r).map V.int) /\ One (p :: r) c tl /\ ∀ args : List Int, r = args ++ tl -> Q (.int ((pre.length + 1 + args.length : Nat) : Int)) H
theorem ok_behind_call (F : Fun K "behind_call" "behind_call" s_behind_call f fd) (T : Txt P K mg t) : FnOk P w K mg base CX0 34 f fd p_behind_call (spBehind K) := by
 refine F.ok sc_behind_call (fun vs H Q E h => ?_) (fun cdv A outer s H vs Q E hr h => ?_)
 ·obtain ⟨_, _, _, _, _, _, rfl, _⟩ := h;rfl
 ·obtain ⟨cA, pre, r, p, c, tl, rfl, hc, h1, k⟩ := h;have nd := sc_behind_call.nd;have hp := pre_at (pre := pre) (r := r) (p := p);refine ⟨_, (pss_cons (ps_set (i := 2) nd rfl (by walk_at "o") (pe_op op_add (pe_op op_add (pv 1) pe_int) (pe_ix ix_tup (pe_glob (v := .ref t.aT) rfl T.m_TOLD rfl) (pe_ix ix_list (pv 0) (pv 1) (fun _ _ => rfl)) (fun _ _ => rfl)))) (pss_cons (ps_if (pt_cmpR op_eq (pe_ix ix_list (pv 0) (pv 1) (fun _ _ => rfl)) (pe_cI T.c_CHECK rfl) (nomark _)) (pss_one (ps_ret (pe_op op_add (pv 2) (pe_ix ix_list (pv 0) (pe_op op_sub (pv 2) pe_int) (fun _ _ => rfl))))) pss_nil) (pss_one (ps_ret (pv 2))))), ?_⟩;walk_at "r";refine rd_ixL hc (at_of (j := pre.length) rfl hp) ?_;cases h1
  case check a v n row =>
   refine rd_ixT (T.n_TOLD H) rfl ?_;walk_at "r";refine rd_ixL hc (at_of (j := pre.length) rfl hp) ?_;walk_at "r";refine iteT ?_;walk_at "r";refine rd_ixL hc (at_of (j := pre.length + 4) (by show (pre.length : Int) + 1 + 4 - 1 = ((pre.length + 4 : Nat) : Int); omega) (pre_at2 (j := 4) rfl)) ?_;walk_at "r";have e := k (a :: v :: n :: (row.length : Int) :: row) rfl;have e2 : ((pre.length + 1 + (a :: v :: n :: (row.length : Int) :: row).length : Nat) : Int) = (pre.length : Int) + 1 + 4 + (row.length : Int) := by simp only [List.length_cons]; omega
   rw [e2] at e;exact e
  case vessel x =>
   refine rd_ixT (T.n_TOLD H) rfl ?_;walk_at "r";refine rd_ixL hc (at_of (j := pre.length) rfl hp) ?_;walk_at "r";refine iteF ?_;walk_at "r";have e := k [x] rfl;have e2 : ((pre.length + 1 + ([x] : List Int).length : Nat) : Int) = (pre.length : Int) + 1 + 1 := by simp only [List.length_cons, List.length_nil]; omega
   rw [e2] at e;exact e
  case fill v k' =>
   refine rd_ixT (T.n_TOLD H) rfl ?_;walk_at "r";refine rd_ixL hc (at_of (j := pre.length) rfl hp) ?_;walk_at "r";refine iteF ?_;walk_at "r";have e := k [v, k'] rfl;have e2 : ((pre.length + 1 + ([v, k'] : List Int).length : Nat) : Int) = (pre.length : Int) + 1 + 2 := by simp only [List.length_cons, List.length_nil]; omega
   rw [e2] at e;exact e
  case drain v =>
   refine rd_ixT (T.n_TOLD H) rfl ?_;walk_at "r";refine rd_ixL hc (at_of (j := pre.length) rfl hp) ?_;walk_at "r";refine iteF ?_;walk_at "r";have e := k [v] rfl;have e2 : ((pre.length + 1 + ([v] : List Int).length : Nat) : Int) = (pre.length : Int) + 1 + 1 := by simp only [List.length_cons, List.length_nil]; omega
   rw [e2] at e;exact e
  case pour a b =>
   refine rd_ixT (T.n_TOLD H) rfl ?_;walk_at "r";refine rd_ixL hc (at_of (j := pre.length) rfl hp) ?_;walk_at "r";refine iteF ?_;walk_at "r";have e := k [a, b] rfl;have e2 : ((pre.length + 1 + ([a, b] : List Int).length : Nat) : Int) = (pre.length : Int) + 1 + 2 := by simp only [List.length_cons, List.length_nil]; omega
   rw [e2] at e;exact e
  case some_ a b p q =>
   refine rd_ixT (T.n_TOLD H) rfl ?_;walk_at "r";refine rd_ixL hc (at_of (j := pre.length) rfl hp) ?_;walk_at "r";refine iteF ?_;walk_at "r";have e := k [a, b, p, q] rfl;have e2 : ((pre.length + 1 + ([a, b, p, q] : List Int).length : Nat) : Int) = (pre.length : Int) + 1 + 4 := by simp only [List.length_cons, List.length_nil]; omega
   rw [e2] at e;exact e
  case state =>
   refine rd_ixT (T.n_TOLD H) rfl ?_;walk_at "r";refine rd_ixL hc (at_of (j := pre.length) rfl hp) ?_;walk_at "r";refine iteF ?_;walk_at "r";have e := k [] rfl;have e2 : ((pre.length + 1 + ([] : List Int).length : Nat) : Int) = (pre.length : Int) + 1 + 0 := by simp only [List.length_cons, List.length_nil]; omega
   rw [e2] at e;exact e
  case strength v k' =>
   refine rd_ixT (T.n_TOLD H) rfl ?_;walk_at "r";refine rd_ixL hc (at_of (j := pre.length) rfl hp) ?_;walk_at "r";refine iteF ?_;walk_at "r";have e := k [v, k'] rfl;have e2 : ((pre.length + 1 + ([v, k'] : List Int).length : Nat) : Int) = (pre.length : Int) + 1 + 2 := by simp only [List.length_cons, List.length_nil]; omega
   rw [e2] at e;exact e
  case way a v n =>
   refine rd_ixT (T.n_TOLD H) rfl ?_;walk_at "r";refine rd_ixL hc (at_of (j := pre.length) rfl hp) ?_;walk_at "r";refine iteF ?_;walk_at "r";have e := k [a, v, n] rfl;have e2 : ((pre.length + 1 + ([a, v, n] : List Int).length : Nat) : Int) = (pre.length : Int) + 1 + 3 := by simp only [List.length_cons, List.length_nil]; omega
   rw [e2] at e;exact e
  case can a =>
   refine rd_ixT (T.n_TOLD H) rfl ?_;walk_at "r";refine rd_ixL hc (at_of (j := pre.length) rfl hp) ?_;walk_at "r";refine iteF ?_;walk_at "r";have e := k [a] rfl;have e2 : ((pre.length + 1 + ([a] : List Int).length : Nat) : Int) = (pre.length : Int) + 1 + 1 := by simp only [List.length_cons, List.length_nil]; omega
   rw [e2] at e;exact e
  case proof a v n =>
   refine rd_ixT (T.n_TOLD H) rfl ?_;walk_at "r";refine rd_ixL hc (at_of (j := pre.length) rfl hp) ?_;walk_at "r";refine iteF ?_;walk_at "r";have e := k [a, v, n] rfl;have e2 : ((pre.length + 1 + ([a, v, n] : List Int).length : Nat) : Int) = (pre.length : Int) + 1 + 3 := by simp only [List.length_cons, List.length_nil]; omega
   rw [e2] at e;exact e
  case gcd =>
   refine rd_ixT (T.n_TOLD H) rfl ?_;walk_at "r";refine rd_ixL hc (at_of (j := pre.length) rfl hp) ?_;walk_at "r";refine iteF ?_;walk_at "r";have e := k [] rfl;have e2 : ((pre.length + 1 + ([] : List Int).length : Nat) : Int) = (pre.length : Int) + 1 + 0 := by simp only [List.length_cons, List.length_nil]; omega
   rw [e2] at e;exact e
  case ledger =>
   refine rd_ixT (T.n_TOLD H) rfl ?_;walk_at "r";refine rd_ixL hc (at_of (j := pre.length) rfl hp) ?_;walk_at "r";refine iteF ?_;walk_at "r";have e := k [] rfl;have e2 : ((pre.length + 1 + ([] : List Int).length : Nat) : Int) = (pre.length : Int) + 1 + 0 := by simp only [List.length_cons, List.length_nil]; omega
   rw [e2] at e;exact e
end
end Vr
namespace Vr
open PySem PySem.Spec PyProof.Rows L2
open Vbtaam (Way found steps)
theorem bfs_all {cs : List Nat} {tap : Bool} {w0 : Vbtaam.Amounts} : ∀ (m : Nat) (ws : List Way) (a : Nat), Vbtaam.size cs + 1 - a <= m -> Bfs cs tap w0 ws a -> (found cs tap w0).length <= Vbtaam.size cs /\ ∀ w ∈ found cs tap w0, InBox cs w.amounts
 | 0, ws, a, h, B => by
  have h1 := B.le;have h2 := B.size;omega
 | m + 1, ws, a, h, B => by
  by_cases e : ws.length <= a
  ·rw [bfs_end B e];exact ⟨B.size, B.box⟩
  ·have ha : a < ws.length := by omega
   exact bfs_all m _ (a + 1) (by omega) (bfs_turn B (List.getElem?_eq_getElem ha))
theorem no_len (s : Vbtaam.State) (k : Nat) : (Vbtaam.no s k).2.length = 1 := rfl
theorem yes_len (s : Vbtaam.State) (l : List Nat) : (Vbtaam.yes s l).2.length = l.length + 1 := by
 unfold Vbtaam.yes;rw [List.length_cons, List.length_map]
theorem row_l2 (x : Vbtaam.Frac) : (Vbtaam.row x).length = 2 := rfl
theorem tri_row {l : List Vbtaam.Frac} : (l.flatMap Vbtaam.row).length = 2 * l.length := by
 induction l with
 | nil => rfl
 | cons x l ih =>
  rw [List.flatMap_cons, List.length_append, row_l2, ih, List.length_cons];omega
theorem step_len {k : Nat} {S : Vbtaam.State} {vs : List Mx} {g : Mx} (R : Rel k S vs g) (d : Vbtaam.Call) : (Vbtaam.step S d).2.length <= 7000 := by
 obtain ⟨lenS, le3⟩ := R.lens;have l3 : (Vbtaam.caps S).length <= 3 := by rw [caps_len]; omega
 have sz := size_le R.c12 l3;cases d with
 | way tap v n =>
  rw [step_way R]
  split
  ·rw [no_len]; omega
  ·split
   ·rename_i hw;cases h : (found (Vbtaam.caps S) (tap == 1) (vs.map fun m => m.c.num)).find? fun x => Vbtaam.at_ x.amounts v.toNat == n.toNat with
    | none => show (Vbtaam.yes S [0]).2.length <= 7000; rw [yes_len]; decide
    | some x =>
     show (Vbtaam.yes S (1 :: x.path.reverse)).2.length <= 7000;rw [yes_len, List.length_cons, List.length_reverse];have := found_path (List.mem_of_find?_eq_some h);omega
   ·rw [no_len]; omega
 | proof tap v n =>
  rw [step_proof R]
  split
  ·rw [no_len]; omega
  ·split
   ·rename_i hw
    split
    ·rw [no_len]; omega
    ·rw [yes_len];obtain ⟨h1, h2⟩ := bfs_all (tap := tap == 1) _ _ 0 (Nat.le_refl _) (bfs_start (R.box hw));have := way_flen l3 _ h2;omega
   ·rw [no_len]; omega
 | check tap v n l =>
  rw [step_check R]
  split
  ·rw [no_len]; omega
  ·split
   ·rw [yes_len]; show 1 + 1 <= 7000; omega
   ·rw [no_len]; omega
 | can tap =>
  unfold Vbtaam.step;dsimp only
  split
  ·rw [no_len]; omega
  ·split
   ·rw [no_len]; omega
   ·rw [yes_len];have : ((List.range (Vbtaam.CAP + 1)).filter fun n => (found (Vbtaam.caps S) (tap == 1) ‹_›).any fun x => x.amounts.contains n).length <= 13 := Nat.le_trans (List.length_filter_le _ _) (by rw [List.length_range]; decide);omega
 | state =>
  show (Vbtaam.yes S _).2.length <= 7000;rw [yes_len];have h : ∀ l : List Vbtaam.Vessel, (∀ v ∈ l, v.has.length = 3) -> (l.flatMap fun v => v.cap :: (Vbtaam.row (Vbtaam.content v) ++ v.has.flatMap Vbtaam.row)).length = 9 * l.length := by
   intro l
   induction l with
   | nil => intro _; rfl
   | cons v l ih =>
    intro hv;rw [List.flatMap_cons, List.length_append, ih fun u hu => hv u (by simp [hu]), List.length_cons, List.length_append, row_l2, tri_row, hv v (by simp), List.length_cons];omega
  rw [h S.vessels fun v hv => by
   obtain ⟨i, hi⟩ := List.mem_iff_getElem?.mp hv;obtain ⟨v', hv', r, _⟩ := R.at_ (i := i) (m := vs[i]'(by rw [lenS]; exact (List.getElem?_eq_some_iff.mp hi).1)) (List.getElem?_eq_getElem _);cases hi.symm.trans hv';obtain ⟨x, y, z, k⟩ := r.ok;rw [k.eq]
   rfl]
  omega
 | gcd => show (Vbtaam.yes S [_]).2.length <= 7000; rw [yes_len]; show 1 + 1 <= 7000; omega
 | ledger =>
  show (Vbtaam.yes S _).2.length <= 7000;rw [yes_len, List.length_append, tri_row, tri_row];obtain ⟨_, _, r⟩ := id R;obtain ⟨x, y, z, T, _⟩ := r.put;obtain ⟨x1, y1, z1, k1⟩ := R.grel.ok;have e1 : S.put.length = 3 := by rw [T.eq]; rfl
  have e2 : S.gone.length = 3 := by
   have : (gv S).has = S.gone := rfl;rw [<- this, k1.eq];rfl
  rw [e1, e2];omega
 | _ =>
  unfold Vbtaam.step;dsimp only
  repeat' split
  all_goals first | (rw [no_len]; omega) | (rw [yes_len]; show _ + 1 <= 7000; first | (rw [row_l2]; omega) | (show 1 + 1 <= 7000; omega))
section
variable {P : Program} {w : World} {K : PySem.W.Frag} {mg : Str -> Option Value} {base : Heap} {t : Ad} {f : Addr} {fd : FuncData}
def Off (H : Hp) (a : Addr) : Prop := H a = none ∨ ∃ o xs, H a = some (.frz o (.lst xs))
theorem Off.ne {H : Hp} {a b : Addr} {u : HO} (h : Off H a) (e : H b = some u) (n : ∀ o xs, u ≠ .frz o (.lst xs)) : b ≠ a := fun z => by
 subst z;rcases h with h | ⟨o, xs, h⟩
 ·rw [h] at e; cases e
 ·rw [h] at e; exact n o xs (Option.some.inj e).symm
theorem Off.sqT {H H' : Hp} {a b : Addr} {xs : List V} (h : Off H a) (B : But a H H') (e : SqT K H b xs) : SqT K H' b xs := by
 rcases e with (e | ⟨o, e⟩) | e
 ·exact .inl (.inl (B _ _ e (h.ne e fun _ _ z => by cases z)))
 ·exact .inl (.inr ⟨o, B _ _ e (h.ne e fun _ _ z => by cases z)⟩)
 ·exact .inr e
theorem Off.mat {av : List Addr} {H H' : Hp} {a p C : Addr} {o : Option Nat} {m : Mx} (h : Off H a) (B : But a H H') (M : MAt K av H p C o m) : MAt K av H' p C o m := by
 obtain ⟨dx, c, sA, k, ks, h1, h2, h3, h4, h5, h6, h7⟩ := M;exact ⟨dx, c, sA, k, ks, B _ _ h1 (h.ne h1 fun _ _ z => by cases z), h.sqT B h2, B _ _ h3 (h.ne h3 fun _ _ z => by cases z), B _ _ h4 (h.ne h4 fun _ _ z => by cases z), h5, h6, h7.imp fun _ _ => h.sqT B⟩
theorem Off.ls {H H' : Hp} {a ln l fl : Addr} {k : Nat} {S : Vbtaam.State} (h : Off H a) (B : But a H H') (L : LS K t k H ln l fl S) : LS K t k H' ln l fl S := by
 obtain ⟨dx, ga, as, pf, vs, g, L, R⟩ := L;exact ⟨dx, ga, as, pf, vs, g, ⟨B _ _ L.at_ (h.ne L.at_ fun _ _ z => by cases z), B _ _ L.vl (h.ne L.vl fun _ _ z => by cases z), L.nd, L.la, L.lc, B _ _ L.fll (h.ne L.fll fun _ _ z => by cases z), L.fs.imp fun _ _ => h.sqT B, L.ne, h.mat B L.go, fun i a m n h1 h2 h3 => h.mat B (L.ve i a m n h1 h2 h3), L.gn, L.ln1, L.ln2⟩, R⟩
theorem LS.lists {H : Hp} {ln l fl : Addr} {k : Nat} {S : Vbtaam.State} (L : LS K t k H ln l fl S) : (∃ xs, H l = some (.lst xs)) /\ ∃ xs, H fl = some (.lst xs) := by
 obtain ⟨dx, ga, as, pf, vs, g, L, R⟩ := L;exact ⟨⟨_, L.vl⟩, _, L.fll⟩
def okI : Nat -> List Int -> Vbtaam.Call -> Prop
 | 0 => okVessel
 | 1 => okFill
 | 2 => okDrain
 | 3 => okPour
 | 4 => okSome
 | 5 => okState
 | 6 => okStr
 | 7 => okWay
 | 8 => okCan
 | 9 => okProof
 | 10 => okCheck
 | 11 => okGcd
 | 12 => okLedger
 | _ => fun _ _ => False
theorem one_call {p : Int} {r : List Int} {c : List (List Int)} {tl : List Int} (h : One (p :: r) c tl) (ha : VbtaamNeutral.asked1 c = true) : ∃ (i : Nat) (args : List Int) (d : Vbtaam.Call), p = (i : Int) /\ i < 13 /\ r = args ++ tl /\ okI i args d /\ VbtaamNeutral.callOf c = some d := by
 cases h
 case vessel x => exact ⟨0, [x], .vessel x, rfl, by decide, rfl, ⟨x, rfl, rfl⟩, rfl⟩
 case fill v k => exact ⟨1, [v, k], .fill v k, rfl, by decide, rfl, ⟨v, k, rfl, rfl⟩, rfl⟩
 case drain v => exact ⟨2, [v], .drain v, rfl, by decide, rfl, ⟨v, rfl, rfl⟩, rfl⟩
 case pour a b => exact ⟨3, [a, b], .pour a b, rfl, by decide, rfl, ⟨a, b, rfl, rfl⟩, rfl⟩
 case some_ a b p q => exact ⟨4, [a, b, p, q], .some_ a b p q, rfl, by decide, rfl, ⟨a, b, p, q, rfl, rfl⟩, rfl⟩
 case state => exact ⟨5, [], .state, rfl, by decide, rfl, ⟨rfl, rfl⟩, rfl⟩
 case strength v k => exact ⟨6, [v, k], .strength v k, rfl, by decide, rfl, ⟨v, k, rfl, rfl⟩, rfl⟩
 case way a v n => exact ⟨7, [a, v, n], .way a v n, rfl, by decide, rfl, ⟨a, v, n, rfl, rfl⟩, rfl⟩
 case can a => exact ⟨8, [a], .can a, rfl, by decide, rfl, ⟨a, rfl, rfl⟩, rfl⟩
 case proof a v n => exact ⟨9, [a, v, n], .proof a v n, rfl, by decide, rfl, ⟨a, v, n, rfl, rfl⟩, rfl⟩
 case check a v n row =>
  refine ⟨10, a :: v :: n :: (row.length : Int) :: row, .check a v n row, rfl, by decide, rfl, ⟨a, v, n, _, row, rfl, rfl, ?_⟩, rfl⟩;have ha : (VbtaamNeutral.whole60 a && (VbtaamNeutral.whole60 v && (VbtaamNeutral.whole60 n && (decide (row.length <= 7000) && row.all (fun (z : Int) => VbtaamNeutral.whole60 z))))) = true := ha;simp only [Bool.and_eq_true] at ha;exact Nat.lt_of_le_of_lt (of_decide_eq_true ha.2.2.2.1) (by decide)
 case gcd => exact ⟨11, [], .gcd, rfl, by decide, rfl, ⟨rfl, rfl⟩, rfl⟩
 case ledger => exact ⟨12, [], .ledger, rfl, by decide, rfl, ⟨rfl, rfl⟩, rfl⟩
def Works (P : Program) (w : World) (K : PySem.W.Frag) (mg : Str -> Option Value) (base : Heap) (t : Ad) : Prop := ∀ i, i < 13 -> ∃ (f : Addr) (fd : FuncData) (ps : List Str), t.ws[i]? = some f /\ FnOk P w K mg base CX0 41 f fd ps (spC K t (okI i)) /\ PySem.W.keepIn K (.ref f) = true /\ Binds K fd ps []
def spAns (K : PySem.W.Frag) : Sp := fun us H Q _ => ∃ (cA : Addr) (l : List Int) (n : Nat) (cs : List (List (List Int))), us = [.ref cA] /\ ((∃ o, H cA = some (.frz o (.lst (l.map V.int)))) ∨ ∀ H', SqL K H' cA (l.map V.int)) /\ PyFlat.calls PyVbtaam.shape n l = some cs /\ cs.all VbtaamNeutral.asked1 = true /\ cs.length <= 200 /\ l ≠ [] /\ ∀ (H' : Hp) (r : Addr), H' r = some (.lst ((PyFlat.told (PyFlat.played VbtaamNeutral.step VbtaamNeutral.start cs)).map V.int)) -> Q (.ref r) H'
theorem ok_answers (F : Fun K "answers" "answers" s_answers f fd) (T : Txt P K mg t) (C_Line : CDef P w K mg base 36 "Line" t.CL p_Line_init (spLInit K t)) (D_behind_call : Def P w K mg base 34 "behind_call" p_behind_call (spBehind K)) (W : Works P w K mg base t) : FnOk P w K mg base CX0 42 f fd p_answers (spAns K) := by
 refine F.ok sc_answers (fun vs H Q E h => ?_) (fun cdv A outer s H vs Q E hr h => ?_)
 ·obtain ⟨_, _, _, _, rfl, _⟩ := h;rfl
 ·obtain ⟨cA, l0, n0, cs0, rfl, hc, hcs, hask, h200, lne, k⟩ := h;have nd := sc_answers.nd;obtain ⟨Z, z0, zs, zk⟩ : ∃ Z : Hp -> Prop, Z H /\ (∀ H', Z H' -> SqL K H' cA (l0.map V.int)) /\ ∀ H' H'', Z H' -> (∀ o, H' cA = some (.frz o (.lst (l0.map V.int))) -> H'' cA = some (.frz o (.lst (l0.map V.int)))) -> Z H'' := by
   rcases hc with hc | hc
   ·exact ⟨fun H' => ∃ o, H' cA = some (.frz o (.lst (l0.map V.int))), hc, fun H' ⟨o, e⟩ => .inl (.inr ⟨o, e⟩), fun H' H'' ⟨o, e⟩ h => ⟨o, h o e⟩⟩
   ·exact ⟨fun _ => True, True.intro, fun H' _ => hc H', fun _ _ _ _ => True.intro⟩
  refine ⟨_, (pss_cons (ps_set (i := 1) nd rfl (by walk_at "o") (pe_cls0 C_Line (hr.mono (by decide)) rfl)) (pss_cons (ps_set (i := 2) nd rfl (by walk_at "o") (pe_lst pa_nil)) (pss_cons (ps_set (i := 3) nd rfl (by walk_at "o") pe_int) (pss_cons (ps_while PassesOwn.never (pt_cmpR op_lt (pv 3) (pe_callB call_len_seq (by rfl) T.b_len bt_len (pa_cons (pv 0) pa_nil)) (nomark _)) (pss_cons (ps_set (i := 4) nd rfl (by walk_at "o") (pe_ix ix_tup (pe_glob (v := .ref t.aW) rfl T.m_WORKS rfl) (pe_ix ix_list (pv 0) (pv 3) (fun _ _ => rfl)) (fun _ _ => rfl))) (pss_cons (ps_set (i := 5) nd rfl (by walk_at "o") (pe_def D_behind_call (hr.mono (by decide)) rfl (pa_cons (pv 0) (pa_cons (pv 3) pa_nil)))) (pss_cons (ps_lock (ps_set (i := 6) nd rfl (by walk_at "o") (pe_callV 4 rfl (by first | exact Or.inl rfl | exact Or.inr (Or.inl rfl)) (pa_cons (pv 1) (pa_cons (pe_slice sl_list (pv 0) (po_some (pe_op op_add (pv 3) pe_int)) (po_some (pv 5))) pa_nil))))) (pss_cons (ps_expr (pe_bm PySem.F.plainAttrs_list PySem.F.slot_list_append PySem.F.type_list_append mt_append (pv 2) (pa_cons (pe_callB call_len_seq (by rfl) T.b_len bt_len (pa_cons (pv 6) pa_nil)) pa_nil))) (pss_cons (ps_expr (pe_bm PySem.F.plainAttrs_list PySem.F.slot_list_extend PySem.F.type_list_extend mt_extend (pv 2) (pa_cons (pv 6) pa_nil))) (pss_one (ps_set (i := 3) nd rfl (by walk_at "o") (pv 5))))))))) (pss_one (ps_ret (pv 2))))))), ?_⟩;walk_at "r";intro ln dx nln ndx nxl;have s1 : Same H (upd (upd H dx (.own ln)) ln (.ins t.CL dx [])) := fun b o e => by rw [upd_ne (ne_of_none e nln), upd_ne (ne_of_none e ndx)]; exact e
  refine ⟨ln, dx, rfl, upd_same, fun H1 L1 B1 => ⟨rfl, ?_⟩⟩;obtain ⟨dx1, l, fl, ga, as, pf, L1⟩ := L1;have c1 : Z H1 := zk _ _ z0 fun o e => B1 _ _ (s1 _ _ e) (ne_of_none e nln);have a0 : as = [] := List.length_eq_zero_iff.mp (by rw [L1.la]; rfl);subst a0;have LS1 : LS K t 0 H1 ln l fl Vbtaam.start := ⟨dx1, ga, [], pf, [], _, L1, rel_start⟩;walk_at "r";refine rd_lstE rfl fun gA hg => ?_;have g2 : (upd H1 gA (.lst [])) gA = some (.lst (([] : List Int).map V.int)) := upd_same;have off : ∀ H'', But gA (upd H1 gA (.lst [])) H'' -> LS K t 0 H'' ln l fl Vbtaam.start := fun H'' B => Off.ls (.inl hg) (But.trans But.upd B) LS1;have c2 : Z (upd H1 gA (.lst [])) := zk _ _ c1 fun o e => Same.new hg _ _ e;have gl : gA ≠ l := fun e => by rw [e, L1.vl] at hg; cases hg
  have gf : gA ≠ fl := fun e => by rw [e, L1.fll] at hg; cases hg
  generalize upd H1 gA (.lst []) = H2 at *;walk_at "r";refine ⟨fun m σ H' => ∃ (k n : Nat) (S : Vbtaam.State) (pre rest gv : List Int) (cs : List (List (List Int))) (u4 u5 u6 : Option V), σ = [some (.ref cA), some (.ref ln), some (.ref gA), some (.int (pre.length : Nat)), u4, u5, u6] /\ m = rest.length /\ l0 = pre ++ rest /\ PyFlat.calls PyVbtaam.shape n rest = some cs /\ cs.all VbtaamNeutral.asked1 = true /\ k + cs.length <= 200 /\ gv.length <= 7001 * k /\
   PyFlat.told (PyFlat.played VbtaamNeutral.step VbtaamNeutral.start cs0) = gv ++ PyFlat.told (PyFlat.played VbtaamNeutral.step S cs) /\ Z H' /\ H' gA = some (.lst (gv.map V.int)) /\ ∀ H'', But gA H' H'' -> LS K t k H'' ln l fl S,
   ⟨_, 0, n0, Vbtaam.start, [], l0, [], cs0, none, none, none, rfl, rfl, rfl, hcs, hask, by omega, by simp, rfl, c2, g2, off⟩, ?_⟩
  rintro m σ H3 ⟨kn, n, S, pre, rest, gv, cs, u4, u5, u6, rfl, rfl, el, hcs3, ask3, k3, gl3, told3, c3, g3, off3⟩;have LS3 := off3 H3 But.refl;walk_at "r";refine ⟨cA, _, rfl, .inl (zs _ c3), ?_⟩;walk_at "r";rw [List.length_map];refine ite2 (fun c => ?_) (fun c => ?_)
  ·have c : (pre.length : Int) < (l0.length : Int) := of_decide_eq_true c;obtain ⟨p, r, rfl⟩ : ∃ p r, rest = p :: r := by
    cases rest with
    | nil => rw [el, List.append_nil] at c; omega
    | cons p r => exact ⟨p, r, rfl⟩
   obtain ⟨n', ca, tl, cs', h1, rfl, hcs'⟩ := calls_cons hcs3;rw [List.all_cons, Bool.and_eq_true] at ask3;obtain ⟨i, args, d, rfl, hi, rfl, hok, hcall⟩ := one_call h1 ask3.1;obtain ⟨fw, fdw, psw, hws, FN, hkeep, hb⟩ := W i hi;rw [List.length_cons] at k3;refine ⟨fun σ' H' => ∃ (gv : List Int) (u4 u5 u6 : Option V), σ' = [some (.ref cA), some (.ref ln), some (.ref gA), some (.int ((pre.length + 1 + args.length : Nat) : Int)), u4, u5, u6] /\ gv.length <= 7001 * (kn + 1) /\ PyFlat.told (PyFlat.played VbtaamNeutral.step VbtaamNeutral.start cs0) = gv ++ PyFlat.told (PyFlat.played VbtaamNeutral.step (Vbtaam.step S d).1 cs') /\ Z H' /\ H' gA = some (.lst (gv.map V.int)) /\ ∀ H'', But gA H' H'' -> LS K t (kn + 1) H'' ln l fl (Vbtaam.step S d).1, ?_, ?_⟩
   ·rintro σ' H' ⟨gv, u4, u5, u6, rfl, z1, z2, z3, z4, z5⟩;refine ⟨tl.length, by simp only [List.length_cons, List.length_append]; omega, kn + 1, n', _, pre ++ (i : Int) :: args, tl, gv, cs', u4, u5, u6, ?_, rfl, by rw [el, List.append_assoc]; rfl, hcs', ask3.2, by omega, z1, z2, z3, z4, z5⟩;rw [List.length_append, List.length_cons];have e : pre.length + 1 + args.length = pre.length + (args.length + 1) := by omega
    rw [e]
   have ng : ∀ o, H3 cA = some (.frz o (.lst (l0.map V.int))) -> cA ≠ gA := fun o e => ne_of e g3 (by intro z; cases z);have zs' : ∀ H', Z H' -> SqL K H' cA ((pre ++ (i : Int) :: (args ++ tl)).map V.int) := fun H' z => by rw [<- el]; exact zs H' z
   have c3' := zs' _ c3;walk_at "r";refine rd_ixL c3' (at_of (j := pre.length) rfl pre_at) ?_;refine rd_ixT (T.n_WORKS H3) (at_of (j := i) rfl (refs_get hws)) ?_;walk_at "r";refine ⟨cA, pre, args ++ tl, i, ca, tl, rfl, c3', h1, fun args' ea => ?_⟩;have ea : args' = args := (List.append_cancel_right ea).symm;subst ea;walk_at "r";refine ⟨gA, _, g3, True.intro, fun od => ?_⟩;have B4 : But gA H3 (upd H3 gA (.frz od (.lst (gv.map V.int)))) := But.upd;have g4 : (upd H3 gA (.frz od (.lst (gv.map V.int)))) gA = some (.frz od (.lst (gv.map V.int))) := upd_same;have k4 : ∀ o, H3 cA = some (.frz o (.lst (l0.map V.int))) -> (upd H3 gA (.frz od (.lst (gv.map V.int)))) cA = some (.frz o (.lst (l0.map V.int))) := fun o e => B4 _ _ e (ng o e);have c4 : Z (upd H3 gA (.frz od (.lst (gv.map V.int)))) := zk _ _ c3 k4;generalize upd H3 gA (.frz od (.lst (gv.map V.int))) = H4 at *;walk_at "r";refine ⟨fw, fdw, psw, _, 41, rfl, FN, hr.mono (by decide), hkeep, hb, ?_⟩;walk_at "r";refine rd_var rfl ?_;show tOp _ _ _ _ _ _;walk_at "r";refine ⟨_, rfl, ?_⟩;refine rd_var rfl ⟨_, rfl, ?_⟩;refine ⟨cA, _, rfl, zs' _ c4, fun ta hta => ?_⟩;have ecut : cutV ((pre ++ (i : Int) :: (args' ++ tl)).map V.int) (some ((pre.length : Int) + 1)) (some ((pre.length + 1 + args'.length : Nat) : Int)) = args'.map V.int := by
    have e1 : (pre.length : Int) + 1 = ((pre.length + 1 : Nat) : Int) := by omega
    unfold cutV;rw [e1, HT.sIx_nat, HT.sIx_nat];have e2 : min (pre.length + 1) ((pre ++ (i : Int) :: (args' ++ tl)).map V.int).length = pre.length + 1 := by simp only [List.length_map, List.length_append, List.length_cons]; omega
    have e3 : min (pre.length + 1 + args'.length) ((pre ++ (i : Int) :: (args' ++ tl)).map V.int).length = pre.length + 1 + args'.length := by simp only [List.length_map, List.length_append, List.length_cons]; omega
    rw [e2, e3, Nat.add_sub_cancel_left, <- List.map_drop, <- List.map_take];congr 1;have e4 : pre ++ (i : Int) :: (args' ++ tl) = (pre ++ [(i : Int)]) ++ (args' ++ tl) := by rw [List.append_assoc]; rfl
    have e5 : pre.length + 1 = (pre ++ [(i : Int)]).length := by rw [List.length_append]; rfl
    rw [e4, e5, List.drop_left, List.take_left]
   rw [ecut];have s5 : Same H4 (upd H4 ta (.lst (args'.map V.int))) := Same.new hta;have t5 : (upd H4 ta (.lst (args'.map V.int))) ta = some (.lst (args'.map V.int)) := upd_same;generalize upd H4 ta (.lst (args'.map V.int)) = H5 at *;have B5 : But gA H3 H5 := B4.trans s5.but;have LS5 := off3 H5 B5;have LS4 := off3 H4 B4;obtain ⟨⟨_, hl4⟩, _, hf4⟩ := LS4.lists;have tal : ta ≠ l := fun e => by rw [e, hl4] at hta; cases hta
   have taf : ta ≠ fl := fun e => by rw [e, hf4] at hta; cases hta
   have g5 := s5 _ _ g4;walk_at "r";refine ⟨ln, ta, l, fl, kn, S, args', d, rfl, t5, hok, LS5, by omega, tal, taf, fun H6 r L6 F6 r6 rn => ?_⟩;have g6 := F6 _ _ g5 gl gf noins_frz;obtain ⟨⟨_, hl5⟩, _, hf5⟩ := LS5.lists;have k6 : ∀ o, H3 cA = some (.frz o (.lst (l0.map V.int))) -> H6 cA = some (.frz o (.lst (l0.map V.int))) := fun o e => F6 _ _ (s5 _ _ (k4 o e)) (ne_of (s5 _ _ (k4 o e)) hl5 (by intro z; cases z)) (ne_of (s5 _ _ (k4 o e)) hf5 (by intro z; cases z)) noins_frz;have rg : r ≠ gA := fun e => by rw [e, g5] at rn; cases rn
   refine ⟨g6, ?_⟩;have off6 : Off H6 gA := .inr ⟨_, _, g6⟩;have B7 : But gA H6 (upd H6 gA (.lst (gv.map V.int))) := But.upd;have g7 : (upd H6 gA (.lst (gv.map V.int))) gA = some (.lst (gv.map V.int)) := upd_same;have k7 := fun o e => B7 _ _ (k6 o e) (ng o e);have r7 := B7 _ _ r6 rg;generalize upd H6 gA (.lst (gv.map V.int)) = H7 at *;obtain ⟨vs3, g3', _, R3, _⟩ := LS3.lat;have al := step_len R3 d;have gz : 7001 * kn + 7001 <= 7001 * 200 := by omega
   walk_at "r";refine ⟨.inl ⟨rfl, _, SqL.of g7⟩, ?_⟩;walk_at "r";refine ⟨r, _, rfl, .inl (SqL.of r7), ?_⟩;walk_at "r";refine rd_app g7 (Nat.lt_of_le_of_lt (show (gv.map V.int).length <= 7001 * 200 by rw [List.length_map]; omega) (by decide)) ?_;have B8 : But gA H7 (upd H7 gA (.lst (gv.map V.int ++ [.int (((Vbtaam.step S d).2.map V.int).length : Int)]))) := But.upd;have g8 : (upd H7 gA (.lst (gv.map V.int ++ [.int (((Vbtaam.step S d).2.map V.int).length : Int)]))) gA = some (.lst ((gv ++ [((Vbtaam.step S d).2.length : Int)]).map V.int)) := by rw [upd_same, List.length_map, List.map_append]; rfl
   have k8 := fun o e => B8 _ _ (k7 o e) (ng o e);have r8 := B8 _ _ r7 rg;generalize upd H7 gA (.lst (gv.map V.int ++ [.int (((Vbtaam.step S d).2.map V.int).length : Int)])) = H8 at *;walk_at "r";refine ⟨.inl ⟨rfl, _, SqL.of g8⟩, ?_⟩;walk_at "r";refine rd_ext g8 r8 (Nat.le_trans (show _ <= 7001 * 200 by rw [List.length_map, List.length_map, List.length_append]; simp only [List.length_cons, List.length_nil]; omega) (by decide)) ?_;rw [<- List.map_append];have B9 : But gA H8 (upd H8 gA (.lst (((gv ++ [((Vbtaam.step S d).2.length : Int)]) ++ (Vbtaam.step S d).2).map V.int))) := But.upd;have g9 : (upd H8 gA (.lst (((gv ++ [((Vbtaam.step S d).2.length : Int)]) ++ (Vbtaam.step S d).2).map V.int))) gA = some (.lst (((gv ++ [((Vbtaam.step S d).2.length : Int)]) ++ (Vbtaam.step S d).2).map V.int)) := upd_same;have k9 := fun o e => B9 _ _ (k8 o e) (ng o e);generalize upd H8 gA (.lst (((gv ++ [((Vbtaam.step S d).2.length : Int)]) ++ (Vbtaam.step S d).2).map V.int)) = H9 at *;walk_at "r";refine ⟨_, some (.ref fw), some (.int ((pre.length + 1 + args'.length : Nat) : Int)), some (.ref r), rfl, ?_, ?_, zk _ _ c3 k9, g9, fun H'' B => off6.ls (((B7.trans B8).trans B9).trans B) L6⟩
   ·simp only [List.length_append, List.length_cons, List.length_nil];omega
   ·have es : VbtaamNeutral.step S ca = Vbtaam.step S d := by
     unfold VbtaamNeutral.step;rw [hcall]
    rw [told3];show gv ++ PyFlat.told ((VbtaamNeutral.step S ca).2 :: PyFlat.played VbtaamNeutral.step (VbtaamNeutral.step S ca).1 cs') = _;rw [es];unfold PyFlat.told;rw [List.flatMap_cons, List.append_assoc, List.append_assoc];rfl
  ·have c : ¬ (pre.length : Int) < (l0.length : Int) := fun z => c (decide_eq_true z);have er : rest = [] := List.length_eq_zero_iff.mp (by rw [el, List.length_append] at c; omega);subst er;have ec := calls_nil hcs3;subst ec;walk_at "r";refine k _ gA ?_;rw [g3, told3];congr 3;exact (List.append_nil _).symm
end
end Vr
namespace Vr
open PySem PySem.Spec PyProof.Rows L2
open PySem.W (nsIn findIn isFn codeIn keepIn plainGet hasDictIn plainOver makesIn specialIn readsIn findCls mg_of mg_none_of)
abbrev fO (x q : Str) (st : Stmt) (oc : Value) (od : Option Addr) (kV dc pm : Value) (an : Option Addr) (cd ct : Value) (sl : Array (Option Value)) : Obj := ⟨oc, od, .func (PySem.W.fnOf x q (defArgs st) (defBody st) (defScope st) .none kV dc pm an cd ct), sl⟩
theorem all_mk {P : Program} {w : World} {K : PySem.W.Frag} {h : Heap} {mg : Str -> Option Value} {fa CM CV CL aN aT aW f0 f1 f2 f3 f4 f5 f6 f7 f8 f9 f10 f11 f12 f13 f14 f15 f16 f17 f18 f19 f20 f21 f22 f23 f24 f25 f26 f27 f28 f29 f30 f31 f32 f33 f34 f35 f36 f37 f38 f39 f40 f41 f42 f43 f44 f45 f46 f47 f48 f49 f50 f51 f52 f53 : Addr} (X : K.In h) (G : h.Ns mainGlobals mg) (htr : P.given.tree = none) (hfa : mg "answers" = some (.ref fa))
  {od0 od1 od2 od3 od4 od5 od6 od7 od8 od9 od10 od11 od12 od13 od14 od15 od16 od17 od18 od19 od20 od21 od22 od23 od24 od25 od26 od27 od28 od29 od30 od31 od32 od33 od34 od35 od36 od37 od38 od39 od40 od41 od42 od43 od44 od45 od46 od47 od48 od49 od50 od51 od52 od53 an0 an1 an2 an3 an4 an5 an6 an7 an8 an9 an10 an11 an12 an13 an14 an15 an16 an17 an18 an19 an20 an21 an22 an23 an24 an25 an26 an27 an28 an29 an30 an31 an32 an33 an34 an35 an36 an37 an38 an39 an40 an41 an42 an43 an44 an45 an46 an47 an48 an49 an50 an51 an52 an53 odN odT odW : Option Addr} {sl0 sl1 sl2 sl3 sl4 sl5 sl6 sl7 sl8 sl9 sl10 sl11 sl12 sl13 sl14 sl15 sl16 sl17 sl18 sl19 sl20 sl21 sl22 sl23 sl24 sl25 sl26 sl27 sl28 sl29 sl30 sl31 sl32 sl33 sl34 sl35 sl36 sl37 sl38 sl39 sl40 sl41 sl42 sl43 sl44 sl45 sl46 sl47 sl48 sl49 sl50 sl51 sl52 sl53 slN slT slW : Array (Option Value)} {oc0 oc1 oc2 oc3 oc4 oc5 oc6 oc7 oc8 oc9 oc10 oc11 oc12 oc13 oc14 oc15 oc16 oc17 oc18 oc19 oc20 oc21 oc22 oc23 oc24 oc25 oc26 oc27 oc28 oc29 oc30 oc31 oc32 oc33 oc34 oc35 oc36 oc37 oc38 oc39 oc40 oc41 oc42 oc43 oc44 oc45 oc46 oc47 oc48 oc49 oc50 oc51 oc52 oc53 kV0 kV1 kV2 kV3 kV4 kV5 kV6 kV7 kV8 kV9 kV10 kV11 kV12 kV13 kV14 kV15 kV16 kV17 kV18 kV19 kV20 kV21 kV22 kV23 kV24 kV25 kV26 kV27 kV28 kV29 kV30 kV31 kV32 kV33 kV34 kV35 kV36 kV37 kV38 kV39 kV40 kV41 kV42 kV43 kV44 kV45 kV46 kV47 kV48 kV49 kV50 kV51 kV52 kV53 dc0 dc1 dc2 dc3 dc4 dc5 dc6 dc7 dc8 dc9 dc10 dc11 dc12 dc13 dc14 dc15 dc16 dc17 dc18 dc19 dc20 dc21 dc22 dc23 dc24 dc25 dc26 dc27 dc28 dc29 dc30 dc31 dc32 dc33 dc34 dc35 dc36 dc37 dc38 dc39 dc40 dc41 dc42 dc43 dc44 dc45 dc46 dc47 dc48 dc49 dc50 dc51 dc52 dc53 pm0 pm1 pm2 pm3 pm4 pm5 pm6 pm7 pm8 pm9 pm10 pm11 pm12 pm13 pm14 pm15 pm16 pm17 pm18 pm19 pm20 pm21 pm22 pm23 pm24 pm25 pm26 pm27 pm28 pm29 pm30 pm31 pm32 pm33 pm34 pm35 pm36 pm37 pm38 pm39 pm40 pm41 pm42 pm43 pm44 pm45 pm46 pm47 pm48 pm49 pm50 pm51 pm52 pm53 cd0 cd1 cd2 cd3 cd4 cd5 cd6 cd7 cd8 cd9 cd10 cd11 cd12 cd13 cd14 cd15 cd16 cd17 cd18 cd19 cd20 cd21 cd22 cd23 cd24 cd25 cd26 cd27 cd28 cd29 cd30 cd31 cd32 cd33 cd34 cd35 cd36 cd37 cd38 cd39 cd40 cd41 cd42 cd43 cd44 cd45 cd46 cd47 cd48 cd49 cd50 cd51 cd52 cd53 ct0 ct1 ct2 ct3 ct4 ct5 ct6 ct7 ct8 ct9 ct10 ct11 ct12 ct13 ct14 ct15 ct16 ct17 ct18 ct19 ct20 ct21 ct22 ct23 ct24 ct25 ct26 ct27 ct28 ct29 ct30 ct31 ct32 ct33 ct34 ct35 ct36 ct37 ct38 ct39 ct40 ct41 ct42 ct43 ct44 ct45 ct46 ct47 ct48 ct49 ct50 ct51 ct52 ct53 : Value} {t_HALF_WINDOW t_LONG t_MOST_VESSELS t_LARGEST_SIZE t_KINDS t_LARGEST_TOLD_PART t_CHECK t_OUT_OF_RANGE t_ONE_VESSEL t_NOT_SO t_NO_PLACE t_NOT_WHOLE tN0 tN1 tT0 tT1 tT2 tT3 tT4 tT5 tT6 tT7 tT8 tT9 tT10 tT11 tT12 : Tok} {nN nT nW : Nat}
  (aCM : nsIn K mainGlobals "Mixture" = some (some (.ref CM)))
  (aCV : nsIn K mainGlobals "Vessel" = some (some (.ref CV)))
  (aCL : nsIn K mainGlobals "Line" = some (some (.ref CL)))
  (a0 : nsIn K mainGlobals "with_content" = some (some (.ref f0)))
  (l0 : K.lookup f0 = some (fO "with_content" "with_content" s_with_content oc0 od0 kV0 dc0 pm0 an0 cd0 ct0 sl0))
  (c0 : codeIn K cd0 "with_content" = true)
  (k0 : keepIn K (.ref f0) = true)
  (a1 : nsIn K mainGlobals "poured" = some (some (.ref f1)))
  (l1 : K.lookup f1 = some (fO "poured" "poured" s_poured oc1 od1 kV1 dc1 pm1 an1 cd1 ct1 sl1))
  (c1 : codeIn K cd1 "poured" = true)
  (k1 : keepIn K (.ref f1) = true)
  (a2 : nsIn K mainGlobals "outcomes" = some (some (.ref f2)))
  (l2 : K.lookup f2 = some (fO "outcomes" "outcomes" s_outcomes oc2 od2 kV2 dc2 pm2 an2 cd2 ct2 sl2))
  (c2 : codeIn K cd2 "outcomes" = true)
  (k2 : keepIn K (.ref f2) = true)
  (a3 : nsIn K mainGlobals "come_to" = some (some (.ref f3)))
  (l3 : K.lookup f3 = some (fO "come_to" "come_to" s_come_to oc3 od3 kV3 dc3 pm3 an3 cd3 ct3 sl3))
  (c3 : codeIn K cd3 "come_to" = true)
  (k3 : keepIn K (.ref f3) = true)
  (a4 : nsIn K mainGlobals "those_with" = some (some (.ref f4)))
  (l4 : K.lookup f4 = some (fO "those_with" "those_with" s_those_with oc4 od4 kV4 dc4 pm4 an4 cd4 ct4 sl4))
  (c4 : codeIn K cd4 "those_with" = true)
  (k4 : keepIn K (.ref f4) = true)
  (a5 : nsIn K mainGlobals "way_to" = some (some (.ref f5)))
  (l5 : K.lookup f5 = some (fO "way_to" "way_to" s_way_to oc5 od5 kV5 dc5 pm5 an5 cd5 ct5 sl5))
  (c5 : codeIn K cd5 "way_to" = true)
  (k5 : keepIn K (.ref f5) = true)
  (a6 : nsIn K mainGlobals "told_contents" = some (some (.ref f6)))
  (l6 : K.lookup f6 = some (fO "told_contents" "told_contents" s_told_contents oc6 od6 kV6 dc6 pm6 an6 cd6 ct6 sl6))
  (c6 : codeIn K cd6 "told_contents" = true)
  (k6 : keepIn K (.ref f6) = true)
  (a7 : nsIn K mainGlobals "stays_within" = some (some (.ref f7)))
  (l7 : K.lookup f7 = some (fO "stays_within" "stays_within" s_stays_within oc7 od7 kV7 dc7 pm7 an7 cd7 ct7 sl7))
  (c7 : codeIn K cd7 "stays_within" = true)
  (k7 : keepIn K (.ref f7) = true)
  (a8 : nsIn K mainGlobals "proves" = some (some (.ref f8)))
  (l8 : K.lookup f8 = some (fO "proves" "proves" s_proves oc8 od8 kV8 dc8 pm8 an8 cd8 ct8 sl8))
  (c8 : codeIn K cd8 "proves" = true)
  (k8 : keepIn K (.ref f8) = true)
  (a9 : nsIn K mainGlobals "leap" = some (some (.ref f9)))
  (l9 : K.lookup f9 = some (fO "leap" "leap" s_leap oc9 od9 kV9 dc9 pm9 an9 cd9 ct9 sl9))
  (c9 : codeIn K cd9 "leap" = true)
  (k9 : keepIn K (.ref f9) = true)
  (a10 : nsIn K mainGlobals "common_measure" = some (some (.ref f10)))
  (l10 : K.lookup f10 = some (fO "common_measure" "common_measure" s_common_measure oc10 od10 kV10 dc10 pm10 an10 cd10 ct10 sl10))
  (c10 : codeIn K cd10 "common_measure" = true)
  (k10 : keepIn K (.ref f10) = true)
  (a11 : nsIn K mainGlobals "lowest" = some (some (.ref f11)))
  (l11 : K.lookup f11 = some (fO "lowest" "lowest" s_lowest oc11 od11 kV11 dc11 pm11 an11 cd11 ct11 sl11))
  (c11 : codeIn K cd11 "lowest" = true)
  (k11 : keepIn K (.ref f11) = true)
  (a12 : nsIn K mainGlobals "plus" = some (some (.ref f12)))
  (l12 : K.lookup f12 = some (fO "plus" "plus" s_plus oc12 od12 kV12 dc12 pm12 an12 cd12 ct12 sl12))
  (c12 : codeIn K cd12 "plus" = true)
  (k12 : keepIn K (.ref f12) = true)
  (a13 : nsIn K mainGlobals "minus" = some (some (.ref f13)))
  (l13 : K.lookup f13 = some (fO "minus" "minus" s_minus oc13 od13 kV13 dc13 pm13 an13 cd13 ct13 sl13))
  (c13 : codeIn K cd13 "minus" = true)
  (k13 : keepIn K (.ref f13) = true)
  (a14 : nsIn K mainGlobals "times" = some (some (.ref f14)))
  (l14 : K.lookup f14 = some (fO "times" "times" s_times oc14 od14 kV14 dc14 pm14 an14 cd14 ct14 sl14))
  (c14 : codeIn K cd14 "times" = true)
  (k14 : keepIn K (.ref f14) = true)
  (a15 : nsIn K mainGlobals "over" = some (some (.ref f15)))
  (l15 : K.lookup f15 = some (fO "over" "over" s_over oc15 od15 kV15 dc15 pm15 an15 cd15 ct15 sl15))
  (c15 : codeIn K cd15 "over" = true)
  (k15 : keepIn K (.ref f15) = true)
  (a16 : nsIn K mainGlobals "is_more" = some (some (.ref f16)))
  (l16 : K.lookup f16 = some (fO "is_more" "is_more" s_is_more oc16 od16 kV16 dc16 pm16 an16 cd16 ct16 sl16))
  (c16 : codeIn K cd16 "is_more" = true)
  (k16 : keepIn K (.ref f16) = true)
  (a17 : nsIn K mainGlobals "lesser" = some (some (.ref f17)))
  (l17 : K.lookup f17 = some (fO "lesser" "lesser" s_lesser oc17 od17 kV17 dc17 pm17 an17 cd17 ct17 sl17))
  (c17 : codeIn K cd17 "lesser" = true)
  (k17 : keepIn K (.ref f17) = true)
  (a18 : nsIn K mainGlobals "is_within" = some (some (.ref f18)))
  (l18 : K.lookup f18 = some (fO "is_within" "is_within" s_is_within oc18 od18 kV18 dc18 pm18 an18 cd18 ct18 sl18))
  (c18 : codeIn K cd18 "is_within" = true)
  (k18 : keepIn K (.ref f18) = true)
  (a19 : nsIn K mainGlobals "is_kind" = some (some (.ref f19)))
  (l19 : K.lookup f19 = some (fO "is_kind" "is_kind" s_is_kind oc19 od19 kV19 dc19 pm19 an19 cd19 ct19 sl19))
  (c19 : codeIn K cd19 "is_kind" = true)
  (k19 : keepIn K (.ref f19) = true)
  (a20 : nsIn K mainGlobals "shares_of_one_kind" = some (some (.ref f20)))
  (l20 : K.lookup f20 = some (fO "shares_of_one_kind" "shares_of_one_kind" s_shares_of_one_kind oc20 od20 kV20 dc20 pm20 an20 cd20 ct20 sl20))
  (c20 : codeIn K cd20 "shares_of_one_kind" = true)
  (k20 : keepIn K (.ref f20) = true)
  (a21 : nsIn K mainGlobals "mixed_shares" = some (some (.ref f21)))
  (l21 : K.lookup f21 = some (fO "mixed_shares" "mixed_shares" s_mixed_shares oc21 od21 kV21 dc21 pm21 an21 cd21 ct21 sl21))
  (c21 : codeIn K cd21 "mixed_shares" = true)
  (k21 : keepIn K (.ref f21) = true)
  (a22 : findIn K (.ref CM) "__init__" = some (some (.ref f22)))
  (i22 : isFn K (.ref f22) = true)
  (l22 : K.lookup f22 = some (fO "__init__" "Mixture.__init__" s_Mixture_init oc22 od22 kV22 dc22 pm22 an22 cd22 ct22 sl22))
  (c22 : codeIn K cd22 "Mixture.__init__" = true)
  (k22 : keepIn K (.ref f22) = true)
  (a23 : findIn K (.ref CM) "put" = some (some (.ref f23)))
  (v23 : findIn K (.ref CV) "put" = some (some (.ref f23)))
  (i23 : isFn K (.ref f23) = true)
  (l23 : K.lookup f23 = some (fO "put" "Mixture.put" s_Mixture_put oc23 od23 kV23 dc23 pm23 an23 cd23 ct23 sl23))
  (c23 : codeIn K cd23 "Mixture.put" = true)
  (k23 : keepIn K (.ref f23) = true)
  (a24 : findIn K (.ref CM) "take" = some (some (.ref f24)))
  (v24 : findIn K (.ref CV) "take" = some (some (.ref f24)))
  (i24 : isFn K (.ref f24) = true)
  (l24 : K.lookup f24 = some (fO "take" "Mixture.take" s_Mixture_take oc24 od24 kV24 dc24 pm24 an24 cd24 ct24 sl24))
  (c24 : codeIn K cd24 "Mixture.take" = true)
  (k24 : keepIn K (.ref f24) = true)
  (a25 : findIn K (.ref CM) "strengths" = some (some (.ref f25)))
  (v25 : findIn K (.ref CV) "strengths" = some (some (.ref f25)))
  (i25 : isFn K (.ref f25) = true)
  (l25 : K.lookup f25 = some (fO "strengths" "Mixture.strengths" s_Mixture_strengths oc25 od25 kV25 dc25 pm25 an25 cd25 ct25 sl25))
  (c25 : codeIn K cd25 "Mixture.strengths" = true)
  (k25 : keepIn K (.ref f25) = true)
  (a26 : findIn K (.ref CM) "amounts" = some (some (.ref f26)))
  (v26 : findIn K (.ref CV) "amounts" = some (some (.ref f26)))
  (i26 : isFn K (.ref f26) = true)
  (l26 : K.lookup f26 = some (fO "amounts" "Mixture.amounts" s_Mixture_amounts oc26 od26 kV26 dc26 pm26 an26 cd26 ct26 sl26))
  (c26 : codeIn K cd26 "Mixture.amounts" = true)
  (k26 : keepIn K (.ref f26) = true)
  (a27 : findIn K (.ref CV) "__init__" = some (some (.ref f27)))
  (i27 : isFn K (.ref f27) = true)
  (l27 : K.lookup f27 = some (fO "__init__" "Vessel.__init__" s_Vessel_init oc27 od27 kV27 dc27 pm27 an27 cd27 ct27 sl27))
  (c27 : codeIn K cd27 "Vessel.__init__" = true)
  (k27 : keepIn K (.ref f27) = true)
  (a28 : findIn K (.ref CV) "room" = some (some (.ref f28)))
  (i28 : isFn K (.ref f28) = true)
  (l28 : K.lookup f28 = some (fO "room" "Vessel.room" s_Vessel_room oc28 od28 kV28 dc28 pm28 an28 cd28 ct28 sl28))
  (c28 : codeIn K cd28 "Vessel.room" = true)
  (k28 : keepIn K (.ref f28) = true)
  (a29 : findIn K (.ref CL) "__init__" = some (some (.ref f29)))
  (i29 : isFn K (.ref f29) = true)
  (l29 : K.lookup f29 = some (fO "__init__" "Line.__init__" s_Line_init oc29 od29 kV29 dc29 pm29 an29 cd29 ct29 sl29))
  (c29 : codeIn K cd29 "Line.__init__" = true)
  (k29 : keepIn K (.ref f29) = true)
  (a30 : findIn K (.ref CL) "has_vessel" = some (some (.ref f30)))
  (i30 : isFn K (.ref f30) = true)
  (l30 : K.lookup f30 = some (fO "has_vessel" "Line.has_vessel" s_Line_has_vessel oc30 od30 kV30 dc30 pm30 an30 cd30 ct30 sl30))
  (c30 : codeIn K cd30 "Line.has_vessel" = true)
  (k30 : keepIn K (.ref f30) = true)
  (a31 : findIn K (.ref CL) "sizes" = some (some (.ref f31)))
  (i31 : isFn K (.ref f31) = true)
  (l31 : K.lookup f31 = some (fO "sizes" "Line.sizes" s_Line_sizes oc31 od31 kV31 dc31 pm31 an31 cd31 ct31 sl31))
  (c31 : codeIn K cd31 "Line.sizes" = true)
  (k31 : keepIn K (.ref f31) = true)
  (a32 : findIn K (.ref CL) "is_whole" = some (some (.ref f32)))
  (i32 : isFn K (.ref f32) = true)
  (l32 : K.lookup f32 = some (fO "is_whole" "Line.is_whole" s_Line_is_whole oc32 od32 kV32 dc32 pm32 an32 cd32 ct32 sl32))
  (c32 : codeIn K cd32 "Line.is_whole" = true)
  (k32 : keepIn K (.ref f32) = true)
  (a33 : findIn K (.ref CL) "contents" = some (some (.ref f33)))
  (i33 : isFn K (.ref f33) = true)
  (l33 : K.lookup f33 = some (fO "contents" "Line.contents" s_Line_contents oc33 od33 kV33 dc33 pm33 an33 cd33 ct33 sl33))
  (c33 : codeIn K cd33 "Line.contents" = true)
  (k33 : keepIn K (.ref f33) = true)
  (a34 : nsIn K mainGlobals "move" = some (some (.ref f34)))
  (l34 : K.lookup f34 = some (fO "move" "move" s_move oc34 od34 kV34 dc34 pm34 an34 cd34 ct34 sl34))
  (c34 : codeIn K cd34 "move" = true)
  (k34 : keepIn K (.ref f34) = true)
  (a35 : nsIn K mainGlobals "call_vessel" = some (some (.ref f35)))
  (l35 : K.lookup f35 = some (fO "call_vessel" "call_vessel" s_call_vessel oc35 od35 kV35 dc35 pm35 an35 cd35 ct35 sl35))
  (c35 : codeIn K cd35 "call_vessel" = true)
  (k35 : keepIn K (.ref f35) = true)
  (a36 : nsIn K mainGlobals "call_fill" = some (some (.ref f36)))
  (l36 : K.lookup f36 = some (fO "call_fill" "call_fill" s_call_fill oc36 od36 kV36 dc36 pm36 an36 cd36 ct36 sl36))
  (c36 : codeIn K cd36 "call_fill" = true)
  (k36 : keepIn K (.ref f36) = true)
  (a37 : nsIn K mainGlobals "call_drain" = some (some (.ref f37)))
  (l37 : K.lookup f37 = some (fO "call_drain" "call_drain" s_call_drain oc37 od37 kV37 dc37 pm37 an37 cd37 ct37 sl37))
  (c37 : codeIn K cd37 "call_drain" = true)
  (k37 : keepIn K (.ref f37) = true)
  (a38 : nsIn K mainGlobals "pair_refusal" = some (some (.ref f38)))
  (l38 : K.lookup f38 = some (fO "pair_refusal" "pair_refusal" s_pair_refusal oc38 od38 kV38 dc38 pm38 an38 cd38 ct38 sl38))
  (c38 : codeIn K cd38 "pair_refusal" = true)
  (k38 : keepIn K (.ref f38) = true)
  (a39 : nsIn K mainGlobals "call_pour" = some (some (.ref f39)))
  (l39 : K.lookup f39 = some (fO "call_pour" "call_pour" s_call_pour oc39 od39 kV39 dc39 pm39 an39 cd39 ct39 sl39))
  (c39 : codeIn K cd39 "call_pour" = true)
  (k39 : keepIn K (.ref f39) = true)
  (a40 : nsIn K mainGlobals "call_some" = some (some (.ref f40)))
  (l40 : K.lookup f40 = some (fO "call_some" "call_some" s_call_some oc40 od40 kV40 dc40 pm40 an40 cd40 ct40 sl40))
  (c40 : codeIn K cd40 "call_some" = true)
  (k40 : keepIn K (.ref f40) = true)
  (a41 : nsIn K mainGlobals "call_state" = some (some (.ref f41)))
  (l41 : K.lookup f41 = some (fO "call_state" "call_state" s_call_state oc41 od41 kV41 dc41 pm41 an41 cd41 ct41 sl41))
  (c41 : codeIn K cd41 "call_state" = true)
  (k41 : keepIn K (.ref f41) = true)
  (a42 : nsIn K mainGlobals "call_strength" = some (some (.ref f42)))
  (l42 : K.lookup f42 = some (fO "call_strength" "call_strength" s_call_strength oc42 od42 kV42 dc42 pm42 an42 cd42 ct42 sl42))
  (c42 : codeIn K cd42 "call_strength" = true)
  (k42 : keepIn K (.ref f42) = true)
  (a43 : nsIn K mainGlobals "is_tap" = some (some (.ref f43)))
  (l43 : K.lookup f43 = some (fO "is_tap" "is_tap" s_is_tap oc43 od43 kV43 dc43 pm43 an43 cd43 ct43 sl43))
  (c43 : codeIn K cd43 "is_tap" = true)
  (k43 : keepIn K (.ref f43) = true)
  (a44 : nsIn K mainGlobals "is_question" = some (some (.ref f44)))
  (l44 : K.lookup f44 = some (fO "is_question" "is_question" s_is_question oc44 od44 kV44 dc44 pm44 an44 cd44 ct44 sl44))
  (c44 : codeIn K cd44 "is_question" = true)
  (k44 : keepIn K (.ref f44) = true)
  (a45 : nsIn K mainGlobals "call_way" = some (some (.ref f45)))
  (l45 : K.lookup f45 = some (fO "call_way" "call_way" s_call_way oc45 od45 kV45 dc45 pm45 an45 cd45 ct45 sl45))
  (c45 : codeIn K cd45 "call_way" = true)
  (k45 : keepIn K (.ref f45) = true)
  (a46 : nsIn K mainGlobals "call_can" = some (some (.ref f46)))
  (l46 : K.lookup f46 = some (fO "call_can" "call_can" s_call_can oc46 od46 kV46 dc46 pm46 an46 cd46 ct46 sl46))
  (c46 : codeIn K cd46 "call_can" = true)
  (k46 : keepIn K (.ref f46) = true)
  (a47 : nsIn K mainGlobals "call_proof" = some (some (.ref f47)))
  (l47 : K.lookup f47 = some (fO "call_proof" "call_proof" s_call_proof oc47 od47 kV47 dc47 pm47 an47 cd47 ct47 sl47))
  (c47 : codeIn K cd47 "call_proof" = true)
  (k47 : keepIn K (.ref f47) = true)
  (a48 : nsIn K mainGlobals "is_row" = some (some (.ref f48)))
  (l48 : K.lookup f48 = some (fO "is_row" "is_row" s_is_row oc48 od48 kV48 dc48 pm48 an48 cd48 ct48 sl48))
  (c48 : codeIn K cd48 "is_row" = true)
  (k48 : keepIn K (.ref f48) = true)
  (a49 : nsIn K mainGlobals "call_check" = some (some (.ref f49)))
  (l49 : K.lookup f49 = some (fO "call_check" "call_check" s_call_check oc49 od49 kV49 dc49 pm49 an49 cd49 ct49 sl49))
  (c49 : codeIn K cd49 "call_check" = true)
  (k49 : keepIn K (.ref f49) = true)
  (a50 : nsIn K mainGlobals "call_gcd" = some (some (.ref f50)))
  (l50 : K.lookup f50 = some (fO "call_gcd" "call_gcd" s_call_gcd oc50 od50 kV50 dc50 pm50 an50 cd50 ct50 sl50))
  (c50 : codeIn K cd50 "call_gcd" = true)
  (k50 : keepIn K (.ref f50) = true)
  (a51 : nsIn K mainGlobals "call_ledger" = some (some (.ref f51)))
  (l51 : K.lookup f51 = some (fO "call_ledger" "call_ledger" s_call_ledger oc51 od51 kV51 dc51 pm51 an51 cd51 ct51 sl51))
  (c51 : codeIn K cd51 "call_ledger" = true)
  (k51 : keepIn K (.ref f51) = true)
  (a52 : nsIn K mainGlobals "behind_call" = some (some (.ref f52)))
  (l52 : K.lookup f52 = some (fO "behind_call" "behind_call" s_behind_call oc52 od52 kV52 dc52 pm52 an52 cd52 ct52 sl52))
  (c52 : codeIn K cd52 "behind_call" = true)
  (k52 : keepIn K (.ref f52) = true)
  (a53 : nsIn K mainGlobals "answers" = some (some (.ref f53)))
  (l53 : K.lookup f53 = some (fO "answers" "answers" s_answers oc53 od53 kV53 dc53 pm53 an53 cd53 ct53 sl53))
  (c53 : codeIn K cd53 "answers" = true)
  (k53 : keepIn K (.ref f53) = true)
  (pgCM : plainGet K CM Str.empty = true)
  (hdCM : hasDictIn K CM = true)
  (poCM : plainOver K CM = true)
  (saCM : findIn K (.ref CM) "__setattr__" = some (some (.builtin "object.__setattr__")))
  (mkCM : makesIn K CM = true)
  (kcCM : keepIn K (.ref CM) = true)
  (pgCV : plainGet K CV Str.empty = true)
  (hdCV : hasDictIn K CV = true)
  (poCV : plainOver K CV = true)
  (saCV : findIn K (.ref CV) "__setattr__" = some (some (.builtin "object.__setattr__")))
  (mkCV : makesIn K CV = true)
  (kcCV : keepIn K (.ref CV) = true)
  (pgCL : plainGet K CL Str.empty = true)
  (hdCL : hasDictIn K CL = true)
  (poCL : plainOver K CL = true)
  (saCL : findIn K (.ref CL) "__setattr__" = some (some (.builtin "object.__setattr__")))
  (mkCL : makesIn K CL = true)
  (kcCL : keepIn K (.ref CL) = true)
  (nCM_content : findIn K (.ref CM) "content" = some none)
  (nCM_shares : findIn K (.ref CM) "shares" = some none)
  (nCM_known_strengths : findIn K (.ref CM) "known_strengths" = some none)
  (nCV_content : findIn K (.ref CV) "content" = some none)
  (nCV_shares : findIn K (.ref CV) "shares" = some none)
  (nCV_known_strengths : findIn K (.ref CV) "known_strengths" = some none)
  (nCV_size : findIn K (.ref CV) "size" = some none)
  (nCL_vessels : findIn K (.ref CL) "vessels" = some none)
  (nCL_filled : findIn K (.ref CL) "filled" = some none)
  (nCL_gone : findIn K (.ref CL) "gone" = some none)
  (ga : specialIn K (.ref CM) "__getattribute__" = some (some (.builtin "type.__getattribute__")))
  (rdc : readsIn K CM (.type "type") = true)
  (fc : findCls K (.ref CM) (.type "type") "__init__" = some (.val (.ref f22)))
  (q_HALF_WINDOW : nsIn K mainGlobals "HALF_WINDOW" = some (some (.int 120 t_HALF_WINDOW)))
  (q_LONG : nsIn K mainGlobals "LONG" = some (some (.int 480 t_LONG)))
  (q_MOST_VESSELS : nsIn K mainGlobals "MOST_VESSELS" = some (some (.int 3 t_MOST_VESSELS)))
  (q_LARGEST_SIZE : nsIn K mainGlobals "LARGEST_SIZE" = some (some (.int 12 t_LARGEST_SIZE)))
  (q_KINDS : nsIn K mainGlobals "KINDS" = some (some (.int 3 t_KINDS)))
  (q_LARGEST_TOLD_PART : nsIn K mainGlobals "LARGEST_TOLD_PART" = some (some (.int 1000 t_LARGEST_TOLD_PART)))
  (q_CHECK : nsIn K mainGlobals "CHECK" = some (some (.int 10 t_CHECK)))
  (q_OUT_OF_RANGE : nsIn K mainGlobals "OUT_OF_RANGE" = some (some (.int (-1) t_OUT_OF_RANGE)))
  (q_ONE_VESSEL : nsIn K mainGlobals "ONE_VESSEL" = some (some (.int (-3) t_ONE_VESSEL)))
  (q_NOT_SO : nsIn K mainGlobals "NOT_SO" = some (some (.int (-4) t_NOT_SO)))
  (q_NO_PLACE : nsIn K mainGlobals "NO_PLACE" = some (some (.int (-5) t_NO_PLACE)))
  (q_NOT_WHOLE : nsIn K mainGlobals "NOT_WHOLE" = some (some (.int (-6) t_NOT_WHOLE)))
  (q_NOTHING : nsIn K mainGlobals "NOTHING" = some (some (.ref aN)))
  (q_TOLD : nsIn K mainGlobals "TOLD" = some (some (.ref aT)))
  (q_WORKS : nsIn K mainGlobals "WORKS" = some (some (.ref aW)))
  (lN : K.lookup aN = some ⟨.type "tuple", odN, .seq #[.int 0 tN0, .int 1 tN1] nN, slN⟩)
  (lT : K.lookup aT = some ⟨.type "tuple", odT, .seq #[.int 1 tT0, .int 2 tT1, .int 1 tT2, .int 2 tT3, .int 4 tT4, .int 0 tT5, .int 2 tT6, .int 3 tT7, .int 1 tT8, .int 3 tT9, .int 4 tT10, .int 0 tT11, .int 0 tT12] nT, slT⟩)
  (lW : K.lookup aW = some ⟨.type "tuple", odW, .seq #[.ref f35, .ref f36, .ref f37, .ref f39, .ref f40, .ref f41, .ref f42, .ref f45, .ref f46, .ref f47, .ref f49, .ref f50, .ref f51] nW, slW⟩)
  (z_len : nsIn K mainGlobals "len" = some none)
  (z_list : nsIn K mainGlobals "list" = some none)
  (z_tuple : nsIn K mainGlobals "tuple" = some none)
  (z_range : nsIn K mainGlobals "range" = some none)
  (z_min : nsIn K mainGlobals "min" = some none)
  (z_max : nsIn K mainGlobals "max" = some none)
  (z_abs : nsIn K mainGlobals "abs" = some none)
  (z_sum : nsIn K mainGlobals "sum" = some none)
  (z_all : nsIn K mainGlobals "all" = some none)
  (z_set : nsIn K mainGlobals "set" = some none)
  (z_sorted : nsIn K mainGlobals "sorted" = some none)
  (z_reversed : nsIn K mainGlobals "reversed" = some none) :
  ∃ fd : FuncData, (∀ (s : Shared) (us : List Value), us.length = (["calls"] : List Str).length -> BindsTo s fd ⟨us, []⟩ ((["calls"] : List Str).zip us)) /\ ∀ base : Heap, K.In base -> base.Ns mainGlobals mg -> FnOk P w K mg base CX0 42 fa fd ["calls"] (spAns K) := by
 have e := hfa.symm.trans (mg_of X G a53);cases e;have clM : Cls K CM := ⟨pgCM, hdCM, poCM, saCM⟩;have clV : Cls K CV := ⟨pgCV, hdCV, poCV, saCV⟩;have clL : Cls K CL := ⟨pgCL, hdCL, poCL, saCL⟩;have T : Txt P K mg ⟨CM, CV, CL, aN, aT, aW, [f35, f36, f37, f39, f40, f41, f42, f45, f46, f47, f49, f50, f51]⟩ := {
  tree := htr
  c_HALF_WINDOW := ⟨_, mg_of X G q_HALF_WINDOW⟩
  c_LONG := ⟨_, mg_of X G q_LONG⟩
  c_MOST_VESSELS := ⟨_, mg_of X G q_MOST_VESSELS⟩
  c_LARGEST_SIZE := ⟨_, mg_of X G q_LARGEST_SIZE⟩
  c_KINDS := ⟨_, mg_of X G q_KINDS⟩
  c_LARGEST_TOLD_PART := ⟨_, mg_of X G q_LARGEST_TOLD_PART⟩
  c_CHECK := ⟨_, mg_of X G q_CHECK⟩
  c_OUT_OF_RANGE := ⟨_, mg_of X G q_OUT_OF_RANGE⟩
  c_ONE_VESSEL := ⟨_, mg_of X G q_ONE_VESSEL⟩
  c_NOT_SO := ⟨_, mg_of X G q_NOT_SO⟩
  c_NO_PLACE := ⟨_, mg_of X G q_NO_PLACE⟩
  c_NOT_WHOLE := ⟨_, mg_of X G q_NOT_WHOLE⟩
  m_NOTHING := mg_of X G q_NOTHING
  n_NOTHING := fun _ => .inr ⟨_, _, _, lN, rfl, rfl, by show 2 <= sizeLine; decide, ((.cons ⟨_, rfl⟩ (.cons ⟨_, rfl⟩ .nil)))⟩
  m_TOLD := mg_of X G q_TOLD
  n_TOLD := fun _ => .inr ⟨_, _, _, lT, rfl, rfl, by show 13 <= sizeLine; decide, ((.cons ⟨_, rfl⟩ (.cons ⟨_, rfl⟩ (.cons ⟨_, rfl⟩ (.cons ⟨_, rfl⟩ (.cons ⟨_, rfl⟩ (.cons ⟨_, rfl⟩ (.cons ⟨_, rfl⟩ (.cons ⟨_, rfl⟩ (.cons ⟨_, rfl⟩ (.cons ⟨_, rfl⟩ (.cons ⟨_, rfl⟩ (.cons ⟨_, rfl⟩ (.cons ⟨_, rfl⟩ .nil))))))))))))))⟩
  m_WORKS := mg_of X G q_WORKS
  n_WORKS := fun _ => .inr ⟨_, _, _, lW, rfl, rfl, by show 13 <= sizeLine; decide, ((.cons rfl (.cons rfl (.cons rfl (.cons rfl (.cons rfl (.cons rfl (.cons rfl (.cons rfl (.cons rfl (.cons rfl (.cons rfl (.cons rfl (.cons rfl .nil))))))))))))))⟩
  m_Mixture := mg_of X G aCM
  iM := ⟨clM, nCM_content, nCM_shares, nCM_known_strengths⟩
  iV := ⟨clV, nCV_content, nCV_shares, nCV_known_strengths⟩
  nV_size := nCV_size
  cL := clL
  nL_vessels := nCL_vessels
  nL_filled := nCL_filled
  nL_gone := nCL_gone
  b_len := mg_none_of X G z_len
  b_list := mg_none_of X G z_list
  b_tuple := mg_none_of X G z_tuple
  b_range := mg_none_of X G z_range
  b_min := mg_none_of X G z_min
  b_max := mg_none_of X G z_max
  b_abs := mg_none_of X G z_abs
  b_sum := mg_none_of X G z_sum
  b_all := mg_none_of X G z_all
  b_set := mg_none_of X G z_set
  b_sorted := mg_none_of X G z_sorted
  b_reversed := mg_none_of X G z_reversed
 }
 have F0 := fun_mk (st := s_with_content) l0 c0 k0;have b0 := F0.binds (ps := p_with_content) fun _ _ _ _ _ _ us hl => match us, hl with | [_, _, _], _ => rfl
 have F1 := fun_mk (st := s_poured) l1 c1 k1;have b1 := F1.binds (ps := p_poured) fun _ _ _ _ _ _ us hl => match us, hl with | [_, _, _, _], _ => rfl
 have F2 := fun_mk (st := s_outcomes) l2 c2 k2;have b2 := F2.binds (ps := p_outcomes) fun _ _ _ _ _ _ us hl => match us, hl with | [_, _, _], _ => rfl
 have F3 := fun_mk (st := s_come_to) l3 c3 k3;have b3 := F3.binds (ps := p_come_to) fun _ _ _ _ _ _ us hl => match us, hl with | [_, _, _], _ => rfl
 have F4 := fun_mk (st := s_those_with) l4 c4 k4;have b4 := F4.binds (ps := p_those_with) fun _ _ _ _ _ _ us hl => match us, hl with | [_, _, _], _ => rfl
 have F5 := fun_mk (st := s_way_to) l5 c5 k5;have b5 := F5.binds (ps := p_way_to) fun _ _ _ _ _ _ us hl => match us, hl with | [_, _], _ => rfl
 have F6 := fun_mk (st := s_told_contents) l6 c6 k6;have b6 := F6.binds (ps := p_told_contents) fun _ _ _ _ _ _ us hl => match us, hl with | [_, _], _ => rfl
 have F7 := fun_mk (st := s_stays_within) l7 c7 k7;have b7 := F7.binds (ps := p_stays_within) fun _ _ _ _ _ _ us hl => match us, hl with | [_, _, _, _], _ => rfl
 have F8 := fun_mk (st := s_proves) l8 c8 k8;have b8 := F8.binds (ps := p_proves) fun _ _ _ _ _ _ us hl => match us, hl with | [_, _, _, _, _, _], _ => rfl
 have F9 := fun_mk (st := s_leap) l9 c9 k9;have b9 := F9.binds (ps := p_leap) fun _ _ _ _ _ _ us hl => match us, hl with | [_, _], _ => rfl
 have F10 := fun_mk (st := s_common_measure) l10 c10 k10;have b10 := F10.binds (ps := p_common_measure) fun _ _ _ _ _ _ us hl => match us, hl with | [_, _], _ => rfl
 have F11 := fun_mk (st := s_lowest) l11 c11 k11;have b11 := F11.binds (ps := p_lowest) fun _ _ _ _ _ _ us hl => match us, hl with | [_, _], _ => rfl
 have F12 := fun_mk (st := s_plus) l12 c12 k12;have b12 := F12.binds (ps := p_plus) fun _ _ _ _ _ _ us hl => match us, hl with | [_, _], _ => rfl
 have F13 := fun_mk (st := s_minus) l13 c13 k13;have b13 := F13.binds (ps := p_minus) fun _ _ _ _ _ _ us hl => match us, hl with | [_, _], _ => rfl
 have F14 := fun_mk (st := s_times) l14 c14 k14;have b14 := F14.binds (ps := p_times) fun _ _ _ _ _ _ us hl => match us, hl with | [_, _], _ => rfl
 have F15 := fun_mk (st := s_over) l15 c15 k15;have b15 := F15.binds (ps := p_over) fun _ _ _ _ _ _ us hl => match us, hl with | [_, _], _ => rfl
 have F16 := fun_mk (st := s_is_more) l16 c16 k16;have b16 := F16.binds (ps := p_is_more) fun _ _ _ _ _ _ us hl => match us, hl with | [_, _], _ => rfl
 have F17 := fun_mk (st := s_lesser) l17 c17 k17;have b17 := F17.binds (ps := p_lesser) fun _ _ _ _ _ _ us hl => match us, hl with | [_, _], _ => rfl
 have F18 := fun_mk (st := s_is_within) l18 c18 k18;have b18 := F18.binds (ps := p_is_within) fun _ _ _ _ _ _ us hl => match us, hl with | [_, _, _], _ => rfl
 have F19 := fun_mk (st := s_is_kind) l19 c19 k19;have b19 := F19.binds (ps := p_is_kind) fun _ _ _ _ _ _ us hl => match us, hl with | [_], _ => rfl
 have F20 := fun_mk (st := s_shares_of_one_kind) l20 c20 k20;have b20 := F20.binds (ps := p_shares_of_one_kind) fun _ _ _ _ _ _ us hl => match us, hl with | [_], _ => rfl
 have F21 := fun_mk (st := s_mixed_shares) l21 c21 k21;have b21 := F21.binds (ps := p_mixed_shares) fun _ _ _ _ _ _ us hl => match us, hl with | [_, _, _, _], _ => rfl
 have F22 := fun_mk (st := s_Mixture_init) l22 c22 k22;have b22 := F22.binds (ps := p_Mixture_init) fun _ _ _ _ _ _ us hl => match us, hl with | [_], _ => rfl
 have F23 := fun_mk (st := s_Mixture_put) l23 c23 k23;have b23 := F23.binds (ps := p_Mixture_put) fun _ _ _ _ _ _ us hl => match us, hl with | [_, _, _], _ => rfl
 have F24 := fun_mk (st := s_Mixture_take) l24 c24 k24;have b24 := F24.binds (ps := p_Mixture_take) fun _ _ _ _ _ _ us hl => match us, hl with | [_, _], _ => rfl
 have F25 := fun_mk (st := s_Mixture_strengths) l25 c25 k25;have b25 := F25.binds (ps := p_Mixture_strengths) fun _ _ _ _ _ _ us hl => match us, hl with | [_], _ => rfl
 have F26 := fun_mk (st := s_Mixture_amounts) l26 c26 k26;have b26 := F26.binds (ps := p_Mixture_amounts) fun _ _ _ _ _ _ us hl => match us, hl with | [_], _ => rfl
 have F27 := fun_mk (st := s_Vessel_init) l27 c27 k27;have b27 := F27.binds (ps := p_Vessel_init) fun _ _ _ _ _ _ us hl => match us, hl with | [_, _], _ => rfl
 have F28 := fun_mk (st := s_Vessel_room) l28 c28 k28;have b28 := F28.binds (ps := p_Vessel_room) fun _ _ _ _ _ _ us hl => match us, hl with | [_], _ => rfl
 have F29 := fun_mk (st := s_Line_init) l29 c29 k29;have b29 := F29.binds (ps := p_Line_init) fun _ _ _ _ _ _ us hl => match us, hl with | [_], _ => rfl
 have F30 := fun_mk (st := s_Line_has_vessel) l30 c30 k30;have b30 := F30.binds (ps := p_Line_has_vessel) fun _ _ _ _ _ _ us hl => match us, hl with | [_, _], _ => rfl
 have F31 := fun_mk (st := s_Line_sizes) l31 c31 k31;have b31 := F31.binds (ps := p_Line_sizes) fun _ _ _ _ _ _ us hl => match us, hl with | [_], _ => rfl
 have F32 := fun_mk (st := s_Line_is_whole) l32 c32 k32;have b32 := F32.binds (ps := p_Line_is_whole) fun _ _ _ _ _ _ us hl => match us, hl with | [_], _ => rfl
 have F33 := fun_mk (st := s_Line_contents) l33 c33 k33;have b33 := F33.binds (ps := p_Line_contents) fun _ _ _ _ _ _ us hl => match us, hl with | [_], _ => rfl
 have F34 := fun_mk (st := s_move) l34 c34 k34;have b34 := F34.binds (ps := p_move) fun _ _ _ _ _ _ us hl => match us, hl with | [_, _, _], _ => rfl
 have F35 := fun_mk (st := s_call_vessel) l35 c35 k35;have b35 := F35.binds (ps := p_call_vessel) fun _ _ _ _ _ _ us hl => match us, hl with | [_, _], _ => rfl
 have F36 := fun_mk (st := s_call_fill) l36 c36 k36;have b36 := F36.binds (ps := p_call_fill) fun _ _ _ _ _ _ us hl => match us, hl with | [_, _], _ => rfl
 have F37 := fun_mk (st := s_call_drain) l37 c37 k37;have b37 := F37.binds (ps := p_call_drain) fun _ _ _ _ _ _ us hl => match us, hl with | [_, _], _ => rfl
 have F38 := fun_mk (st := s_pair_refusal) l38 c38 k38;have b38 := F38.binds (ps := p_pair_refusal) fun _ _ _ _ _ _ us hl => match us, hl with | [_, _, _], _ => rfl
 have F39 := fun_mk (st := s_call_pour) l39 c39 k39;have b39 := F39.binds (ps := p_call_pour) fun _ _ _ _ _ _ us hl => match us, hl with | [_, _], _ => rfl
 have F40 := fun_mk (st := s_call_some) l40 c40 k40;have b40 := F40.binds (ps := p_call_some) fun _ _ _ _ _ _ us hl => match us, hl with | [_, _], _ => rfl
 have F41 := fun_mk (st := s_call_state) l41 c41 k41;have b41 := F41.binds (ps := p_call_state) fun _ _ _ _ _ _ us hl => match us, hl with | [_, _], _ => rfl
 have F42 := fun_mk (st := s_call_strength) l42 c42 k42;have b42 := F42.binds (ps := p_call_strength) fun _ _ _ _ _ _ us hl => match us, hl with | [_, _], _ => rfl
 have F43 := fun_mk (st := s_is_tap) l43 c43 k43;have b43 := F43.binds (ps := p_is_tap) fun _ _ _ _ _ _ us hl => match us, hl with | [_], _ => rfl
 have F44 := fun_mk (st := s_is_question) l44 c44 k44;have b44 := F44.binds (ps := p_is_question) fun _ _ _ _ _ _ us hl => match us, hl with | [_, _], _ => rfl
 have F45 := fun_mk (st := s_call_way) l45 c45 k45;have b45 := F45.binds (ps := p_call_way) fun _ _ _ _ _ _ us hl => match us, hl with | [_, _], _ => rfl
 have F46 := fun_mk (st := s_call_can) l46 c46 k46;have b46 := F46.binds (ps := p_call_can) fun _ _ _ _ _ _ us hl => match us, hl with | [_, _], _ => rfl
 have F47 := fun_mk (st := s_call_proof) l47 c47 k47;have b47 := F47.binds (ps := p_call_proof) fun _ _ _ _ _ _ us hl => match us, hl with | [_, _], _ => rfl
 have F48 := fun_mk (st := s_is_row) l48 c48 k48;have b48 := F48.binds (ps := p_is_row) fun _ _ _ _ _ _ us hl => match us, hl with | [_, _], _ => rfl
 have F49 := fun_mk (st := s_call_check) l49 c49 k49;have b49 := F49.binds (ps := p_call_check) fun _ _ _ _ _ _ us hl => match us, hl with | [_, _], _ => rfl
 have F50 := fun_mk (st := s_call_gcd) l50 c50 k50;have b50 := F50.binds (ps := p_call_gcd) fun _ _ _ _ _ _ us hl => match us, hl with | [_, _], _ => rfl
 have F51 := fun_mk (st := s_call_ledger) l51 c51 k51;have b51 := F51.binds (ps := p_call_ledger) fun _ _ _ _ _ _ us hl => match us, hl with | [_, _], _ => rfl
 have F52 := fun_mk (st := s_behind_call) l52 c52 k52;have b52 := F52.binds (ps := p_behind_call) fun _ _ _ _ _ _ us hl => match us, hl with | [_, _], _ => rfl
 have F53 := fun_mk (st := s_answers) l53 c53 k53;have b53 := F53.binds (ps := p_answers) fun _ _ _ _ _ _ us hl => match us, hl with | [_], _ => rfl
 refine ⟨PySem.W.fnOf "answers" "answers" (defArgs s_answers) (defBody s_answers) (defScope s_answers) .none kV53 dc53 pm53 an53 cd53 ct53, fun s us hu => match us, hu with | [_], _ => .of_eq rfl, fun base _ _ => ?_⟩
 have Bd : ∀ {k : Nat} {x : Str} {ps : List Str} {sp : Sp} {f : Addr} {fd : FuncData}, FnOk P w K mg base CX0 k f fd ps sp -> nsIn K mainGlobals x = some (some (.ref f)) -> keepIn K (.ref f) = true -> Binds K fd ps [] -> Def P w K mg base k x ps sp := fun o a k b => ⟨_, _, o, mg_of X G a, k, b⟩;have O0 := ok_with_content (P := P) (w := w) (mg := mg) (base := base) F0 T;have D_with_content := Bd O0 a0 k0 b0;have O1 := ok_poured (P := P) (w := w) (mg := mg) (base := base) F1 T;have D_poured := Bd O1 a1 k1 b1;have O4 := ok_those_with (P := P) (w := w) (mg := mg) (base := base) F4 T;have D_those_with := Bd O4 a4 k4 b4;have O5 := ok_way_to (P := P) (w := w) (mg := mg) (base := base) F5 T;have D_way_to := Bd O5 a5 k5 b5;have O6 := ok_told_contents (P := P) (w := w) (mg := mg) (base := base) F6 T;have D_told_contents := Bd O6 a6 k6 b6;have O9 := ok_leap (P := P) (w := w) (mg := mg) (base := base) F9 T;have D_leap := Bd O9 a9 k9 b9;have O16 := ok_is_more (P := P) (w := w) (mg := mg) (base := base) F16;have D_is_more := Bd O16 a16 k16 b16;have O18 := ok_is_within (P := P) (w := w) (mg := mg) (base := base) F18;have D_is_within := Bd O18 a18 k18 b18;have O20 := ok_shares_of_one_kind (P := P) (w := w) (mg := mg) (base := base) F20 T;have D_shares_of_one_kind := Bd O20 a20 k20 b20;have O22 := ok_Mixture_init (P := P) (w := w) (mg := mg) (base := base) F22 T;have C_Mixture : CDef P w K mg base 34 "Mixture" CM p_Mixture_init _ := ⟨_, _, O22, ⟨mkCM, a22, i22, kcCM⟩, b22, mg_of X G aCM⟩;have M_Mixture_init : BDef P w K mg base 34 CM "__init__" p_Mixture_init _ := ⟨ga, _, _, .type "type", O22, rdc, fc, k22, b22⟩;have O31 := ok_Line_sizes (P := P) (w := w) (mg := mg) (base := base) F31 T;have M_Line_sizes : MDef P w K mg base 34 CL "sizes" p_Line_sizes _ := ⟨clL, _, _, O31, ⟨a31, i31, k31⟩, b31⟩;have O32 := ok_Line_is_whole (P := P) (w := w) (mg := mg) (base := base) F32 T;have M_Line_is_whole : MDef P w K mg base 34 CL "is_whole" p_Line_is_whole _ := ⟨clL, _, _, O32, ⟨a32, i32, k32⟩, b32⟩;have O33 := ok_Line_contents (P := P) (w := w) (mg := mg) (base := base) F33 T;have M_Line_contents : MDef P w K mg base 34 CL "contents" p_Line_contents _ := ⟨clL, _, _, O33, ⟨a33, i33, k33⟩, b33⟩;have O52 := ok_behind_call (P := P) (w := w) (mg := mg) (base := base) F52 T;have D_behind_call := Bd O52 a52 k52 b52;have O2 := ok_outcomes (P := P) (w := w) (mg := mg) (base := base) F2 T D_with_content D_poured;have D_outcomes := Bd O2 a2 k2 b2;have O10 := ok_common_measure (P := P) (w := w) (mg := mg) (base := base) F10 T D_leap;have D_common_measure := Bd O10 a10 k10 b10;have O17 := ok_lesser (P := P) (w := w) (mg := mg) (base := base) F17 D_is_more;have D_lesser := Bd O17 a17 k17 b17;have O19 := ok_is_kind (P := P) (w := w) (mg := mg) (base := base) F19 T D_is_within;have D_is_kind := Bd O19 a19 k19 b19;have O27 := ok_Vessel_init (P := P) (w := w) (mg := mg) (base := base) F27 T M_Mixture_init;have C_Vessel : CDef P w K mg base 35 "Vessel" CV p_Vessel_init _ := ⟨_, _, O27, ⟨mkCV, a27, i27, kcCV⟩, b27, mg_of X G aCV⟩;have O30 := ok_Line_has_vessel (P := P) (w := w) (mg := mg) (base := base) F30 T D_is_within;have M_Line_has_vessel : MDef P w K mg base 35 CL "has_vessel" p_Line_has_vessel _ := ⟨clL, _, _, O30, ⟨a30, i30, k30⟩, b30⟩;have O43 := ok_is_tap (P := P) (w := w) (mg := mg) (base := base) F43 T D_is_within;have D_is_tap := Bd O43 a43 k43 b43;have O48 := ok_is_row (P := P) (w := w) (mg := mg) (base := base) F48 T D_is_within;have D_is_row := Bd O48 a48 k48 b48;have O3 := ok_come_to (P := P) (w := w) (mg := mg) (base := base) F3 T D_outcomes;have D_come_to := Bd O3 a3 k3 b3;have O7 := ok_stays_within (P := P) (w := w) (mg := mg) (base := base) F7 T D_outcomes;have D_stays_within := Bd O7 a7 k7 b7;have O11 := ok_lowest (P := P) (w := w) (mg := mg) (base := base) F11 T D_common_measure;have D_lowest := Bd O11 a11 k11 b11;have O14 := ok_times (P := P) (w := w) (mg := mg) (base := base) F14 T D_common_measure;have D_times := Bd O14 a14 k14 b14;have O29 := ok_Line_init (P := P) (w := w) (mg := mg) (base := base) F29 T C_Mixture;have C_Line : CDef P w K mg base 36 "Line" CL p_Line_init _ := ⟨_, _, O29, ⟨mkCL, a29, i29, kcCL⟩, b29, mg_of X G aCL⟩;have O38 := ok_pair_refusal (P := P) (w := w) (mg := mg) (base := base) F38 T M_Line_has_vessel;have D_pair_refusal := Bd O38 a38 k38 b38;have O44 := ok_is_question (P := P) (w := w) (mg := mg) (base := base) F44 T D_is_within D_is_tap M_Line_has_vessel;have D_is_question := Bd O44 a44 k44 b44;have O8 := ok_proves (P := P) (w := w) (mg := mg) (base := base) F8 T D_told_contents D_those_with D_stays_within;have D_proves := Bd O8 a8 k8 b8;have O12 := ok_plus (P := P) (w := w) (mg := mg) (base := base) F12 T D_lowest;have D_plus := Bd O12 a12 k12 b12;have O15 := ok_over (P := P) (w := w) (mg := mg) (base := base) F15 T D_times;have D_over := Bd O15 a15 k15 b15;have O25 := ok_Mixture_strengths (P := P) (w := w) (mg := mg) (base := base) F25 T D_lowest;have MS : ∀ C, (C = CM ∨ C = CV) -> MDef P w K mg base 37 C "strengths" p_Mixture_strengths _ := fun C hC => by
  rcases hC with rfl | rfl
  ·exact ⟨clM, _, _, O25, ⟨a25, i25, k25⟩, b25⟩
  ·exact ⟨clV, _, _, O25, ⟨v25, i25, k25⟩, b25⟩
 have O13 := ok_minus (P := P) (w := w) (mg := mg) (base := base) F13 T D_plus;have D_minus := Bd O13 a13 k13 b13;have O21 := ok_mixed_shares (P := P) (w := w) (mg := mg) (base := base) F21 T D_over;have D_mixed_shares := Bd O21 a21 k21 b21;have O26 := ok_Mixture_amounts (P := P) (w := w) (mg := mg) (base := base) F26 T D_times MS;have MA : ∀ C, (C = CM ∨ C = CV) -> MDef P w K mg base 38 C "amounts" p_Mixture_amounts _ := fun C hC => by
  rcases hC with rfl | rfl
  ·exact ⟨clM, _, _, O26, ⟨a26, i26, k26⟩, b26⟩
  ·exact ⟨clV, _, _, O26, ⟨v26, i26, k26⟩, b26⟩
 have O23 := ok_Mixture_put (P := P) (w := w) (mg := mg) (base := base) F23 T D_plus D_mixed_shares;have MP : ∀ C, (C = CM ∨ C = CV) -> MDef P w K mg base 39 C "put" p_Mixture_put _ := fun C hC => by
  rcases hC with rfl | rfl
  ·exact ⟨clM, _, _, O23, ⟨a23, i23, k23⟩, b23⟩
  ·exact ⟨clV, _, _, O23, ⟨v23, i23, k23⟩, b23⟩
 have O24 := ok_Mixture_take (P := P) (w := w) (mg := mg) (base := base) F24 T D_minus;have MT : ∀ C, (C = CM ∨ C = CV) -> MDef P w K mg base 39 C "take" p_Mixture_take _ := fun C hC => by
  rcases hC with rfl | rfl
  ·exact ⟨clM, _, _, O24, ⟨a24, i24, k24⟩, b24⟩
  ·exact ⟨clV, _, _, O24, ⟨v24, i24, k24⟩, b24⟩
 have O28 := ok_Vessel_room (P := P) (w := w) (mg := mg) (base := base) F28 T D_minus;have M_Vessel_room : MDef P w K mg base 39 CV "room" p_Vessel_room _ := ⟨clV, _, _, O28, ⟨a28, i28, k28⟩, b28⟩;have O34 := ok_move (P := P) (w := w) (mg := mg) (base := base) F34 T MP MT;have D_move := Bd O34 a34 k34 b34;have O35 := ok_call_vessel (P := P) (w := w) (mg := mg) (base := base) F35 T D_is_within C_Vessel;have D_call_vessel := Bd O35 a35 k35 b35;have O36 := ok_call_fill (P := P) (w := w) (mg := mg) (base := base) F36 T M_Line_has_vessel D_is_kind M_Vessel_room D_shares_of_one_kind MP D_plus;have D_call_fill := Bd O36 a36 k36 b36;have O37 := ok_call_drain (P := P) (w := w) (mg := mg) (base := base) F37 T M_Line_has_vessel D_move;have D_call_drain := Bd O37 a37 k37 b37;have O39 := ok_call_pour (P := P) (w := w) (mg := mg) (base := base) F39 T D_pair_refusal D_move D_lesser M_Vessel_room;have D_call_pour := Bd O39 a39 k39 b39;have O40 := ok_call_some (P := P) (w := w) (mg := mg) (base := base) F40 T D_is_within D_pair_refusal D_move D_lowest D_is_more M_Vessel_room;have D_call_some := Bd O40 a40 k40 b40;have O41 := ok_call_state (P := P) (w := w) (mg := mg) (base := base) F41 T MA;have D_call_state := Bd O41 a41 k41 b41;have O42 := ok_call_strength (P := P) (w := w) (mg := mg) (base := base) F42 T M_Line_has_vessel D_is_kind MS;have D_call_strength := Bd O42 a42 k42 b42;have O45 := ok_call_way (P := P) (w := w) (mg := mg) (base := base) F45 T D_is_question M_Line_is_whole M_Line_sizes M_Line_contents D_come_to D_those_with D_way_to;have D_call_way := Bd O45 a45 k45 b45;have O46 := ok_call_can (P := P) (w := w) (mg := mg) (base := base) F46 T D_is_tap M_Line_is_whole M_Line_sizes M_Line_contents D_come_to;have D_call_can := Bd O46 a46 k46 b46;have O47 := ok_call_proof (P := P) (w := w) (mg := mg) (base := base) F47 T D_is_question M_Line_is_whole M_Line_sizes M_Line_contents D_come_to D_those_with;have D_call_proof := Bd O47 a47 k47 b47;have O49 := ok_call_check (P := P) (w := w) (mg := mg) (base := base) F49 T D_is_question M_Line_is_whole M_Line_sizes M_Line_contents D_is_row D_proves;have D_call_check := Bd O49 a49 k49 b49;have O50 := ok_call_gcd (P := P) (w := w) (mg := mg) (base := base) F50 T M_Line_sizes D_common_measure;have D_call_gcd := Bd O50 a50 k50 b50;have O51 := ok_call_ledger (P := P) (w := w) (mg := mg) (base := base) F51 T MA;have D_call_ledger := Bd O51 a51 k51 b51;have W : Works P w K mg base ⟨CM, CV, CL, aN, aT, aW, [f35, f36, f37, f39, f40, f41, f42, f45, f46, f47, f49, f50, f51]⟩ := fun i hi => by
  match i, hi with
  | 0, _ => exact ⟨_, _, _, rfl, O35, k35, b35⟩
  | 1, _ => exact ⟨_, _, _, rfl, O36, k36, b36⟩
  | 2, _ => exact ⟨_, _, _, rfl, O37, k37, b37⟩
  | 3, _ => exact ⟨_, _, _, rfl, O39, k39, b39⟩
  | 4, _ => exact ⟨_, _, _, rfl, O40, k40, b40⟩
  | 5, _ => exact ⟨_, _, _, rfl, O41, k41, b41⟩
  | 6, _ => exact ⟨_, _, _, rfl, O42, k42, b42⟩
  | 7, _ => exact ⟨_, _, _, rfl, O45, k45, b45⟩
  | 8, _ => exact ⟨_, _, _, rfl, O46, k46, b46⟩
  | 9, _ => exact ⟨_, _, _, rfl, O47, k47, b47⟩
  | 10, _ => exact ⟨_, _, _, rfl, O49, k49, b49⟩
  | 11, _ => exact ⟨_, _, _, rfl, O50, k50, b50⟩
  | 12, _ => exact ⟨_, _, _, rfl, O51, k51, b51⟩
  | n + 13, hi => omega
 exact ok_answers F53 T C_Line D_behind_call W
end Vr
namespace PySem.W.Fast
theorem tw16074059350831105333 : True := trivial
theorem tw6363595634658727574 : True := trivial
theorem tw966153439350470203 : True := trivial
theorem tw17968771265629198218 : True := trivial
theorem tw16930534119553173001 : True := trivial
theorem tw14041751672523389512 : True := trivial
theorem tw9994474438892927486 : True := trivial
theorem tw2161757491965742828 : True := trivial
theorem tw9785142910022664828 : True := trivial
theorem tw2081231238547188627 : True := trivial
theorem tw17911034416108187894 : True := trivial
theorem tw11300889046826208690 : True := trivial
theorem tw17944760764922041006 : True := trivial
theorem tw5997783919164882267 : True := trivial
theorem tw17469394160313800815 : True := trivial
theorem tw17892432652487347476 : True := trivial
theorem tw14473427949523725114 : True := trivial
theorem tw771980798715012499 : True := trivial
theorem tw16391738725564531669 : True := trivial
theorem tw15824101753745523638 : True := trivial
theorem tw6920047728993337025 : True := trivial
theorem tw2394250533599294626 : True := trivial
theorem tw11257367934228987700 : True := trivial
theorem tw16232386543817309679 : True := trivial
theorem tw11276330089589212575 : True := trivial
theorem tw11247505081103272947 : True := trivial
theorem tw2246842494526822057 : True := trivial
theorem tw6690075329212600226 : True := trivial
theorem tw12395547299404329402 : True := trivial
theorem tw6975354943945276906 : True := trivial
theorem tw4463885219919126151 : True := trivial
theorem tw8046710233166902702 : True := trivial
theorem tw589718375342031448 : True := trivial
theorem tw1405387759580655355 : True := trivial
theorem tw714053615238093480 : True := trivial
theorem tw5873278797077152266 : True := trivial
theorem tw13569268567241540546 : True := trivial
theorem tw9549756599564062246 : True := trivial
theorem tw12904272893931083573 : True := trivial
theorem tw1283752096465971039 : True := trivial
end PySem.W.Fast
open PySem PySem.W PyProof.Rows
set_option maxRecDepth 100000 in
set_option maxHeartbeats 0 in
theorem PySem.Challenge.cw_vesselriddle_s01_answers_holds : PySem.Challenge.rw_vesselriddle_s01_answers.Holds := by
 w_on; k_headS; (case hw => exact ⟨[.list [.int 5]], by decide +kernel, by decide +kernel⟩)
 k_fillS
 refine L2.walk_specK (r := PySem.Challenge.rw_vesselriddle_s01_answers) (k := 42) (CX := L2.CX0) (ps := ["calls"]) (sp := Vr.spAns) (by decide +kernel) (by decide +kernel) rfl rfl ⟨rfl, by decide, by decide⟩ (fun w h Y => PySem.W.kIn_of Y) ?F ?S (fun _ _ _ _ z => z)
 case F =>
  intro w mg fa h Y KX G hmg;refine' Vr.all_mk KX G rfl hmg ?aCM ?aCV ?aCL ?a0 ?l0 ?c0 ?k0 ?a1 ?l1 ?c1 ?k1 ?a2 ?l2 ?c2 ?k2 ?a3 ?l3 ?c3 ?k3 ?a4 ?l4 ?c4 ?k4 ?a5 ?l5 ?c5 ?k5 ?a6 ?l6 ?c6 ?k6 ?a7 ?l7 ?c7 ?k7 ?a8 ?l8 ?c8 ?k8 ?a9 ?l9 ?c9 ?k9 ?a10 ?l10 ?c10 ?k10 ?a11 ?l11 ?c11 ?k11 ?a12 ?l12 ?c12 ?k12 ?a13 ?l13 ?c13 ?k13 ?a14 ?l14 ?c14 ?k14 ?a15 ?l15 ?c15 ?k15 ?a16 ?l16 ?c16 ?k16 ?a17 ?l17 ?c17 ?k17 ?a18 ?l18 ?c18 ?k18 ?a19 ?l19 ?c19 ?k19 ?a20 ?l20 ?c20 ?k20 ?a21 ?l21 ?c21 ?k21 ?a22 ?i22 ?l22 ?c22 ?k22 ?a23 ?v23 ?i23 ?l23 ?c23 ?k23 ?a24 ?v24 ?i24 ?l24 ?c24 ?k24 ?a25 ?v25 ?i25 ?l25 ?c25 ?k25 ?a26 ?v26 ?i26 ?l26 ?c26 ?k26 ?a27 ?i27 ?l27 ?c27 ?k27 ?a28 ?i28 ?l28 ?c28 ?k28 ?a29 ?i29 ?l29 ?c29 ?k29 ?a30 ?i30 ?l30 ?c30 ?k30 ?a31 ?i31 ?l31 ?c31 ?k31 ?a32 ?i32 ?l32 ?c32 ?k32 ?a33 ?i33 ?l33 ?c33 ?k33 ?a34 ?l34 ?c34 ?k34 ?a35 ?l35 ?c35 ?k35 ?a36 ?l36 ?c36 ?k36 ?a37 ?l37 ?c37 ?k37 ?a38 ?l38 ?c38 ?k38 ?a39 ?l39 ?c39 ?k39 ?a40 ?l40 ?c40 ?k40 ?a41 ?l41 ?c41 ?k41 ?a42 ?l42 ?c42 ?k42 ?a43 ?l43 ?c43 ?k43 ?a44 ?l44 ?c44 ?k44 ?a45 ?l45 ?c45 ?k45 ?a46 ?l46 ?c46 ?k46 ?a47 ?l47 ?c47 ?k47 ?a48 ?l48 ?c48 ?k48 ?a49 ?l49 ?c49 ?k49 ?a50 ?l50 ?c50 ?k50 ?a51 ?l51 ?c51 ?k51 ?a52 ?l52 ?c52 ?k52 ?a53 ?l53 ?c53 ?k53 ?pgCM ?hdCM ?poCM ?saCM ?mkCM ?kcCM ?pgCV ?hdCV ?poCV ?saCV ?mkCV ?kcCV ?pgCL ?hdCL ?poCL ?saCL ?mkCL ?kcCL ?nCM_content ?nCM_shares ?nCM_known_strengths ?nCV_content ?nCV_shares ?nCV_known_strengths ?nCV_size ?nCL_vessels ?nCL_filled ?nCL_gone ?ga ?rdc ?fc ?q_HALF_WINDOW ?q_LONG ?q_MOST_VESSELS ?q_LARGEST_SIZE ?q_KINDS ?q_LARGEST_TOLD_PART ?q_CHECK ?q_OUT_OF_RANGE ?q_ONE_VESSEL ?q_NOT_SO ?q_NO_PLACE ?q_NOT_WHOLE ?q_NOTHING ?q_TOLD ?q_WORKS ?lN ?lT ?lW ?z_len ?z_list ?z_tuple ?z_range ?z_min ?z_max ?z_abs ?z_sum ?z_all ?z_set ?z_sorted ?z_reversed;all_goals (try k_is)
 case S =>
  intro K H xs a hO hwi hask hx;cases hx with
  | cons h1 h2 =>
   cases h2;cases h1 with
   | lst hs ha =>
    have e := L2.ints_dw a.1 _ ha;subst e;obtain ⟨cs, hc, hk, hl, he⟩ := Vr.asked_calls (l := a.1) hask;have hk' : (cs.all VbtaamNeutral.asked1 && (decide (1 <= cs.length) && (decide (cs.length <= 200) && decide ((cs.filter VbtaamNeutral.isProof).length <= 50)))) = true := hk;rw [Bool.and_eq_true, Bool.and_eq_true] at hk';refine ⟨_, a.1, a.1.length, cs, rfl, ?_, hc, hk'.1, hl, fun z => ?_, fun H' p hp => ?_⟩
    ·rcases hs with (h | ⟨o, h⟩) | h
     ·rcases hO _ with z | ⟨o, u, z⟩
      ·rw [z] at h; cases h
      ·rw [z] at h; cases h
     ·exact .inl ⟨o, h⟩
     ·exact .inr fun H' => .inr h
    ·have hz : PyFlat.calls PyVbtaam.shape a.1.length [] = some cs := by rw [<- z]; exact hc
     have := Vr.calls_nil hz;rw [this] at hk';exact absurd hk'.2.1 (by decide)
    ·have e2 : PyVbtaam.answers a.1 = PyFlat.told (PyFlat.played VbtaamNeutral.step VbtaamNeutral.start cs) := he;rw [<- e2] at hp;exact .lst (L2.SqL.of hp) (L2.dw_ints _)
