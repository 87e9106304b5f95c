import PyProof.Rows.All
import Wide.All
import OpenK.AllK
import Wide.FinOn
import PySem.Challenge.RW_dosehouse_k02_doses
set_option Elab.async false
set_option maxHeartbeats 4000000
namespace Mine
open PySem PySem.W PySem.Calls PyProof.Rows
theorem quot (x y : Int) : x = y * Int.fdiv x y + Int.fmod x y := by
  rw [Int.fmod_def]; omega
theorem fdiv_bd {x y : Int} (hx : 0 ≤ x) (hy : 0 < y) : 0 ≤ Int.fdiv x y ∧ Int.fdiv x y ≤ x := by
  rw [Int.fdiv_eq_ediv_of_nonneg x (Int.le_of_lt hy)]
  exact ⟨Int.ediv_nonneg hx (Int.le_of_lt hy), Int.ediv_le_self y hx⟩
def many (top step : Int) (way : Str) : Int :=
  Int.fdiv top step + (if way = Str.ofString "up" ∧ 0 < top - Int.fdiv top step * step then 1 else 0)
    + (if way = Str.ofString "near" ∧ step < 2 * (top - Int.fdiv top step * step) then 1 else 0)
def rnd (top bottom part : Int) (way : Str) : Int := many top (bottom * part) way * part
def lmany (top step : Int) (way : Str) : Int :=
  if way = Str.ofString "up" then -(Int.fdiv (-top) step) else if way = Str.ofString "down" then Int.fdiv top step
  else -(Int.fdiv (step - 2 * top) (2 * step))
def lrnd (top bottom part : Int) (way : Str) : Int := lmany top (part * bottom) way * part
theorem parts {top s : Int} (hs : 0 < s) (ht : 0 ≤ top) :
    ∃ q r, Int.fdiv top s = q ∧ top = s * q + r ∧ 0 ≤ r ∧ r < s ∧ 0 ≤ q ∧ s * (q + 1) = s * q + s ∧ q * s = s * q :=
  ⟨_, _, rfl, quot top s, Int.fmod_nonneg_of_pos _ hs, Int.fmod_lt_of_pos _ hs, (fdiv_bd ht hs).1, by rw [Int.mul_add, Int.mul_one], Int.mul_comm _ _⟩
theorem ud : ¬ Str.ofString "up" = Str.ofString "down" := by decide +kernel
theorem nd : ¬ Str.ofString "near" = Str.ofString "down" := by decide +kernel
theorem nu : ¬ Str.ofString "near" = Str.ofString "up" := by decide +kernel
theorem un : ¬ Str.ofString "up" = Str.ofString "near" := by decide +kernel
theorem dn : ¬ Str.ofString "down" = Str.ofString "near" := by decide +kernel
theorem du : ¬ Str.ofString "down" = Str.ofString "up" := by decide +kernel
theorem fdiv_is {x s q r : Int} (hs : 0 < s) (e : x = s * q + r) (r0 : 0 ≤ r) (r1 : r < s) : Int.fdiv x s = q := by
  subst e
  rw [Int.fdiv_eq_ediv_of_nonneg _ (Int.le_of_lt hs), Int.add_comm, Int.add_mul_ediv_left _ _ (by omega), Int.ediv_eq_zero_of_lt r0 r1]
  omega
def aWay (way : Str) : Prop := way = Str.ofString "down" ∨ way = Str.ofString "up" ∨ way = Str.ofString "near"
theorem many_same {top s : Int} {way : Str} (hs : 0 < s) (ht : 0 ≤ top) (hw : aWay way) : lmany top s way = many top s way := by
  obtain ⟨q, r, e, e1, r0, r1, q0, e2, e3⟩ := parts hs ht
  have g : top - q * s = r := by rw [e3]; omega
  unfold lmany many
  rw [e, g]
  rcases hw with h | h | h <;> subst h
  · simp only [du, dn, if_false, false_and, if_true]; omega
  · simp only [un, if_false, false_and, true_and, if_true]
    by_cases c : 0 < r
    · rw [if_pos c, fdiv_is (q := -(q + 1)) (r := s - r) hs (by rw [Int.mul_neg]; omega) (by omega) (by omega)]; omega
    · rw [if_neg c, fdiv_is (q := -q) (r := -r) hs (by rw [Int.mul_neg]; omega) (by omega) (by omega)]; omega
  · simp only [nu, nd, if_false, false_and, true_and, if_true]
    have e4 : 2 * s * q = 2 * (s * q) := Int.mul_assoc 2 s q
    have e5 : 2 * s * (q + 1) = 2 * (s * q) + 2 * s := by rw [Int.mul_add, Int.mul_one, e4]
    by_cases c : s < 2 * r
    · rw [if_pos c, fdiv_is (s := 2 * s) (q := -(q + 1)) (r := 3 * s - 2 * r) (by omega) (by rw [Int.mul_neg]; omega) (by omega) (by omega)]; omega
    · rw [if_neg c, fdiv_is (s := 2 * s) (q := -q) (r := s - 2 * r) (by omega) (by rw [Int.mul_neg]; omega) (by omega) (by omega)]; omega
theorem rnd_same {top bottom part : Int} {way : Str} (ht : 0 ≤ top) (hb : 0 < bottom) (hp : 0 < part) (hw : aWay way) :
    lrnd top bottom part way = rnd top bottom part way := by
  unfold lrnd rnd
  rw [Int.mul_comm part bottom, many_same (Int.mul_pos hb hp) ht hw]
theorem top_is {most part : Int} (hm : 0 ≤ most) (hp : 0 < part) : rnd most 1 part (Str.ofString "down") = most - Int.fmod most part := by
  have e := quot most part
  have e2 := Int.mul_comm part (Int.fdiv most part)
  unfold rnd many
  simp only [du, dn, if_false, false_and, Int.one_mul, Int.add_zero]
  omega
/-- the dose: the lesser of the multiple that is found and the greatest one that is not above most -/
theorem least {m most part : Int} (hp : 0 < part) (x : Int) (ex : x = m * part) (lo : x ≤ most) : x ≤ most - Int.fmod most part := by
  have e := quot most part
  have l := Int.fmod_lt_of_pos most hp
  have l0 := Int.fmod_nonneg_of_pos most hp
  generalize Int.fdiv most part = k at *
  have c : m ≤ k := by
    refine Int.not_lt.mp fun h => ?_
    have h1 := Int.mul_le_mul_of_nonneg_left (show k + 1 ≤ m by omega) (Int.le_of_lt hp)
    rw [Int.mul_add, Int.mul_one, Int.mul_comm part m] at h1
    omega
  have h2 := Int.mul_le_mul_of_nonneg_left c (Int.le_of_lt hp)
  rw [Int.mul_comm part m] at h2
  omega
theorem dose_is {T B T' B' most part : Int} {way : Str} (hT : T' = T) (hB : B' = B) (ht : 0 ≤ T) (hb : 0 < B) (hp : 0 < part) (hm : 0 ≤ most) (hw : aWay way) :
    min (rnd T' B' part way) (rnd most 1 part (Str.ofString "down")) = if lrnd T B part way > most then most - Int.fmod most part else lrnd T B part way := by
  subst hT hB
  rw [rnd_same ht hb hp hw, top_is hm hp]
  have l := Int.fmod_nonneg_of_pos most hp
  split
  · omega
  · have := least (m := many T' (B' * part) way) (most := most) hp (rnd T' B' part way) rfl (by omega)
    omega
theorem mul_bd {x y X Y : Int} (hx0 : -X ≤ x) (hx : x ≤ X) (hy0 : -Y ≤ y) (hy : y ≤ Y) : -(X * Y) ≤ x * y ∧ x * y ≤ X * Y := by
  have hX : 0 ≤ X := by omega
  have hY : 0 ≤ Y := by omega
  have a : x.natAbs ≤ X.natAbs := by omega
  have b : y.natAbs ≤ Y.natAbs := by omega
  have c := Nat.mul_le_mul a b
  rw [← Int.natAbs_mul, ← Int.natAbs_mul] at c
  have d : 0 ≤ X * Y := Int.mul_nonneg hX hY
  omega
def cell (ns : List Int) (k : Int) : Int := if 0 < ns.length then Int.fmod (ns.getD (Int.fmod k (ns.length : Int)).toNat 0) 2147483647 else 0
def draw (ns : List Int) (k m : Int) : Int :=
  Int.fmod (Int.fmod (cell ns k * 48271 + (k + 1) * (k + 5) * 69621) 2147483629) m
theorem draw_in (ns : List Int) (k m : Int) (hm : 0 < m) : 0 ≤ draw ns k m ∧ draw ns k m < m :=
  ⟨Int.fmod_nonneg_of_pos _ hm, Int.fmod_lt_of_pos _ hm⟩
def number (ns : List Int) (k most : Int) : Int :=
  if draw ns k 4 > 0 then 1 + Int.fmod (draw ns (k + 1) 30) most else 1 + draw ns (k + 1) most
theorem number_in (ns : List Int) (k most : Int) (hm : 0 < most) : 1 ≤ number ns k most ∧ number ns k most ≤ most := by
  have a := draw_in ns (k + 1) most hm
  have b := Int.fmod_nonneg_of_pos (draw ns (k + 1) 30) hm
  have c := Int.fmod_lt_of_pos (draw ns (k + 1) 30) hm
  unfold number
  split <;> omega
theorem yes {way w0 : Str} {P : Prop} {_inst : Decidable (way = w0 ∧ P)} (a : (way == w0) = true) (b : P) : (if way = w0 ∧ P then (1 : Int) else 0) = 1 := if_pos ⟨eq_of_beq a, b⟩
theorem no1 {way w0 : Str} {P : Prop} {_inst : Decidable (way = w0 ∧ P)} (a : (way == w0) = false) : (if way = w0 ∧ P then (1 : Int) else 0) = 0 :=
  if_neg fun h => by rw [h.1, beq_self_eq_true] at a; cases a
theorem no2 {way w0 : Str} {P : Prop} {_inst : Decidable (way = w0 ∧ P)} (b : ¬ P) : (if way = w0 ∧ P then (1 : Int) else 0) = 0 := if_neg fun h => b h.2
theorem rnd_tree {top bottom part m a b : Int} {way : Str}
    (ha : (if way = Str.ofString "up" ∧ 0 < top - Int.fdiv top (bottom * part) * (bottom * part) then (1 : Int) else 0) = a)
    (hb : (if way = Str.ofString "near" ∧ bottom * part < 2 * (top - Int.fdiv top (bottom * part) * (bottom * part)) then (1 : Int) else 0) = b)
    (hm : m = Int.fdiv top (bottom * part) + a + b) : m * part = rnd top bottom part way := by
  unfold rnd many
  rw [ha, hb, hm]
section
variable {top bottom part : Int} {way : Str}
theorem rnd_no {x : Int} (h1 : (way == Str.ofString "up") = true) (h3 : (way == Str.ofString "near") = true) : x = rnd top bottom part way :=
  absurd ((eq_of_beq h1).symm.trans (eq_of_beq h3)) un
theorem rnd_TT (h1 : (way == Str.ofString "up") = true) (h2 : 0 < top - Int.fdiv top (bottom * part) * (bottom * part)) (h3 : (way == Str.ofString "near") = true) (h4 : bottom * part < 2 * (top - Int.fdiv top (bottom * part) * (bottom * part))) : (Int.fdiv top (bottom * part) + 1 + 1) * part = rnd top bottom part way := rnd_tree (yes h1 h2) (yes h3 h4) (by omega)
theorem rnd_TA (h1 : (way == Str.ofString "up") = true) (h2 : 0 < top - Int.fdiv top (bottom * part) * (bottom * part)) (h3 : (way == Str.ofString "near") = false) : (Int.fdiv top (bottom * part) + 1) * part = rnd top bottom part way := rnd_tree (yes h1 h2) (no1 h3) (by omega)
theorem rnd_TB (h1 : (way == Str.ofString "up") = true) (h2 : 0 < top - Int.fdiv top (bottom * part) * (bottom * part)) (h4 : ¬ bottom * part < 2 * (top - Int.fdiv top (bottom * part) * (bottom * part))) : (Int.fdiv top (bottom * part) + 1) * part = rnd top bottom part way := rnd_tree (yes h1 h2) (no2 h4) (by omega)
theorem rnd_AT (h1 : (way == Str.ofString "up") = false) (h3 : (way == Str.ofString "near") = true) (h4 : bottom * part < 2 * (top - Int.fdiv top (bottom * part) * (bottom * part))) : (Int.fdiv top (bottom * part) + 1) * part = rnd top bottom part way := rnd_tree (no1 h1) (yes h3 h4) (by omega)
theorem rnd_AA (h1 : (way == Str.ofString "up") = false) (h3 : (way == Str.ofString "near") = false) : Int.fdiv top (bottom * part) * part = rnd top bottom part way := rnd_tree (no1 h1) (no1 h3) (by omega)
theorem rnd_AB (h1 : (way == Str.ofString "up") = false) (h4 : ¬ bottom * part < 2 * (top - Int.fdiv top (bottom * part) * (bottom * part))) : Int.fdiv top (bottom * part) * part = rnd top bottom part way := rnd_tree (no1 h1) (no2 h4) (by omega)
theorem rnd_BT (h2 : ¬ 0 < top - Int.fdiv top (bottom * part) * (bottom * part)) (h3 : (way == Str.ofString "near") = true) (h4 : bottom * part < 2 * (top - Int.fdiv top (bottom * part) * (bottom * part))) : (Int.fdiv top (bottom * part) + 1) * part = rnd top bottom part way := rnd_tree (no2 h2) (yes h3 h4) (by omega)
theorem rnd_BA (h2 : ¬ 0 < top - Int.fdiv top (bottom * part) * (bottom * part)) (h3 : (way == Str.ofString "near") = false) : Int.fdiv top (bottom * part) * part = rnd top bottom part way := rnd_tree (no2 h2) (no1 h3) (by omega)
theorem rnd_BB (h2 : ¬ 0 < top - Int.fdiv top (bottom * part) * (bottom * part)) (h4 : ¬ bottom * part < 2 * (top - Int.fdiv top (bottom * part) * (bottom * part))) : Int.fdiv top (bottom * part) * part = rnd top bottom part way := rnd_tree (no2 h2) (no2 h4) (by omega)
end
section
variable {top bottom part : Int} {way : Str}
theorem off {w0 : Str} (a : (way == w0) = false) : ¬ way = w0 := fun h => by rw [h, beq_self_eq_true] at a; cases a
theorem lrnd_up (h1 : (way == Str.ofString "up") = true) : -(Int.fdiv (-top) (part * bottom)) * part = lrnd top bottom part way := by
  unfold lrnd lmany
  rw [if_pos (eq_of_beq h1)]
theorem lrnd_down (h1 : (way == Str.ofString "up") = false) (h2 : (way == Str.ofString "down") = true) : Int.fdiv top (part * bottom) * part = lrnd top bottom part way := by
  unfold lrnd lmany
  rw [if_neg (off h1), if_pos (eq_of_beq h2)]
theorem lrnd_near (h1 : (way == Str.ofString "up") = false) (h2 : (way == Str.ofString "down") = false) :
    -(Int.fdiv (part * bottom - 2 * top) (2 * (part * bottom))) * part = lrnd top bottom part way := by
  unfold lrnd lmany
  rw [if_neg (off h1), if_neg (off h2)]
end
theorem draw_fact (ns : List Int) (k m : Int) {vs : List Value} (_h : IntsAre vs ns := by assumption) (hm : 0 < m := by omega) :
    0 ≤ draw ns k m ∧ draw ns k m < m := draw_in ns k m hm
theorem number_fact (ns : List Int) (k most : Int) {vs : List Value} (_h : IntsAre vs ns := by assumption) (hm : 0 < most := by omega) :
    1 ≤ number ns k most ∧ number ns k most ≤ most := number_in ns k most hm
theorem way_in {i : Int} (h0 : 0 ≤ i) (h1 : i < 3) : aWay ([Str.ofString "down", Str.ofString "up", Str.ofString "near"].getD i.toNat Str.empty) := by
  rcases (show i = 0 ∨ i = 1 ∨ i = 2 by omega) with h | h | h <;> subst h
  · exact Or.inl rfl
  · exact Or.inr (Or.inl rfl)
  · exact Or.inr (Or.inr rfl)
theorem many_in {top s : Int} {way : Str} (ht : 0 ≤ top) (hs : 0 < s) : 0 ≤ many top s way ∧ many top s way ≤ top + 2 := by
  have d := fdiv_bd ht hs
  unfold many
  split <;> split <;> omega

theorem end_a {T B T' B' most part : Int} {way : Str} (c : ¬ lrnd T B part way > most) (hT : T' = T) (hB : B' = B) (hw : aWay way) (ht : 0 ≤ T) (hb : 0 < B) (hp : 0 < part) (hm : 0 ≤ most) :
    (if rnd most 1 part (Str.ofString "down") < rnd T' B' part way then rnd most 1 part (Str.ofString "down") else rnd T' B' part way) = lrnd T B part way := by
  have h := dose_is hT hB ht hb hp hm hw
  rw [if_neg c] at h
  rw [← h]
  split <;> omega
theorem end_b {T B T' B' most part : Int} {way : Str} (c : lrnd T B part way > most) (hT : T' = T) (hB : B' = B) (hw : aWay way) (ht : 0 ≤ T) (hb : 0 < B) (hp : 0 < part) (hm : 0 ≤ most) :
    (if rnd most 1 part (Str.ofString "down") < rnd T' B' part way then rnd most 1 part (Str.ofString "down") else rnd T' B' part way) = most - Int.fmod most part := by
  have h := dose_is hT hB ht hb hp hm hw
  rw [if_pos c] at h
  rw [← h]
  split <;> omega
theorem end_c {T B T' B' most part : Int} {way : Str} (hT : T' = T) (hB : B' = B) (hw : aWay way) (ht : 0 ≤ T) (hb : 0 < B) (hp : 0 < part) (hm : 0 ≤ most) :
    (if rnd most 1 part (Str.ofString "down") < rnd T' B' part way then rnd most 1 part (Str.ofString "down") else rnd T' B' part way) = if lrnd T B part way > most then most - Int.fmod most part else lrnd T B part way := by
  have h := dose_is hT hB ht hb hp hm hw
  rw [← h]
  split <;> omega
theorem rnd_in {top bottom part : Int} {way : Str} (t0 : 0 ≤ top) (t1 : top ≤ 10 ^ 124) (hb : 0 < bottom) (p0 : 0 < part) (p1 : part ≤ 10 ^ 41) :
    0 ≤ rnd top bottom part way ∧ rnd top bottom part way ≤ 10 ^ 170 := by
  have d := fdiv_bd t0 (Int.mul_pos hb p0)
  have m : 0 ≤ many top (bottom * part) way ∧ many top (bottom * part) way ≤ 10 ^ 125 := by
    unfold many
    split <;> split <;> omega
  have b := mul_bd (X := 10 ^ 125) (Y := 10 ^ 41) (x := many top (bottom * part) way) (y := part) (by omega) m.2 (by omega) p1
  have e : (10 : Int) ^ 125 * 10 ^ 41 ≤ 10 ^ 170 := by decide +kernel
  unfold rnd
  exact ⟨Int.mul_nonneg m.1 (Int.le_of_lt p0), Int.le_trans b.2 e⟩
theorem rnd_fact (top bottom part : Int) (way : Str) (t0 : 0 ≤ top := by omega) (t1 : top ≤ 10 ^ 124 := by omega) (hb : 0 < bottom := by omega) (p0 : 0 < part := by omega) (p1 : part ≤ 10 ^ 41 := by omega) :
    0 ≤ rnd top bottom part way ∧ rnd top bottom part way ≤ 10 ^ 170 := rnd_in t0 t1 hb p0 p1


section
variable {prog : Program} {w : World} {A : Around} {E : Value → Shared → Prop} {s : Shared} {x y : Int} {t u : Tok} {Q : Value → Shared → Prop}
theorem small_bits {x : Int} (lo : -(10 ^ 252) ≤ x) (hi : x ≤ 10 ^ 252) : PySem.Builtin.Int.intBits x ≤ 2 ^ 20 := by
  have h : PySem.Builtin.Int.intBits x ≤ 1000 := PySem.intBits_le_iff.mpr (by
    have e : (10 : Int) ^ 252 < ((2 ^ 1000 : Nat) : Int) := by decide +kernel
    generalize (2 ^ 1000 : Nat) = z at *
    generalize (10 : Int) ^ 252 = v at *
    omega)
  exact Nat.le_trans h (by decide)
theorem step_mul {X Y Z : Int} (e : X * Y = Z) (hX : X ≤ 10 ^ 252) (hY : Y ≤ 10 ^ 252) (x0 : -X ≤ x) (x1 : x ≤ X) (y0 : -Y ≤ y) (y1 : y ≤ Y)
    (h : -Z ≤ x * y → x * y ≤ Z → (0 ≤ x → 0 ≤ y → 0 ≤ x * y) → (0 < x → 0 < y → 0 < x * y) → Q (.int (x * y) s.toks) { s with toks := s.toks + 1 }) :
    wpAny (model prog w) A (binaryOp .Mult (.int x t) (.int y u)) Q E s := by
  have b := mul_bd x0 x1 y0 y1
  rw [e] at b
  exact PyProof.Rows.mul_int (h b.1 b.2 Int.mul_nonneg Int.mul_pos) (IntMulOk.of_bits (small_bits (by omega) (by omega)) (small_bits (by omega) (by omega)))
theorem mul1 (x0 : -(10 ^ 41) ≤ x) (x1 : x ≤ 10 ^ 41) (y0 : -(10 ^ 41) ≤ y) (y1 : y ≤ 10 ^ 41)
    (h : -(10 ^ 82) ≤ x * y → x * y ≤ 10 ^ 82 → (0 ≤ x → 0 ≤ y → 0 ≤ x * y) → (0 < x → 0 < y → 0 < x * y) → Q (.int (x * y) s.toks) { s with toks := s.toks + 1 }) :
    wpAny (model prog w) A (binaryOp .Mult (.int x t) (.int y u)) Q E s := step_mul (by decide +kernel) (by decide +kernel) (by decide +kernel) x0 x1 y0 y1 h
theorem mul2 (x0 : -(10 ^ 41) ≤ x) (x1 : x ≤ 10 ^ 41) (y0 : -(10 ^ 82) ≤ y) (y1 : y ≤ 10 ^ 82)
    (h : -(10 ^ 123) ≤ x * y → x * y ≤ 10 ^ 123 → (0 ≤ x → 0 ≤ y → 0 ≤ x * y) → (0 < x → 0 < y → 0 < x * y) → Q (.int (x * y) s.toks) { s with toks := s.toks + 1 }) :
    wpAny (model prog w) A (binaryOp .Mult (.int x t) (.int y u)) Q E s := step_mul (by decide +kernel) (by decide +kernel) (by decide +kernel) x0 x1 y0 y1 h
theorem mul3 (x0 : -(10 ^ 170) ≤ x) (x1 : x ≤ 10 ^ 170) (y0 : -(10 ^ 82) ≤ y) (y1 : y ≤ 10 ^ 82)
    (h : -(10 ^ 252) ≤ x * y → x * y ≤ 10 ^ 252 → (0 ≤ x → 0 ≤ y → 0 ≤ x * y) → (0 < x → 0 < y → 0 < x * y) → Q (.int (x * y) s.toks) { s with toks := s.toks + 1 }) :
    wpAny (model prog w) A (binaryOp .Mult (.int x t) (.int y u)) Q E s := step_mul (by decide +kernel) (by decide +kernel) (by decide +kernel) x0 x1 y0 y1 h
theorem no_pylong {x y : Int} (y0 : 0 < y) (y1 : y ≤ 10 ^ 252) : Builtin.divisionGoesByPylong x y = false :=
  PyProof.noPylong_of_log2 (by
    have k : y.natAbs.log2 < 1000 := (Nat.log2_lt (by omega)).mpr (by
      have e : (10 : Int) ^ 252 < ((2 ^ 1000 : Nat) : Int) := by decide +kernel
      generalize (2 ^ 1000 : Nat) = z at *
      generalize (10 : Int) ^ 252 = v at *
      omega)
    omega)
theorem fdiv_abs {x y X : Int} (x0 : -X ≤ x) (x1 : x ≤ X) : -X ≤ Int.fdiv x y ∧ Int.fdiv x y ≤ X := by
  have := PySem.natAbs_fdiv_le x y
  omega
theorem step_div (y0 : 0 < y) (y1 : y ≤ 10 ^ 252) (x0 : -(10 ^ 126) ≤ x) (x1 : x ≤ 10 ^ 126)
    (h : -(10 ^ 126) ≤ Int.fdiv x y → Int.fdiv x y ≤ 10 ^ 126 → (0 ≤ x → 0 ≤ Int.fdiv x y ∧ Int.fdiv x y ≤ x) → Q (.int (Int.fdiv x y) s.toks) { s with toks := s.toks + 1 }) :
    wpAny (model prog w) A (binaryOp .FloorDiv (.int x t) (.int y u)) Q E s :=
  PyProof.Rows.floordiv_int (by omega) (h (fdiv_abs x0 x1).1 (fdiv_abs x0 x1).2 (fun q => fdiv_bd q y0)) (Or.inl (no_pylong y0 y1))
theorem step_mod (y0 : 0 < y) (h : 0 ≤ Int.fmod x y → Int.fmod x y < y → Q (.int (Int.fmod x y) s.toks) { s with toks := s.toks + 1 }) :
    wpAny (model prog w) A (binaryOp .Mod (.int x t) (.int y u)) Q E s :=
  PyProof.Rows.mod_int (by omega) (h (Int.fmod_nonneg_of_pos x y0) (Int.fmod_lt_of_pos x y0))
theorem mulA (x0 : -(10 ^ 10) ≤ x) (x1 : x ≤ 10 ^ 10) (y0 : -(10 ^ 10) ≤ y) (y1 : y ≤ 10 ^ 10)
    (h : -(10 ^ 20) ≤ x * y → x * y ≤ 10 ^ 20 → (0 ≤ x → 0 ≤ y → 0 ≤ x * y) → (0 < x → 0 < y → 0 < x * y) → (1 ≤ x → 0 ≤ y → y ≤ x * y) → Q (.int (x * y) s.toks) { s with toks := s.toks + 1 }) :
    wpAny (model prog w) A (binaryOp .Mult (.int x t) (.int y u)) Q E s := step_mul (by decide +kernel) (by decide +kernel) (by decide +kernel) x0 x1 y0 y1 (fun a b c d => h a b c d (fun p q => by
      have := Int.mul_le_mul_of_nonneg_right p q
      omega))
theorem mulB (x0 : -(10 ^ 20) ≤ x) (x1 : x ≤ 10 ^ 20) (y0 : -(10 ^ 20) ≤ y) (y1 : y ≤ 10 ^ 20)
    (h : -(10 ^ 40) ≤ x * y → x * y ≤ 10 ^ 40 → (0 ≤ x → 0 ≤ y → 0 ≤ x * y) → (0 < x → 0 < y → 0 < x * y) → Q (.int (x * y) s.toks) { s with toks := s.toks + 1 }) :
    wpAny (model prog w) A (binaryOp .Mult (.int x t) (.int y u)) Q E s := step_mul (by decide +kernel) (by decide +kernel) (by decide +kernel) x0 x1 y0 y1 h
theorem item_two {value slice : PySem.Expr} {l : Addr} {vs : List Value} {ns : List Int} {k : Int} {u : Tok} (hl : s.heap.IsList l vs.toArray) (hi : IntsAre vs ns)
    (h0 : 0 ≤ k) (h1 : k < ns.length) (hfit : k < 2 ^ 63) (hb : ∀ z ∈ ns, 10 ≤ z ∧ z ≤ 2000) (h : ∀ z t, 10 ≤ z → z ≤ 2000 → Q (.int z t) s)
    (hs : subscripted slice false (.ref l) (.int k u) = operate [.ref l, .int k u] (getItem (.ref l) (.int k u)) := by with_unfolding_all rfl) :
    wpAny (model prog w) A (subscriptTail value slice (.ref l) (.int k u)) Q E s :=
  item_anyK hl hi h0 h1 hfit (fun t => by
    have e := List.mem_of_getElem? (ints_getD h0 h1)
    exact h _ t (hb _ e).1 (hb _ e).2) hs
theorem ways_all : ∀ x ∈ [Str.ofString "down", Str.ofString "up", Str.ofString "near"], aWay x := by
  intro x hx
  simp only [List.mem_cons, List.not_mem_nil, or_false] at hx
  exact hx
theorem item_way {value slice : PySem.Expr} {l : Addr} {vs : List Value} {ws : List PySem.Str} {i : Int} {u : Tok} (hl : s.heap.IsList l vs.toArray) (hw : StrsAre vs ws)
    (h0 : 0 ≤ i) (h1 : i < (ws.length : Int)) (hfit : i < 2 ^ 63) (hb : ∀ x ∈ ws, aWay x) (h : ∀ x t', aWay x → Q (.str x t') s)
    (hs : subscripted slice false (.ref l) (.int i u) = operate [.ref l, .int i u] (getItem (.ref l) (.int i u)) := by with_unfolding_all rfl) :
    wpAny (model prog w) A (subscriptTail value slice (.ref l) (.int i u)) Q E s :=
  KTb.item_list hl hw h0 h1 hfit (fun t' hlt => h _ t' (hb _ (by rw [List.getD_eq_getElem?_getD, List.getElem?_eq_getElem hlt]; exact List.getElem_mem hlt))) hs
theorem step_per {c : Prop} {_d : Decidable c} (x0 : 0 ≤ x) (x1 : x ≤ 10 ^ 9) (h : ∀ p, 0 ≤ p → p ≤ 10 ^ 9 → Q (.int p s.toks) { s with toks := s.toks + 1 }) :
    wpAny (model prog w) A (binaryOp .Mult (.int x t) (.int (if c then 1 else 0) u)) Q E s := by
  have y : 0 ≤ x * (if c then 1 else 0) ∧ x * (if c then 1 else 0) ≤ 10 ^ 9 := by
    split
    · rw [Int.mul_one]; exact ⟨x0, x1⟩
    · rw [Int.mul_zero]; decide
  exact PyProof.Rows.mul_int (h _ y.1 y.2) (IntMulOk.of_bits (small_bits (by omega) (by omega)) (small_bits (by split <;> decide +kernel) (by split <;> decide +kernel)))
theorem step_eq (e : x = y) (h : Q (.bool true) s) : wpAny (model prog w) A (compareOp .Eq (.int x t) (.int y u)) Q E s := by
  refine PyProof.Rows.eq_int ?_
  have d : (x == y) = true := beq_iff_eq.mpr e
  rw [d]
  exact h
theorem step_ne (e : x ≠ y) (h : Q (.bool false) s) : wpAny (model prog w) A (compareOp .Eq (.int x t) (.int y u)) Q E s := by
  refine PyProof.Rows.eq_int ?_
  have d : (x == y) = false := beq_eq_false_iff_ne.mpr e
  rw [d]
  exact h
theorem step_two (h1 : x = y → Q (.bool true) s) (h0 : x ≠ y → Q (.bool false) s) : wpAny (model prog w) A (compareOp .Eq (.int x t) (.int y u)) Q E s := by
  by_cases e : x = y
  · exact step_eq e (h1 e)
  · exact step_ne e (h0 e)
end
end Mine
open PySem PySem.W PyProof.Rows
local macro_rules | `(tactic| walk_at "binaryOp Mult int int") => `(tactic| (k_here; first | (((with_reducible refine' Mine.mulA ?k1 ?k2 ?k3 ?k4 ?_); (case k1 => k_dflt omega); (case k2 => k_dflt omega); (case k3 => k_dflt omega); (case k4 => k_dflt omega)); intro b1' b2' b3' b4' b5'; (first | (replace b3' := b4' (by omega) (by omega)) | (replace b3' := b3' (by omega) (by omega)) | clear b3'); clear b4'; (first | (replace b5' := b5' (by omega) (by omega)) | clear b5')) | ((first | ((with_reducible refine' Mine.mulB ?k1 ?k2 ?k3 ?k4 ?_); (case k1 => k_dflt omega); (case k2 => k_dflt omega); (case k3 => k_dflt omega); (case k4 => k_dflt omega)) | ((with_reducible refine' Mine.mul1 ?k1 ?k2 ?k3 ?k4 ?_); (case k1 => k_dflt omega); (case k2 => k_dflt omega); (case k3 => k_dflt omega); (case k4 => k_dflt omega)) | ((with_reducible refine' Mine.mul2 ?k1 ?k2 ?k3 ?k4 ?_); (case k1 => k_dflt omega); (case k2 => k_dflt omega); (case k3 => k_dflt omega); (case k4 => k_dflt omega)) | ((with_reducible refine' Mine.mul3 ?k1 ?k2 ?k3 ?k4 ?_); (case k1 => k_dflt omega); (case k2 => k_dflt omega); (case k3 => k_dflt omega); (case k4 => k_dflt omega))); intro b1' b2' b3' b4'; (first | (replace b3' := b4' (by omega) (by omega)) | (replace b3' := b3' (by omega) (by omega)) | clear b3'); clear b4')))
local macro_rules | `(tactic| walk_at "binaryOp FloorDiv int int") => `(tactic| (k_here; (with_reducible refine' Mine.step_div ?k1 ?k2 ?k3 ?k4 ?_); (case k1 => k_dflt omega); (case k2 => k_dflt omega); (case k3 => k_dflt omega); (case k4 => k_dflt omega); intro d1' d2' d3'; (first | (replace d3' := d3' (by omega)) | clear d3')))
local macro_rules | `(tactic| walk_at "binaryOp Mod int int") => `(tactic| (k_here; (with_reducible refine' Mine.step_mod ?k1 ?_); (case k1 => k_dflt omega); intro m1' m2'))
local macro_rules | `(tactic| walk_at "compareOp Eq int int") => `(tactic| (k_here; (with_reducible refine' Mine.step_eq ?k1 ?_); (case k1 => k_dflt (first
  | exact Mine.end_a (by omega) (by first | rfl | exact Int.mul_comm _ _) (by first | rfl | exact Int.mul_comm _ _) (by (first | assumption | exact Or.inl rfl | exact Or.inr (Or.inl rfl) | exact Or.inr (Or.inr rfl))) (by omega) (by omega) (by omega) (by omega)
  | exact Mine.end_b (by omega) (by first | rfl | exact Int.mul_comm _ _) (by first | rfl | exact Int.mul_comm _ _) (by (first | assumption | exact Or.inl rfl | exact Or.inr (Or.inl rfl) | exact Or.inr (Or.inr rfl))) (by omega) (by omega) (by omega) (by omega)
  | exact Mine.end_c (by first | rfl | exact Int.mul_comm _ _) (by first | rfl | exact Int.mul_comm _ _) (by (first | assumption | exact Or.inl rfl | exact Or.inr (Or.inl rfl) | exact Or.inr (Or.inr rfl))) (by omega) (by omega) (by omega) (by omega)))))
local macro_rules | `(tactic| walk_at "eval Call") => `(tactic| (k_here; (with_reducible show wpAny _ _ (eval (Expr.Call (Expr.Name _ _) _ [] _) _) _ _ _); k_dflt (refine PyProof.Rows.Call_ ?_)))
local macro_rules | `(tactic| walk_at "subscriptTail") => `(tactic| (k_here; (with_reducible show wpAny _ _ (subscriptTail _ _ (Value.ref _) (Value.int (Mine.draw _ _ 2) _)) _ _ _); (with_unfolding_all refine' Mine.item_two ?k1 ?k2 ?k3 ?k4 ?k5 ?kb ?_ ?k6; (case k1 => is_list); (case k2 => l_ints); (case k3 => l_idx); (case k4 => l_idx); (case k5 => l_idx); (case kb => decide); (case k6 => with_unfolding_all rfl); k_whole); intro z' t' z1' z2'))
local macro_rules | `(tactic| walk_at "subscriptTail") => `(tactic| (k_here; (with_reducible show wpAny _ _ (subscriptTail _ _ (Value.ref _) (Value.int (Mine.draw _ _ 3) _)) _ _ _); k_dflt (refine' Mine.item_way ?l ?w ?i0 ?i1 ?f ?b ?_; (case l => ktb_isList); (case w => repeat constructor); (case i0 => ktb_idx); (case i1 => ktb_idx); (case f => ktb_idx); (case b => exact Mine.ways_all)); intro x' t' w'))
local macro_rules | `(tactic| walk_at "binaryOp Mult int int") => `(tactic| (k_here; (with_reducible refine' Mine.step_per ?k1 ?k2 ?_); (case k1 => k_dflt omega); (case k2 => k_dflt omega); intro p' p1' p2'))
local macro_rules | `(tactic| walk_at "compareOp Eq int int") => `(tactic| (k_here; (with_reducible show wpAny _ _ (compareOp CmpOp.Eq (Value.int _ _) (Value.int 0 _)) _ _ _); first | ((with_reducible refine' Mine.step_eq ?k1 ?_); (case k1 => k_dflt omega)) | ((with_reducible refine' Mine.step_ne ?k1 ?_); (case k1 => k_dflt omega)) | (with_reducible refine' Mine.step_two (fun e' => ?_) (fun e' => ?_))))
set_option maxRecDepth 100000 in
set_option maxHeartbeats 8000000 in
theorem PySem.Challenge.cw_dosehouse_k02_doses_holds : PySem.Challenge.rw_dosehouse_k02_doses.Holds := by
  k_with "tree" => first | exact Mine.lrnd_up (by assumption) | exact Mine.lrnd_down (by assumption) (by assumption) | exact Mine.lrnd_near (by assumption) (by assumption) | exact Mine.rnd_no (by assumption) (by assumption) | exact Mine.rnd_TA (by assumption) (by assumption) (by assumption) | exact Mine.rnd_TB (by assumption) (by assumption) (by assumption) | exact Mine.rnd_AT (by assumption) (by assumption) (by assumption) | exact Mine.rnd_AA (by assumption) (by assumption) | exact Mine.rnd_AB (by assumption) (by assumption) | exact Mine.rnd_BT (by assumption) (by assumption) (by assumption) | exact Mine.rnd_BA (by assumption) (by assumption) | exact Mine.rnd_BB (by assumption) (by assumption) | simp only [Mine.number] | simp only [Mine.draw, Mine.cell]
  k_with "fact _law_draw" => exact Mine.draw_fact
  k_with "fact _law_number" => exact Mine.number_fact
  k_with "fact rounded" => exact Mine.rnd_fact
  k_with "call ref" => k_call_by "_law_draw" Mine.draw (fun (_ : List Int) (k m : Int) => 0 ≤ k ∧ k ≤ 1000 ∧ 0 < m)
  k_with "call ref" => k_call_rec "_law_number" Mine.number (fun (_ : List Int) (k most : Int) => 0 ≤ k ∧ k ≤ 900 ∧ 0 < most) (fun (_ : List Int) (_ _ : Int) => 3)
  k_with "call ref" => k_call_by "rounded" Mine.rnd (fun (top bottom part : Int) (_ : PySem.Str) => 0 ≤ top ∧ top ≤ 10 ^ 124 ∧ 0 < bottom ∧ bottom ≤ 10 ^ 41 ∧ 0 < part ∧ part ≤ 10 ^ 41)
  k_with "call ref" => k_call_by "_law_rounded" Mine.lrnd (fun (top bottom part : Int) (_ : PySem.Str) => 0 ≤ top ∧ top ≤ 10 ^ 124 ∧ 0 < bottom ∧ bottom ≤ 10 ^ 41 ∧ 0 < part ∧ part ≤ 10 ^ 41)
  open_k
#print axioms PySem.Challenge.cw_dosehouse_k02_doses_holds
