import PyProof.Rows.All
import Wide.All
import OpenK.AllK
import Wide.FinOn
import PySem.Challenge.RW_dosehouse_k01_rounded
set_option Elab.async false
set_option maxHeartbeats 4000000
namespace Mine
open PySem PySem.W PySem.Calls PyProof.Rows
theorem quot (x y : Int) : x = y * Int.fdiv x y + Int.fmod x y := by
  rw [Int.fmod_def]; omega
theorem mul_bd {x y X Y : Int} (hx0 : -X ≤ x) (hx : x ≤ X) (hy0 : -Y ≤ y) (hy : y ≤ Y) : -(X * Y) ≤ x * y ∧ x * y ≤ X * Y := by
  have hX : 0 ≤ X := by omega
  have hY : 0 ≤ Y := by omega
  have a : x.natAbs ≤ X.natAbs := by omega
  have b : y.natAbs ≤ Y.natAbs := by omega
  have c := Nat.mul_le_mul a b
  rw [← Int.natAbs_mul, ← Int.natAbs_mul] at c
  have d : 0 ≤ X * Y := Int.mul_nonneg hX hY
  omega
theorem fdiv_bd {x y : Int} (hx : 0 ≤ x) (hy : 0 < y) : 0 ≤ Int.fdiv x y ∧ Int.fdiv x y ≤ x := by
  rw [Int.fdiv_eq_ediv_of_nonneg x (Int.le_of_lt hy)]
  exact ⟨Int.ediv_nonneg hx (Int.le_of_lt hy), Int.ediv_le_self y hx⟩
def cell (ns : List Int) (k : Int) : Int := if 0 < ns.length then Int.fmod (ns.getD (Int.fmod k (ns.length : Int)).toNat 0) 2147483647 else 0
def draw (ns : List Int) (k m : Int) : Int :=
  Int.fmod (Int.fmod (cell ns k * 48271 + (k + 1) * (k + 5) * 69621) 2147483629) m
theorem draw_in (ns : List Int) (k m : Int) (hm : 0 < m) : 0 ≤ draw ns k m ∧ draw ns k m < m :=
  ⟨Int.fmod_nonneg_of_pos _ hm, Int.fmod_lt_of_pos _ hm⟩
def great (ns : List Int) (k : Int) : Int :=
  if draw ns k 6 ≤ 3 then 1 + draw ns (k + 1) 9 else if draw ns k 6 = 4 then 1 + draw ns (k + 1) 1000000000
  else 10 ^ 40 + draw ns (k + 1) 1000000000
theorem great_in (ns : List Int) (k : Int) : 1 ≤ great ns k ∧ great ns k ≤ 10 ^ 41 := by
  have a := draw_in ns (k + 1) 9 (by decide)
  have b := draw_in ns (k + 1) 1000000000 (by decide)
  unfold great
  split
  · omega
  · split <;> omega
theorem great_tree (ns : List Int) (k : Int) :
    [1 + draw ns (k + 1) 9, 1 + draw ns (k + 1) 1000000000, 10 ^ Int.toNat 40 + draw ns (k + 1) 1000000000].getD (if draw ns k 6 - 3 > 0 then draw ns k 6 - 3 else 0).toNat 0 = great ns k := by
  have d := draw_in ns k 6 (by decide)
  unfold great
  generalize draw ns k 6 = v at *
  generalize draw ns (k + 1) 9 = a at *
  generalize draw ns (k + 1) 1000000000 = b at *
  rcases (show v ≤ 3 ∨ v = 4 ∨ v = 5 by omega) with h | h | h
  · rw [if_neg (by omega), if_pos h]; rfl
  · subst h; rfl
  · subst h; rfl
def many (top step : Int) (way : Str) : Int :=
  Int.fdiv top step + (if way = Str.ofString "up" ∧ 0 < top - Int.fdiv top step * step then 1 else 0)
    + (if way = Str.ofString "near" ∧ step < 2 * (top - Int.fdiv top step * step) then 1 else 0)
def rnd (top bottom part : Int) (way : Str) : Int := many top (bottom * part) way * part
def fits (found top bottom part : Int) (way : Str) : Bool :=
  if found < 0 then false else if Int.fmod found part ≠ 0 then false else
  if way = Str.ofString "down" then decide (0 ≤ top - found * bottom ∧ top - found * bottom < part * bottom)
  else if way = Str.ofString "up" then decide (-(part * bottom) < top - found * bottom ∧ top - found * bottom ≤ 0)
  else decide (-(part * bottom) < 2 * (top - found * bottom) ∧ 2 * (top - found * bottom) ≤ part * bottom)
theorem mult_zero (m part : Int) (hp : 0 < part) : Int.fmod (m * part) part = 0 := by
  rw [Int.fmod_eq_emod_of_nonneg _ (Int.le_of_lt hp)]
  exact Int.mul_emod_left m part
theorem back (m part bottom : Int) : m * part * bottom = bottom * part * m := by
  rw [Int.mul_assoc, Int.mul_comm part bottom, Int.mul_comm]
theorem parts {top s : Int} (hs : 0 < s) (ht : 0 ≤ top) :
    ∃ q r, Int.fdiv top s = q ∧ top = s * q + r ∧ 0 ≤ r ∧ r < s ∧ 0 ≤ q ∧ s * (q + 1) = s * q + s ∧ q * s = s * q :=
  ⟨_, _, rfl, quot top s, Int.fmod_nonneg_of_pos _ hs, Int.fmod_lt_of_pos _ hs, (fdiv_bd ht hs).1, by rw [Int.mul_add, Int.mul_one], Int.mul_comm _ _⟩
theorem fit_any {top bottom part m : Int} {way : Str} (hp : 0 < part) (hm : 0 ≤ m)
    (h1 : way = Str.ofString "down" → bottom * part * m ≤ top ∧ top < bottom * part * m + bottom * part)
    (h2 : way = Str.ofString "up" → top ≤ bottom * part * m ∧ bottom * part * m < top + bottom * part)
    (h3 : ¬ way = Str.ofString "down" → ¬ way = Str.ofString "up" → -(bottom * part) < 2 * (top - bottom * part * m) ∧ 2 * (top - bottom * part * m) ≤ bottom * part) :
    fits (m * part) top bottom part way = true := by
  have e1 := mult_zero m part hp
  have e2 := back m part bottom
  have e3 := Int.mul_comm part bottom
  have e4 : 0 ≤ m * part := Int.mul_nonneg hm (Int.le_of_lt hp)
  unfold fits
  rw [if_neg (by omega), if_neg (by rw [e1]; decide), e2, e3]
  split
  · rename_i h; have := h1 h; exact decide_eq_true (by omega)
  · rename_i h
    split
    · rename_i h'; have := h2 h'; exact decide_eq_true (by omega)
    · rename_i h'; have := h3 h h'; exact decide_eq_true (by omega)
theorem ud : ¬ Str.ofString "up" = Str.ofString "down" := by decide +kernel
theorem nd : ¬ Str.ofString "near" = Str.ofString "down" := by decide +kernel
theorem nu : ¬ Str.ofString "near" = Str.ofString "up" := by decide +kernel
theorem un : ¬ Str.ofString "up" = Str.ofString "near" := by decide +kernel
theorem dn : ¬ Str.ofString "down" = Str.ofString "near" := by decide +kernel
theorem du : ¬ Str.ofString "down" = Str.ofString "up" := by decide +kernel
theorem fits_down {top bottom part : Int} (ht : 0 ≤ top) (hb : 0 < bottom) (hp : 0 < part) :
    fits (rnd top bottom part (Str.ofString "down")) top bottom part (Str.ofString "down") = true := by
  obtain ⟨q, r, e, e1, r0, r1, q0, e2, e3⟩ := parts (top := top) (s := bottom * part) (Int.mul_pos hb hp) ht
  have M : many top (bottom * part) (Str.ofString "down") = q := by
    unfold many
    rw [e, if_neg (fun h => du h.1), if_neg (fun h => dn h.1)]; omega
  unfold rnd
  rw [M]
  exact fit_any hp q0 (fun _ => by omega) (fun h => absurd h du) (fun h => absurd rfl h)
theorem fits_up {top bottom part : Int} (ht : 0 ≤ top) (hb : 0 < bottom) (hp : 0 < part) :
    fits (rnd top bottom part (Str.ofString "up")) top bottom part (Str.ofString "up") = true := by
  obtain ⟨q, r, e, e1, r0, r1, q0, e2, e3⟩ := parts (top := top) (s := bottom * part) (Int.mul_pos hb hp) ht
  have M : many top (bottom * part) (Str.ofString "up") = if 0 < r then q + 1 else q := by
    have g : top - q * (bottom * part) = r := by rw [e3]; omega
    unfold many
    rw [e, g]
    simp only [un, false_and, if_false, true_and]
    split <;> omega
  unfold rnd
  rw [M]
  split
  · exact fit_any hp (by omega) (fun h => absurd h ud) (fun _ => by omega) (fun _ h => absurd rfl h)
  · exact fit_any hp (by omega) (fun h => absurd h ud) (fun _ => by omega) (fun _ h => absurd rfl h)
theorem fits_near {top bottom part : Int} (ht : 0 ≤ top) (hb : 0 < bottom) (hp : 0 < part) :
    fits (rnd top bottom part (Str.ofString "near")) top bottom part (Str.ofString "near") = true := by
  obtain ⟨q, r, e, e1, r0, r1, q0, e2, e3⟩ := parts (top := top) (s := bottom * part) (Int.mul_pos hb hp) ht
  have M : many top (bottom * part) (Str.ofString "near") = if bottom * part < 2 * r then q + 1 else q := by
    have g : top - q * (bottom * part) = r := by rw [e3]; omega
    unfold many
    rw [e, g, if_neg (fun h => nu h.1)]
    simp only [true_and]
    split <;> omega
  unfold rnd
  rw [M]
  split
  · exact fit_any hp (by omega) (fun h => absurd h nd) (fun h => absurd h nu) (fun _ _ => by omega)
  · exact fit_any hp (by omega) (fun h => absurd h nd) (fun h => absurd h nu) (fun _ _ => by omega)
theorem yes {way w0 : Str} {P : Prop} {_inst : Decidable (way = w0 ∧ P)} (a : (way == w0) = true) (b : P) : (if way = w0 ∧ P then (1 : Int) else 0) = 1 := if_pos ⟨eq_of_beq a, b⟩
theorem no1 {way w0 : Str} {P : Prop} {_inst : Decidable (way = w0 ∧ P)} (a : (way == w0) = false) : (if way = w0 ∧ P then (1 : Int) else 0) = 0 :=
  if_neg fun h => by rw [h.1, beq_self_eq_true] at a; cases a
theorem no2 {way w0 : Str} {P : Prop} {_inst : Decidable (way = w0 ∧ P)} (b : ¬ P) : (if way = w0 ∧ P then (1 : Int) else 0) = 0 := if_neg fun h => b h.2
theorem rnd_tree {top bottom part m a b : Int} {way : Str}
    (ha : (if way = Str.ofString "up" ∧ 0 < top - Int.fdiv top (bottom * part) * (bottom * part) then (1 : Int) else 0) = a)
    (hb : (if way = Str.ofString "near" ∧ bottom * part < 2 * (top - Int.fdiv top (bottom * part) * (bottom * part)) then (1 : Int) else 0) = b)
    (hm : m = Int.fdiv top (bottom * part) + a + b) : m * part = rnd top bottom part way := by
  unfold rnd many
  rw [ha, hb, hm]
section
variable {top bottom part : Int} {way : Str}
theorem rnd_no {x : Int} (h1 : (way == Str.ofString "up") = true) (h3 : (way == Str.ofString "near") = true) : x = rnd top bottom part way :=
  absurd ((eq_of_beq h1).symm.trans (eq_of_beq h3)) un
theorem rnd_TT (h1 : (way == Str.ofString "up") = true) (h2 : 0 < top - Int.fdiv top (bottom * part) * (bottom * part)) (h3 : (way == Str.ofString "near") = true) (h4 : bottom * part < 2 * (top - Int.fdiv top (bottom * part) * (bottom * part))) : (Int.fdiv top (bottom * part) + 1 + 1) * part = rnd top bottom part way := rnd_tree (yes h1 h2) (yes h3 h4) (by omega)
theorem rnd_TA (h1 : (way == Str.ofString "up") = true) (h2 : 0 < top - Int.fdiv top (bottom * part) * (bottom * part)) (h3 : (way == Str.ofString "near") = false) : (Int.fdiv top (bottom * part) + 1) * part = rnd top bottom part way := rnd_tree (yes h1 h2) (no1 h3) (by omega)
theorem rnd_TB (h1 : (way == Str.ofString "up") = true) (h2 : 0 < top - Int.fdiv top (bottom * part) * (bottom * part)) (h4 : ¬ bottom * part < 2 * (top - Int.fdiv top (bottom * part) * (bottom * part))) : (Int.fdiv top (bottom * part) + 1) * part = rnd top bottom part way := rnd_tree (yes h1 h2) (no2 h4) (by omega)
theorem rnd_AT (h1 : (way == Str.ofString "up") = false) (h3 : (way == Str.ofString "near") = true) (h4 : bottom * part < 2 * (top - Int.fdiv top (bottom * part) * (bottom * part))) : (Int.fdiv top (bottom * part) + 1) * part = rnd top bottom part way := rnd_tree (no1 h1) (yes h3 h4) (by omega)
theorem rnd_AA (h1 : (way == Str.ofString "up") = false) (h3 : (way == Str.ofString "near") = false) : Int.fdiv top (bottom * part) * part = rnd top bottom part way := rnd_tree (no1 h1) (no1 h3) (by omega)
theorem rnd_AB (h1 : (way == Str.ofString "up") = false) (h4 : ¬ bottom * part < 2 * (top - Int.fdiv top (bottom * part) * (bottom * part))) : Int.fdiv top (bottom * part) * part = rnd top bottom part way := rnd_tree (no1 h1) (no2 h4) (by omega)
theorem rnd_BT (h2 : ¬ 0 < top - Int.fdiv top (bottom * part) * (bottom * part)) (h3 : (way == Str.ofString "near") = true) (h4 : bottom * part < 2 * (top - Int.fdiv top (bottom * part) * (bottom * part))) : (Int.fdiv top (bottom * part) + 1) * part = rnd top bottom part way := rnd_tree (no2 h2) (yes h3 h4) (by omega)
theorem rnd_BA (h2 : ¬ 0 < top - Int.fdiv top (bottom * part) * (bottom * part)) (h3 : (way == Str.ofString "near") = false) : Int.fdiv top (bottom * part) * part = rnd top bottom part way := rnd_tree (no2 h2) (no1 h3) (by omega)
theorem rnd_BB (h2 : ¬ 0 < top - Int.fdiv top (bottom * part) * (bottom * part)) (h4 : ¬ bottom * part < 2 * (top - Int.fdiv top (bottom * part) * (bottom * part))) : Int.fdiv top (bottom * part) * part = rnd top bottom part way := rnd_tree (no2 h2) (no2 h4) (by omega)
end
section
variable {found top bottom part : Int} {way : Str} (h0 : 0 ≤ found)
include h0
theorem fits_w1 (h : Int.fmod found part ≠ 0) : false = fits found top bottom part way := by
  unfold fits
  rw [if_neg (by omega), if_pos h]
theorem fits_w2 (h : Int.fmod found part = 0) (w : (way == Str.ofString "down") = true) (c : 0 ≤ top - found * bottom) :
    decide (top - found * bottom < part * bottom) = fits found top bottom part way := by
  unfold fits
  rw [if_neg (by omega), if_neg (fun z => z h), if_pos (eq_of_beq w)]
  exact decide_eq_decide.mpr ⟨fun z => ⟨c, z⟩, fun z => z.2⟩
theorem fits_w3 (h : Int.fmod found part = 0) (w : (way == Str.ofString "down") = true) (_c : ¬ 0 ≤ top - found * bottom) :
    decide (0 ≤ top - found * bottom) = fits found top bottom part way := by
  unfold fits
  rw [if_neg (by omega), if_neg (fun z => z h), if_pos (eq_of_beq w)]
  exact decide_eq_decide.mpr ⟨fun z => absurd z _c, fun z => z.1⟩
theorem off {w0 : Str} (a : (way == w0) = false) : ¬ way = w0 := fun h => by rw [h, beq_self_eq_true] at a; cases a
theorem fits_w4 (h : Int.fmod found part = 0) (d : (way == Str.ofString "down") = false) (w : (way == Str.ofString "up") = true) (c : -(part * bottom) < top - found * bottom) :
    decide (top - found * bottom ≤ 0) = fits found top bottom part way := by
  unfold fits
  rw [if_neg (by omega), if_neg (fun z => z h), if_neg (off h0 d), if_pos (eq_of_beq w)]
  exact decide_eq_decide.mpr ⟨fun z => ⟨c, z⟩, fun z => z.2⟩
theorem fits_w5 (h : Int.fmod found part = 0) (d : (way == Str.ofString "down") = false) (w : (way == Str.ofString "up") = true) (c : ¬ -(part * bottom) < top - found * bottom) :
    decide (-(part * bottom) < top - found * bottom) = fits found top bottom part way := by
  unfold fits
  rw [if_neg (by omega), if_neg (fun z => z h), if_neg (off h0 d), if_pos (eq_of_beq w)]
  exact decide_eq_decide.mpr ⟨fun z => absurd z c, fun z => z.1⟩
theorem fits_w6 (h : Int.fmod found part = 0) (d : (way == Str.ofString "down") = false) (w : (way == Str.ofString "up") = false) (c : -(part * bottom) < 2 * (top - found * bottom)) :
    decide (2 * (top - found * bottom) ≤ part * bottom) = fits found top bottom part way := by
  unfold fits
  rw [if_neg (by omega), if_neg (fun z => z h), if_neg (off h0 d), if_neg (off h0 w)]
  exact decide_eq_decide.mpr ⟨fun z => ⟨c, z⟩, fun z => z.2⟩
theorem fits_w7 (h : Int.fmod found part = 0) (d : (way == Str.ofString "down") = false) (w : (way == Str.ofString "up") = false) (c : ¬ -(part * bottom) < 2 * (top - found * bottom)) :
    decide (-(part * bottom) < 2 * (top - found * bottom)) = fits found top bottom part way := by
  unfold fits
  rw [if_neg (by omega), if_neg (fun z => z h), if_neg (off h0 d), if_neg (off h0 w)]
  exact decide_eq_decide.mpr ⟨fun z => absurd z c, fun z => z.1⟩
end
theorem draw_fact (ns : List Int) (k m : Int) {vs : List Value} (_h : IntsAre vs ns := by assumption) (hm : 0 < m := by omega) :
    0 ≤ draw ns k m ∧ draw ns k m < m := draw_in ns k m hm
theorem great_fact (ns : List Int) (k : Int) {vs : List Value} (_h : IntsAre vs ns := by assumption) :
    1 ≤ great ns k ∧ great ns k ≤ 10 ^ 41 := great_in ns k
theorem fits_fact (found top bottom part : Int) (way : Str) (e : found = rnd top bottom part way := by rfl) (ht : 0 ≤ top := by omega) (hb : 0 < bottom := by omega) (hp : 0 < part := by omega)
    (hw : way = Str.ofString "down" ∨ way = Str.ofString "up" ∨ way = Str.ofString "near" := by first | exact Or.inl rfl | exact Or.inr (Or.inl rfl) | exact Or.inr (Or.inr rfl)) :
    fits found top bottom part way = true := by
  subst e
  rcases hw with h | h | h <;> subst h
  · exact fits_down ht hb hp
  · exact fits_up ht hb hp
  · exact fits_near ht hb hp
theorem rnd_in {top bottom part : Int} {way : Str} (t0 : 0 ≤ top) (t1 : top ≤ 10 ^ 124) (hb : 0 < bottom) (p0 : 0 < part) (p1 : part ≤ 10 ^ 41) :
    0 ≤ rnd top bottom part way ∧ rnd top bottom part way ≤ 10 ^ 170 := by
  have d := fdiv_bd t0 (Int.mul_pos hb p0)
  have m : 0 ≤ many top (bottom * part) way ∧ many top (bottom * part) way ≤ 10 ^ 125 := by
    unfold many
    split <;> split <;> omega
  have b := mul_bd (X := 10 ^ 125) (Y := 10 ^ 41) (x := many top (bottom * part) way) (y := part) (by omega) m.2 (by omega) p1
  have e : (10 : Int) ^ 125 * 10 ^ 41 ≤ 10 ^ 170 := by decide +kernel
  unfold rnd
  exact ⟨Int.mul_nonneg m.1 (Int.le_of_lt p0), Int.le_trans b.2 e⟩
theorem rnd_fact (top bottom part : Int) (way : Str) (t0 : 0 ≤ top := by omega) (t1 : top ≤ 10 ^ 124 := by omega) (hb : 0 < bottom := by omega) (p0 : 0 < part := by omega) (p1 : part ≤ 10 ^ 41 := by omega) :
    0 ≤ rnd top bottom part way ∧ rnd top bottom part way ≤ 10 ^ 170 := rnd_in t0 t1 hb p0 p1

section
variable {prog : Program} {w : World} {A : Around} {E : Value → Shared → Prop} {s : Shared} {x y : Int} {t u : Tok} {Q : Value → Shared → Prop}
theorem small_bits {x : Int} (lo : -(10 ^ 252) ≤ x) (hi : x ≤ 10 ^ 252) : PySem.Builtin.Int.intBits x ≤ 2 ^ 20 := by
  have h : PySem.Builtin.Int.intBits x ≤ 1000 := PySem.intBits_le_iff.mpr (by
    have e : (10 : Int) ^ 252 < ((2 ^ 1000 : Nat) : Int) := by decide +kernel
    generalize (2 ^ 1000 : Nat) = z at *
    generalize (10 : Int) ^ 252 = v at *
    omega)
  exact Nat.le_trans h (by decide)
theorem step_mul {X Y Z : Int} (e : X * Y = Z) (hX : X ≤ 10 ^ 252) (hY : Y ≤ 10 ^ 252) (x0 : -X ≤ x) (x1 : x ≤ X) (y0 : -Y ≤ y) (y1 : y ≤ Y)
    (h : -Z ≤ x * y → x * y ≤ Z → (0 ≤ x → 0 ≤ y → 0 ≤ x * y) → (0 < x → 0 < y → 0 < x * y) → Q (.int (x * y) s.toks) { s with toks := s.toks + 1 }) :
    wpAny (model prog w) A (binaryOp .Mult (.int x t) (.int y u)) Q E s := by
  have b := mul_bd x0 x1 y0 y1
  rw [e] at b
  exact PyProof.Rows.mul_int (h b.1 b.2 Int.mul_nonneg Int.mul_pos) (IntMulOk.of_bits (small_bits (by omega) (by omega)) (small_bits (by omega) (by omega)))
theorem mul0 (x0 : -(10 ^ 12) ≤ x) (x1 : x ≤ 10 ^ 12) (y0 : -(10 ^ 12) ≤ y) (y1 : y ≤ 10 ^ 12)
    (h : -(10 ^ 24) ≤ x * y → x * y ≤ 10 ^ 24 → (0 ≤ x → 0 ≤ y → 0 ≤ x * y) → (0 < x → 0 < y → 0 < x * y) → Q (.int (x * y) s.toks) { s with toks := s.toks + 1 }) :
    wpAny (model prog w) A (binaryOp .Mult (.int x t) (.int y u)) Q E s := step_mul (by decide +kernel) (by decide +kernel) (by decide +kernel) x0 x1 y0 y1 h
theorem mul1 (x0 : -(10 ^ 41) ≤ x) (x1 : x ≤ 10 ^ 41) (y0 : -(10 ^ 41) ≤ y) (y1 : y ≤ 10 ^ 41)
    (h : -(10 ^ 82) ≤ x * y → x * y ≤ 10 ^ 82 → (0 ≤ x → 0 ≤ y → 0 ≤ x * y) → (0 < x → 0 < y → 0 < x * y) → Q (.int (x * y) s.toks) { s with toks := s.toks + 1 }) :
    wpAny (model prog w) A (binaryOp .Mult (.int x t) (.int y u)) Q E s := step_mul (by decide +kernel) (by decide +kernel) (by decide +kernel) x0 x1 y0 y1 h
theorem mul2 (x0 : -(10 ^ 41) ≤ x) (x1 : x ≤ 10 ^ 41) (y0 : -(10 ^ 82) ≤ y) (y1 : y ≤ 10 ^ 82)
    (h : -(10 ^ 123) ≤ x * y → x * y ≤ 10 ^ 123 → (0 ≤ x → 0 ≤ y → 0 ≤ x * y) → (0 < x → 0 < y → 0 < x * y) → Q (.int (x * y) s.toks) { s with toks := s.toks + 1 }) :
    wpAny (model prog w) A (binaryOp .Mult (.int x t) (.int y u)) Q E s := step_mul (by decide +kernel) (by decide +kernel) (by decide +kernel) x0 x1 y0 y1 h
theorem mul3 (x0 : -(10 ^ 170) ≤ x) (x1 : x ≤ 10 ^ 170) (y0 : -(10 ^ 82) ≤ y) (y1 : y ≤ 10 ^ 82)
    (h : -(10 ^ 252) ≤ x * y → x * y ≤ 10 ^ 252 → (0 ≤ x → 0 ≤ y → 0 ≤ x * y) → (0 < x → 0 < y → 0 < x * y) → Q (.int (x * y) s.toks) { s with toks := s.toks + 1 }) :
    wpAny (model prog w) A (binaryOp .Mult (.int x t) (.int y u)) Q E s := step_mul (by decide +kernel) (by decide +kernel) (by decide +kernel) x0 x1 y0 y1 h
theorem no_pylong {x y : Int} (y0 : 0 < y) (y1 : y ≤ 10 ^ 252) : Builtin.divisionGoesByPylong x y = false :=
  PyProof.noPylong_of_log2 (by
    have k : y.natAbs.log2 < 1000 := (Nat.log2_lt (by omega)).mpr (by
      have e : (10 : Int) ^ 252 < ((2 ^ 1000 : Nat) : Int) := by decide +kernel
      generalize (2 ^ 1000 : Nat) = z at *
      generalize (10 : Int) ^ 252 = v at *
      omega)
    omega)
theorem fdiv_abs {x y X : Int} (x0 : -X ≤ x) (x1 : x ≤ X) : -X ≤ Int.fdiv x y ∧ Int.fdiv x y ≤ X := by
  have := PySem.natAbs_fdiv_le x y
  omega
theorem step_div (y0 : 0 < y) (y1 : y ≤ 10 ^ 252) (x0 : -(10 ^ 126) ≤ x) (x1 : x ≤ 10 ^ 126)
    (h : -(10 ^ 126) ≤ Int.fdiv x y → Int.fdiv x y ≤ 10 ^ 126 → (0 ≤ x → 0 ≤ Int.fdiv x y ∧ Int.fdiv x y ≤ x) → Q (.int (Int.fdiv x y) s.toks) { s with toks := s.toks + 1 }) :
    wpAny (model prog w) A (binaryOp .FloorDiv (.int x t) (.int y u)) Q E s :=
  PyProof.Rows.floordiv_int (by omega) (h (fdiv_abs x0 x1).1 (fdiv_abs x0 x1).2 (fun q => fdiv_bd q y0)) (Or.inl (no_pylong y0 y1))
theorem step_mod (y0 : 0 < y) (h : 0 ≤ Int.fmod x y → Int.fmod x y < y → Q (.int (Int.fmod x y) s.toks) { s with toks := s.toks + 1 }) :
    wpAny (model prog w) A (binaryOp .Mod (.int x t) (.int y u)) Q E s :=
  PyProof.Rows.mod_int (by omega) (h (Int.fmod_nonneg_of_pos x y0) (Int.fmod_lt_of_pos x y0))
theorem step_top (h0 : 0 ≤ x + y) (h1 : x + y ≤ 10 ^ 124) (h : ∀ z, 0 ≤ z → z ≤ 10 ^ 124 → Q (.int z s.toks) { s with toks := s.toks + 1 }) :
    wpAny (model prog w) A (binaryOp .Add (.int x t) (.int y u)) Q E s := PyProof.Rows.add_int (h _ h0 h1)
theorem item_any {value slice : PySem.Expr} {l : Addr} {vs : List Value} {ns : List Int} {k : Int} {u : Tok} (hl : s.heap.IsList l vs.toArray) (hi : IntsAre vs ns)
    (h0 : 0 ≤ k) (h1 : k < ns.length) (hfit : k < 2 ^ 63) (h : ∀ z t, Q (.int z t) s)
    (hs : subscripted slice false (.ref l) (.int k u) = operate [.ref l, .int k u] (getItem (.ref l) (.int k u)) := by with_unfolding_all rfl) :
    wpAny (model prog w) A (subscriptTail value slice (.ref l) (.int k u)) Q E s :=
  item_anyK hl hi h0 h1 hfit (fun t => h _ t) hs
end

end Mine
open PySem PySem.W PyProof.Rows
local macro_rules | `(tactic| walk_at "binaryOp Mult int int") => `(tactic| (k_here; (first | ((with_reducible refine' Mine.mul0 ?k1 ?k2 ?k3 ?k4 ?_); (case k1 => k_dflt omega); (case k2 => k_dflt omega); (case k3 => k_dflt omega); (case k4 => k_dflt omega)) | ((with_reducible refine' Mine.mul1 ?k1 ?k2 ?k3 ?k4 ?_); (case k1 => k_dflt omega); (case k2 => k_dflt omega); (case k3 => k_dflt omega); (case k4 => k_dflt omega)) | ((with_reducible refine' Mine.mul2 ?k1 ?k2 ?k3 ?k4 ?_); (case k1 => k_dflt omega); (case k2 => k_dflt omega); (case k3 => k_dflt omega); (case k4 => k_dflt omega)) | ((with_reducible refine' Mine.mul3 ?k1 ?k2 ?k3 ?k4 ?_); (case k1 => k_dflt omega); (case k2 => k_dflt omega); (case k3 => k_dflt omega); (case k4 => k_dflt omega))); intro b1' b2' b3' b4'; (first | (replace b3' := b4' (by omega) (by omega)) | (replace b3' := b3' (by omega) (by omega)) | clear b3'); clear b4'))
local macro_rules | `(tactic| walk_at "binaryOp FloorDiv int int") => `(tactic| (k_here; (with_reducible refine' Mine.step_div ?k1 ?k2 ?k3 ?k4 ?_); (case k1 => k_dflt omega); (case k2 => k_dflt omega); (case k3 => k_dflt omega); (case k4 => k_dflt omega); intro d1' d2' d3'; (first | (replace d3' := d3' (by omega)) | clear d3')))
local macro_rules | `(tactic| walk_at "binaryOp Mod int int") => `(tactic| (k_here; (with_reducible refine' Mine.step_mod ?k1 ?_); (case k1 => k_dflt omega); intro m1' m2'))
local macro_rules | `(tactic| walk_at "binaryOp Add int int") => `(tactic| (k_here; (with_reducible show wpAny _ _ (binaryOp Operator.Add (Value.int (_ * _) _) (Value.int (Int.fmod _ _) _)) _ _ _); (with_reducible refine' Mine.step_top ?k1 ?k2 ?_); (case k1 => k_dflt omega); (case k2 => k_dflt omega); intro z' z1' z2'))
local macro_rules | `(tactic| walk_at "eval Call") => `(tactic| (k_here; (with_reducible show wpAny _ _ (eval (Expr.Call (Expr.Name _ _) _ [] _) _) _ _ _); k_dflt (refine PyProof.Rows.Call_ ?_)))
local macro_rules | `(tactic| walk_at "subscriptTail") => `(tactic| (k_here; (with_reducible show wpAny _ _ (subscriptTail _ _ (Value.ref _) (Value.int (Mine.draw _ _ _) _)) _ _ _); (with_unfolding_all refine' Mine.item_any ?k1 ?k2 ?k3 ?k4 ?k5 ?_ ?k6; (case k1 => is_list); (case k2 => l_ints); (case k3 => l_idx); (case k4 => l_idx); (case k5 => l_idx); (case k6 => with_unfolding_all rfl); k_whole); intro z' t'))
set_option maxRecDepth 100000 in
set_option maxHeartbeats 8000000 in
theorem PySem.Challenge.cw_dosehouse_k01_rounded_holds : PySem.Challenge.rw_dosehouse_k01_rounded.Holds := by
  k_with "tree" => first | exact Mine.great_tree _ _ | exact Mine.fits_w1 (by first | exact And.left (by assumption) | omega) (by assumption) | exact Mine.fits_w2 (by first | exact And.left (by assumption) | omega) (by assumption) (by assumption) (by assumption) | exact Mine.fits_w3 (by first | exact And.left (by assumption) | omega) (by assumption) (by assumption) (by assumption) | exact Mine.fits_w4 (by first | exact And.left (by assumption) | omega) (by assumption) (by assumption) (by assumption) (by assumption) | exact Mine.fits_w5 (by first | exact And.left (by assumption) | omega) (by assumption) (by assumption) (by assumption) (by assumption) | exact Mine.fits_w6 (by first | exact And.left (by assumption) | omega) (by assumption) (by assumption) (by assumption) (by assumption) | exact Mine.fits_w7 (by first | exact And.left (by assumption) | omega) (by assumption) (by assumption) (by assumption) (by assumption) | exact Mine.rnd_no (by assumption) (by assumption) | exact Mine.rnd_TA (by assumption) (by assumption) (by assumption) | exact Mine.rnd_TB (by assumption) (by assumption) (by assumption) | exact Mine.rnd_AT (by assumption) (by assumption) (by assumption) | exact Mine.rnd_AA (by assumption) (by assumption) | exact Mine.rnd_AB (by assumption) (by assumption) | exact Mine.rnd_BT (by assumption) (by assumption) (by assumption) | exact Mine.rnd_BA (by assumption) (by assumption) | exact Mine.rnd_BB (by assumption) (by assumption) | simp only [Mine.draw, Mine.cell]
  k_with "fact _law_draw" => exact Mine.draw_fact
  k_with "fact _law_great" => exact Mine.great_fact
  k_with "fact rounded" => exact Mine.rnd_fact
  k_with "fact _law_fits" => exact Mine.fits_fact
  k_with "call ref" => k_call_by "_law_draw" Mine.draw (fun (_ : List Int) (k m : Int) => 0 ≤ k ∧ k ≤ 1000 ∧ 0 < m)
  k_with "call ref" => k_call_rec "_law_great" Mine.great (fun (_ : List Int) (k : Int) => 0 ≤ k ∧ k ≤ 900) (fun (_ : List Int) (_ : Int) => 3)
  k_with "call ref" => k_call_by "rounded" Mine.rnd (fun (top bottom part : Int) (_ : PySem.Str) => 0 ≤ top ∧ top ≤ 10 ^ 124 ∧ 0 < bottom ∧ bottom ≤ 10 ^ 41 ∧ 0 < part ∧ part ≤ 10 ^ 41)
  k_with "call ref" => k_call_by "_law_fits" Mine.fits (fun (found top bottom part : Int) (_ : PySem.Str) => 0 ≤ found ∧ found ≤ 10 ^ 170 ∧ 0 ≤ top ∧ top ≤ 10 ^ 124 ∧ 0 < bottom ∧ bottom ≤ 10 ^ 41 ∧ 0 < part ∧ part ≤ 10 ^ 41)
  open_k
#print axioms PySem.Challenge.cw_dosehouse_k01_rounded_holds
