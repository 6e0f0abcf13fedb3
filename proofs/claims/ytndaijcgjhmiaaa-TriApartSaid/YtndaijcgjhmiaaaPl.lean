/- Plain: the pixels of a line along its longer way; its parts; their numbers; what the document reckons, for layer 14 (walk). -/
import Derived.Test.YtndaijcgjhmiaaaDm
namespace Go.Proofs.Ytndaijcgjhmiaaa
set_option linter.unusedVariables false
namespace DM
/-- How many middles lie below a place, counted from the one of 0 on. -/
def ahd (c : Int) : Int := (c + 127) / 256
theorem ahd_le {c n : Int} : ahd c ≤ n ↔ rel c n ≤ 0 := by unfold ahd rel; omega
theorem lt_ahd {c n : Int} : n < ahd c ↔ 0 < rel c n := by unfold ahd rel; omega
/-- Meets, inside by the longer way and the other one; t: the longer way is Y. -/
def mG (t : Bool) (p q p' q' : Int) : Bool := if t then meets q p q' p' else meets p q p' q'
def iG (t : Bool) (p q : Int) : Bool := if t then inside q p else inside p q
theorem mG_turned (t : Bool) (p q p' q' : Int) : mG t p q p' q' = mG t p' q' p q := by
  unfold mG
  rw [meets_turned q p, meets_turned p q]
theorem mG_self (t : Bool) (p q : Int) : mG t p q p q = iG t p q := by
  unfold mG iG
  rw [meets_self, meets_self]
theorem iG_meets {t : Bool} {p q : Int} (p' q' : Int) (h : iG t p q = true) : mG t p q p' q' = true := by
  unfold iG at h
  unfold mG
  cases t
  · exact inside_meets _ _ h
  · exact inside_meets _ _ h
theorem iG_lim {t : Bool} {p q : Int} (h : iG t p q = true) : (-128 < p ∧ p ≤ 128) ∧ (-128 < q ∧ q ≤ 128) := by
  unfold iG at h
  cases t
  · have := inside_iff.1 h
    omega
  · have := inside_iff.1 h
    omega
/-- A line that does not come to the middle meets a diamond just at an end. -/
theorem mG_end {t : Bool} {p q p' q' : Int} (hW : p < p') (h1 : -(p' - p) ≤ q' - q) (h2 : q' - q ≤ p' - p) (hm : mG t p q p' q' = true) : (0 < p → iG t p q = true) ∧ (p' ≤ 0 → iG t p' q' = true) := by
  unfold mG at hm
  unfold iG
  cases t
  · have hb := (meets_iff.1 hm).1
    unfold box at hb
    refine ⟨fun h => inside_iff.2 ?_, fun h => inside_iff.2 ?_⟩ <;> omega
  · have hb := (meets_iff.1 hm).1
    unfold box at hb
    refine ⟨fun h => inside_iff.2 ?_, fun h => inside_iff.2 ?_⟩ <;> omega
theorem mul_le_of {W a b : Int} (hW : 0 ≤ W) (h : a ≤ b) : W * a ≤ W * b := Int.mul_le_mul_of_nonneg_left h hW
/-- At a middle that is crossed: what tells that the line is not beside the diamond. -/
theorem mid_box {p q W H : Int} (hW : 0 < W) (h1 : -W ≤ H) (h2 : H ≤ W) (hp : p ≤ 0) (hp' : 0 < p + W) {o : Int} (ho : o = W * q - H * p) :
    (o ≤ 128 * W → p + q ≤ 128 ∧ (q + H) - (p + W) ≤ 128) ∧ (-(128 * W) ≤ o → -128 ≤ (p + W) + (q + H) ∧ p - q ≤ 128) ∧
    (-(128 * W) < o → -128 < (p + W) + (q + H)) ∧ (0 < H → -(128 * W) ≤ o → -128 < (p + W) + (q + H)) ∧
    (o < 128 * W → -128 < (p + W) - (q + H)) ∧ (H ≤ 0 → o ≤ 128 * W → -128 < (p + W) - (q + H)) ∧ (-(128 * W) < o → p - q < 128) := by
  obtain ⟨a1, a2⟩ := mul_between h1 h2 (show 0 ≤ -p by omega)
  obtain ⟨b1, b2⟩ := mul_between h1 h2 (show 0 ≤ p + W by omega)
  have e1 : W * (q + H) = o + H * (p + W) := by rw [ho, Int.mul_add, Int.mul_add, Int.mul_comm W H]; omega
  have e2 : W * q = o - H * -p := by rw [ho, Int.mul_neg]; omega
  have c1 := fun b => @mul_lt_cancel W q b hW
  have c2 := fun b => @mul_lt_cancel W b q hW
  have c3 := fun b => @mul_lt_cancel W (q + H) b hW
  have c4 := fun b => @mul_lt_cancel W b (q + H) hW
  have n1 : W * -p = -(W * p) := Int.mul_neg _ _
  have n2 : ∀ z, W * (z + p) = W * z + W * p := fun z => Int.mul_add _ _ _
  have n3 : W * (128 + -p) = W * 128 + W * -p := Int.mul_add _ _ _
  have n4 : W * (128 + (p + W)) = W * 128 + W * (p + W) := Int.mul_add _ _ _
  have n5 : W * (-128 + -(p + W)) = W * -128 + -(W * (p + W)) := by rw [Int.mul_add, Int.mul_neg W (p + W)]
  have n6 : W * (-128 + p) = W * -128 + W * p := Int.mul_add _ _ _
  have n7 : W * 128 = 128 * W := Int.mul_comm _ _
  have n8 : W * -128 = -(128 * W) := by rw [Int.mul_neg, Int.mul_comm]
  have k1 := c1 (128 + -p)
  have k2 := c3 (128 + (p + W))
  have k3 := c4 (-128 + -(p + W))
  have k4 := c2 (-128 + p)
  refine ⟨fun h => ⟨?_, ?_⟩, fun h => ⟨?_, ?_⟩, fun h => ?_, fun k h => ?_, fun h => ?_, fun k h => ?_, fun h => ?_⟩
  · have := k1.1 (by omega)
    omega
  · have := k2.1 (by omega)
    omega
  · have := k3.1 (by omega)
    omega
  · have := k4.1 (by omega)
    omega
  · have := k3.2 (by omega)
    omega
  · have g1 := Int.mul_pos k hp'
    have g2 := Int.mul_pos hW hp'
    have := k3.2 (by omega)
    omega
  · have := k2.2 (by omega)
    omega
  · have g1 := Int.mul_nonneg (show 0 ≤ -H by omega) (show 0 ≤ p + W by omega)
    rw [Int.neg_mul] at g1
    have g2 := Int.mul_pos hW hp'
    have := k2.2 (by omega)
    omega
  · have := k4.2 (by omega)
    omega
/-- The place across at a middle that is crossed. -/
def colA (t : Bool) (am ac bm bc u : Int) : Int := colY (bm - am) (if t then 0 else bc - ac) ((bm - am) * ac - (bc - ac) * rel am u)
theorem mG_mid {t : Bool} {am ac bm bc u v : Int} (hW : am < bm) (h1 : -(bm - am) ≤ bc - ac) (h2 : bc - ac ≤ bm - am) (hp : rel am u ≤ 0) (hp' : 0 < rel bm u) :
    mG t (rel am u) (rel ac v) (rel bm u) (rel bc v) = decide (v = colA t am ac bm bc u) := by
  obtain ⟨W, hWe⟩ : ∃ W, bm - am = W := ⟨_, rfl⟩
  obtain ⟨H, hHe⟩ : ∃ H, bc - ac = H := ⟨_, rfl⟩
  have e1 : rel bm u = rel am u + W := by unfold rel; omega
  have e2 : rel bc v = rel ac v + H := by unfold rel; omega
  have hW0 : 0 < W := by omega
  have hT := @col_T W H (rel am u) ac v
  unfold colA
  rw [hWe, hHe] at h1 h2 ⊢
  rw [e1] at hp' ⊢
  rw [e2]
  obtain ⟨b1, b2, b3, b4, b5, b6, b7⟩ := mid_box (q := rel ac v) hW0 h1 h2 hp hp' rfl
  rw [hT] at b1 b2 b3 b4 b5 b6 b7
  rw [Bool.eq_iff_iff, decide_eq_true_iff, ← colY_is hW0 v]
  unfold mG
  cases t
  · simp only [Bool.false_eq_true, if_false]
    rw [meets_iff]
    unfold meetsP band off neg pos box
    rw [show rel am u + W - rel am u = W by omega, show rel ac v + H - rel ac v = H by omega, (far_wide h1 h2).1, hT]
    generalize rel am u = ua at *
    generalize rel ac v = va at *
    generalize W * ac - H * ua = T at *
    generalize W * v = P at *
    clear hT e1 e2
    split
    · constructor
      · rintro ⟨_, h | ⟨h3, h4⟩⟩ <;> omega
      · rintro ⟨h3, h4⟩
        have a1 := b1 (by omega)
        have a2 := b2 (by omega)
        have a4 := b4 (by omega) (by omega)
        have a5 := b5 (by omega)
        clear b1 b2 b3 b4 b5 b6 b7
        refine ⟨⟨⟨by omega, by omega⟩, by omega, by omega⟩, .inr ⟨by omega, by omega⟩⟩
    · constructor
      · rintro ⟨_, h | ⟨h3, h4⟩⟩ <;> omega
      · rintro ⟨h3, h4⟩
        have a1 := b1 (by omega)
        have a2 := b2 (by omega)
        have a3 := b3 (by omega)
        have a6 := b6 (by omega) (by omega)
        clear b1 b2 b3 b4 b5 b6 b7
        refine ⟨⟨⟨by omega, by omega⟩, by omega, by omega⟩, .inr ⟨by omega, by omega⟩⟩
  · simp only [if_true]
    rw [meets_iff, if_neg (Int.lt_irrefl 0)]
    unfold meetsP band off neg pos box
    have hO : H * rel am u - W * rel ac v = -((W * ac - H * rel am u) - 256 * (W * v) - 128 * W) := by rw [← hT]; omega
    rw [show rel am u + W - rel am u = W by omega, show rel ac v + H - rel ac v = H by omega, (far_wide h1 h2).2, hO]
    generalize rel am u = ua at *
    generalize rel ac v = va at *
    generalize W * ac - H * ua = T at *
    generalize W * v = P at *
    clear hT hO e1 e2
    constructor
    · rintro ⟨_, h | ⟨h3, h4⟩⟩ <;> omega
    · rintro ⟨h3, h4⟩
      have a1 := b1 (by omega)
      have a2 := b2 (by omega)
      have a3 := b3 (by omega)
      have a7 := b7 (by omega)
      clear b1 b2 b3 b4 b5 b6 b7
      refine ⟨⟨⟨by omega, by omega⟩, by omega, by omega⟩, .inr ⟨by omega, by omega⟩⟩
end DM
namespace DM
/-- As far or farther along the first way than across, and not from a place to itself. -/
def way (am ac bm bc : Int) : Prop := (am < bm ∧ -(bm - am) ≤ bc - ac ∧ bc - ac ≤ bm - am) ∨ (bm < am ∧ -(am - bm) ≤ ac - bc ∧ ac - bc ≤ am - bm)
/-- The place of a column along the line: how many middles are crossed ahead of it. -/
def pl (am bm u : Int) : Int := if am < bm then u - ahd am else ahd am - 1 - u
def unpl (am bm j : Int) : Int := if am < bm then ahd am + j else ahd am - 1 - j
def nl (am bm : Int) : Int := if am < bm then ahd bm - ahd am else ahd am - ahd bm
theorem pl_unpl (am bm j : Int) : pl am bm (unpl am bm j) = j := by unfold pl unpl; split <;> omega
theorem unpl_pl (am bm u : Int) : unpl am bm (pl am bm u) = u := by unfold pl unpl; split <;> omega
theorem pl_inj {am bm u u' : Int} (h : pl am bm u = pl am bm u') : u = u' := by rw [← unpl_pl am bm u, h, unpl_pl]
def colV (t : Bool) (am ac bm bc u : Int) : Int := if am < bm then colA t am ac bm bc u else colA t bm bc am ac u
def eG (t : Bool) (am ac bm bc u v : Int) : Bool := mG t (rel am u) (rel ac v) (rel bm u) (rel bc v) && !iG t (rel bm u) (rel bc v)
def aG (t : Bool) (am ac u v : Int) : Bool := iG t (rel am u) (rel ac v)
def kG (t : Bool) (am ac bm bc u v : Int) : Bool := mG t (rel am u) (rel ac v) (rel bm u) (rel bc v)
theorem eG_iff {t : Bool} {am ac bm bc u v : Int} : eG t am ac bm bc u v = true ↔ kG t am ac bm bc u v = true ∧ aG t bm bc u v = false := by
  unfold eG kG aG
  simp
section
variable {t : Bool} {am ac bm bc u v : Int}
theorem nl_pos (h : way am ac bm bc) : 0 ≤ nl am bm := by
  unfold nl ahd
  rcases h with h | h <;> split <;> omega
theorem at_a (h : aG t am ac u v = true) : -1 ≤ pl am bm u ∧ pl am bm u ≤ 0 := by
  have l := (iG_lim h).1
  unfold pl ahd
  unfold rel at l
  split <;> omega
theorem at_b (h : aG t bm bc u v = true) : nl am bm - 1 ≤ pl am bm u ∧ pl am bm u ≤ nl am bm := by
  have l := (iG_lim h).1
  unfold pl nl ahd
  unfold rel at l
  split <;> omega
theorem a_meets (h : aG t am ac u v = true) : kG t am ac bm bc u v = true := iG_meets _ _ h
theorem b_meets (h : aG t bm bc u v = true) : kG t am ac bm bc u v = true := by
  unfold kG
  rw [mG_turned]
  exact iG_meets _ _ h
/-- Ahead of the middles that are crossed a line meets the diamond alone in which it begins; behind them the one alone in which it ends. -/
theorem ahead_a (h : way am ac bm bc) (hm : kG t am ac bm bc u v = true) (hp : pl am bm u < 0) : aG t am ac u v = true := by
  unfold kG at hm
  unfold aG
  unfold pl at hp
  have q := @lt_ahd am u
  have q2 := @ahd_le am u
  rcases h with ⟨h0, h1, h2⟩ | ⟨h0, h1, h2⟩
  · rw [if_pos h0] at hp
    exact (mG_end (by unfold rel; omega) (by unfold rel; omega) (by unfold rel; omega) hm).1 (by omega)
  · rw [if_neg (by omega)] at hp
    rw [mG_turned] at hm
    exact (mG_end (by unfold rel; omega) (by unfold rel; omega) (by unfold rel; omega) hm).2 (by omega)
theorem behind_b (h : way am ac bm bc) (hm : kG t am ac bm bc u v = true) (hp : nl am bm ≤ pl am bm u) : aG t bm bc u v = true := by
  unfold kG at hm
  unfold aG
  unfold pl nl at hp
  have q := @lt_ahd bm u
  have q2 := @ahd_le bm u
  rcases h with ⟨h0, h1, h2⟩ | ⟨h0, h1, h2⟩
  · rw [if_pos h0, if_pos h0] at hp
    exact (mG_end (by unfold rel; omega) (by unfold rel; omega) (by unfold rel; omega) hm).2 (by omega)
  · rw [if_neg (by omega), if_neg (by omega)] at hp
    rw [mG_turned] at hm
    exact (mG_end (by unfold rel; omega) (by unfold rel; omega) (by unfold rel; omega) hm).1 (by omega)
theorem within_ab (h : way am ac bm bc) (h0 : 0 ≤ pl am bm u) (h1 : pl am bm u < nl am bm) : kG t am ac bm bc u v = decide (v = colV t am ac bm bc u) := by
  unfold kG colV
  unfold pl at h0 h1
  unfold nl at h1
  have q := @lt_ahd am u
  have q2 := @ahd_le am u
  have q3 := @lt_ahd bm u
  have q4 := @ahd_le bm u
  rcases h with ⟨g0, g1, g2⟩ | ⟨g0, g1, g2⟩
  · rw [if_pos g0] at h0 h1 ⊢
    rw [if_pos g0] at h1
    exact mG_mid g0 g1 g2 (by omega) (by omega)
  · rw [if_neg (by omega)] at h0 h1 ⊢
    rw [if_neg (by omega)] at h1
    rw [mG_turned]
    exact mG_mid g0 g1 g2 (by omega) (by omega)
/-- The pixel in whose diamond a point is: along the longer way, across. -/
def pG (t : Bool) (am ac : Int) : Option (Int × Int) := if t then (pix ac am).map (fun z => (z.2, z.1)) else pix am ac
theorem pG_iff : aG t am ac u v = true ↔ pG t am ac = some (u, v) := by
  unfold aG iG pG
  cases t
  · simp only [Bool.false_eq_true, if_false]
    exact pix_iff
  · simp only [if_true]
    rw [pix_iff]
    cases pix ac am with
    | none => simp
    | some z =>
      obtain ⟨i, j⟩ := z
      simp only [Option.some.injEq, Prod.mk.injEq, Option.map_some]
      omega
theorem aG_one {u' v' : Int} (h : aG t am ac u v = true) (h' : aG t am ac u' v' = true) : u = u' ∧ v = v' := by
  rw [pG_iff] at h h'
  rw [h, Option.some.injEq, Prod.mk.injEq] at h'
  exact h'
end
/-- Does it exit from the diamond in which it begins without crossing its middle there? -/
def extra (t : Bool) (am ac bm bc : Int) : Bool := match pG t am ac with
  | some (u, v) => eG t am ac bm bc u v && !(decide (0 ≤ pl am bm u) && decide (pl am bm u < nl am bm))
  | none => false
/-- Does it end in the diamond of the last middle that it crosses? -/
def lastIn (t : Bool) (am ac bm bc : Int) : Bool := decide (0 < nl am bm) && aG t bm bc (unpl am bm (nl am bm - 1)) (colV t am ac bm bc (unpl am bm (nl am bm - 1)))
def e1 (t : Bool) (am ac bm bc : Int) : Int := if extra t am ac bm bc then 1 else 0
def l1 (t : Bool) (am ac bm bc : Int) : Int := if lastIn t am ac bm bc then 1 else 0
def cntG (t : Bool) (am ac bm bc : Int) : Int := nl am bm - l1 t am ac bm bc + e1 t am ac bm bc
/-- The place across of a column. -/
def yy (t : Bool) (am ac bm bc u : Int) : Int := if 0 ≤ pl am bm u ∧ pl am bm u < nl am bm then colV t am ac bm bc u else match pG t am ac with | some z => z.2 | none => 0
section
variable {t : Bool} {am ac bm bc u v : Int}
theorem extra_iff : extra t am ac bm bc = true ↔ ∃ u v, aG t am ac u v = true ∧ eG t am ac bm bc u v = true ∧ ¬ (0 ≤ pl am bm u ∧ pl am bm u < nl am bm) := by
  unfold extra
  constructor
  · intro h
    split at h
    · rename_i u v hp
      refine ⟨u, v, pG_iff.2 hp, ?_⟩
      simp only [Bool.and_eq_true, Bool.not_eq_true', Bool.and_eq_false_iff, decide_eq_false_iff_not] at h
      exact ⟨h.1, by omega⟩
    · cases h
  · rintro ⟨u, v, h1, h2, h3⟩
    rw [pG_iff.1 h1]
    simp only [Bool.and_eq_true, Bool.not_eq_true', Bool.and_eq_false_iff, decide_eq_false_iff_not]
    exact ⟨h2, by omega⟩
theorem lastIn_iff : lastIn t am ac bm bc = true ↔ 0 < nl am bm ∧ aG t bm bc (unpl am bm (nl am bm - 1)) (colV t am ac bm bc (unpl am bm (nl am bm - 1))) = true := by
  unfold lastIn
  simp
theorem e1_is : (extra t am ac bm bc = true ∧ e1 t am ac bm bc = 1) ∨ (extra t am ac bm bc = false ∧ e1 t am ac bm bc = 0) := by
  unfold e1
  cases extra t am ac bm bc <;> simp
theorem l1_is : (lastIn t am ac bm bc = true ∧ l1 t am ac bm bc = 1) ∨ (lastIn t am ac bm bc = false ∧ l1 t am ac bm bc = 0) := by
  unfold l1
  cases lastIn t am ac bm bc <;> simp
theorem cntG_pos (h : way am ac bm bc) : 0 ≤ cntG t am ac bm bc := by
  unfold cntG
  have := nl_pos h
  rcases @e1_is t am ac bm bc with ⟨_, a⟩ | ⟨_, a⟩ <;> rcases @l1_is t am ac bm bc with ⟨b0, b⟩ | ⟨b0, b⟩ <;> first | omega | (have := (lastIn_iff.1 b0).1; omega)
/-- The pixels from whose diamonds a line exits: one of each column, of the first one to the last one. -/
theorem exits_iff (h : way am ac bm bc) : eG t am ac bm bc u v = true ↔ (-e1 t am ac bm bc ≤ pl am bm u ∧ pl am bm u < nl am bm - l1 t am ac bm bc) ∧ v = yy t am ac bm bc u := by
  constructor
  · intro he
    obtain ⟨hm, hb⟩ := eG_iff.1 he
    have hN := nl_pos h
    rcases (by omega : pl am bm u < 0 ∨ nl am bm ≤ pl am bm u ∨ (0 ≤ pl am bm u ∧ pl am bm u < nl am bm)) with hp | hp | ⟨hp, hq⟩
    · have ha := ahead_a h hm hp
      have hx : extra t am ac bm bc = true := extra_iff.2 ⟨u, v, ha, he, by omega⟩
      have l := at_a (bm := bm) ha
      rcases @e1_is t am ac bm bc with ⟨_, a⟩ | ⟨a0, a⟩
      · refine ⟨⟨by omega, ?_⟩, ?_⟩
        · rcases @l1_is t am ac bm bc with ⟨b0, b⟩ | ⟨b0, b⟩
          · have := (lastIn_iff.1 b0).1
            omega
          · omega
        · unfold yy
          rw [if_neg (by omega), pG_iff.1 ha]
      · rw [hx] at a0
        cases a0
    · rw [behind_b h hm hp] at hb
      cases hb
    · have hv := within_ab (t := t) (v := v) h hp hq
      rw [hm] at hv
      have hv := of_decide_eq_true hv.symm
      refine ⟨⟨?_, ?_⟩, ?_⟩
      · rcases @e1_is t am ac bm bc with ⟨_, a⟩ | ⟨_, a⟩ <;> omega
      · rcases @l1_is t am ac bm bc with ⟨b0, b⟩ | ⟨b0, b⟩
        · rcases (by omega : pl am bm u = nl am bm - 1 ∨ pl am bm u < nl am bm - 1) with e | e
          · have := (lastIn_iff.1 b0).2
            rw [← e, unpl_pl, ← hv, hb] at this
            cases this
          · omega
        · omega
      · unfold yy
        rw [if_pos ⟨hp, hq⟩]
        exact hv
  · rintro ⟨⟨h1, h2⟩, hv⟩
    have hL : 0 ≤ l1 t am ac bm bc := by rcases @l1_is t am ac bm bc with ⟨b0, b⟩ | ⟨b0, b⟩ <;> omega
    rcases (by omega : pl am bm u < 0 ∨ 0 ≤ pl am bm u) with hp | hp
    · rcases @e1_is t am ac bm bc with ⟨a0, a⟩ | ⟨_, a⟩
      · obtain ⟨u', v', q1, q2, q3⟩ := extra_iff.1 a0
        have l := at_a (bm := bm) q1
        have l2 : pl am bm u' = -1 := by
          have hN := nl_pos h
          rcases (by omega : pl am bm u' = -1 ∨ pl am bm u' = 0) with e | e
          · exact e
          · exfalso
            have hN0 : nl am bm = 0 := by omega
            obtain ⟨hm, hb⟩ := eG_iff.1 q2
            rw [behind_b h hm (by omega)] at hb
            cases hb
        have hu : u = u' := pl_inj (by omega : pl am bm u = pl am bm u')
        subst hu
        have : v = v' := by
          rw [hv]
          unfold yy
          rw [if_neg (by omega), pG_iff.1 q1]
        rw [this]
        exact q2
      · omega
    · have hq : pl am bm u < nl am bm := by omega
      have hv2 : v = colV t am ac bm bc u := by
        rw [hv]
        unfold yy
        rw [if_pos ⟨hp, hq⟩]
      have hk := within_ab (t := t) (v := v) h hp hq
      rw [decide_eq_true hv2] at hk
      rw [eG_iff]
      refine ⟨hk, ?_⟩
      rw [← Bool.not_eq_true]
      intro hb
      have l := at_b (am := am) hb
      have e : pl am bm u = nl am bm - 1 := by omega
      have hl : lastIn t am ac bm bc = true := lastIn_iff.2 ⟨by omega, by rw [← e, unpl_pl, ← hv2]; exact hb⟩
      rcases @l1_is t am ac bm bc with ⟨b0, b⟩ | ⟨b0, b⟩
      · omega
      · rw [hl] at b0
        cases b0
end
end DM
namespace DM
/-- Two rising rows with the same members are one. -/
theorem rising_one {α : Type} (f : α → Int) : ∀ {l r : List α}, l.Pairwise (fun x y => f x < f y) → r.Pairwise (fun x y => f x < f y) → (∀ x, x ∈ l ↔ x ∈ r) → l = r
  | [], [], _, _, _ => rfl
  | [], y :: r, _, _, h => absurd ((h y).2 List.mem_cons_self) (by simp)
  | x :: l, [], _, _, h => absurd ((h x).1 List.mem_cons_self) (by simp)
  | x :: l, y :: r, hl, hr, h => by
    obtain ⟨hx, hl2⟩ := List.pairwise_cons.1 hl
    obtain ⟨hy, hr2⟩ := List.pairwise_cons.1 hr
    have e : x = y := by
      have h1 := (h x).1 List.mem_cons_self
      have h2 := (h y).2 List.mem_cons_self
      rcases List.mem_cons.1 h1 with e | h1
      · exact e
      · rcases List.mem_cons.1 h2 with e | h2
        · exact e.symm
        · have := hx y h2
          have := hy x h1
          omega
    subst e
    refine congrArg (List.cons x) (rising_one f hl2 hr2 fun z => ?_)
    have hz := h z
    rw [List.mem_cons, List.mem_cons] at hz
    constructor
    · intro k
      rcases hz.1 (.inr k) with e | k2
      · subst e
        have := hx z k
        omega
      · exact k2
    · intro k
      rcases hz.2 (.inr k) with e | k2
      · subst e
        have := hy z k
        omega
      · exact k2
theorem rising_len {α : Type} (f : α → Int) {lo hi : Int} : ∀ {l : List α}, l.Pairwise (fun x y => f x < f y) → (∀ x ∈ l, lo ≤ f x ∧ f x < hi) → l = [] ∨ (l.length : Int) ≤ hi - lo
  | [], _, _ => .inl rfl
  | x :: l, h, hb => by
    obtain ⟨hx, hl⟩ := List.pairwise_cons.1 h
    have h0 := hb x List.mem_cons_self
    rcases rising_len f (lo := f x + 1) (hi := hi) hl (fun y hy => ⟨by have := hx y hy; omega, (hb y (List.mem_cons_of_mem _ hy)).2⟩) with e | e
    · subst e
      refine .inr ?_
      simp only [List.length_cons, List.length_nil]
      omega
    · refine .inr ?_
      simp only [List.length_cons]
      omega
theorem rising_range {α : Type} (f : α → Int) (g : Nat → α) (hg : ∀ i j, i < j → f (g i) < f (g j)) (n : Nat) : ((List.range n).map g).Pairwise (fun x y => f x < f y) := by
  rw [List.pairwise_map]
  exact List.Pairwise.imp (fun h => hg _ _ h) List.pairwise_lt_range
/-- Is Y the longer way? -/
def tall (w h : Int) : Bool := decide (abs w < abs h)
def mn (t : Bool) (x y : Int) : Int := if t then y else x
def cr (t : Bool) (x y : Int) : Int := if t then x else y
theorem mn_cr (t : Bool) (x y : Int) : (mn t (mn t x y) (cr t x y) = x) ∧ (cr t (mn t x y) (cr t x y) = y) := by cases t <;> exact ⟨rfl, rfl⟩
theorem way_of {ax ay bx by_ : Int} (h : ¬ (ax = bx ∧ ay = by_)) : way (mn (tall (bx - ax) (by_ - ay)) ax ay) (cr (tall (bx - ax) (by_ - ay)) ax ay) (mn (tall (bx - ax) (by_ - ay)) bx by_) (cr (tall (bx - ax) (by_ - ay)) bx by_) := by
  cases ht : tall (bx - ax) (by_ - ay)
  · have := of_decide_eq_false ht
    unfold way
    show (ax < bx ∧ -(bx - ax) ≤ by_ - ay ∧ by_ - ay ≤ bx - ax) ∨ (bx < ax ∧ -(ax - bx) ≤ ay - by_ ∧ ay - by_ ≤ ax - bx)
    unfold abs at this
    omega
  · have := of_decide_eq_true ht
    unfold way
    show (ay < by_ ∧ -(by_ - ay) ≤ bx - ax ∧ bx - ax ≤ by_ - ay) ∨ (by_ < ay ∧ -(ay - by_) ≤ ax - bx ∧ ax - bx ≤ ay - by_)
    unfold abs at this
    omega
def exits (a b c d : Int) : Bool := meets a b c d && !inside c d
theorem eG_exits (t : Bool) (ax ay bx by_ x y : Int) : eG t (mn t ax ay) (cr t ax ay) (mn t bx by_) (cr t bx by_) (mn t x y) (cr t x y) = exits (rel ax x) (rel ay y) (rel bx x) (rel by_ y) := by
  cases t <;> rfl
/-- The pixels along the longer way, one behind the other. -/
def pixG (t : Bool) (am ac bm bc : Int) (k : Nat) : Int × Int :=
  (mn t (unpl am bm (k - e1 t am ac bm bc)) (yy t am ac bm bc (unpl am bm (k - e1 t am ac bm bc))), cr t (unpl am bm (k - e1 t am ac bm bc)) (yy t am ac bm bc (unpl am bm (k - e1 t am ac bm bc))))
def pixs (ax ay bx by_ : Int) : List (Int × Int) :=
  if ax = bx ∧ ay = by_ then [] else
    (List.range (cntG (tall (bx - ax) (by_ - ay)) (mn (tall (bx - ax) (by_ - ay)) ax ay) (cr (tall (bx - ax) (by_ - ay)) ax ay) (mn (tall (bx - ax) (by_ - ay)) bx by_) (cr (tall (bx - ax) (by_ - ay)) bx by_)).toNat).map
      (pixG (tall (bx - ax) (by_ - ay)) (mn (tall (bx - ax) (by_ - ay)) ax ay) (cr (tall (bx - ax) (by_ - ay)) ax ay) (mn (tall (bx - ax) (by_ - ay)) bx by_) (cr (tall (bx - ax) (by_ - ay)) bx by_))
/-- How far along the line a pixel is. -/
def ord (t : Bool) (am bm : Int) (z : Int × Int) : Int := if am < bm then mn t z.1 z.2 else -mn t z.1 z.2
theorem ord_pl (t : Bool) (am bm : Int) (z z' : Int × Int) : ord t am bm z < ord t am bm z' ↔ pl am bm (mn t z.1 z.2) < pl am bm (mn t z'.1 z'.2) := by
  unfold ord pl
  split <;> omega
def fAb (ax ay bx by_ : Int) : Int × Int → Int := ord (tall (bx - ax) (by_ - ay)) (mn (tall (bx - ax) (by_ - ay)) ax ay) (mn (tall (bx - ax) (by_ - ay)) bx by_)
theorem mem_range_map {t : Bool} {am ac bm bc : Int} (h : way am ac bm bc) (z : Int × Int) : z ∈ (List.range (cntG t am ac bm bc).toNat).map (pixG t am ac bm bc) ↔ eG t am ac bm bc (mn t z.1 z.2) (cr t z.1 z.2) = true := by
  rw [exits_iff h, List.mem_map]
  have hc := cntG_pos (t := t) h
  have he : cntG t am ac bm bc = nl am bm - l1 t am ac bm bc + e1 t am ac bm bc := rfl
  obtain ⟨x, y⟩ := z
  have mc := mn_cr t x y
  constructor
  · rintro ⟨k, hk, e⟩
    rw [List.mem_range] at hk
    unfold pixG at e
    obtain ⟨e1_, e2⟩ := Prod.mk.inj e
    obtain ⟨u, hu⟩ : ∃ u, unpl am bm ((k : Int) - e1 t am ac bm bc) = u := ⟨_, rfl⟩
    rw [hu] at e1_ e2
    have hp : pl am bm u = (k : Int) - e1 t am ac bm bc := by rw [← hu, pl_unpl]
    have mc2 := mn_cr t u (yy t am ac bm bc u)
    rw [e1_, e2] at mc2
    show (_ ≤ pl am bm (mn t x y) ∧ pl am bm (mn t x y) < _) ∧ cr t x y = _
    rw [mc2.1, mc2.2]
    exact ⟨⟨by omega, by omega⟩, rfl⟩
  · rintro ⟨⟨h1, h2⟩, h3⟩
    simp only at h1 h2 h3
    refine ⟨(pl am bm (mn t x y) + e1 t am ac bm bc).toNat, by rw [List.mem_range]; omega, ?_⟩
    unfold pixG
    rw [show ((pl am bm (mn t x y) + e1 t am ac bm bc).toNat : Int) - e1 t am ac bm bc = pl am bm (mn t x y) by omega, unpl_pl, ← h3, mc.1, mc.2]
theorem mem_pixs {ax ay bx by_ : Int} (z : Int × Int) : z ∈ pixs ax ay bx by_ ↔ exits (rel ax z.1) (rel ay z.2) (rel bx z.1) (rel by_ z.2) = true := by
  unfold pixs
  split
  · rename_i h
    obtain ⟨rfl, rfl⟩ := h
    rw [exits, meets_self]
    cases inside (rel ax z.1) (rel ay z.2) <;> simp
  · rename_i h
    rw [mem_range_map (way_of h), eG_exits]
theorem pixs_rising (ax ay bx by_ : Int) : (pixs ax ay bx by_).Pairwise (fun x y => fAb ax ay bx by_ x < fAb ax ay bx by_ y) := by
  unfold pixs
  split
  · exact List.Pairwise.nil
  · refine rising_range _ _ (fun i j hij => ?_) _
    unfold fAb
    rw [ord_pl]
    unfold pixG
    simp only
    generalize tall (bx - ax) (by_ - ay) = t
    have m1 := fun u v => (mn_cr t u v).1
    rw [m1, m1, pl_unpl, pl_unpl]
    omega
theorem pixs_is {ax ay bx by_ : Int} {l : List (Int × Int)} (h : l.Pairwise (fun x y => fAb ax ay bx by_ x < fAb ax ay bx by_ y)) (hm : ∀ z, z ∈ l ↔ exits (rel ax z.1) (rel ay z.2) (rel bx z.1) (rel by_ z.2) = true) : l = pixs ax ay bx by_ :=
  rising_one _ h (pixs_rising ax ay bx by_) fun z => by rw [hm, mem_pixs]
/-- A line that is moved. -/
theorem rel_move (c x z : Int) : rel (c + 256 * z) (x + z) = rel c x := by unfold rel; omega
theorem pixs_moved (ax ay bx by_ p q : Int) : pixs (ax + 256 * p) (ay + 256 * q) (bx + 256 * p) (by_ + 256 * q) = (pixs ax ay bx by_).map fun z => (z.1 + p, z.2 + q) := by
  symm
  apply pixs_is
  · rw [List.pairwise_map]
    refine (pixs_rising ax ay bx by_).imp fun {x y} h => ?_
    unfold fAb ord at h ⊢
    rw [show bx + 256 * p - (ax + 256 * p) = bx - ax by omega, show by_ + 256 * q - (ay + 256 * q) = by_ - ay by omega]
    generalize tall (bx - ax) (by_ - ay) = t at *
    cases t
    · simp only [mn, Bool.false_eq_true, if_false] at h ⊢
      split at h <;> split <;> omega
    · simp only [mn, if_true] at h ⊢
      split at h <;> split <;> omega
  · intro z
    rw [List.mem_map]
    have e1_ := rel_move ax (z.1 - p) p
    have e2 := rel_move ay (z.2 - q) q
    have e3 := rel_move bx (z.1 - p) p
    have e4 := rel_move by_ (z.2 - q) q
    rw [show z.1 - p + p = z.1 by omega] at e1_ e3
    rw [show z.2 - q + q = z.2 by omega] at e2 e4
    rw [e1_, e2, e3, e4]
    have := @mem_pixs ax ay bx by_ (z.1 - p, z.2 - q)
    rw [← this]
    constructor
    · rintro ⟨y, hy, rfl⟩
      rw [show ((y.1 + p) - p, (y.2 + q) - q) = y by rw [show y.1 + p - p = y.1 by omega, show y.2 + q - q = y.2 by omega]]
      exact hy
    · intro h
      exact ⟨_, h, by rw [show z.1 - p + p = z.1 by omega, show z.2 - q + q = z.2 by omega]⟩
end DM
namespace DM
/-- What both parts meet has the point between them in it. -/
theorem both_in {a b w h m k : Int} (hm : 0 < m) (hk : 0 < k) (h1 : meets a b (a + m * w) (b + m * h) = true) (h2 : meets (a + m * w) (b + m * h) (a + (m * w + k * w)) (b + (m * h + k * h)) = true) : inside (a + m * w) (b + m * h) = true := by
  have b1 := (meets_iff.1 h1).1
  have b2 := (meets_iff.1 h2).1
  unfold box at b1 b2
  have Hs := ways hm hk (w + h) (a + b)
  have Hd := ways hm hk (w - h) (a - b)
  rw [show a + b + m * (w + h) + k * (w + h) = (a + (m * w + k * w)) + (b + (m * h + k * h)) by rw [Int.mul_add, Int.mul_add]; omega, show a + b + m * (w + h) = (a + m * w) + (b + m * h) by rw [Int.mul_add]; omega] at Hs
  rw [show a - b + m * (w - h) + k * (w - h) = (a + (m * w + k * w)) - (b + (m * h + k * h)) by rw [Int.mul_sub, Int.mul_sub]; omega, show a - b + m * (w - h) = (a + m * w) - (b + m * h) by rw [Int.mul_sub]; omega] at Hd
  rw [inside_iff]
  obtain ⟨⟨b11, b12⟩, b13, b14⟩ := b1
  obtain ⟨⟨b21, b22⟩, b23, b24⟩ := b2
  clear h1 h2
  constructor
  · clear Hd b13 b14 b23 b24
    omega
  · clear Hs b11 b12 b21 b22
    omega
theorem exits_parts {a b w h m k : Int} (hm : 0 < m) (hk : 0 < k) :
    (exits a b (a + (m * w + k * w)) (b + (m * h + k * h)) = true ↔ exits a b (a + m * w) (b + m * h) = true ∨ exits (a + m * w) (b + m * h) (a + (m * w + k * w)) (b + (m * h + k * h)) = true) ∧
    ¬ (exits a b (a + m * w) (b + m * h) = true ∧ exits (a + m * w) (b + m * h) (a + (m * w + k * w)) (b + (m * h + k * h)) = true) := by
  have P := parts (a := a) (b := b) (w := w) (h := h) (m := m) (k := k) (by omega) (by omega)
  have B := @both_in a b w h m k hm hk
  have I1 : inside (a + m * w) (b + m * h) = true → meets (a + m * w) (b + m * h) (a + (m * w + k * w)) (b + (m * h + k * h)) = true := fun h => inside_meets _ _ h
  have I2 : inside (a + (m * w + k * w)) (b + (m * h + k * h)) = true → meets (a + m * w) (b + m * h) (a + (m * w + k * w)) (b + (m * h + k * h)) = true := fun h => by rw [meets_turned]; exact inside_meets _ _ h
  unfold exits
  rw [P]
  generalize meets a b (a + m * w) (b + m * h) = x at *
  generalize meets (a + m * w) (b + m * h) (a + (m * w + k * w)) (b + (m * h + k * h)) = y at *
  generalize inside (a + m * w) (b + m * h) = i at *
  generalize inside (a + (m * w + k * w)) (b + (m * h + k * h)) = j at *
  clear P
  cases x <;> cases y <;> cases i <;> cases j <;> simp_all
theorem tall_scale {m : Int} (hm : 0 < m) (w h : Int) : tall (m * w) (m * h) = tall w h := by
  unfold tall
  rw [abs_scale hm, abs_scale hm, Bool.eq_iff_iff, decide_eq_true_iff, decide_eq_true_iff]
  exact ⟨fun h => Int.lt_of_mul_lt_mul_left h (by omega), fun h => Int.mul_lt_mul_of_pos_left h hm⟩
/-- How far along a way a pixel is. -/
def fD (w h : Int) (z : Int × Int) : Int := if 0 < mn (tall w h) w h then mn (tall w h) z.1 z.2 else -mn (tall w h) z.1 z.2
theorem fAb_is {w h m : Int} (hm : 0 < m) (ax ay : Int) : fAb ax ay (ax + m * w) (ay + m * h) = fD w h := by
  funext z
  unfold fAb fD ord
  rw [show ax + m * w - ax = m * w by omega, show ay + m * h - ay = m * h by omega, tall_scale hm]
  have h1 := (mul_sign hm w).2.1
  have h2 := (mul_sign hm h).2.1
  cases tall w h
  · simp only [mn, Bool.false_eq_true, if_false]
    split <;> split <;> omega
  · simp only [mn, if_true]
    split <;> split <;> omega
theorem pixs_same (ax ay : Int) : pixs ax ay ax ay = [] := if_pos ⟨rfl, rfl⟩
theorem pixs_parts {ax ay w h m k : Int} (hm : 0 ≤ m) (hk : 0 ≤ k) :
    pixs ax ay (ax + (m * w + k * w)) (ay + (m * h + k * h)) = pixs ax ay (ax + m * w) (ay + m * h) ++ pixs (ax + m * w) (ay + m * h) (ax + (m * w + k * w)) (ay + (m * h + k * h)) := by
  rcases (by omega : m = 0 ∨ 0 < m) with rfl | hm
  · simp only [Int.zero_mul, Int.zero_add, Int.add_zero]
    rw [pixs_same, List.nil_append]
  rcases (by omega : k = 0 ∨ 0 < k) with rfl | hk
  · simp only [Int.zero_mul, Int.add_zero]
    rw [pixs_same, List.append_nil]
  by_cases hw : w = 0 ∧ h = 0
  · obtain ⟨rfl, rfl⟩ := hw
    simp only [Int.mul_zero, Int.add_zero, pixs_same, List.append_nil]
  have F0 : fAb ax ay (ax + (m * w + k * w)) (ay + (m * h + k * h)) = fD w h := by
    rw [← Int.add_mul, ← Int.add_mul]
    exact fAb_is (by omega) ax ay
  have F1 := fAb_is (w := w) (h := h) hm ax ay
  have F2 : fAb (ax + m * w) (ay + m * h) (ax + (m * w + k * w)) (ay + (m * h + k * h)) = fD w h := by
    have := fAb_is (w := w) (h := h) hk (ax + m * w) (ay + m * h)
    rwa [show ax + m * w + k * w = ax + (m * w + k * w) by omega, show ay + m * h + k * h = ay + (m * h + k * h) by omega] at this
  have EX : ∀ x y, (exits (rel ax x) (rel ay y) (rel (ax + (m * w + k * w)) x) (rel (ay + (m * h + k * h)) y) = true ↔ exits (rel ax x) (rel ay y) (rel (ax + m * w) x) (rel (ay + m * h) y) = true ∨ exits (rel (ax + m * w) x) (rel (ay + m * h) y) (rel (ax + (m * w + k * w)) x) (rel (ay + (m * h + k * h)) y) = true) ∧
      ¬ (exits (rel ax x) (rel ay y) (rel (ax + m * w) x) (rel (ay + m * h) y) = true ∧ exits (rel (ax + m * w) x) (rel (ay + m * h) y) (rel (ax + (m * w + k * w)) x) (rel (ay + (m * h + k * h)) y) = true) := by
    intro x y
    have := @exits_parts (rel ax x) (rel ay y) w h m k hm hk
    simp only [rel_add]
    exact this
  symm
  apply pixs_is
  · rw [F0, List.pairwise_append]
    refine ⟨F1 ▸ pixs_rising _ _ _ _, F2 ▸ pixs_rising _ _ _ _, fun p hp q hq => ?_⟩
    rw [mem_pixs] at hp hq
    obtain ⟨x, y⟩ := p
    obtain ⟨x', y'⟩ := q
    simp only at hp hq
    have xp := ((EX x y).1).2 (.inl hp)
    have xq := ((EX x' y').1).2 (.inr hq)
    have nd := (EX x y).2
    -- along the longer way
    have T1 := tall_scale (m := m) hm w h
    have T2 := tall_scale (m := k) hk w h
    have T0 := tall_scale (m := m + k) (by omega) w h
    rw [Int.add_mul, Int.add_mul] at T0
    have n0 : ¬ (ax = ax + (m * w + k * w) ∧ ay = ay + (m * h + k * h)) := by
      have a1 := mul_sign (show 0 < m + k by omega) w
      have a2 := mul_sign (show 0 < m + k by omega) h
      rw [Int.add_mul] at a1 a2
      omega
    have n1 : ¬ (ax = ax + m * w ∧ ay = ay + m * h) := by
      have a1 := mul_sign hm w
      have a2 := mul_sign hm h
      omega
    have n2 : ¬ (ax + m * w = ax + (m * w + k * w) ∧ ay + m * h = ay + (m * h + k * h)) := by
      have a1 := mul_sign hk w
      have a2 := mul_sign hk h
      omega
    have W0 := way_of n0
    have W1 := way_of n1
    have W2 := way_of n2
    rw [show ax + (m * w + k * w) - ax = m * w + k * w by omega, show ay + (m * h + k * h) - ay = m * h + k * h by omega, T0] at W0
    rw [show ax + m * w - ax = m * w by omega, show ay + m * h - ay = m * h by omega, T1] at W1
    rw [show ax + (m * w + k * w) - (ax + m * w) = k * w by omega, show ay + (m * h + k * h) - (ay + m * h) = k * h by omega, T2] at W2
    clear F0 F1 F2 T0 T1 T2 n0 n1 n2
    have sg : ∀ t, (mn t ax ay < mn t (ax + m * w) (ay + m * h) ↔ 0 < mn t w h) ∧ (mn t (ax + m * w) (ay + m * h) < mn t (ax + (m * w + k * w)) (ay + (m * h + k * h)) ↔ 0 < mn t w h) ∧ (mn t ax ay < mn t (ax + (m * w + k * w)) (ay + (m * h + k * h)) ↔ 0 < mn t w h) := by
      intro t
      have a1 := (mul_sign hm w).2.1
      have a2 := (mul_sign hm h).2.1
      have a3 := (mul_sign hk w).2.1
      have a4 := (mul_sign hk h).2.1
      have a5 := (mul_sign (show 0 < m + k by omega) w).2.1
      have a6 := (mul_sign (show 0 < m + k by omega) h).2.1
      rw [Int.add_mul] at a5 a6
      cases t
      · simp only [mn, Bool.false_eq_true, if_false]
        omega
      · simp only [mn, if_true]
        omega
    unfold fD
    generalize tall w h = t at *
    have g := sg t
    clear sg
    rw [← eG_exits t] at xp xq hp hq
    rw [← eG_exits t, ← eG_exits t] at nd
    rw [exits_iff W0] at xp xq
    have hp1 := (exits_iff W1).1 hp
    have hq1 := (exits_iff W2).1 hq
    have l1_ := @l1_is t (mn t ax ay) (cr t ax ay) (mn t (ax + m * w) (ay + m * h)) (cr t (ax + m * w) (ay + m * h))
    have e1_ := @e1_is t (mn t (ax + m * w) (ay + m * h)) (cr t (ax + m * w) (ay + m * h)) (mn t (ax + (m * w + k * w)) (ay + (m * h + k * h))) (cr t (ax + (m * w + k * w)) (ay + (m * h + k * h)))
    have ne : mn t x y ≠ mn t x' y' := by
      intro e
      have e2 : cr t x y = cr t x' y' := by rw [xp.2, xq.2, e]
      rw [← e, ← e2] at hq
      exact nd ⟨hp, hq⟩
    obtain ⟨⟨p1, p2⟩, _⟩ := hp1
    obtain ⟨⟨q1, q2⟩, _⟩ := hq1
    clear xp xq nd hp hq W0 W1 W2
    simp only [pl, nl, g.1, g.2.1] at p1 p2 q1 q2
    dsimp only
    split
    · rename_i hc
      simp only [if_pos hc] at p1 p2 q1 q2
      omega
    · rename_i hc
      simp only [if_neg hc] at p1 p2 q1 q2
      omega
  · intro z
    rw [List.mem_append, mem_pixs, mem_pixs]
    exact ((EX z.1 z.2).1).symm
end DM
namespace DM
theorem colY_lim {ay W H u G : Int} (hW0 : 0 < W) (hu : u ≤ 0) (hu2 : 0 ≤ W + u) : min ay (ay + H) ≤ 256 * colY W G (W * ay - H * u) + 256 ∧ 256 * colY W G (W * ay - H * u) ≤ max ay (ay + H) := by
  have hc := (@colY_is W G (W * ay - H * u) hW0 (colY W G (W * ay - H * u))).2 rfl
  generalize colY W G (W * ay - H * u) = y at *
  have e1 : W * (ay + H) = W * ay + W * H := Int.mul_add _ _ _
  have c : 256 * (W * y) ≤ W * ay - H * u ∧ W * ay - H * u ≤ 256 * (W * y) + 256 * W := by
    split at hc <;> omega
  have d1 := fun z => @mul_lt_cancel W (256 * y) z hW0
  have d2 := fun z => @mul_lt_cancel W z (256 * y + 256) hW0
  have e2 : W * (256 * y) = 256 * (W * y) := Int.mul_left_comm _ _ _
  have e3 : W * (256 * y + 256) = 256 * (W * y) + 256 * W := by rw [Int.mul_add, e2]; omega
  rw [e2] at d1
  rw [e3] at d2
  clear hc
  rcases (by omega : 0 ≤ H ∨ H ≤ 0) with h | h
  · have f1 := Int.mul_nonneg h (show 0 ≤ -u by omega)
    have f2 := Int.mul_nonneg h hu2
    rw [Int.mul_neg] at f1
    rw [Int.mul_add, Int.mul_comm H W] at f2
    have := (d1 (ay + H)).1 (by omega)
    have := (d2 ay).1 (by omega)
    omega
  · have f1 := Int.mul_nonneg (show 0 ≤ -H by omega) (show 0 ≤ -u by omega)
    have f2 := Int.mul_nonneg (show 0 ≤ -H by omega) hu2
    rw [Int.mul_neg, Int.neg_mul] at f1
    rw [Int.mul_add, Int.neg_mul, Int.neg_mul, Int.mul_comm H W] at f2
    have := (d1 ay).1 (by omega)
    have := (d2 (ay + H)).1 (by omega)
    omega
section
variable {t : Bool} {am ac bm bc u v : Int}
theorem colV_lim (h : way am ac bm bc) (h0 : 0 ≤ pl am bm u) (h1 : pl am bm u < nl am bm) : min ac bc ≤ 256 * colV t am ac bm bc u + 256 ∧ 256 * colV t am ac bm bc u ≤ max ac bc := by
  unfold colV colA
  unfold pl at h0 h1
  unfold nl at h1
  have q := @lt_ahd am u
  have q2 := @ahd_le am u
  have q3 := @lt_ahd bm u
  have q4 := @ahd_le bm u
  have e : rel bm u - rel am u = bm - am := by unfold rel; omega
  rcases h with ⟨g0, g1, g2⟩ | ⟨g0, g1, g2⟩
  · rw [if_pos g0] at h0 h1 ⊢
    rw [if_pos g0] at h1
    have := @colY_lim ac (bm - am) (bc - ac) (rel am u) (if t then 0 else bc - ac) (by omega) (by omega) (by omega)
    rwa [show ac + (bc - ac) = bc by omega] at this
  · rw [if_neg (by omega)] at h0 h1 ⊢
    rw [if_neg (by omega)] at h1
    have := @colY_lim bc (am - bm) (ac - bc) (rel bm u) (if t then 0 else ac - bc) (by omega) (by omega) (by omega)
    rw [show bc + (ac - bc) = ac by omega] at this
    rw [Int.min_comm, Int.max_comm]
    exact this
theorem kG_lim (h : way am ac bm bc) (hm : kG t am ac bm bc u v = true) : (min am bm ≤ 256 * u + 256 ∧ 256 * u ≤ max am bm) ∧ (min ac bc ≤ 256 * v + 256 ∧ 256 * v ≤ max ac bc) := by
  rcases (by omega : pl am bm u < 0 ∨ nl am bm ≤ pl am bm u ∨ (0 ≤ pl am bm u ∧ pl am bm u < nl am bm)) with hp | hp | ⟨hp, hq⟩
  · have l := iG_lim (ahead_a h hm hp)
    unfold rel at l
    omega
  · have l := iG_lim (behind_b h hm hp)
    unfold rel at l
    omega
  · have hv := within_ab (t := t) (v := v) h hp hq
    rw [hm] at hv
    have hv := of_decide_eq_true hv.symm
    have l := colV_lim (t := t) h hp hq
    rw [← hv] at l
    refine ⟨?_, l⟩
    unfold pl at hp hq
    unfold nl at hq
    have q := @lt_ahd am u
    have q2 := @ahd_le am u
    have q3 := @lt_ahd bm u
    have q4 := @ahd_le bm u
    unfold rel at q q2 q3 q4
    split at hp
    · rename_i hc
      rw [if_pos hc, if_pos hc] at hq
      omega
    · rename_i hc
      rw [if_neg hc, if_neg hc] at hq
      omega
end
/-- Where the pixels of a line lie. -/
theorem exits_lim {ax ay bx by_ x y : Int} (h : exits (rel ax x) (rel ay y) (rel bx x) (rel by_ y) = true) : (min ax bx ≤ 256 * x + 256 ∧ 256 * x ≤ max ax bx) ∧ (min ay by_ ≤ 256 * y + 256 ∧ 256 * y ≤ max ay by_) := by
  by_cases e : ax = bx ∧ ay = by_
  · obtain ⟨rfl, rfl⟩ := e
    rw [exits, meets_self] at h
    cases hi : inside (rel ax x) (rel ay y) <;> rw [hi] at h <;> cases h
  · have W := way_of e
    rw [← eG_exits (tall (bx - ax) (by_ - ay))] at h
    have := kG_lim W (eG_iff.1 h).1
    revert this
    cases tall (bx - ax) (by_ - ay)
    · exact fun h => h
    · exact fun h => ⟨h.2, h.1⟩
/-- The row in which the document looks for a column's pixel. -/
theorem colV_at {t : Bool} {am ac bm bc u : Int} (h : way am ac bm bc) (h0 : 0 ≤ pl am bm u) (h1 : pl am bm u < nl am bm) :
    256 * colV t am ac bm bc u ≤ ac + ((256 * u + 128 - am) * (bc - ac)).tdiv (bm - am) ∧ ac + ((256 * u + 128 - am) * (bc - ac)).tdiv (bm - am) ≤ 256 * colV t am ac bm bc u + 256 := by
  have hp : 256 * u + 128 - am = -rel am u := by unfold rel; omega
  rw [hp]
  have e := Int.mul_tdiv_add_tmod (-rel am u * (bc - ac)) (bm - am)
  have hw : bm - am ≠ 0 := by rcases h with h | h <;> omega
  have hr := Int.tmod_lt_of_pos (-rel am u * (bc - ac)) (b := bm - am)
  obtain ⟨W, hW⟩ : ∃ W, bm - am = W := ⟨_, rfl⟩
  obtain ⟨H, hH⟩ : ∃ H, bc - ac = H := ⟨_, rfl⟩
  have eb : rel bm u = rel am u + W := by unfold rel; omega
  unfold colV colA
  unfold pl at h0 h1
  unfold nl at h1
  have q := @lt_ahd am u
  have q2 := @ahd_le am u
  have q3 := @lt_ahd bm u
  have q4 := @ahd_le bm u
  have absr : -(abs W) < (-rel am u * H).tmod W ∧ (-rel am u * H).tmod W < abs W := by
    have g1 := Int.tmod_nonneg (a := -rel am u * H) W
    have g2 := Int.tmod_nonneg (a := -(-rel am u * H)) W
    rw [Int.neg_tmod] at g2
    unfold abs
    rcases (by omega : 0 < W ∨ W < 0) with c | c
    · have g3 := Int.tmod_lt_of_pos (-rel am u * H) c
      have g4 := Int.tmod_lt_of_pos (-(-rel am u * H)) c
      rw [Int.neg_tmod] at g4
      omega
    · have g3 := Int.tmod_lt_of_pos (-rel am u * H) (show 0 < -W by omega)
      have g4 := Int.tmod_lt_of_pos (-(-rel am u * H)) (show 0 < -W by omega)
      rw [Int.tmod_neg] at g3 g4
      rw [Int.neg_tmod] at g4
      omega
  rw [hW, hH] at e ⊢
  generalize (-rel am u * H).tmod W = r at *
  generalize (-rel am u * H).tdiv W = z at *
  have eN : -rel am u * H = -(H * rel am u) := by rw [Int.neg_mul, Int.mul_comm]
  have eW : W * (ac + z) = W * ac + W * z := Int.mul_add _ _ _
  rcases h with ⟨c0, c1, c2⟩ | ⟨c0, c1, c2⟩
  · rw [if_pos c0] at h0 h1 ⊢
    rw [if_pos c0] at h1
    have hW0 : 0 < W := by omega
    obtain ⟨G, hG⟩ : ∃ G, (if t then 0 else H) = G := ⟨_, rfl⟩
    rw [hG]
    have hc := (@colY_is W G (W * ac - H * rel am u) hW0 (colY W G (W * ac - H * rel am u))).2 rfl
    generalize colY W G (W * ac - H * rel am u) = y at *
    have c : 256 * (W * y) ≤ W * ac - H * rel am u ∧ W * ac - H * rel am u ≤ 256 * (W * y) + 256 * W := by
      split at hc <;> omega
    have d1 := @mul_lt_cancel W (256 * y - 1) (ac + z) hW0
    have d2 := @mul_lt_cancel W (ac + z) (256 * y + 257) hW0
    have e2 : W * (256 * y - 1) = 256 * (W * y) - W := by rw [Int.mul_sub, Int.mul_left_comm]; omega
    have e3 : W * (256 * y + 257) = 256 * (W * y) + 257 * W := by rw [Int.mul_add, Int.mul_left_comm]; omega
    have ea : abs W = W := by unfold abs; omega
    have := d1.2 (by omega)
    have := d2.2 (by omega)
    omega
  · rw [if_neg (by omega)] at h0 h1 ⊢
    rw [if_neg (by omega)] at h1
    have hW0 : 0 < am - bm := by omega
    obtain ⟨G, hG⟩ : ∃ G, (if t then 0 else ac - bc) = G := ⟨_, rfl⟩
    rw [hG, show am - bm = -W by omega, show ac - bc = -H by omega]
    have eT : -W * bc - -H * rel bm u = -(W * ac - H * rel am u) := by
      rw [eb, show bc = ac + H by omega, Int.neg_mul, Int.neg_mul, Int.mul_add, Int.mul_add, Int.mul_comm H W]
      omega
    rw [eT]
    have hc := (@colY_is (-W) G (-(W * ac - H * rel am u)) (by omega) (colY (-W) G (-(W * ac - H * rel am u)))).2 rfl
    generalize colY (-W) G (-(W * ac - H * rel am u)) = y at *
    rw [Int.neg_mul] at hc
    have c : -(256 * (W * y)) ≤ -(W * ac - H * rel am u) ∧ -(W * ac - H * rel am u) ≤ -(256 * (W * y)) + 256 * -W := by
      split at hc <;> omega
    have d1 := @mul_lt_cancel (-W) (256 * y - 1) (ac + z) (by omega)
    have d2 := @mul_lt_cancel (-W) (ac + z) (256 * y + 257) (by omega)
    have e2 : -W * (256 * y - 1) = -(256 * (W * y)) + W := by rw [Int.neg_mul, Int.mul_sub, Int.mul_left_comm]; omega
    have e3 : -W * (256 * y + 257) = -(256 * (W * y)) - 257 * W := by rw [Int.neg_mul, Int.mul_add, Int.mul_left_comm]; omega
    have e4 : -W * (ac + z) = -(W * (ac + z)) := Int.neg_mul _ _
    have ea : abs W = -W := by unfold abs; omega
    have := d1.2 (by omega)
    have := d2.2 (by omega)
    omega
/-- A line's pixels with their numbers: the number, X, Y. -/
def steps (ax ay bx by_ : Int) : List (Int × Int × Int) := (pixs ax ay bx by_).zipIdx.map fun z => ((z.2 : Int), z.1.1, z.1.2)
/-- Which one a pixel is. -/
def num (ax ay bx by_ x y : Int) : Int := pl (mn (tall (bx - ax) (by_ - ay)) ax ay) (mn (tall (bx - ax) (by_ - ay)) bx by_) (mn (tall (bx - ax) (by_ - ay)) x y) + e1 (tall (bx - ax) (by_ - ay)) (mn (tall (bx - ax) (by_ - ay)) ax ay) (cr (tall (bx - ax) (by_ - ay)) ax ay) (mn (tall (bx - ax) (by_ - ay)) bx by_) (cr (tall (bx - ax) (by_ - ay)) bx by_)
theorem pixs_at {ax ay bx by_ : Int} (h : ¬ (ax = bx ∧ ay = by_)) {k : Nat} {z : Int × Int} (hk : (pixs ax ay bx by_)[k]? = some z) : num ax ay bx by_ z.1 z.2 = k := by
  unfold pixs at hk
  rw [if_neg h, List.getElem?_map] at hk
  unfold num
  generalize tall (bx - ax) (by_ - ay) = t at *
  obtain ⟨i, hi, rfl⟩ := Option.map_eq_some_iff.1 hk
  have hi2 := (List.getElem?_eq_some_iff.1 hi)
  obtain ⟨h1, h2⟩ := hi2
  rw [List.getElem_range] at h2
  subst h2
  unfold pixG
  simp only
  rw [(mn_cr t _ _).1, pl_unpl]
  omega
theorem steps_len (ax ay bx by_ : Int) : (steps ax ay bx by_).length = (pixs ax ay bx by_).length := by unfold steps; simp
theorem steps_get (ax ay bx by_ : Int) (k : Nat) : (steps ax ay bx by_)[k]? = (pixs ax ay bx by_)[k]?.map fun z => ((k : Int), z.1, z.2) := by
  unfold steps
  rw [List.getElem?_map, List.getElem?_zipIdx]
  cases (pixs ax ay bx by_)[k]? <;> simp
theorem mem_steps {ax ay bx by_ : Int} (s : Int × Int × Int) : s ∈ steps ax ay bx by_ ↔ exits (rel ax s.2.1) (rel ay s.2.2) (rel bx s.2.1) (rel by_ s.2.2) = true ∧ s.1 = num ax ay bx by_ s.2.1 s.2.2 := by
  rw [List.mem_iff_getElem?]
  have hx := @mem_pixs ax ay bx by_ (s.2.1, s.2.2)
  simp only at hx
  rw [← hx, List.mem_iff_getElem?]
  by_cases e : ax = bx ∧ ay = by_
  · have e2 : pixs ax ay bx by_ = [] := if_pos e
    constructor
    · rintro ⟨k, hk⟩
      rw [steps_get, e2] at hk
      simp at hk
    · rintro ⟨⟨k, hk⟩, _⟩
      rw [e2] at hk
      simp at hk
  · constructor
    · rintro ⟨k, hk⟩
      rw [steps_get] at hk
      obtain ⟨z, hz, rfl⟩ := Option.map_eq_some_iff.1 hk
      exact ⟨⟨k, hz⟩, (pixs_at e hz).symm⟩
    · rintro ⟨⟨k, hk⟩, hn⟩
      refine ⟨k, ?_⟩
      rw [steps_get, hk]
      have := pixs_at e hk
      simp only at this
      obtain ⟨s0, s1, s2⟩ := s
      simp only at hn this ⊢
      rw [hn, this]
      rfl
theorem zip_rising {α : Type} : ∀ (l : List α) (n : Nat), (l.zipIdx n).Pairwise (fun x y => x.2 < y.2)
  | [], _ => List.Pairwise.nil
  | a :: l, n => by
    rw [List.zipIdx_cons, List.pairwise_cons]
    refine ⟨fun x hx => ?_, zip_rising l (n + 1)⟩
    have := List.le_snd_of_mem_zipIdx hx
    simp only
    omega
theorem steps_rising (ax ay bx by_ : Int) : (steps ax ay bx by_).Pairwise (fun x y => x.1 < y.1) := by
  unfold steps
  rw [List.pairwise_map]
  exact (zip_rising _ 0).imp fun h => by simp only; omega
/-- Is a step's pixel in a rectangle? -/
def inR4 (r : Nat → Int) (s : Int × Int × Int) : Bool := (decide (r 0 ≤ s.2.1) && decide (s.2.1 < r 2)) && (decide (r 1 ≤ s.2.2) && decide (s.2.2 < r 3))
/-- The steps of a line that are in a rectangle. -/
def wth (ax ay bx by_ : Int) (r : Nat → Int) : List (Int × Int × Int) := (steps ax ay bx by_).filter (inR4 r)
theorem wth_is {ax ay bx by_ : Int} {r : Nat → Int} {l : List (Int × Int × Int)} (h : l.Pairwise (fun x y => x.1 < y.1)) (hm : ∀ s, s ∈ l ↔ (exits (rel ax s.2.1) (rel ay s.2.2) (rel bx s.2.1) (rel by_ s.2.2) = true ∧ s.1 = num ax ay bx by_ s.2.1 s.2.2) ∧ inR4 r s = true) : l = wth ax ay bx by_ r := by
  refine rising_one (fun s => s.1) h ((steps_rising ax ay bx by_).filter _) fun s => ?_
  rw [hm, wth, List.mem_filter, mem_steps]
end DM
namespace DM
section
variable {t : Bool} {am ac bm bc u v : Int}
/-- Which one a pixel is, as the document reckons it. -/
def numD (f g : Int) (ex hit : Bool) (u : Int) : Int := if ex then (if hit then 0 else (if g < f then f - 1 - u else u - f) + 1) else (if g < f then f - 1 - u else u - f)
theorem extra_at (h : way am ac bm bc) (hx : extra t am ac bm bc = true) (ha : aG t am ac u v = true) : pl am bm u = -1 ∧ eG t am ac bm bc u v = true := by
  obtain ⟨u', v', q1, q2, q3⟩ := extra_iff.1 hx
  obtain ⟨rfl, rfl⟩ := aG_one ha q1
  refine ⟨?_, q2⟩
  have l := at_a (bm := bm) ha
  have hN := nl_pos h
  rcases (by omega : pl am bm u = -1 ∨ pl am bm u = 0) with e | e
  · exact e
  · exfalso
    obtain ⟨hm, hb⟩ := eG_iff.1 q2
    rw [behind_b h hm (by omega)] at hb
    cases hb
theorem ahead_extra (h : way am ac bm bc) (he : eG t am ac bm bc u v = true) (hp : pl am bm u < 0) : extra t am ac bm bc = true ∧ aG t am ac u v = true := by
  have ha := ahead_a h (eG_iff.1 he).1 hp
  exact ⟨extra_iff.2 ⟨u, v, ha, he, by omega⟩, ha⟩
theorem numD_is (h : way am ac bm bc) (he : eG t am ac bm bc u v = true) {hit : Bool} (hh : extra t am ac bm bc = true → hit = aG t am ac u v) : numD (ahd am) (ahd bm) (extra t am ac bm bc) hit u = pl am bm u + e1 t am ac bm bc := by
  have hi := (exits_iff h).1 he
  have hN := nl_pos h
  have hd : 0 ≤ pl am bm u → (if ahd bm < ahd am then ahd am - 1 - u else u - ahd am) = pl am bm u := by
    intro hp
    have hq : pl am bm u < nl am bm := by
      have := hi.1.2
      rcases @l1_is t am ac bm bc with ⟨b0, b⟩ | ⟨b0, b⟩ <;> omega
    unfold pl at hp hq ⊢
    unfold nl at hN hq
    rcases h with h | h
    · rw [if_pos h.1] at hp hq ⊢
      rw [if_pos h.1] at hN hq
      rw [if_neg (by omega)]
    · have hc : ¬ am < bm := by omega
      rw [if_neg hc] at hp hq ⊢
      rw [if_neg hc] at hN hq
      rw [if_pos (by omega)]
  unfold numD
  rcases @e1_is t am ac bm bc with ⟨a0, a⟩ | ⟨a0, a⟩
  · have hh := hh a0
    rw [a0, a, if_pos rfl]
    subst hh
    by_cases ha : aG t am ac u v = true
    · rw [if_pos ha, (extra_at h a0 ha).1]
      rfl
    · rw [if_neg ha, hd]
      rcases (by omega : pl am bm u < 0 ∨ 0 ≤ pl am bm u) with hp | hp
      · exact absurd (ahead_extra h he hp).2 ha
      · exact hp
  · rw [a0, a, if_neg (by decide), hd]
    · omega
    · rcases (by omega : pl am bm u < 0 ∨ 0 ≤ pl am bm u) with hp | hp
      · rw [(ahead_extra h he hp).1] at a0
        cases a0
      · exact hp
/-- The pixel of a column whose middle is crossed. -/
theorem col_exits (h : way am ac bm bc) (h0 : 0 ≤ pl am bm u) (h1 : pl am bm u < nl am bm) : eG t am ac bm bc u v = (decide (v = colV t am ac bm bc u) && !(decide (pl am bm u = nl am bm - 1) && lastIn t am ac bm bc)) := by
  rw [Bool.eq_iff_iff, exits_iff h]
  have e1_ := @e1_is t am ac bm bc
  have ey : yy t am ac bm bc u = colV t am ac bm bc u := by unfold yy; rw [if_pos ⟨h0, h1⟩]
  rw [ey]
  rcases @l1_is t am ac bm bc with ⟨b0, b⟩ | ⟨b0, b⟩
  · rw [b0, b]
    simp only [Bool.and_true, Bool.and_eq_true, decide_eq_true_eq, Bool.not_eq_true', decide_eq_false_iff_not]
    omega
  · rw [b0, b]
    simp only [Bool.and_false, Bool.not_false, Bool.and_true, decide_eq_true_eq]
    omega
/-- The rows in which the document looks. -/
theorem tdiv_near {z y : Int} (h1 : 256 * y ≤ z) (h2 : z ≤ 256 * y + 256) : z.tdiv 256 - 3 ≤ y ∧ y ≤ z.tdiv 256 + 3 := by
  have e := Int.mul_tdiv_add_tmod z 256
  have hr : -256 < z.tmod 256 ∧ z.tmod 256 < 256 := by
    rcases (by omega : 0 ≤ z ∨ z < 0) with h | h
    · have g1 := Int.tmod_lt_of_pos z (show (0 : Int) < 256 by decide)
      have g2 := Int.tmod_nonneg (a := z) 256 h
      omega
    · have g1 := Int.tmod_lt_of_pos (-z) (show (0 : Int) < 256 by decide)
      have g2 := Int.tmod_nonneg (a := -z) 256 (by omega)
      rw [Int.neg_tmod] at g1 g2
      omega
  omega
/-- What the document finds of a column: there, across. -/
def colR (t : Bool) (am ac bm bc u : Int) : Bool := !(decide (pl am bm u = nl am bm - 1) && lastIn t am ac bm bc)
end
/-- How many. -/
def cnt14 (ax ay bx by_ : Int) : Int := (pixs ax ay bx by_).length
theorem cnt14_same (ax ay : Int) : cnt14 ax ay ax ay = 0 := by unfold cnt14; rw [pixs_same]; rfl
theorem cnt14_is {ax ay bx by_ : Int} (h : ¬ (ax = bx ∧ ay = by_)) : cnt14 ax ay bx by_ = cntG (tall (bx - ax) (by_ - ay)) (mn (tall (bx - ax) (by_ - ay)) ax ay) (cr (tall (bx - ax) (by_ - ay)) ax ay) (mn (tall (bx - ax) (by_ - ay)) bx by_) (cr (tall (bx - ax) (by_ - ay)) bx by_) := by
  have := cntG_pos (t := tall (bx - ax) (by_ - ay)) (way_of h)
  unfold cnt14 pixs
  rw [if_neg h, List.length_map, List.length_range]
  omega
/-- The k-th one, and whether there is one. -/
def at14 (ax ay bx by_ k : Int) : (Int × Int × Int) × Bool := if k < 0 then ((0, 0, 0), false) else match (pixs ax ay bx by_)[k.toNat]? with
  | some z => ((k, z.1, z.2), true)
  | none => ((0, 0, 0), false)
theorem at14_neg {ax ay bx by_ k : Int} (h : k < 0) : at14 ax ay bx by_ k = ((0, 0, 0), false) := if_pos h
theorem at14_same {ax ay k : Int} : at14 ax ay ax ay k = ((0, 0, 0), false) := by
  unfold at14
  rw [pixs_same]
  split <;> rfl
theorem at14_over {ax ay bx by_ k : Int} (h : cnt14 ax ay bx by_ ≤ k) : at14 ax ay bx by_ k = ((0, 0, 0), false) := by
  unfold at14
  split
  · rfl
  · rw [List.getElem?_eq_none (by unfold cnt14 at h; omega)]
theorem at14_in {ax ay bx by_ k : Int} (h : ¬ (ax = bx ∧ ay = by_)) (h0 : 0 ≤ k) (h1 : k < cnt14 ax ay bx by_) :
    at14 ax ay bx by_ k = ((k, pixG (tall (bx - ax) (by_ - ay)) (mn (tall (bx - ax) (by_ - ay)) ax ay) (cr (tall (bx - ax) (by_ - ay)) ax ay) (mn (tall (bx - ax) (by_ - ay)) bx by_) (cr (tall (bx - ax) (by_ - ay)) bx by_) k.toNat), true) := by
  unfold at14
  have h2 := h1
  unfold cnt14 at h2
  rw [if_neg (by omega)]
  unfold pixs at h2 ⊢
  rw [if_neg h] at h2 ⊢
  rw [List.length_map, List.length_range] at h2
  rw [List.getElem?_map, List.getElem?_range (by omega)]
  rfl
/-- The pixel of a number, by its place along the line. -/
theorem pixG_pl {t : Bool} {am ac bm bc k : Int} (h : way am ac bm bc) (hk : 0 ≤ k) {u : Int} (hu : pl am bm u = k - e1 t am ac bm bc) : pixG t am ac bm bc k.toNat = (mn t u (yy t am ac bm bc u), cr t u (yy t am ac bm bc u)) := by
  unfold pixG
  rw [show ((k.toNat : Int)) = k by omega, ← hu, unpl_pl]
end DM
end Go.Proofs.Ytndaijcgjhmiaaa
