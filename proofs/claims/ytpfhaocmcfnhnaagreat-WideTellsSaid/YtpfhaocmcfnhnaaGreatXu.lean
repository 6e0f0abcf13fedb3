/- Plain: how the program goes through a line: its columns, where it begins, how many there are. -/
import Derived.Test.YtpfhaocmcfnhnaaGreatPl
namespace Go.Proofs.YtpfhaocmcfnhnaaGreat
set_option linter.unusedVariables false
set_option linter.unusedSimpArgs false
namespace DM
/-- The pixel, by one way, in which a point is that is moved a little. -/
def hold (c : Int) : Int := (c - 1) / 256
theorem ediv_less {T d : Int} (hd : 0 < d) : (T - 1) / d = -(-T / d) - 1 := by
 have h1 := Int.mul_ediv_self_le (x := -T) (k := d) (by omega)
 have h2 := Int.lt_mul_ediv_self_add (x := -T) (k := d) hd
 have h3 : -T / d = -((T - 1) / d) - 1 := by
  have g1 := Int.mul_ediv_self_le (x := T - 1) (k := d) (by omega)
  have g2 := Int.lt_mul_ediv_self_add (x := T - 1) (k := d) hd
  generalize -T / d = q at *
  generalize (T - 1) / d = p at *
  have k1 : d * (q + p) < 0 := by rw [Int.mul_add]; omega
  have k2 : -(2 * d) < d * (q + p) := by rw [Int.mul_add]; omega
  have k3 : q + p < 0 := by
   rcases Int.lt_or_le (q + p) 0 with h | h
   · exact h
   ·
    have := Int.mul_nonneg (show 0 ≤ d by omega) h
    omega
  have k4 : -2 < q + p := by
   rcases Int.lt_or_le (-2) (q + p) with h | h
   · exact h
   ·
    have := Int.mul_le_mul_of_nonneg_left h (show 0 ≤ d by omega)
    omega
  omega
 omega
/-- Across the longer way, the pixel in which the line without ends is at the middle of the pixel u. -/
def bes (t : Bool) (W H ac am u : Int) : Int := if t = false ∧ 0 < H then (ac * W + H * (256 * u + 128 - am)) / (256 * W) else (ac * W + H * (256 * u + 128 - am) - 1) / (256 * W)
theorem bes_colY (t : Bool) {W H ac am u : Int} (hW : 0 < W) : bes t W H ac am u = colY W (if t then 0 else H) (W * ac - H * rel am u) := by
 have hT : W * ac - H * rel am u = ac * W + H * (256 * u + 128 - am) := by
  unfold rel
  simp only [Int.mul_sub, Int.sub_mul, Int.mul_add, Int.add_mul, Int.mul_comm, Int.mul_left_comm]
  omega
 rw [hT]
 unfold bes colY
 rw [ediv_less (by omega)]
 cases t <;> simp
theorem turn_T (am ac bm bc u : Int) : (am - bm) * bc - (ac - bc) * rel bm u = (am - bm) * ac - (ac - bc) * rel am u := by
 unfold rel
 simp only [Int.mul_sub, Int.sub_mul, Int.mul_comm, Int.mul_left_comm]
 omega
section
variable {t : Bool} {am ac bm bc u v : Int}
theorem bes_up (h : am < bm) : bes t (bm - am) (bc - ac) ac am u = colV t am ac bm bc u := by
 rw [bes_colY t (by omega)]
 unfold colV colA
 rw [if_pos h]
theorem bes_down (h : bm < am) : bes t (am - bm) (ac - bc) ac am u = colV t am ac bm bc u := by
 rw [bes_colY t (by omega)]
 unfold colV colA
 rw [if_neg (show ¬ am < bm by omega), turn_T]
theorem colY_mono {W G T T' : Int} (hW : 0 < W) (h : T ≤ T') : colY W G T ≤ colY W G T' := by
 unfold colY
 have h1 := Int.ediv_le_ediv (c := 256 * W) (by omega) h
 have h2 := Int.ediv_le_ediv (c := 256 * W) (by omega) (show -T' ≤ -T by omega)
 split <;> omega
theorem colV_mono (hw : way am ac bm bc) {u' : Int} (h : pl am bm u ≤ pl am bm u') : (0 ≤ bc - ac → colV t am ac bm bc u ≤ colV t am ac bm bc u') ∧ (bc - ac ≤ 0 → colV t am ac bm bc u' ≤ colV t am ac bm bc u) := by
 have key : ∀ {W H : Int} (c e x y : Int), 0 ≤ H → x ≤ y → W * c - H * rel e x ≤ W * c - H * rel e y := fun c e x y hH hxy => by
  have := Int.mul_le_mul_of_nonneg_left (show rel e y ≤ rel e x by unfold rel; omega) hH
  omega
 have key2 : ∀ {W H : Int} (c e x y : Int), H ≤ 0 → x ≤ y → W * c - H * rel e y ≤ W * c - H * rel e x := fun c e x y hH hxy => by
  have := Int.mul_le_mul_of_nonpos_left hH (show rel e y ≤ rel e x by unfold rel; omega)
  omega
 unfold pl at h
 unfold colV colA
 rcases hw with ⟨h1, _, _⟩ | ⟨h1, _, _⟩
 ·
  rw [if_pos h1, if_pos h1] at *
  exact ⟨fun g => colY_mono (by omega) (key _ _ _ _ g (by omega)), fun g => colY_mono (by omega) (key2 _ _ _ _ g (by omega))⟩
 ·
  rw [if_neg (show ¬ am < bm by omega), if_neg (show ¬ am < bm by omega)] at *
  exact ⟨fun g => colY_mono (by omega) (key2 _ _ _ _ (by omega) (by omega)), fun g => colY_mono (by omega) (key _ _ _ _ (by omega) (by omega))⟩
/-- Where an end is in a diamond, the line without ends is there at the middle of its column. -/
theorem col_of {W H p q : Int} (hW : 0 < W) (h1 : -W ≤ H) (h2 : H ≤ W) (hi : iG t p q = true) (ac v : Int) (hq : q = rel ac v) : v = colY W (if t then 0 else H) (W * ac - H * p) := by
 rw [← colY_is hW]
 have e : W * ac - H * p = 256 * (W * v) + (W * q - H * p) + 128 * W := by
  subst hq
  unfold rel
  rw [Int.mul_sub, Int.mul_sub, Int.mul_left_comm W 256 v]
  omega
 have e2 : 2 * (W * q - H * p) = (W - H) * (p + q) + (W + H) * (q - p) := by
  simp only [Int.mul_sub, Int.sub_mul, Int.mul_add, Int.add_mul]
  omega
 have m := fun (A s : Int) (hA : 0 ≤ A) (l r : Int) (hl : l ≤ s) (hr : s ≤ r) => And.intro (Int.mul_le_mul_of_nonneg_left hl hA) (Int.mul_le_mul_of_nonneg_left hr hA)
 cases t
 ·
  simp only [Bool.false_eq_true, if_false]
  have hi' : inside p q = true := hi
  rw [inside_iff] at hi'
  have a := m (W - H) (p + q) (by omega) (-127) 128 (by omega) (by omega)
  have b := m (W + H) (q - p) (by omega) (-128) 127 (by omega) (by omega)
  split <;> omega
 ·
  simp only [if_true]
  have hi' : inside q p = true := hi
  rw [inside_iff] at hi'
  have a := m (W - H) (p + q) (by omega) (-127) 128 (by omega) (by omega)
  have b := m (W + H) (q - p) (by omega) (-127) 128 (by omega) (by omega)
  rw [if_neg (by omega)]
  omega
theorem col_in (hw : way am ac bm bc) (h : aG t am ac u v = true) : colV t am ac bm bc u = v := by
 have h' : iG t (rel am u) (rel ac v) = true := h
 unfold colV colA
 rcases hw with ⟨h1, h2, h3⟩ | ⟨h1, h2, h3⟩
 · rw [if_pos h1, ← col_of (by omega) (by omega) (by omega) h' ac v rfl]
 · rw [if_neg (show ¬ am < bm by omega), turn_T, ← col_of (by omega) (by omega) (by omega) h' ac v rfl]
theorem yy_col (hw : way am ac bm bc) (h0 : -e1 t am ac bm bc ≤ pl am bm u) (h1 : pl am bm u < nl am bm - l1 t am ac bm bc) : yy t am ac bm bc u = colV t am ac bm bc u := by
 unfold yy
 by_cases h : 0 ≤ pl am bm u ∧ pl am bm u < nl am bm
 · rw [if_pos h]
 ·
  rw [if_neg h]
  have hl : 0 ≤ l1 t am ac bm bc := by rcases @l1_is t am ac bm bc with ⟨_, e⟩ | ⟨_, e⟩ <;> omega
  rcases @e1_is t am ac bm bc with ⟨hx, e⟩ | ⟨_, e⟩
  ·
   obtain ⟨u', v', q1, q2, q3⟩ := extra_iff.1 hx
   obtain ⟨p1, _⟩ := extra_at hw hx q1
   have eu : u' = u := pl_inj (am := am) (bm := bm) (by omega)
   subst eu
   rw [pG_iff.1 q1]
   exact (col_in hw q1).symm
  · omega
/-- Does a line exit from the diamond of its pixel in a column? -/
def xG (t : Bool) (am ac bm bc u : Int) : Bool := eG t am ac bm bc u (colV t am ac bm bc u)
theorem xG_iff (hw : way am ac bm bc) : xG t am ac bm bc u = true ↔ -e1 t am ac bm bc ≤ pl am bm u ∧ pl am bm u < nl am bm - l1 t am ac bm bc := by
 unfold xG
 rw [exits_iff hw]
 exact ⟨fun h => h.1, fun h => ⟨h, (yy_col hw h.1 h.2).symm⟩⟩
theorem hold_a : -1 ≤ pl am bm (hold am) ∧ pl am bm (hold am) ≤ 0 := by unfold pl hold ahd; split <;> omega
theorem hold_b (hw : way am ac bm bc) : nl am bm - 1 ≤ pl am bm (hold bm) ∧ pl am bm (hold bm) ≤ nl am bm := by
 unfold pl hold nl ahd
 rcases hw with ⟨h1, _, _⟩ | ⟨h1, _, _⟩
 · rw [if_pos h1, if_pos h1]; omega
 · rw [if_neg (show ¬ am < bm by omega), if_neg (show ¬ am < bm by omega)]; omega
theorem hold_in (h : aG t am ac u v = true) : u = hold am := by
 have h' : iG t (rel am u) (rel ac v) = true := h
 have := (iG_lim h').1
 unfold rel at this
 unfold hold
 omega
theorem l1_end (hw : way am ac bm bc) (h : l1 t am ac bm bc = 1) : 0 < nl am bm ∧ pl am bm (hold bm) = nl am bm - 1 := by
 rcases @l1_is t am ac bm bc with ⟨hx, e⟩ | ⟨_, e⟩
 ·
  obtain ⟨h1, h2⟩ := lastIn_iff.1 hx
  have := hold_in h2
  rw [← this, pl_unpl]
  exact ⟨h1, rfl⟩
 · omega
theorem e1_begin (hw : way am ac bm bc) (h : e1 t am ac bm bc = 1) : pl am bm (hold am) = -1 := by
 rcases @e1_is t am ac bm bc with ⟨hx, e⟩ | ⟨_, e⟩
 ·
  obtain ⟨u', v', q1, q2, q3⟩ := extra_iff.1 hx
  obtain ⟨p1, _⟩ := extra_at hw hx q1
  rw [← hold_in q1]
  exact p1
 · omega
/-- Where it begins, what it is further to the next one, how many. -/
def stp (am bm : Int) : Int := if hold bm < hold am then -1 else 1
def fst1 (t : Bool) (am ac bm bc : Int) : Int := if xG t am ac bm bc (hold am) then hold am else hold am + stp am bm
def cn0 (am bm : Int) : Int := (hold bm - hold am) * stp am bm + 1
def cn1 (t : Bool) (am ac bm bc : Int) : Int := if xG t am ac bm bc (hold am) then cn0 am bm else cn0 am bm - 1
def cn2 (t : Bool) (am ac bm bc : Int) : Int := if 0 < cn1 t am ac bm bc ∧ xG t am ac bm bc (fst1 t am ac bm bc + (cn1 t am ac bm bc - 1) * stp am bm) = false then cn1 t am ac bm bc - 1 else cn1 t am ac bm bc
theorem cn0_is (hw : way am ac bm bc) : cn0 am bm = pl am bm (hold bm) - pl am bm (hold am) + 1 ∧ pl am bm (hold am) ≤ pl am bm (hold bm) := by
 unfold cn0 stp pl hold
 rcases hw with ⟨h1, _, _⟩ | ⟨h1, _, _⟩
 · rw [if_pos h1, if_pos h1]; split <;> omega
 · rw [if_neg (show ¬ am < bm by omega), if_neg (show ¬ am < bm by omega)]; split <;> omega
theorem cn0_lim : 1 ≤ cn0 am bm ∧ (cn0 am bm = hold bm - hold am + 1 ∧ stp am bm = 1 ∨ cn0 am bm = hold am - hold bm + 1 ∧ stp am bm = -1) := by
 unfold cn0 stp
 split <;> omega
/-- Further along by numbers is further along by pixels. -/
theorem pl_step (hw : way am ac bm bc) (h : hold am ≠ hold bm) (u k : Int) : pl am bm (u + k * stp am bm) = pl am bm u + k := by
 unfold pl stp hold at *
 rcases hw with ⟨h1, _, _⟩ | ⟨h1, _, _⟩
 · rw [if_pos h1, if_pos h1, if_neg (by omega)]; omega
 · rw [if_neg (show ¬ am < bm by omega), if_neg (show ¬ am < bm by omega), if_pos (by omega)]; omega
theorem cn2_is (hw : way am ac bm bc) : cn2 t am ac bm bc = cntG t am ac bm bc ∧ ∀ k, 0 ≤ k → k < cntG t am ac bm bc → pl am bm (fst1 t am ac bm bc + k * stp am bm) = k - e1 t am ac bm bc := by
 obtain ⟨c1, c2⟩ := cn0_is hw
 obtain ⟨a1, a2⟩ := @hold_a am bm
 obtain ⟨b1, b2⟩ := hold_b hw
 have hn := nl_pos hw
 have hl := @l1_end t _ _ _ _ hw
 have he := @e1_begin t _ _ _ _ hw
 have hl1 : l1 t am ac bm bc = 0 ∨ l1 t am ac bm bc = 1 := by rcases @l1_is t am ac bm bc with ⟨_, e⟩ | ⟨_, e⟩ <;> omega
 have he1 : e1 t am ac bm bc = 0 ∨ e1 t am ac bm bc = 1 := by rcases @e1_is t am ac bm bc with ⟨_, e⟩ | ⟨_, e⟩ <;> omega
 have x0 := @xG_iff t am ac bm bc (hold am) hw
 by_cases hs : hold am = hold bm
 ·
  have hp : pl am bm (hold am) = pl am bm (hold bm) := by rw [hs]
  have hc0 : cn0 am bm = 1 := by omega
  have hst : stp am bm = 1 := by unfold stp; rw [if_neg (by omega)]
  unfold cn2 cn1 fst1 cntG
  rw [hc0, hst]
  cases hx : xG t am ac bm bc (hold am)
  ·
   rw [← Bool.not_eq_true, x0] at hx
   simp only [Bool.false_eq_true, if_false]
   rw [if_neg (by omega)]
   exact ⟨by omega, fun k h0 h1 => by omega⟩
  ·
   have hx2 := x0.1 hx
   simp only [if_true]
   rw [if_neg (by rw [show (1 - 1) * 1 = (0 : Int) by omega, Int.add_zero, hx]; simp)]
   refine ⟨by omega, fun k h0 h1 => ?_⟩
   rw [show k * 1 = (0 : Int) by omega, Int.add_zero]
   omega
 ·
  have hp := fun u k => pl_step hw hs u k
  have hne : pl am bm (hold am) ≠ pl am bm (hold bm) := fun e => hs (pl_inj e)
  unfold cn2 cn1 fst1 cntG
  cases hx : xG t am ac bm bc (hold am)
  ·
   rw [← Bool.not_eq_true, x0] at hx
   simp only [Bool.false_eq_true, if_false]
   have x1 := @xG_iff t am ac bm bc (hold am + stp am bm + (cn0 am bm - 1 - 1) * stp am bm) hw
   have q1 := hp (hold am) 1
   rw [Int.one_mul] at q1
   rw [hp, q1] at x1
   cases hy : xG t am ac bm bc (hold am + stp am bm + (cn0 am bm - 1 - 1) * stp am bm)
   ·
    rw [← Bool.not_eq_true, x1] at hy
    rw [if_pos ⟨by omega, rfl⟩]
    refine ⟨by omega, fun k h0 h1 => ?_⟩
    rw [hp, q1]; omega
   ·
    have hy2 := x1.1 hy
    rw [if_neg (by simp)]
    refine ⟨by omega, fun k h0 h1 => ?_⟩
    rw [hp, q1]; omega
  ·
   have hx2 := x0.1 hx
   simp only [if_true]
   have x1 := @xG_iff t am ac bm bc (hold am + (cn0 am bm - 1) * stp am bm) hw
   rw [hp] at x1
   cases hy : xG t am ac bm bc (hold am + (cn0 am bm - 1) * stp am bm)
   ·
    rw [← Bool.not_eq_true, x1] at hy
    rw [if_pos ⟨by omega, rfl⟩]
    refine ⟨by omega, fun k h0 h1 => ?_⟩
    rw [hp]; omega
   ·
    have hy2 := x1.1 hy
    rw [if_neg (by simp)]
    refine ⟨by omega, fun k h0 h1 => ?_⟩
    rw [hp]; omega
end
end DM
end Go.Proofs.YtpfhaocmcfnhnaaGreat
