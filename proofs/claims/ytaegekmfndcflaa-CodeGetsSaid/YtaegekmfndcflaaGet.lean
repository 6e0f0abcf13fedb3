/- Contract of the code's Get. -/
import Derived.Test.YtaegekmfndcflaaCut
namespace Go.Proofs.Ytaegekmfndcflaa
open Go.ChangeShapes Go.WideShapes Go.ChangeAt Go.RowKit
set_option linter.unusedVariables false
set_option linter.unusedSimpArgs false

theorem own_below {w w' : World} {base n sz : Nat} {e : TypeId} {v : Value} {xs : List Value} (h : w.ownsRow base e sz v n xs) (hb : Below w.heap.size w w') : w'.ownsRow base e sz v n xs :=
  h.kept (row := none) ⟨hb.os, hb.tape, hb.output, hb.size, fun k hk _ => hb.block k hk⟩ (by rcases v.ownBlock with _ | k <;> simp)
set_option maxRecDepth 100000 in
set_option maxHeartbeats 4000000 in
theorem get_code (A : Option Addr) (a : List Int) (c : Nat) (w : World) (hA : Reads w w.heap.size 1 A a.length (ints a)) (hl : a.length ≤ 5000) :
    Calls Try.prog 19 #[.slice A a.length c] w (RetGet w (P.get a)) := by
  obtain ⟨i0, hi0, hz0, hz1, hz2⟩ := info_parts rec_info
  have T := clone_any A a c w hA hl
  go_enter Try.func19, Try.ntmps19
  go_wp2_with fail
  refine T.mono ?_
  rintro e W1 ⟨Ao, co, rfl, hc1, hc2, hr, hB0⟩
  clear T hA
  go_wp2_with fail
  have b0 : (a.length : Int) ≤ 5000 := by omega
  go_loopw [6, 7] (fun u v wr => ∃ (p : Nat) (out : List P.Rec) (cs : List Value), v = .int .i64 p ∧ p ≤ a.length ∧ out.length ≤ p ∧ Hid (P.Goes a out p) ∧ wr.ownsRow W1.heap.size 30 2 u out.length cs ∧ RecCells wr W1.heap.size none cs out ∧ Below W1.heap.size W1 wr) (fun _ v _ => a.length - (intOf v).toNat)
  case atStart => exact ⟨0, [], [], rfl, by omega, Nat.le_refl _, Lib.hid (P.goes_0 a), ⟨rfl, .inl ⟨rfl, rfl⟩⟩, RecCells.nil, Below.refl _ _⟩
  case round =>
    obtain ⟨p, out, cs, rfl, hp, hop, hG, hown, hcs, hB⟩ := hrel
    have q0 : (0 : Int) ≤ (p : Int) := by omega
    have K := hB0.trans (hB.mono hB0.size)
    by_cases hlt : p < a.length
    · have q1 : (p : Int) < (a.length : Int) := by omega
      obtain ⟨ad, u, rfl, hb1, hx, hc⟩ := (hr.below hB).at_ hlt
      rw [ints_get hlt] at hx
      obtain rfl := Option.some.inj hx
      have hcut := fun w => run_cut_from (k := p) (len := a.length) (cap := co) w ad (by omega) hc1
      have hcp : ¬ co = p := by omega
      simp only [if_neg hcp, Nat.mul_one] at hcut
      have F := first_any a[p] (ad.add p) (a.length - p) (co - p) out.length wr (by omega) (by omega) (by omega) (by rw [block_of_add]; exact Nat.lt_of_lt_of_le hb1 hB.size) hc
      obtain ⟨n, hfn⟩ : ∃ n, (P.first a[p] (a.length - p) out.length).1 = n := ⟨_, rfl⟩
      obtain ⟨e, hfe⟩ : ∃ e, (P.first a[p] (a.length - p) out.length).2 = e := ⟨_, rfl⟩
      have hf : P.first a[p] (a.length - p) out.length = (n, e) := by rw [← hfn, ← hfe]
      rw [hf] at F
      obtain ⟨A3, hown3⟩ : ∃ A3, A3 = u6 := ⟨_, rfl⟩
      obtain ⟨Av, cv, hv, _⟩ := own_form2 hown
      subst hv
      by_cases he : e = 0
      · subst he
        obtain ⟨h4, bb, ht, hbb, hfb⟩ := P.first_ok (x := a[p]) (len := a.length - p) (ahead := out.length) (by rw [hf])
        have hnb : n = bb.length := by rw [hf] at hfb; exact (Prod.mk.inj hfb).1
        have HG := Lib.hid (P.goes_next hG.out hlt hf)
        have hpn : p + 1 + n ≤ a.length := by omega
        have hln : ((a.drop (p + 1)).take n).length = n := by rw [List.length_take, List.length_drop]; omega
        have hc3 := fun w => run_cut_max (k := p + 1) (m := p + 1 + n) (len := a.length) (cap := co) w ad (by omega) (by omega)
        have hrd := cut_reads (k := p + 1) (m := n) (hr.below hB) (by omega) (p + 1 + n = p + 1) (by omega)
        simp only [show ((p + 1 + n : Nat) : Int) = (p : Int) + 1 + (n : Int) by omega, show ((p + 1 : Nat) : Int) = (p : Int) + 1 by omega, show p + 1 + n - (p + 1) = n by omega] at hc3
        generalize (if p + 1 + n = p + 1 then ad else ad.add ((p + 1) * 1)) = As at *
        have HSub : Hid (Sub wr W1.heap.size none (.slice (some As) n n) ((a.drop (p + 1)).take n)) := Lib.hid ⟨some As, n, by rw [hln], by rw [hln]; exact hrd, fun _ _ _ => by simp⟩
        have qn : (n : Int) ≤ 5000 := by omega
        have qn1 : (p : Int) + 1 + (n : Int) ≤ (a.length : Int) := by omega
        generalize a[p] = x at *
        have HF := Lib.hid hcs
        have HL := Lib.hid hln
        clear hf hfn hfe hx hcp hown3 ht hfb hrd hbb hln hcs hG hnb
        go_wp2_with fail
        refine F.mono ?_
        rintro e1 w3 ⟨rfl, hb3⟩
        clear F
        have S3 := hb3.size
        have hB3 := hB.trans (hb3.mono hB.size)
        have lt3 : (ad.add p).block < wr.heap.size := by rw [block_of_add]; exact Nat.lt_of_lt_of_le hb1 hB.size
        have c3 := (hb3.cell lt3).trans hc
        have own3 := own_below hown hb3
        have HR : Hid (RecCells w3 W1.heap.size none cs out) := Lib.hid (HF.out.below (hb3.mono hB.size))
        have HSub : Hid (Sub w3 W1.heap.size none (.slice (some As) n n) ((a.drop (p + 1)).take n)) := Lib.hid (HSub.out.turn (fun p hp _ => (hb3.mono hB.size).cell hp) (Nat.le_refl _) (fun _ _ _ => by simp))
        clear hown hc hb3
        have K1 : Below w3.heap.size w3 (w3.alloc (.cells #[.int .i64 x, .slice (some As) n n] 30)) := (Below.refl _ w3).alloc (Nat.le_refl _) _
        have HS0 : Hid (w3.cell? (ad.add p) = some (.int .i64 x)) := Lib.hid c3
        have HS1 : Hid ((w3.alloc (.cells #[.int .i64 x, .slice (some As) n n] 30)).cell? (ad.add p) = some (.int .i64 x)) := Lib.hid ((K1.cell (p := ad.add p) (by omega)).trans c3)
        have lt := own_lt2 own3
        have own2 : ((w3.alloc (.cells #[.int .i64 x, .slice (some As) n n] 30)).drew).ownsRow W1.heap.size 30 2 (.slice Av out.length cv) out.length cs := (own3.alloc _).drew
        have K2 : Below W1.heap.size W1 ((w3.alloc (.cells #[.int .i64 x, .slice (some As) n n] 30)).drew) := (hB3.alloc hB3.size _).drew
        have K3 : Below w3.heap.size w3 ((w3.alloc (.cells #[.int .i64 x, .slice (some As) n n] 30)).drew) := K1.drew
        have HBK : Hid (∀ w1, ((w3.alloc (.cells #[.int .i64 x, .slice (some As) n n] 30)).drew).grownBy w1 (Value.slice Av out.length cv).ownBlock → Below W1.heap.size w3 w1) := Lib.hid fun w1 hg => (K3.mono hB3.size).grown hg K2.size (fun j hj => (lt j hj).1)
        have HSK : Hid (∀ w1, ((w3.alloc (.cells #[.int .i64 x, .slice (some As) n n] 30)).drew).grownBy w1 (Value.slice Av out.length cv).ownBlock → w1.cell? (ad.add p) = some (.int .i64 x)) := Lib.hid fun w1 hg => ((HBK.out w1 hg).cell (p := ad.add p) (by rw [block_of_add]; exact hb1)).trans c3
        have src : Hid (Reads ((w3.alloc (.cells #[.int .i64 x, .slice (some As) n n] 30)).drew) (w3.heap.size + 1) 2 (some ⟨w3.heap.size, 0, none⟩) 1 [.int .i64 x, .slice (some As) n n]) := Lib.hid ⟨rfl, fun _ => ⟨_, rfl, by simp, fun j z hz => by
          rw [add_zero_block]
          exact (new_cell (W := w3) rfl _ 30 j).trans (by simpa using hz)⟩⟩
        have one : ∀ u ∈ [Value.int .i64 x, Value.slice (some As) n n], u.oneCell' = true := by
          intro u hu
          simp only [List.mem_cons, List.not_mem_nil, or_false] at hu
          rcases hu with rfl | rfl <;> rfl
        have h63 : out.length + 1 ≤ maxLen := by simp only [maxLen]; omega
        have hby : (out.length + 1) * 32 ≤ 140737488355328 := by omega
        have hbs : W1.heap.size ≤ ((w3.alloc (.cells #[.int .i64 x, .slice (some As) n n] 30)).drew).heap.size := K2.size
        have w1e : IntKind.i64.wrap ((p : Int) + 1) = (p : Int) + 1 := IntWalk.i64_in _ (by omega)
        have t0 : ((p : Int)).toNat = p := by omega
        clear K1 c3 K2 K3
        go_upto_region 9 with (fail)
        refine region_L (fun w' => w'.cell? (ad.add p) = some (.int .i64 x)) 14 (by kernel_rfl) ?_
        refine takeL (i := 0) (v := .slice Av out.length cv) rfl (by kernel_rfl) (by kernel_rfl) (by kernel_rfl) (by kernel_rfl) (fun _ _ _ h => h) (by rfl) (fun w' hS => ?_) HS0.out ?_
        · have s0 := hS
          go_simp
        try simp only [Act.put, List.setIfInBounds_toArray, List.set_cons_zero, List.set_cons_succ]
        refine takeL (i := 1) (v := .slice (some ad) a.length co) rfl (by kernel_rfl) (by kernel_rfl) (by kernel_rfl) (by kernel_rfl) (fun _ _ _ h => h) (by rfl) (fun w' hS => ?_) HS0.out ?_
        · have s0 := hS
          go_simp
        try simp only [Act.put, List.setIfInBounds_toArray, List.set_cons_zero, List.set_cons_succ]
        refine takeL (i := 2) (v := .int .i64 p) rfl (by kernel_rfl) (by kernel_rfl) (by kernel_rfl) (by kernel_rfl) (fun _ _ _ h => h) (by rfl) (fun w' hS => ?_) HS0.out ?_
        · have s0 := hS
          go_simp
        try simp only [Act.put, List.setIfInBounds_toArray, List.set_cons_zero, List.set_cons_succ]
        refine takeL (i := 3) (v := .pointer (some (ad.add p))) rfl (by kernel_rfl) (by kernel_rfl) (by kernel_rfl) (by kernel_rfl) (fun _ _ _ h => h) (by rfl) (fun w' hS => ?_) HS0.out ?_
        · have s0 := hS
          go_simp
        try simp only [Act.put, List.setIfInBounds_toArray, List.set_cons_zero, List.set_cons_succ]
        refine takeL (i := 4) (v := .int .i64 x) rfl (by kernel_rfl) (by kernel_rfl) (by kernel_rfl) (by kernel_rfl) (fun _ _ _ h => h) (by rfl) (fun w' hS => ?_) HS0.out ?_
        · have s0 := hS
          go_simp
        try simp only [Act.put, List.setIfInBounds_toArray, List.set_cons_zero, List.set_cons_succ]
        refine takeL (i := 5) (v := .slice (some ad) a.length co) rfl (by kernel_rfl) (by kernel_rfl) (by kernel_rfl) (by kernel_rfl) (fun _ _ _ h => h) (by rfl) (fun w' hS => ?_) HS0.out ?_
        · have s0 := hS
          go_simp
        try simp only [Act.put, List.setIfInBounds_toArray, List.set_cons_zero, List.set_cons_succ]
        refine takeL (i := 6) (v := .int .i64 p) rfl (by kernel_rfl) (by kernel_rfl) (by kernel_rfl) (by kernel_rfl) (fun _ _ _ h => h) (by rfl) (fun w' hS => ?_) HS0.out ?_
        · have s0 := hS
          go_simp
        try simp only [Act.put, List.setIfInBounds_toArray, List.set_cons_zero, List.set_cons_succ]
        refine takeL (i := 7) (v := .int .i64 ((p : Int) + 1)) rfl (by kernel_rfl) (by kernel_rfl) (by kernel_rfl) (by kernel_rfl) (fun _ _ _ h => h) (by rfl) (fun w' hS => ?_) HS0.out ?_
        · have s0 := hS
          go_simp
        try simp only [Act.put, List.setIfInBounds_toArray, List.set_cons_zero, List.set_cons_succ]
        refine takeL (i := 8) (v := .int .i64 ((p : Int) + 1 + (n : Int))) rfl (by kernel_rfl) (by kernel_rfl) (by kernel_rfl) (by kernel_rfl) (fun _ _ _ h => h) (by rfl) (fun w' hS => ?_) HS0.out ?_
        · have s0 := hS
          go_simp
        try simp only [Act.put, List.setIfInBounds_toArray, List.set_cons_zero, List.set_cons_succ]
        refine takeL (i := 9) (v := .int .i64 ((p : Int) + 1 + (n : Int))) rfl (by kernel_rfl) (by kernel_rfl) (by kernel_rfl) (by kernel_rfl) (fun _ _ _ h => h) (by rfl) (fun w' hS => ?_) HS0.out ?_
        · have s0 := hS
          go_simp
        try simp only [Act.put, List.setIfInBounds_toArray, List.set_cons_zero, List.set_cons_succ]
        refine takeL (i := 10) (v := .slice (some As) n n) rfl (by kernel_rfl) (by kernel_rfl) (by kernel_rfl) (by kernel_rfl) (fun _ _ _ h => h) (by rfl) (fun w' hS => ?_) HS0.out ?_
        · have s0 := hS
          go_simp
        try simp only [Act.put, List.setIfInBounds_toArray, List.set_cons_zero, List.set_cons_succ]
        refine takeL (i := 11) (v := .agg #[.int .i64 x, .slice (some As) n n]) rfl (by kernel_rfl) (by kernel_rfl) (by kernel_rfl) (by kernel_rfl) (fun _ _ _ h => h) (by rfl) (fun w' hS => ?_) HS0.out ?_
        · have s0 := hS
          go_simp
        try simp only [Act.put, List.setIfInBounds_toArray, List.set_cons_zero, List.set_cons_succ]
        refine nextL (i := 12) (by kernel_rfl) rfl (fun K hK => ?_)
        go_simp
        refine hK _ _ (fun _ => HS1.out) ?_
        clear hK K
        try simp only [Act.put, List.setIfInBounds_toArray, List.set_cons_zero, List.set_cons_succ]
        refine nextL (i := 13) (by kernel_rfl) rfl (fun K hK => ?_)
        refine step_append_any _ (by rfl) _ _ _ (by rfl) W1.heap.size 30 i0 (.agg #[.int .i64 0, .slice none 0 0]) 2 32 Try.underlying34 hi0 hz0 hz1 hz2 rfl (by omega) (.slice Av out.length cv) out.length cs (by rfl) own2 (w3.heap.size + 1) (some ⟨w3.heap.size, 0, none⟩) 1 1 [.int .i64 x, .slice (some As) n n] (by rfl) src.out one h63 hby hbs ?_
        intro v1 w1 hown1 hg1 hat1
        have HS2 := HSK.out w1 hg1
        refine hK _ _ (fun _ => HS2) ?_
        clear hK K
        try simp only [Act.put, List.setIfInBounds_toArray, List.set_cons_zero, List.set_cons_succ]
        refine nextL (i := 14) (by kernel_rfl) rfl (fun K hK => ?_)
        go_simp
        refine hK _ _ (fun h => absurd rfl h) ?_
        clear hK K
        try simp only [Act.put, List.setIfInBounds_toArray, List.set_cons_zero, List.set_cons_succ]
        refine doneL (by kernel_rfl) ?_
        have hB1 := HBK.out w1 hg1
        have R1 : Hid (RecCells w1 W1.heap.size none (cs ++ [.int .i64 x, .slice (some As) n n]) (out ++ [(x, (a.drop (p + 1)).take n)])) := Lib.hid ((RecCells.below HR.out hB1).snoc ((HSub.out).turn (fun p hp _ => hB1.cell hp) (Nat.le_refl _) (fun _ _ _ => by simp)))
        clear HS2 hg1 hat1
        have G2 : Hid (P.Goes a (out ++ [(x, (a.drop (p + 1)).take n)]) (p + 1 + n)) := HG
        have on : w1.ownsRow W1.heap.size 30 2 v1 (out ++ [(x, (a.drop (p + 1)).take n)]).length (cs ++ [.int .i64 x, .slice (some As) n n]) := by rw [List.length_append]; exact hown1
        have ol : (out ++ [(x, (a.drop (p + 1)).take n)]).length ≤ p + 1 + n := by rw [List.length_append]; simp; omega
        clear hown1 HG
        generalize out ++ [(x, (a.drop (p + 1)).take n)] = out2 at *
        generalize cs ++ [.int .i64 x, .slice (some As) n n] = cs2 at *
        go_wp2_with fail
        exact ⟨⟨p + 1 + n, out2, cs2, vint (by omega), by omega, ol, G2, on, R1.out, hB3.trans hB1⟩, by simp [intOf]; omega⟩
      · have E := Lib.hid (P.goes_bad hG.out hlt hf he)
        have b1 : (e != 0) = true := by simp [he]
        have HF := Lib.hid hf
        have R0 : Hid (RecsAt wr wr.heap.size none []) := Lib.hid ⟨[], Reads.none_, RecCells.nil⟩
        generalize a[p] = x at *
        clear hf hfn hfe hx hcp hown hcs hown3
        go_wp2_with fail
        refine F.mono ?_
        rintro e1 w3 ⟨rfl, hb3⟩
        clear F
        have K3 := K.trans (hb3.mono K.size)
        have R3 : Hid (RecsAt w3 w3.heap.size none []) := Lib.hid ⟨[], Reads.none_, RecCells.nil⟩
        clear hb3
        go_wp2_with fail
        go_ret3
        exact ⟨none, 0, by rw [E.out]; rfl, by rw [E.out]; exact R3.out, K3⟩
    · have q1 : ¬ (p : Int) < (a.length : Int) := by omega
      have E := Lib.hid (P.goes_end hG.out (by omega))
      obtain ⟨A3, c3, rfl, hr3⟩ := own_form2 hown
      have R : Hid (RecsAt wr wr.heap.size A3 out) := Lib.hid ⟨cs, hr3, hcs.more hB.size⟩
      clear hG hr3 hcs hown hr
      go_wp2_with fail
      go_ret3
      exact ⟨A3, c3, by rw [E.out]; rfl, by rw [E.out]; exact R.out, K⟩
end Go.Proofs.Ytaegekmfndcflaa
