/- Contract of the document's Get. -/
import Derived.Test.YtaegekmfndcflaaGet
namespace Go.Proofs.Ytaegekmfndcflaa
open Go.ChangeShapes Go.WideShapes Go.ChangeAt Go.RowKit
set_option linter.unusedVariables false
set_option linter.unusedSimpArgs false

theorem RecCells.up {w : World} {B B' : Nat} {g : Option Nat} {cs : List Value} {out : List P.Rec} (h : RecCells w B g cs out) (hB : B ≤ B') : RecCells w B' g cs out := h.turn (fun _ _ _ => rfl) hB (fun _ _ h => h)
theorem RecCells.carry {w w' : World} {B : Nat} {g : Option Nat} {cs : List Value} {out : List P.Rec} (h : RecCells w B g cs out) (hb : Below B w w') : RecCells w' B g cs out := h.turn (fun p hp _ => hb.cell hp) (Nat.le_refl _) (fun _ _ h => h)
/-- What the document's append of a command leaves. -/
theorem doc_append {w wr w3 w1 w2 : World} {v v2 : Value} {cs : List Value} {out : List P.Rec} {A1 : Option Addr} {n c1 : Nat} {x : Int} {l : List Int} {q : Addr} (hw : w.heap.size ≤ wr.heap.size) (hB : Below w.heap.size w wr) (hb3 : Below wr.heap.size wr w3) (lt : ∀ j, v.ownBlock = some j → w.heap.size ≤ j ∧ j < wr.heap.size)
    (hcs : RecCells wr wr.heap.size v.ownBlock cs out) (B1 : Below w3.heap.size w3 w1) (hs : Sub (w1.alloc (.cells #[.int .i64 x, .slice A1 n c1] 30)) (w1.alloc (.cells #[.int .i64 x, .slice A1 n c1] 30)).heap.size v.ownBlock (.slice A1 n c1) l)
    (hg : (w1.alloc (.cells #[.int .i64 x, .slice A1 n c1] 30)).grownBy w2 v.ownBlock) (hat : v2.ownBlock = v.ownBlock ∨ v2.ownBlock = some (w1.alloc (.cells #[.int .i64 x, .slice A1 n c1] 30)).heap.size) (hq : q.block < w.heap.size) (hc : w3.cell? q = some (.int .i64 x)) :
    RecCells w2 w2.heap.size v2.ownBlock (cs ++ [.int .i64 x, .slice A1 n c1]) (out ++ [(x, l)]) ∧ Below w.heap.size w w2 ∧ w2.cell? q = some (.int .i64 x) := by
  have B2 : Below w3.heap.size w3 (w1.alloc (.cells #[.int .i64 x, .slice A1 n c1] 30)) := B1.alloc B1.size _
  have B3 : Below wr.heap.size wr (w1.alloc (.cells #[.int .i64 x, .slice A1 n c1] 30)) := hb3.trans (B2.mono hb3.size)
  have R := ((hcs.carry B3).up B3.size).snoc (op := x) hs
  have K : Below w.heap.size w w2 := (hB.trans (B3.mono hw)).grown hg (Nat.le_trans hw B3.size) (fun j hj => (lt j hj).1)
  refine ⟨(R.grown hg (Nat.le_refl _) hat).up hg.size, K, ?_⟩
  have h3 : Below w.heap.size w w3 := hB.trans (hb3.mono hw)
  rw [K.cell hq, ← h3.cell hq]
  exact hc
set_option maxRecDepth 100000 in
set_option maxHeartbeats 4000000 in
theorem get_doc (A : Option Addr) (a : List Int) (c : Nat) (w : World) (hA : Reads w w.heap.size 1 A a.length (ints a)) (hl : a.length ≤ 5000) (hc1 : a.length ≤ c) :
    Calls Try.prog 20 #[.slice A a.length c] w (RetGet w (P.get a)) := by
  obtain ⟨i0, hi0, hz0, hz1, hz2⟩ := info_parts rec_info
  obtain ⟨j0, hj0, hy0, hy1, hy2⟩ := info_parts int_info
  have b0 : (a.length : Int) ≤ 5000 := by omega
  go_enter Try.func20, Try.ntmps20
  go_wp2_with fail
  go_loopw [5, 6] (fun u v wr => ∃ (p : Nat) (out : List P.Rec) (cs : List Value), v = .int .i64 p ∧ p ≤ a.length ∧ out.length ≤ 4096 ∧ Hid (P.Goes a out p) ∧ wr.ownsRow w.heap.size 30 2 u out.length cs ∧ RecCells wr wr.heap.size u.ownBlock cs out ∧ Below w.heap.size w wr) (fun _ v _ => a.length - (intOf v).toNat)
  case atStart => exact ⟨0, [], [], rfl, by omega, by simp, Lib.hid (P.goes_0 a), ⟨rfl, .inl ⟨rfl, rfl⟩⟩, RecCells.nil, Below.refl _ _⟩
  case round =>
    obtain ⟨p, out, cs, rfl, hp, hop, hG, hown, hcs, hB⟩ := hrel
    have q0 : (0 : Int) ≤ (p : Int) := by omega
    obtain ⟨Av, cv, hv, hro⟩ := own_form2 hown
    subst hv
    by_cases hlt : p < a.length
    · have q1 : (p : Int) < (a.length : Int) := by omega
      obtain ⟨ad, u, rfl, hb1, hx, hc⟩ := (hA.below hB).at_ hlt
      rw [ints_get hlt] at hx
      obtain rfl := Option.some.inj hx
      clear hx
      by_cases h4 : 4096 ≤ out.length
      · have E := Lib.hid (P.goes_bad hG.out hlt (P.first_long _ _ _ h4) (by decide))
        have b1 : ((out.length : Int) == 4096) = true := by simp; omega
        have R0 : Hid (RecsAt wr wr.heap.size none []) := Lib.hid ⟨[], Reads.none_, RecCells.nil⟩
        clear hcs hown hro hc
        go_wp2_with fail
        go_ret3
        exact ⟨none, 0, by rw [E.out]; rfl, by rw [E.out]; exact R0.out, hB⟩
      have h4' : out.length < 4096 := by omega
      have b1 : ((out.length : Int) == 4096) = false := by simp; omega
      have T := arity_doc a[p] wr
      rcases ht : P.tab a[p] with _ | bb
      · have E := Lib.hid (P.goes_bad hG.out hlt (P.first_none _ h4' ht) (by decide))
        rw [ht] at T
        simp only [Option.getD_none, Option.isSome_none, List.length_nil] at T
        generalize a[p] = x at *
        clear hcs hown hro ht
        go_wp2_with fail
        refine T.mono ?_
        rintro e1 w3 ⟨rfl, hb3⟩
        have K3 := hB.trans (hb3.mono hB.size)
        have R0 : Hid (RecsAt w3 w3.heap.size none []) := Lib.hid ⟨[], Reads.none_, RecCells.nil⟩
        clear T hb3
        go_wp2_with fail
        go_ret3
        exact ⟨none, 0, by rw [E.out]; rfl, by rw [E.out]; exact R0.out, K3⟩
      have hbl := P.tab_len ht
      rw [ht] at T
      simp only [Option.getD_some, Option.isSome_some] at T
      obtain ⟨n, hn⟩ : ∃ n, bb.length = n := ⟨_, rfl⟩
      rw [hn] at T hbl
      have qn : (n : Int) ≤ 16 := by omega
      have qn0 : (0 : Int) ≤ (n : Int) := by omega
      by_cases h5 : a.length - p ≤ bb.length
      · have E := Lib.hid (P.goes_bad hG.out hlt (P.first_arg h4' ht h5) (by decide))
        have q5 : (a.length : Int) - (p : Int) - 1 < (n : Int) := by omega
        generalize a[p] = x at *
        clear hcs hown hro ht hn h5
        go_wp2_with fail
        refine T.mono ?_
        rintro e1 w3 ⟨rfl, hb3⟩
        have K3 := hB.trans (hb3.mono hB.size)
        have R0 : Hid (RecsAt w3 w3.heap.size none []) := Lib.hid ⟨[], Reads.none_, RecCells.nil⟩
        clear T hb3
        go_wp2_with fail
        go_ret3
        exact ⟨none, 0, by rw [E.out]; rfl, by rw [E.out]; exact R0.out, K3⟩
      · have hf := P.first_some (x := a[p]) (len := a.length - p) h4' ht (by omega)
        rw [hn] at hf
        have HG := Lib.hid (P.goes_next hG.out hlt hf)
        have hpn : p + 1 + n ≤ a.length := by omega
        have q5 : ¬ (a.length : Int) - (p : Int) - 1 < (n : Int) := by omega
        have hln : ((a.drop (p + 1)).take n).length = n := by rw [List.length_take, List.length_drop]; omega
        have hc3 := fun w => run_cut_to (k := p + 1) (m := p + 1 + n) (len := a.length) (cap := c) w ad (by omega) (by omega)
        have hrd := fun (w' : World) (hb : Below w.heap.size w w') => cut_reads (k := p + 1) (m := n) (hA.below hb) (by omega) (c = p + 1) (by omega)
        simp only [show ((p + 1 + n : Nat) : Int) = (p : Int) + 1 + (n : Int) by omega, show ((p + 1 : Nat) : Int) = (p : Int) + 1 by omega, show p + 1 + n - (p + 1) = n by omega] at hc3
        generalize (if c = p + 1 then ad else ad.add ((p + 1) * 1)) = As at *
        have HRD := Lib.hid hrd
        have HLN := Lib.hid hln
        have HCS := Lib.hid hcs
        have lt := own_lt2 hown
        have qn1 : (p : Int) + 1 + (n : Int) ≤ (a.length : Int) := by omega
        generalize a[p] = x at *
        clear hrd hln hcs ht hn hf hro h5 hG
        go_wp2_with fail
        refine T.mono ?_
        rintro e1 w3 ⟨rfl, hb3⟩
        clear T
        have hB3 := hB.trans (hb3.mono hB.size)
        have lt3 : (ad.add p).block < w3.heap.size := by rw [block_of_add]; exact Nat.lt_of_lt_of_le hb1 hB3.size
        have c3 := (hb3.cell (p := ad.add p) (by rw [block_of_add]; exact Nat.lt_of_lt_of_le hb1 hB.size)).trans hc
        have own3 := own_below hown hb3
        have HS0 : Hid (w3.cell? (ad.add p) = some (.int .i64 x)) := Lib.hid c3
        have HC3 := HS0
        have K1 : Below w3.heap.size w3 (w3.alloc (.cells #[] 3)) := (Below.refl _ w3).alloc (Nat.le_refl _) _
        have HS1 : Hid ((w3.alloc (.cells #[] 3)).cell? (ad.add p) = some (.int .i64 x)) := Lib.hid ((K1.cell (p := ad.add p) lt3).trans c3)
        have own0 : ((w3.alloc (.cells #[] 3)).drew).ownsRow w3.heap.size 3 1 (.slice (some ⟨w3.heap.size, 0, none⟩) 0 0) 0 [] := ⟨rfl, .inr ⟨w3.heap.size, 0, #[], rfl, Nat.le_refl _, alloc_at rfl _, Nat.le_refl _, by simp [maxLen], by simp, by simp⟩⟩
        have KD : Below w3.heap.size w3 ((w3.alloc (.cells #[] 3)).drew) := K1.drew
        have HRd : Hid (Reads ((w3.alloc (.cells #[] 3)).drew) w.heap.size 1 (some As) n (ints ((a.drop (p + 1)).take n))) := Lib.hid (HRD.out _ (hB3.trans (KD.mono hB3.size)))
        have HB1 : Hid (∀ w1, ((w3.alloc (.cells #[] 3)).drew).grownBy w1 (Value.slice (some ⟨w3.heap.size, 0, none⟩) 0 0).ownBlock → Below w3.heap.size w3 w1) := Lib.hid fun w1 hg => KD.grown hg KD.size (fun j hj => by simp [Value.ownBlock] at hj; omega)
        have HSB : Hid (∀ (w1 : World) (A1 : Option Addr) (c1 : Nat), Below w3.heap.size w3 w1 → Reads w1 w1.heap.size 1 A1 n (ints ((a.drop (p + 1)).take n)) → (∀ j, (Value.slice A1 n c1).ownBlock = some j → w3.heap.size ≤ j) →
            Sub (w1.alloc (.cells #[.int .i64 x, .slice A1 n c1] 30)) (w1.alloc (.cells #[.int .i64 x, .slice A1 n c1] 30)).heap.size (Value.slice Av out.length cv).ownBlock (.slice A1 n c1) ((a.drop (p + 1)).take n)) := Lib.hid fun w1 A1 c1 B1 hr hj =>
          ⟨A1, c1, by rw [HLN.out], by rw [HLN.out]; exact (hr.below ((Below.refl _ w1).alloc (Nat.le_refl _) _)).more (by simp), fun ad1 e _ he => by
            subst e
            have h1 := hj ad1.block (by simp [Value.ownBlock])
            have h2 := (lt _ he.symm).2
            have h3 := hb3.size
            omega⟩
        have HFIN : Hid (∀ (w1 : World) (A1 : Option Addr) (c1 : Nat) (w2 : World) (v2 : Value), Below w3.heap.size w3 w1 → Sub (w1.alloc (.cells #[.int .i64 x, .slice A1 n c1] 30)) (w1.alloc (.cells #[.int .i64 x, .slice A1 n c1] 30)).heap.size (Value.slice Av out.length cv).ownBlock (.slice A1 n c1) ((a.drop (p + 1)).take n) → (w1.alloc (.cells #[.int .i64 x, .slice A1 n c1] 30)).grownBy w2 (Value.slice Av out.length cv).ownBlock →
            (v2.ownBlock = (Value.slice Av out.length cv).ownBlock ∨ v2.ownBlock = some (w1.alloc (.cells #[.int .i64 x, .slice A1 n c1] 30)).heap.size) → RecCells w2 w2.heap.size v2.ownBlock (cs ++ [.int .i64 x, .slice A1 n c1]) (out ++ [(x, (a.drop (p + 1)).take n)]) ∧ Below w.heap.size w w2 ∧ w2.cell? (ad.add p) = some (.int .i64 x)) := Lib.hid fun w1 A1 c1 w2 v2 B1 hs hg hat =>
          doc_append hB.size hB hb3 lt HCS.out B1 hs hg hat (by rw [block_of_add]; exact hb1) HS0.out
        have Z3 := Lib.hid hB3.size
        have k63 : 0 + n ≤ maxLen := by simp only [maxLen]; omega
        have kby : (0 + n) * 8 ≤ 140737488355328 := by omega
        have kbs : w3.heap.size ≤ ((w3.alloc (.cells #[] 3)).drew).heap.size := KD.size
        have h63 : out.length + 1 ≤ maxLen := by simp only [maxLen]; omega
        have hby : (out.length + 1) * 32 ≤ 140737488355328 := by omega
        have w1e : IntKind.i64.wrap ((p : Int) + 1) = (p : Int) + 1 := IntWalk.i64_in _ (by omega)
        have w2e : IntKind.i64.wrap ((p : Int) + 1 + (n : Int)) = (p : Int) + 1 + (n : Int) := IntWalk.i64_in _ (by omega)
        have t0 : ((p : Int)).toNat = p := by omega
        clear K1 c3 KD hown hc hb3 HCS hB3
        go_upto_region 11 with (fail)
        refine region_L (fun w' => w'.cell? (ad.add p) = some (.int .i64 x)) 18 (by kernel_rfl) ?_
        refine takeL (i := 0) (v := .slice Av out.length cv) rfl (by kernel_rfl) (by kernel_rfl) (by kernel_rfl) (by kernel_rfl) (fun _ _ _ h => h) (by rfl) (fun w' hS => ?_) HS0.out ?_
        · have s0 := hS
          go_simp
        try simp only [Act.put, List.setIfInBounds_toArray, List.set_cons_zero, List.set_cons_succ]
        refine takeL (i := 1) (v := .slice (some ad) a.length c) rfl (by kernel_rfl) (by kernel_rfl) (by kernel_rfl) (by kernel_rfl) (fun _ _ _ h => h) (by rfl) (fun w' hS => ?_) HS0.out ?_
        · have s0 := hS
          go_simp
        try simp only [Act.put, List.setIfInBounds_toArray, List.set_cons_zero, List.set_cons_succ]
        refine takeL (i := 2) (v := .int .i64 p) rfl (by kernel_rfl) (by kernel_rfl) (by kernel_rfl) (by kernel_rfl) (fun _ _ _ h => h) (by rfl) (fun w' hS => ?_) HS0.out ?_
        · have s0 := hS
          go_simp
        try simp only [Act.put, List.setIfInBounds_toArray, List.set_cons_zero, List.set_cons_succ]
        refine takeL (i := 3) (v := .pointer (some (ad.add p))) rfl (by kernel_rfl) (by kernel_rfl) (by kernel_rfl) (by kernel_rfl) (fun _ _ _ h => h) (by rfl) (fun w' hS => ?_) HS0.out ?_
        · have s0 := hS
          go_simp
        try simp only [Act.put, List.setIfInBounds_toArray, List.set_cons_zero, List.set_cons_succ]
        refine takeL (i := 4) (v := .int .i64 x) rfl (by kernel_rfl) (by kernel_rfl) (by kernel_rfl) (by kernel_rfl) (fun _ _ _ h => h) (by rfl) (fun w' hS => ?_) HS0.out ?_
        · have s0 := hS
          go_simp
        try simp only [Act.put, List.setIfInBounds_toArray, List.set_cons_zero, List.set_cons_succ]
        refine takeL (i := 6) (v := .slice (some ad) a.length c) rfl (by kernel_rfl) (by kernel_rfl) (by kernel_rfl) (by kernel_rfl) (fun _ _ _ h => h) (by rfl) (fun w' hS => ?_) HS0.out ?_
        · have s0 := hS
          go_simp
        try simp only [Act.put, List.setIfInBounds_toArray, List.set_cons_zero, List.set_cons_succ]
        refine takeL (i := 7) (v := .int .i64 p) rfl (by kernel_rfl) (by kernel_rfl) (by kernel_rfl) (by kernel_rfl) (fun _ _ _ h => h) (by rfl) (fun w' hS => ?_) HS0.out ?_
        · have s0 := hS
          go_simp
        try simp only [Act.put, List.setIfInBounds_toArray, List.set_cons_zero, List.set_cons_succ]
        refine takeL (i := 8) (v := .int .i64 ((p : Int) + 1)) rfl (by kernel_rfl) (by kernel_rfl) (by kernel_rfl) (by kernel_rfl) (fun _ _ _ h => h) (by rfl) (fun w' hS => ?_) HS0.out ?_
        · have s0 := hS
          go_simp
        try simp only [Act.put, List.setIfInBounds_toArray, List.set_cons_zero, List.set_cons_succ]
        refine takeL (i := 9) (v := .int .i64 p) rfl (by kernel_rfl) (by kernel_rfl) (by kernel_rfl) (by kernel_rfl) (fun _ _ _ h => h) (by rfl) (fun w' hS => ?_) HS0.out ?_
        · have s0 := hS
          go_simp
        try simp only [Act.put, List.setIfInBounds_toArray, List.set_cons_zero, List.set_cons_succ]
        refine takeL (i := 10) (v := .int .i64 ((p : Int) + 1)) rfl (by kernel_rfl) (by kernel_rfl) (by kernel_rfl) (by kernel_rfl) (fun _ _ _ h => h) (by rfl) (fun w' hS => ?_) HS0.out ?_
        · have s0 := hS
          go_simp
        try simp only [Act.put, List.setIfInBounds_toArray, List.set_cons_zero, List.set_cons_succ]
        refine takeL (i := 11) (v := .int .i64 (n : Int)) rfl (by kernel_rfl) (by kernel_rfl) (by kernel_rfl) (by kernel_rfl) (fun _ _ _ h => h) (by rfl) (fun w' hS => ?_) HS0.out ?_
        · have s0 := hS
          go_simp
        try simp only [Act.put, List.setIfInBounds_toArray, List.set_cons_zero, List.set_cons_succ]
        refine takeL (i := 12) (v := .int .i64 ((p : Int) + 1 + (n : Int))) rfl (by kernel_rfl) (by kernel_rfl) (by kernel_rfl) (by kernel_rfl) (fun _ _ _ h => h) (by rfl) (fun w' hS => ?_) HS0.out ?_
        · have s0 := hS
          go_simp
        try simp only [Act.put, List.setIfInBounds_toArray, List.set_cons_zero, List.set_cons_succ]
        refine takeL (i := 13) (v := .slice (some As) n (c - (p + 1))) rfl (by kernel_rfl) (by kernel_rfl) (by kernel_rfl) (by kernel_rfl) (fun _ _ _ h => h) (by rfl) (fun w' hS => ?_) HS0.out ?_
        · have s0 := hS
          go_simp
        try simp only [Act.put, List.setIfInBounds_toArray, List.set_cons_zero, List.set_cons_succ]
        refine nextL (i := 5) (by kernel_rfl) rfl (fun K hK => ?_)
        go_simp
        refine hK _ _ (fun _ => HS1.out) ?_
        clear hK K
        try simp only [Act.put, List.setIfInBounds_toArray, List.set_cons_zero, List.set_cons_succ]
        refine nextL (i := 14) (by kernel_rfl) rfl (fun K hK => ?_)
        refine step_append_any _ (by rfl) _ _ _ (by rfl) w3.heap.size 3 j0 (.int .i64 0) 1 8 Try.underlying28 hj0 hy0 hy1 hy2 rfl (by omega) (.slice (some ⟨w3.heap.size, 0, none⟩) 0 0) 0 [] (by rfl) own0 w.heap.size (some As) n (c - (p + 1)) (ints ((a.drop (p + 1)).take n)) (by rfl) HRd.out (ints_one _) k63 kby kbs ?_
        intro v1 w1 hown1 hg1 hat1
        have B1 := HB1.out w1 hg1
        have HS2 := (B1.cell (p := ad.add p) lt3).trans HC3.out
        rw [Nat.zero_add, List.nil_append] at hown1
        obtain ⟨A1, c1, rfl, hr1⟩ := own_form2 hown1
        have SB := HSB.out w1 A1 c1 B1 hr1 (fun j hj => (own_lt2 hown1 j hj).1)
        refine hK _ _ (fun _ => HS2) ?_
        clear hK K
        try simp only [Act.put, List.setIfInBounds_toArray, List.set_cons_zero, List.set_cons_succ]
        refine takeL (i := 15) (v := .agg #[.int .i64 x, .slice A1 n c1]) rfl (by kernel_rfl) (by kernel_rfl) (by kernel_rfl) (by kernel_rfl) (fun _ _ _ h => h) (by rfl) (fun w' hS => ?_) HS2 ?_
        · have s0 := hS
          go_simp
        try simp only [Act.put, List.setIfInBounds_toArray, List.set_cons_zero, List.set_cons_succ]
        have B2 : Below w3.heap.size w3 (w1.alloc (.cells #[.int .i64 x, .slice A1 n c1] 30)) := B1.alloc B1.size _
        have HS3 := (B2.cell (p := ad.add p) lt3).trans HC3.out
        refine nextL (i := 16) (by kernel_rfl) rfl (fun K hK => ?_)
        go_simp
        refine hK _ _ (fun _ => HS3) ?_
        clear hK K
        try simp only [Act.put, List.setIfInBounds_toArray, List.set_cons_zero, List.set_cons_succ]
        have own4 : (w1.alloc (.cells #[.int .i64 x, .slice A1 n c1] 30)).ownsRow w.heap.size 30 2 (.slice Av out.length cv) out.length cs := own_below own3 B2
        have src : Reads (w1.alloc (.cells #[.int .i64 x, .slice A1 n c1] 30)) (w1.heap.size + 1) 2 (some ⟨w1.heap.size, 0, none⟩) 1 [.int .i64 x, .slice A1 n c1] := ⟨rfl, fun _ => ⟨_, rfl, by simp, fun j z hz => by
          rw [add_zero_block]
          exact (new_cell (W := w1) rfl _ 30 j).trans (by simpa using hz)⟩⟩
        have one : ∀ u ∈ [Value.int .i64 x, Value.slice A1 n c1], u.oneCell' = true := by
          intro u hu
          simp only [List.mem_cons, List.not_mem_nil, or_false] at hu
          rcases hu with rfl | rfl <;> rfl
        have hbs : w.heap.size ≤ (w1.alloc (.cells #[.int .i64 x, .slice A1 n c1] 30)).heap.size := Nat.le_trans Z3.out B2.size
        refine nextL (i := 17) (by kernel_rfl) rfl (fun K hK => ?_)
        refine step_append_any _ (by rfl) _ _ _ (by rfl) w.heap.size 30 i0 (.agg #[.int .i64 0, .slice none 0 0]) 2 32 Try.underlying34 hi0 hz0 hz1 hz2 rfl (by omega) (.slice Av out.length cv) out.length cs (by rfl) own4 (w1.heap.size + 1) (some ⟨w1.heap.size, 0, none⟩) 1 1 [.int .i64 x, .slice A1 n c1] (by rfl) src one h63 hby hbs ?_
        intro v2 w2 hown2 hg2 hat2
        have FIN := HFIN.out w1 A1 c1 w2 v2 B1 SB hg2 hat2
        refine hK _ _ (fun _ => FIN.2.2) ?_
        clear hK K
        try simp only [Act.put, List.setIfInBounds_toArray, List.set_cons_zero, List.set_cons_succ]
        refine nextL (i := 18) (by kernel_rfl) rfl (fun K hK => ?_)
        go_simp
        refine hK _ _ (fun h => absurd rfl h) ?_
        clear hK K
        try simp only [Act.put, List.setIfInBounds_toArray, List.set_cons_zero, List.set_cons_succ]
        refine doneL (by kernel_rfl) ?_
        obtain ⟨F1, F2, _⟩ := FIN
        clear B1 B2 HS2 HS3 SB hat1 hat2 hg1 hg2 own4 src hown1 hr1
        have on : w2.ownsRow w.heap.size 30 2 v2 (out ++ [(x, (a.drop (p + 1)).take n)]).length (cs ++ [.int .i64 x, .slice A1 n c1]) := by rw [List.length_append]; exact hown2
        have ol : (out ++ [(x, (a.drop (p + 1)).take n)]).length ≤ 4096 := by rw [List.length_append]; simp; omega
        clear hown2
        generalize out ++ [(x, (a.drop (p + 1)).take n)] = out2 at *
        generalize cs ++ [.int .i64 x, .slice A1 n c1] = cs2 at *
        have F1h := Lib.hid F1
        clear F1
        go_wp2_with fail
        exact ⟨⟨p + 1 + n, out2, cs2, vint (by omega), by omega, ol, HG, on, F1h.out, F2⟩, by simp [intOf]; omega⟩
    · have q1 : ¬ (p : Int) < (a.length : Int) := by omega
      have E := Lib.hid (P.goes_end hG.out (by omega))
      have R : Hid (RecsAt wr wr.heap.size Av out) := Lib.hid ⟨cs, hro, hcs.free⟩
      clear hG hro hcs hown hA
      go_wp2_with fail
      go_ret3
      exact ⟨Av, cv, by rw [E.out]; rfl, by rw [E.out]; exact R.out, hB⟩
end Go.Proofs.Ytaegekmfndcflaa
