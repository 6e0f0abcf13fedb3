/- Contract: the document's both. -/
import Derived.Test.YtdkppkdoconfhaaVc
import Derived.Test.YtdkppkdoconfhaaVe
namespace Go.Proofs.Ytdkppkdoconfhaa
open Go.ChangeShapes Go.WideShapes Go.ChangeAt Go.RowKit
set_option linter.unusedVariables false
set_option linter.unusedSimpArgs false

theorem results_tmp_cell {fn : Func} {p u : Tmp} {ty : TypeId} (h : fn.results = #[.tmp u, .cell p ty]) (tmps : Array Value) (P : Program) (w : World) :
    (results fn tmps).run P w =
      ((asAddr (tmps.getD p undef)).run P w).andThen fun a w₁ => ((loadVar ty a).run P w₁).andThen fun v w₂ => .ok (.tuple #[tmps.getD u undef, v]) w₂ := by
  simp only [results, h]
  simp [Sem.run_bind, Result.andThen]
/-- Two results, the second one an array in a block of its own. -/
theorem res_t2 {w0 w : World} {bs : List (Nat × TypeId × List Value)} {P : Program} {fn : Func} {p u : Tmp} {t : TypeId} (h : fn.results = #[.tmp u, .cell p t]) {tmps : Array Value} (O : Own w0 w bs) (k : Nat) {g : Nat} {t' : TypeId} {cs : List Value} (hk : bs[k]? = some (g, t', cs))
    (hp : tmps.getD p undef = .pointer (some ⟨g, 0, none⟩)) {d : TypeDesc} (hu : P.underlying t = some d) (hd : (match d with | .struct _ | .array _ _ => true | _ => false) = true) (hi : (P.info? t).map (·.size) = some cs.length) {v : Value} (hv : tmps.getD u undef = v) :
    (results fn tmps).run P w = .ok (.tuple #[v, .agg cs.toArray]) w := by
  rw [results_tmp_cell h, hp]
  have := run_loadVar_row (P := P) w g t' t cs.toArray (0, 0) _ (O.blk k hk) hu hd (by simpa using hi)
  simp only [asAddr, Sem.run_pure, Result.andThen_ok, this, hv]
namespace VM
/-- The numbers of a color that stands between two. -/
def col (a b : Nat → Int) (n d : Int) (i : Nat) : Int := mid (a (3 + i)) (b (3 + i)) n d
def colk (a b : Nat → Int) (n d : Int) (k i : Nat) : Int := if i < k then col a b n d i else 0
theorem colk_step {a b : Nat → Int} {n d : Int} {k : Nat} (hk : k < 4) {m : Int} (hm : col a b n d k = m) : (M.mat 4 (colk a b n d k)).set k (.int .i64 m) = M.mat 4 (colk a b n d (k + 1)) := by
  refine M.mat_set_to hk ?_ fun j _ hj => ?_
  · rw [colk, if_pos (by omega), hm]
  · unfold colk
    by_cases h : j < k
    · rw [if_pos h, if_pos (by omega)]
    · rw [if_neg h, if_neg (by omega)]
theorem colk_end (a b : Nat → Int) (n d : Int) : M.mat 4 (colk a b n d 4) = M.mat 4 (col a b n d) := M.mat_ext fun i hi => by rw [colk, if_pos hi]
theorem colk_zero (a b : Nat → Int) (n d : Int) : M.mat 4 (colk a b n d 0) = M.mat 4 M.zero := M.mat_ext fun i hi => by rw [colk, if_neg (by omega)]; rfl
/-- What is asked of a vertex for the middles to be told. -/
def Lim (v : Nat → Int) : Prop := ∀ i, i < 7 → -1099511627776 ≤ v i ∧ v i ≤ 1099511627776
theorem lim_of {v : Nat → Int} (h : fit v = true) : Lim v := fun i hi => by
  obtain ⟨h0, h1, h2, h3⟩ := fit_lim h
  rcases (by omega : i = 0 ∨ i = 1 ∨ i = 2 ∨ 3 ≤ i) with rfl | rfl | rfl | h5
  · omega
  · omega
  · omega
  · have := h3 (i - 3) (by omega)
    rw [show 3 + (i - 3) = i by omega] at this
    omega
end VM
/-- How a depth and a color are handed back. -/
def RetZ (w : World) (z : Int) (c : Nat → Int) (e : Ending) (w' : World) : Prop := e = .returned (.tuple #[.int .i64 z, arr 4 c]) ∧ Below w.heap.size w w'
set_option maxRecDepth 100000 in
set_option maxHeartbeats 8000000 in
theorem rboth_any (a b : Nat → Int) (n d : Int) (ha : VM.Lim a) (hb : VM.Lim b) (hd : d < 9223372036854775808) (w : World) :
    Calls Try.prog 52 #[arr 7 a, arr 7 b, .int .i64 n, .int .i64 d] w (RetZ w (VM.mid (a 2) (b 2) n d) (VM.col a b n d)) := by
  have O := Own.start w
  have CM := Lib.hid (fun i (hi : i < 7) w => rmid_any (a i) (b i) n d (ha i hi) (hb i hi) hd w)
  clear ha hb hd
  go_enter Try.func52, Try.ntmps52
  go_wp2_with (first | ((with_reducible refine at_box 4 ?_); refine wpList_box_own O (M.mat 7 (a)) rfl ?_; clear O; intro g4 w1 O) | ((with_reducible refine at_box 5 ?_); refine wpList_box_own O (M.mat 7 (b)) rfl ?_; clear O; intro g5 w2 O) | ((with_reducible refine at_alloc 9 ?_); refine wpList_alloc_own O (M.mat 4 M.zero) zeroC ?_; clear O; intro g9 w3 O) | ((with_reducible refine at_alloc 10 ?_); refine wpList_alloc_own O (M.mat 4 M.zero) zeroC ?_; clear O; intro g10 w4 O))
  go_loopw [11] (fun u wr => ∃ k : Nat, k ≤ 4 ∧ u = .int .i64 k ∧ Own w wr [(g10, 23, M.mat 4 (VM.colk a b n d k)), (g9, 23, M.mat 4 M.zero), (g5, 25, M.mat 7 b), (g4, 25, M.mat 7 a)]) (fun t _ => 4 - (intOf t).toNat)
  case atStart => exact ⟨0, by omega, rfl, O.as (by rw [VM.colk_zero])⟩
  case round =>
    clear O
    obtain ⟨k, hk, rfl, O⟩ := hrel
    have q0 : (0 : Int) ≤ k := by omega
    by_cases hlt : k < 4
    · have q1 : (k : Int) < 4 := by omega
      obtain ⟨x, hx⟩ : ∃ z, a (3 + k) = z := ⟨_, rfl⟩
      obtain ⟨y, hy⟩ : ∃ z, b (3 + k) = z := ⟨_, rfl⟩
      have CX := cell_is (n := 7) hx (by omega)
      have CY := cell_is (n := 7) hy (by omega)
      have CK := CM.out (3 + k) (by omega)
      rw [hx, hy] at CK
      obtain ⟨m, hm⟩ : ∃ z, VM.mid x y n d = z := ⟨_, rfl⟩
      rw [hm] at CK
      have HM := Lib.hid (VM.colk_step (a := a) (b := b) (n := n) (d := d) hlt (m := m) (by rw [VM.col, hx, hy, hm]))
      have HK := Lib.hid CK
      clear hx hy hm CK
      go_wp2_with fail
      refine region_T ((fun w2 => Own w w2 [(g10, 23, M.mat 4 (VM.colk a b n d k)), (g9, 23, M.mat 4 M.zero), (g5, 25, M.mat 7 b), (g4, 25, M.mat 7 a)])) [0, 1, 2, 3, 4, 5, 6, 7, 8, 9, 10, 11, 12] 12 [some 16, some 17, some 18, some 19, some 20, some 21, some 22, some 23, some 24, some 25, some 26, some 27, some 28] [.int .i64 k, .int .i64 k, .pointer (some ⟨g4, 3, none⟩), .pointer (some ⟨g4, 3 + k, none⟩), .int .i64 x, .int .i64 k, .pointer (some ⟨g5, 3, none⟩), .pointer (some ⟨g5, 3 + k, none⟩), .int .i64 y, .int .i64 n, .int .i64 d, .int .i64 m, .pointer (some ⟨g10, k, none⟩)] 1 (by kernel_rfl) (by rfl) (by kernel_rfl) (by rfl) (by rfl) (O.drew) (fun F hF => ?_)
      simp only [fillD, Act.put, List.setIfInBounds_toArray, List.set_cons_zero, List.set_cons_succ] at hF
      subst hF
      refine ⟨⟨does_want rfl (by rfl) (fun w' O K hK => ?_), does_want rfl (by rfl) (fun w' O K hK => ?_), does_want rfl (by rfl) (fun w' O K hK => ?_), does_want rfl (by rfl) (fun w' O K hK => ?_), does_want rfl (by rfl) (fun w' O K hK => ?_), does_want rfl (by rfl) (fun w' O K hK => ?_), does_want rfl (by rfl) (fun w' O K hK => ?_), does_want rfl (by rfl) (fun w' O K hK => ?_), does_want rfl (by rfl) (fun w' O K hK => ?_), does_want rfl (by rfl) (fun w' O K hK => ?_), does_want rfl (by rfl) (fun w' O K hK => ?_), does_want rfl (by rfl) (fun w' O K hK => ?_), does_want rfl (by rfl) (fun w' O K hK => ?_), trivial⟩, fun w' O => ?_⟩
      · go_simp
        exact hK _ O
      · go_simp
        exact hK _ O
      · go_simp
        exact hK _ O
      · exact wp_ino Try.underlying23 sizeOf3 (by decide) k rfl rfl rfl hlt (hK _ O)
      · exact wp_cell_h (v := .int .i64 (x)) O.held 3 rfl CX.out rfl agg3 rfl (hK _ O)
      · go_simp
        exact hK _ O
      · go_simp
        exact hK _ O
      · exact wp_ino Try.underlying23 sizeOf3 (by decide) k rfl rfl rfl hlt (hK _ O)
      · exact wp_cell_h (v := .int .i64 (y)) O.held 2 rfl CY.out rfl agg3 rfl (hK _ O)
      · go_simp
        exact hK _ O
      · go_simp
        exact hK _ O
      · go_simp
        go_at_call 69
        refine (HK.out _).mono ?_
        rintro e w2 ⟨rfl, hb⟩
        exact hK _ (O.call hb)
      · refine wp_ino Try.underlying23 sizeOf3 (by decide) k rfl rfl rfl hlt ?_
        rw [Nat.zero_add]
        exact hK _ O
      refine wpAny_want (i := 13) (by kernel_rfl) rfl (by rfl) (fun K hK => ?_)
      refine wp_set_own O 0 (.int .i64 (m)) rfl (by rw [M.mat_len]; omega) rfl rfl size3 rfl rfl fun w9 O9 => hK _ _ ?_
      clear O
      have O := O9
      clear O9
      clear hK K
      try simp only [Act.put, List.setIfInBounds_toArray, List.set_cons_zero, List.set_cons_succ]
      refine wpAny_done (by kernel_rfl) ?_ _
      have O2 : Own w w9 [(g10, 23, M.mat 4 (VM.colk a b n d (k + 1))), (g9, 23, M.mat 4 M.zero), (g5, 25, M.mat 7 b), (g4, 25, M.mat 7 a)] := O.as (by rw [← HM.out] <;> rfl)
      clear O
      have O := O2
      clear O2
      go_wp2_with fail
      go_roundw
      case rel => exact ⟨k + 1, by omega, by go_num, O⟩
      case measure => simp [intOf]; omega
    · have q1 : ¬ (k : Int) < 4 := by omega
      obtain rfl : k = 4 := by omega
      replace O := O.as (l' := [(g10, 23, M.mat 4 (VM.col a b n d)), (g9, 23, M.mat 4 M.zero), (g5, 25, M.mat 7 b), (g4, 25, M.mat 7 a)]) (by rw [VM.colk_end])
      have CK := CM.out 2 (by omega)
      obtain ⟨x, hx⟩ : ∃ z, a 2 = z := ⟨_, rfl⟩
      obtain ⟨y, hy⟩ : ∃ z, b 2 = z := ⟨_, rfl⟩
      have CX := cell_is (n := 7) hx (by omega)
      have CY := cell_is (n := 7) hy (by omega)
      rw [hx, hy] at CK
      obtain ⟨m, hm⟩ : ∃ z, VM.mid x y n d = z := ⟨_, rfl⟩
      rw [hm] at CK
      have HE : Hid (VM.mid (a 2) (b 2) n d = m) := Lib.hid (by rw [hx, hy, hm])
      have HK := Lib.hid CK
      clear hx hy hm CK CM
      go_wp2_with fail
      refine region_T ((fun w2 => Own w w2 [(g10, 23, M.mat 4 (VM.col a b n d)), (g9, 23, M.mat 4 M.zero), (g5, 25, M.mat 7 b), (g4, 25, M.mat 7 a)])) [0, 1, 2, 3, 4, 5, 6, 7, 8] 12 [some 29, some 30, some 31, some 32, some 33, some 34, some 35, some 36, some 8] [.pointer (some ⟨g4, 2, none⟩), .int .i64 x, .pointer (some ⟨g5, 2, none⟩), .int .i64 y, .int .i64 n, .int .i64 d, .int .i64 m, arr 4 (VM.col a b n d), .int .i64 m] 1 (by kernel_rfl) (by rfl) (by kernel_rfl) (by rfl) (by rfl) (O.drew) (fun F hF => ?_)
      simp only [fillD, Act.put, List.setIfInBounds_toArray, List.set_cons_zero, List.set_cons_succ] at hF
      subst hF
      refine ⟨⟨does_want rfl (by rfl) (fun w' O K hK => ?_), does_want rfl (by rfl) (fun w' O K hK => ?_), does_want rfl (by rfl) (fun w' O K hK => ?_), does_want rfl (by rfl) (fun w' O K hK => ?_), does_want rfl (by rfl) (fun w' O K hK => ?_), does_want rfl (by rfl) (fun w' O K hK => ?_), does_want rfl (by rfl) (fun w' O K hK => ?_), does_want rfl (by rfl) (fun w' O K hK => ?_), does_want rfl (by rfl) (fun w' O K hK => ?_), trivial⟩, fun w' O => ?_⟩
      · go_simp
        exact hK _ O
      · exact wp_cell_h (v := .int .i64 (x)) O.held 3 rfl CX.out rfl agg3 rfl (hK _ O)
      · go_simp
        exact hK _ O
      · exact wp_cell_h (v := .int .i64 (y)) O.held 2 rfl CY.out rfl agg3 rfl (hK _ O)
      · go_simp
        exact hK _ O
      · go_simp
        exact hK _ O
      · go_simp
        go_at_call 69
        refine (HK.out _).mono ?_
        rintro e w2 ⟨rfl, hb⟩
        exact hK _ (O.call hb)
      · exact wp_whole O 0 rfl rfl Try.underlying23 rfl (sC _) (hK _ O)
      · go_simp
        exact hK _ O
      refine wpAny_want (i := 9) (by kernel_rfl) rfl (by rfl) (fun K hK => ?_)
      refine wp_put_own O 1 (M.mat 4 (VM.col a b n d)) rfl rfl rfl (sC _) (M.mat_len2 _ _ _) (M.mat_one _ _) fun w9 O9 => hK _ _ ?_
      clear O
      have O := O9
      clear O9
      clear hK K
      try simp only [Act.put, List.setIfInBounds_toArray, List.set_cons_zero, List.set_cons_succ]
      refine wpAny_done (by kernel_rfl) ?_ _
      go_wp2_with fail
      exact bodyPost_ret (v := .tuple #[.int .i64 m, arr 4 (VM.col a b n d)]) (res_t2 rfl O 1 rfl rfl Try.underlying23 rfl (sC _) rfl) rfl ⟨by rw [HE.out], O.below⟩
end Go.Proofs.Ytdkppkdoconfhaa
