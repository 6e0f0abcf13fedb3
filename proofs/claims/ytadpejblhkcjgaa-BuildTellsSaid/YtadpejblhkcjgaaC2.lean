/- Contract: sides. -/
import Derived.Test.YtadpejblhkcjgaaC1
namespace Go.Proofs.Ytadpejblhkcjgaa
open Go.ChangeShapes Go.WideShapes Go.ChangeAt Go.RowKit
set_option linter.unusedVariables false
set_option linter.unusedSimpArgs false

/-- Numbers, and flags, that lie in memory. -/
def iE (lo : Nat) (A : Option Addr) (c : Nat) (v : List Nat) : Ent := ⟨lo, A, v.length, c, 1, ints v⟩
def bE (lo : Nat) (A : Option Addr) (c : Nat) (v : List Bool) : Ent := ⟨lo, A, v.length, c, 1, bools v⟩
def RetI (w : World) (v : List Nat) (e : Ending) (w' : World) : Prop := ∃ A c, e = .returned (.slice A v.length c) ∧ Lies w' free (iE w.heap.size A c v) ∧ Below w.heap.size w w'
def RetB (w : World) (v : List Bool) (e : Ending) (w' : World) : Prop := ∃ A c, e = .returned (.slice A v.length c) ∧ Lies w' free (bE w.heap.size A c v) ∧ Below w.heap.size w w'
theorem doneB {w w' : World} {bs : List (Nat × TypeId × List Value)} {es : List Ent} {v : Value} {n : Nat} {l : List Bool} (O : Held w w' bs ⟨v, 4, 1, n, bools l⟩ es) : RetB w l (.returned v) w' := by
  obtain ⟨A, c, hv, h⟩ := O.done
  have hn : l.length = n := by
    have := (h.mem List.mem_cons_self).1
    simpa [bools_len] using this
  subst hn
  have hv2 : v = .slice A l.length c := hv
  exact ⟨A, c, by rw [hv2], h.arg List.mem_cons_self, O.below⟩
theorem doneI {w w' : World} {bs : List (Nat × TypeId × List Value)} {es : List Ent} {v : Value} {n : Nat} {l : List Nat} (O : Held w w' bs ⟨v, 3, 1, n, ints l⟩ es) : RetI w l (.returned v) w' := by
  obtain ⟨A, c, hv, h⟩ := O.done
  have hn : l.length = n := by
    have := (h.mem List.mem_cons_self).1
    simpa [ints_len] using this
  subst hn
  have hv2 : v = .slice A l.length c := hv
  exact ⟨A, c, by rw [hv2], h.arg List.mem_cons_self, O.below⟩
theorem map_snoc {α β : Type} (f : α → β) (l : List α) {k : Nat} {x : α} (h : l[k]? = some x) : (l.take k).map f ++ [f x] = (l.take (k + 1)).map f := by
  rw [List.take_add_one, h]
  simp
theorem row_bool {f : Nat → Bool} {l : List Nat} {k x : Nat} (h : l[k]? = some x) {b : Bool} (hb : f x = b) : bools ((l.take k).map f) ++ [.bool b] = bools ((l.take (k + 1)).map f) := by
  rw [← map_snoc f l h, hb]
  simp [bools]
theorem row_int {α : Type} {f : α → Nat} {l : List α} {k : Nat} {x : α} (h : l[k]? = some x) {b : Nat} (hb : f x = b) : ints ((l.take k).map f) ++ [.int .i64 b] = ints ((l.take (k + 1)).map f) := by
  rw [← map_snoc f l h, hb]
  simp [ints]
theorem take_all {α : Type} (l : List α) : l.take l.length = l := List.take_of_length_le (Nat.le_refl _)
theorem sides_eq {s : Shp} {v : List Nat} {fl : List Bool} (h : s.ed ≠ 0) : P.sides s v fl = v.map fun k => s.ed == 2 || fl.getD k false := if_neg h
set_option maxRecDepth 100000 in
set_option maxHeartbeats 4000000 in
theorem sides_any (s : Shp) (en : Ent) (v : List Nat) (fl : List Bool) {lo lo' : Nat} {A A' : Option Addr} {c c' : Nat} (w : World) (hv : Lies w free (iE lo A c v)) (hf : Lies w free (bE lo' A' c' fl)) (hlen : v.length ≤ 256) (hlt : ∀ k ∈ v, k < fl.length) (hed : s.ed ≤ 2) :
    Calls Try.prog 17 #[.agg (sc s en).toArray, .slice A v.length c, .slice A' fl.length c'] w (RetB w (P.sides s v fl)) := by
  have O := Held.start w [iE lo A c v, bE lo' A' c' fl] (by simpa using ⟨hv, hf⟩)
  clear hv hf
  obtain ⟨need, more, cs, tu, cl, wh, ed, fi, la⟩ := s
  dsimp only at hed
  have HL := Lib.hid hlt
  clear hlt
  obtain rfl | rfl | rfl : ed = 0 ∨ ed = 1 ∨ ed = 2 := by omega
  · go_enter Try.func17, Try.ntmps17
    go_wp2_with (first | ((with_reducible refine at_box 3 ?_); refine wpList_box_h O (sc ⟨need, more, cs, tu, cl, wh, 0, fi, la⟩ en) rfl ?_; clear O; intro g3 w1 O) | ((with_reducible refine at_load 11 ?_); refine wpList_cell_h rfl O 0 rfl (rfl) rfl agg3 rfl ?_))
    go_ret
    exact ⟨none, 0, rfl, Lies.nil, O.below⟩
  · obtain ⟨f, hfn⟩ : ∃ f : Nat → Bool, (fun k => (1 : Nat) == 2 || fl.getD k false) = f := ⟨_, rfl⟩
    have HE : Hid (P.sides ⟨need, more, cs, tu, cl, wh, 1, fi, la⟩ v fl = v.map f) := by show _ = _; rw [← hfn]; exact sides_eq (by simp)
    have HF := Lib.hid hfn
    clear hfn
    go_enter Try.func17, Try.ntmps17
    go_wp2_with (first | ((with_reducible refine at_box 3 ?_); refine wpList_box_h O (sc ⟨need, more, cs, tu, cl, wh, 1, fi, la⟩ en) rfl ?_; clear O; intro g3 w1 O) | ((with_reducible refine at_load 11 ?_); refine wpList_cell_h rfl O 0 rfl (rfl) rfl agg3 rfl ?_))
    replace O := O.fresh 4 1
    go_loopw [7, 16] (fun u t wr => ∃ k : Nat, k ≤ v.length ∧ t = .int .i64 k ∧ Held w wr [(g3, 43, sc ⟨need, more, cs, tu, cl, wh, 1, fi, la⟩ en)] ⟨u, 4, 1, k, bools ((v.take k).map f)⟩ [iE lo A c v, bE lo' A' c' fl]) (fun _ t _ => v.length - (intOf t).toNat)
    case atStart => exact ⟨0, Nat.zero_le _, rfl, O⟩
    case round =>
      clear O
      obtain ⟨k, hk, rfl, O⟩ := hrel
      have q0 : (0 : Int) ≤ k := by omega
      by_cases hlt : k < v.length
      · have q1 : (k : Int) < v.length := by omega
        obtain ⟨x, hx⟩ : ∃ x, v[k]? = some x := ⟨_, List.getElem?_eq_getElem hlt⟩
        have hxl : x < fl.length := HL.out x (List.mem_of_getElem? hx)
        obtain ⟨b, hb⟩ : ∃ b, fl[x]? = some b := ⟨_, List.getElem?_eq_getElem hxl⟩
        have HR : Hid (bools ((v.take k).map f) ++ [.bool b] = bools ((v.take (k + 1)).map f)) := by
          show _ = _
          refine row_bool hx ?_
          rw [← HF.out]
          simp [List.getD_eq_getElem?_getD, hb]
        have HX := Lib.hid hx
        have HB := Lib.hid hb
        clear hx hb
        go_wp2_with (first | ((with_reducible refine at_index_ 18 ?_); refine wpList_at_h rfl Try.underlying33 sizeOf3 _ (O.mem (x := iE lo A c v) (by simp)) rfl (k) rfl (rfl) (hlt) (rfl) ?_) | ((with_reducible refine at_load 19 ?_); refine wpList_ecell_h rfl _ (O.mem (x := iE lo A c v) (by simp)) (k * 1) (by rw [Nat.mul_one]; exact ints_at HX.out) (rfl) agg3 rfl ?_) | ((with_reducible refine at_load 22 ?_); refine wpList_cell_h rfl O 0 rfl (rfl) rfl agg3 rfl ?_) | ((with_reducible refine at_index_ 27 ?_); refine wpList_at_h rfl Try.underlying22 sizeOf4 _ (O.mem (x := bE lo' A' c' fl) (by simp)) rfl (x) rfl (rfl) (hxl) (rfl) ?_) | ((with_reducible refine at_load 28 ?_); refine wpList_ecell_h rfl _ (O.mem (x := bE lo' A' c' fl) (by simp)) (x * 1) (by rw [Nat.mul_one]; exact bools_at HB.out) (rfl) agg4 rfl ?_) | ((with_reducible refine at_lit 30 ?_); refine wpList_lit_h rfl O 1 (.bool false) info4 Try.underlying22 ([(0, .bool b)]) ([.bool b]) rfl (by simp [nilE]) (by decide) (by decide) (by kernel_rfl) ?_; clear O; intro g9 w2 O) | ((with_reducible refine at_app 31 ?_); refine wpList_app_h rfl O (.bool false) 1 info4b rfl (Nat.succ_pos _) Try.underlying22 rfl (_) (O.mem (List.mem_cons_self)) rfl rfl (by simp [Value.oneCell']) (by dsimp only; omega) (by decide) ?_; clear O; intro u9 w3 O))
        have O2 := O.pick (es' := [iE lo A c v, bE lo' A' c' fl]) (fun y hy => List.mem_cons_of_mem _ hy)
        clear O
        dsimp only at O2
        rw [HR.out] at O2
        go_roundw
        case rel => exact ⟨k + 1, by omega, by go_num, O2⟩
        case measure => simp [intOf]; omega
      · have q1 : ¬ (k : Int) < v.length := by omega
        obtain rfl : k = v.length := by omega
        go_wp2_with fail
        go_ret
        rw [HE.out]
        rw [take_all] at O
        exact doneB O
  · obtain ⟨f, hfn⟩ : ∃ f : Nat → Bool, (fun k => (2 : Nat) == 2 || fl.getD k false) = f := ⟨_, rfl⟩
    have HE : Hid (P.sides ⟨need, more, cs, tu, cl, wh, 2, fi, la⟩ v fl = v.map f) := by show _ = _; rw [← hfn]; exact sides_eq (by simp)
    have HF := Lib.hid hfn
    clear hfn
    go_enter Try.func17, Try.ntmps17
    go_wp2_with (first | ((with_reducible refine at_box 3 ?_); refine wpList_box_h O (sc ⟨need, more, cs, tu, cl, wh, 2, fi, la⟩ en) rfl ?_; clear O; intro g3 w1 O) | ((with_reducible refine at_load 11 ?_); refine wpList_cell_h rfl O 0 rfl (rfl) rfl agg3 rfl ?_))
    replace O := O.fresh 4 1
    go_loopw [7, 16] (fun u t wr => ∃ k : Nat, k ≤ v.length ∧ t = .int .i64 k ∧ Held w wr [(g3, 43, sc ⟨need, more, cs, tu, cl, wh, 2, fi, la⟩ en)] ⟨u, 4, 1, k, bools ((v.take k).map f)⟩ [iE lo A c v, bE lo' A' c' fl]) (fun _ t _ => v.length - (intOf t).toNat)
    case atStart => exact ⟨0, Nat.zero_le _, rfl, O⟩
    case round =>
      clear O
      obtain ⟨k, hk, rfl, O⟩ := hrel
      have q0 : (0 : Int) ≤ k := by omega
      by_cases hlt : k < v.length
      · have q1 : (k : Int) < v.length := by omega
        obtain ⟨x, hx⟩ : ∃ x, v[k]? = some x := ⟨_, List.getElem?_eq_getElem hlt⟩
        have hxl : x < fl.length := HL.out x (List.mem_of_getElem? hx)
        obtain ⟨b, hb⟩ : ∃ b, fl[x]? = some b := ⟨_, List.getElem?_eq_getElem hxl⟩
        have HR : Hid (bools ((v.take k).map f) ++ [.bool true] = bools ((v.take (k + 1)).map f)) := by
          show _ = _
          refine row_bool hx ?_
          rw [← HF.out]
          simp [List.getD_eq_getElem?_getD, hb]
        have HX := Lib.hid hx
        have HB := Lib.hid hb
        clear hx hb
        go_wp2_with (first | ((with_reducible refine at_index_ 18 ?_); refine wpList_at_h rfl Try.underlying33 sizeOf3 _ (O.mem (x := iE lo A c v) (by simp)) rfl (k) rfl (rfl) (hlt) (rfl) ?_) | ((with_reducible refine at_load 19 ?_); refine wpList_ecell_h rfl _ (O.mem (x := iE lo A c v) (by simp)) (k * 1) (by rw [Nat.mul_one]; exact ints_at HX.out) (rfl) agg3 rfl ?_) | ((with_reducible refine at_load 22 ?_); refine wpList_cell_h rfl O 0 rfl (rfl) rfl agg3 rfl ?_) | ((with_reducible refine at_lit 30 ?_); refine wpList_lit_h rfl O 1 (.bool false) info4 Try.underlying22 ([(0, .bool true)]) ([.bool true]) rfl (by simp [nilE]) (by decide) (by decide) (by kernel_rfl) ?_; clear O; intro g9 w2 O) | ((with_reducible refine at_app 31 ?_); refine wpList_app_h rfl O (.bool false) 1 info4b rfl (Nat.succ_pos _) Try.underlying22 rfl (_) (O.mem (List.mem_cons_self)) rfl rfl (by simp [Value.oneCell']) (by dsimp only; omega) (by decide) ?_; clear O; intro u9 w3 O))
        have O2 := O.pick (es' := [iE lo A c v, bE lo' A' c' fl]) (fun y hy => List.mem_cons_of_mem _ hy)
        clear O
        dsimp only at O2
        rw [HR.out] at O2
        go_roundw
        case rel => exact ⟨k + 1, by omega, by go_num, O2⟩
        case measure => simp [intOf]; omega
      · have q1 : ¬ (k : Int) < v.length := by omega
        obtain rfl : k = v.length := by omega
        go_wp2_with fail
        go_ret
        rw [HE.out]
        rw [take_all] at O
        exact doneB O
end Go.Proofs.Ytadpejblhkcjgaa
