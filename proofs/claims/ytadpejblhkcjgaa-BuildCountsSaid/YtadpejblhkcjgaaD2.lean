/- Contract: greatest, all, pick. -/
import Derived.Test.YtadpejblhkcjgaaD1
namespace Go.Proofs.Ytadpejblhkcjgaa
open Go.ChangeShapes Go.WideShapes Go.ChangeAt Go.RowKit
set_option linter.unusedVariables false
set_option linter.unusedSimpArgs false

theorem foldl_snoc {α β : Type} (f : β → α → β) (b : β) (l : List α) {k : Nat} {x : α} (h : l[k]? = some x) : f ((l.take k).foldl f b) x = (l.take (k + 1)).foldl f b := by
  rw [List.take_add_one, h]
  simp
set_option maxRecDepth 100000 in
set_option maxHeartbeats 4000000 in
theorem greatest_any (v : List Nat) {lo : Nat} {A : Option Addr} {c : Nat} (w : World) (hv : Lies w free (iE lo A c v)) (hl : v.length ≤ 300) : Calls Try.prog 21 #[.slice A v.length c] w fun e w' => e = .returned (.int .i64 (P.mx v : Nat)) ∧ w' = w := by
  have HM : Hid (P.mx v = v.foldl max 0) := by show _ = _; rfl
  go_enter Try.func21, Try.ntmps21
  go_wp2_with fail
  go_loopw [3, 4] (fun u t wr => ∃ k : Nat, k ≤ v.length ∧ t = .int .i64 k ∧ u = .int .i64 ((v.take k).foldl max 0 : Nat) ∧ wr = w) (fun _ t _ => v.length - (intOf t).toNat)
  case atStart => exact ⟨0, Nat.zero_le _, rfl, rfl, rfl⟩
  case round =>
    obtain ⟨k, hk, rfl, rfl, rfl⟩ := hrel
    have q0 : (0 : Int) ≤ k := by omega
    have e1 : IntKind.i64.wrap ((k : Int) + 1) = ((k + 1 : Nat) : Int) := IntWalk.i64_in _ (by omega)
    by_cases hlt : k < v.length
    · have q1 : (k : Int) < v.length := by omega
      obtain ⟨x, hx⟩ : ∃ x, v[k]? = some x := ⟨_, List.getElem?_eq_getElem hlt⟩
      have HR := Lib.hid (foldl_snoc max 0 v hx)
      have HX := Lib.hid hx
      clear hx
      generalize (v.take k).foldl max 0 = y at *
      go_wp2_with (first | ((with_reducible refine at_index_ 14 ?_); refine wpList_at_h rfl Try.underlying33 sizeOf3 _ hv rfl (k) rfl (rfl) (hlt) (rfl) ?_) | ((with_reducible refine at_load 15 ?_); refine wpList_ecell_h rfl (iE lo A c v) hv (k * 1) (by rw [Nat.mul_one]; exact ints_at HX.out) (rfl) agg3 rfl ?_))
      go_roundw
      case rel =>
        refine ⟨k + 1, by omega, by go_num, ?_, trivial⟩
        rw [← HR.out]
        refine congrArg (Value.int .i64) ?_
        split <;> omega
      case measure => simp [intOf]; omega
    · have q1 : ¬ (k : Int) < v.length := by omega
      obtain rfl : k = v.length := by omega
      rw [take_all]
      go_wp2_with fail
      go_ret
      rw [HM.out]
      exact ⟨rfl, rfl⟩
set_option maxRecDepth 100000 in
set_option maxHeartbeats 4000000 in
theorem all_any (n : Nat) (w : World) (hl : n ≤ 300) : Calls Try.prog 22 #[.int .i64 n] w (RetB w (List.replicate n true)) := by
  have O := Held.start w [] (by simp)
  go_enter Try.func22, Try.ntmps22
  go_wp2_with fail
  replace O := O.fresh 4 1
  go_loopw [3, 4] (fun u t wr => ∃ k : Nat, k ≤ n ∧ t = .int .i64 k ∧ Held w wr [] ⟨u, 4, 1, k, bools (List.replicate k true)⟩ []) (fun _ t _ => n - (intOf t).toNat)
  case atStart => exact ⟨0, Nat.zero_le _, rfl, O⟩
  case round =>
    clear O
    obtain ⟨k, hk, rfl, O⟩ := hrel
    have q0 : (0 : Int) ≤ k := by omega
    by_cases hlt : k < n
    · have q1 : (k : Int) < n := by omega
      go_wp2_with (first | ((with_reducible refine at_lit 11 ?_); refine wpList_lit_h rfl O 1 (.bool false) info4 Try.underlying22 ([(0, .bool true)]) ([.bool true]) rfl rfl (by decide) (by decide) (by kernel_rfl) ?_; clear O; intro g9 w2 O) | ((with_reducible refine at_app 12 ?_); refine wpList_app_h rfl O (.bool false) 1 info4b rfl (Nat.succ_pos _) Try.underlying22 rfl (_) (O.mem (List.mem_cons_self)) rfl rfl (by simp [Value.oneCell']) (by dsimp only; omega) (by decide) ?_; clear O; intro u9 w3 O))
      have O2 := O.pick (es' := []) (by simp)
      clear O
      dsimp only at O2
      rw [show bools (List.replicate k true) ++ [.bool true] = bools (List.replicate (k + 1) true) by simp [bools, List.replicate_succ']] at O2
      go_roundw
      case rel => exact ⟨k + 1, by omega, by go_num, O2⟩
      case measure => simp [intOf]; omega
    · have q1 : ¬ (k : Int) < n := by omega
      obtain rfl : k = n := by omega
      go_wp2_with fail
      go_ret
      exact doneB O
set_option maxRecDepth 100000 in
set_option maxHeartbeats 4000000 in
theorem pick_any (v : List Nat) (fl : List Bool) {lo lo' : Nat} {A A' : Option Addr} {c c' : Nat} (w : World) (hv : Lies w free (iE lo A c v)) (hf : Lies w free (bE lo' A' c' fl)) (hlen : v.length ≤ 256) (hlt : ∀ k ∈ v, k < fl.length) :
    Calls Try.prog 23 #[.slice A' fl.length c', .slice A v.length c] w (RetB w (v.map fun k => fl.getD k false)) := by
  have O := Held.start w [iE lo A c v, bE lo' A' c' fl] (by simpa using ⟨hv, hf⟩)
  clear hv hf
  have HL := Lib.hid hlt
  clear hlt
  obtain ⟨f, hfn⟩ : ∃ f : Nat → Bool, (fun k => fl.getD k false) = f := ⟨_, rfl⟩
  rw [hfn]
  have HF := Lib.hid hfn
  clear hfn
  go_enter Try.func23, Try.ntmps23
  go_wp2_with fail
  replace O := O.fresh 4 1
  go_loopw [5, 6] (fun u t wr => ∃ k : Nat, k ≤ v.length ∧ t = .int .i64 k ∧ Held w wr [] ⟨u, 4, 1, k, bools ((v.take k).map f)⟩ [iE lo A c v, bE lo' A' c' fl]) (fun _ t _ => v.length - (intOf t).toNat)
  case atStart => exact ⟨0, Nat.zero_le _, rfl, O⟩
  case round =>
    clear O
    obtain ⟨k, hk, rfl, O⟩ := hrel
    have q0 : (0 : Int) ≤ k := by omega
    by_cases hlt : k < v.length
    · have q1 : (k : Int) < v.length := by omega
      obtain ⟨x, hx⟩ : ∃ x, v[k]? = some x := ⟨_, List.getElem?_eq_getElem hlt⟩
      have hxl : x < fl.length := HL.out x (List.mem_of_getElem? hx)
      obtain ⟨b, hb⟩ : ∃ b, fl[x]? = some b := ⟨_, List.getElem?_eq_getElem hxl⟩
      have HR : Hid (bools ((v.take k).map f) ++ [.bool b] = bools ((v.take (k + 1)).map f)) := by
        show _ = _
        refine row_bool hx ?_
        rw [← HF.out]
        simp [List.getD_eq_getElem?_getD, hb]
      have HX := Lib.hid hx
      have HB := Lib.hid hb
      clear hx hb
      go_wp2_with (first | ((with_reducible refine at_index_ 17 ?_); refine wpList_at_h rfl Try.underlying33 sizeOf3 _ (O.mem (x := iE lo A c v) (by simp)) rfl (k) rfl (rfl) (hlt) (rfl) ?_) | ((with_reducible refine at_load 18 ?_); refine wpList_ecell_h  rfl _ (O.mem (x := iE lo A c v) (by simp)) (k * 1) (by rw [Nat.mul_one]; exact ints_at HX.out) (rfl) agg3 rfl ?_) | ((with_reducible refine at_index_ 19 ?_); refine wpList_at_h rfl Try.underlying22 sizeOf4 _ (O.mem (x := bE lo' A' c' fl) (by simp)) rfl (x) rfl (rfl) (hxl) (rfl) ?_) | ((with_reducible refine at_load 20 ?_); refine wpList_ecell_h  rfl _ (O.mem (x := bE lo' A' c' fl) (by simp)) (x * 1) (by rw [Nat.mul_one]; exact bools_at HB.out) (rfl) agg4 rfl ?_) | ((with_reducible refine at_lit 21 ?_); refine wpList_lit_h rfl O 1 (.bool false) info4 Try.underlying22 ([(0, .bool b)]) ([.bool b]) rfl rfl (by decide) (by decide) (by kernel_rfl) ?_; clear O; intro g9 w2 O) | ((with_reducible refine at_app 22 ?_); refine wpList_app_h rfl O (.bool false) 1 info4b rfl (Nat.succ_pos _) Try.underlying22 rfl (_) (O.mem (List.mem_cons_self)) rfl rfl (by simp [Value.oneCell']) (by dsimp only; omega) (by decide) ?_; clear O; intro u9 w3 O))
      have O2 := O.pick (es' := [iE lo A c v, bE lo' A' c' fl]) (fun y hy => List.mem_cons_of_mem _ hy)
      clear O
      dsimp only at O2
      rw [HR.out] at O2
      go_roundw
      case rel => exact ⟨k + 1, by omega, by go_num, O2⟩
      case measure => simp [intOf]; omega
    · have q1 : ¬ (k : Int) < v.length := by omega
      obtain rfl : k = v.length := by omega
      go_wp2_with fail
      go_ret
      rw [take_all] at O
      exact doneB O
end Go.Proofs.Ytadpejblhkcjgaa
