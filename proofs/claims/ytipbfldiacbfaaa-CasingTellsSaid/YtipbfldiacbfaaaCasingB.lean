/- Contracts of casing's names, of Turn, and the layer's awake. -/
import Derived.Test.YtipbfldiacbfaaaCasing
namespace Go.Proofs.Ytipbfldiacbfaaa
open Go.ChangeShapes Go.WideShapes Go.ChangeAt Go.RowKit

def wyL (l : List UInt8) : Int :=
  if ([117, 112, 99, 97, 115, 101] == l) = true then 1 else if ([100, 111, 119, 110, 99, 97, 115, 101] == l) = true then 2 else if ([99, 97, 112, 105, 116, 97, 108, 105, 122, 101] == l) = true then 3 else if ([99, 97, 109, 101, 108, 99, 97, 115, 101] == l) = true then 4 else if ([112, 97, 115, 99, 97, 108, 99, 97, 115, 101] == l) = true then 5 else 0
def nmL (x : Int) : List UInt8 :=
  if x = 1 then [117, 112, 99, 97, 115, 101] else if x = 2 then [100, 111, 119, 110, 99, 97, 115, 101] else if x = 3 then [99, 97, 112, 105, 116, 97, 108, 105, 122, 101] else if x = 4 then [99, 97, 109, 101, 108, 99, 97, 115, 101] else if x = 5 then [112, 97, 115, 99, 97, 108, 99, 97, 115, 101] else []
set_option maxRecDepth 100000 in
set_option maxHeartbeats 1000000 in
theorem way_any (s : ByteArray) (w : World) :
    Calls Try.prog 14 #[.string s] w fun e w' => e = .returned (.int .i64 (wyL s.toList)) ∧ w = w' := by
  have HW : Hid (wyL s.toList = if ([117, 112, 99, 97, 115, 101] == s.toList) = true then 1 else if ([100, 111, 119, 110, 99, 97, 115, 101] == s.toList) = true then 2 else if ([99, 97, 112, 105, 116, 97, 108, 105, 122, 101] == s.toList) = true then 3 else if ([99, 97, 109, 101, 108, 99, 97, 115, 101] == s.toList) = true then 4 else if ([112, 97, 115, 99, 97, 108, 99, 97, 115, 101] == s.toList) = true then 5 else 0) := hide rfl
  generalize wyL s.toList = r at *
  go_enter Try.func14, Try.ntmps14
  go_wp2
  refine wp_loop_rounds 7 ?_
  rw [rounds_succ]
  go_wp2
  · go_ret
    exact ⟨ret_int (by rw [HW.out]; simp [*]), rfl⟩
  rw [rounds_succ]
  go_wp2
  · go_ret
    exact ⟨ret_int (by rw [HW.out]; simp [*]), rfl⟩
  rw [rounds_succ]
  go_wp2
  · go_ret
    exact ⟨ret_int (by rw [HW.out]; simp [*]), rfl⟩
  rw [rounds_succ]
  go_wp2
  · go_ret
    exact ⟨ret_int (by rw [HW.out]; simp [*]), rfl⟩
  rw [rounds_succ]
  go_wp2
  · go_ret
    exact ⟨ret_int (by rw [HW.out]; simp [*]), rfl⟩
  rw [rounds_succ]
  go_wp2
  go_ret
  exact ⟨ret_int (by rw [HW.out]; simp [*]), rfl⟩
set_option maxRecDepth 100000 in
set_option maxHeartbeats 1000000 in
theorem rway_any (s : ByteArray) (w : World) :
    Calls Try.prog 15 #[.string s] w fun e w' => e = .returned (.int .i64 (wyL s.toList)) ∧ w = w' := by
  have HW : Hid (wyL s.toList = if ([117, 112, 99, 97, 115, 101] == s.toList) = true then 1 else if ([100, 111, 119, 110, 99, 97, 115, 101] == s.toList) = true then 2 else if ([99, 97, 112, 105, 116, 97, 108, 105, 122, 101] == s.toList) = true then 3 else if ([99, 97, 109, 101, 108, 99, 97, 115, 101] == s.toList) = true then 4 else if ([112, 97, 115, 99, 97, 108, 99, 97, 115, 101] == s.toList) = true then 5 else 0) := hide rfl
  generalize wyL s.toList = r at *
  go_enter Try.func15, Try.ntmps15
  go_wp2
  refine wp_loop_rounds 7 ?_
  rw [rounds_succ]
  go_wp2
  · go_ret
    exact ⟨ret_int (by rw [HW.out]; simp [*]), rfl⟩
  rw [rounds_succ]
  go_wp2
  · go_ret
    exact ⟨ret_int (by rw [HW.out]; simp [*]), rfl⟩
  rw [rounds_succ]
  go_wp2
  · go_ret
    exact ⟨ret_int (by rw [HW.out]; simp [*]), rfl⟩
  rw [rounds_succ]
  go_wp2
  · go_ret
    exact ⟨ret_int (by rw [HW.out]; simp [*]), rfl⟩
  rw [rounds_succ]
  go_wp2
  · go_ret
    exact ⟨ret_int (by rw [HW.out]; simp [*]), rfl⟩
  rw [rounds_succ]
  go_wp2
  go_ret
  exact ⟨ret_int (by rw [HW.out]; simp [*]), rfl⟩
set_option maxRecDepth 100000 in
theorem name_any (x : Int) (w : World) :
    Calls Try.prog 12 #[.int .i64 x] w fun e w' => e = .returned (.string ⟨(nmL x).toArray⟩) ∧ w = w' := by
  by_cases h1 : x = 1
  · subst h1
    go_enter Try.func12, Try.ntmps12
    go_wp2
    go_ret
    exact ⟨rfl, rfl⟩
  by_cases h2 : x = 2
  · subst h2
    go_enter Try.func12, Try.ntmps12
    go_wp2
    go_ret
    exact ⟨rfl, rfl⟩
  by_cases h3 : x = 3
  · subst h3
    go_enter Try.func12, Try.ntmps12
    go_wp2
    go_ret
    exact ⟨rfl, rfl⟩
  by_cases h4 : x = 4
  · subst h4
    go_enter Try.func12, Try.ntmps12
    go_wp2
    go_ret
    exact ⟨rfl, rfl⟩
  by_cases h5 : x = 5
  · subst h5
    go_enter Try.func12, Try.ntmps12
    go_wp2
    go_ret
    exact ⟨rfl, rfl⟩
  have hn : nmL x = [] := by unfold nmL; simp [*]
  rw [hn]
  clear hn
  go_enter Try.func12, Try.ntmps12
  go_wp2
  go_ret
  exact ⟨rfl, rfl⟩
set_option maxRecDepth 100000 in
theorem rname_any (x : Int) (w : World) :
    Calls Try.prog 13 #[.int .i64 x] w fun e w' => e = .returned (.string ⟨(nmL x).toArray⟩) ∧ w = w' := by
  by_cases h1 : x = 1
  · subst h1
    go_enter Try.func13, Try.ntmps13
    go_wp2
    go_ret
    exact ⟨rfl, rfl⟩
  by_cases h2 : x = 2
  · subst h2
    go_enter Try.func13, Try.ntmps13
    go_wp2
    go_ret
    exact ⟨rfl, rfl⟩
  by_cases h3 : x = 3
  · subst h3
    go_enter Try.func13, Try.ntmps13
    go_wp2
    go_ret
    exact ⟨rfl, rfl⟩
  by_cases h4 : x = 4
  · subst h4
    go_enter Try.func13, Try.ntmps13
    go_wp2
    go_ret
    exact ⟨rfl, rfl⟩
  by_cases h5 : x = 5
  · subst h5
    go_enter Try.func13, Try.ntmps13
    go_wp2
    go_ret
    exact ⟨rfl, rfl⟩
  have hn : nmL x = [] := by unfold nmL; simp [*]
  rw [hn]
  clear hn
  go_enter Try.func13, Try.ntmps13
  go_wp2
  go_ret
  exact ⟨rfl, rfl⟩
def turnL (way : Int) (l : List UInt8) : List UInt8 :=
  if way = 1 then l.map upB else if way = 2 then l.map downB else if way = 3 then capL upB l else if way = 4 then jn downB l true true else if way = 5 then jn upB l true true else []
def turnE (way : Int) : Int := if 1 ≤ way ∧ way ≤ 5 then 0 else 2
set_option maxRecDepth 100000 in
set_option maxHeartbeats 1000000 in
theorem turn_any (s : ByteArray) (way : Int) (w : World) (hs : s.size ≤ 1000000) :
    Calls Try.prog 9 #[.string s, .int .i64 way] w fun e w' => e = .returned (.tuple #[.string ⟨(turnL way s.data.toList).toArray⟩, .int .i64 (turnE way)]) ∧ Below w.heap.size w w' := by
  by_cases h1 : way = 1
  · subst h1
    go_enter Try.func9, Try.ntmps9
    go_wp2_with fail
    refine (each_up s _ hs).mono ?_
    rintro e w1 ⟨rfl, hb⟩
    go_wp2
    go_ret2
    exact ⟨rfl, hb⟩
  by_cases h2 : way = 2
  · subst h2
    go_enter Try.func9, Try.ntmps9
    go_wp2_with fail
    refine (each_down s _ hs).mono ?_
    rintro e w1 ⟨rfl, hb⟩
    go_wp2
    go_ret2
    exact ⟨rfl, hb⟩
  by_cases h3 : way = 3
  · subst h3
    go_enter Try.func9, Try.ntmps9
    go_wp2_with fail
    refine (first_up s _ hs).mono ?_
    rintro e w1 ⟨rfl, hb⟩
    go_wp2
    go_ret2
    exact ⟨rfl, hb⟩
  by_cases h4 : way = 4
  · subst h4
    go_enter Try.func9, Try.ntmps9
    go_wp2_with fail
    refine (join_down s _ hs).mono ?_
    rintro e w1 ⟨rfl, hb⟩
    go_wp2
    go_ret2
    exact ⟨rfl, hb⟩
  by_cases h5 : way = 5
  · subst h5
    go_enter Try.func9, Try.ntmps9
    go_wp2_with fail
    refine (join_up s _ hs).mono ?_
    rintro e w1 ⟨rfl, hb⟩
    go_wp2
    go_ret2
    exact ⟨rfl, hb⟩
  have hn : turnL way s.data.toList = [] := by unfold turnL; simp [*]
  have he : turnE way = 2 := by unfold turnE; rw [if_neg (by omega)]
  rw [hn, he]
  clear hn he
  go_enter Try.func9, Try.ntmps9
  go_wp2
  go_ret2
  exact ⟨rfl, bl_refl _⟩
theorem turne_any (s : ByteArray) (way : Int) (l : List UInt8) (e0 : Int) (w : World) (hs : s.size ≤ 1000000) (hl : turnL way s.data.toList = l) (he : turnE way = e0) :
    Calls Try.prog 9 #[.string s, .int .i64 way] w fun e w' => e = .returned (.tuple #[.string ⟨l.toArray⟩, .int .i64 e0]) ∧ Below w.heap.size w w' := by
  rw [← hl, ← he]; exact turn_any s way w hs
set_option maxRecDepth 100000 in
set_option maxHeartbeats 1000000 in
theorem awake17_any (w : World) :
    Calls Try.prog 8 #[] w fun e w' => e = .returned (.bool true) ∧ Below w.heap.size w w' := by
  go_enter Try.func8, Try.ntmps8
  go_wp2_with fail
  refine (turne_any _ 5 [70, 111, 111, 66, 97, 114, 88] 0 _ (by decide) (by decide +kernel) (by decide)).mono ?_
  rintro e w1 ⟨rfl, hb1⟩
  go_wp2_with fail
  refine (turne_any _ 4 [102, 111, 111, 66, 97, 114] 0 _ (by decide) (by decide +kernel) (by decide)).mono ?_
  rintro e w2 ⟨rfl, hb2⟩
  go_wp2_with fail
  refine (way_any _ _).mono ?_
  rintro e w3 ⟨rfl, rfl⟩
  have hw3 : wyL (⟨#[99, 97, 112, 105, 116, 97, 108, 105, 122, 101]⟩ : ByteArray).toList = 3 := by decide +kernel
  rw [hw3]
  clear hw3
  go_wp2
  go_ret
  exact ⟨rfl, bl_trans hb1 hb2⟩
end Go.Proofs.Ytipbfldiacbfaaa
