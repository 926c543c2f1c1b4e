/- Contracts of casing's names, of Turn, and the layer's awake. -/
import Derived.Test.YtbphckblbbbakaaDoorCasing
namespace Go.Proofs.YtbphckblbbbakaaDoor
open Go.ChangeShapes Go.WideShapes Go.ChangeAt Go.RowKit

def wyL (l : List UInt8) : Int :=
  if ([117, 112, 99, 97, 115, 101] == l) = true then 1 else if ([100, 111, 119, 110, 99, 97, 115, 101] == l) = true then 2 else if ([99, 97, 112, 105, 116, 97, 108, 105, 122, 101] == l) = true then 3 else if ([99, 97, 109, 101, 108, 99, 97, 115, 101] == l) = true then 4 else if ([112, 97, 115, 99, 97, 108, 99, 97, 115, 101] == l) = true then 5 else 0
def nmL (x : Int) : List UInt8 :=
  if x = 1 then [117, 112, 99, 97, 115, 101] else if x = 2 then [100, 111, 119, 110, 99, 97, 115, 101] else if x = 3 then [99, 97, 112, 105, 116, 97, 108, 105, 122, 101] else if x = 4 then [99, 97, 109, 101, 108, 99, 97, 115, 101] else if x = 5 then [112, 97, 115, 99, 97, 108, 99, 97, 115, 101] else []
set_option maxRecDepth 100000 in
theorem name_any (x : Int) (w : World) :
    Calls Tryd.prog 38 #[.int .i64 x] w fun e w' => e = .returned (.string ⟨(nmL x).toArray⟩) ∧ w = w' := by
  by_cases h1 : x = 1
  · subst h1
    go_enter Tryd.func38, Tryd.ntmps38
    go_wp2
    go_ret
    exact ⟨rfl, rfl⟩
  by_cases h2 : x = 2
  · subst h2
    go_enter Tryd.func38, Tryd.ntmps38
    go_wp2
    go_ret
    exact ⟨rfl, rfl⟩
  by_cases h3 : x = 3
  · subst h3
    go_enter Tryd.func38, Tryd.ntmps38
    go_wp2
    go_ret
    exact ⟨rfl, rfl⟩
  by_cases h4 : x = 4
  · subst h4
    go_enter Tryd.func38, Tryd.ntmps38
    go_wp2
    go_ret
    exact ⟨rfl, rfl⟩
  by_cases h5 : x = 5
  · subst h5
    go_enter Tryd.func38, Tryd.ntmps38
    go_wp2
    go_ret
    exact ⟨rfl, rfl⟩
  have hn : nmL x = [] := by unfold nmL; simp [*]
  rw [hn]
  clear hn
  go_enter Tryd.func38, Tryd.ntmps38
  go_wp2
  go_ret
  exact ⟨rfl, rfl⟩
set_option maxRecDepth 100000 in
theorem rname_any (x : Int) (w : World) :
    Calls Tryd.prog 25 #[.int .i64 x] w fun e w' => e = .returned (.string ⟨(nmL x).toArray⟩) ∧ w = w' := by
  by_cases h1 : x = 1
  · subst h1
    go_enter Tryd.func25, Tryd.ntmps25
    go_wp2
    go_ret
    exact ⟨rfl, rfl⟩
  by_cases h2 : x = 2
  · subst h2
    go_enter Tryd.func25, Tryd.ntmps25
    go_wp2
    go_ret
    exact ⟨rfl, rfl⟩
  by_cases h3 : x = 3
  · subst h3
    go_enter Tryd.func25, Tryd.ntmps25
    go_wp2
    go_ret
    exact ⟨rfl, rfl⟩
  by_cases h4 : x = 4
  · subst h4
    go_enter Tryd.func25, Tryd.ntmps25
    go_wp2
    go_ret
    exact ⟨rfl, rfl⟩
  by_cases h5 : x = 5
  · subst h5
    go_enter Tryd.func25, Tryd.ntmps25
    go_wp2
    go_ret
    exact ⟨rfl, rfl⟩
  have hn : nmL x = [] := by unfold nmL; simp [*]
  rw [hn]
  clear hn
  go_enter Tryd.func25, Tryd.ntmps25
  go_wp2
  go_ret
  exact ⟨rfl, rfl⟩
def turnL (way : Int) (l : List UInt8) : List UInt8 :=
  if way = 1 then l.map upB else if way = 2 then l.map downB else if way = 3 then capL upB l else if way = 4 then jn downB l true true else if way = 5 then jn upB l true true else []
def turnE (way : Int) : Int := if 1 ≤ way ∧ way ≤ 5 then 0 else 2
set_option maxRecDepth 100000 in
set_option maxHeartbeats 1000000 in
theorem turn_any (s : ByteArray) (way : Int) (w : World) (hs : s.size ≤ 1000000) :
    Calls Tryd.prog 39 #[.string s, .int .i64 way] w fun e w' => e = .returned (.tuple #[.string ⟨(turnL way s.data.toList).toArray⟩, .int .i64 (turnE way)]) ∧ Below w.heap.size w w' := by
  by_cases h1 : way = 1
  · subst h1
    go_enter Tryd.func39, Tryd.ntmps39
    go_wp2_with fail
    refine (each_up s _ hs).mono ?_
    rintro e w1 ⟨rfl, hb⟩
    go_wp2
    go_ret2
    exact ⟨rfl, hb⟩
  by_cases h2 : way = 2
  · subst h2
    go_enter Tryd.func39, Tryd.ntmps39
    go_wp2_with fail
    refine (each_down s _ hs).mono ?_
    rintro e w1 ⟨rfl, hb⟩
    go_wp2
    go_ret2
    exact ⟨rfl, hb⟩
  by_cases h3 : way = 3
  · subst h3
    go_enter Tryd.func39, Tryd.ntmps39
    go_wp2_with fail
    refine (first_up s _ hs).mono ?_
    rintro e w1 ⟨rfl, hb⟩
    go_wp2
    go_ret2
    exact ⟨rfl, hb⟩
  by_cases h4 : way = 4
  · subst h4
    go_enter Tryd.func39, Tryd.ntmps39
    go_wp2_with fail
    refine (join_down s _ hs).mono ?_
    rintro e w1 ⟨rfl, hb⟩
    go_wp2
    go_ret2
    exact ⟨rfl, hb⟩
  by_cases h5 : way = 5
  · subst h5
    go_enter Tryd.func39, Tryd.ntmps39
    go_wp2_with fail
    refine (join_up s _ hs).mono ?_
    rintro e w1 ⟨rfl, hb⟩
    go_wp2
    go_ret2
    exact ⟨rfl, hb⟩
  have hn : turnL way s.data.toList = [] := by unfold turnL; simp [*]
  have he : turnE way = 2 := by unfold turnE; rw [if_neg (by omega)]
  rw [hn, he]
  clear hn he
  go_enter Tryd.func39, Tryd.ntmps39
  go_wp2
  go_ret2
  exact ⟨rfl, bl_refl _⟩
theorem turne_any (s : ByteArray) (way : Int) (l : List UInt8) (e0 : Int) (w : World) (hs : s.size ≤ 1000000) (hl : turnL way s.data.toList = l) (he : turnE way = e0) :
    Calls Tryd.prog 39 #[.string s, .int .i64 way] w fun e w' => e = .returned (.tuple #[.string ⟨l.toArray⟩, .int .i64 e0]) ∧ Below w.heap.size w w' := by
  rw [← hl, ← he]; exact turn_any s way w hs
end Go.Proofs.YtbphckblbbbakaaDoor
