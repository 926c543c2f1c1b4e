/- Contracts of package tally and of its reference: what they count. -/
import Derived.Test.YtjcmbnmejkhcjaaGreatRows
import Derived.Test.YtjcmbnmejkhcjaaGreatBase
namespace Go.Proofs.YtjcmbnmejkhcjaaGreat
open Go.ChangeShapes Go.WideShapes Go.ChangeAt Go.RowKit

def nBrk (l : List UInt8) : Int := l.countP (fun c => c.toNat == 10)
def nRun (l : List UInt8) : Int := l.countP (fun c => decide (c.toNat < 128 ∨ 191 < c.toNat))
def nBig (l : List UInt8) : Int := l.countP (fun c => decide (240 ≤ c.toNat))
theorem nBrk_app (l m : List UInt8) : nBrk (l ++ m) = nBrk l + nBrk m := by unfold nBrk; rw [List.countP_append]; omega
theorem nRun_app (l m : List UInt8) : nRun (l ++ m) = nRun l + nRun m := by unfold nRun; rw [List.countP_append]; omega
theorem nBig_app (l m : List UInt8) : nBig (l ++ m) = nBig l + nBig m := by unfold nBig; rw [List.countP_append]; omega
theorem nBrk_one (c : UInt8) : nBrk [c] = if c.toNat = 10 then 1 else 0 := by unfold nBrk; simp [List.countP_cons]; split <;> rfl
theorem nRun_one (c : UInt8) : nRun [c] = if c.toNat < 128 ∨ 191 < c.toNat then 1 else 0 := by unfold nRun; simp [List.countP_cons]; split <;> rfl
theorem nBig_one (c : UInt8) : nBig [c] = if 240 ≤ c.toNat then 1 else 0 := by unfold nBig; simp [List.countP_cons]; split <;> rfl
theorem nBrk_snoc (l : List UInt8) (c : UInt8) : nBrk (l ++ [c]) = nBrk l + if c.toNat = 10 then 1 else 0 := by rw [nBrk_app, nBrk_one]
theorem nRun_snoc (l : List UInt8) (c : UInt8) : nRun (l ++ [c]) = nRun l + if c.toNat < 128 ∨ 191 < c.toNat then 1 else 0 := by rw [nRun_app, nRun_one]
theorem nBig_snoc (l : List UInt8) (c : UInt8) : nBig (l ++ [c]) = nBig l + if 240 ≤ c.toNat then 1 else 0 := by rw [nBig_app, nBig_one]
theorem nBrk_le (l : List UInt8) : 0 ≤ nBrk l ∧ nBrk l ≤ l.length := by
  unfold nBrk; have := List.countP_le_length (p := fun c : UInt8 => c.toNat == 10) (l := l); omega
theorem nRun_le (l : List UInt8) : 0 ≤ nRun l ∧ nRun l ≤ l.length := by
  unfold nRun; have := List.countP_le_length (p := fun c : UInt8 => decide (c.toNat < 128 ∨ 191 < c.toNat)) (l := l); omega
theorem nBig_le (l : List UInt8) : 0 ≤ nBig l ∧ nBig l ≤ l.length := by
  unfold nBig; have := List.countP_le_length (p := fun c : UInt8 => decide (240 ≤ c.toNat)) (l := l); omega

/-- What a text counts, as Go's struct value. -/
def talOf (l : List UInt8) : Value := .agg #[.int .i64 l.length, .int .i64 (nBrk l), .int .i64 (nRun l), .int .i64 (nBig l + nRun l)]
def tw (w : World) (t : TypeId) (n a b c : Int) : World := (w.alloc (Obj.cells #[Value.int IntKind.i64 0, Value.int IntKind.i64 0, Value.int IntKind.i64 0, Value.int IntKind.i64 0] t)).alloc
    (Obj.cells #[Value.int IntKind.i64 n, Value.int IntKind.i64 a, Value.int IntKind.i64 b, Value.int IntKind.i64 c] t)
theorem tw_congr {w : World} {t : TypeId} {n a b c n' a' b' c' : Int} (h0 : n = n') (h1 : a = a') (h2 : b = b') (h3 : c = c') : tw w t n a b c = tw w t n' a' b' c' := by rw [h0, h1, h2, h3]
theorem bd_of (s : ByteArray) (k : Nat) (h : s.size ≤ 100000000) (hk : k ≤ s.size) : 0 ≤ nBrk (s.data.toList.take k) ∧ nBrk (s.data.toList.take k) ≤ 100000000 ∧ 0 ≤ nRun (s.data.toList.take k) ∧ nRun (s.data.toList.take k) ≤ 100000000 ∧ 0 ≤ nBig (s.data.toList.take k) ∧ nBig (s.data.toList.take k) ≤ 100000000 := by
  have hb := nBrk_le (s.data.toList.take k)
  have hr := nRun_le (s.data.toList.take k)
  have hg := nBig_le (s.data.toList.take k)
  have hl : (s.data.toList.take k).length ≤ k := List.length_take_le _ _
  omega
theorem bd_all (l : List UInt8) (h : l.length ≤ 100000000) : 0 ≤ nBrk l ∧ nBrk l ≤ 100000000 ∧ 0 ≤ nRun l ∧ nRun l ≤ 100000000 ∧ 0 ≤ nBig l ∧ nBig l ≤ 100000000 := by
  have hb := nBrk_le l
  have hr := nRun_le l
  have hg := nBig_le l
  omega

set_option maxRecDepth 100000 in
set_option maxHeartbeats 400000 in
theorem of_any (s : ByteArray) (w : World) (hs : s.size ≤ 100000000) :
    Calls Tryz.prog 78 #[.string s] w fun e w' => e = .returned (talOf s.data.toList) ∧ Below w.heap.size w w' := by
  go_enter Tryz.func78, Tryz.ntmps78
  go_wp2
  go_loopw [11] (fun i wr => ∃ k : Nat, k ≤ s.size ∧ i = .int .i64 k ∧ wr = tw w 97 s.size (nBrk (s.data.toList.take k)) (nRun (s.data.toList.take k)) (nBig (s.data.toList.take k)))
    (fun i _ => s.size - (intOf i).toNat)
  case atStart => exact ⟨0, Nat.zero_le _, rfl, rfl⟩
  case round =>
    obtain ⟨k, hk, rfl, rfl⟩ := hrel
    obtain ⟨b1, b2, b3, b4, b5, b6⟩ := bd_of s k hs hk
    unfold tw
    by_cases hlt : k < s.size
    · have HS := hide (take_snoc s k hlt)
      go_wp2
      all_goals
        go_roundw
        case rel =>
          refine ⟨k + 1, by omega, by go_num, ?_⟩
          rw [HS.out, nBrk_snoc, nRun_snoc, nBig_snoc]
          refine tw_congr rfl ?_ ?_ ?_
          all_goals first
            | (split <;> omega)
            | (have q := of_beq_t (a := (s[k].toNat : Int)) (b := 10) (by assumption); split <;> omega)
            | (have q := of_beq_f (a := (s[k].toNat : Int)) (b := 10) (by assumption); split <;> omega)
        case measure => simp [intOf]; omega
    · obtain rfl : k = s.size := by omega
      rw [take_all] at b1 b2 b3 b4 b5 b6 ⊢
      go_wp2
      exact bodyPost_ret (v := .agg #[.int .i64 s.size, .int .i64 (nBrk s.data.toList), .int .i64 (nRun s.data.toList), .int .i64 (nBig s.data.toList + nRun s.data.toList)]) (by simp [results, Tryz.results78, go_sem]) rfl ⟨by simp [talOf], bl_alloc (bl_alloc (bl_refl _) _) _⟩

set_option maxHeartbeats 400000 in
theorem plus_any (a b c d a' b' c' d' : Int) (w : World) :
    Calls Tryz.prog 98 #[.agg #[.int .i64 a, .int .i64 b, .int .i64 c, .int .i64 d], .agg #[.int .i64 a', .int .i64 b', .int .i64 c', .int .i64 d']] w fun e w' => e = .returned (.agg #[.int .i64 (wrap64 (a+a')), .int .i64 (wrap64 (b + b')), .int .i64 (wrap64 (c + c')), .int .i64 (wrap64 (d + d'))]) ∧ Below w.heap.size w w' := by
  go_enter Tryz.func98, Tryz.ntmps98
  go_wp2
  exact bodyPost_ret (v := .agg #[.int .i64 (wrap64 (a+a')), .int .i64 (wrap64 (b + b')), .int .i64 (wrap64 (c + c')), .int .i64 (wrap64 (d + d'))]) (by simp [results, Tryz.results98, go_sem]) rfl ⟨rfl, bl_alloc (bl_alloc (bl_alloc (bl_refl _) _) _) _⟩

def byW (a b c d way : Int) : Int := if way = 0 then a else if way = 1 then c else if way = 2 then d else if way = 3 then b else 0

theorem by_any (a b c d : Int) (way : Int) (w : World) :
    Calls Tryz.prog 89 #[.agg #[.int .i64 a, .int .i64 b, .int .i64 c, .int .i64 d], .int .i64 way] w fun e w' => e = .returned (.int .i64 (byW a b c d way)) ∧ Below w.heap.size w w' := by
  go_enter Tryz.func89, Tryz.ntmps89
  go_wp2
  all_goals
    go_ret
    exact ⟨ret_int (by unfold byW; simp_all), bl_alloc (bl_refl _) _⟩
theorem rby_any (a b c d : Int) (way : Int) (w : World) :
    Calls Tryz.prog 73 #[.agg #[.int .i64 a, .int .i64 b, .int .i64 c, .int .i64 d], .int .i64 way] w fun e w' => e = .returned (.int .i64 (byW a b c d way)) ∧ Below w.heap.size w w' := by
  go_enter Tryz.func73, Tryz.ntmps73
  go_wp2
  all_goals
    go_ret
    exact ⟨ret_int (by unfold byW; simp_all), bl_alloc (bl_refl _) _⟩
def leadB (n : Int) : Bool := decide (n < 128 ∨ 191 < n)
theorem lead_any (n : Int) (w : World) (h0 : 0 ≤ n) (h1 : n < 256) :
    Calls Tryz.prog 74 #[.int .u8 n] w fun e w' => e = .returned (.bool (leadB n)) ∧ w = w' := by
  go_enter Tryz.func74, Tryz.ntmps74
  go_wp2
  all_goals
    go_ret
    exact ⟨ret_bool (by unfold leadB; simp; try omega), rfl⟩
end Go.Proofs.YtjcmbnmejkhcjaaGreat
