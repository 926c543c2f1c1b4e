/- Contracts of the reference of characters: Places, Fold, Proper, Word; of package char: Proper, Word; two slices of numbers held against one another. No condition but short texts. -/
import Derived.Test.YtodnnhhlpinpbaaCharE
import Derived.Test.YtodnnhhlpinpbaaArgs
namespace Go.Proofs.Ytodnnhhlpinpbaa
open Go.ChangeShapes Go.WideShapes Go.ChangeAt Go.RowKit
structure QIn (l : List UInt8) (n k : Nat) (ps : List Nat) : Prop where
  here : k ≤ n → plGo l 0 = ps ++ plGo (l.drop k) k
  gone : k = n + 1 → plGo l 0 = ps
theorem qin_start (l : List UInt8) : QIn l l.length 1 [0] := by
  cases l with
  | nil => exact ⟨fun h => by simp at h, fun _ => rfl⟩
  | cons c r => exact ⟨fun _ => by rw [plGo, if_pos (.inl rfl)]; rfl, fun h => by simp at h⟩
theorem qin_cont {l : List UInt8} {k : Nat} {ps : List Nat} (h : QIn l l.length k ps) (hk : k < l.length) (h0 : 1 ≤ k) (hc : contB l[k] = true) : QIn l l.length (k + 1) ps :=
  ⟨fun _ => by rw [h.here (by omega), plGo_off l k hk (by omega) hc], fun e => by omega⟩
theorem qin_lead {l : List UInt8} {k : Nat} {ps : List Nat} (h : QIn l l.length k ps) (hk : k < l.length) (hc : contB l[k] = false) : QIn l l.length (k + 1) (ps ++ [k]) :=
  ⟨fun _ => by rw [h.here (by omega), plGo_on l k hk (.inr hc)]; simp, fun e => by omega⟩
theorem qin_last {l : List UInt8} {ps : List Nat} (h : QIn l l.length l.length ps) : QIn l l.length (l.length + 1) (ps ++ [l.length]) :=
  ⟨fun e => by omega, fun _ => by rw [h.here (Nat.le_refl _), plGo_end]⟩
def QRel (s : ByteArray) (w : World) (v i : Value) (wr : World) : Prop :=
  ∃ (k : Nat) (ps : List Nat), i = .int .i64 k ∧ k ≤ s.size + 1 ∧ 1 ≤ k ∧ ps.length ≤ k ∧ Hid (QIn s.data.toList s.data.toList.length k ps) ∧ wr.ownsRow w.heap.size 3 1 v ps.length (natC ps) ∧ Below w.heap.size w wr
set_option maxRecDepth 100000 in
set_option maxHeartbeats 4000000 in
theorem rplaces_any (s : ByteArray) (w : World) (hs : s.size ≤ 100000) :
    Calls Try.prog 14 #[.string s] w (PlPost s w) := by
  obtain ⟨i0, hi0, hz0', hz1, hz2⟩ := info_parts info_int
  have hown0 : (w.alloc (.cells #[.int .i64 0] 3)).ownsRow w.heap.size 3 1 (.slice (some ⟨w.heap.size, 0, none⟩) 1 1) ([0] : List Nat).length (natC [0]) :=
    ⟨rfl, .inr ⟨w.heap.size, 1, #[.int .i64 0], rfl, Nat.le_refl _, heap_alloc_new w _, Nat.le_refl _, by unfold maxLen; omega, rfl, rfl⟩⟩
  go_enter Try.func14, Try.ntmps14
  go_wp2
  go_loopw [3, 4] (fun v i wr => QRel s w v i wr) (fun _ i _ => s.size + 1 - (intOf i).toNat)
  case atStart => exact ⟨1, [0], rfl, by omega, Nat.le_refl _, Nat.le_refl _, hide (qin_start _), hown0, bl_alloc (bl_refl w) _⟩
  case round =>
    obtain ⟨k, ps, rfl, hk, hk1, hpl, HI, hv, hbl⟩ := hrel
    clear hown0
    have hbw : w.heap.size ≤ wr.heap.size := hbl.size
    by_cases hle : k ≤ s.size
    · have FIN : QIn s.data.toList s.data.toList.length (k + 1) (ps ++ [k]) → ∀ (v' : Value) (W : World), W.ownsRow w.heap.size 3 1 v' (ps.length + 1) (natC ps ++ [.int .i64 (k : Int)]) → Below w.heap.size w W → QRel s w v' (.int .i64 ((k : Int) + 1)) W := fun h v' W h1 h2 =>
        ⟨k + 1, ps ++ [k], by go_num, by omega, by omega, by simp; omega, hide h, by
          have e : natC (ps ++ [k]) = natC ps ++ [.int .i64 (k : Int)] := by simp [natC]
          rw [e, List.length_append]; exact h1, h2⟩
      by_cases heq : k = s.size
      · have hx : QIn s.data.toList s.data.toList.length (k + 1) (ps ++ [k]) := by
          have e : k = s.data.toList.length := by rw [len_data]; exact heq
          have h := HI.out
          rw [e] at h ⊢
          exact qin_last h
        have FO := hide (FIN hx)
        clear FIN hx HI
        subst heq
        have hke : ((s.size : Int) == (s.size : Int)) = true := by simp
        go_wp2_with (first
          | (at_builtin; (refine wpList_push wr rfl _ _ 27 rfl w.heap.size 3 i0 (.int .i64 0) 1 8 Try.underlying27 hi0 hz0' hz1 hz2 rfl (by decide) u3 ps.length (natC ps) rfl hv 1 #[.int .i64 (s.size : Int)] rfl rfl (by simp [Value.oneCell']) (by omega) (by decide) hbw ?_); intro v' w4 hv4 hg4 hat)
          | fail)
        have hbl4 : Below w.heap.size w w4 := bl_own hbl hv hg4 (Nat.le_refl _)
        refine ⟨?_, by first | (simp [intOf]; done) | (simp [intOf]; omega)⟩
        exact FO.out _ _ hv4 hbl4
      · have hlt : k < s.size := by omega
        have hkl : k < s.data.toList.length := by simpa using hlt
        have hsk : s.data.toList[k] = s[k] := rfl
        have hke : ((k : Int) == (s.size : Int)) = false := by simp; omega
        cases hc : contB s[k]
        · have FO := hide (FIN (qin_lead HI.out hkl hc))
          have HC := hide hc
          clear FIN HI hc hsk
          go_wp2_with (first
            | (go_at_call 28; refine (leade_any s[k] _ false _ rfl HC.out).mono ?_; rintro e w1 ⟨rfl, rfl⟩)
            | (at_builtin; (refine wpList_push wr rfl _ _ 27 rfl w.heap.size 3 i0 (.int .i64 0) 1 8 Try.underlying27 hi0 hz0' hz1 hz2 rfl (by decide) u3 ps.length (natC ps) rfl hv 1 #[.int .i64 (k : Int)] rfl rfl (by simp [Value.oneCell']) (by omega) (by decide) hbw ?_); intro v' w4 hv4 hg4 hat)
            | fail)
          have hbl4 : Below w.heap.size w w4 := bl_own hbl hv hg4 (Nat.le_refl _)
          refine ⟨?_, by first | (simp [intOf]; done) | (simp [intOf]; omega)⟩
          exact FO.out _ _ hv4 hbl4
        · have FO : QRel s w u3 (.int .i64 ((k : Int) + 1)) wr := ⟨k + 1, ps, by go_num, by omega, by omega, by omega, hide (qin_cont HI.out hkl hk1 hc), hv, hbl⟩
          have HF := hide FO
          have HC := hide hc
          clear FIN HI hc FO hsk
          go_wp2_with (go_at_call 28; refine (leade_any s[k] _ true _ rfl HC.out).mono ?_; rintro e w1 ⟨rfl, rfl⟩)
          refine ⟨?_, by first | (simp [intOf]; done) | (simp [intOf]; omega)⟩
          exact HF.out
    · have hks : k = s.size + 1 := by omega
      have HS := hide (HI.out.gone (by rw [len_data]; exact hks))
      clear HI
      go_wp2
      go_ret
      exact ⟨_, ps, rfl, hbl, hv, HS⟩
theorem part_same (f : UInt8 → UInt8) (l : List UInt8) (k : Nat) (hk : k < l.length) (h : f l[k] = l[k]) : part f l (k + 1) = part f l k := by
  unfold part
  rw [List.take_succ_eq_append_getElem hk, List.map_append, List.map_singleton, h, List.append_assoc, List.singleton_append, ← List.drop_eq_getElem_cons hk]
set_option maxRecDepth 100000 in
set_option maxHeartbeats 4000000 in
theorem rfold_any (s : ByteArray) (w : World) (hs : s.size ≤ 1000000) :
    Calls Try.prog 19 #[.string s] w fun e w' => e = .returned (.string (mapS downB s)) ∧ Below w.heap.size w w' := by
  have hcv := Go.run_bytes_of_string w 9 50 5 s Try.underlying9 Try.underlying50 Try.underlying5
  have hcap := grownCap_ge w s.size 0 5
  have hcap2 := grownCap_le_maxLen w s.size 0 5 (by unfold maxLen; omega)
  unfold maxLen at hcap2
  have hb := bytes_new w s (grownCap w s.size 0 5) 5 hcap
  have hbl : Below w.heap.size w (w.drew.alloc (.cells (Go.bytesRow s (grownCap w s.size 0 5)) 5 ((Go.bytesRow s (grownCap w s.size 0 5)).size, (Go.bytesRow s (grownCap w s.size 0 5)).size + 1))) := bl_alloc (bl_drew (bl_refl w)) _
  generalize w.drew.alloc (.cells (Go.bytesRow s (grownCap w s.size 0 5)) 5 ((Go.bytesRow s (grownCap w s.size 0 5)).size, (Go.bytesRow s (grownCap w s.size 0 5)).size + 1)) = W3 at *
  generalize grownCap w s.size 0 5 = cap at *
  go_enter Try.func19, Try.ntmps19
  go_wp2
  go_loopw [4] (fun i wr => ∃ k : Nat, k ≤ s.size ∧ i = .int .i64 k ∧ BytesAt wr w.heap.size s.size (part downB s.data.toList k) ∧ Below w.heap.size w wr)
    (fun i _ => s.size - (intOf i).toNat)
  case atStart => exact ⟨0, Nat.zero_le _, rfl, hb, hbl⟩
  case round =>
    obtain ⟨k, hk, rfl, hbr, hblr⟩ := hrel
    clear hb hbl hcv
    by_cases hlt : k < s.size
    · have hkl : k < s.data.toList.length := by simpa using hlt
      have hc := hbr.2.2.1 k hlt
      have hf := hbr.2.2.2 k hlt
      have hp := part_at downB s.data.toList k hkl
      rw [hp] at hc
      have hset := bytes_set hbr k hlt (downB s.data.toList[k])
      rw [part_set downB s.data.toList k hkl] at hset
      have hsame := part_same downB s.data.toList k hkl
      have hdn := downB_nat s.data.toList[k]
      have hdef : downB s.data.toList[k] = if 65 ≤ s.data.toList[k].toNat ∧ s.data.toList[k].toNat ≤ 90 then s.data.toList[k] + 32 else s.data.toList[k] := rfl
      have HDEF := hide hdef
      clear hp hdef
      generalize s.data.toList[k] = c at *
      have h256 : (c.toNat : Int) < 256 := by have := c.toNat_lt; omega
      by_cases hr : 65 ≤ c.toNat ∧ c.toNat ≤ 90
      · have d1 : decide ((65 : Int) ≤ (c.toNat : Int)) = true := by simp; omega
        have d2 : decide ((c.toNat : Int) ≤ 90) = true := by simp; omega
        have hv : ((downB c).toNat : Int) = (c.toNat : Int) + 32 := by rw [hdn, if_pos hr]; omega
        rw [hv] at hset
        have HSET := hide hset
        have hbl2 : Below w.heap.size w (wr.setCell ⟨w.heap.size, k, none⟩ (.int .u8 ((c.toNat : Int) + 32))) := bl_set hblr (Nat.le_refl _) _
        have hb1 : (c.toNat : Int) ≤ 90 := by omega
        clear hset hsame hdn hv hr HDEF
        go_wp2
        refine ⟨?_, by simp [intOf]; omega⟩
        first
          | exact ⟨k + 1, by omega, by go_num, HSET.out, hbl2⟩
          | ((repeat apply Exists.intro); exact ⟨⟨k + 1, by omega, by go_num, HSET.out, hbl2⟩, rfl⟩)
      · have hid : downB c = c := by rw [HDEF.out, if_neg hr]
        have hs2 := hsame hid
        have HSET : Hid (BytesAt wr w.heap.size s.size (part downB s.data.toList (k + 1))) := hide (by rw [hs2]; exact hbr)
        by_cases h65 : 65 ≤ c.toNat
        · have d1 : decide ((65 : Int) ≤ (c.toNat : Int)) = true := by simp; omega
          have d2 : decide ((c.toNat : Int) ≤ 90) = false := by simp; omega
          clear hset hsame hdn hs2 hid hr HDEF
          go_wp2
          refine ⟨?_, by simp [intOf]; omega⟩
          first
            | exact ⟨k + 1, by omega, by go_num, HSET.out, hblr⟩
            | ((repeat apply Exists.intro); exact ⟨⟨k + 1, by omega, by go_num, HSET.out, hblr⟩, rfl⟩)
        · have d1 : decide ((65 : Int) ≤ (c.toNat : Int)) = false := by simp; omega
          clear hset hsame hdn hs2 hid hr HDEF
          go_wp2
          refine ⟨?_, by simp [intOf]; omega⟩
          first
            | exact ⟨k + 1, by omega, by go_num, HSET.out, hblr⟩
            | ((repeat apply Exists.intro); exact ⟨⟨k + 1, by omega, by go_num, HSET.out, hblr⟩, rfl⟩)
    · obtain rfl : k = s.size := by omega
      have hl : part downB s.data.toList s.size = s.data.toList.map downB := by have := part_all downB s.data.toList; simpa using this
      rw [hl] at hbr
      have hlen : (s.data.toList.map downB).length = s.size := by simp
      have hback := Go.run_convert_bytes_back wr 50 9 5 ⟨w.heap.size, 0, none⟩ cap (s.data.toList.map downB) Try.underlying50 Try.underlying5 Try.underlying9 (fun j hj => by
        have hj' : j < s.size := by simpa using hj
        have h1 := hbr.2.2.1 j hj'
        rw [addr_add, Nat.zero_add, h1, getD_lt _ _ hj])
      rw [hlen] at hback
      clear hl hlen hbr
      go_wp2
      go_ret
      exact ⟨rfl, hblr⟩
end Go.Proofs.Ytodnnhhlpinpbaa
