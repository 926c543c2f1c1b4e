/- Contracts: are rows a set; is a text in one of some rows, folded or not; the named classes; letters turned. No condition but short texts and slices. -/
import Derived.Test.YtcgphknnnjpbkaaRowD
namespace Go.Proofs.Ytcgphknnnjpbkaa
open Go.ChangeShapes Go.WideShapes Go.ChangeAt Go.RowKit
open SetM
attribute [local go_sem ↓] Go.wp_at_zero Go.wp_at_succ
attribute [local go_sem] later_cell later_frozen lt_bl le_bl
theorem part_same (f : UInt8 → UInt8) (l : List UInt8) (k : Nat) (hk : k < l.length) (h : f l[k] = l[k]) : part f l (k + 1) = part f l k := by
  unfold part
  rw [List.take_succ_eq_append_getElem hk, List.map_append, List.map_singleton, h, List.append_assoc, List.singleton_append, ← List.drop_eq_getElem_cons hk]
set_option maxRecDepth 100000 in
set_option maxHeartbeats 4000000 in
theorem rfold_any (s : ByteArray) (w : World) (hs : s.size ≤ 1000000) :
    Calls Try.prog 102 #[.string s] w fun e w' => e = .returned (.string (mapS downB s)) ∧ Below w.heap.size w w' := by
  have hcv := Go.run_bytes_of_string w 9 38 5 s Try.underlying9 Try.underlying38 Try.underlying5
  have hcap := grownCap_ge w s.size 0 5
  have hcap2 := grownCap_le_maxLen w s.size 0 5 (by unfold maxLen; omega)
  unfold maxLen at hcap2
  have hb := bytes_new w s (grownCap w s.size 0 5) 5 hcap
  have hbl : Below w.heap.size w (w.drew.alloc (.cells (Go.bytesRow s (grownCap w s.size 0 5)) 5 ((Go.bytesRow s (grownCap w s.size 0 5)).size, (Go.bytesRow s (grownCap w s.size 0 5)).size + 1))) := bl_alloc (bl_drew (bl_refl w)) _
  generalize w.drew.alloc (.cells (Go.bytesRow s (grownCap w s.size 0 5)) 5 ((Go.bytesRow s (grownCap w s.size 0 5)).size, (Go.bytesRow s (grownCap w s.size 0 5)).size + 1)) = W3 at *
  generalize grownCap w s.size 0 5 = cap at *
  go_enter Try.func102, Try.ntmps102
  go_wp2
  go_loopw [4] (fun i wr => ∃ k : Nat, k ≤ s.size ∧ i = .int .i64 k ∧ BytesAt wr w.heap.size s.size (part downB s.data.toList k) ∧ Below w.heap.size w wr)
    (fun i _ => s.size - (intOf i).toNat)
  case atStart => exact ⟨0, Nat.zero_le _, rfl, hb, hbl⟩
  case round =>
    obtain ⟨k, hk, rfl, hbr, hblr⟩ := hrel
    clear hb hbl hcv
    by_cases hlt : k < s.size
    · have hkl : k < s.data.toList.length := by simpa using hlt
      have hc := hbr.2.2.1 k hlt
      have hf := hbr.2.2.2 k hlt
      have hp := part_at downB s.data.toList k hkl
      rw [hp] at hc
      have hset := bytes_set hbr k hlt (downB s.data.toList[k])
      rw [part_set downB s.data.toList k hkl] at hset
      have hsame := part_same downB s.data.toList k hkl
      have hdn := downB_nat s.data.toList[k]
      have hdef : downB s.data.toList[k] = if 65 ≤ s.data.toList[k].toNat ∧ s.data.toList[k].toNat ≤ 90 then s.data.toList[k] + 32 else s.data.toList[k] := rfl
      have HDEF := hide hdef
      clear hp hdef
      generalize s.data.toList[k] = c at *
      have h256 : (c.toNat : Int) < 256 := by have := c.toNat_lt; omega
      by_cases hr : 65 ≤ c.toNat ∧ c.toNat ≤ 90
      · have d1 : decide ((65 : Int) ≤ (c.toNat : Int)) = true := by simp; omega
        have d2 : decide ((c.toNat : Int) ≤ 90) = true := by simp; omega
        have hv : ((downB c).toNat : Int) = (c.toNat : Int) + 32 := by rw [hdn, if_pos hr]; omega
        rw [hv] at hset
        have HSET := hide hset
        have hbl2 : Below w.heap.size w (wr.setCell ⟨w.heap.size, k, none⟩ (.int .u8 ((c.toNat : Int) + 32))) := bl_set hblr (Nat.le_refl _) _
        have hb1 : (c.toNat : Int) ≤ 90 := by omega
        clear hset hsame hdn hv hr HDEF
        go_wp2
        refine ⟨?_, by simp [intOf]; omega⟩
        first
          | exact ⟨k + 1, by omega, by go_num, HSET.out, hbl2⟩
          | ((repeat apply Exists.intro); exact ⟨⟨k + 1, by omega, by go_num, HSET.out, hbl2⟩, rfl⟩)
      · have hid : downB c = c := by rw [HDEF.out, if_neg hr]
        have hs2 := hsame hid
        have HSET : Hid (BytesAt wr w.heap.size s.size (part downB s.data.toList (k + 1))) := hide (by rw [hs2]; exact hbr)
        by_cases h65 : 65 ≤ c.toNat
        · have d1 : decide ((65 : Int) ≤ (c.toNat : Int)) = true := by simp; omega
          have d2 : decide ((c.toNat : Int) ≤ 90) = false := by simp; omega
          clear hset hsame hdn hs2 hid hr HDEF
          go_wp2
          refine ⟨?_, by simp [intOf]; omega⟩
          first
            | exact ⟨k + 1, by omega, by go_num, HSET.out, hblr⟩
            | ((repeat apply Exists.intro); exact ⟨⟨k + 1, by omega, by go_num, HSET.out, hblr⟩, rfl⟩)
        · have d1 : decide ((65 : Int) ≤ (c.toNat : Int)) = false := by simp; omega
          clear hset hsame hdn hs2 hid hr HDEF
          go_wp2
          refine ⟨?_, by simp [intOf]; omega⟩
          first
            | exact ⟨k + 1, by omega, by go_num, HSET.out, hblr⟩
            | ((repeat apply Exists.intro); exact ⟨⟨k + 1, by omega, by go_num, HSET.out, hblr⟩, rfl⟩)
    · obtain rfl : k = s.size := by omega
      have hl : part downB s.data.toList s.size = s.data.toList.map downB := by have := part_all downB s.data.toList; simpa using this
      rw [hl] at hbr
      have hlen : (s.data.toList.map downB).length = s.size := by simp
      have hback := Go.run_convert_bytes_back wr 38 9 5 ⟨w.heap.size, 0, none⟩ cap (s.data.toList.map downB) Try.underlying38 Try.underlying5 Try.underlying9 (fun j hj => by
        have hj' : j < s.size := by simpa using hj
        have h1 := hbr.2.2.1 j hj'
        rw [addr_add, Nat.zero_add, h1, getD_lt _ _ hj])
      rw [hlen] at hback
      clear hl hlen hbr
      go_wp2
      go_ret
      exact ⟨rfl, hblr⟩
def mayF : List Rw → Bool
  | [] => true
  | [a] => rowB a
  | a :: b :: r => rowB a && bl a.2 b.1 && mayF (b :: r)
theorem mayF_at (l : List Rw) : mayF l = true ↔ ∀ i (h : i < l.length), rowB l[i] = true ∧ ∀ j (hj : i = j + 1), bl (l[j]'(by omega)).2 l[i].1 = true := by
  induction l with
  | nil => simp [mayF]
  | cons a r ih =>
    cases r with
    | nil =>
      simp only [mayF]
      constructor
      · intro h i hi
        have : i = 0 := by simpa using hi
        subst this
        exact ⟨h, fun j hj => by omega⟩
      · intro h
        exact (h 0 (by simp)).1
    | cons b r =>
      rw [mayF, Bool.and_eq_true, Bool.and_eq_true, ih]
      constructor
      · rintro ⟨⟨h1, h2⟩, h3⟩ i hi
        cases i with
        | zero => exact ⟨h1, fun j hj => by omega⟩
        | succ i =>
          have h4 := h3 i (by simpa using hi)
          refine ⟨h4.1, fun j hj => ?_⟩
          obtain rfl : j = i := by omega
          cases j with
          | zero => exact h2
          | succ j => exact h4.2 j rfl
      · intro h
        refine ⟨⟨(h 0 (by simp)).1, (h 1 (by simp)).2 0 rfl⟩, fun i hi => ?_⟩
        have h4 := h (i + 1) (by simp at hi ⊢; omega)
        exact ⟨h4.1, fun j hj => h4.2 (j + 1) (by omega)⟩
theorem mayF_no1 (l : List Rw) (i : Nat) (h : i < l.length) (hn : rowB l[i] = false) : mayF l = false := by
  cases ha : mayF l
  · rfl
  · have := ((mayF_at l).1 ha i h).1; rw [hn] at this; cases this
theorem mayF_no2 (l : List Rw) (j : Nat) (h : j + 1 < l.length) (hn : bl (l[j]'(by omega)).2 l[j + 1].1 = false) : mayF l = false := by
  cases ha : mayF l
  · rfl
  · have := ((mayF_at l).1 ha (j + 1) h).2 j rfl; rw [hn] at this; cases this
def upto (l : List Rw) (k : Nat) : Prop := ∀ i (h : i < l.length), i < k → rowB l[i] = true ∧ ∀ j (hj : i = j + 1), bl (l[j]'(by omega)).2 l[i].1 = true
theorem upto_next (l : List Rw) (k : Nat) (h : upto l k) (hk : k < l.length) (hb : rowB l[k] = true) (hj : ∀ j (hj : k = j + 1), bl (l[j]'(by omega)).2 l[k].1 = true) : upto l (k + 1) := by
  intro i hi hik
  by_cases e : i = k
  · subst e; exact ⟨hb, hj⟩
  · exact h i hi (by omega)
theorem upto_all (l : List Rw) (h : upto l l.length) : mayF l = true := (mayF_at l).2 (fun i hi => h i hi hi)
set_option maxRecDepth 100000 in
set_option maxHeartbeats 4000000 in
theorem mays_any (v : Value) (l : List Rw) (r : Bool) (w : World) (h : RwAt w v l) (hl : l.length ≤ 100000) (hsh : ∀ s ∈ l, Short s) (hr : mayF l = r) :
    Calls Try.prog 64 #[v] w fun e w' => e = .returned (.bool r) ∧ Below w.heap.size w w' := by
  have HW := hide h
  have HSH := hide hsh
  have HR := hide hr
  obtain ⟨aA, cA, rfl⟩ := rwat_len h
  clear h hsh hr
  go_enter Try.func64, Try.ntmps64
  go_wp2
  go_loopw [7] (fun i wr => ∃ k : Nat, i = .int .i64 k ∧ k ≤ l.length ∧ Hid (upto l k) ∧ Below w.heap.size w wr) (fun i _ => l.length - (intOf i).toNat)
  case atStart => exact ⟨0, rfl, Nat.zero_le _, hide (fun i h1 h2 => by omega), bl_refl w⟩
  case round =>
    obtain ⟨k, rfl, hk, HT, hbl⟩ := hrel
    by_cases hlt : k < l.length
    · obtain ⟨b1, o1, c1, hv1, hc1, hm1, hlb1, hcell1⟩ := rwat_some (rwat_below HW.out hbl) (by omega)
      injection hv1 with hv1 _ hv1c
      subst hv1 hv1c
      unfold maxLen at hm1
      obtain ⟨x1, x2⟩ := hcell1 k hlt
      have hss := HSH.out l[k] (List.getElem_mem hlt)
      obtain ⟨p, hp⟩ : ∃ p, rowB l[k] = p := ⟨_, rfl⟩
      have hbl2 := bl_alloc hbl (.cells #[.string l[k].1, .string l[k].2] 47)
      have HP := hide hp
      clear hp
      cases p
      · have HF := hide (HR.out.symm.trans (mayF_no1 l k hlt HP.out))
        have HM := hide (fun W : World => may_any l[k] false W hss HP.out)
        clear hcell1 HT HR HP hss
        generalize l[k] = s at *
        go_wp2
        refine wp_region_later (by kernel_rfl) (by kernel_rfl) ?_
        repeat (go_big_quiet_step (first | (go_at_call 37; exact later_call (HM.out _)) | exact rfl))
        refine wpQuiet_nil ?_
        rintro w9 ⟨⟨_, hb9⟩, rfl⟩
        go_wp2
        go_ret
        exact ⟨ret_bool HF.out.symm, bl_trans hbl2 hb9⟩
      · rcases Nat.eq_zero_or_pos k with hk0 | hk0
        · subst hk0
          have HT2 := hide (upto_next l 0 HT.out hlt HP.out (fun j hj => by omega))
          have HM := hide (fun W : World => may_any l[0] true W hss HP.out)
          clear hcell1 HT HR HP hss
          rw [Nat.zero_mul, Nat.add_zero] at x1 x2
          generalize l[0] = s at *
          go_wp2
          refine wp_region_later (by kernel_rfl) (by kernel_rfl) ?_
          repeat (go_big_quiet_step (first | (go_at_call 37; exact later_call (HM.out _)) | exact rfl))
          refine wpQuiet_nil ?_
          rintro w9 ⟨⟨_, hb9⟩, rfl⟩
          have hb10 := bl_trans hbl2 hb9
          go_wp2
          refine ⟨?_, by first | (simp [intOf]; done) | (simp [intOf]; omega)⟩
          first
            | exact ⟨0 + 1, by go_num, by omega, HT2, hb10⟩
            | ((repeat apply Exists.intro); exact ⟨⟨0 + 1, by go_num, by omega, HT2, hb10⟩, rfl⟩)
        · obtain ⟨j, rfl⟩ : ∃ j, k = j + 1 := ⟨k - 1, by omega⟩
          obtain ⟨y1, y2⟩ := hcell1 j (by omega)
          have HM := hide (fun W : World => may_any l[j + 1] true W hss HP.out)
          have hj0 : decide ((0 : Int) < (j : Int) + 1) = true := by first | (simp; done) | (simp; omega)
          obtain ⟨q, hq⟩ : ∃ q, bl l[j].2 l[j + 1].1 = q := ⟨_, rfl⟩
          have HNX := hide (show q = false → r = false from fun e => HR.out.symm.trans (mayF_no2 l j hlt (hq.trans e)))
          have HYES := hide (show q = true → upto l (j + 1 + 1) from fun e => upto_next l (j + 1) HT.out hlt HP.out (fun j' hj' => by
            obtain rfl : j' = j := by omega
            exact hq.trans e))
          clear hcell1 HT HP hss HR
          generalize l[j + 1] = s at *
          generalize l[j] = t at *
          cases q
          · have HF := hide (HNX.out rfl)
            clear HNX HYES
            go_wp2
            refine wp_region_later (by kernel_rfl) (by kernel_rfl) ?_
            repeat (go_big_quiet_step (first | (go_at_call 37; exact later_call (HM.out _)) | exact rfl))
            refine wpQuiet_nil ?_
            rintro w9 ⟨⟨_, hb9⟩, rfl⟩
            go_wp2
            go_ret
            exact ⟨ret_bool HF.out.symm, bl_trans hbl2 hb9⟩
          · have HT2 := hide (HYES.out rfl)
            clear HNX HYES
            go_wp2
            refine wp_region_later (by kernel_rfl) (by kernel_rfl) ?_
            repeat (go_big_quiet_step (first | (go_at_call 37; exact later_call (HM.out _)) | exact rfl))
            refine wpQuiet_nil ?_
            rintro w9 ⟨⟨_, hb9⟩, rfl⟩
            have hb10 := bl_trans hbl2 hb9
            go_wp2
            refine ⟨?_, by first | (simp [intOf]; done) | (simp [intOf]; omega)⟩
            first
              | exact ⟨j + 1 + 1, by go_num, by omega, HT2, hb10⟩
              | ((repeat apply Exists.intro); exact ⟨⟨j + 1 + 1, by go_num, by omega, HT2, hb10⟩, rfl⟩)
    · obtain rfl : k = l.length := by omega
      have HF := hide (HR.out.symm.trans (upto_all l HT.out))
      clear HT HR hlt
      go_wp2
      go_ret
      exact ⟨ret_bool HF.out.symm, hbl⟩
end Go.Proofs.Ytcgphknnnjpbkaa
