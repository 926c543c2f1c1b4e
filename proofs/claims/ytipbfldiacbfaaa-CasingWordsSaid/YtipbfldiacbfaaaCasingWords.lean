/- Pascal and Camel have just the letters, digits and bytes from 128 on, in their order; they are the same but for the first byte; so has a text whose words stand apart by other signs. Conditions: none beyond the form's own. -/
import Derived.Test.YtipbfldiacbfaaaRows
import Derived.Test.YtipbfldiacbfaaaArgs
import Derived.Test.YtipbfldiacbfaaaCasingB
import Derived.Test.YtipbfldiacbfaaaLater
namespace Go.Proofs.Ytipbfldiacbfaaa.casingWords
open Go.Proofs.Ytipbfldiacbfaaa
open Go.ChangeShapes Go.WideShapes Go.ChangeAt Go.RowKit Go.Deep
open Go.ChangeMaps (open_string shut_string)
set_option linter.unusedVariables false

theorem own : ownKnob Try.prog.godebug = none := by kernel_rfl
theorem laidOut : laidOutB Try.prog = true := by kernel_rfl
-- opt: 8000000
attribute [local go_sem] later_cell later_frozen
theorem turnx_any (s : ByteArray) (way : Int) (X : ByteArray) (e0 : Int) (w : World) (hs : s.size ≤ 1000000) (hl : (⟨(turnL way s.data.toList).toArray⟩ : ByteArray) = X) (he : turnE way = e0) :
    Calls Try.prog 9 #[.string s, .int .i64 way] w fun e w' => e = .returned (.tuple #[.string X, .int .i64 e0]) ∧ Below w.heap.size w w' := by
  rw [← hl, ← he]; exact turn_any s way w hs
theorem of_fin (c : UInt8) : UInt8.ofNat (⟨c.toNat, c.toNat_lt⟩ : Fin 256).val = c := by simp
theorem dd_fin : ∀ n : Fin 256, downB (upB (UInt8.ofNat n.val)) = downB (UInt8.ofNat n.val) := by decide +kernel
theorem dd (c : UInt8) : downB (upB c) = downB c := by have := dd_fin ⟨c.toNat, c.toNat_lt⟩; rwa [of_fin] at this
def dashB (c : UInt8) : UInt8 := if wordB c = true then c else 45
theorem jn_down (l : List UInt8) (st em : Bool) : (jn upB l st em).map downB = (l.filter wordB).map downB := by
  induction l generalizing st em with
  | nil => rfl
  | cons c r ih =>
    rw [jn]
    cases hw : wordB c
    · rw [if_neg (by simp), ih, List.filter_cons, hw, if_neg (by simp)]
    · rw [if_pos rfl, List.map_cons, ih, List.filter_cons, hw, if_pos rfl, List.map_cons]
      congr 1
      cases em <;> cases st <;> simp [dd]
theorem jn_dash (f : UInt8 → UInt8) (l : List UInt8) (st em : Bool) : jn f (l.map dashB) st em = jn f l st em := by
  induction l generalizing st em with
  | nil => rfl
  | cons c r ih =>
    rw [List.map_cons, jn, jn]
    cases hw : wordB c
    · have h1 : dashB c = 45 := by unfold dashB; rw [hw]; rfl
      have h2 : wordB 45 = false := by decide
      rw [h1, h2, if_neg (by simp), if_neg (by simp), ih]
    · have h1 : dashB c = c := by unfold dashB; rw [hw]; rfl
      rw [h1, hw, if_pos rfl, if_pos rfl, ih]
theorem jn_len (f g : UInt8 → UInt8) (l : List UInt8) (st em : Bool) : (jn f l st em).length = (jn g l st em).length := by
  induction l generalizing st em with
  | nil => rfl
  | cons c r ih =>
    rw [jn, jn]
    cases hw : wordB c
    · rw [if_neg (by simp), if_neg (by simp), ih]
    · rw [if_pos rfl, if_pos rfl, List.length_cons, List.length_cons, ih]
theorem jn_le (f : UInt8 → UInt8) (l : List UInt8) (st em : Bool) : (jn f l st em).length ≤ l.length := by
  induction l generalizing st em with
  | nil => exact Nat.le_refl _
  | cons c r ih =>
    rw [jn, List.length_cons]
    have h1 := ih true em
    have h2 := ih false false
    split
    · rw [List.length_cons]; omega
    · omega
theorem jn_rest (f g : UInt8 → UInt8) (l : List UInt8) (st : Bool) : jn f l st false = jn g l st false := by
  induction l generalizing st with
  | nil => rfl
  | cons c r ih =>
    rw [jn, jn]
    split
    · simp only [Bool.false_eq_true, if_false]; rw [ih]
    · rw [ih]
theorem jn_tail (f g : UInt8 → UInt8) (l : List UInt8) (st : Bool) : (jn f l st true).drop 1 = (jn g l st true).drop 1 := by
  induction l generalizing st with
  | nil => rfl
  | cons c r ih =>
    rw [jn, jn]
    split
    · rw [List.drop_succ_cons, List.drop_succ_cons, List.drop_zero, List.drop_zero, jn_rest f g]
    · rw [ih]
theorem part_same (f : UInt8 → UInt8) (l : List UInt8) (k : Nat) (hk : k < l.length) (h : f l[k] = l[k]) : part f l (k + 1) = part f l k := by
  have hp := part_at f l k hk
  have hl := part_len f l k
  rw [← part_set f l k hk, h]
  have hk2 : k < (part f l k).length := by omega
  rw [getD_lt _ _ hk2] at hp
  rw [← hp]
  exact List.set_getElem_self hk2
theorem ext_one (s : ByteArray) (k : Nat) (hk : k < s.data.toList.length) : (s.extract k (k + 1)).data.toList = [s.data.toList[k]] := by
  rw [ByteArray.data_extract]
  simp only [Array.toList_extract, List.extract_eq_take_drop]
  rw [show k + 1 - k = 1 by omega, List.drop_eq_getElem_cons hk]
  rfl
theorem ext_tail (s : ByteArray) : (s.extract 1 s.size).data.toList = s.data.toList.drop 1 := by
  rw [ByteArray.data_extract]
  simp only [Array.toList_extract, List.extract_eq_take_drop]
  exact List.take_of_length_le (by simp)
theorem mk_size (l : List UInt8) : (⟨l.toArray⟩ : ByteArray).size = l.length := by show l.toArray.size = _; simp
theorem word_cases (c : UInt8) (h : wordB c = true) : 48 ≤ c.toNat ∧ c.toNat ≤ 57 ∨ 65 ≤ c.toNat ∧ c.toNat ≤ 90 ∨ 97 ≤ c.toNat ∧ c.toNat ≤ 122 ∨ 128 ≤ c.toNat := of_decide_eq_true h
theorem word_not (c : UInt8) (h : wordB c = false) : c.toNat < 48 ∨ 58 ≤ c.toNat ∧ c.toNat ≤ 64 ∨ 91 ≤ c.toNat ∧ c.toNat ≤ 96 ∨ 123 ≤ c.toNat ∧ c.toNat ≤ 127 := by
  have := of_decide_eq_false h
  omega
set_option maxRecDepth 100000 in
set_option maxHeartbeats 8000000 in
theorem walk (a0 : ByteArray) (w : World) (w0 : a0.size ≤ maxLen) :
    Calls Try.prog 6 #[.string a0] w fun e w' => e = .returned (.bool true) ∧ Below w.heap.size w w' := by
  by_cases hs : a0.size ≤ 200
  · obtain ⟨Pp, hP⟩ : ∃ U : ByteArray, (⟨(turnL 5 a0.data.toList).toArray⟩ : ByteArray) = U := ⟨_, rfl⟩
    obtain ⟨Cc, hC⟩ : ∃ U : ByteArray, (⟨(turnL 4 a0.data.toList).toArray⟩ : ByteArray) = U := ⟨_, rfl⟩
    have HP := hide hP
    have HC := hide hC
    clear hP hC
    go_enter Try.func6, Try.ntmps6
    go_wp2_with fail
    refine (turnx_any a0 5 Pp 0 _ (by omega) HP.out rfl).mono ?_
    rintro e w1 ⟨rfl, hb1⟩
    go_wp2_with fail
    refine (turnx_any a0 4 Cc 0 _ (by omega) HC.out rfl).mono ?_
    rintro e w2 ⟨rfl, hb2⟩
    have hcv := fun (W : World) => Go.run_bytes_of_string W 9 32 5 a0 Try.underlying9 Try.underlying32 Try.underlying5
    have hcap := grownCap_ge w2 a0.size 0 5
    have hcap2 := grownCap_le_maxLen w2 a0.size 0 5 (by unfold maxLen; omega)
    unfold maxLen at hcap2
    have hb := bytes_new w2 a0 (grownCap w2 a0.size 0 5) 5 hcap
    have hbl : Below w.heap.size w (w2.drew.alloc (.cells (Go.bytesRow a0 (grownCap w2 a0.size 0 5)) 5 ((Go.bytesRow a0 (grownCap w2 a0.size 0 5)).size, (Go.bytesRow a0 (grownCap w2 a0.size 0 5)).size + 1))) := bl_alloc (bl_drew (bl_trans hb1 hb2)) _
    go_wp2
    generalize grownCap w2 a0.size 0 5 = cap at *
    have HB1 := hide hb1
    clear hcv
    go_loopw [7, 9] (fun kp i wr => ∃ (k : Nat) (K : ByteArray), k ≤ a0.size ∧ kp = .string K ∧ i = .int .i64 k ∧ K.size ≤ k ∧ Hid (K.data.toList = (a0.data.toList.take k).filter wordB) ∧ BytesAt wr w2.heap.size a0.size (part dashB a0.data.toList k) ∧ Below w.heap.size w wr)
      (fun _ i _ => a0.size - (intOf i).toNat)
    case atStart => exact ⟨0, ⟨#[]⟩, Nat.zero_le _, rfl, rfl, Nat.le_refl _, hide rfl, hb, hbl⟩
    case round =>
      obtain ⟨k, K, hk, rfl, rfl, hK, HK, hbr, hblr⟩ := hrel
      clear hb hbl
      have hw2 : w.heap.size ≤ w2.heap.size := (bl_trans hb1 hb2).size
      by_cases hlt : k < a0.size
      · have hkl : k < a0.data.toList.length := by simpa using hlt
        have hc := hbr.2.2.1 k hlt
        have hf := hbr.2.2.2 k hlt
        have hp := part_at dashB a0.data.toList k hkl
        rw [hp] at hc
        cases hw : wordB a0.data.toList[k]
        · have hset := bytes_set hbr k hlt (dashB a0.data.toList[k])
          rw [part_set dashB a0.data.toList k hkl] at hset
          have h45 : dashB a0.data.toList[k] = 45 := by unfold dashB; rw [hw]; rfl
          rw [h45] at hset
          have HSET : Hid (BytesAt (wr.setCell ⟨w2.heap.size, k, none⟩ (.int .u8 45)) w2.heap.size a0.size (part dashB a0.data.toList (k + 1))) := hide hset
          have HK2 : Hid (K.data.toList = (a0.data.toList.take (k + 1)).filter wordB) := hide (by
            rw [List.take_succ_eq_append_getElem hkl, List.filter_append, ← HK.out, List.filter_cons, hw]; simp)
          have hrg := word_not _ hw
          have hks : K.size ≤ k + 1 := by omega
          clear hp hset h45 hw HK
          have hbl2 : Below w.heap.size w (wr.setCell ⟨w2.heap.size, k, none⟩ (.int .u8 45)) := bl_set hblr hw2 _
          generalize a0.data.toList[k] = c at *
          have h256 : (c.toNat : Int) < 256 := by have := c.toNat_lt; omega
          rcases hrg with h | h | h | h
          · have d1 : decide ((48 : Int) ≤ (c.toNat : Int)) = false := by simp; omega
            have d2 : decide ((c.toNat : Int) ≤ 57) = true := by simp; omega
            have d3 : decide ((97 : Int) ≤ (c.toNat : Int)) = false := by simp; omega
            have d4 : decide ((c.toNat : Int) ≤ 122) = true := by simp; omega
            have d5 : decide ((65 : Int) ≤ (c.toNat : Int)) = false := by simp; omega
            have d6 : decide ((c.toNat : Int) ≤ 90) = true := by simp; omega
            have d7 : decide ((128 : Int) ≤ (c.toNat : Int)) = false := by simp; omega
            go_wp2
            refine ⟨?_, by simp [intOf]; omega⟩
            first
              | exact ⟨k + 1, K, by omega, rfl, by go_num, hks, HK2, HSET.out, hbl2⟩
              | ((repeat apply Exists.intro); exact ⟨⟨k + 1, K, by omega, rfl, by go_num, hks, HK2, HSET.out, hbl2⟩, rfl⟩)
          · have d1 : decide ((48 : Int) ≤ (c.toNat : Int)) = true := by simp; omega
            have d2 : decide ((c.toNat : Int) ≤ 57) = false := by simp; omega
            have d3 : decide ((97 : Int) ≤ (c.toNat : Int)) = false := by simp; omega
            have d4 : decide ((c.toNat : Int) ≤ 122) = true := by simp; omega
            have d5 : decide ((65 : Int) ≤ (c.toNat : Int)) = false := by simp; omega
            have d6 : decide ((c.toNat : Int) ≤ 90) = true := by simp; omega
            have d7 : decide ((128 : Int) ≤ (c.toNat : Int)) = false := by simp; omega
            go_wp2
            refine ⟨?_, by simp [intOf]; omega⟩
            first
              | exact ⟨k + 1, K, by omega, rfl, by go_num, hks, HK2, HSET.out, hbl2⟩
              | ((repeat apply Exists.intro); exact ⟨⟨k + 1, K, by omega, rfl, by go_num, hks, HK2, HSET.out, hbl2⟩, rfl⟩)
          · have d1 : decide ((48 : Int) ≤ (c.toNat : Int)) = true := by simp; omega
            have d2 : decide ((c.toNat : Int) ≤ 57) = false := by simp; omega
            have d3 : decide ((97 : Int) ≤ (c.toNat : Int)) = false := by simp; omega
            have d4 : decide ((c.toNat : Int) ≤ 122) = true := by simp; omega
            have d5 : decide ((65 : Int) ≤ (c.toNat : Int)) = true := by simp; omega
            have d6 : decide ((c.toNat : Int) ≤ 90) = false := by simp; omega
            have d7 : decide ((128 : Int) ≤ (c.toNat : Int)) = false := by simp; omega
            go_wp2
            refine ⟨?_, by simp [intOf]; omega⟩
            first
              | exact ⟨k + 1, K, by omega, rfl, by go_num, hks, HK2, HSET.out, hbl2⟩
              | ((repeat apply Exists.intro); exact ⟨⟨k + 1, K, by omega, rfl, by go_num, hks, HK2, HSET.out, hbl2⟩, rfl⟩)
          · have d1 : decide ((48 : Int) ≤ (c.toNat : Int)) = true := by simp; omega
            have d2 : decide ((c.toNat : Int) ≤ 57) = false := by simp; omega
            have d3 : decide ((97 : Int) ≤ (c.toNat : Int)) = true := by simp; omega
            have d4 : decide ((c.toNat : Int) ≤ 122) = false := by simp; omega
            have d5 : decide ((65 : Int) ≤ (c.toNat : Int)) = true := by simp; omega
            have d6 : decide ((c.toNat : Int) ≤ 90) = false := by simp; omega
            have d7 : decide ((128 : Int) ≤ (c.toNat : Int)) = false := by simp; omega
            go_wp2
            refine ⟨?_, by simp [intOf]; omega⟩
            first
              | exact ⟨k + 1, K, by omega, rfl, by go_num, hks, HK2, HSET.out, hbl2⟩
              | ((repeat apply Exists.intro); exact ⟨⟨k + 1, K, by omega, rfl, by go_num, hks, HK2, HSET.out, hbl2⟩, rfl⟩)
        · have hsame : dashB a0.data.toList[k] = a0.data.toList[k] := by unfold dashB; rw [hw]; rfl
          have HSET : Hid (BytesAt wr w2.heap.size a0.size (part dashB a0.data.toList (k + 1))) := hide (by rw [part_same _ _ _ hkl hsame]; exact hbr)
          have HK2 : Hid ((K ++ a0.extract k (k + 1)).data.toList = (a0.data.toList.take (k + 1)).filter wordB) := hide (by
            rw [ByteArray.toList_data_append, ext_one _ _ hkl, List.take_succ_eq_append_getElem hkl, List.filter_append, ← HK.out, List.filter_cons, hw]; simp)
          have hrg := word_cases _ hw
          have hks : (K ++ a0.extract k (k + 1)).size ≤ k + 1 := by rw [ByteArray.size_append, ByteArray.size_extract]; omega
          clear hp hsame hw HK
          generalize a0.data.toList[k] = c at *
          have h256 : (c.toNat : Int) < 256 := by have := c.toNat_lt; omega
          rcases hrg with h | h | h | h
          · have d1 : decide ((48 : Int) ≤ (c.toNat : Int)) = true := by simp; omega
            have d2 : decide ((c.toNat : Int) ≤ 57) = true := by simp; omega
            have d3 : decide ((97 : Int) ≤ (c.toNat : Int)) = false := by simp; omega
            have d4 : decide ((c.toNat : Int) ≤ 122) = true := by simp; omega
            have d5 : decide ((65 : Int) ≤ (c.toNat : Int)) = false := by simp; omega
            have d6 : decide ((c.toNat : Int) ≤ 90) = true := by simp; omega
            have d7 : decide ((128 : Int) ≤ (c.toNat : Int)) = false := by simp; omega
            go_wp2
            refine ⟨?_, by simp [intOf]; omega⟩
            first
              | exact ⟨k + 1, K ++ a0.extract k (k + 1), by omega, rfl, by go_num, hks, HK2, HSET.out, hblr⟩
              | ((repeat apply Exists.intro); exact ⟨⟨k + 1, K ++ a0.extract k (k + 1), by omega, rfl, by go_num, hks, HK2, HSET.out, hblr⟩, rfl⟩)
          · have d1 : decide ((48 : Int) ≤ (c.toNat : Int)) = true := by simp; omega
            have d2 : decide ((c.toNat : Int) ≤ 57) = false := by simp; omega
            have d3 : decide ((97 : Int) ≤ (c.toNat : Int)) = false := by simp; omega
            have d4 : decide ((c.toNat : Int) ≤ 122) = true := by simp; omega
            have d5 : decide ((65 : Int) ≤ (c.toNat : Int)) = true := by simp; omega
            have d6 : decide ((c.toNat : Int) ≤ 90) = true := by simp; omega
            have d7 : decide ((128 : Int) ≤ (c.toNat : Int)) = false := by simp; omega
            go_wp2
            refine ⟨?_, by simp [intOf]; omega⟩
            first
              | exact ⟨k + 1, K ++ a0.extract k (k + 1), by omega, rfl, by go_num, hks, HK2, HSET.out, hblr⟩
              | ((repeat apply Exists.intro); exact ⟨⟨k + 1, K ++ a0.extract k (k + 1), by omega, rfl, by go_num, hks, HK2, HSET.out, hblr⟩, rfl⟩)
          · have d1 : decide ((48 : Int) ≤ (c.toNat : Int)) = true := by simp; omega
            have d2 : decide ((c.toNat : Int) ≤ 57) = false := by simp; omega
            have d3 : decide ((97 : Int) ≤ (c.toNat : Int)) = true := by simp; omega
            have d4 : decide ((c.toNat : Int) ≤ 122) = true := by simp; omega
            have d5 : decide ((65 : Int) ≤ (c.toNat : Int)) = true := by simp; omega
            have d6 : decide ((c.toNat : Int) ≤ 90) = false := by simp; omega
            have d7 : decide ((128 : Int) ≤ (c.toNat : Int)) = false := by simp; omega
            go_wp2
            refine ⟨?_, by simp [intOf]; omega⟩
            first
              | exact ⟨k + 1, K ++ a0.extract k (k + 1), by omega, rfl, by go_num, hks, HK2, HSET.out, hblr⟩
              | ((repeat apply Exists.intro); exact ⟨⟨k + 1, K ++ a0.extract k (k + 1), by omega, rfl, by go_num, hks, HK2, HSET.out, hblr⟩, rfl⟩)
          · have d1 : decide ((48 : Int) ≤ (c.toNat : Int)) = true := by simp; omega
            have d2 : decide ((c.toNat : Int) ≤ 57) = false := by simp; omega
            have d3 : decide ((97 : Int) ≤ (c.toNat : Int)) = true := by simp; omega
            have d4 : decide ((c.toNat : Int) ≤ 122) = false := by simp; omega
            have d5 : decide ((65 : Int) ≤ (c.toNat : Int)) = true := by simp; omega
            have d6 : decide ((c.toNat : Int) ≤ 90) = false := by simp; omega
            have d7 : decide ((128 : Int) ≤ (c.toNat : Int)) = true := by simp; omega
            go_wp2
            refine ⟨?_, by simp [intOf]; omega⟩
            first
              | exact ⟨k + 1, K ++ a0.extract k (k + 1), by omega, rfl, by go_num, hks, HK2, HSET.out, hblr⟩
              | ((repeat apply Exists.intro); exact ⟨⟨k + 1, K ++ a0.extract k (k + 1), by omega, rfl, by go_num, hks, HK2, HSET.out, hblr⟩, rfl⟩)
      · obtain rfl : k = a0.size := by omega
        have hKl : K.data.toList = a0.data.toList.filter wordB := by
          have h := HK.out
          rwa [List.take_of_length_le (by rw [len_data]; omega)] at h
        have hpa : part dashB a0.data.toList a0.size = a0.data.toList.map dashB := by have := part_all dashB a0.data.toList; simpa using this
        rw [hpa] at hbr
        obtain ⟨X, hX⟩ : ∃ U : ByteArray, (⟨(turnL 2 Pp.data.toList).toArray⟩ : ByteArray) = U := ⟨_, rfl⟩
        have hPl : Pp.data.toList = jn upB a0.data.toList true true := by rw [← HP.out]; rfl
        have hCl : Cc.data.toList = jn downB a0.data.toList true true := by rw [← HC.out]; rfl
        have hX2 : (⟨(turnL 2 K.data.toList).toArray⟩ : ByteArray) = X := by
          rw [← hX, hPl, hKl]
          show (⟨((a0.data.toList.filter wordB).map downB).toArray⟩ : ByteArray) = ⟨((jn upB a0.data.toList true true).map downB).toArray⟩
          rw [jn_down]
        have hZ : (⟨(turnL 5 (⟨(a0.data.toList.map dashB).toArray⟩ : ByteArray).data.toList).toArray⟩ : ByteArray) = Pp := by
          rw [← HP.out]
          show (⟨(jn upB (a0.data.toList.map dashB) true true).toArray⟩ : ByteArray) = ⟨(jn upB a0.data.toList true true).toArray⟩
          rw [jn_dash]
        have hPs : Pp.size ≤ 200 := by
          have := jn_le upB a0.data.toList true true
          rw [← hPl, len_data, len_data] at this
          omega
        have hCP : Cc.size = Pp.size := by rw [← len_data, ← len_data, hPl, hCl]; exact jn_len _ _ _ _ _
        have hE : Cc.extract 1 Cc.size = Pp.extract 1 Pp.size := by
          apply ByteArray.ext
          apply Array.ext'
          rw [ext_tail, ext_tail, hPl, hCl]
          exact jn_tail _ _ _ _
        rw [hCP] at hE
        obtain ⟨n, hn⟩ : ∃ n, Pp.size = n := ⟨_, rfl⟩
        obtain ⟨E, hE0⟩ : ∃ E, Pp.extract 1 n = E := ⟨_, rfl⟩
        rw [hn] at hE hPs hCP
        rw [hE0] at hE
        have HX := hide hX
        have HX2 := hide hX2
        have HZ := hide hZ
        have HN := hide hn
        have HCP := hide hCP
        have HE0 := hide hE0
        have HE := hide hE
        have hmsz : (⟨(a0.data.toList.map dashB).toArray⟩ : ByteArray).size ≤ 1000000 := by rw [mk_size]; simp; omega
        have hPs2 : Pp.size ≤ 1000000 := by omega
        have hms : (a0.data.toList.map dashB).length = a0.size := by simp
        obtain ⟨mm, hmm⟩ : ∃ mm, mm = a0.data.toList.map dashB := ⟨_, rfl⟩
        rw [← hmm] at HZ hmsz hms hbr
        clear hX hX2 hZ hn hCP hE0 hE hpa hKl hPl hCl HK HP HC hmm hlt hk
        go_wp2_with fail
        refine (turnx_any Pp 2 X 0 _ hPs2 HX.out rfl).mono ?_
        rintro e w3 ⟨rfl, hb3⟩
        have hbr3 := bytes_kept hbr (hb3.block _ hbr.2.1)
        clear hbr
        go_wp2_with fail
        refine (turnx_any K 2 X 0 _ (by omega) HX2.out rfl).mono ?_
        rintro e w4 ⟨rfl, hb4⟩
        have hbr4 := bytes_kept hbr3 (hb4.block _ hbr3.2.1)
        clear hbr3
        have hback := Go.run_convert_bytes_back w4 32 9 5 ⟨w2.heap.size, 0, none⟩ cap mm Try.underlying32 Try.underlying5 Try.underlying9 (fun j hj => by
          have hj' : j < a0.size := by omega
          have h1 := hbr4.2.2.1 j hj'
          have h2 : ((⟨w2.heap.size, 0, none⟩ : Addr).add j) = ⟨w2.heap.size, j, none⟩ := by
            rcases Nat.eq_zero_or_pos j with h0 | h0
            · subst h0; simp [Addr.add]
            · simp [Addr.add, show j ≠ 0 by omega]
          rw [h2, h1, getD_lt _ _ hj])
        rw [hms] at hback
        clear hbr4
        go_wp2_with fail
        refine (turnx_any ⟨mm.toArray⟩ 5 Pp 0 _ hmsz HZ.out rfl).mono ?_
        rintro e w5 ⟨rfl, hb5⟩
        clear hback
        have hn := HN.out
        have hCP := HCP.out
        have hE0 := HE0.out
        have hE := HE.out
        by_cases h0 : n = 0
        · have e0 : ((n : Int) == 0) = true := by simp; omega
          go_wp2
          refine wp_region_later (by kernel_rfl) (by kernel_rfl) ?_
          repeat (go_big_quiet_step (first
            | (go_at_call 8; exact later_call (awake17_any _))
            | exact rfl))
          refine wpQuiet_nil ?_
          rintro _ ⟨⟨w9, hb9⟩, rfl⟩
          go_wp2
          go_ret
          exact ⟨rfl, (by repeat (first | exact bl_refl _ | assumption | refine bl_alloc ?_ _ | refine bl_drewN ?_ _ | refine bl_drew ?_ | refine bl_trans ?_ (by assumption)))⟩
        · have e0 : ((n : Int) == 0) = false := by simp; omega
          go_wp2
          refine wp_region_later (by kernel_rfl) (by kernel_rfl) ?_
          repeat (go_big_quiet_step (first
            | (go_at_call 8; exact later_call (awake17_any _))
            | exact rfl))
          refine wpQuiet_nil ?_
          rintro _ ⟨⟨w9, hb9⟩, rfl⟩
          go_wp2
          go_ret
          exact ⟨rfl, (by repeat (first | exact bl_refl _ | assumption | refine bl_alloc ?_ _ | refine bl_drewN ?_ _ | refine bl_drew ?_ | refine bl_trans ?_ (by assumption)))⟩
  · go_enter Try.func6, Try.ntmps6
    go_wp2_with fail
    refine (awake17_any _).mono ?_
    rintro e w1 ⟨rfl, hb1⟩
    go_wp2
    go_ret
    exact ⟨rfl, hb1⟩

set_option maxRecDepth 100000 in
theorem lifted (os : Os) (started : os.Started) (H : Type) (enc : TypeId × Value → H) :
    ReturnsInHanded {} Try.checked os 6 .any (Rows.casingWordsSpec.pre6 enc Try.prog Try.f6 Rows.casingWordsRow.domain false) (Rows.casingWordsSpec.post enc Try.prog Try.f6 false true false false) := by
  refine returnsInHanded_of_change (C := Try.checked) own started (by kernel_rfl) Try.func6
    (ChangeSpec.witness6 (enc := enc) (C := Try.checked) false ⟨#[], #[.string ByteArray.empty], []⟩ 8 (by kernel_rfl) (by kernel_rfl) (by kernel_rfl) (by kernel_rfl)) ?_
  intro W base args ds gs before hval0 hW hcnd _
  have hval : ∀ (j : Nat) t v, Try.f6.params[j]? = some t → args[j]? = some v → Value.okWide Try.prog W .any base t v := hval0
  have hW' := hW
  obtain ⟨p, q, hA0, hV, rfl, hfz, hnd⟩ := hW
  have hA : DataW.TrodAll enc Try.prog W 0 (fun _ => true) true Try.f6.params.toList args.toList ds p := hA0
  rw [Try.params6] at hA hval
  obtain ⟨v0, vs0, d0, ds0, p0, q0, hargs, rfl, rfl, h0, r0⟩ := trodAll_cons hA
  obtain ⟨rfl, rfl, rfl⟩ := trodAll_nil r0
  obtain rfl : args = #[v0] := by cases args; simp_all
  obtain ⟨rfl, rfl⟩ := trodVars_none hV
  have k0 := h0
  have lt0 : ∀ x ∈ p0, x.block < W.heap.size := by obtain ⟨m, hm⟩ := k0; exact DataW.trod_lt m _ _ _ hm
  obtain ⟨a0, rfl, hd0, hp0, w0⟩ := open_string Try.underlying9 (hval 0 9 v0 rfl rfl) h0
  clear hA0 hval0
  refine (walk a0 W w0).mono fun e W' ⟨he, bel⟩ => ?_
  subst he
  exact ⟨_, rfl, _, _, _, [], _, [], hW', trodAll_mk1 (shut_bool Try.underlying4 _), (trodAll_cons_mk (Below.trod laidOut (by kernel_rfl) (of_decide_eq_true (by kernel_rfl)) k0 bel lt0) trodAll_mk0), rfl, bel.frame _, fun h => by cases h⟩

theorem over : Rows.casingWordsRow.holds Try.pinned (OpenSpec.ofChange Rows.casingWordsSpec) :=
  OpenClaim.holds_of_wide 6 Try.f6 rfl rfl rfl rfl rfl rfl rfl ⟨rfl, rfl, rfl, rfl, rfl⟩ rfl rfl rfl rfl rfl (by kernel_rfl) Try.func6 (by kernel_rfl)
    (of_decide_eq_true (by kernel_rfl)) (by unfold Func.isWrapper; first | (rw [if_pos (by decide +kernel)]; kernel_rfl) | (rw [if_neg (by decide +kernel)]; exact ⟨rfl, rfl⟩))
    (fun os started H enc _ => lifted os started H enc)

theorem proved : Rows.CasingWordsSaid := over
end Go.Proofs.Ytipbfldiacbfaaa.casingWords
