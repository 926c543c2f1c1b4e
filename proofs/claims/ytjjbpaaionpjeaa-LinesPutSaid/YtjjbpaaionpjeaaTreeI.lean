/- Trees of pieces of their own: one divided at an offset. Condition: texts that are not too long. -/
import Derived.Test.YtjjbpaaionpjeaaTreeH
import Derived.Deep.RegionWith
namespace Go.Proofs.Ytjjbpaaionpjeaa
open Go.ChangeShapes Go.WideShapes Go.ChangeAt Go.RowKit
attribute [local go_sem ↓] Go.wp_at_zero Go.wp_at_succ
set_option maxRecDepth 100000
theorem glue_at {w0 : World} {S0 R : List Nat} {d g : Nat} {w : World} {a b : T} {ts : List T} (h : Live w0 S0 R d g w (a :: b :: ts)) (r : Nat) (hrR : r ∈ R) (hrd : r ≠ d) (hr : w.cell? ⟨r, 0, none⟩ = some (.pointer (some ⟨d, 0, none⟩))) (hlen : a.text.length + b.text.length ≤ 1000000)
    (A B : Option Addr) (hA : a.addr = A) (hB : b.addr = B) :
    Calls Try.prog 50 #[.pointer (some ⟨r, 0, none⟩), .pointer A, .pointer B] w (GluePost w0 S0 R d g ts (a.text ++ b.text) w) := by
  subst hA hB; exact glue_live h r hrR hrd hr hlen
theorem live_drew {w0 : World} {S0 R : List Nat} {d g : Nat} {w : World} {ts : List T} (h : Live w0 S0 R d g w ts) : Live w0 S0 R d g w.drew ts := (live_bl h (bl_drew (bl_refl w))).1
def DivPost (w0 : World) (S0 R : List Nat) (d g : Nat) (ts : List T) (s : List UInt8) (k : Nat) (w : World) (e : Ending) (w' : World) : Prop := ∃ a b : T, e = .returned (.tuple #[.pointer a.addr, .pointer b.addr]) ∧ a.text = s.take k ∧ b.text = s.drop k ∧ Live w0 S0 R d g w' (a :: b :: ts) ∧ Keeps R d w w'
theorem app_take {a b : List UInt8} {k : Nat} (h : k = a.length) : (a ++ b).take k = a ∧ (a ++ b).drop k = b := by subst h; simp
theorem ext_take (q : ByteArray) (k : Nat) : (q.extract 0 k).data.toList = q.data.toList.take k := by simp
theorem ext_drop (q : ByteArray) (k : Nat) : (q.extract k q.size).data.toList = q.data.toList.drop k := by
  have e : q.size = q.data.toList.length := by simp
  simp [List.take_of_length_le]
theorem div_text {A Q M : List UInt8} {la K : Nat} (hA : A.length = la) (hK : K ≤ Q.length) : (A ++ (Q ++ M)).take (la + K) = A ++ Q.take K ∧ (A ++ (Q ++ M)).drop (la + K) = Q.drop K ++ M := by
  subst hA
  rw [List.take_append, List.drop_append, List.take_of_length_le (by omega), List.drop_of_length_le (by omega)]
  have e : A.length + K - A.length = K := by omega
  rw [e, List.take_append_of_le_length hK, List.drop_append_of_le_length hK]
  exact ⟨rfl, rfl⟩
set_option maxHeartbeats 8000000 in
theorem divide_live {w0 : World} {S0 R : List Nat} {d g : Nat} {w : World} {t : T} {ts : List T} (h : Live w0 S0 R d g w (t :: ts)) (r : Nat) (hrR : r ∈ R) (hrd : r ≠ d) (hr : w.cell? ⟨r, 0, none⟩ = some (.pointer (some ⟨d, 0, none⟩))) (hlen : t.text.length ≤ 1000000) (k : Nat) (hk : k ≤ t.text.length) :
    Calls Try.prog 49 #[.pointer (some ⟨r, 0, none⟩), .pointer t.addr, .int .i64 k] w (DivPost w0 S0 R d g ts t.text k w) := by
  have HP := hide (part_live h (k : Int) hlen (by omega) (by omega))
  have HFT := hide (h.own t (by simp)).2
  clear h
  generalize t.addr = ta at *
  go_enter Try.func49, Try.ntmps49
  go_wp2_with fail
  refine HP.out.mono ?_
  rintro e w1 ⟨a, b, rfl, hp, hl1, hk1⟩
  have HSZ := hide (tsize_any a w1 (hl1.own a (by simp)).1)
  have htx := prt_text hp
  have hla : a.text.length + b.text.length = t.text.length := by rw [htx, List.length_append]
  have hle : a.text.length ≤ k := by
    rcases hp.left with h1 | h1
    · rw [T.text_ps, h1, txP_nil]; simp
    · rw [← T.text_ps] at h1; omega
  have HTX := hide htx
  obtain ⟨la, hlaa⟩ : ∃ la, a.text.length = la := ⟨_, rfl⟩
  rw [hlaa] at HSZ hla hle
  have HLA := hide hlaa
  clear htx hlaa HP
  by_cases hke : k = la
  · subst hke
    have HF : Hid (DivPost w0 S0 R d g ts t.text k w (.returned (.tuple #[.pointer a.addr, .pointer b.addr])) w1) := hide ⟨a, b, rfl, by rw [HTX.out]; exact (app_take HLA.out.symm).1.symm, by rw [HTX.out]; exact (app_take HLA.out.symm).2.symm, hl1, hk1⟩
    clear hl1 hk1 hp
    go_wp2_with fail
    refine HSZ.out.mono ?_
    rintro e w2 ⟨rfl, rfl⟩
    go_wp2
    go_ret2
    exact HF.out
  · obtain ⟨K, hK⟩ : ∃ K : Nat, k = la + K := ⟨k - la, by omega⟩
    have hK0 : 0 < K := by omega
    have hz : ((K : Int) == 0) = false := beq_eq_false_iff_ne.2 (by omega)
    have hsub : (k : Int) - (la : Int) = (K : Int) := by omega
    have hbne : b ≠ .nil := by rintro rfl; simp [T.text] at hla; omega
    obtain ⟨q, m, hq⟩ := ps_cons hbne
    have hqk := hp.right q m hq
    rw [← T.text_ps, HLA.out] at hqk
    have hqo := (hl1.own b (by simp)).2.ok q (by rw [hq]; simp)
    obtain ⟨⟨hq1, hq2⟩, _⟩ := hqo
    have cq := (piece_cell b (hl1.own b (by simp)).1 q (by rw [hq]; simp)).1
    have HFI := hide (first_q b q m w1 (hl1.own b (by simp)).1 (fun z hz => ((hl1.own b (by simp)).2.ok z hz).1.1) hq)
    have HFB := hide (hl1.own b (by simp)).2
    have hbt := text_cons hq
    obtain ⟨qb, qz, qp⟩ := q
    simp only at hqk hq1 hq2 cq HFI hbt
    have hKq : K < qz.size := by omega
    have HPB := hide (part_live (hl1.perm (.swap _ _ _)) (qz.size : Int) (by omega) (by omega) (by omega))
    have HQ := hide hq
    have HBT := hide hbt
    have hlb : (txP m).length + qz.size = b.text.length := by
      have h1 := congrArg List.length hbt
      rw [List.length_append, len_data] at h1; omega
    have HK := hide hK
    obtain ⟨nb, hnb⟩ := addr_some hbne
    rw [hnb] at HFI HPB
    rw [hnb]
    clear hp hl1 hke hbne hq hbt hK
    go_wp2_with fail
    refine HSZ.out.mono ?_
    rintro e w2 ⟨rfl, rfl⟩
    go_wp2_with fail
    refine HFI.out.mono ?_
    rintro e w2 ⟨rfl, rfl⟩
    go_wp2_with fail
    refine HPB.out.mono ?_
    rintro e w2 ⟨c1, c2, rfl, hp2, hl2, hk2⟩
    have hKK := hk1.trans hk2
    have hL := hl2.drop
    have hr2 := keep_cell hKK hrR hrd hr
    have ec := (prt_first (x := (qb, qz, qp)) HFB.out HQ.out hp2).2
    have htc : c2.text = txP m := by rw [T.text_ps, ec]
    have HTC := hide htc
    have hlc : c2.text.length = (txP m).length := by rw [htc]
    have i1 : (0 : Int) ≤ (K : Int) := by omega
    have i2 : (K : Int) ≤ (qz.size : Int) := by omega
    have z1 : (qz.extract 0 K).size = K := by rw [ByteArray.size_extract]; omega
    have z2 : (qz.extract K qz.size).size = qz.size - K := by rw [ByteArray.size_extract]; omega
    have HZ1 := hide z1
    have HZ2 := hide z2
    have HLC := hide hlc
    clear hp2 hl2 hk1 hk2 ec htc hlc z1 z2 HPB HFI HSZ
    replace hL := live_drew hL
    replace hKK : Keeps R d w w2.drew := fun q hq hn => hKK q hq hn
    replace hr2 : w2.drew.cell? ⟨r, 0, none⟩ = some (.pointer (some ⟨d, 0, none⟩)) := hr2
    go_wp2
    go_region_with (first
      | (go_at_call 60; (refine (leaf_live hL r hrd hr2 _ (by first | (rw [HZ1.out]; omega) | (rw [HZ2.out]; omega)) (by first | (rw [HZ1.out]; omega) | (rw [HZ2.out]; omega))).mono ?_); rintro e w3 ⟨n, p, rfl, hpp, hL, hk3⟩; have hr2 := keep_cell hk3 hrR hrd hr2; have hKK := hKK.trans hk3)
      | (go_at_call 50; have hM := Live.two hL 2 0 (by simp only [List.length_cons]; omega) (by simp only [List.eraseIdx_cons_succ, List.eraseIdx_cons_zero, List.length_cons]; omega); simp only [List.getElem_cons_succ, List.getElem_cons_zero, List.eraseIdx_cons_succ, List.eraseIdx_cons_zero] at hM; (refine (glue_at hM r hrR hrd hr2 (by rw [leaf_text, len_data, HLA.out, HZ1.out]; omega) _ _ (by rfl) (by rfl)).mono ?_); rintro e w4 ⟨t5, rfl, htx, hL, hk4⟩; have hr2 := keep_cell hk4 hrR hrd hr2; have hKK := hKK.trans hk4; rw [leaf_text] at htx; have HTX5 := hide htx; clear htx)
      | (go_at_call 50; have hM := Live.two hL 0 1 (by simp only [List.length_cons]; omega) (by simp only [List.eraseIdx_cons_zero, List.length_cons]; omega); simp only [List.getElem_cons_succ, List.getElem_cons_zero, List.eraseIdx_cons_succ, List.eraseIdx_cons_zero] at hM; (refine (glue_at hM r hrR hrd hr2 (by rw [leaf_text, len_data, HLC.out, HZ2.out]; omega) _ _ (by rfl) (by rfl)).mono ?_); rintro e w4 ⟨t6, rfl, htx, hL, hk4⟩; have hr2 := keep_cell hk4 hrR hrd hr2; have hKK := hKK.trans hk4; rw [leaf_text] at htx; have HTX6 := hide htx; clear htx)
      | fail)
    all_goals
      have hdt := div_text (A := a.text) (Q := qz.data.toList) (M := txP m) (la := la) (K := K) HLA.out (by rw [len_data]; omega)
      have HF : Hid (DivPost w0 S0 R d g ts t.text k w (.returned (.tuple #[.pointer t5.addr, .pointer t6.addr])) w4) := hide ⟨t5, t6, rfl, by rw [HTX5.out, HTX.out, HBT.out, HK.out, ext_take]; exact hdt.1.symm, by rw [HTX6.out, HTX.out, HBT.out, HK.out, ext_drop, HTC.out]; exact hdt.2.symm, (by first | exact hL | exact hL.perm (.swap _ _ _)), hKK⟩
      clear hdt hL hKK hM
      go_wp2
      go_ret2
      exact HF.out
end Go.Proofs.Ytjjbpaaionpjeaa
