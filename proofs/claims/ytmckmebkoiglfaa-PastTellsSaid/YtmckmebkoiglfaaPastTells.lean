/- Whatever is pushed, gone back to, gone forth to, is what two lists tell: those behind, at most so many, and those ahead. Conditions: none beyond the form's own. -/
import Derived.Test.YtmckmebkoiglfaaRows
import Derived.Test.YtmckmebkoiglfaaArgs
import Derived.Test.YtmckmebkoiglfaaPastO
import Derived.Test.YtmckmebkoiglfaaLow
namespace Go.Proofs.Ytmckmebkoiglfaa.pastTells
open Go.Proofs.Ytmckmebkoiglfaa
open Go.ChangeShapes Go.WideShapes Go.ChangeAt Go.RowKit Go.Deep
open Go.ChangeMaps (open_string shut_string)
set_option linter.unusedVariables false

theorem own : ownKnob Try.prog.godebug = none := by kernel_rfl
theorem laidOut : laidOutB Try.prog = true := by kernel_rfl
-- opt:16000000
def Prot (w : World) (vb va : Value) (k : Nat) : Prop := k < w.heap.size ∨ vb.ownBlock = some k ∨ va.ownBlock = some k
theorem off_len2 {w : World} {v : Value} {xs : List Int} {n : Nat} (h : OffAt w v xs) (hn : xs.length = n) : ∃ a c, v = .slice a n c := by
  subst hn; exact off_len h
def NewPost (f : Int) (w : World) (e : Ending) (w' : World) : Prop := ∃ p, e = .returned (.tuple #[.pointer p, .int .i64 f]) ∧ Below w.heap.size w w'
theorem newf_any (a : Int) (f : Int) (w : World) (hf : (if 1 ≤ a ∧ a ≤ 100 then 0 else 2) = f) :
    Calls Try.prog 9 #[.int .i64 a] w (NewPost f w) := by
  by_cases h1 : a < 1
  · rw [if_neg (by omega)] at hf
    subst hf
    go_enter Try.func9, Try.ntmps9
    go_wp2
    go_ret2
    exact ⟨none, rfl, bl_refl w⟩
  · by_cases h2 : 100 < a
    · rw [if_neg (by omega)] at hf
      subst hf
      go_enter Try.func9, Try.ntmps9
      go_wp2
      go_ret2
      exact ⟨none, rfl, bl_refl w⟩
    · rw [if_pos (by omega)] at hf
      subst hf
      go_enter Try.func9, Try.ntmps9
      go_wp2
      go_ret2
      exact ⟨_, rfl, bl_alloc (bl_refl w) _⟩
theorem own_heap {w w' : World} {base n : Nat} {v : Value} {xs : List Value} {e : TypeId} {z : Nat} (h : w.ownsRow base e z v n xs) (hk : ∀ g, v.ownBlock = some g → w'.heap[g]? = w.heap[g]?) : w'.ownsRow base e z v n xs := by
  rcases h.2 with h2 | ⟨g, cap, cur, rfl, hb, hh, r⟩
  · exact ⟨h.1, .inl h2⟩
  · exact ⟨h.1, .inr ⟨g, cap, cur, rfl, hb, by rw [hk g rfl]; exact hh, r⟩⟩
theorem pastQ_all {w : World} {P : Nat → Prop} {b most : Nat} {E L : List Int} (h : PastQ w P b most E L) : ∀ k, P k → k < w.heap.size := by
  obtain ⟨h⟩ := h; exact h.all
theorem pastQ_step {w w' : World} {P P' : Nat → Prop} {b most : Nat} {E L : List Int} (h : PastQ w P b most E L) (hs : w.heap.size ≤ w'.heap.size) (hk : ∀ k, k < w.heap.size → ¬P k → w'.heap[k]? = w.heap[k]?)
    (hP : ∀ k, P' k → (P k ∨ w.heap.size ≤ k) ∧ k < w'.heap.size) : PastQ w' P' b most E L := by
  obtain ⟨⟨vE, vL, h1, h2, h3, h4, h5, h6, h7, h8, h9, h10⟩⟩ := h
  have hb := (Array.getElem?_eq_some_iff.1 h2).1
  refine ⟨⟨vE, vL, fun hp => ?_, by rw [hk b hb h1]; exact h2, own_heap h3 (fun g hg => hk g (World.ownsRow.lt h3 g hg).2 (h8 g hg)), own_heap h4 (fun g hg => hk g (World.ownsRow.lt h4 g hg).2 (h9 g hg)), h5, h6, h7, fun k hkk hp => ?_, fun k hkk hp => ?_, fun k hp => (hP k hp).2⟩⟩
  · rcases (hP b hp).1 with h | h
    · exact h1 h
    · omega
  · rcases (hP k hp).1 with h | h
    · exact h8 k hkk h
    · have := (World.ownsRow.lt h3 k hkk).2; omega
  · rcases (hP k hp).1 with h | h
    · exact h9 k hkk h
    · have := (World.ownsRow.lt h4 k hkk).2; omega
theorem manye_any (b most m l : Nat) (P : Nat → Prop) (E L : List Int) (w : World) (h : PastQ w P b most E L) (hm : E.length = m) (hl : L.length = l) :
    Calls Try.prog 13 #[.pointer (some ⟨b, 0, none⟩)] w fun e w' => e = .returned (.tuple #[.int .i64 m, .int .i64 l]) ∧ Kept P w w' ∧ PastQ w' P b most E L := by
  subst hm hl; exact manyQ_any b most P E L w h
theorem kept_low {w a w' : World} {vb va : Value} (hb : Below w.heap.size w a) (h : Kept (Prot w vb va) a w') : Below w.heap.size w w' :=
  ⟨h.os.trans hb.os, h.tape.trans hb.tape, h.output.trans hb.output, Nat.le_trans hb.size h.size, fun k hk => (h.block k (.inl hk)).trans (hb.block k hk)⟩
/-- What a round keeps. -/
structure TR (w : World) (n b : Nat) (vb va : Value) (E L : List Int) (wr : World) : Prop where
  atE : OffAt wr vb E
  atL : OffAt wr va L
  apart : Off vb va
  past : PastQ wr (Prot w vb va) b n E L
  bel : Below w.heap.size w wr
  hiE : ∀ g, vb.ownBlock = some g → w.heap.size ≤ g
  hiL : ∀ g, va.ownBlock = some g → w.heap.size ≤ g
def TRel (w : World) (n b len : Nat) (vb va i : Value) (wr : World) : Prop :=
  ∃ (k : Nat) (E L : List Int), i = .int .i64 k ∧ k ≤ len ∧ E.length ≤ k ∧ L.length ≤ k ∧ Hid (TR w n b vb va E L wr)
/-- A call of the history's that leaves the law's rows. -/
theorem tr_call {w wr w1 : World} {n b : Nat} {vb va : Value} {E L E' L' : List Int} (h : TR w n b vb va E L wr) (hk : Kept (Prot w vb va) wr w1) (hp : PastQ w1 (Prot w vb va) b n E' L') :
    OffAt w1 vb E ∧ OffAt w1 va L ∧ Below w.heap.size w w1 :=
  ⟨off_kept h.atE fun g hg => hk.block g (.inr (.inl hg)), off_kept h.atL fun g hg => hk.block g (.inr (.inr hg)), kept_low h.bel hk⟩
theorem tr_same {w wr w1 : World} {n b : Nat} {vb va : Value} {E L : List Int} (h : TR w n b vb va E L wr) (hk : Kept (Prot w vb va) wr w1) (hp : PastQ w1 (Prot w vb va) b n E L) : TR w n b vb va E L w1 :=
  ⟨(tr_call h hk hp).1, (tr_call h hk hp).2.1, h.apart, hp, (tr_call h hk hp).2.2, h.hiE, h.hiL⟩
/-- Behind a push: one more behind, perhaps the first one gone, none ahead. -/
theorem tr_push {w wr w1 w2 : World} {n b : Nat} {vb va v2 v3 : Value} {E L E' : List Int} {x : Int} (h : TR w n b vb va E L wr) (hk : Kept (Prot w vb va) wr w1) (hp : PastQ w1 (Prot w vb va) b n E' []) (hg : Grew w1 vb E x v2 w2)
    (h3 : OffAt w2 v3 E') (hb3 : ∀ g, v3.ownBlock = some g → v2.ownBlock = some g) : TR w n b v3 (.slice none 0 0) E' [] w2 := by
  have hc := tr_call h hk hp
  have hall := pastQ_all hp
  have hsz : w.heap.size ≤ w1.heap.size := hc.2.2.size
  have hnew : ∀ g, v3.ownBlock = some g → Prot w vb va g ∨ w1.heap.size ≤ g := fun g hgg => by
    rcases hg.blk with e | ⟨q, e, hq⟩
    · exact .inl (.inr (.inl (by rw [← e]; exact hb3 g hgg)))
    · have := hb3 g hgg; rw [e] at this; injection this with this; subst this; exact .inr hq
  refine ⟨h3, .inl ⟨rfl, rfl⟩, .inr (.inl rfl), pastQ_step hp hg.grown.size (fun k hkk hn => hg.grown.block k hkk (fun e => hn (.inr (.inl e.symm)))) (fun k hP => ?_), ?_, fun g hgg => ?_, fun g hgg => by simp [Value.ownBlock] at hgg⟩
  · rcases hP with hP | hP | hP
    · exact ⟨.inl (.inl hP), by have := hg.grown.size; omega⟩
    · exact ⟨hnew k hP, off_lt h3 k hP⟩
    · simp [Value.ownBlock] at hP
  · exact hc.2.2.grown hg.grown hsz (fun k hkk => h.hiE k hkk)
  · rcases hnew g hgg with hP | hP
    · rcases hP with hP | hP | hP
      · have hlt := off_lt h.atE
        rcases hg.blk with e | ⟨q, e, hq⟩
        · have := hb3 g hgg; rw [e] at this; exact h.hiE g this
        · have := hb3 g hgg; rw [e] at this; injection this with this; omega
      · exact h.hiE g hP
      · exact h.hiL g hP
    · omega
/-- Behind a step back or forth: one less here, one more there. -/
theorem tr_step {w wr w1 w2 : World} {n b : Nat} {vb va v3 v2 : Value} {E L E0 : List Int} {x : Int} (h : TR w n b vb va E L wr) (hk : Kept (Prot w vb va) wr w1) (hp : PastQ w1 (Prot w vb va) b n E0 (L ++ [x])) (hg : Grew w1 va L x v2 w2)
    (h3 : OffAt w1 v3 E0) (hb3 : v3.ownBlock = vb.ownBlock) : TR w n b v3 v2 E0 (L ++ [x]) w2 := by
  have hc := tr_call h hk hp
  have hall := pastQ_all hp
  have hsz : w.heap.size ≤ w1.heap.size := hc.2.2.size
  have hap : ∀ g, v3.ownBlock = some g → va.ownBlock ≠ some g := fun g hgg e => by
    rw [hb3] at hgg
    rcases h.apart with h1 | h1 | h1
    · rw [h1] at hgg; cases hgg
    · rw [h1] at e; cases e
    · exact h1 (by rw [hgg, e])
  have h3' : OffAt w2 v3 E0 := off_kept h3 fun g hgg => hg.grown.block g (off_lt h3 g hgg) (fun e => hap g hgg e.symm)
  refine ⟨h3', hg.at', ?_, pastQ_step hp hg.grown.size (fun k hkk hn => hg.grown.block k hkk (fun e => hn (.inr (.inr e.symm)))) (fun k hP => ?_), ?_, fun g hgg => h.hiE g (by rw [← hb3]; exact hgg), fun g hgg => ?_⟩
  · cases hv : v3.ownBlock with
    | none => exact .inl hv
    | some g =>
      rcases hg.blk with e | ⟨q, e, hq⟩
      · refine .inr (.inr ?_); rw [hv, e]; exact fun e2 => hap g hv e2.symm
      · refine .inr (.inr ?_); rw [hv, e]; intro e2; injection e2 with e2; have := off_lt h3 g hv; omega
  · rcases hP with hP | hP | hP
    · exact ⟨.inl (.inl hP), by have := hg.grown.size; omega⟩
    · exact ⟨.inl (.inr (.inl (by rw [← hb3]; exact hP))), off_lt h3' k hP⟩
    · refine ⟨?_, off_lt hg.at' k hP⟩
      rcases hg.blk with e | ⟨q, e, hq⟩
      · exact .inl (.inr (.inr (by rw [← e]; exact hP)))
      · rw [e] at hP; injection hP with hP; subst hP; exact .inr hq
  · exact hc.2.2.grown hg.grown hsz (fun k hkk => h.hiL k hkk)
  · rcases hg.blk with e | ⟨q, e, hq⟩
    · rw [e] at hgg; exact h.hiL g hgg
    · rw [e] at hgg; injection hgg with hgg; omega
theorem off_comm' {v u : Value} (h : Off v u) : Off u v := off_comm h
/-- The history, told the other way round. -/
theorem tr_fore {w wr w1 w2 : World} {n b : Nat} {vb va v3 v2 : Value} {E L L0 : List Int} {x : Int} (h : TR w n b vb va E L wr) (hk : Kept (Prot w vb va) wr w1) (hp : PastQ w1 (Prot w vb va) b n (E ++ [x]) L0) (hg : Grew w1 vb E x v2 w2)
    (h3 : OffAt w1 v3 L0) (hb3 : v3.ownBlock = va.ownBlock) : TR w n b v2 v3 (E ++ [x]) L0 w2 := by
  have hc := tr_call h hk hp
  have hsz : w.heap.size ≤ w1.heap.size := hc.2.2.size
  have hap : ∀ g, v3.ownBlock = some g → vb.ownBlock ≠ some g := fun g hgg e => by
    rw [hb3] at hgg
    rcases h.apart with h1 | h1 | h1
    · rw [h1] at e; cases e
    · rw [h1] at hgg; cases hgg
    · exact h1 (by rw [hgg, e])
  have h3' : OffAt w2 v3 L0 := off_kept h3 fun g hgg => hg.grown.block g (off_lt h3 g hgg) (fun e => hap g hgg e.symm)
  refine ⟨hg.at', h3', ?_, pastQ_step hp hg.grown.size (fun k hkk hn => hg.grown.block k hkk (fun e => hn (.inr (.inl e.symm)))) (fun k hP => ?_), ?_, fun g hgg => ?_, fun g hgg => h.hiL g (by rw [← hb3]; exact hgg)⟩
  · refine off_comm' ?_
    cases hv : v3.ownBlock with
    | none => exact .inl hv
    | some g =>
      rcases hg.blk with e | ⟨q, e, hq⟩
      · refine .inr (.inr ?_); rw [hv, e]; exact fun e2 => hap g hv e2.symm
      · refine .inr (.inr ?_); rw [hv, e]; intro e2; injection e2 with e2; have := off_lt h3 g hv; omega
  · rcases hP with hP | hP | hP
    · exact ⟨.inl (.inl hP), by have := hg.grown.size; omega⟩
    · refine ⟨?_, off_lt hg.at' k hP⟩
      rcases hg.blk with e | ⟨q, e, hq⟩
      · exact .inl (.inr (.inl (by rw [← e]; exact hP)))
      · rw [e] at hP; injection hP with hP; subst hP; exact .inr hq
    · exact ⟨.inl (.inr (.inr (by rw [← hb3]; exact hP))), off_lt h3' k hP⟩
  · exact hc.2.2.grown hg.grown hsz (fun k hkk => h.hiE k hkk)
  · rcases hg.blk with e | ⟨q, e, hq⟩
    · rw [e] at hgg; exact h.hiE g hgg
    · rw [e] at hgg; injection hgg with hgg; omega
set_option maxRecDepth 100000 in
set_option maxHeartbeats 16000000 in
theorem walk (a0 : Int) (a1 : Option Addr) (len1 cap1 : Nat) (z1 : List Int) (w : World) (w0 : (Lit.int .i64 a0).wf = true) (w1 : IsInts .i64 w a1 len1 cap1 z1) :
    Calls Try.prog 3 #[.int .i64 a0, .slice a1 len1 cap1] w fun e w' => e = .returned (.bool true) ∧ Below w.heap.size w w' := by
  by_cases hs : len1 ≤ 200
  · obtain ⟨i0, hi0, hz0', hz1, hz2⟩ := info_parts infoI
    have hkl := lowN_lt a0 100 (by omega)
    have HW := hide w1
    obtain ⟨f, hf⟩ : ∃ f : Int, (if 1 ≤ a0 ∧ a0 ≤ 100 then 0 else 2) = f := ⟨_, rfl⟩
    have HF := hide hf
    clear hf w1
    go_enter Try.func3, Try.ntmps3
    go_wp2_with fail
    refine (low_any a0 100 _ (by omega) (by omega)).mono ?_
    rintro e w1 ⟨rfl, rfl⟩
    obtain ⟨n, hn⟩ : ∃ n, 1 + lowN a0 100 = n := ⟨_, rfl⟩
    have hn1 : 1 ≤ n := by omega
    have hn2 : n ≤ 100 := by omega
    have hni : (1 : Int) + (lowN a0 100 : Int) = (n : Int) := by omega
    go_wp2_with fail
    clear hni hn hkl
    refine (newQ_any n (fun k => k < w.heap.size) _ hn1 hn2 (fun k hk => hk)).mono ?_
    rintro e w1 ⟨rfl, hb1, hs1, hp1⟩
    have HB1 := hide hb1
    have HP1 := hide hp1
    clear hb1 hp1
    go_wp2_with fail
    refine (newf_any a0 f _ HF.out).mono ?_
    rintro e w2 ⟨p, rfl, hb2⟩
    have hp2 := pastQ_below HP1.out hb2
    have hbl2 := bl_trans HB1.out hb2
    have htr : TR w n w.heap.size (.slice none 0 0) (.slice none 0 0) [] [] w2 := ⟨.inl ⟨rfl, rfl⟩, .inl ⟨rfl, rfl⟩, .inl rfl, pastQ_step hp2 (Nat.le_refl _) (fun _ _ _ => rfl) (fun k hk => by
      rcases hk with hk | hk | hk
      · exact ⟨.inl hk, by have := hbl2.size; omega⟩
      · simp [Value.ownBlock] at hk
      · simp [Value.ownBlock] at hk), hbl2, fun g hg => by simp [Value.ownBlock] at hg, fun g hg => by simp [Value.ownBlock] at hg⟩
    have HTR := hide htr
    clear htr hp2 hbl2 hb2 HP1 HB1
    have hfs : (f = 0 ∧ 1 ≤ a0 ∧ a0 ≤ 100) ∨ (f = 2 ∧ a0 < 1) ∨ (f = 2 ∧ 1 ≤ a0 ∧ 100 < a0) := by
      have h0 := HF.out
      by_cases hr : 1 ≤ a0 ∧ a0 ≤ 100
      · rw [if_pos hr] at h0; omega
      · rw [if_neg hr] at h0; omega
    clear HF
    rcases hfs with ⟨rfl, hq1, hq2⟩ | ⟨rfl, hq1⟩ | ⟨rfl, hq1, hq2⟩
    all_goals
      as_aux_lemma =>
      go_wp2
      go_loopw [10, 11, 12] (fun vb va i wr => TRel w n w.heap.size len1 vb va i wr) (fun _ _ i _ => len1 - (intOf i).toNat)
      case atStart => exact ⟨0, [], [], rfl, Nat.zero_le _, Nat.le_refl _, Nat.le_refl _, HTR⟩
      case round =>
        clear HTR
        obtain ⟨k, E, L, rfl, hk, hE, hL, HT⟩ := hrel
        by_cases hlt : k < len1
        · obtain ⟨b1, o1, rfl, hz1', hc1, hm1, hcell⟩ := ints_cell HW.out (by omega)
          have hx := cell_later HT.out.bel (hcell k (by omega))
          generalize z1.getD k 0 = x at *
          clear hcell
          unfold maxLen at hm1
          obtain ⟨ab, cb, rfl⟩ := off_len HT.out.atE
          obtain ⟨al, cl, rfl⟩ := off_len HT.out.atL
          have hd5 := lowN_lt x 5 (by omega)
          go_wp2_with fail
          refine (low_any x 5 _ (by omega) (by omega)).mono ?_
          rintro e w3 ⟨rfl, rfl⟩
          generalize lowN x 5 = d at *
          have hds : (d = 0 ∨ d = 1 ∨ d = 2) ∨ d = 3 ∨ d = 4 := by omega
          clear hd5
          rcases hds with hd | rfl | rfl
          · rcases hd with rfl | rfl | rfl
            all_goals
              as_aux_lemma =>
                by_cases hbig : n < E.length + 1
                · have hmd : decide ((n : Int) < (E.length : Int) + 1) = true := by simp; omega
                  have hpu := pushQ_any w.heap.size n (Prot w (.slice ab E.length cb) (.slice al L.length cl)) E L x wr HT.out.past (by omega)
                  rw [if_pos hbig] at hpu
                  have HPU := hide hpu
                  clear hpu hbig
                  go_wp2_with fail
                  refine HPU.out.mono ?_
                  rintro e w3 ⟨rfl, hk3, hp3⟩
                  have hc3 := (tr_call HT.out hk3 hp3).1
                  have HK3 := hide hk3
                  have HP3 := hide hp3
                  clear hk3 hp3 HPU
                  go_wp2_with (first
                    | (at_builtin; (refine wpList_off w3 rfl (.tmp 118) (.tmp 120) rfl i0 hi0 hz0' hz1 hz2 (.slice ab E.length cb) E x rfl hc3 (by omega) rfl ?_); intro v4 w4 hg4; obtain ⟨a4, c4, rfl⟩ := off_len2 hg4.at' (show (E ++ [x]).length = E.length + 1 by simp); obtain ⟨y, E1, he1⟩ := List.exists_cons_of_length_pos (show 0 < (E ++ [x]).length by simp); have hat4 := hg4.at'; rw [he1] at hat4; have ht4 := off_tail hat4; have hsl := fun (W : World) => run_slice_from (P := Try.prog) 22 3 i0 Try.underlying22 hi0 a4 (E.length + 1) c4 1 1 rfl (by omega) W; rw [hz1] at hsl; have HG4 := hide hg4; have HT4 := hide ht4; have HE1 := hide he1; obtain ⟨a5, ha5⟩ : ∃ a5, (if c4 = 1 then a4 else a4.map (fun q => q.add (1 * 1))) = a5 := ⟨_, rfl⟩; rw [ha5] at hsl; have HA5 := hide ha5; clear ha5 hg4 ht4 hat4 he1)
                    | fail)
                  have hlE1 : E1.length = E.length := by have := congrArg List.length HE1.out; simp at this; omega
                  have ht5 := HT4.out
                  rw [HA5.out] at ht5
                  have hdrop : (E ++ [x]).drop 1 = E1 := by rw [HE1.out]; rfl
                  have hp3' := HP3.out
                  rw [hdrop] at hp3'
                  have HT2 := hide (tr_push HT.out HK3.out hp3' HG4.out ht5.1 ht5.2.2.2)
                  rw [hlE1] at HT2
                  clear hsl ht5 hdrop hp3' HP3 HG4 HT4 HE1 HA5 HK3
                  go_wp2_with fail
                  refine (manye_any w.heap.size n E.length 0 _ E1 [] _ HT2.out.past hlE1 rfl).mono ?_
                  rintro e w6 ⟨rfl, hk6, hp6⟩
                  have HT6 := hide (tr_same HT2.out hk6 hp6)
                  clear hk6 hp6
                  go_wp2
                  refine ⟨?_, by first | (simp [intOf]; done) | (simp [intOf]; omega)⟩
                  exact ⟨k + 1, E1, [], by go_num, by omega, by first | omega | (simp; done) | (simp; omega), by first | omega | (simp; done) | (simp; omega), HT6⟩
                · have hmd : decide ((n : Int) < (E.length : Int) + 1) = false := by simp; omega
                  have hpu := pushQ_any w.heap.size n (Prot w (.slice ab E.length cb) (.slice al L.length cl)) E L x wr HT.out.past (by omega)
                  rw [if_neg hbig] at hpu
                  have HPU := hide hpu
                  clear hpu hbig
                  go_wp2_with fail
                  refine HPU.out.mono ?_
                  rintro e w3 ⟨rfl, hk3, hp3⟩
                  have hc3 := (tr_call HT.out hk3 hp3).1
                  have HK3 := hide hk3
                  have HP3 := hide hp3
                  clear hk3 hp3 HPU
                  go_wp2_with (first
                    | (at_builtin; (refine wpList_off w3 rfl (.tmp 118) (.tmp 120) rfl i0 hi0 hz0' hz1 hz2 (.slice ab E.length cb) E x rfl hc3 (by omega) rfl ?_); intro v4 w4 hg4; obtain ⟨a4, c4, rfl⟩ := off_len2 hg4.at' (show (E ++ [x]).length = E.length + 1 by simp); have HG4 := hide hg4; clear hg4)
                    | fail)
                  have HT2 := hide (tr_push HT.out HK3.out HP3.out HG4.out HG4.out.at' (fun _ h => h))
                  clear HP3 HG4 HK3
                  go_wp2_with fail
                  refine (manye_any w.heap.size n (E.length + 1) 0 _ (E ++ [x]) [] _ HT2.out.past (by simp) rfl).mono ?_
                  rintro e w6 ⟨rfl, hk6, hp6⟩
                  have HT6 := hide (tr_same HT2.out hk6 hp6)
                  clear hk6 hp6
                  go_wp2
                  refine ⟨?_, by first | (simp [intOf]; done) | (simp [intOf]; omega)⟩
                  exact ⟨k + 1, (E ++ [x]), [], by go_num, by omega, by first | omega | (simp; done) | (simp; omega), by first | omega | (simp; done) | (simp; omega), HT6⟩
          · as_aux_lemma =>
              rcases List.eq_nil_or_concat E with rfl | ⟨E0, y, rfl⟩
              · have hnone := backQ_none w.heap.size n (Prot w (.slice ab 0 cb) (.slice al L.length cl)) L x wr HT.out.past
                have HN := hide hnone
                clear hnone
                go_wp2_with fail
                refine HN.out.mono ?_
                rintro e w3 ⟨rfl, hk3, hp3⟩
                have HT2 := hide (tr_same HT.out hk3 hp3)
                clear hk3 hp3 HN
                go_wp2_with fail
                refine (manye_any w.heap.size n 0 L.length _ [] L _ HT2.out.past rfl rfl).mono ?_
                rintro e w6 ⟨rfl, hk6, hp6⟩
                have HT6 := hide (tr_same HT2.out hk6 hp6)
                clear hk6 hp6
                go_wp2
                refine ⟨?_, by first | (simp [intOf]; done) | (simp [intOf]; omega)⟩
                exact ⟨k + 1, [], L, by go_num, by omega, by first | omega | (simp; done) | (simp; omega), by first | omega | (simp; done) | (simp; omega), HT6⟩
              · rw [List.concat_eq_append] at *
                obtain ⟨m, hm⟩ : ∃ m, E0.length = m := ⟨_, rfl⟩
                have hlen : (E0 ++ [y]).length = m + 1 := by simp [hm]
                rw [hlen] at HT hE
                have HB := hide (backQ_any w.heap.size n m (Prot w (.slice ab (m + 1) cb) (.slice al L.length cl)) E0 L y x wr HT.out.past hm (by omega) (by omega))
                go_wp2_with fail
                refine HB.out.mono ?_
                rintro e w3 ⟨rfl, hk3, hp3⟩
                obtain ⟨hcE, hcL, _⟩ := tr_call HT.out hk3 hp3
                obtain ⟨g, off, rfl, hmc, hcm, hcy⟩ := off_last hcE (by omega)
                rw [hm] at hcy
                unfold maxLen at hcm
                have hcut := off_cut hcE
                rw [hm] at hcut
                have hslo := fun (W : World) => run_slice_to (P := Try.prog) 22 3 i0 Try.underlying22 hi0 (some ⟨g, off, none⟩) (m + 1) cb m (m : Int) rfl (by omega) W
                have HK3 := hide hk3
                have HP3 := hide hp3
                have HCUT := hide hcut
                have HM := hide hm
                clear hk3 hp3 HB hcE hcut hm hlen
                go_wp2_with (first
                  | (at_builtin; (refine wpList_off w3 rfl (.tmp 163) (.tmp 165) rfl i0 hi0 hz0' hz1 hz2 (.slice al L.length cl) L x rfl hcL (by omega) rfl ?_); intro v4 w4 hg4; obtain ⟨a4, c4, rfl⟩ := off_len2 hg4.at' (show (L ++ [x]).length = L.length + 1 by simp); have HG4 := hide hg4; clear hg4)
                  | fail)
                have HT2 := hide (tr_step HT.out HK3.out HP3.out HG4.out HCUT.out rfl)
                have hm := HM.out
                clear HP3 HG4 HK3 HCUT hslo hcL hcy HM
                go_wp2_with fail
                refine (manye_any w.heap.size n m (L.length + 1) _ E0 (L ++ [x]) _ HT2.out.past hm (by simp)).mono ?_
                rintro e w6 ⟨rfl, hk6, hp6⟩
                have HT6 := hide (tr_same HT2.out hk6 hp6)
                clear hk6 hp6
                go_wp2
                refine ⟨?_, by first | (simp [intOf]; done) | (simp [intOf]; omega)⟩
                exact ⟨k + 1, E0, (L ++ [x]), by go_num, by omega, by first | omega | (simp; done) | (simp; omega), by first | omega | (simp; done) | (simp; omega), HT6⟩
          · as_aux_lemma =>
              rcases List.eq_nil_or_concat L with rfl | ⟨L0, y, rfl⟩
              · have hnone := forthQ_none w.heap.size n (Prot w (.slice ab E.length cb) (.slice al 0 cl)) E x wr HT.out.past
                have HN := hide hnone
                clear hnone
                go_wp2_with fail
                refine HN.out.mono ?_
                rintro e w3 ⟨rfl, hk3, hp3⟩
                have HT2 := hide (tr_same HT.out hk3 hp3)
                clear hk3 hp3 HN
                go_wp2_with fail
                refine (manye_any w.heap.size n E.length 0 _ E [] _ HT2.out.past rfl rfl).mono ?_
                rintro e w6 ⟨rfl, hk6, hp6⟩
                have HT6 := hide (tr_same HT2.out hk6 hp6)
                clear hk6 hp6
                go_wp2
                refine ⟨?_, by first | (simp [intOf]; done) | (simp [intOf]; omega)⟩
                exact ⟨k + 1, E, [], by go_num, by omega, by first | omega | (simp; done) | (simp; omega), by first | omega | (simp; done) | (simp; omega), HT6⟩
              · rw [List.concat_eq_append] at *
                obtain ⟨m, hm⟩ : ∃ m, L0.length = m := ⟨_, rfl⟩
                have hlen : (L0 ++ [y]).length = m + 1 := by simp [hm]
                rw [hlen] at HT hL
                have HB := hide (forthQ_any w.heap.size n m (Prot w (.slice ab E.length cb) (.slice al (m + 1) cl)) L0 E y x wr HT.out.past hm (by omega) (by omega))
                go_wp2_with fail
                refine HB.out.mono ?_
                rintro e w3 ⟨rfl, hk3, hp3⟩
                obtain ⟨hcE, hcL, _⟩ := tr_call HT.out hk3 hp3
                obtain ⟨g, off, rfl, hmc, hcm, hcy⟩ := off_last hcL (by omega)
                rw [hm] at hcy
                unfold maxLen at hcm
                have hcut := off_cut hcL
                rw [hm] at hcut
                have hslo := fun (W : World) => run_slice_to (P := Try.prog) 22 3 i0 Try.underlying22 hi0 (some ⟨g, off, none⟩) (m + 1) cl m (m : Int) rfl (by omega) W
                have HK3 := hide hk3
                have HP3 := hide hp3
                have HCUT := hide hcut
                have HM := hide hm
                clear hk3 hp3 HB hcL hcut hm hlen
                go_wp2_with (first
                  | (at_builtin; (refine wpList_off w3 rfl (.tmp 107) (.tmp 109) rfl i0 hi0 hz0' hz1 hz2 (.slice ab E.length cb) E x rfl hcE (by omega) rfl ?_); intro v4 w4 hg4; obtain ⟨a4, c4, rfl⟩ := off_len2 hg4.at' (show (E ++ [x]).length = E.length + 1 by simp); have HG4 := hide hg4; clear hg4)
                  | fail)
                have HT2 := hide (tr_fore HT.out HK3.out HP3.out HG4.out HCUT.out rfl)
                have hm := HM.out
                clear HP3 HG4 HK3 HCUT hslo hcE hcy HM
                go_wp2_with fail
                refine (manye_any w.heap.size n (E.length + 1) m _ (E ++ [x]) L0 _ HT2.out.past (by simp) hm).mono ?_
                rintro e w6 ⟨rfl, hk6, hp6⟩
                have HT6 := hide (tr_same HT2.out hk6 hp6)
                clear hk6 hp6
                go_wp2
                refine ⟨?_, by first | (simp [intOf]; done) | (simp [intOf]; omega)⟩
                exact ⟨k + 1, (E ++ [x]), L0, by go_num, by omega, by first | omega | (simp; done) | (simp; omega), by first | omega | (simp; done) | (simp; omega), HT6⟩
        · clear HW
          go_wp2_with fail
          refine (awake29_any _).mono ?_
          rintro e w3 ⟨rfl, hb3⟩
          go_wp2
          go_ret
          exact ⟨rfl, bl_trans HT.out.bel hb3⟩
  · go_enter Try.func3, Try.ntmps3
    go_wp2_with fail
    refine (awake29_any _).mono ?_
    rintro e w1 ⟨rfl, hb1⟩
    go_wp2
    go_ret
    exact ⟨rfl, hb1⟩

set_option maxRecDepth 100000 in
theorem lifted (os : Os) (started : os.Started) (H : Type) (enc : TypeId × Value → H) :
    ReturnsInHanded {} Try.checked os 3 .any (Rows.pastTellsSpec.pre6 enc Try.prog Try.f3 Rows.pastTellsRow.domain false) (Rows.pastTellsSpec.post enc Try.prog Try.f3 false true false false) := by
  refine returnsInHanded_of_change (C := Try.checked) own started (by kernel_rfl) Try.func3
    (ChangeSpec.witness6 (enc := enc) (C := Try.checked) false ⟨#[], #[.int .i64 0, .slice none 0 0], []⟩ 8 (by kernel_rfl) (by kernel_rfl) (by kernel_rfl) (by kernel_rfl)) ?_
  intro W base args ds gs before hval0 hW hcnd _
  have hval : ∀ (j : Nat) t v, Try.f3.params[j]? = some t → args[j]? = some v → Value.okWide Try.prog W .any base t v := hval0
  have hW' := hW
  obtain ⟨p, q, hA0, hV, rfl, hfz, hnd⟩ := hW
  have hA : DataW.TrodAll enc Try.prog W 0 (fun _ => true) true Try.f3.params.toList args.toList ds p := hA0
  rw [Try.params3] at hA hval
  obtain ⟨v0, vs0, d0, ds0, p0, q0, hargs, rfl, rfl, h0, r0⟩ := trodAll_cons hA
  obtain ⟨v1, vs1, d1, ds1, p1, q1, rfl, rfl, rfl, h1, r1⟩ := trodAll_cons r0
  obtain ⟨rfl, rfl, rfl⟩ := trodAll_nil r1
  obtain rfl : args = #[v0, v1] := by cases args; simp_all
  obtain ⟨rfl, rfl⟩ := trodVars_none hV
  have k0 := h0
  have lt0 : ∀ x ∈ p0, x.block < W.heap.size := by obtain ⟨m, hm⟩ := k0; exact DataW.trod_lt m _ _ _ hm
  obtain ⟨a0, rfl, hd0, hp0, w0⟩ := open_int Try.underlying3 (hval 0 3 v0 rfl rfl) h0
  have k1 := h1
  have lt1 : ∀ x ∈ p1, x.block < W.heap.size := by obtain ⟨m, hm⟩ := k1; exact DataW.trod_lt m _ _ _ hm
  obtain ⟨a1, len1, cap1, rfl⟩ := okWide_slice Try.underlying22 (hval 1 22 v1 rfl rfl)
  obtain ⟨z1, w1⟩ : ∃ zs, IsInts .i64 W a1 len1 cap1 zs := by
    obtain ⟨fuel, hf⟩ := h1
    rcases open_ints Try.underlying22 Try.underlying3 (by kernel_rfl) hf with ⟨hcs, _⟩ | ⟨x, l, c, zs, hcs, _, hl, hm, hz, _, hcell, hwz⟩
    · simp [Value.cells] at hcs
      obtain ⟨rfl, rfl, rfl⟩ := hcs
      exact ⟨[], .inl ⟨rfl, rfl, rfl, rfl⟩⟩
    · simp [Value.cells] at hcs
      obtain ⟨rfl, rfl, rfl⟩ := hcs
      exact ⟨zs, .inr ⟨_, rfl, hl, hm, by simpa using hz, hcell, hwz⟩⟩
  clear hA0 hval0
  refine (walk a0 a1 len1 cap1 z1 W w0 w1).mono fun e W' ⟨he, bel⟩ => ?_
  subst he
  exact ⟨_, rfl, _, _, _, [], _, [], hW', trodAll_mk1 (shut_bool Try.underlying4 _), (trodAll_cons_mk (Below.trod laidOut (by kernel_rfl) (of_decide_eq_true (by kernel_rfl)) k0 bel lt0) (trodAll_cons_mk (Below.trod laidOut (by kernel_rfl) (of_decide_eq_true (by kernel_rfl)) k1 bel lt1) trodAll_mk0)), rfl, bel.frame _, fun h => by cases h⟩

theorem over : Rows.pastTellsRow.holds Try.pinned (OpenSpec.ofChange Rows.pastTellsSpec) :=
  OpenClaim.holds_of_wide 3 Try.f3 rfl rfl rfl rfl rfl rfl rfl ⟨rfl, rfl, rfl, rfl, rfl⟩ rfl rfl rfl rfl rfl (by kernel_rfl) Try.func3 (by kernel_rfl)
    (of_decide_eq_true (by kernel_rfl)) (by unfold Func.isWrapper; first | (rw [if_pos (by decide +kernel)]; kernel_rfl) | (rw [if_neg (by decide +kernel)]; exact ⟨rfl, rfl⟩))
    (fun os started H enc _ => lifted os started H enc)

theorem proved : Rows.PastTellsSaid := over
end Go.Proofs.Ytmckmebkoiglfaa.pastTells
