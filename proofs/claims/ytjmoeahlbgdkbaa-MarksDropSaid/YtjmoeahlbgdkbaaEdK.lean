/- Edits that rise and stay apart may be done in whatever order; the layer's awake; two lists of edits held against one another. -/
import Derived.Test.YtjmoeahlbgdkbaaEdJ
namespace Go.Proofs.Ytjmoeahlbgdkbaa
open Go.ChangeShapes Go.WideShapes Go.ChangeAt Go.RowKit
open SpanM EdM
attribute [local go_sem ↓] Go.wp_at_zero Go.wp_at_succ
attribute [local go_sem] later_cell later_frozen
theorem ap_less {n : Int} {l : List Ed} (h : AP n l) : l.Pairwise fun a b => less a.1 b.1 = true := h.rise.imp fun {a b} h => by rw [less_iff]; exact .inl h
theorem ap_sort {n : Int} {l k : List Ed} (h : AP n l) (hp : k.Perm l) : sortE k = l := sortE_eq hp (ap_less h)
theorem tot_sizes {n a : Int} {l : List Ed} (h : Chain n a l) : tot l ≤ sizes l := by
  induction l generalizing a with
  | nil => simp [tot, sizes]
  | cons e r ih =>
    obtain ⟨_, h2, h3⟩ := h
    have := ih h3
    rw [tot_cons]
    have e1 : sizes (e :: r) = e.2.size + sizes r := rfl
    rw [e1]
    unfold dl len
    omega
theorem sizes_mem {l : List Ed} : ∀ e ∈ l, e.2.size ≤ sizes l := by
  induction l with
  | nil => intro e he; simp at he
  | cons a r ih =>
    intro e he
    have e1 : sizes (a :: r) = a.2.size + sizes r := rfl
    rw [e1]
    rcases List.mem_cons.1 he with rfl | he
    · omega
    · have := ih e he; omega
theorem ap_R {n : Int} {l : List Ed} (h : AP n l) : l.Pairwise fun a b => R a.1 b.1 := by
  have hch := h.chain
  have hr := h.rise
  have key : ∀ (l : List Ed) (a : Int), Chain n a l → (l.Pairwise fun a b => a.1.1 < b.1.1) → l.Pairwise fun a b => R a.1 b.1 := by
    intro l
    induction l with
    | nil => intro _ _ _; exact .nil
    | cons e r ih =>
      intro a hc hp
      obtain ⟨p1, p2⟩ := List.pairwise_cons.1 hp
      exact List.pairwise_cons.2 ⟨fun x hx => ⟨p1 x hx, (chain_mem hc.2.2 x hx).1⟩, ih _ hc.2.2 p2⟩
  exact key l 0 hch hr
theorem ap_fine {n : Int} {l k : List Ed} (h : AP n l) (hn : n ≤ 1000) (hp : k.Perm l) : Fine n k := by
  have hs := ap_sort h hp
  refine ⟨by rw [hs]; exact h.chain, by rw [hs]; exact ap_R h, ?_, fun e he => ?_⟩
  · rw [grown_add, tot_perm hp]
    have := tot_sizes h.chain
    have := h.sizes
    omega
  · have := chain_mem h.chain e (hp.mem_iff.1 he); omega
theorem ap_good {n : Int} {l k : List Ed} (h : AP n l) (hn : n ≤ 1000) (hp : k.Perm l) : ∀ e ∈ k, Good e := fun e he => by
  have h1 := chain_mem h.chain e (hp.mem_iff.1 he)
  have h2 := sizes_mem e (hp.mem_iff.1 he)
  have h3 := h.sizes
  exact ⟨by omega, by omega, by omega⟩
theorem ap_small {n : Int} {l k : List Ed} (h : AP n l) (hp : k.Perm l) : ∀ e ∈ k, e.2.size ≤ 70000 := fun e he => by
  have h2 := sizes_mem e (hp.mem_iff.1 he)
  have h3 := h.sizes
  omega
theorem good_D {l : List Ed} (h : ∀ e ∈ l, Good e) : ∀ e ∈ l, GoodD e := h
/-- A slice's block lies in the world. -/
theorem edat_lt {w : World} {v : Value} {l : List Ed} (h : EdAt w v l) : ∀ b o n c, v = .slice (some ⟨b, o, none⟩) n c → 0 < l.length → b < w.heap.size := by
  intro b o n c hv hp
  obtain ⟨b', o', c', hv', _, _, hb, _⟩ := edat_some h hp
  rw [hv'] at hv
  injection hv with h1 _ _
  injection h1 with h1
  injection h1 with h1 _
  omega
section
open Go.Proofs
theorem back_fine (s : ByteArray) (k : List Ed) (v : Value) (l : List Ed) (w : World) (h : EdAt w v l) (hl : l.length ≤ 20) (hx : ∀ e ∈ l, e.2.size ≤ 70000) (hs : s.size ≤ 1000000) (hf : Fine s.size l) (hk : inv (bts s) 0 (grp (sortE l)) = k) :
    Calls Try.prog 30 #[.string s, v] w fun e w' => ∃ v', e = .returned (.tuple #[v', .int .i64 0]) ∧ Below w.heap.size w w' ∧ w'.ownsRow w.heap.size 61 3 v' k.length (flatE k) := by
  subst hk
  refine (back_yes s v l w h hl hx hs hf).mono ?_
  rintro e w' ⟨v', he, hb, ho⟩
  exact ⟨v', he, hb, by rw [inv_len]; exact ho⟩
theorem move_good (a r : Int) (right : Bool) (v : Value) (l : List Ed) (w : World) (h : EdAt w v l) (hl : l.length ≤ 20) (hg0 : ∀ e ∈ l, Good e) (hat : -1125899906842624 ≤ a ∧ a ≤ 1125899906842624) (hr : mvR right (sortE l) a = r) :
    Calls Try.prog 51 #[.int .i64 a, .bool right, v] w fun e w' => e = .returned (.int .i64 r) ∧ Below w.heap.size w w' := by
  subst hr; exact move_any a right v l w h hl hg0 hat
end
def awE : List Ed := [((0, 1), ⟨#[120]⟩), ((2, 2), ⟨#[121, 122]⟩)]
def awS : ByteArray := ⟨#[97, 98, 99, 100]⟩
theorem awAP : AP (awS.size : Nat) awE := ⟨by unfold awE Chain Chain Chain; decide, by unfold awE; decide, by decide, by decide⟩
theorem aw_app : appR (bts awS) (sortE awE) = [120, 98, 121, 122, 99, 100] := by
  rw [ap_sort awAP (.refl _)]; decide +kernel
theorem aw_inv : inv (bts awS) 0 (grp (sortE awE)) = [((0, 1), ⟨#[97]⟩), ((2, 4), ⟨#[]⟩)] := by
  rw [ap_sort awAP (.refl _)]; decide +kernel
theorem aw_mv : mvR true (sortE [((2, 2), (⟨#[121, 122]⟩ : ByteArray))]) 2 = 4 := by
  rw [sortE_self _ (List.pairwise_singleton _ _)]; decide +kernel
theorem aw_gr : grown 4 awE = 6 := by decide +kernel
theorem aw_back (v : Value) (w : World) (h : EdAt w v awE) : Calls Try.prog 30 #[.string awS, v] w fun e w' => ∃ g c, e = .returned (.tuple #[.slice (some ⟨g, 0, none⟩) 2 c, .int .i64 0]) ∧ Below w.heap.size w w' ∧ 2 ≤ c ∧ c ≤ maxLen ∧ g < w'.heap.size ∧ w'.cell? ⟨g, 2, none⟩ = some (.string ⟨#[97]⟩) ∧ w'.cell? ⟨g, 3, none⟩ = some (.int .i64 2) ∧ w'.cell? ⟨g, 4, none⟩ = some (.int .i64 4) := by
  refine (back_fine awS _ v awE w h (by decide) (ap_small awAP (.refl awE)) (by decide) (ap_fine awAP (by decide) (.refl _)) aw_inv).mono ?_
  rintro e w3 ⟨vB, rfl, hb3, ho3⟩
  rcases own_form ho3 with ⟨_, h1, _⟩ | ⟨g, cg, rfl, hg1, hg2, hg3, hg4, hg5⟩
  · simp at h1
  exact ⟨g, cg, rfl, hb3, hg3, hg4, hg2, hg5 2 _ rfl, hg5 3 _ rfl, hg5 4 _ rfl⟩
theorem aw_move (v : Value) (w : World) (h : EdAt w v [((2, 2), (⟨#[121, 122]⟩ : ByteArray))]) : Calls Try.prog 51 #[.int .i64 2, .bool true, v] w fun e w' => e = .returned (.int .i64 4) ∧ Below w.heap.size w w' :=
  move_good 2 4 true v _ w h (by decide) (fun e he => by rw [List.mem_singleton] at he; subst he; unfold Good; decide) (by decide) aw_mv
theorem aw_grown (v : Value) (w : World) (h : EdAt w v awE) : Calls Try.prog 70 #[.int .i64 4, v] w fun e w' => e = .returned (.int .i64 6) ∧ Below w.heap.size w w' :=
  growne_any 4 6 v awE w h (by decide) (ap_good awAP (by decide) (.refl awE)) (by decide) aw_gr
end Go.Proofs.Ytjmoeahlbgdkbaa
