/- Plain mathematics: what a format is read as, and told as. -/
import Derived.Test.YtbphckblbbbakaaDoorFmN
namespace Go.Proofs.YtbphckblbbbakaaDoor
set_option linter.unusedVariables false
set_option linter.unusedSimpArgs false
/-- A text of bytes. -/
def mkB (l : List UInt8) : ByteArray := ⟨l.toArray⟩
def isDg (c : UInt8) : Bool := decide (48 ≤ c.toNat) && decide (c.toNat ≤ 57)
/-- The digits that begin a text, at most five. -/
def digs (l : List UInt8) : List UInt8 := (l.take 5).takeWhile isDg
def valF (ds : List UInt8) : Nat := ds.foldl (fun n c => n * 10 + (c.toNat - 48)) 0
/-- A number of 1 to 4 digits, and what is behind it. -/
def numF (l : List UInt8) : Option (Nat × List UInt8) :=
  if (digs l).length = 0 ∨ (digs l).length = 5 then none else some (valF (digs l), l.drop (digs l).length)
/-- A backslash that escapes is passed. -/
def escF (esc : List UInt8) : List UInt8 → List UInt8
  | 92 :: d :: l => if d ∈ esc then d :: l else 92 :: d :: l
  | l => l
/-- All up to an end that is not escaped, and what is behind that. -/
def untilF (e : UInt8) (esc : List UInt8) : List UInt8 → Option (List UInt8 × List UInt8)
  | [] => none
  | [c] => if c = e then some ([], []) else none
  | c :: d :: l => if c = e then some ([], d :: l) else if c = 92 ∧ d ∈ esc then (untilF e esc l).map (fun p => (d :: p.1, p.2)) else (untilF e esc (d :: l)).map (fun p => (c :: p.1, p.2))
def inT : List UInt8 := [36, 125, 92, 47]
def inB : List UInt8 := [36, 125, 92, 47, 58]
/-- The same, but for ends that were looked for in vain. -/
def untG (e : UInt8) (l g : List UInt8) : Option (List UInt8 × List UInt8) × List UInt8 :=
  if e ∈ g then (none, g) else match untilF e inB l with
    | some p => (some p, g)
    | none => (none, g ++ [e])
/-- The name of a way to turn, and a brace. -/
def turnedF (l : List UInt8) : Option (Int × List UInt8) :=
  if nmL 1 ++ [125] <+: l then some (1, l.drop 7) else if nmL 2 ++ [125] <+: l then some (2, l.drop 9) else if nmL 3 ++ [125] <+: l then some (3, l.drop 11) else if nmL 4 ++ [125] <+: l then some (4, l.drop 10) else if nmL 5 ++ [125] <+: l then some (5, l.drop 11) else none
def elseF (l g : List UInt8) : Option (Fm × List UInt8) × List UInt8 :=
  match untG 125 l g with
  | (some (t, r), g) => (some (⟨4, 0, 0, nilB, mkB t⟩, r), g)
  | (none, g) => (none, g)
def colonF : List UInt8 → List UInt8 → Option (Fm × List UInt8) × List UInt8
  | 47 :: l, g => ((turnedF l).map (fun p => (⟨2, 0, p.1, nilB, nilB⟩, p.2)), g)
  | 43 :: l, g => match untG 125 l g with
    | (some (t, r), g) => (some (⟨3, 0, 0, mkB t, nilB⟩, r), g)
    | (none, g) => (none, g)
  | 63 :: l, g => match untG 58 l g with
    | (some (t, r), g) => match untG 125 r g with
      | (some (u, r), g) => (some (⟨5, 0, 0, mkB t, mkB u⟩, r), g)
      | (none, g) => (none, g)
    | (none, g) => (none, g)
  | 45 :: l, g => elseF l g
  | l, g => elseF l g
def brF : Option (Nat × List UInt8) → List UInt8 → Option (Fm × List UInt8) × List UInt8
  | some (n, 125 :: l), g => (some (⟨1, n, 0, nilB, nilB⟩, l), g)
  | some (n, 58 :: l), g => match colonF l g with
    | (some (f, r), g) => (some ({ f with n := n }, r), g)
    | (none, g) => (none, g)
  | _, g => (none, g)
def dolF : Option (Nat × List UInt8) → List UInt8 → Option (Fm × List UInt8) × List UInt8
  | some (n, l), g => (some (⟨1, n, 0, nilB, nilB⟩, l), g)
  | none, g => (none, g)
/-- A part that begins with a dollar, and what is behind it. -/
def partF : List UInt8 → List UInt8 → Option (Fm × List UInt8) × List UInt8
  | 36 :: 123 :: l, g => brF (numF l) g
  | 36 :: l, g => dolF (numF l) g
  | _, g => (none, g)
def flushF (ps : List Fm) (t : List UInt8) : List Fm := if t = [] then ps else ps ++ [⟨0, 0, 0, mkB t, nilB⟩]
/-- A format is read; ps: its parts so far; t: the text behind them; g: the ends that were looked for in vain. -/
def readF : Nat → List UInt8 → List UInt8 → List UInt8 → List Fm → Option (List Fm × List UInt8)
  | 0, _, _, _, _ => none
  | _ + 1, [], _, _, _ => none
  | m + 1, c :: l, g, t, ps =>
    if c = 47 then some (flushF ps t, c :: l)
    else match partF (c :: l) g with
      | (some (f, r), g) => readF m r g [] (flushF ps t ++ [f])
      | (none, g) => match escF inT (c :: l) with
        | [] => none
        | d :: r => readF m r g (t ++ [d]) ps
/-- A text with backslashes. -/
def guardF (of : List UInt8) : List UInt8 → List UInt8
  | [] => []
  | c :: l => if c ∈ of then 92 :: c :: guardF of l else c :: guardF of l
def dgB (n : Nat) : UInt8 := UInt8.ofNat (48 + n)
/-- The digits of a number below 10000. -/
def decF (n : Nat) : List UInt8 :=
  if n < 10 then [dgB (n)] else if n < 100 then [dgB (n / 10), dgB (n % 10)]
  else if n < 1000 then [dgB (n / 100), dgB (n / 10 % 10), dgB (n % 10)]
  else [dgB (n / 1000), dgB (n / 100 % 10), dgB (n / 10 % 10), dgB (n % 10)]
def bytesOf (s : ByteArray) : List UInt8 := s.data.toList
/-- What stands behind a part's number. -/
def insF (d : Fm) : List UInt8 :=
  if d.k = 2 then [58, 47] ++ nmL d.c else if d.k = 3 then [58, 43] ++ guardF inB (bytesOf d.th) else if d.k = 5 then [58, 63] ++ guardF inB (bytesOf d.th) ++ 58 :: guardF inB (bytesOf d.el)
  else if d.k = 4 then [58, 45] ++ guardF inB (bytesOf d.el) else []
/-- What a part is told as. -/
def shF (d : Fm) : List UInt8 := if d.k = 0 then guardF inT (bytesOf d.th) else [36, 123] ++ decF d.n.toNat ++ insF d ++ [125]
def shL (l : List Fm) : List UInt8 := l.flatMap shF
theorem guard_len (of l : List UInt8) : (guardF of l).length ≤ 2 * l.length := by
  induction l with
  | nil => simp [guardF]
  | cons c l ih => unfold guardF; split <;> simp <;> omega
theorem until_guard (e : UInt8) (l r : List UInt8) (he : e = 125 ∨ e = 58) : untilF e inB (guardF inB l ++ e :: r) = some (l, r) := by
  have hm : e ∈ inB := by rcases he with rfl | rfl <;> decide
  have h9 : e ≠ 92 := by rcases he with rfl | rfl <;> decide
  induction l with
  | nil => 
    simp only [guardF, List.nil_append]
    cases r with
    | nil => simp [untilF]
    | cons d r => simp [untilF]
  | cons c l ih =>
    unfold guardF
    by_cases hc : c ∈ inB
    · rw [if_pos hc]
      show untilF e inB (92 :: c :: (guardF inB l ++ e :: r)) = _
      unfold untilF
      rw [if_neg (Ne.symm h9), if_pos ⟨rfl, hc⟩, ih]; rfl
    · rw [if_neg hc]
      have hce : c ≠ e := by rintro rfl; exact hc hm
      have hc9 : c ≠ 92 := by rintro rfl; exact hc (by decide)
      obtain ⟨x, xs, hx⟩ : ∃ x xs, guardF inB l ++ e :: r = x :: xs := by
        cases h : guardF inB l ++ e :: r with
        | nil => simp at h
        | cons x xs => exact ⟨x, xs, rfl⟩
      show untilF e inB (c :: (guardF inB l ++ e :: r)) = _
      rw [hx]
      unfold untilF
      rw [if_neg hce, if_neg (fun h => hc9 h.1), ← hx, ih]; rfl
theorem dig_of (n : Nat) (h : n < 10) : isDg (dgB n) = true ∧ (dgB n).toNat - 48 = n := by
  have : (dgB n).toNat = 48 + n := by unfold dgB; simp; omega
  unfold isDg
  rw [this]
  refine ⟨?_, by omega⟩
  simp; omega
theorem num_dec (n : Nat) (hn : n ≤ 9999) (c : UInt8) (r : List UInt8) (hc : isDg c = false) : numF (decF n ++ c :: r) = some (n, c :: r) := by
  have key : ∀ ds : List UInt8, ds.length ≤ 4 → 0 < ds.length → ds.all isDg = true → numF (ds ++ c :: r) = some (valF ds, c :: r) := by
    intro ds h4 h0 ha
    have hd : digs (ds ++ c :: r) = ds := by
      unfold digs
      match ds, h4 with
      | [a], _ => simp at ha; simp [List.take, List.takeWhile, ha, hc]
      | [a, b], _ => simp at ha; simp [List.take, List.takeWhile, ha, hc]
      | [a, b, d], _ => simp at ha; simp [List.take, List.takeWhile, ha, hc]
      | [a, b, d, e], _ => simp at ha; simp [List.take, List.takeWhile, ha, hc]
    unfold numF
    rw [hd, if_neg (by omega)]
    simp
  unfold decF
  split
  · rw [key _ (by simp) (by simp) (by simp [(dig_of n (by omega)).1])]
    simp only [valF, List.foldl]; rw [(dig_of n (by omega)).2]; simp
  split
  · rw [key _ (by simp) (by simp) (by simp [(dig_of (n / 10) (by omega)).1, (dig_of (n % 10) (by omega)).1])]
    simp only [valF, List.foldl]; rw [(dig_of (n / 10) (by omega)).2, (dig_of (n % 10) (by omega)).2]
    congr 2; omega
  split
  · rw [key _ (by simp) (by simp) (by simp [(dig_of (n / 100) (by omega)).1, (dig_of (n / 10 % 10) (by omega)).1, (dig_of (n % 10) (by omega)).1])]
    simp only [valF, List.foldl]; rw [(dig_of (n / 100) (by omega)).2, (dig_of (n / 10 % 10) (by omega)).2, (dig_of (n % 10) (by omega)).2]
    congr 2; omega
  · rw [key _ (by simp) (by simp) (by simp [(dig_of (n / 1000) (by omega)).1, (dig_of (n / 100 % 10) (by omega)).1, (dig_of (n / 10 % 10) (by omega)).1, (dig_of (n % 10) (by omega)).1])]
    simp only [valF, List.foldl]; rw [(dig_of (n / 1000) (by omega)).2, (dig_of (n / 100 % 10) (by omega)).2, (dig_of (n / 10 % 10) (by omega)).2, (dig_of (n % 10) (by omega)).2]
    congr 2; omega
theorem val_lt (ds : List UInt8) (h4 : ds.length ≤ 4) (hd : ds.all isDg = true) : valF ds ≤ 9999 := by
  have hb : ∀ c : UInt8, isDg c = true → c.toNat - 48 ≤ 9 := fun c h => by unfold isDg at h; simp at h; omega
  match ds, h4 with
  | [], _ => simp [valF]
  | [a], _ => simp at hd; have := hb a hd; simp only [valF, List.foldl]; omega
  | [a, b], _ => simp at hd; have := hb a hd.1; have := hb b hd.2; simp only [valF, List.foldl]; omega
  | [a, b, c], _ => simp at hd; have := hb a hd.1; have := hb b hd.2.1; have := hb c hd.2.2; simp only [valF, List.foldl]; omega
  | [a, b, c, d], _ => simp at hd; have := hb a hd.1; have := hb b hd.2.1; have := hb c hd.2.2.1; have := hb d hd.2.2.2; simp only [valF, List.foldl]; omega
theorem num_lt {l : List UInt8} {n : Nat} {r : List UInt8} (h : numF l = some (n, r)) : n ≤ 9999 ∧ r.length < l.length ∧ r <:+ l := by
  unfold numF at h
  split at h
  · cases h
  · rename_i hne
    injection h with h
    injection h with h1 h2
    have h5 : (digs l).length ≤ 5 := Nat.le_trans (List.takeWhile_prefix _).length_le (by rw [List.length_take]; omega)
    have h6 : (digs l).length ≤ l.length := Nat.le_trans (List.takeWhile_prefix _).length_le (by rw [List.length_take]; omega)
    subst h1 h2
    refine ⟨val_lt _ (by omega) ?_, by simp; omega, List.drop_suffix _ _⟩
    unfold digs
    exact List.all_takeWhile
theorem size_mk (l : List UInt8) : (mkB l).size = l.length := by simp [mkB, ByteArray.size]
theorem bytes_mk (l : List UInt8) : bytesOf (mkB l) = l := rfl
theorem mk_bytes (s : ByteArray) : mkB (bytesOf s) = s := by cases s; simp [mkB, bytesOf]
theorem isDg_sign : isDg 125 = false ∧ isDg 58 = false := by decide
theorem turned_nm (c : Int) (h : nmL c ≠ []) (r : List UInt8) : turnedF (nmL c ++ 125 :: r) = some (c, r) := by
  unfold nmL at h ⊢
  split
  · subst c; rfl
  split
  · subst c; rfl
  split
  · subst c; rfl
  split
  · subst c; rfl
  split
  · subst c; rfl
  · simp_all
theorem eqF_iff {k1 n1 c1 : Int} {t1 e1 : ByteArray} {k2 n2 c2 : Int} {t2 e2 : ByteArray} (h : eqF k1 n1 c1 t1 e1 k2 n2 c2 t2 e2 = true) : k1 = k2 ∧ n1 = n2 ∧ c1 = c2 ∧ t1.toList = t2.toList ∧ e1.toList = e2.toList := by
  unfold eqF at h; simpa [and_assoc] using h
theorem colon_ok (d : Fm) (h : mayF d = true) (h0 : d.k ≠ 0) (h1 : d.k ≠ 1) (r : List UInt8) : ∃ l, insF d ++ 125 :: r = 58 :: l ∧ colonF l [] = (some ({ d with n := 0 }, r), []) := by
  obtain ⟨k, n, c, th, el⟩ := d
  unfold mayF at h
  dsimp only at h h0 h1
  have EM : ∀ s : ByteArray, s.toList = nilB.toList → s = nilB := fun s hs => by
    have h2 : s.data.toList = nilB.data.toList := by rw [← Go.ByteArray.toList_eq, hs, Go.ByteArray.toList_eq]
    cases s; rw [nilB] at *; simp at h2; rw [h2]
  split at h
  · cases h
  unfold insF
  dsimp only
  split at h
  · rename_i hk
    subst hk
    rw [Bool.and_eq_true] at h
    obtain ⟨_, _, _, e4, e5⟩ := eqF_iff h.1
    obtain rfl := EM _ e4
    obtain rfl := EM _ e5
    have hn : nmL c ≠ [] := by intro hh; rw [hh] at h; simp at h
    refine ⟨_, rfl, ?_⟩
    show ((turnedF (nmL c ++ 125 :: r)).map _, _) = _
    rw [turned_nm c hn]; rfl
  split at h
  · rename_i hk
    subst hk
    obtain ⟨_, _, e3, _, e5⟩ := eqF_iff h
    obtain rfl := EM _ e5
    subst e3
    refine ⟨_, rfl, ?_⟩
    show colonF (43 :: (guardF inB (bytesOf th) ++ 125 :: r)) [] = _
    rw [show ∀ l g, colonF (43 :: l) g = (match untG 125 l g with
      | (some (t, r), g) => (some (⟨3, 0, 0, mkB t, nilB⟩, r), g)
      | (none, g) => (none, g)) from fun _ _ => rfl]
    unfold untG
    rw [if_neg (by simp), until_guard 125 _ _ (.inl rfl)]
    dsimp only
    rw [mk_bytes]
  split at h
  · rename_i hk
    subst hk
    obtain ⟨_, _, e3, e4, _⟩ := eqF_iff h
    obtain rfl := EM _ e4
    subst e3
    refine ⟨_, rfl, ?_⟩
    show colonF (45 :: (guardF inB (bytesOf el) ++ 125 :: r)) [] = _
    rw [show ∀ l g, colonF (45 :: l) g = elseF l g from fun _ _ => rfl]
    unfold elseF untG
    rw [if_neg (by simp), until_guard 125 _ _ (.inl rfl)]
    dsimp only
    rw [mk_bytes]
  split at h
  · rename_i hk
    subst hk
    obtain rfl : c = 0 := by simpa using h
    refine ⟨_, rfl, ?_⟩
    show colonF (63 :: ((guardF inB (bytesOf th) ++ 58 :: guardF inB (bytesOf el)) ++ 125 :: r)) [] = _
    rw [List.append_assoc, List.cons_append]
    rw [show ∀ l g, colonF (63 :: l) g = (match untG 58 l g with
      | (some (t, r), g) => match untG 125 r g with
        | (some (u, r), g) => (some (⟨5, 0, 0, mkB t, mkB u⟩, r), g)
        | (none, g) => (none, g)
      | (none, g) => (none, g)) from fun _ _ => rfl]
    unfold untG
    rw [if_neg (by simp), until_guard 58 _ _ (.inr rfl)]
    dsimp only
    rw [if_neg (by simp), until_guard 125 _ _ (.inl rfl)]
    dsimp only
    rw [mk_bytes, mk_bytes]
  · cases h
theorem may_n9 {d : Fm} (h : mayF d = true) : 0 ≤ d.n ∧ d.n ≤ 9999 := by
  unfold mayF at h
  split at h
  · cases h
  · omega
theorem part_ok (d : Fm) (h : mayF d = true) (h0 : d.k ≠ 0) (r : List UInt8) : partF (shF d ++ r) [] = (some (d, r), []) := by
  have hn := may_n9 h
  obtain ⟨m, hm⟩ : ∃ m : Nat, d.n = m := ⟨d.n.toNat, by omega⟩
  have hm9 : m ≤ 9999 := by omega
  have hsh : shF d ++ r = 36 :: 123 :: (decF m ++ (insF d ++ 125 :: r)) := by
    unfold shF
    rw [if_neg h0, hm]
    simp
  rw [hsh, show ∀ l g, partF (36 :: 123 :: l) g = brF (numF l) g from fun _ _ => rfl]
  by_cases h1 : d.k = 1
  · have hi : insF d = [] := by unfold insF; rw [h1]; simp
    rw [hi, List.nil_append, num_dec m hm9 _ _ isDg_sign.1, show ∀ n l g, brF (some (n, 125 :: l)) g = (some (⟨1, n, 0, nilB, nilB⟩, l), g) from fun _ _ _ => rfl]
    obtain ⟨k, n, c, th, el⟩ := d
    dsimp only at h1 hm
    subst h1 hm
    unfold mayF at h
    dsimp only at h
    have EM : ∀ s : ByteArray, s.toList = nilB.toList → s = nilB := fun s hs => by
      have h2 : s.data.toList = nilB.data.toList := by rw [← Go.ByteArray.toList_eq, hs, Go.ByteArray.toList_eq]
      cases s; rw [nilB] at *; simp at h2; rw [h2]
    rw [if_neg (by omega), if_neg (by decide), if_pos rfl] at h
    obtain ⟨_, _, e3, e4, e5⟩ := eqF_iff h
    rw [e3, EM _ e4, EM _ e5]
  · obtain ⟨l, hl, hc⟩ := colon_ok d h h0 h1 r
    rw [hl, num_dec m hm9 _ _ isDg_sign.2]
    rw [show ∀ n l g, brF (some (n, 58 :: l)) g = (match colonF l g with
      | (some (f, r), g) => (some ({ f with n := n }, r), g)
      | (none, g) => (none, g)) from fun _ _ _ => rfl, hc]
    dsimp only
    rw [← hm]
theorem part_not {c : UInt8} (h : c ≠ 36) (l g : List UInt8) : partF (c :: l) g = (none, g) := by
  unfold partF
  split
  · rename_i hq; injection hq with hq; exact absurd hq h
  · rename_i hq; injection hq with hq; exact absurd hq h
  · rfl
theorem sh_head (d : Fm) (h0 : d.k ≠ 0) (r : List UInt8) : ∃ l, shF d ++ r = 36 :: l := by
  unfold shF; rw [if_neg h0]; exact ⟨_, rfl⟩
theorem read_text (m : Nat) (t s : List UInt8) (ps : List Fm) (r : List UInt8) (h : (guardF inT s ++ r).length ≤ m) : ∃ m', r.length ≤ m' ∧ readF m (guardF inT s ++ r) [] t ps = readF m' r [] (t ++ s) ps := by
  induction s generalizing m t with
  | nil => exact ⟨m, by simpa [guardF] using h, by simp [guardF]⟩
  | cons c s ih =>
    unfold guardF at h ⊢
    by_cases hc : c ∈ inT
    · rw [if_pos hc] at h ⊢
      obtain ⟨m, rfl⟩ : ∃ k, m = k + 1 := ⟨m - 1, by simp at h; omega⟩
      obtain ⟨m', h1, h2⟩ := ih m (t ++ [c]) (by simp at h ⊢; omega)
      refine ⟨m', h1, ?_⟩
      rw [← List.append_cons] at h2
      rw [← h2]
      show readF (m + 1) (92 :: c :: (guardF inT s ++ r)) [] t ps = _
      conv => lhs; unfold readF
      rw [if_neg (by decide)]
      have hp : partF (92 :: c :: (guardF inT s ++ r)) [] = (none, []) := rfl
      rw [hp]
      have he : escF inT (92 :: c :: (guardF inT s ++ r)) = c :: (guardF inT s ++ r) := by
        show (if c ∈ inT then _ else _) = _; rw [if_pos hc]
      dsimp only
      rw [he]
    · rw [if_neg hc] at h ⊢
      obtain ⟨m, rfl⟩ : ∃ k, m = k + 1 := ⟨m - 1, by simp at h; omega⟩
      obtain ⟨m', h1, h2⟩ := ih m (t ++ [c]) (by simp at h ⊢; omega)
      refine ⟨m', h1, ?_⟩
      rw [← List.append_cons] at h2
      rw [← h2]
      show readF (m + 1) (c :: (guardF inT s ++ r)) [] t ps = _
      conv => lhs; unfold readF
      have c1 : c ≠ 47 := by rintro rfl; exact hc (by decide)
      have c2 : c ≠ 36 := by rintro rfl; exact hc (by decide)
      have c3 : c ≠ 92 := by rintro rfl; exact hc (by decide)
      rw [if_neg c1]
      have hp : partF (c :: (guardF inT s ++ r)) [] = (none, []) := by
        exact part_not c2 _ _
      rw [hp]
      have he : escF inT (c :: (guardF inT s ++ r)) = c :: (guardF inT s ++ r) := by
        unfold escF
        split
        · rename_i hq; injection hq with hq; exact absurd hq c3
        · rfl
      dsimp only
      rw [he]
theorem mayL_cons {d : Fm} {l : List Fm} (h : mayL (d :: l) = true) : mayF d = true ∧ mayL l = true ∧ (d.k = 0 → ∀ e l', l = e :: l' → e.k ≠ 0) := by
  unfold mayL at h
  rw [List.all_eq_true] at h
  refine ⟨?_, ?_, ?_⟩
  · have := h 0 (by simp)
    unfold okF at this
    simp at this
    exact this
  · unfold mayL
    rw [List.all_eq_true]
    intro i hi
    have := h (i + 1) (by simp at hi ⊢; exact hi)
    unfold okF at this ⊢
    rw [show (d :: l)[i + 1]! = l[i]! by simp, Bool.and_eq_true] at this
    rw [Bool.and_eq_true]
    refine ⟨this.1, ?_⟩
    have h2 := this.2
    rcases i with _ | i
    · simp
    · simpa using h2
  · rintro h0 e l' rfl h1
    have := h 1 (by simp)
    unfold okF at this
    simp [h0, h1] at this
theorem mayL_of {l : List Fm} (h1 : ∀ d ∈ l, mayF d = true) (h2 : ∀ i, (h : i + 1 < l.length) → l[i].k = 0 → l[i + 1].k ≠ 0) : mayL l = true := by
  unfold mayL
  rw [List.all_eq_true]
  intro i hi
  have hi : i < l.length := List.mem_range.1 hi
  unfold okF
  rw [getElem!_pos l i hi, h1 _ (List.getElem_mem hi)]
  rcases i with _ | i
  · simp
  · rw [Nat.add_sub_cancel, getElem!_pos l i (by omega)]
    by_cases hk : l[i].k = 0
    · have := h2 i hi hk
      simp [hk, this]
    · simp [hk]
/-- A format that may be is read from what it is told as and a slash. -/
theorem read_show (l : List Fm) (h : mayL l = true) (r : List UInt8) (ps : List Fm) (m : Nat) (hm : (shL l ++ 47 :: r).length ≤ m) : readF m (shL l ++ 47 :: r) [] [] ps = some (ps ++ l, 47 :: r) := by
  induction l generalizing m ps with
  | nil =>
    obtain ⟨m, rfl⟩ : ∃ k, m = k + 1 := ⟨m - 1, by simp at hm; omega⟩
    simp [shL, readF, flushF]
  | cons d l ih =>
    obtain ⟨hd, hl, hadj⟩ := mayL_cons h
    rw [show shL (d :: l) = shF d ++ shL l from rfl, List.append_assoc] at hm ⊢
    by_cases h0 : d.k = 0
    · obtain ⟨k, n, c, th, el⟩ := d
      dsimp only at h0
      subst h0
      have EM : ∀ s : ByteArray, s.toList = nilB.toList → s = nilB := fun s hs => by
        have h2 : s.data.toList = nilB.data.toList := by rw [← Go.ByteArray.toList_eq, hs, Go.ByteArray.toList_eq]
        cases s; rw [nilB] at *; simp at h2; rw [h2]
      unfold mayF at hd
      dsimp only at hd
      split at hd
      · cases hd
      rw [if_pos rfl, Bool.and_eq_true] at hd
      obtain ⟨_, e2, e3, _, e5⟩ := eqF_iff hd.1
      have hne : bytesOf th ≠ [] := by
        intro hh
        have h1 := hd.2
        rw [Go.ByteArray.toList_eq, show th.data.toList = [] from hh] at h1
        cases h1
      obtain rfl := EM _ e5
      subst e2 e3
      rw [show shF ⟨0, 0, 0, th, nilB⟩ = guardF inT (bytesOf th) from rfl] at hm ⊢
      obtain ⟨m', h1, h2⟩ := read_text m [] (bytesOf th) ps _ hm
      rw [h2, List.nil_append]
      obtain ⟨m', rfl⟩ : ∃ k, m' = k + 1 := ⟨m' - 1, by simp at h1; omega⟩
      rcases l with _ | ⟨e, l⟩
      · show readF (m' + 1) (47 :: r) [] (bytesOf th) ps = _
        unfold readF
        rw [if_pos rfl]
        unfold flushF
        rw [if_neg hne, mk_bytes]
      · have he0 := hadj rfl e l rfl
        obtain ⟨he, _, _⟩ := mayL_cons hl
        rw [show shL (e :: l) = shF e ++ shL l from rfl, List.append_assoc] at h1 ⊢
        have hp := part_ok e he he0 (shL l ++ 47 :: r)
        have ih2 := ih hl (ps ++ [⟨0, 0, 0, th, nilB⟩]) (m' + 1) (by
          rw [show shL (e :: l) = shF e ++ shL l from rfl, List.append_assoc]; exact h1)
        rw [show shL (e :: l) = shF e ++ shL l from rfl, List.append_assoc] at ih2
        obtain ⟨q, hq⟩ := sh_head e he0 (shL l ++ 47 :: r)
        rw [hq] at hp ih2 ⊢
        unfold readF at ih2 ⊢
        rw [if_neg (by decide), hp] at ih2 ⊢
        dsimp only at ih2 ⊢
        unfold flushF at ih2 ⊢
        rw [if_pos rfl] at ih2
        rw [if_neg hne, mk_bytes, ih2]
        simp
    · have hp := part_ok d hd h0 (shL l ++ 47 :: r)
      have hlen : (shF d).length ≥ 1 := by
        obtain ⟨q, hq⟩ := sh_head d h0 []
        rw [List.append_nil] at hq; rw [hq]; simp
      obtain ⟨m, rfl⟩ : ∃ k, m = k + 1 := ⟨m - 1, by rw [List.length_append] at hm; omega⟩
      have ih2 := ih hl (ps ++ [d]) m (by rw [List.length_append] at hm; omega)
      obtain ⟨q, hq⟩ := sh_head d h0 (shL l ++ 47 :: r)
      rw [hq] at hp ⊢
      unfold readF
      rw [if_neg (by decide), hp]
      dsimp only
      unfold flushF
      rw [if_pos rfl, ih2]
      simp
theorem until_len {e : UInt8} {esc l t r : List UInt8} (h : untilF e esc l = some (t, r)) : r.length < l.length ∧ t.length < l.length ∧ r <:+ l := by
  fun_induction untilF e esc l generalizing t r with
  | case1 => cases h
  | case2 => injection h with h; injection h with h1 h2; subst h1 h2; exact ⟨by simp, by simp, by simp⟩
  | case3 c hc => cases h
  | case4 d l => injection h with h; injection h with h1 h2; subst h1 h2; exact ⟨by simp, by simp, List.suffix_cons _ _⟩
  | case5 c d l hc hd ih =>
    rw [Option.map_eq_some_iff] at h
    obtain ⟨⟨t', r'⟩, h1, h2⟩ := h
    injection h2 with h2 h3
    subst h2 h3
    have := ih h1
    exact ⟨by simp; omega, by simp; omega, this.2.2.trans ((List.suffix_cons _ _).trans (List.suffix_cons _ _))⟩
  | case6 c d l hc hd ih =>
    rw [Option.map_eq_some_iff] at h
    obtain ⟨⟨t', r'⟩, h1, h2⟩ := h
    injection h2 with h2 h3
    subst h2 h3
    have := ih h1
    exact ⟨by simp at this ⊢; omega, by simp at this ⊢; omega, this.2.2.trans (List.suffix_cons _ _)⟩
theorem unt_len {e : UInt8} {l g t r g' : List UInt8} (h : untG e l g = (some (t, r), g')) : r.length < l.length ∧ t.length < l.length ∧ g' = g ∧ r <:+ l := by
  unfold untG at h
  split at h
  · cases h
  split at h
  · rename_i p hp
    injection h with h1 h2
    injection h1 with h1
    subst h1
    have := until_len hp
    exact ⟨this.1, this.2.1, h2.symm, this.2.2⟩
  · cases h
theorem turned_len {l : List UInt8} {c : Int} {r : List UInt8} (h : turnedF l = some (c, r)) : nmL c ≠ [] ∧ 1 ≤ c ∧ c ≤ 5 ∧ r.length < l.length ∧ r <:+ l := by
  have key : ∀ (p : List UInt8) n, p <+: l → 0 < p.length → (l.drop (n + 1)).length < l.length := fun p n hp h0 => by
    have := hp.length_le
    rw [List.length_drop]; omega
  unfold turnedF at h
  split at h
  · rename_i hp; injection h with h; injection h with h1 h2; subst h1 h2; exact ⟨by decide, by decide, by decide, key _ _ hp (by decide), List.drop_suffix _ _⟩
  split at h
  · rename_i hp; injection h with h; injection h with h1 h2; subst h1 h2; exact ⟨by decide, by decide, by decide, key _ _ hp (by decide), List.drop_suffix _ _⟩
  split at h
  · rename_i hp; injection h with h; injection h with h1 h2; subst h1 h2; exact ⟨by decide, by decide, by decide, key _ _ hp (by decide), List.drop_suffix _ _⟩
  split at h
  · rename_i hp; injection h with h; injection h with h1 h2; subst h1 h2; exact ⟨by decide, by decide, by decide, key _ _ hp (by decide), List.drop_suffix _ _⟩
  split at h
  · rename_i hp; injection h with h; injection h with h1 h2; subst h1 h2; exact ⟨by decide, by decide, by decide, key _ _ hp (by decide), List.drop_suffix _ _⟩
  · cases h
/-- What a part is that was read behind a colon. -/
def ColOk (l : List UInt8) (f : Fm) (r : List UInt8) : Prop := r.length < l.length ∧ f.th.size < l.length ∧ f.el.size < l.length ∧ f.n = 0 ∧ r <:+ l ∧ ∀ n : Nat, n ≤ 9999 → mayF { f with n := n } = true ∧ f.k ≠ 0
theorem eqF_self (k n c : Int) (t e : ByteArray) : eqF k n c t e k n c t e = true := by unfold eqF; simp
theorem ok_if (n : Nat) (hn : n ≤ 9999) (t : ByteArray) : mayF ⟨3, n, 0, t, nilB⟩ = true := by
  unfold mayF; dsimp only; rw [if_neg (by omega), if_neg (by decide), if_neg (by decide), if_neg (by decide), if_pos rfl]; exact eqF_self _ _ _ _ _
theorem ok_else (n : Nat) (hn : n ≤ 9999) (t : ByteArray) : mayF ⟨4, n, 0, nilB, t⟩ = true := by
  unfold mayF; dsimp only; rw [if_neg (by omega), if_neg (by decide), if_neg (by decide), if_neg (by decide), if_neg (by decide), if_pos rfl]; exact eqF_self _ _ _ _ _
theorem ok_both (n : Nat) (hn : n ≤ 9999) (t u : ByteArray) : mayF ⟨5, n, 0, t, u⟩ = true := by
  unfold mayF; dsimp only; rw [if_neg (by omega), if_neg (by decide), if_neg (by decide), if_neg (by decide), if_neg (by decide), if_neg (by decide), if_pos rfl]; rfl
theorem ok_turn (n : Nat) (hn : n ≤ 9999) (c : Int) (hc : nmL c ≠ []) : mayF ⟨2, n, c, nilB, nilB⟩ = true := by
  unfold mayF; dsimp only; rw [if_neg (by omega), if_neg (by decide), if_neg (by decide), if_pos rfl, eqF_self, Bool.true_and]
  cases h : nmL c with
  | nil => exact absurd h hc
  | cons => rfl
theorem ok_part (n : Nat) (hn : n ≤ 9999) : mayF ⟨1, n, 0, nilB, nilB⟩ = true := by
  unfold mayF; dsimp only; rw [if_neg (by omega), if_neg (by decide), if_pos rfl]; exact eqF_self _ _ _ _ _
theorem else_is {l g : List UInt8} {f : Fm} {r g' : List UInt8} (h : elseF l g = (some (f, r), g')) : ColOk l f r ∧ g' = g := by
  unfold elseF at h
  rcases hu : untG 125 l g with ⟨_ | ⟨t, r1⟩, g1⟩
  · rw [hu] at h; cases h
  · rw [hu] at h
    dsimp only at h
    injection h with h1 h2
    injection h1 with h1
    injection h1 with h1 h3
    obtain ⟨q1, q2, q3, q4⟩ := unt_len hu
    subst h1 h2 h3
    exact ⟨⟨q1, by show nilB.size < _; exact Nat.lt_of_le_of_lt (Nat.zero_le _) q2, by show (mkB t).size < _; rw [size_mk]; exact q2, rfl, q4, fun n hn => ⟨ok_else n hn _, by simp⟩⟩, q3⟩
theorem ColOk.mono {l l' : List UInt8} {f : Fm} {r : List UInt8} (h : ColOk l f r) (hs : l <:+ l') : ColOk l' f r :=
  have hl := hs.length_le
  ⟨by have := h.1; omega, by have := h.2.1; omega, by have := h.2.2.1; omega, h.2.2.2.1, h.2.2.2.2.1.trans hs, h.2.2.2.2.2⟩
theorem colon_is {l g : List UInt8} {f : Fm} {r g' : List UInt8} (h : colonF l g = (some (f, r), g')) : ColOk l f r ∧ g' = g := by
  unfold colonF at h
  split at h
  · rename_i l
    injection h with h1 h2
    rw [Option.map_eq_some_iff] at h1
    obtain ⟨⟨c, r1⟩, h3, h4⟩ := h1
    injection h4 with h4 h5
    obtain ⟨q1, _, _, q4, q5⟩ := turned_len h3
    subst h4 h5
    refine ⟨⟨by simp; omega, by show nilB.size < _; simp [nilB, ByteArray.size], by show nilB.size < _; simp [nilB, ByteArray.size], rfl, q5.trans (List.suffix_cons _ _), fun n hn => ⟨ok_turn n hn c q1, by simp⟩⟩, h2.symm⟩
  · rename_i l
    rcases hu : untG 125 l g with ⟨_ | ⟨t, r1⟩, g1⟩
    · rw [hu] at h; cases h
    · rw [hu] at h
      dsimp only at h
      injection h with h1 h2
      injection h1 with h1
      injection h1 with h1 h3
      obtain ⟨q1, q2, q3, q4⟩ := unt_len hu
      subst h1 h2 h3
      exact ⟨⟨by simp; omega, by show (mkB t).size < _; rw [size_mk]; simp; omega, by show nilB.size < _; simp [nilB, ByteArray.size], rfl, q4.trans (List.suffix_cons _ _), fun n hn => ⟨ok_if n hn _, by simp⟩⟩, q3⟩
  · rename_i l
    rcases hu : untG 58 l g with ⟨_ | ⟨t, r1⟩, g1⟩
    · rw [hu] at h; cases h
    · rw [hu] at h
      dsimp only at h
      obtain ⟨q1, q2, q3, q4⟩ := unt_len hu
      rcases hv : untG 125 r1 g1 with ⟨_ | ⟨u, r2⟩, g2⟩
      · rw [hv] at h; cases h
      · rw [hv] at h
        dsimp only at h
        injection h with h1 h2
        injection h1 with h1
        injection h1 with h1 h3
        obtain ⟨p1, p2, p3, p4⟩ := unt_len hv
        subst h1 h2 h3
        exact ⟨⟨by simp; omega, by show (mkB t).size < _; rw [size_mk]; simp; omega, by show (mkB u).size < _; rw [size_mk]; simp; omega, rfl, p4.trans (q4.trans (List.suffix_cons _ _)), fun n hn => ⟨ok_both n hn _ _, by simp⟩⟩, p3.trans q3⟩
  · obtain ⟨q1, q2⟩ := else_is h
    exact ⟨q1.mono (List.suffix_cons _ _), q2⟩
  · exact else_is h
/-- What a part is that was read. -/
theorem part_is {l g : List UInt8} {f : Fm} {r g' : List UInt8} (h : partF l g = (some (f, r), g')) : mayF f = true ∧ f.k ≠ 0 ∧ r.length < l.length ∧ f.th.size < l.length ∧ f.el.size < l.length ∧ g' = g ∧ r <:+ l := by
  unfold partF at h
  split at h
  · rename_i l
    unfold brF at h
    split at h
    · rename_i n l2 hn
      obtain ⟨n9, hl, hsf⟩ := num_lt hn
      injection h with h1 h2
      injection h1 with h1
      injection h1 with h1 h3
      subst h1 h2 h3
      exact ⟨ok_part n n9, by simp, by simp at hl ⊢; omega, by simp [nilB, ByteArray.size], by simp [nilB, ByteArray.size], rfl, (List.suffix_cons _ _).trans (hsf.trans ((List.suffix_cons _ _).trans (List.suffix_cons _ _)))⟩
    · rename_i n l2 hn
      obtain ⟨n9, hl, hsf⟩ := num_lt hn
      generalize hc : colonF l2 _ = z at h
      rcases z with ⟨_ | ⟨f1, r1⟩, g1⟩
      · cases h
      · dsimp only at h
        injection h with h1 h2
        injection h1 with h1
        injection h1 with h1 h3
        obtain ⟨⟨q1, q2, q3, q4, q7, q5⟩, q6⟩ := colon_is hc
        subst h1 h2 h3
        refine ⟨(q5 n n9).1, (q5 n n9).2, ?_, ?_, ?_, q6, q7.trans ((List.suffix_cons _ _).trans (hsf.trans ((List.suffix_cons _ _).trans (List.suffix_cons _ _))))⟩
        · simp at hl ⊢; omega
        · show f1.th.size < _; simp at hl ⊢; omega
        · show f1.el.size < _; simp at hl ⊢; omega
    · cases h
  · rename_i l _
    unfold dolF at h
    split at h
    · rename_i n l2 hn
      obtain ⟨n9, hl, hsf⟩ := num_lt hn
      injection h with h1 h2
      injection h1 with h1
      injection h1 with h1 h3
      subst h1 h2 h3
      exact ⟨ok_part n n9, by simp, by simp at hl ⊢; omega, by simp [nilB, ByteArray.size], by simp [nilB, ByteArray.size], rfl, hsf.trans (List.suffix_cons _ _)⟩
    · cases h
  · cases h
theorem flush_ok {ps : List Fm} {t : List UInt8} (h : mayL ps = true) (hl : ∀ d, ps.getLast? = some d → d.k ≠ 0) : mayL (flushF ps t) = true := by
  unfold flushF
  split
  · exact h
  · rename_i ht
    refine mayL_of (fun d hd => ?_) (fun i hi hk => ?_)
    · rw [List.mem_append] at hd
      rcases hd with hd | hd
      · obtain ⟨i, hi, rfl⟩ := List.getElem_of_mem hd
        have := List.all_eq_true.1 h i (List.mem_range.2 hi)
        unfold okF at this
        rw [getElem!_pos ps i hi, Bool.and_eq_true] at this
        exact this.1
      · simp at hd
        subst hd
        unfold mayF
        dsimp only
        rw [if_neg (by omega), if_pos rfl, eqF_self, Bool.true_and, Go.ByteArray.toList_eq]
        cases t with
        | nil => exact absurd rfl ht
        | cons => rfl
    · rw [List.length_append] at hi
      simp only [List.length_singleton] at hi
      by_cases h1 : i + 1 < ps.length
      · rw [List.getElem_append_left (by omega)] at hk
        rw [List.getElem_append_left h1]
        have := List.all_eq_true.1 h (i + 1) (List.mem_range.2 h1)
        unfold okF at this
        rw [getElem!_pos ps (i + 1) h1, Nat.add_sub_cancel, getElem!_pos ps i (by omega)] at this
        intro h2
        simp [hk, h2] at this
      · have hlt : i < ps.length := by omega
        rw [List.getElem_append_left hlt] at hk
        refine absurd hk (hl _ ?_)
        rw [List.getLast?_eq_getElem?, show ps.length - 1 = i by omega, List.getElem?_eq_getElem hlt]
theorem push_ok {ps : List Fm} {f : Fm} (h : mayL ps = true) (hf : mayF f = true) (h0 : f.k ≠ 0) : mayL (ps ++ [f]) = true := by
  refine mayL_of (fun d hd => ?_) (fun i hi hk => ?_)
  · rw [List.mem_append] at hd
    rcases hd with hd | hd
    · obtain ⟨i, hi, rfl⟩ := List.getElem_of_mem hd
      have := List.all_eq_true.1 h i (List.mem_range.2 hi)
      unfold okF at this
      rw [getElem!_pos ps i hi, Bool.and_eq_true] at this
      exact this.1
    · simp at hd
      subst hd
      exact hf
  · rw [List.length_append] at hi
    simp only [List.length_singleton] at hi
    by_cases h1 : i + 1 < ps.length
    · rw [List.getElem_append_left (by omega)] at hk
      rw [List.getElem_append_left h1]
      have := List.all_eq_true.1 h (i + 1) (List.mem_range.2 h1)
      unfold okF at this
      rw [getElem!_pos ps (i + 1) h1, Nat.add_sub_cancel, getElem!_pos ps i (by omega)] at this
      intro h2
      simp [hk, h2] at this
    · rw [List.getElem_append_right (by omega)]
      simp [h0]
theorem esc_is (esc : List UInt8) (c : UInt8) (l : List UInt8) : ∃ d r, escF esc (c :: l) = d :: r ∧ r <:+ l ∧ r.length ≤ l.length := by
  have key : ∀ d r, escF esc (c :: l) = d :: r ∧ r <:+ l → escF esc (c :: l) = d :: r ∧ r <:+ l ∧ r.length ≤ l.length := fun d r h => ⟨h.1, h.2, h.2.length_le⟩
  suffices h : ∃ d r, escF esc (c :: l) = d :: r ∧ r <:+ l by obtain ⟨d, r, h⟩ := h; exact ⟨d, r, key d r h⟩
  unfold escF
  split
  · rename_i d l2 hq
    injection hq with h1 h2
    subst h1 h2
    split
    · exact ⟨_, _, rfl, List.suffix_cons _ _⟩
    · exact ⟨_, _, rfl, List.suffix_refl _⟩
  · exact ⟨_, _, rfl, List.suffix_refl _⟩
def SzL (n : Nat) (l : List Fm) : Prop := ∀ d ∈ l, d.th.size ≤ n ∧ d.el.size ≤ n
/-- What is read may be. -/
theorem read_is (m n : Nat) (l g t : List UInt8) (ps : List Fm) (h : mayL ps = true) (hl : ∀ d, ps.getLast? = some d → d.k ≠ 0) (hn : t.length + l.length ≤ n) (hz : SzL n ps) (fs : List Fm) (r : List UInt8) (hr : readF m l g t ps = some (fs, r)) :
    mayL fs = true ∧ (∃ q, r = 47 :: q) ∧ r <:+ l ∧ SzL n fs ∧ fs.length ≤ ps.length + 2 * l.length := by
  have FZ : ∀ (t : List UInt8) ps, SzL n ps → t.length ≤ n → SzL n (flushF ps t) ∧ (flushF ps t).length ≤ ps.length + 1 := fun t ps h1 h2 => by
    unfold flushF
    split
    · exact ⟨h1, by omega⟩
    · refine ⟨fun d hd => ?_, by simp⟩
      rw [List.mem_append] at hd
      rcases hd with hd | hd
      · exact h1 d hd
      · simp at hd; subst hd; exact ⟨by show (mkB t).size ≤ n; rw [size_mk]; exact h2, by simp [nilB, ByteArray.size]⟩
  induction m generalizing l g t ps with
  | zero => cases hr
  | succ m ih =>
    rcases l with _ | ⟨c, l⟩
    · cases hr
    · unfold readF at hr
      split at hr
      · rename_i hc
        injection hr with hr
        injection hr with h1 h2
        subst h1 h2 hc
        have := FZ t ps hz (by omega)
        exact ⟨flush_ok h hl, ⟨_, rfl⟩, List.suffix_refl _, this.1, by simp; omega⟩
      · generalize hp : partF (c :: l) g = z at hr
        rcases z with ⟨_ | ⟨f, r1⟩, g1⟩
        · dsimp only at hr
          obtain ⟨d, r2, he, hs, hle⟩ := esc_is inT c l
          rw [he] at hr
          dsimp only at hr
          obtain ⟨q1, q2, q3, q4, q5⟩ := ih r2 g1 (t ++ [d]) ps h hl (by simp at hn ⊢; omega) hz hr
          exact ⟨q1, q2, q3.trans (hs.trans (List.suffix_cons _ _)), q4, by simp; omega⟩
        · dsimp only at hr
          obtain ⟨p1, p2, p3, p4, p5, p6, p7⟩ := part_is hp
          have hf := FZ t ps hz (by omega)
          obtain ⟨q1, q2, q3, q4, q5⟩ := ih r1 g1 [] _ (push_ok (flush_ok h hl) p1 p2) (by simp [p2]) (by simp at hn p3 ⊢; omega) (fun d hd => by
            rw [List.mem_append] at hd
            rcases hd with hd | hd
            · exact hf.1 d hd
            · simp at hd; subst hd; simp at p4 p5 hn; exact ⟨by omega, by omega⟩) hr
          exact ⟨q1, q2, q3.trans p7, q4, by simp at q5 p3 ⊢; omega⟩
/-- A text without the four signs, or with a backslash ahead of them, is itself. -/
theorem read_guard (s r : List UInt8) (m : Nat) (hm : (guardF inT s ++ 47 :: r).length ≤ m) : readF m (guardF inT s ++ 47 :: r) [] [] [] = some (flushF [] s, 47 :: r) := by
  obtain ⟨m', h1, h2⟩ := read_text m [] s [] _ hm
  rw [h2, List.nil_append]
  obtain ⟨m', rfl⟩ : ∃ k, m' = k + 1 := ⟨m' - 1, by simp at h1; omega⟩
  simp [readF]
end Go.Proofs.YtbphckblbbbakaaDoor
