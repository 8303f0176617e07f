/- The walk of law MarkTexts: it returns true and turns nothing that was there. -/
import Derived.Test.YtkgagedjjjaofaaMarkRead
import Derived.Test.YtkgagedjjjaofaaMarkRRead
namespace Go.Proofs.Ytkgagedjjjaofaa.markTexts
open Go.RowKit Go.Proofs.Ytkgagedjjjaofaa Go.Proofs.Ytkgagedjjjaofaa.Vi Go.Proofs.Ytkgagedjjjaofaa.Mk

theorem same_yes (v1 v2 : Value) (l : List Int) (w : World) (h1 : Ns w v1 l) (h2 : Ns w v2 l) : Calls Try.prog 24 #[v1, v2] w fun e w' => e = .returned (.bool true) ∧ Below w.heap.size w w' := by
  have := rsameN v1 v2 l l w h1 h2
  rw [sameL_self] at this; exact this
/-- A vector and no error. -/
def Good (V : List Int) (w : World) (e : Ending) (w' : World) : Prop := ∃ v, e = .returned (.tuple #[v, .int .i64 0]) ∧ Ns w' v V ∧ Below w.heap.size w w'
/-- No vector. -/
def Bad (w : World) (e : Ending) (w' : World) : Prop := e = .returned (.tuple #[.slice none 0 0, .int .i64 10]) ∧ Below w.heap.size w w'
theorem read_good (s : ByteArray) (V : List Int) (w : World) (hs : s.size ≤ 100000) (h : OkS s) (hV : vecS s = V) : Calls Try.prog 39 #[.string s] w (Good V w) := by
  subst hV
  refine (read_vec s w hs).mono fun e w' ⟨v, er, h1, h2, h3⟩ => ?_
  rcases h3 with ⟨_, rfl, h4⟩ | ⟨h4, _⟩
  · exact ⟨v, h1, h4, h2⟩
  · exact absurd h h4
theorem read_bad (s : ByteArray) (w : World) (hs : s.size ≤ 100000) (h : ¬ OkS s) : Calls Try.prog 39 #[.string s] w (Bad w) := by
  refine (read_vec s w hs).mono fun e w' ⟨v, er, h1, h2, h3⟩ => ?_
  rcases h3 with ⟨h4, _⟩ | ⟨_, rfl, rfl⟩
  · exact absurd h4 h
  · exact ⟨h1, h2⟩
theorem rread_good (s : ByteArray) (V : List Int) (w : World) (hs : s.size ≤ 100000) (h : OkS s) (hV : vecS s = V) : Calls Try.prog 40 #[.string s] w (Good V w) := by
  subst hV
  refine (rread_is s w hs).mono fun e w' ⟨v, er, h1, h2, h3⟩ => ?_
  rcases h3 with ⟨_, rfl, h4⟩ | ⟨h4, _⟩
  · exact ⟨v, h1, h4, h2⟩
  · exact absurd h h4
theorem rread_bad (s : ByteArray) (w : World) (hs : s.size ≤ 100000) (h : ¬ OkS s) : Calls Try.prog 40 #[.string s] w (Bad w) := by
  refine (rread_is s w hs).mono fun e w' ⟨v, er, h1, h2, h3⟩ => ?_
  rcases h3 with ⟨h4, _⟩ | ⟨_, rfl, rfl⟩
  · exact absurd h4 h
  · exact ⟨h1, h2⟩

set_option maxHeartbeats 16000000 in
theorem core_11 (u : Value) (l0 : List Int) (s T : ByteArray) (w : World) (h : ArgNs w u l0) (hT : T.size ≤ 100) (h60 : 100 < s.size) (hTe : s.extract 0 100 = T) (hok : OkS T) :
    Calls Try.prog 5 #[u, .string s] w fun e w' => e = .returned (.bool true) ∧ Below w.heap.size w w' := by
  obtain ⟨l, hl⟩ : ∃ l, l0.take 12 = l := ⟨_, rfl⟩
  have f1 := fun w h' => fewN u l0 w h' h.cap
  rw [hl] at f1
  have G1 := h.ns
  obtain ⟨p, hp⟩ : ∃ p, plainL l = p := ⟨_, rfl⟩
  obtain ⟨tt, htt⟩ : ∃ t, tx (textL p) = t := ⟨_, rfl⟩
  have hfit : ∀ n ∈ p, 0 ≤ n ∧ n ≤ 1099511627776 := by rw [← hp]; exact vec_fit (atL_fit l)
  have hp8 : p.length ≤ 8 := by rw [← hp]; exact vec_size _
  have hts : tt.size ≤ 100000 := by rw [← htt, tx_size]; have := textL_len p hfit hp8; omega
  have hvt : tx (textL (vec fun i => atL l (i : Int))) = tt := by rw [← htt, ← hp]; rfl
  have r3 := fun w => read_good tt p w hts (okS_text _ (atL_fit l) tt hvt) (by rw [read_text_vec _ (atL_fit l) tt hvt, ← hp]; rfl)
  have x1 := fun v w h => textN v l tt w h (Lib.hid (by rw [hp]; exact htt))
  have x2 := fun v w h => rtext_is v l tt w h (Lib.hid (by rw [hp]; exact htt))
  have y1 := fun v w h => rplain_is v l w h
  rw [hp] at y1
  have s1 := same_yes
  obtain ⟨V, hV⟩ : ∃ V, vecS T = V := ⟨_, rfl⟩
  have r1 := fun w => read_good T V w (by omega) hok hV
  have r2 := fun w => rread_good T V w (by omega) hok hV
  have x3 := fun v w h => textN v V T w h (Lib.hid (by
    have e : plainL V = V := by rw [← hV]; exact plain_vec (numS_fit T)
    rw [e, ← hV]; exact hok))
  clear hok hV
  clear hl hp htt hfit hp8 hts hvt h hT
  go_enter Try.func5, Try.ntmps5
  go_wp2_with (first
    | (go_at_call 10; (with_reducible refine (awake_any _).mono ?_); rintro e w1 ⟨rfl, hb⟩; have G1 := G1.later hb; have B0 := hb)
    | (go_at_call 23; (with_reducible refine (f1 _ G1).mono ?_); rintro e wn ⟨va, rfl, Ga, rfl⟩)
    | (go_at_call 39; (with_reducible refine (r1 _).mono ?_); rintro e w3 ⟨v1, rfl, N1, hb⟩; have Ga := Ga.later hb; have B0 := bel_next B0 hb)
    | (go_at_call 40; (with_reducible refine (r2 _).mono ?_); rintro e w4 ⟨v2, rfl, N2, hb⟩; have Ga := Ga.later hb; have B0 := bel_next B0 hb; have N1 := N1.later hb)
    | (go_at_call 39; (with_reducible refine (r3 _).mono ?_); rintro e w5 ⟨v3, rfl, N3, hb⟩; have Ga := Ga.later hb; have B0 := bel_next B0 hb; have N1 := N1.later hb; have N2 := N2.later hb)
    | (go_at_call 42; (with_reducible refine (y1 _ _ Ga).mono ?_); rintro e w6 hz; obtain ⟨v4, rfl, N4, hb⟩ := hz.ns; have Ga := Ga.later hb; have B0 := bel_next B0 hb; have N3 := N3.later hb; have N1 := N1.later hb; (try have N2 := N2.later hb))
    | (go_at_call 24; first | ((with_reducible refine (s1 _ _ _ _ N3 N4).mono ?_); rintro e w7 ⟨rfl, hb⟩; have Ga := Ga.later hb; have B0 := bel_next B0 hb; have N1 := N1.later hb; (try have N2 := N2.later hb)) | ((with_reducible refine (s1 _ _ _ _ N1 N2).mono ?_); rintro e w7 ⟨rfl, hb⟩; have Ga := Ga.later hb; have B0 := bel_next B0 hb; have N1 := N1.later hb; (try have N3 := N3.later hb)))
    | (go_at_call 41; first | ((with_reducible refine (x1 _ _ Ga).mono ?_); rintro e w8 ⟨rfl, hb⟩; have Ga := Ga.later hb; have B0 := bel_next B0 hb; have N1 := N1.later hb; (try have N2 := N2.later hb)) | ((with_reducible refine (x3 _ _ N1).mono ?_); rintro e w8 ⟨rfl, hb⟩; have Ga := Ga.later hb; have B0 := bel_next B0 hb))
    | (go_at_call 43; (with_reducible refine (x2 _ _ Ga).mono ?_); rintro e w8 ⟨rfl, hb⟩; have Ga := Ga.later hb; have B0 := bel_next B0 hb; have N1 := N1.later hb; (try have N2 := N2.later hb)))
  go_ret
  exact ⟨rfl, B0⟩

set_option maxHeartbeats 16000000 in
theorem core_10 (u : Value) (l0 : List Int) (s T : ByteArray) (w : World) (h : ArgNs w u l0) (hT : T.size ≤ 100) (h60 : ¬ 100 < s.size) (hTe : T = s) (hok : OkS T) :
    Calls Try.prog 5 #[u, .string s] w fun e w' => e = .returned (.bool true) ∧ Below w.heap.size w w' := by
  obtain ⟨l, hl⟩ : ∃ l, l0.take 12 = l := ⟨_, rfl⟩
  have f1 := fun w h' => fewN u l0 w h' h.cap
  rw [hl] at f1
  have G1 := h.ns
  obtain ⟨p, hp⟩ : ∃ p, plainL l = p := ⟨_, rfl⟩
  obtain ⟨tt, htt⟩ : ∃ t, tx (textL p) = t := ⟨_, rfl⟩
  have hfit : ∀ n ∈ p, 0 ≤ n ∧ n ≤ 1099511627776 := by rw [← hp]; exact vec_fit (atL_fit l)
  have hp8 : p.length ≤ 8 := by rw [← hp]; exact vec_size _
  have hts : tt.size ≤ 100000 := by rw [← htt, tx_size]; have := textL_len p hfit hp8; omega
  have hvt : tx (textL (vec fun i => atL l (i : Int))) = tt := by rw [← htt, ← hp]; rfl
  have r3 := fun w => read_good tt p w hts (okS_text _ (atL_fit l) tt hvt) (by rw [read_text_vec _ (atL_fit l) tt hvt, ← hp]; rfl)
  have x1 := fun v w h => textN v l tt w h (Lib.hid (by rw [hp]; exact htt))
  have x2 := fun v w h => rtext_is v l tt w h (Lib.hid (by rw [hp]; exact htt))
  have y1 := fun v w h => rplain_is v l w h
  rw [hp] at y1
  have s1 := same_yes
  obtain ⟨V, hV⟩ : ∃ V, vecS T = V := ⟨_, rfl⟩
  have r1 := fun w => read_good T V w (by omega) hok hV
  have r2 := fun w => rread_good T V w (by omega) hok hV
  have x3 := fun v w h => textN v V T w h (Lib.hid (by
    have e : plainL V = V := by rw [← hV]; exact plain_vec (numS_fit T)
    rw [e, ← hV]; exact hok))
  clear hok hV
  clear hl hp htt hfit hp8 hts hvt h hT
  subst hTe
  go_enter Try.func5, Try.ntmps5
  go_wp2_with (first
    | (go_at_call 10; (with_reducible refine (awake_any _).mono ?_); rintro e w1 ⟨rfl, hb⟩; have G1 := G1.later hb; have B0 := hb)
    | (go_at_call 23; (with_reducible refine (f1 _ G1).mono ?_); rintro e wn ⟨va, rfl, Ga, rfl⟩)
    | (go_at_call 39; (with_reducible refine (r1 _).mono ?_); rintro e w3 ⟨v1, rfl, N1, hb⟩; have Ga := Ga.later hb; have B0 := bel_next B0 hb)
    | (go_at_call 40; (with_reducible refine (r2 _).mono ?_); rintro e w4 ⟨v2, rfl, N2, hb⟩; have Ga := Ga.later hb; have B0 := bel_next B0 hb; have N1 := N1.later hb)
    | (go_at_call 39; (with_reducible refine (r3 _).mono ?_); rintro e w5 ⟨v3, rfl, N3, hb⟩; have Ga := Ga.later hb; have B0 := bel_next B0 hb; have N1 := N1.later hb; have N2 := N2.later hb)
    | (go_at_call 42; (with_reducible refine (y1 _ _ Ga).mono ?_); rintro e w6 hz; obtain ⟨v4, rfl, N4, hb⟩ := hz.ns; have Ga := Ga.later hb; have B0 := bel_next B0 hb; have N3 := N3.later hb; have N1 := N1.later hb; (try have N2 := N2.later hb))
    | (go_at_call 24; first | ((with_reducible refine (s1 _ _ _ _ N3 N4).mono ?_); rintro e w7 ⟨rfl, hb⟩; have Ga := Ga.later hb; have B0 := bel_next B0 hb; have N1 := N1.later hb; (try have N2 := N2.later hb)) | ((with_reducible refine (s1 _ _ _ _ N1 N2).mono ?_); rintro e w7 ⟨rfl, hb⟩; have Ga := Ga.later hb; have B0 := bel_next B0 hb; have N1 := N1.later hb; (try have N3 := N3.later hb)))
    | (go_at_call 41; first | ((with_reducible refine (x1 _ _ Ga).mono ?_); rintro e w8 ⟨rfl, hb⟩; have Ga := Ga.later hb; have B0 := bel_next B0 hb; have N1 := N1.later hb; (try have N2 := N2.later hb)) | ((with_reducible refine (x3 _ _ N1).mono ?_); rintro e w8 ⟨rfl, hb⟩; have Ga := Ga.later hb; have B0 := bel_next B0 hb))
    | (go_at_call 43; (with_reducible refine (x2 _ _ Ga).mono ?_); rintro e w8 ⟨rfl, hb⟩; have Ga := Ga.later hb; have B0 := bel_next B0 hb; have N1 := N1.later hb; (try have N2 := N2.later hb)))
  go_ret
  exact ⟨rfl, B0⟩

set_option maxHeartbeats 16000000 in
theorem core_01 (u : Value) (l0 : List Int) (s T : ByteArray) (w : World) (h : ArgNs w u l0) (hT : T.size ≤ 100) (h60 : 100 < s.size) (hTe : s.extract 0 100 = T) (hok : ¬ OkS T) :
    Calls Try.prog 5 #[u, .string s] w fun e w' => e = .returned (.bool true) ∧ Below w.heap.size w w' := by
  obtain ⟨l, hl⟩ : ∃ l, l0.take 12 = l := ⟨_, rfl⟩
  have f1 := fun w h' => fewN u l0 w h' h.cap
  rw [hl] at f1
  have G1 := h.ns
  obtain ⟨p, hp⟩ : ∃ p, plainL l = p := ⟨_, rfl⟩
  obtain ⟨tt, htt⟩ : ∃ t, tx (textL p) = t := ⟨_, rfl⟩
  have hfit : ∀ n ∈ p, 0 ≤ n ∧ n ≤ 1099511627776 := by rw [← hp]; exact vec_fit (atL_fit l)
  have hp8 : p.length ≤ 8 := by rw [← hp]; exact vec_size _
  have hts : tt.size ≤ 100000 := by rw [← htt, tx_size]; have := textL_len p hfit hp8; omega
  have hvt : tx (textL (vec fun i => atL l (i : Int))) = tt := by rw [← htt, ← hp]; rfl
  have r3 := fun w => read_good tt p w hts (okS_text _ (atL_fit l) tt hvt) (by rw [read_text_vec _ (atL_fit l) tt hvt, ← hp]; rfl)
  have x1 := fun v w h => textN v l tt w h (Lib.hid (by rw [hp]; exact htt))
  have x2 := fun v w h => rtext_is v l tt w h (Lib.hid (by rw [hp]; exact htt))
  have y1 := fun v w h => rplain_is v l w h
  rw [hp] at y1
  have s1 := same_yes
  have r1 := fun w => read_bad T w (by omega) hok
  have r2 := fun w => rread_bad T w (by omega) hok
  have s2 := fun w => same_yes (.slice none 0 0) (.slice none 0 0) [] w ((Nums.nil w none 0).mono (Nat.zero_le _) (Nat.le_refl _)) ((Nums.nil w none 0).mono (Nat.zero_le _) (Nat.le_refl _))
  clear hok
  clear hl hp htt hfit hp8 hts hvt h hT
  go_enter Try.func5, Try.ntmps5
  go_wp2_with (first
    | (go_at_call 10; (with_reducible refine (awake_any _).mono ?_); rintro e w1 ⟨rfl, hb⟩; have G1 := G1.later hb; have B0 := hb)
    | (go_at_call 23; (with_reducible refine (f1 _ G1).mono ?_); rintro e wn ⟨va, rfl, Ga, rfl⟩)
    | (go_at_call 39; (with_reducible refine (r1 _).mono ?_); rintro e w3 ⟨rfl, hb⟩; have Ga := Ga.later hb; have B0 := bel_next B0 hb)
    | (go_at_call 40; (with_reducible refine (r2 _).mono ?_); rintro e w4 ⟨rfl, hb⟩; have Ga := Ga.later hb; have B0 := bel_next B0 hb)
    | (go_at_call 39; (with_reducible refine (r3 _).mono ?_); rintro e w5 ⟨v3, rfl, N3, hb⟩; have Ga := Ga.later hb; have B0 := bel_next B0 hb; skip)
    | (go_at_call 42; (with_reducible refine (y1 _ _ Ga).mono ?_); rintro e w6 hz; obtain ⟨v4, rfl, N4, hb⟩ := hz.ns; have Ga := Ga.later hb; have B0 := bel_next B0 hb; have N3 := N3.later hb; skip)
    | (go_at_call 24; first | ((with_reducible refine (s1 _ _ _ _ N3 N4).mono ?_); rintro e w7 ⟨rfl, hb⟩; have Ga := Ga.later hb; have B0 := bel_next B0 hb; skip) | ((with_reducible refine (s2 _).mono ?_); rintro e w7 ⟨rfl, hb⟩; have Ga := Ga.later hb; have B0 := bel_next B0 hb; have N3 := N3.later hb))
    | (go_at_call 41; first | ((with_reducible refine (x1 _ _ Ga).mono ?_); rintro e w8 ⟨rfl, hb⟩; have Ga := Ga.later hb; have B0 := bel_next B0 hb; skip))
    | (go_at_call 43; (with_reducible refine (x2 _ _ Ga).mono ?_); rintro e w8 ⟨rfl, hb⟩; have Ga := Ga.later hb; have B0 := bel_next B0 hb; skip))
  go_ret
  exact ⟨rfl, B0⟩

set_option maxHeartbeats 16000000 in
theorem core_00 (u : Value) (l0 : List Int) (s T : ByteArray) (w : World) (h : ArgNs w u l0) (hT : T.size ≤ 100) (h60 : ¬ 100 < s.size) (hTe : T = s) (hok : ¬ OkS T) :
    Calls Try.prog 5 #[u, .string s] w fun e w' => e = .returned (.bool true) ∧ Below w.heap.size w w' := by
  obtain ⟨l, hl⟩ : ∃ l, l0.take 12 = l := ⟨_, rfl⟩
  have f1 := fun w h' => fewN u l0 w h' h.cap
  rw [hl] at f1
  have G1 := h.ns
  obtain ⟨p, hp⟩ : ∃ p, plainL l = p := ⟨_, rfl⟩
  obtain ⟨tt, htt⟩ : ∃ t, tx (textL p) = t := ⟨_, rfl⟩
  have hfit : ∀ n ∈ p, 0 ≤ n ∧ n ≤ 1099511627776 := by rw [← hp]; exact vec_fit (atL_fit l)
  have hp8 : p.length ≤ 8 := by rw [← hp]; exact vec_size _
  have hts : tt.size ≤ 100000 := by rw [← htt, tx_size]; have := textL_len p hfit hp8; omega
  have hvt : tx (textL (vec fun i => atL l (i : Int))) = tt := by rw [← htt, ← hp]; rfl
  have r3 := fun w => read_good tt p w hts (okS_text _ (atL_fit l) tt hvt) (by rw [read_text_vec _ (atL_fit l) tt hvt, ← hp]; rfl)
  have x1 := fun v w h => textN v l tt w h (Lib.hid (by rw [hp]; exact htt))
  have x2 := fun v w h => rtext_is v l tt w h (Lib.hid (by rw [hp]; exact htt))
  have y1 := fun v w h => rplain_is v l w h
  rw [hp] at y1
  have s1 := same_yes
  have r1 := fun w => read_bad T w (by omega) hok
  have r2 := fun w => rread_bad T w (by omega) hok
  have s2 := fun w => same_yes (.slice none 0 0) (.slice none 0 0) [] w ((Nums.nil w none 0).mono (Nat.zero_le _) (Nat.le_refl _)) ((Nums.nil w none 0).mono (Nat.zero_le _) (Nat.le_refl _))
  clear hok
  clear hl hp htt hfit hp8 hts hvt h hT
  subst hTe
  go_enter Try.func5, Try.ntmps5
  go_wp2_with (first
    | (go_at_call 10; (with_reducible refine (awake_any _).mono ?_); rintro e w1 ⟨rfl, hb⟩; have G1 := G1.later hb; have B0 := hb)
    | (go_at_call 23; (with_reducible refine (f1 _ G1).mono ?_); rintro e wn ⟨va, rfl, Ga, rfl⟩)
    | (go_at_call 39; (with_reducible refine (r1 _).mono ?_); rintro e w3 ⟨rfl, hb⟩; have Ga := Ga.later hb; have B0 := bel_next B0 hb)
    | (go_at_call 40; (with_reducible refine (r2 _).mono ?_); rintro e w4 ⟨rfl, hb⟩; have Ga := Ga.later hb; have B0 := bel_next B0 hb)
    | (go_at_call 39; (with_reducible refine (r3 _).mono ?_); rintro e w5 ⟨v3, rfl, N3, hb⟩; have Ga := Ga.later hb; have B0 := bel_next B0 hb; skip)
    | (go_at_call 42; (with_reducible refine (y1 _ _ Ga).mono ?_); rintro e w6 hz; obtain ⟨v4, rfl, N4, hb⟩ := hz.ns; have Ga := Ga.later hb; have B0 := bel_next B0 hb; have N3 := N3.later hb; skip)
    | (go_at_call 24; first | ((with_reducible refine (s1 _ _ _ _ N3 N4).mono ?_); rintro e w7 ⟨rfl, hb⟩; have Ga := Ga.later hb; have B0 := bel_next B0 hb; skip) | ((with_reducible refine (s2 _).mono ?_); rintro e w7 ⟨rfl, hb⟩; have Ga := Ga.later hb; have B0 := bel_next B0 hb; have N3 := N3.later hb))
    | (go_at_call 41; first | ((with_reducible refine (x1 _ _ Ga).mono ?_); rintro e w8 ⟨rfl, hb⟩; have Ga := Ga.later hb; have B0 := bel_next B0 hb; skip))
    | (go_at_call 43; (with_reducible refine (x2 _ _ Ga).mono ?_); rintro e w8 ⟨rfl, hb⟩; have Ga := Ga.later hb; have B0 := bel_next B0 hb; skip))
  go_ret
  exact ⟨rfl, B0⟩

theorem walk (a0 : Option Addr) (len0 cap0 : Nat) (s : ByteArray) (w : World) (h0 : ArgInts w a0 len0 cap0) (_hs : s.size ≤ maxLen) :
    Calls Try.prog 5 #[.slice a0 len0 cap0, .string s] w fun e w' => e = .returned (.bool true) ∧ Below w.heap.size w w' := by
  obtain ⟨k0, g0⟩ := argNs_of h0
  by_cases h : 100 < s.size
  · by_cases hok : OkS (s.extract 0 100)
    · exact core_11 _ k0 s _ w g0 (by simp; omega) h rfl hok
    · exact core_01 _ k0 s _ w g0 (by simp; omega) h rfl hok
  · by_cases hok : OkS s
    · exact core_10 _ k0 s s w g0 (by omega) h rfl hok
    · exact core_00 _ k0 s s w g0 (by omega) h rfl hok
end Go.Proofs.Ytkgagedjjjaofaa.markTexts
