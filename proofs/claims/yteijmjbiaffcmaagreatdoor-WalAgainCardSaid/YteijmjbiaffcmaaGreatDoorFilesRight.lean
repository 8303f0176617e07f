/- Which names may be; what a call with names tells ahead of all else. -/
import Derived.Test.YteijmjbiaffcmaaGreatDoorFilesStep
import Derived.BigQuiet
set_option maxRecDepth 20000
set_option linter.unusedSimpArgs false
namespace Go.Proofs.YteijmjbiaffcmaaGreatDoor.Fi
open Go.RowKit Go.Maps Go.Shelf

/-- v is a slice of the texts l. -/
structure Ss (w : World) (v : Value) (l : List ByteArray) : Prop where
  shape : ∃ a cap, v = .slice a l.length cap ∧ (l = [] ∨ ∃ b off, a = some ⟨b, off, none⟩ ∧ b < w.heap.size ∧ ∀ j (h : j < l.length), w.cell? ⟨b, off + j, none⟩ = some (.string l[j]))
  texts : ∀ s ∈ l, s.size ≤ maxLen
  size : l.length ≤ 9223372036854775807
theorem Ss.nil (w : World) : Ss w (.slice none 0 0) [] := ⟨⟨_, _, rfl, Or.inl rfl⟩, fun s h => (by simp at h), by simp⟩
theorem Ss.later {w w' : World} {v : Value} {l : List ByteArray} (h : Ss w v l) (k : Below w.heap.size w w') : Ss w' v l := by
  obtain ⟨⟨a, cap, h1, h2⟩, h3, h4⟩ := h
  refine ⟨⟨a, cap, h1, ?_⟩, h3, h4⟩
  rcases h2 with h | ⟨b, off, e, hb, hc⟩
  · exact Or.inl h
  · exact Or.inr ⟨b, off, e, Nat.lt_of_lt_of_le hb k.size, fun j hj => (k.cell (p := ⟨b, off + j, none⟩) hb).trans (hc j hj)⟩
theorem Ss.cell {w : World} {a : Option Addr} {n cap : Nat} {l : List ByteArray} (h : Ss w (.slice a n cap) l) (h0 : 0 < l.length) : ∃ b off, a = some ⟨b, off, none⟩ ∧ ∀ j (h : j < l.length), w.cell? ⟨b, off + j, none⟩ = some (.string l[j]) := by
  obtain ⟨a', cap', h1, h2⟩ := h.shape
  injection h1 with e1 e2 e3
  subst e1 e2
  rcases h2 with rfl | ⟨b, off, h3, _, h4⟩
  · simp at h0
  · exact ⟨b, off, h3, h4⟩
theorem Ss.slice {w : World} {v : Value} {l : List ByteArray} (h : Ss w v l) : ∃ a cap, v = .slice a l.length cap := by
  obtain ⟨⟨a, cap, h1, _⟩, _⟩ := h; exact ⟨a, cap, h1⟩
def okS (s : ByteArray) : Bool := okN (nm s)
theorem okS_bad {s : ByteArray} (h : s.size < 1 ∨ 20 < s.size) : okS s = false := by
  unfold okS okN
  rw [nm_len]
  rcases h with h | h
  · rw [decide_eq_false (by omega : ¬ 1 ≤ s.size)]; rfl
  · rw [decide_eq_false (by omega : ¬ s.size ≤ 20)]; simp
theorem okS_byte {s : ByteArray} {j : Nat} (hj : j < s.size) (h : inN s[j] = false) : okS s = false := by
  unfold okS okN
  have : (nm s).all inN = false := by
    rw [List.all_eq_false]
    exact ⟨s[j], by unfold nm; rw [Array.mem_toList_iff]; exact Array.getElem_mem _, by rw [h]; decide⟩
  rw [this]; simp
theorem okS_good {s : ByteArray} (h1 : ¬ s.size < 1) (h2 : ¬ 20 < s.size) (h : ∀ j (hj : j < s.size), inN s[j] = true) : okS s = true := by
  unfold okS okN
  rw [nm_len, decide_eq_true (by omega : 1 ≤ s.size), decide_eq_true (by omega : s.size ≤ 20)]
  simp only [Bool.true_and, List.all_eq_true]
  intro x hx
  unfold nm at hx
  obtain ⟨j, hj, rfl⟩ := Array.getElem_of_mem (Array.mem_toList_iff.1 hx)
  exact h j hj
theorem all_bad {l : List ByteArray} {k : Nat} (hk : k < l.length) (h : okS l[k] = false) : l.all okS = false := by
  rw [List.all_eq_false]; exact ⟨_, List.getElem_mem hk, by rw [h]; decide⟩
theorem all_good {l : List ByteArray} (h : ∀ k (hk : k < l.length), okS l[k] = true) : l.all okS = true := by
  rw [List.all_eq_true]
  intro x hx
  obtain ⟨k, hk, rfl⟩ := List.getElem_of_mem hx
  exact h k hk
set_option maxHeartbeats 2000000 in
theorem right_is (v : Value) (l : List ByteArray) (w : World) (h : Ss w v l) : Calls Tryz.prog 113 #[v] w fun e w' => e = .returned (.bool (l.all okS)) ∧ w = w' := by
  obtain ⟨a, cap, rfl⟩ := h.slice
  have hsz := h.size
  have H := Lib.hid h
  obtain ⟨n, hn⟩ : ∃ n, l.length = n := ⟨_, rfl⟩
  obtain ⟨z, hz⟩ : ∃ z, l.all okS = z := ⟨_, rfl⟩
  rw [hn] at hsz ⊢
  rw [hz]
  have HN := Lib.hid hn
  have HZ := Lib.hid hz
  have ki := fun x w => inname_is x w
  clear h hn hz
  go_enter Tryz.func113, Tryz.ntmps113
  go_wp2
  go_step3
  go_wp2
  go_step3
  go_wp2
  go_loopg [3, 9] n (fun g seen i wr => ∃ k : Nat, k + g = n ∧ seen = .int .i64 (k : Int) ∧ i = .int .i64 (k : Int) ∧ wr = w ∧ Hid (∀ t (ht : t < l.length), t < k → okS l[t] = true))
  case atStart => exact ⟨0, by omega, rfl, rfl, rfl, Lib.hid fun t _ ht => absurd ht (Nat.not_lt_zero _)⟩
  case round =>
    obtain ⟨k, hk, rfl, rfl, rfl, hall⟩ := hrel
    obtain ⟨w2, hw2⟩ : ∃ w2, w2 = wr := ⟨_, rfl⟩
    subst hw2
    cases gk with
    | zero =>
      obtain rfl : k = n := by omega
      have hlt : ¬ (k : Int) < (k : Int) := by omega
      have hq : ((k : Int) == (k : Int)) = true := by simp
      have hzt := Lib.hid (show true = z by rw [← HZ.out, all_good fun t ht => hall.out t ht (by rw [← HN.out]; exact ht)])
      go_wp2
      try rw [Exit.noGoto_ret]
      go_ret
      exact ⟨by rw [← hzt.out]; rfl, rfl⟩
    | succ g =>
      have hlt : (k : Int) < (n : Int) := by omega
      have hkl : k < l.length := by rw [HN.out]; omega
      have hkn : ((k : Int) == (n : Int)) = false := by simp; omega
      obtain ⟨b, off, rfl, hc⟩ := H.out.cell (by omega)
      have c1 := hc k hkl
      obtain ⟨s, hs⟩ : ∃ s, l[k] = s := ⟨_, rfl⟩
      have hsm : s.size ≤ 9223372036854775807 := by have := H.out.texts s (by rw [← hs]; exact List.getElem_mem _); unfold maxLen at this; omega
      rw [hs] at c1
      have HSS := Lib.hid hs
      clear hc hs
      by_cases h1 : s.size < 1
      · have h1' : (s.size : Int) < 1 := by omega
        have hzt := Lib.hid (show false = z by rw [← HZ.out, all_bad hkl (by rw [HSS.out]; exact okS_bad (Or.inl h1))])
        clear h1
        go_wp2
        try rw [Exit.noGoto_ret]
        go_ret
        exact ⟨by rw [← hzt.out]; rfl, rfl⟩
      · have h1' : ¬ (s.size : Int) < 1 := by omega
        by_cases h2 : 20 < s.size
        · have h2' : (20 : Int) < (s.size : Int) := by omega
          have hzt := Lib.hid (show false = z by rw [← HZ.out, all_bad hkl (by rw [HSS.out]; exact okS_bad (Or.inr h2))])
          clear h1
          go_wp2
          try rw [Exit.noGoto_ret]
          go_ret
          exact ⟨by rw [← hzt.out]; rfl, rfl⟩
        · have h2' : ¬ (20 : Int) < (s.size : Int) := by omega
          have HG := Lib.hid (fun h => okS_good h1 h2 h)
          clear h1
          go_wp2
          go_loopg [23] s.size (fun g2 jj wy => ∃ j : Nat, j + g2 = s.size ∧ jj = .int .i64 (j : Int) ∧ wy = w2 ∧ Hid (∀ t (ht : t < s.size), t < j → inN s[t] = true))
          case atStart => exact ⟨0, by omega, rfl, rfl, Lib.hid fun t _ ht => absurd ht (Nat.not_lt_zero _)⟩
          case round =>
            obtain ⟨j, hj, rfl, rfl, hin⟩ := hrel
            cases gk with
            | zero =>
              have hjs : ¬ (j : Int) < (s.size : Int) := by omega
              have HK := Lib.hid (HG.out fun t ht => hin.out t ht (by omega))
              go_wp2
              go_roundg g
              case measure => omega
              case rel =>
                refine ⟨k + 1, by omega, by go_num, by go_num, rfl, Lib.hid fun t ht h3 => ?_⟩
                by_cases e : t = k
                · subst e; rw [HSS.out]; exact HK.out
                · exact hall.out t ht (by omega)
            | succ g2 =>
              have hjs : j < s.size := by omega
              have hjs' : (j : Int) < (s.size : Int) := by omega
              have kx := ki s[j]
              obtain ⟨x, hx⟩ : ∃ x, inN s[j] = x := ⟨_, rfl⟩
              rw [hx] at kx
              cases x with
              | true =>
                have HX := Lib.hid hx
                clear hx
                go_wp2_with (go_at_call 132; (with_reducible refine (kx _).mono ?_); rintro e w5 ⟨rfl, rfl⟩)
                go_roundg g2
                case measure => omega
                case rel =>
                  refine ⟨j + 1, by omega, by go_num, rfl, Lib.hid fun t ht h3 => ?_⟩
                  by_cases e : t = j
                  · subst e; exact HX.out
                  · exact hin.out t ht (by omega)
              | false =>
                have hzt := Lib.hid (show false = z by rw [← HZ.out, all_bad hkl (by rw [HSS.out]; exact okS_byte hjs hx)])
                clear hx
                go_wp2_with (go_at_call 132; (with_reducible refine (kx _).mono ?_); rintro e w5 ⟨rfl, rfl⟩)
                try rw [Exit.noGoto_ret]
                go_ret
                exact ⟨by rw [← hzt.out]; rfl, rfl⟩
def checkS (S : FS) (l : List ByteArray) : Int := if S.on = false then 14 else if l.all okS then 0 else 1
theorem check_is (b : Nat) (S : FS) (L : Lay) (v : Value) (l : List ByteArray) (w : World) (h : FsAt w b S L) (hs : Ss w v l) : Calls Tryz.prog 90 #[.pointer (some ⟨b, 0, none⟩), v] w fun e w' => e = .returned (.int .i64 (checkS S l)) ∧ w = w' := by
  obtain ⟨-, -, -, -, c4, -, -⟩ := h.cells
  have k := right_is v l w hs
  obtain ⟨a, cap, rfl⟩ := hs.slice
  unfold checkS
  clear h hs
  cases hon : S.on with
  | false =>
    rw [hon] at c4
    clear k
    go_enter Tryz.func90, Tryz.ntmps90
    go_wp2
    go_ret
    exact ⟨rfl, rfl⟩
  | true =>
    rw [hon] at c4
    generalize l.all okS = z at *
    generalize l.length = n at *
    cases z with
    | true =>
      go_enter Tryz.func90, Tryz.ntmps90
      go_wp2_with (go_at_call 113; (with_reducible refine k.mono ?_); rintro e w5 ⟨rfl, rfl⟩)
      go_ret
      exact ⟨rfl, rfl⟩
    | false =>
      go_enter Tryz.func90, Tryz.ntmps90
      go_wp2_with (go_at_call 113; (with_reducible refine k.mono ?_); rintro e w5 ⟨rfl, rfl⟩)
      go_ret
      exact ⟨rfl, rfl⟩
end Go.Proofs.YteijmjbiaffcmaaGreatDoor.Fi
