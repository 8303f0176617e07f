/- The contract of the laws' own few: at most 30 points, with short names. -/
import Derived.Test.YtjckphmkhikpaaaSamplePts
import Derived.Test.YtjckphmkhikpaaaSampleSmall
set_option maxRecDepth 20000
namespace Go.Proofs.Ytjckphmkhikpaaa
open Go.RowKit Go.Proofs.Ytjckphmkhikpaaa.Vi Go.Proofs.Ytjckphmkhikpaaa.Mk

def Pt.short (p : Pt) : Pt := { p with s := cutB p.s 60 }
def fewL (l : List Pt) : List Pt := (l.take 30).map Pt.short
theorem fewL_len (l : List Pt) : (fewL l).length ≤ 30 := by unfold fewL; rw [List.length_map, List.length_take]; omega
theorem cutB_len (s : ByteArray) (n : Nat) : (cutB s n).size ≤ n := by unfold cutB; split <;> (try simp [ByteArray.size_extract]) <;> omega
theorem fewL_short {l : List Pt} {p : Pt} (h : p ∈ fewL l) : p.s.size ≤ 60 := by
  obtain ⟨q, -, rfl⟩ := List.mem_map.1 (show p ∈ (l.take 30).map Pt.short from h)
  exact cutB_len _ _
theorem fewL_fits {l : List Pt} (hf : ∀ p ∈ l, p.fits) {p : Pt} (h : p ∈ fewL l) : p.fits := by
  obtain ⟨q, hq, rfl⟩ := List.mem_map.1 (show p ∈ (l.take 30).map Pt.short from h)
  have hq := hf q (List.mem_of_mem_take hq)
  exact ⟨by have := cutB_len q.s 60; show (cutB q.s 60).size ≤ _; omega, hq.t, hq.v⟩
theorem owns6_later {w w' : World} {B size n : Nat} {e : TypeId} {v : Value} {xs : List Value} (h : w.ownsRow B e size v n xs) (k : Below w.heap.size w w') : w'.ownsRow B e size v n xs := by
  obtain ⟨h1, h2⟩ := h
  refine ⟨h1, ?_⟩
  rcases h2 with h2 | ⟨g, cap, cur, e1, e2, e3, rest⟩
  · exact Or.inl h2
  · have hg : g < w.heap.size := (Array.getElem?_eq_some_iff.1 e3).1
    exact Or.inr ⟨g, cap, cur, e1, e2, (k.block g hg).trans e3, rest⟩
/-- What few's loop has put together. -/
structure FewRel (w wr : World) (l : List Pt) (o : Value) (k : Nat) : Prop where
  row : PRow wr w.heap.size o ((l.take k).map Pt.short)
  bel : Below w.heap.size w wr
theorem few_step {l : List Pt} {k : Nat} (h : k < l.length) : (l.take (k + 1)).map Pt.short = (l.take k).map Pt.short ++ [Pt.short l[k]] := by
  rw [List.take_succ_eq_append_getElem h, List.map_append]; rfl
theorem few_end {l : List Pt} {k : Nat} (h1 : k ≤ 30) (h : 30 ≤ k ∨ l.length ≤ k) : (l.take k).map Pt.short = fewL l := by
  unfold fewL
  rcases h with h | h
  · obtain rfl : k = 30 := by omega
    rfl
  · rw [List.take_of_length_le h, List.take_of_length_le (by omega)]
/-- What few answers. -/
def FewDone (l : List Pt) (w : World) (e : Ending) (w' : World) : Prop := ∃ v, e = .returned v ∧ PRow w' w.heap.size v (fewL l) ∧ Below w.heap.size w w'
set_option maxHeartbeats 4000000 in
set_option maxRecDepth 20000 in
theorem few_is (a0 : Option Addr) (cap0 : Nat) (l : List Pt) (w : World) (hS : Pts w w.heap.size a0 l) (hl : l.length ≤ 9223372036854775807) : Calls Try.prog 26 #[.slice a0 l.length cap0] w (FewDone l w) := by
  obtain ⟨i0, hi, hz0, hz1, hz2⟩ := info_parts infoP
  have HS := Lib.hid hS
  clear hS
  have HR0 := Lib.hid (show FewRel w w l (.slice none 0 0) 0 from ⟨PRow.nil _ _, Below.refl _ _⟩)
  go_enter Try.func26, Try.ntmps26
  go_wp2
  go_loopw [3, 4] (fun o i wr => ∃ (k : Nat), k ≤ 30 ∧ k ≤ l.length ∧ i = .int .i64 (k : Int) ∧ FewRel w wr l o k) (fun _ i _ => 30 - (intOf i).toNat)
  case atStart => exact ⟨0, by omega, by omega, rfl, HR0.out⟩
  case round =>
    obtain ⟨k, hk1, hk2, rfl, P⟩ := hrel
    clear HR0
    by_cases hgo : k < l.length ∧ k < 30
    · obtain ⟨g1, g2⟩ := hgo
      have hi1 : (k : Int) < (l.length : Int) := by omega
      have hi2 : (k : Int) < 30 := by omega
      rcases HS.out.at_ with rfl | ⟨b, off, rfl, hbw, hc⟩
      · simp at g1
      · have hA := hc k g1
        obtain ⟨p, hp⟩ : ∃ p, l[k] = p := ⟨_, rfl⟩
        rw [hp] at hA
        obtain ⟨c0, c1, c2, c3, c4, c5⟩ := hA.below P.bel hbw
        obtain ⟨y, hy⟩ : ∃ y, cutB p.s 60 = y := ⟨_, rfl⟩
        have ksh := fun w => short_is p.s y 60 60 w rfl (by omega) hy
        have HG := Lib.hid (show (l.take (k + 1)).map Pt.short = (l.take k).map Pt.short ++ [(⟨y, p.t, p.v, p.st⟩ : Pt)] by rw [few_step g1, hp, ← hy]; rfl)
        obtain ⟨a5, cc5, rfl⟩ := P.row.slice
        obtain ⟨n, hn⟩ : ∃ n, ((l.take k).map Pt.short).length = n := ⟨_, rfl⟩
        have hn30 : n ≤ 30 := by rw [← hn, List.length_map, List.length_take]; omega
        have hrow : wr.ownsRow w.heap.size 34 6 (.slice a5 n cc5) n (((l.take k).map Pt.short).flatMap cells6) := by rw [← hn]; exact P.row
        have HNN := Lib.hid hn
        have hN := (Below.refl wr.heap.size wr).alloc (Nat.le_refl _) (.cells #[.string y, .int .i64 p.t, .int .i64 p.v, .int .i64 p.st.c, .int .i64 p.st.s, .int .i64 p.st.q] 34)
        have hR := owns6_later hrow hN
        have hBB := bel_next P.bel hN
        have hBr := hBB.size
        have hWR := Lib.hid P.bel.size
        have hne : ∀ q, (Value.slice a5 n cc5).ownBlock = some q → w.heap.size ≤ q := fun q hq => (World.ownsRow.lt hR q hq).1
        have HR := Lib.hid hR
        have HBB := Lib.hid hBB
        have HBr := Lib.hid hBr
        have HNE := Lib.hid hne
        rw [hn]
        clear hc hA P hp hn hrow hN hR hBB hBr hne hy
        go_wp2_with (first
          | (go_at_call 11; (with_reducible refine (ksh _).mono ?_); rintro e w1 ⟨rfl, rfl⟩)
          | (at_builtin; refine wpList_append_own _ rfl _ _ 42 rfl w.heap.size 34 i0 (.agg #[.string ⟨#[]⟩, .int .i64 0, .int .i64 0, .int .i64 0, .int .i64 0, .int .i64 0]) 6 56 Try.underlying42 hi hz0 hz1 hz2 rfl (by decide) _ _ _ rfl (HR.out.alloc _) ⟨wr.heap.size + 1, 0, none⟩ 1 1 (cells6 ⟨y, p.t, p.v, p.st⟩) rfl rfl ?c1 ?c2 ?c3 ?c4 ?c5 ?_))
        case c1 =>
          intro j u hj
          match j, hj with
          | 0, hj | 1, hj | 2, hj | 3, hj | 4, hj | 5, hj => simp [cells6] at hj; subst hj; first | (simp [Addr.add]; done) | (simp; done)
        case c2 => intro u hu; simp [cells6] at hu; rcases hu with rfl | rfl | rfl | rfl | rfl | rfl <;> rfl
        case c3 => unfold maxLen; (try simp); omega
        case c4 => (try simp); omega
        case c5 => have := HBr.out; (try simp at this ⊢); omega
        intro v' w3 hown3 hgrow _
        have hB3 := HBB.out.trans (((Below.refl w.heap.size _).alloc HBr.out _).grown hgrow (by have := hWR.out; simp; omega) HNE.out)
        have hR3 : PRow w3 w.heap.size v' ((l.take (k + 1)).map Pt.short) := by
          unfold PRow
          rw [HG.out, List.length_append, List.flatMap_append, HNN.out]
          simpa [cells6] using hown3
        have HR3 := Lib.hid (show FewRel w w3 l v' (k + 1) from ⟨hR3, hB3⟩)
        clear hown3 hgrow hR3 hB3
        go_wp2
        go_roundw
        case rel => exact ⟨k + 1, by omega, by omega, by go_num, HR3.out⟩
        case measure => simp [intOf]; omega
    · have hg2 : ((k : Int) < (l.length : Int) ∧ ¬ (k : Int) < 30) ∨ ¬ (k : Int) < (l.length : Int) := by omega
      have hend := few_end (l := l) (k := k) hk1 (by omega)
      obtain ⟨a5, cc5, rfl⟩ := P.row.slice
      have HP := Lib.hid P
      rw [hend]
      have HE := Lib.hid hend
      clear P hgo hend
      rcases hg2 with ⟨hg2, hg3⟩ | hg2
      · go_wp2
        go_ret
        exact ⟨_, rfl, by have := HP.out.row; rw [HE.out] at this; exact this, HP.out.bel⟩
      · go_wp2
        go_ret
        exact ⟨_, rfl, by have := HP.out.row; rw [HE.out] at this; exact this, HP.out.bel⟩
end Go.Proofs.Ytjckphmkhikpaaa
