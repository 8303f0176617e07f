/- Rows of numbers and texts, as law VintRows puts them: what a reader of them, or of a beginning of them, comes to. -/
import Derived.Test.YtddjoddbdinpaaaVintMeth
import Derived.Test.YtddjoddbdinpaaaVintRefMath
namespace Go.Proofs.Ytddjoddbdinpaaa
open Go.RowKit Go.Proofs.Ytddjoddbdinpaaa.Vi

/-- One number and one text. -/
def item (x : Int × ByteArray) : List UInt8 := enc (zig x.1).toNat ++ (enc x.2.size ++ x.2.data.toList)
def encI (l : List (Int × ByteArray)) : List UInt8 := l.flatMap item
theorem encI_nil : encI [] = [] := rfl
theorem encI_snoc (l : List (Int × ByteArray)) (k : Nat) (h : k < l.length) : encI (l.take (k + 1)) = encI (l.take k) ++ item l[k] := by
  unfold encI; rw [List.take_succ_eq_append_getElem h, List.flatMap_append]; simp
theorem encI_drop (l : List (Int × ByteArray)) (k : Nat) (h : k < l.length) : encI (l.drop k) = item l[k] ++ encI (l.drop (k + 1)) := by
  unfold encI; rw [List.drop_eq_getElem_cons h]; rfl

theorem tx_data (l : List UInt8) : (tx l).data.toList = l := by simp [tx]
theorem restB_tx (p q : List UInt8) : restB (tx (p ++ q)) p.length = tx q := by
  apply ByteArray.ext
  apply Array.toList_inj.1
  unfold restB
  simp [tx, ByteArray.data_extract, ByteArray.size]
theorem extract_tx (p q : List UInt8) : (tx (p ++ q)).extract 0 p.length = tx p := by
  apply ByteArray.ext
  apply Array.toList_inj.1
  simp [tx, ByteArray.data_extract]
theorem numF_enc (z : Nat) (hz : z < 18446744073709551616) (q : List UInt8) : numF (tx (enc z ++ q)) = some (z, tx q) := by
  unfold numF
  rw [tx_data, getL_enc z 0 q (by omega) hz (by omega)]
  show some (z, restB _ _) = _
  rw [restB_tx]
theorem numQ_enc (z : Nat) (hz : z < 18446744073709551616) (q : List UInt8) : numQ (tx (enc z ++ q)) false = ((z : Int), tx q, false) := by
  unfold numQ
  rw [if_neg (by simp), numF_enc z hz q]
theorem textQ_enc (t : ByteArray) (ht : t.size ≤ 1000) (q : List UInt8) : textQ (tx (enc t.size ++ (t.data.toList ++ q))) false = (t, tx q, false) := by
  have hl : t.data.toList.length = t.size := by simp
  unfold textQ
  rw [if_neg (by simp), numF_enc t.size (by omega)]
  show (if t.size ≤ (tx (t.data.toList ++ q)).size then _ else _) = _
  rw [if_pos (by rw [tx_size, List.length_append]; omega), ← hl, extract_tx, restB_tx, tx_list]

/-- A reader that is broken, or has less than X left, of its beginning. -/
def Cut (r : ByteArray) (br : Bool) (X : List UInt8) : Prop := br = true ∨ (br = false ∧ ∃ more, more ≠ [] ∧ r.data.toList ++ more = X)
theorem cut_end {r : ByteArray} {br : Bool} (h : Cut r br []) : br = true := by
  rcases h with h | ⟨_, more, h1, h2⟩
  · exact h
  · exact absurd (List.append_eq_nil_iff.1 h2).2 h1
theorem cut_num {r r' : ByteArray} {br br' : Bool} {v : Int} {z : Nat} {X : List UInt8} (hz : z < 18446744073709551616) (h : Cut r br (enc z ++ X)) (H : numQ r br = (v, r', br')) : Cut r' br' X ∧ (br' = false → v = (z : Int)) := by
  rcases h with rfl | ⟨rfl, more, h1, h2⟩
  · unfold numQ at H
    rw [if_pos rfl] at H
    simp at H
    obtain ⟨rfl, rfl, rfl⟩ := H
    exact ⟨Or.inl rfl, fun e => (by cases e)⟩
  · by_cases hl : r.data.toList.length < (enc z).length
    · have hn : getL 0 r.data.toList = none := by
        apply getL_high
        intro b hb
        obtain ⟨j, hj, rfl⟩ := List.getElem_of_mem hb
        have e : (enc z)[j]'(by omega) = r.data.toList[j] := by
          have e1 : (r.data.toList ++ more)[j]'(by rw [List.length_append]; omega) = r.data.toList[j] := List.getElem_append_left hj
          have e2 : (enc z ++ X)[j]'(by rw [List.length_append]; omega) = (enc z)[j]'(by omega) := List.getElem_append_left (by omega)
          rw [← e1, ← e2]
          simp only [h2]
        rw [← e]
        exact enc_high z j (by omega) (by omega)
      have hf : numF r = none := by unfold numF; rw [hn]
      unfold numQ at H
      rw [if_neg (by simp), hf] at H
      simp at H
      obtain ⟨rfl, rfl, rfl⟩ := H
      exact ⟨Or.inl rfl, fun e => (by cases e)⟩
    · obtain ⟨q, hq⟩ : ∃ q, r.data.toList = enc z ++ q := by
        refine ⟨r.data.toList.drop (enc z).length, ?_⟩
        have := congrArg (List.take (enc z).length) h2
        rw [List.take_append_of_le_length (by omega), List.take_left] at this
        rw [← this, List.length_take, Nat.min_eq_left (by omega), List.take_append_drop]
      have hr : r = tx (enc z ++ q) := by rw [← hq, tx_list]
      rw [hr, numQ_enc z hz] at H
      simp at H
      obtain ⟨rfl, rfl, rfl⟩ := H
      rw [hq, List.append_assoc] at h2
      exact ⟨Or.inr ⟨rfl, more, h1, by rw [tx_data]; exact List.append_cancel_left h2⟩, fun _ => rfl⟩
theorem cut_text {r r' v : ByteArray} {br br' : Bool} {t : List UInt8} {X : List UInt8} (hz : t.length < 18446744073709551616) (h : Cut r br (enc t.length ++ (t ++ X))) (H : textQ r br = (v, r', br')) : Cut r' br' X := by
  obtain ⟨⟨n, r1, b1⟩, hN⟩ : ∃ x, numQ r br = x := ⟨_, rfl⟩
  obtain ⟨hc, hv⟩ := cut_num hz h hN
  unfold textQ at H
  unfold numQ at hN
  cases br with
  | true =>
    rw [if_pos rfl] at H
    simp at H
    obtain ⟨rfl, rfl, rfl⟩ := H
    exact Or.inl rfl
  | false =>
    rw [if_neg (by simp)] at H hN
    cases hf : numF r with
    | none =>
      rw [hf] at H
      simp at H
      obtain ⟨rfl, rfl, rfl⟩ := H
      exact Or.inl rfl
    | some x =>
      obtain ⟨u, r2⟩ := x
      rw [hf] at H hN
      simp at hN
      obtain ⟨rfl, rfl, rfl⟩ := hN
      have hu := hv rfl
      obtain rfl : u = t.length := by omega
      simp only at H
      split at H
      · rename_i hle
        simp at H
        obtain ⟨rfl, rfl, rfl⟩ := H
        rcases hc with hc | ⟨_, more, h1, h2⟩
        · cases hc
        · refine Or.inr ⟨rfl, more, h1, ?_⟩
          have hl : r2.data.toList.length = r2.size := by simp
          have e : (restB r2 t.length).data.toList = r2.data.toList.drop t.length := by
            unfold restB
            simp [ByteArray.data_extract]
            exact List.take_of_length_le (by simp)
          have := congrArg (List.drop t.length) h2
          rw [List.drop_append_of_le_length (by omega), List.drop_left] at this
          rw [e, this]
      · simp at H
        obtain ⟨rfl, rfl, rfl⟩ := H
        exact Or.inl rfl
end Go.Proofs.Ytddjoddbdinpaaa
