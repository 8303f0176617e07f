/- What the program reads is what the document reads; what was built is read. -/
import Derived.Test.YtkomfenjeoaelaaDoorBlockRead
set_option maxRecDepth 20000
set_option linter.unusedSimpArgs false
set_option linter.unusedVariables false
namespace Go.Proofs.YtkomfenjeoaelaaDoor
open Go.RowKit Go.Proofs.YtkomfenjeoaelaaDoor.Crc Go.Proofs.YtkomfenjeoaelaaDoor.Vi Go.Proofs.YtkomfenjeoaelaaDoor.Mk

theorem sealed12_size (s : ByteArray) : (sealedB s).size = s.size + 4 := by
  unfold sealedB
  show (sealed s.data.toList).toArray.size = _
  rw [List.size_toArray, sealed_length]; simp
theorem sealed12_body (s : ByteArray) : (sealedB s).extract 0 ((sealedB s).size - 4) = s := by
  rw [sealed12_size, Nat.add_sub_cancel]
  apply ByteArray.ext
  apply Array.toList_inj.1
  unfold sealedB sealed
  simp
theorem opens_sealed (s : ByteArray) : opens (sealedB s) = true := by
  unfold opens
  rw [decide_eq_true_iff, sealed12_body]
  exact ⟨by rw [sealed12_size]; omega, rfl⟩
theorem body_sealed (s : ByteArray) : bodyOf (sealedB s) = s := by
  unfold bodyOf
  rw [opens_sealed, if_pos rfl, sealed12_body]
theorem bldS_yes {l : List Pt} (h : bldE l = 0) : bldS l = sealedB (tx (bodyA l)) := if_pos h
/-- What was built is read. -/
theorem rd_back {l : List Pt} (h : bldE l = 0) (hv : ∀ p ∈ l, p.vfit) : rdB (bldS l) = some l := by
  have e : takenL (bodyOf (bldS l)) = l := by rw [bldS_yes h, body_sealed, taken_back h hv]
  unfold rdB
  rw [e, if_pos ⟨h, rfl⟩]
/-- What is read was built. -/
theorem rd_some_of {S : ByteArray} {l : List Pt} (h : rdB S = some l) : bldE l = 0 ∧ bldS l = S ∧ ∀ p ∈ l, p.vfit := by
  unfold rdB at h
  split at h
  · rename_i hh
    injection h with h
    rw [← h]
    exact ⟨hh.1, hh.2, fun p hp => ((takenL_inv _).2.1 p hp).2.1⟩
  · cases h
theorem rd_opens {S : ByteArray} {l : List Pt} (h : rdB S = some l) : opens S = true ∧ docF (bodyOf S) = (l, ⟨#[]⟩, false) := by
  obtain ⟨h1, h2, h3⟩ := rd_some_of h
  rw [← h2, bldS_yes h1, opens_sealed, body_sealed, doc_back h1 h3]
  exact ⟨rfl, rfl⟩
/-- What the document reads. -/
theorem rd_doc {S r : ByteArray} {b : Bool} {l : List Pt} (hd : docF (bodyOf S) = (l, r, b)) : rdB S = if opens S = true ∧ endQ r b = 0 ∧ bldE l = 0 ∧ bldS l = S then some l else none := by
  by_cases h : opens S = true ∧ endQ r b = 0 ∧ bldE l = 0 ∧ bldS l = S
  · rw [if_pos h]
    obtain ⟨-, -, h1, h2⟩ := h
    have hv : ∀ p ∈ l, p.vfit := fun p hp => ((docF_inv (bodyOf S)).2.1 p (by rw [hd]; exact hp)).2.1
    rw [← h2]
    exact rd_back h1 hv
  · rw [if_neg h]
    cases hr : rdB S with
    | none => rfl
    | some m =>
      exfalso
      obtain ⟨h1, h2, h3⟩ := rd_some_of hr
      obtain ⟨h4, h5⟩ := rd_opens hr
      rw [hd] at h5
      simp only [Prod.mk.injEq] at h5
      obtain ⟨rfl, rfl, rfl⟩ := h5
      exact h ⟨h4, rfl, h1, h2⟩
/-- No sealed text stands where a byte of one is turned. -/
theorem turned_opens (s : ByteArray) (n : Nat) (x : UInt8) (hx : x ≠ 0) (h : n < (sealed s.data.toList).length) : opens ⟨((sealed s.data.toList).set n ((sealed s.data.toList)[n] ^^^ x)).toArray⟩ = false := by
  unfold opens
  rw [decide_eq_false]
  rintro ⟨_, e⟩
  refine sealed_turn x hx s.data.toList n h ?_
  have e2 := congrArg (fun z : ByteArray => z.data.toList) e
  simp only [sealedB] at e2
  have hl : (⟨((sealed s.data.toList).set n ((sealed s.data.toList)[n] ^^^ x)).toArray⟩ : ByteArray).size - 4 = s.data.toList.length := by
    show ((sealed s.data.toList).set n ((sealed s.data.toList)[n] ^^^ x)).toArray.size - 4 = _
    rw [List.size_toArray, List.length_set, sealed_length]; omega
  rw [hl] at e2
  have e3 : ((⟨((sealed s.data.toList).set n ((sealed s.data.toList)[n] ^^^ x)).toArray⟩ : ByteArray).extract 0 s.data.toList.length).data.toList = ((sealed s.data.toList).set n ((sealed s.data.toList)[n] ^^^ x)).take s.data.toList.length := by
    simp
  rw [e3] at e2
  exact e2

/-- No text is read that is turned in one byte of a block. -/
theorem rd_turned {l : List Pt} (h : bldE l = 0) (n : Nat) (x : UInt8) (hx : x ≠ 0) (hn : n < (bldS l).data.toList.length) : rdB ⟨((bldS l).data.toList.set n ((bldS l).data.toList[n] ^^^ x)).toArray⟩ = none := by
  obtain ⟨L, hL⟩ : ∃ L, tx (bodyA l) = L := ⟨_, rfl⟩
  have e : bldS l = sealedB L := by rw [← hL]; exact bldS_yes h
  have e2 : (bldS l).data.toList = sealed L.data.toList := by rw [e]; unfold sealedB; simp
  cases hr : rdB ⟨((bldS l).data.toList.set n ((bldS l).data.toList[n] ^^^ x)).toArray⟩ with
  | none => rfl
  | some m =>
    exfalso
    obtain ⟨h4, -⟩ := rd_opens hr
    simp only [e2] at h4
    have := turned_opens L n x hx (by rw [e2] at hn; exact hn)
    rw [this] at h4
    cases h4
end Go.Proofs.YtkomfenjeoaelaaDoor
