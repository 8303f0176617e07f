/- A record's bytes, and the contract of the document's Bytes. -/
import Derived.Test.YtcjcbbpolhpphaaSampleRCheck
set_option maxRecDepth 20000
namespace Go.Proofs.Ytcjcbbpolhpphaa
open Go.RowKit Go.Proofs.Ytcjcbbpolhpphaa.Vi Go.Proofs.Ytcjcbbpolhpphaa.Mk

/-- What stands between a record's kind and its stamp; a record's bytes. -/
def Rec.mid (r : Rec) : List UInt8 := if r.k = 1 then (enc r.s.size ++ r.s.data.toList) ++ enc r.t.toNat ++ enc (zig r.v).toNat else enc r.tier.toNat ++ enc r.t.toNat
def Rec.bytes (r : Rec) : List UInt8 := enc r.k.toNat ++ r.mid ++ r.st.bytes ++ textL (plainL r.d)
theorem Rec.ok_head {r : Rec} (h : r.ok = true) : r.head = true := by
  unfold Rec.ok at h
  rw [Bool.and_eq_true] at h
  exact h.1
theorem Rec.head_parts {r : Rec} (h : r.head = true) : (0 ≤ r.t ∧ r.t ≤ 1099511627776) ∧ r.d = plainL r.d ∧ r.st.ok = true ∧ atL r.d r.st.s = r.st.q - 1 := by
  unfold Rec.head at h
  rw [Bool.and_eq_true, Bool.and_eq_true, Bool.and_eq_true] at h
  obtain ⟨⟨⟨h1, h2⟩, h3⟩, h4⟩ := h
  refine ⟨by simpa using h1, ?_, h3, by simpa using h4⟩
  unfold sameL at h2; simpa using h2
theorem Rec.ok_kind {r : Rec} (h : r.ok = true) : (r.k = 1 ∧ nameB r.s = true ∧ r.tier = 0) ∨ (r.k = 2 ∧ r.s = ⟨#[]⟩ ∧ r.v = 0 ∧ 0 ≤ r.tier ∧ r.tier ≤ 3) := by
  unfold Rec.ok at h
  rw [Bool.and_eq_true, Bool.or_eq_true] at h
  rcases h.2 with h | h
  · rw [Bool.and_eq_true, Bool.and_eq_true] at h
    exact Or.inl ⟨by simpa using h.1.1, h.1.2, by simpa using h.2⟩
  · rw [Bool.and_eq_true, Bool.and_eq_true, Bool.and_eq_true] at h
    exact Or.inr ⟨by simpa using h.1.1.1, by simpa using h.1.1.2, by simpa using h.1.2, by simpa using h.2⟩
theorem name_len {s : ByteArray} (h : nameB s = true) : 1 ≤ s.size ∧ s.size ≤ 40 := by
  have hl : s.data.toList.length = s.size := by simp
  by_cases e : s.data.toList.length < 1 ∨ 40 < s.data.toList.length
  · rw [nameB, nameL_short e] at h; cases h
  · omega
theorem textL_plain_len (l : List Int) : (textL (plainL l)).length ≤ 90 := textL_len _ (vec_fit (atL_fit l)) (vec_size (fun i : Nat => atL l (i : Int)))
theorem st_bytes_len (a : St) : a.bytes.length ≤ 30 := by
  unfold St.bytes
  split
  · rename_i h
    obtain ⟨q1, q2, q3, q4, q5, q6⟩ := St.ok_iff.1 h
    have h1 := enc_len10 a.c.toNat (by omega)
    have h2 := enc_len10 a.s.toNat (by omega)
    have h3 := enc_len10 a.q.toNat (by omega)
    rw [List.length_append, List.length_append]; omega
  · simp

end Go.Proofs.Ytcjcbbpolhpphaa
