/- What a crash leaves of a file. -/
import Derived.Test.YteijmjbiaffcmaaGreatDoorFilesCrash0
set_option maxRecDepth 20000
set_option linter.unusedSimpArgs false
namespace Go.Proofs.YteijmjbiaffcmaaGreatDoor.Fi
open Go.RowKit Go.Maps Go.Shelf

theorem cut_row {w : World} {a : Option Addr} {n c : Nat} {s : ByteArray} {k : Nat} (h : BRow w (.slice a n c) s) (hk : k ≤ s.size) : BRow w (.slice a k c) (s.extract 0 k) ∧ n = s.size ∧ s.size ≤ c := by
  have hsz : (s.extract 0 k).size = k := by rw [ByteArray.size_extract]; omega
  have hcells : Lib.strCells (s.extract 0 k) = (Lib.strCells s).take k := by
    unfold Lib.strCells
    rw [← List.map_take]
    congr 1
    rw [ByteArray.data_extract, Array.toList_extract]
    simp
  rcases h.2 with ⟨hv, h0⟩ | ⟨g, cap, cur, hv, hg, hh, hn, hm, hcs, ht⟩
  · injection hv with e1 e2 e3
    subst e1 e2 e3
    obtain rfl : k = 0 := by omega
    refine ⟨⟨by rw [Lib.strCells_length, Nat.mul_one], Or.inl ⟨rfl, hsz⟩⟩, h0.symm, by omega⟩
  · injection hv with e1 e2 e3
    subst e1 e2 e3
    refine ⟨⟨by rw [Lib.strCells_length, Nat.mul_one], Or.inr ⟨g, c, cur, by rw [hsz], hg, hh, by omega, hm, hcs, ?_⟩⟩, rfl, hn⟩
    rw [hcells, hsz, ← ht, List.take_take]
    congr 1
    omega
theorem slice_bytes (a : Option Addr) (n c k : Nat) (hk : k ≤ c) (W : World) : ∃ a', (Instr.slice 57 (.slice a n c) none (some (.int .i64 (k : Int))) none).run Tryz.prog W = .ok (.slice a' k c) W ∧ (c ≠ 0 → ∀ b, a = some ⟨b, 0, none⟩ → a' = a) ∧ (c = 0 → a' = a) := by
  rw [run_slice_h (P := Tryz.prog) W 57 a n c Tryz.underlying57 .i64 (k : Int) (by omega) (by omega)]
  have : (sizeOf (Tryz.prog.elem 57)).run Tryz.prog W = .ok 1 W := by kernel_rfl
  rw [this, Int.toNat_natCast]
  refine ⟨if c = 0 then a else a.map (·.add (0 * 1)), rfl, fun hc b e => ?_, fun hc => if_pos hc⟩
  rw [if_neg hc, e]; simp [Addr.add]
theorem cut_run {w : World} {a : Option Addr} {n c k : Nat} {s : ByteArray} (h : BRow w (.slice a n c) s) (hk : k ≤ s.size) : ∀ W, (Instr.slice 57 (.slice a n c) none (some (.int .i64 (k : Int))) none).run Tryz.prog W = .ok (.slice a k c) W := by
  intro W
  obtain ⟨-, hn, hc⟩ := cut_row h hk
  obtain ⟨a', e, h1, h2⟩ := slice_bytes a n c k (by omega) W
  rw [e]
  by_cases hc0 : c = 0
  · rw [h2 hc0]
  · rcases h.2 with ⟨hv, h0⟩ | ⟨g, cap, cur, hv, _⟩
    · injection hv with e1 e2 e3; omega
    · injection hv with e1 e2 e3
      rw [h1 hc0 g e1]
/-- A file's crash, stored. -/
theorem FsAt.cut {w : World} {b : Nat} {S : FS} {L : Lay} {f : Fil} {a : Option Addr} {n c k : Nat} (h : FsAt w b S L) (hf : f ∈ S.fil) (hv : L.V f.q = .slice a n c) (hk : k ≤ f.s.size) :
    Went w ((w.setCell ⟨f.q, 1, none⟩ (.int .i64 (k : Int))).setCell ⟨f.q, 0, none⟩ (.slice a k c)) b S (updS S f.q (f.s.extract 0 k) k) L (updL L f.q (.slice a k c)) := by
  obtain ⟨g1, g2⟩ := h.fil f hf
  rw [hv] at g2
  have hset : ∀ i, i ≠ f.q → ((w.setCell ⟨f.q, 1, none⟩ (.int .i64 (k : Int))).setCell ⟨f.q, 0, none⟩ (.slice a k c)).heap[i]? = w.heap[i]? := fun i hi => by
    rw [heap_setCell_other _ ⟨f.q, 0, none⟩ i _ hi, heap_setCell_other _ ⟨f.q, 1, none⟩ i _ hi]
  refine h.refil hf rfl rfl rfl (by simp) (fun i _ h1 _ => hset i h1) (heap_setCell_same _ f.q 0 _ _ _ (heap_setCell_same w f.q 1 _ _ _ g1)) (row_of (cut_row g2 hk).1 fun i e => ?_) (Or.inl (by rw [hv]; cases a <;> rfl))
  obtain ⟨cur, hh⟩ := row_heap (cut_row g2 hk).1 e
  exact hset i (kinds_ne hh g1 (by decide))
set_option maxHeartbeats 2000000 in
theorem fcrash_is (b : Nat) (S : FS) (L : Lay) (f : Fil) (v : Value) (l : List Int) (i : Nat) (w : World) (h : FsAt w b S L) (hfs : f.s.size ≤ 1099511627776 ∧ f.k ≤ f.s.size) (hf : f ∈ S.fil) (hl : Is w v l) (hi : i ≤ 9223372036854775807) :
    Calls Tryz.prog 65 #[.pointer (some ⟨f.q, 0, none⟩), v, .int .i64 (i : Int)] w fun e w' => e = .returned (.tuple #[]) ∧ ∃ v', Went w w' b S (updS S f.q (f.s.extract 0 (f.k + pickI l i (f.s.size - f.k))) (f.k + pickI l i (f.s.size - f.k))) L (updL L f.q v') := by
  obtain ⟨va, vc, hv, y0, y1, f0, f1⟩ := fileCell h hf
  obtain ⟨hsz, hks⟩ := hfs
  have kp := fun W (k : Below w.heap.size w W) => picked_is v l i (f.s.size - f.k) W (hl.later k) hi (by omega)
  have hple := pickI_le l i (f.s.size - f.k)
  obtain ⟨p, hp⟩ : ∃ p, pickI l i (f.s.size - f.k) = p := ⟨_, rfl⟩
  rw [hp] at kp hple ⊢
  have hrow := (h.fil f hf).2
  rw [hv] at hrow
  obtain ⟨k', hk'⟩ : ∃ k', f.k + p = k' := ⟨_, rfl⟩
  have hkle : k' ≤ f.s.size := by omega
  have hcr := cut_run hrow hkle
  have HW := Lib.hid (h.cut hf hv hkle)
  rw [hk']
  obtain ⟨q, hq⟩ : ∃ q, f.q = q := ⟨_, rfl⟩
  obtain ⟨n, hn⟩ : ∃ n, f.s.size = n := ⟨_, rfl⟩
  obtain ⟨k, hk⟩ : ∃ k, f.k = k := ⟨_, rfl⟩
  rw [hq] at HW y0 y1 f0 f1 ⊢
  rw [hn, hk] at kp
  rw [hn] at y0 hcr hkle hsz
  rw [hk] at y1 hk'
  obtain ⟨av, cv, rfl⟩ := hl.slice
  obtain ⟨len, hlen⟩ : ∃ len, l.length = len := ⟨_, rfl⟩
  rw [hlen] at kp ⊢
  have hkn : k ≤ n := by rw [← hk, ← hn]; exact hks
  have hs1 : IntKind.i64.wrap ((n : Int) - (k : Int)) = ((n - k : Nat) : Int) := by rw [IntKind.wrap_i64]; omega
  have hs2 : IntKind.i64.wrap ((k : Int) + (p : Int)) = (k' : Int) := by rw [IntKind.wrap_i64]; omega
  have KP := Lib.hid kp
  have hk63 : k' ≤ 9223372036854775807 := by omega
  generalize n - k = nk at *
  clear h hf hl hv hp hrow hq hn hk hlen hple hks kp hsz hkn hk'
  go_enter Tryz.func65, Tryz.ntmps65
  go_wp2_with fail
  go_region_with (go_at_call 64; (with_reducible refine (KP.out _ ?_).mono ?_); (exact below_drewN (Below.refl _ _) _); rintro e w2 ⟨rfl, rfl⟩)
  all_goals go_wp2_with fail
  all_goals go_region
  all_goals go_wp2
  all_goals go_end0
  all_goals exact ⟨rfl, _, HW.out.trans (Went.below HW.out.at_ ((Below.refl _ _).drew.drew))⟩
end Go.Proofs.YteijmjbiaffcmaaGreatDoor.Fi
