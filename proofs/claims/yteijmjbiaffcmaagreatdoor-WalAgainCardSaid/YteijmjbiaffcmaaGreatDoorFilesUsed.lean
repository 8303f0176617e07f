/- How many bytes all files have. -/
import Derived.Test.YteijmjbiaffcmaaGreatDoorFilesFind
import Derived.Maps.RangeWalk
import Derived.Sort.KeysCollected
set_option maxRecDepth 20000
set_option linter.unusedSimpArgs false
namespace Go.Proofs.YteijmjbiaffcmaaGreatDoor.Fi
open Go.RowKit Go.Maps Go.Shelf

def filQ (F : List Fil) (q : Nat) : Option Fil := F.find? fun f => f.q == q
def szQ (F : List Fil) (q : Nat) : Nat := match filQ F q with | some f => f.s.size | none => 0
def usedS (S : FS) : Nat := (S.now.map fun p => szQ S.fil p.2).sum
theorem filQ_mem {F : List Fil} {q : Nat} {f : Fil} (h : filQ F q = some f) : f ∈ F ∧ f.q = q := by
  unfold filQ at h
  exact ⟨List.mem_of_find?_eq_some h, by simpa using List.find?_some h⟩
theorem filQ_some {F : List Fil} {q : Nat} (h : q ∈ F.map (·.q)) : ∃ f, filQ F q = some f := by
  unfold filQ
  cases e : F.find? fun f => f.q == q with
  | some f => exact ⟨f, rfl⟩
  | none =>
    obtain ⟨f, hf, rfl⟩ := List.mem_map.1 h
    have := List.find?_eq_none.1 e f hf
    simp at this
theorem filQ_of {F : List Fil} (hn : (F.map (·.q)).Nodup) {f : Fil} (hf : f ∈ F) : filQ F f.q = some f := by
  unfold filQ
  induction F with
  | nil => simp at hf
  | cons g t ih =>
    rw [List.map_cons, List.nodup_cons] at hn
    rw [List.find?_cons]
    rcases List.mem_cons.1 hf with rfl | hf
    · simp
    · have : (g.q == f.q) = false := by
        simp; rintro e; exact hn.1 (e ▸ List.mem_map.2 ⟨f, hf, rfl⟩)
      rw [this]; exact ih hn.2 hf
/-- The size of the file that has a name. -/
def szN (S : FS) (n : Nm) : Nat := match look S.now n with | some q => szQ S.fil q | none => 0
theorem szN_sum {S : FS} (hs : Srt S.now) : ((S.now.map (·.1)).map (szN S)).sum = usedS S := by
  unfold usedS
  rw [List.map_map]
  congr 1
  refine List.map_congr_left fun p hp => ?_
  show szN S p.1 = _
  unfold szN
  rw [(look_iff hs).2 (show (p.1, p.2) ∈ S.now from hp)]
theorem sum_le (f : Nm → Nat) (B : Nat) (h : ∀ n, f n ≤ B) : ∀ l : List Nm, (l.map f).sum ≤ l.length * B
  | [] => by simp
  | a :: t => by
    have := sum_le f B h t
    have := h a
    rw [List.map_cons, List.sum_cons, List.length_cons, Nat.succ_mul]; omega
theorem ptr_inv {v : Value} {y : DataW Unit × List MemPlace} (h : ptrR v = some y) : ∃ c, v = ptrV c := by
  rcases ptrR_inv h with ⟨rfl, _⟩ | ⟨q, rfl, _⟩
  · exact ⟨none, rfl⟩
  · exact ⟨some q, rfl⟩
theorem look_of_at {M : FM} {n : Nm} {c : Option Nat} {y : DataW Unit × List MemPlace} (h : ptrR (ptrV c) = some y) (hat : ∀ zd, (dOf M).atKey (.string n) zd = y.1) : ∃ q, c = some q ∧ look M n = some q := by
  cases e : look M n with
  | none =>
    have h1 := hat (.lit (.bool true))
    have h2 := hat (.lit (.bool false))
    rw [dOf_at, e] at h1 h2
    rw [← h2] at h1
    simp at h1
  | some q =>
    have h1 := hat (.lit (.bool true))
    rw [dOf_at, e] at h1
    cases c with
    | none =>
      simp [ptrV, ptrR] at h
      rw [← h] at h1
      injection h1 with h1
      injection h1 with _ h1
      omega
    | some q' =>
      simp [ptrV, ptrR] at h
      rw [← h] at h1
      injection h1 with h1
      injection h1 with _ h1
      have : q' = q := by omega
      exact ⟨q', rfl, by rw [this]⟩
/-- What a directory must be for its methods. -/
structure Sane (S : FS) : Prop where
  srt : Srt S.now
  len : S.now.length ≤ 64
  ids : ∀ p ∈ S.now, p.2 ∈ S.fil.map (·.q)
  nd : (S.fil.map (·.q)).Nodup
  sz : ∀ f ∈ S.fil, f.s.size ≤ 1099511627776 ∧ f.k ≤ f.s.size
  room : 0 ≤ S.room ∧ S.room ≤ 1099511627776
  left : 0 ≤ S.left ∧ S.left ≤ 9223372036854775807
theorem Sane.szN {S : FS} (h : Sane S) (n : Nm) : szN S n ≤ 1099511627776 := by
  unfold YteijmjbiaffcmaaGreatDoor.Fi.szN szQ
  split
  · split
    · rename_i f e
      exact (h.sz f (filQ_mem e).1).1
    · omega
  · omega
set_option maxHeartbeats 2000000 in
theorem used_is (b : Nat) (S : FS) (L : Lay) (w : World) (h : FsAt w b S L) (hS : Sane S) : Calls Tryz.prog 93 #[.pointer (some ⟨b, 0, none⟩)] w fun e w' => e = .returned (.int .i64 (usedS S : Int)) ∧ Below w.heap.size w w' := by
  obtain ⟨-, c1, -⟩ := h.cells
  rcases h.now with ⟨hn, h0⟩ | ⟨bm, hn, hm⟩
  · rw [hn] at c1
    have HU := Lib.hid (show usedS S = 0 by unfold usedS; rw [h0]; rfl)
    have hrg := run_range_nilMap (P := Tryz.prog) w 76 9 86 Tryz.underlying76
    have hnx : ∀ ty, (Instr.next (.pointer (some ⟨w.heap.size, 0, none⟩)) false ty).run Tryz.prog (w.alloc (.mapIter none 0 #[] 0)) = _ := fun ty => run_next_nilMap w ty 0 0 #[]
    clear h hS
    go_enter Tryz.func93, Tryz.ntmps93
    go_wp2
    refine wp_loop_rounds 1 ?_
    rw [rounds_succ]
    go_wp2
    go_ret
    exact ⟨by rw [HU.out]; rfl, (Below.refl _ w).alloc (Nat.le_refl _) _⟩
  · rw [hn] at c1
    have hown : w.ownsMap Tryz.prog 9 ptrR bm S.now.length (dOf S.now) := hm
    have HS := Lib.hid hS
    have H := Lib.hid h
    have HM := Lib.hid hm
    have HSUM := Lib.hid (szN_sum hS.srt)
    clear h hS hn
    go_enter Tryz.func93, Tryz.ntmps93
    go_wp2_with (first
      | (at_range; refine wpList_range_own _ rfl _ 76 rfl 9 86 law Tryz.underlying76 ptrR bm S.now.length (dOf S.now) rfl hown ?_; intro w0 hrg0 hg0 hs0)
      | fail)
    go_frame
    clear c1 hs0
    go_loopw [3] (fun u wr => ∃ (left : Lit → Bool) (cnt : Nat) (ss : List Nm), wr.ranges Tryz.prog 9 ptrR bm w.heap.size S.now.length (dOf S.now) left cnt ∧ Collected (dOf S.now) left ss ∧ ss.length + cnt ≤ S.now.length ∧ u = .int .i64 (((ss.map (szN S)).sum : Nat) : Int) ∧ Below w.heap.size w wr) (fun _ wr => wr.rangeLeft bm w.heap.size)
    case atStart => exact ⟨_, _, [], hrg0, Collected.start _, by rw [dOf_size]; simp, rfl, ⟨hg0.os, hg0.tape, hg0.output, hg0.size, fun k hk => hg0.block k hk (by simp)⟩⟩
    case round =>
      obtain ⟨left, cnt, ss, hrg, hC, hlen, rfl, hB⟩ := hrel
      obtain ⟨w2, hw2⟩ : ∃ w2, w2 = wr := ⟨_, rfl⟩
      subst hw2
      obtain ⟨u, hu⟩ : ∃ u, (ss.map (szN S)).sum = u := ⟨_, rfl⟩
      have hul : u ≤ 64 * 1099511627776 := by
        have h1 := sum_le (szN S) 1099511627776 HS.out.szN ss
        have := HS.out.len
        have : ss.length * 1099511627776 ≤ 64 * 1099511627776 := Nat.mul_le_mul_right _ (by omega)
        omega
      rw [hu]
      have HU := Lib.hid hu
      have HC := Lib.hid hC
      have HB := Lib.hid hB
      have HL := Lib.hid hlen
      clear hu hC hB hlen
      go_wp2_with (first
        | (at_next; refine wpList_next_ranges _ rfl _ rfl 9 law ptrR encStr ptrV (fun key kl hk => by obtain ⟨x, hx, _⟩ := Maps.keyOf_str Tryz.underlying9 hk; exact ⟨x, hx⟩) (fun v y hv => ptr_inv hv) bm w.heap.size _ _ _ _ rfl hrg ?_ ?_)
        | fail)
      · intro _ hl0
        have HP := Lib.hid (HC.out.perm HM.out law Tryz.underlying9 hl0)
        rw [dOf_keys] at HP
        go_wp2
        go_ret
        exact ⟨by rw [← HSUM.out, ← HU.out, (HP.out.map (szN S)).sum_nat]; rfl, HB.out⟩
      · intro x c kl yd yp w3 cnt2 hkey hlk hv hat hrg2 hlt hg2 hs2 hen
        obtain ⟨x', ex, rfl, _⟩ := Maps.keyOf_str Tryz.underlying9 hkey
        obtain rfl : x = x' := encStr_inj ex
        obtain ⟨q, rfl, hq⟩ := look_of_at hv hat
        obtain ⟨f, hf⟩ := filQ_some (HS.out.ids _ (look_mem hq))
        obtain ⟨hfm, hfq⟩ := filQ_mem hf
        have hB3 : Below w.heap.size w w3 := ⟨hg2.os.trans HB.out.os, hg2.tape.trans HB.out.tape, hg2.output.trans HB.out.output, Nat.le_trans HB.out.size hg2.size, fun k hk => (hg2.block k (Nat.lt_of_lt_of_le hk HB.out.size) (by simp; omega)).trans (HB.out.block k hk)⟩
        obtain ⟨g1, g2⟩ := (H.out.later hB3).fil f hfm
        rw [hfq] at g1 g2
        have y0 : w3.cell? ⟨q, 0, none⟩ = some (L.V q) := cell_of g1
        obtain ⟨av, cv, hv2⟩ : ∃ a c, L.V q = .slice a f.s.size c := by
          rcases g2.2 with ⟨h, h0⟩ | ⟨g, cap, cur, h, _⟩
          · exact ⟨_, _, by rw [h, h0]⟩
          · exact ⟨_, _, h⟩
        rw [hv2] at y0
        have hsz : szN S x = f.s.size := by unfold szN szQ; rw [hq]; dsimp only; rw [hf]
        have hfs : f.s.size ≤ 1099511627776 := (HS.out.sz f hfm).1
        have hwr : IntKind.i64.wrap ((u : Int) + (f.s.size : Int)) = (u : Int) + (f.s.size : Int) := by rw [IntKind.wrap_i64]; omega
        have HC2 := Lib.hid (HC.out.step hlk hat)
        have HSZ := Lib.hid hsz
        have HB3 := Lib.hid hB3
        unfold ptrV at hen
        clear hs2 g1 g2 hv2 hv hat hkey ex hB3 hsz hf hfm hfq hlk hq hg2 hfs
        go_wp2
        go_roundw
        case rel =>
          refine ⟨_, cnt2, ss ++ [x], hrg2, HC2.out, by have := HL.out; rw [List.length_append]; simp; omega, ?_, HB3.out⟩
          rw [List.map_append, List.sum_append, HU.out]
          simp [HSZ.out]
        case measure => rw [hrg2.left_eq, hrg.left_eq]; exact hlt
end Go.Proofs.YteijmjbiaffcmaaGreatDoor.Fi
