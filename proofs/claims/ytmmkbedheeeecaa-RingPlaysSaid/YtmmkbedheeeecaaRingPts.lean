/- The points of a node. -/
import Derived.Test.YtmmkbedheeeecaaRingSort
set_option maxRecDepth 20000
set_option linter.unusedSimpArgs false
namespace Go.Proofs.Ytmmkbedheeeecaa
open Go.RowKit

def keyL (n : Int) (k : Nat) : List UInt8 := [110, UInt8.ofNat n.toNat, UInt8.ofNat k]
def ptOf (n : Int) (k : Nat) : Pt := ⟨hashL (keyL n k), n⟩
def ptsOf (n : Int) : List Pt := (List.range 8).map (ptOf n)
def fillP (n : Int) (k : Nat) : List Pt := (List.range 8).map fun j => if j < k then ptOf n j else ⟨0, 0⟩
theorem fillP_len (n : Int) (k : Nat) : (fillP n k).length = 8 := by simp [fillP]
theorem fillP_all (n : Int) : fillP n 8 = ptsOf n := by
  unfold fillP ptsOf
  refine List.map_congr_left fun j hj => ?_
  rw [if_pos (by simpa using hj)]
theorem key_conv (w : World) (m k : Nat) (hm : m ≤ 255) (hk : k ≤ 255) : (convert 66 9 (.slice (some ⟨w.heap.size, 0, none⟩) 3 3)).run Try.prog (w.alloc (.cells #[.int .u8 110, .int .u8 (m : Int), .int .u8 (k : Int)] 5)) = .ok (.string ⟨(keyL (m : Int) k).toArray⟩) (w.alloc (.cells #[.int .u8 110, .int .u8 (m : Int), .int .u8 (k : Int)] 5)) := by
  have h1 : (UInt8.ofNat m).toNat = m := by rw [UInt8.toNat_ofNat']; exact Nat.mod_eq_of_lt (by omega)
  have h2 : (UInt8.ofNat k).toNat = k := by rw [UInt8.toNat_ofNat']; exact Nat.mod_eq_of_lt (by omega)
  refine run_convert_bytes_back (P := Try.prog) _ 66 9 5 ⟨w.heap.size, 0, none⟩ 3 (keyL (m : Int) k) Try.underlying66 Try.underlying5 Try.underlying9 fun j hj => ?_
  match j, hj with
  | 0, _ => simp [keyL, Addr.add]
  | 1, _ => simp [keyL, Addr.add, h1]
  | 2, _ => simp [keyL, Addr.add, h2]
theorem PRow.put {w : World} {B g n cap : Nat} {T : TypeId} {l : List Pt} (h : PRow w B T (.slice (some ⟨g, 0, none⟩) n cap) l) (i : Nat) (hi : i < l.length) (p : Pt) :
    PRow ((w.setCell ⟨g, i * 2, none⟩ (.int .u64 p.a)).setCell ⟨g, i * 2 + 1, none⟩ (.int .i64 p.n)) B T (.slice (some ⟨g, 0, none⟩) n cap) (l.set i p) ∧ w.grownBy ((w.setCell ⟨g, i * 2, none⟩ (.int .u64 p.a)).setCell ⟨g, i * 2 + 1, none⟩ (.int .i64 p.n)) (some g) := by
  obtain ⟨a, c, e⟩ := h.slice
  injection e with e1 e2 e3
  subst e2 e3
  have s1 := World.ownsRow.stored (show w.ownsRow B T 2 _ l.length (l.flatMap cellsP) from h) (i * 2) (.int .u64 p.a)
  have s2 := World.ownsRow.stored s1.1 (i * 2 + 1) (.int .i64 p.n)
  refine ⟨?_, s1.2.trans s2.2⟩
  unfold PRow
  rw [List.length_set]
  have e4 : ((l.flatMap cellsP).set (i * 2) (.int .u64 p.a)).set (i * 2 + 1) (.int .i64 p.n) = (l.set i p).flatMap cellsP := by
    clear h e1 s1 s2
    induction l generalizing i with
    | nil => simp at hi
    | cons x t ih =>
      have e : ∀ y : Pt, ∀ t : List Pt, (y :: t).flatMap cellsP = .int .u64 y.a :: .int .i64 y.n :: t.flatMap cellsP := fun y t => by simp [cellsP]
      cases i with
      | zero => simp [e]
      | succ i =>
        rw [List.set_cons_succ, e, e, ← ih i (by simpa using hi), show (i + 1) * 2 = i * 2 + 1 + 1 by omega]
        simp only [List.set_cons_succ]
  rw [← e4]
  exact s2.1
theorem PRow.spot {w : World} {B g n cap : Nat} {T : TypeId} {l : List Pt} (h : PRow w B T (.slice (some ⟨g, 0, none⟩) n cap) l) (i : Nat) (hi : i < l.length) :
    w.cell? ⟨g, i * 2, none⟩ = some (.int .u64 l[i].a) ∧ w.cell? ⟨g, i * 2 + 1, none⟩ = some (.int .i64 l[i].n) ∧ w.frozen? ⟨g, i * 2, none⟩ = false ∧ w.frozen? ⟨g, i * 2 + 1, none⟩ = false := by
  obtain ⟨a, c, e⟩ := h.slice
  injection e with e1 e2 e3
  subst e2 e3
  have h0 := show w.ownsRow B T 2 _ l.length (l.flatMap cellsP) from h
  obtain ⟨a1, a2⟩ := flatP_at l i hi
  exact ⟨(World.ownsRow.cellAt h0 _ (by omega)).trans a1, (World.ownsRow.cellAt h0 _ (by omega)).trans a2, World.ownsRow.frozenAt h0 _, World.ownsRow.frozenAt h0 _⟩
theorem fillP_get (n : Int) (k i : Nat) (h : i < (fillP n k).length) : (fillP n k)[i] = if i < k then ptOf n i else ⟨0, 0⟩ := by simp [fillP]
theorem fillP_next (n : Int) (k : Nat) : (fillP n k).set k (ptOf n k) = fillP n (k + 1) := by
  apply List.ext_getElem (by simp [fillP])
  intro i h1 h2
  rw [List.getElem_set, fillP_get, fillP_get]
  by_cases e : k = i
  · subst e; simp
  · rw [if_neg e]
    by_cases h : i < k
    · rw [if_pos h, if_pos (by omega)]
    · rw [if_neg h, if_neg (by omega)]
set_option maxHeartbeats 4000000 in
theorem pointsOf_is (n : Int) (w : World) (hn : 0 ≤ n ∧ n ≤ 15) : Calls Try.prog 27 #[.int .i64 n] w fun e w' => ∃ v, e = .returned v ∧ PRow w' w.heap.size 61 v (ptsOf n) ∧ Below w.heap.size w w' := by
  obtain ⟨m, rfl⟩ := Int.eq_ofNat_of_zero_le hn.1
  have hm : m ≤ 15 := by omega
  have k1 := fun s w h => hash_is s w h
  have hmk : ∀ w, (Instr.makeSlice 55 (.int .i64 8) (.int .i64 8)).run Try.prog w = .ok (.slice (some ⟨w.heap.size, 0, none⟩) 8 8) (w.alloc (.cells #[.int .u64 0, .int .i64 0, .int .u64 0, .int .i64 0, .int .u64 0, .int .i64 0, .int .u64 0, .int .i64 0, .int .u64 0, .int .i64 0, .int .u64 0, .int .i64 0, .int .u64 0, .int .i64 0, .int .u64 0, .int .i64 0] 61)) := fun _ => by kernel_rfl
  go_enter Try.func27, Try.ntmps27
  go_wp2
  go_loopw [8] (fun i wr => ∃ k : Nat, k ≤ 8 ∧ i = .int .i64 (k : Int) ∧ PRow wr w.heap.size 61 (.slice (some ⟨w.heap.size, 0, none⟩) 8 8) (fillP (m : Int) k) ∧ Below w.heap.size w wr) (fun i _ => 8 - (intOf i).toNat)
  case atStart =>
    refine ⟨0, by omega, rfl, ?_, (Below.refl w.heap.size w).alloc (Nat.le_refl _) _⟩
    have := World.ownsRow_lit (base := w.heap.size) (e := 61) (size := 2) w #[.int .u64 0, .int .i64 0, .int .u64 0, .int .i64 0, .int .u64 0, .int .i64 0, .int .u64 0, .int .i64 0, .int .u64 0, .int .i64 0, .int .u64 0, .int .i64 0, .int .u64 0, .int .i64 0, .int .u64 0, .int .i64 0] 8 (Nat.le_refl _) (by unfold maxLen; omega) rfl
    exact this
  case round =>
    obtain ⟨k, hk, rfl, hR, hB⟩ := hrel
    by_cases hlt : k < 8
    · have hlt2 : (k : Int) < 8 := by omega
      have wm : IntKind.u8.wrap (m : Int) = (m : Int) := by rw [IntKind.wrap_u8]; omega
      have wk : IntKind.u8.wrap (k : Int) = (k : Int) := by rw [IntKind.wrap_u8]; omega
      have hc := key_conv wr m k (by omega) (by omega)
      have k2 := fun w => k1 ⟨(keyL (m : Int) k).toArray⟩ w (by show 3 ≤ maxLen; unfold maxLen; omega)
      have HP := Lib.hid (show ptOf (m : Int) k = ⟨hashI ⟨(keyL (m : Int) k).toArray⟩, (m : Int)⟩ from by unfold ptOf hashI; simp)
      generalize hashI ⟨(keyL (m : Int) k).toArray⟩ = z at *
      generalize (⟨(keyL (m : Int) k).toArray⟩ : ByteArray) = s at *
      have HR := Lib.hid hR
      have HB := Lib.hid hB
      have hbn := bel_new hB (.cells #[.int .u8 110, .int .u8 (m : Int), .int .u8 (k : Int)] 5)
      have hR2 := hR.later ((Below.refl wr.heap.size wr).alloc (Nat.le_refl _) (.cells #[.int .u8 110, .int .u8 (m : Int), .int .u8 (k : Int)] 5))
      obtain ⟨y0, y1, f0, f1⟩ := hR2.spot k (by rw [fillP_len]; exact hlt)
      have HR2 := Lib.hid hR2
      have HBN := Lib.hid hbn
      clear hR hB hR2 hbn k1
      generalize (fillP (m : Int) k)[k]'(by rw [fillP_len]; exact hlt) = q0 at *
      generalize hw2 : wr.alloc (.cells #[.int .u8 110, .int .u8 (m : Int), .int .u8 (k : Int)] 5) = w2 at *
      go_wp2_with (go_at_call 10; (with_reducible refine (k2 _).mono ?_); rintro e w1 ⟨rfl, rfl⟩)
      go_roundw
      case rel =>
        obtain ⟨z1, z2⟩ := HR2.out.put k (by rw [fillP_len]; exact hlt) (ptOf (m : Int) k)
        rw [fillP_next] at z1
        rw [HP.out] at z1 z2
        exact ⟨k + 1, by omega, by go_num, z1, HBN.out.grown z2 HBN.out.size (fun q hq => by cases hq; exact Nat.le_refl _)⟩
      case measure => simp [intOf]; omega
    · obtain rfl : k = 8 := by omega
      have HR := Lib.hid hR
      have HB := Lib.hid hB
      clear hR hB k1 hk
      go_wp2
      go_ret
      exact ⟨_, rfl, by rw [← fillP_all]; exact HR.out, HB.out⟩
end Go.Proofs.Ytmmkbedheeeecaa
