/- Contracts of the document's Put, early and Get for package frame. -/
import Derived.Test.YtanlnoephhjhhaaDoorFramePut
import Derived.Test.YtanlnoephhjhhaaDoorSumRef
import Derived.Test.YtanlnoephhjhhaaDoorVintRefGet
import Derived.Deep.RegionWith
namespace Go.Proofs.YtanlnoephhjhhaaDoor
open Go.RowKit Go.Proofs.YtanlnoephhjhhaaDoor.Vi Go.Proofs.YtanlnoephhjhhaaDoor.Crc Go.Proofs.YtanlnoephhjhhaaDoor.Fr

/-- The four bytes of a sum in a block of their own, made into a text, later on. -/
theorem be_later (c : BitVec 32) (x1 x2 x3 x4 : Int) (h1 : (c.toNat : Int) / 16777216 = x1) (h2 : (c.toNat : Int) / 65536 % 256 = x2) (h3 : (c.toNat : Int) / 256 % 256 = x3) (h4 : (c.toNat : Int) % 256 = x4) (w w' : World) (h : Below (w.heap.size + 1) (w.alloc (.cells #[.int .u8 x1, .int .u8 x2, .int .u8 x3, .int .u8 x4] 5)) w') :
    (convert 28 9 (.slice (some ⟨w.heap.size, 0, none⟩) 4 4)).run Tryd.prog w' = .ok (.string ⟨(be c).toArray⟩) w' := by
  subst h1 h2 h3 h4
  have hc := c.isLt
  refine run_convert_bytes_back (P := Tryd.prog) _ 28 9 5 ⟨w.heap.size, 0, none⟩ 4 (be c) Tryd.underlying28 Tryd.underlying5 Tryd.underlying9 fun j hj => ?_
  have hj4 : j < 4 := hj
  rw [add_off, Nat.zero_add, h.cell (p := ⟨w.heap.size, j, none⟩) (Nat.lt_succ_self _), World.cell?_alloc_mark]
  have e0 : ((c.toNat / 16777216 % 256 : Nat) : Int) = (c.toNat : Int) / 16777216 := by omega
  match j, hj4 with
  | 0, _ =>
    show some (Value.int IntKind.u8 _) = some (Value.int IntKind.u8 (((UInt8.ofNat (c.toNat / 16777216)).toNat : Nat) : Int))
    rw [UInt8.toNat_ofNat', ← e0]
  | 1, _ => simp [be]
  | 2, _ => simp [be]
  | 3, _ => simp [be]

theorem be_after (c : BitVec 32) (x1 x2 x3 x4 : Int) (h1 : (c.toNat : Int) / 16777216 = x1) (h2 : (c.toNat : Int) / 65536 % 256 = x2) (h3 : (c.toNat : Int) / 256 % 256 = x3) (h4 : (c.toNat : Int) % 256 = x4) (w w' : World) (h : Below ((w.alloc (.cells #[.int .u8 x1, .int .u8 x2, .int .u8 x3, .int .u8 x4] 5)).drew).heap.size ((w.alloc (.cells #[.int .u8 x1, .int .u8 x2, .int .u8 x3, .int .u8 x4] 5)).drew) w') :
    (convert 28 9 (.slice (some ⟨w.heap.size, 0, none⟩) 4 4)).run Tryd.prog w' = .ok (.string ⟨(be c).toArray⟩) w' :=
  be_later c x1 x2 x3 x4 h1 h2 h3 h4 w w' (((Below.refl _ _).drew).trans (h.mono (by simp)))

set_option maxHeartbeats 2000000 in
theorem rput_yes (s t : ByteArray) (w : World) (hs : s.size ≤ 70000) (H : Hid (tx (fr s.data.toList) = t)) :
    Calls Tryd.prog 12 #[.string s] w fun e w' => e = .returned (.tuple #[.string t, .int .i64 0]) ∧ Below w.heap.size w w' := by
  obtain ⟨c, hcc⟩ : ∃ c, crc s.data.toList = c := ⟨_, rfl⟩
  have hO := fun w => refOf_any s w (by unfold maxLen; omega)
  rw [hcc] at hO
  have hP := fun w => refPut_is s.size _ w (by omega) (Lib.hid (rfl : tx (enc s.size) = tx (enc s.size)))
  have he10 := enc_len10 s.size (by omega)
  obtain ⟨p, hp⟩ : ∃ p, tx (enc s.size) = p := ⟨_, rfl⟩
  have hps : p.size ≤ 10 := by rw [← hp, tx_size]; exact he10
  rw [hp] at hP
  have hcl := c.isLt
  obtain ⟨y1, hy1⟩ : ∃ y : Int, (c.toNat : Int) / 16777216 = y := ⟨_, rfl⟩
  obtain ⟨y2, hy2⟩ : ∃ y : Int, (c.toNat : Int) / 65536 % 256 = y := ⟨_, rfl⟩
  obtain ⟨y3, hy3⟩ : ∃ y : Int, (c.toNat : Int) / 256 % 256 = y := ⟨_, rfl⟩
  obtain ⟨y4, hy4⟩ : ∃ y : Int, (c.toNat : Int) % 256 = y := ⟨_, rfl⟩
  have hL := fun w w' h => be_later c y1 y2 y3 y4 hy1 hy2 hy3 hy4 w w' h
  have hA := fun w w' h => be_after c y1 y2 y3 y4 hy1 hy2 hy3 hy4 w w' h
  have hv1 : IntKind.u8.wrap y1 = y1 := by rw [IntKind.wrap_u8]; omega
  have hv2 : IntKind.u8.wrap ((c.toNat : Int) / 65536) = y2 := by rw [IntKind.wrap_u8]; omega
  have hv3 : IntKind.u8.wrap ((c.toNat : Int) / 256) = y3 := by rw [IntKind.wrap_u8]; omega
  have hv4 : IntKind.u8.wrap (c.toNat : Int) = y4 := by rw [IntKind.wrap_u8]; omega
  obtain ⟨t4, ht4⟩ : ∃ t4 : ByteArray, t4 = ⟨(be c).toArray⟩ := ⟨_, rfl⟩
  have hz4 : t4.size = 4 := by rw [ht4]; rfl
  rw [← ht4] at hL hA
  have hI := fun w => hL w _ (Below.refl _ _)
  have hI2 := fun w => hA w _ (Below.refl _ _)
  have HT : Hid (p ++ s ++ t4 = t) := by
    show _ = _
    rw [← H.out, ← hp, ht4]
    apply ByteArray.ext
    apply Array.toList_inj.1
    simp [tx, fr, sealed, hcc]
  obtain ⟨x1, hx1⟩ : ∃ x, p ++ s = x := ⟨_, rfl⟩
  have hzx : x1.size = p.size + s.size := by rw [← hx1]; simp
  have hq1 : p.size + s.size ≤ 9223372036854775807 := by omega
  have hq2 : x1.size + t4.size ≤ 9223372036854775807 := by omega
  rw [hx1] at HT
  have hs2 : ¬ (70000 : Int) < (s.size : Int) := by omega
  have hu64 : IntKind.u64.wrap (s.size : Int) = (s.size : Int) := by rw [IntKind.wrap_u64]; omega
  have HA := Lib.hid hA
  clear hp ht4 H hcc hL hA
  go_enter Tryd.func12, Tryd.ntmps12
  go_wp2_with (first | (go_at_call 26; (with_reducible refine (hO _).mono ?_); rintro e w1 ⟨rfl, rfl⟩))
  go_region_with (first
    | (go_at_call 27; (with_reducible refine (hP _).mono ?_); rintro e w1 ⟨rfl, hb1⟩; first | have hk2 := HA.out _ _ hb1 | skip))
  all_goals
    go_wp2_with fail
    go_ret2
    refine ⟨by rw [← HT.out]; rfl, ?_⟩
    first
      | exact bel_new (bel_next ((Below.refl _ _).drew) hb1) _
      | exact bel_next (((Below.refl _ w).alloc (Nat.le_refl _) _).drew) hb1
end Go.Proofs.YtanlnoephhjhhaaDoor
