/- New, Ack. -/
import Derived.Test.YtolmhlfegllfoaaHiAdd
set_option maxRecDepth 20000
set_option linter.unusedSimpArgs false
set_option linter.unusedVariables false
namespace Go.Proofs.Ytolmhlfegllfoaa.Qu.Hi
open Go.RowKit Go.Maps Go.Proofs.Ytolmhlfegllfoaa.Vi Go.Proofs.Ytolmhlfegllfoaa.Mk

/-- A room as it is kept. -/
def capH (n : Int) : Int := min (max n 0) 600
theorem cap_ok (n : Int) : 0 ≤ capH n ∧ capH n ≤ 600 := by unfold capH; omega
def NewDone (n : Int) (w : World) (e : Ending) (w' : World) : Prop := ∃ b m, e = .returned (.pointer (some ⟨b, 0, none⟩)) ∧ HiAt w' w.heap.size b (some m) (capH n) [] ∧ Below w.heap.size w w'
set_option maxHeartbeats 2000000 in
theorem new_is (n : Int) (w : World) : Calls Try.prog 9 #[.int .i64 n] w (NewDone n w) := by
  have hmk := @run_makeMap Try.prog
  have hcap := cap_ok n
  have hend : ∀ c : Int, capH n = c → HiAt ((w.alloc (.map #[] 0)).alloc (.cells #[.int .i64 c, .map (some w.heap.size)] 61)) w.heap.size (w.heap.size + 1) (some w.heap.size) (capH n) [] ∧ Below w.heap.size w ((w.alloc (.map #[] 0)).alloc (.cells #[.int .i64 c, .map (some w.heap.size)] 61)) := fun c hc => by
    subst hc
    have h1 := World.ownsMap_made (H := Value) w Try.prog TKK (R := unitElem)
    have h2 := heap_alloc_new (w.alloc (.map #[] 0)) (.cells #[.int .i64 (capH n), .map (some w.heap.size)] 61)
    have hs : (w.alloc (.map #[] 0)).heap.size = w.heap.size + 1 := by simp
    rw [hs] at h2
    have hm : MapAt (w.alloc (.map #[] 0)) w.heap.size [] := ⟨⟨_, h1, DIs.empty⟩, Good.nil⟩
    have hal : Below w.heap.size w ((w.alloc (.map #[] 0)).alloc (.cells #[.int .i64 (capH n), .map (some w.heap.size)] 61)) := bel_new ((Below.refl _ _).alloc (Nat.le_refl _) _) _
    refine ⟨⟨h2, by omega, (fun e => by cases e), fun m e => ?_, hcap, by simpa using hcap.1, Good.nil⟩, hal⟩
    have e := Option.some.inj e
    subst e
    exact ⟨Nat.le_refl _, hm.kept (((Below.refl _ (w.alloc (.map #[] 0))).alloc (Nat.le_refl _) _).block _ (by rw [hs]; omega))⟩
  have HE := Lib.hid (hend (min (max n 0) 600) rfl)
  clear hend hcap
  go_enter Try.func9, Try.ntmps9
  go_wp2
  go_ret
  exact ⟨_, _, rfl, HE.out.1, HE.out.2⟩
theorem tight {w : World} {m n k : Nat} {D : DataW Value} (h : w.ownsMap Try.prog TKK unitElem m n D) (hk : Maps.size D = k) : w.ownsMap Try.prog TKK unitElem m k D := by
  obtain ⟨es, cl, h1, F, h2, rfl⟩ := h
  refine ⟨es, cl, h1, F, ?_, rfl⟩
  rw [← hk]
  simp [Maps.size, length_sorted]
theorem HiAt.bm {w : World} {B b m : Nat} {room : Int} {L : List Hk} (h : HiAt w B b (some m) room L) : b ≠ m := by
  obtain ⟨es, cl, e⟩ := (h.some_ m rfl).2.heap
  rintro rfl
  rw [h.obj] at e
  injection e with e
  cases e
theorem HiAt.cell_off {w : World} {B b g o : Nat} {mv : Option Nat} {room : Int} {L : List Hk} {v : Value} (h : HiAt w B b mv room L) (k : w.cell? ⟨g, o, none⟩ = some v) : some g ≠ mv := by
  intro e
  obtain ⟨es, cl, e2⟩ := (h.some_ g e.symm).2.heap
  unfold World.cell? at k
  dsimp only at k
  rw [e2] at k
  cases k
/-- An entry is taken away, if it was there. -/
theorem HiAt.del {w : World} {B b : Nat} {mv : Option Nat} {room : Int} {L : List Hk} (h : HiAt w B b mv room L) {x : Hk} (hx : x.big) (T : TypeId) :
    ∃ w', (Builtin.delete_ #[TMM, TKK] T #[.map mv, hkV x]).run Try.prog w = .ok (.tuple #[]) w' ∧ HiAt w' B b mv room (L.filter fun y => !decide (y = x)) ∧ w.grownBy w' mv := by
  cases mv with
  | none =>
    obtain ⟨rfl, -⟩ := h.none_ rfl
    exact ⟨w, Maps.drop_nil klaw undM (key_is hx) T, h, World.grownBy.refl _ _⟩
  | some m =>
    obtain ⟨hB, ⟨D, hD, hI⟩, hG⟩ := h.some_ m rfl
    obtain ⟨w', hrun, hD', ht⟩ := hD.drop klaw undM (key_is hx) T
    have hI' := hI.del (hD.tidy klaw) hx
    have hsome : ∀ m', some m = some m' → B ≤ m' ∧ MapAt w' m' (L.filter fun y => !decide (y = x)) := fun m' e => by
      have e := Option.some.inj e
      subst e
      exact ⟨hB, ⟨⟨_, tight hD' hI'.size, hI'⟩, hG.filter _⟩⟩
    have hlen := h.len
    have hle := List.length_filter_le (fun y => !decide (y = x)) L
    exact ⟨w', hrun, ⟨(ht.grown.block b h.lt (fun e => h.bm (Option.some.inj e))).trans h.obj, h.lo, (fun e => by cases e), hsome, h.rm, by omega, h.good.filter _⟩, ht.grown⟩
theorem ack_step {L : List Hk} {n : Int} {ps : List Pt} {k : Nat} (h : k < ps.length) : ackL L n (ps.take (k + 1)) = (ackL L n (ps.take k)).filter fun y => !decide (y = ⟨ps[k], n⟩) := by
  unfold ackL
  rw [List.filter_filter, List.take_succ_eq_append_getElem h]
  refine List.filter_congr fun x _ => ?_
  rw [Bool.eq_iff_iff]
  simp only [Bool.not_eq_true', Bool.and_eq_false_iff, Bool.and_eq_true, decide_eq_false_iff_not, List.mem_append, List.mem_singleton]
  constructor
  · rintro (h1 | h1)
    · exact ⟨fun e => h1 (by rw [e]), Or.inl h1⟩
    · exact ⟨fun e => h1 (Or.inr (by rw [e])), Or.inr fun e => h1 (Or.inl e)⟩
  · rintro ⟨h1, h2 | h2⟩
    · exact Or.inl h2
    · by_cases e : x.n = n
      · exact Or.inr fun h3 => h3.elim h2 fun h4 => h1 (Hk.ext' h4 e)
      · exact Or.inl e
theorem ack_nil (L : List Hk) (n : Int) : ackL L n [] = L := by
  unfold ackL
  exact List.filter_eq_self.2 fun x _ => by simp
structure AkJ (w wr : World) (B b : Nat) (mv : Option Nat) (room : Int) (L : List Hk) (n : Int) (ps : List Pt) (k : Nat) : Prop where
  at_ : HiAt wr B b mv room (ackL L n (ps.take k))
  grow : w.grownBy wr mv
theorem pts_grown {w wr : World} {N : Nat} {a : Option Addr} {ps : List Pt} {mv : Option Nat} {B b : Nat} {room : Int} {L : List Hk} (h : Pts w N a ps) (hA : HiAt w B b mv room L) (k : w.grownBy wr mv) : Pts wr N a ps := by
  rcases h.at_ with h | ⟨g, off, e, hg, hc⟩
  · exact ⟨Or.inl h⟩
  · refine ⟨Or.inr ⟨g, off, e, hg, fun j hj => ?_⟩⟩
    obtain ⟨c0, c1, c2, c3, c4, c5⟩ := hc j hj
    have hne := hA.cell_off c0
    exact ⟨k.cell c0 hne, k.cell c1 hne, k.cell c2 hne, k.cell c3 hne, k.cell c4 hne, k.cell c5 hne⟩
def AckDone (w : World) (B b : Nat) (mv : Option Nat) (room : Int) (L : List Hk) (n : Int) (ps : List Pt) (e : Ending) (w' : World) : Prop := e = .returned (.int .i64 ((L.length : Int) - ((ackL L n ps).length : Int))) ∧ HiAt w' B b mv room (ackL L n ps) ∧ w.grownBy w' mv
set_option maxHeartbeats 4000000 in
theorem ack_is {w : World} {B b : Nat} {mv : Option Nat} {room : Int} {L : List Hk} (h : HiAt w B b mv room L) (n : Int) (a0 : Option Addr) (c0 : Nat) (ps : List Pt) (hS : Pts w w.heap.size a0 ps) (hl : ps.length ≤ 1000000) (hbig : ∀ p ∈ ps, Hk.big ⟨p, n⟩) : Calls Try.prog 12 #[.pointer (some ⟨b, 0, none⟩), .int .i64 n, .slice a0 ps.length c0] w (AckDone w B b mv room L n ps) := by
  have kl := len_is h
  have H := Lib.hid h
  have HS := Lib.hid hS
  have HBG := Lib.hid hbig
  have hw : ∀ k : Nat, k ≤ L.length → IntKind.i64.wrap ((L.length : Int) - (k : Int)) = (L.length : Int) - (k : Int) := fun k hk => by
    have h1 := h.len
    have h2 := h.rm
    rw [IntKind.wrap_i64]; omega
  have HW := Lib.hid hw
  clear h hS hbig hw
  obtain ⟨q, hq⟩ : ∃ q, ps.length = q := ⟨_, rfl⟩
  rw [hq] at hl
  rw [hq]
  have HQ := Lib.hid hq
  clear hq
  go_enter Try.func12, Try.ntmps12
  go_wp2_with (go_at_call 25; (with_reducible refine kl.mono ?_); rintro e w1 ⟨rfl, rfl⟩)
  go_loopw [14] (fun i wr => ∃ k : Nat, k ≤ q ∧ i = .int .i64 (k : Int) ∧ Hid (AkJ w wr B b mv room L n ps k)) (fun i _ => q - (intOf i).toNat)
  case atStart => exact ⟨0, by omega, rfl, Lib.hid ⟨by rw [List.take_zero, ack_nil]; exact H.out, World.grownBy.refl _ _⟩⟩
  case round =>
    obtain ⟨k, hk, rfl, HJ⟩ := hrel
    obtain ⟨w8, hw8⟩ : ∃ x, x = wr := ⟨_, rfl⟩
    subst hw8
    by_cases hlt : k < q
    · have hlt2 : (k : Int) < (q : Int) := by omega
      have hkP : k < ps.length := by rw [HQ.out]; exact hlt
      have hP8 := pts_grown HS.out H.out HJ.out.grow
      rcases hP8.at_ with he | ⟨g, off, rfl, hg, hc⟩
      · rw [he] at hkP; simp at hkP
      · have hx := hc k hkP
        have hst := ack_step (L := L) (n := n) hkP
        have hb := HBG.out _ (List.getElem_mem hkP)
        obtain ⟨p, hp⟩ : ∃ p, ps[k] = p := ⟨_, rfl⟩
        rw [hp] at hx hst hb
        have hal : Below w8.heap.size w8 (w8.alloc (.cells #[.string p.s, .int .i64 p.t, .int .i64 p.v, .int .i64 p.st.c, .int .i64 p.st.s, .int .i64 p.st.q] 31)).drew := ((Below.refl _ _).alloc (Nat.le_refl _) _).drew
        have h8 := HJ.out.at_.later hal
        obtain ⟨w9, hrun, h9, hg9⟩ := h8.del hb 0
        have ka := all_is h8
        have HST := Lib.hid hst
        have H9 := Lib.hid h9
        have HG9 := Lib.hid ((grow_next HJ.out.grow hal).trans hg9)
        obtain ⟨y0, y1, y2, y3, y4, y5⟩ := hx
        unfold hkV at hrun
        clear hc hp hst hb hal h8 h9 hg9 hkP hP8
        go_wp2_with fail
        refine still_tail 5 (by kernel_rfl) (by kernel_rfl) ?_
        simp only [List.take_succ_cons, List.take_zero, List.drop_succ_cons, List.drop_zero]
        still_step
        refine wpStill_step (fun K hK => ?_)
        go_simp
        refine ⟨_, (ka.mono (by rintro e w1 ⟨rfl, rfl⟩; exact ⟨rfl, rfl⟩)), hK _ ?_⟩
        clear hK K
        repeat still_step
        refine wpStill_nil ?_
        go_wp2
        go_roundw
        case rel => exact ⟨k + 1, by omega, by go_num, Lib.hid ⟨by rw [HST.out]; exact H9.out, HG9.out⟩⟩
        case measure => simp [intOf]; omega
    · obtain rfl : k = q := by omega
      have hlt2 : ¬ (k : Int) < (k : Int) := by omega
      have hT : ps.take k = ps := List.take_of_length_le (by rw [HQ.out]; exact Nat.le_refl _)
      have h9 := HJ.out.at_
      rw [hT] at h9
      have kl2 := len_is h9
      have H9 := Lib.hid h9
      have hw2 := HW.out (ackL L n ps).length (by unfold ackL; exact List.length_filter_le _ _)
      clear hlt hT h9
      go_wp2_with (go_at_call 25; (with_reducible refine kl2.mono ?_); rintro e w9 ⟨rfl, rfl⟩)
      go_ret
      exact ⟨rfl, H9.out, HJ.out.grow⟩
end Go.Proofs.Ytolmhlfegllfoaa.Qu.Hi
