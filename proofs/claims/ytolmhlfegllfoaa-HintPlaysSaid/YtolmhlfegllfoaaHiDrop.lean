/- Drop: what a visit of all entries keeps. -/
import Derived.Test.YtolmhlfegllfoaaHiMod
set_option maxRecDepth 20000
set_option linter.unusedSimpArgs false
set_option linter.unusedVariables false
namespace Go.Proofs.Ytolmhlfegllfoaa.Qu.Hi
open Go.RowKit Go.Maps Go.Proofs.Ytolmhlfegllfoaa.Vi Go.Proofs.Ytolmhlfegllfoaa.Mk

/-- An entry that is met. -/
theorem step_key {key v : Value} {kl : Lit} {y : DataW Value × List MemPlace} {left : Lit → Bool} {M : List Hk} (hkey : keyOf Try.prog TKK key = some kl) (hv : unitElem v = some y) (hL : LIs left M) (hlk : left kl = true) : ∃ x : Hk, key = hkV x ∧ v = .agg #[] ∧ x.big ∧ kl = klit x ∧ x ∈ M := by
  obtain ⟨x, e, hb, hk⟩ := key_inv hkey
  obtain ⟨e2, -⟩ := unitElem_inv hv
  refine ⟨x, e, e2, hb, hk, ?_⟩
  rw [hk, hL x hb] at hlk
  unfold hasB at hlk
  simpa using hlk
def keepL (L M : List Hk) (t : Int) : List Hk := L.filter fun x => hasB M x || decide (t ≤ x.p.t)
theorem keep_start (L : List Hk) (t : Int) : keepL L L t = L := by
  unfold keepL
  refine List.filter_eq_self.2 fun x hx => ?_
  unfold hasB
  simp [hx]
theorem keep_end (L : List Hk) (t : Int) : keepL L [] t = dropL L t := by
  unfold keepL dropL hasB
  refine List.filter_congr fun x _ => by simp
theorem keep_stays {L M : List Hk} {t : Int} {x : Hk} (h : t ≤ x.p.t) : keepL L (M.filter fun y => !decide (y = x)) t = keepL L M t := by
  unfold keepL hasB
  refine List.filter_congr fun y _ => ?_
  rw [Bool.eq_iff_iff]
  simp only [Bool.or_eq_true, decide_eq_true_eq, List.mem_filter, Bool.not_eq_true', decide_eq_false_iff_not]
  constructor
  · rintro (h1 | h1)
    · exact Or.inl h1.1
    · exact Or.inr h1
  · rintro (h1 | h1)
    · by_cases e : y = x
      · subst e; exact Or.inr h
      · exact Or.inl ⟨h1, e⟩
    · exact Or.inr h1
theorem keep_gone {L M : List Hk} {t : Int} {x : Hk} (h : ¬ t ≤ x.p.t) : keepL L (M.filter fun y => !decide (y = x)) t = (keepL L M t).filter fun y => !decide (y = x) := by
  unfold keepL hasB
  rw [List.filter_filter]
  refine List.filter_congr fun y _ => ?_
  rw [Bool.eq_iff_iff]
  simp only [Bool.or_eq_true, Bool.and_eq_true, decide_eq_true_eq, List.mem_filter, Bool.not_eq_true', decide_eq_false_iff_not]
  constructor
  · rintro (h1 | h1)
    · exact ⟨h1.2, Or.inl h1.1⟩
    · exact ⟨fun e => h (by rw [← e]; exact h1), Or.inr h1⟩
  · rintro ⟨h1, h2 | h2⟩
    · exact Or.inl ⟨h2, h1⟩
    · exact Or.inr h2
structure DrJ (w wr : World) (b m r : Nat) (room : Int) (L : List Hk) (t : Int) : Prop where
  it : ∃ left cnt D M, wr.ranges Try.prog TKK unitElem m r L.length D left cnt ∧ LIs left M ∧ DIs D (keepL L M t) ∧ ∀ x ∈ M, x ∈ L
  grow : w.grownBy wr (some m)
theorem DrJ.obj {w wr : World} {B b m r : Nat} {room : Int} {L : List Hk} {t : Int} (h : DrJ w wr b m r room L t) (hA : HiAt w B b (some m) room L) : wr.heap[b]? = some (.cells #[.int .i64 room, .map (some m)] 61 (0, 0)) :=
  (h.grow.block b hA.lt fun e => hA.bm (Option.some.inj e)).trans hA.obj
def DropDone (w : World) (B b : Nat) (mv : Option Nat) (room : Int) (L : List Hk) (t : Int) (e : Ending) (w' : World) : Prop := e = .returned (.int .i64 ((L.length : Int) - ((dropL L t).length : Int))) ∧ HiAt w' B b mv room (dropL L t) ∧ w.grownBy w' mv
theorem HiAt.swap {w wr : World} {B b m : Nat} {room : Int} {L L' : List Hk} (h : HiAt w B b (some m) room L) (hg : w.grownBy wr (some m)) {n : Nat} {D : DataW Value} (hD : wr.ownsMap Try.prog TKK unitElem m n D) (hI : DIs D L') (hG : Good L') (hl : L'.length ≤ L.length) : HiAt wr B b (some m) room L' := by
  have hlen := h.len
  refine ⟨(hg.block b h.lt fun e => h.bm (Option.some.inj e)).trans h.obj, h.lo, (fun e => by cases e), fun m' e => ?_, h.rm, by omega, hG⟩
  have e := Option.some.inj e
  subst e
  exact ⟨(h.some_ m rfl).1, ⟨⟨D, tight hD hI.size, hI⟩, hG⟩⟩
set_option maxHeartbeats 8000000 in
theorem drop_some {w : World} {B b m : Nat} {room : Int} {L : List Hk} (h : HiAt w B b (some m) room L) (t : Int) : Calls Try.prog 14 #[.pointer (some ⟨b, 0, none⟩), .int .i64 t] w (DropDone w B b (some m) room L t) := by
  have kl := len_is h
  have ka := all_is h
  have H := Lib.hid h
  obtain ⟨-, ⟨D0, hD0, hI0⟩, hG0⟩ := h.some_ m rfl
  have hlt := h.lt
  have hmlt := h.mlt
  obtain ⟨w0, hrun0, hrg0, hg0, hs0⟩ := hD0.range klaw undM
  have hw : ∀ k : Nat, k ≤ L.length → IntKind.i64.wrap ((L.length : Int) - (k : Int)) = (L.length : Int) - (k : Int) := fun k hk => by
    have h1 := h.len
    have h2 := h.rm
    rw [IntKind.wrap_i64]; omega
  have HW := Lib.hid hw
  have HJ0 := Lib.hid (show DrJ w w0 b m w.heap.size room L t from ⟨⟨_, _, D0, L, hrg0, hI0.left, by rw [keep_start]; exact hI0, fun x hx => hx⟩, hg0.but _⟩)
  have HN0 := Lib.hid (show w.heap.size ≤ w0.heap.size by omega)
  have HBIG := Lib.hid (fun x (hx : x ∈ L) => (h.good.fine x hx).big)
  clear h hw hrg0 hg0 hs0 hD0 hI0 hG0
  go_enter Try.func14, Try.ntmps14
  go_wp2_with (first
    | (go_at_call 25; (with_reducible refine kl.mono ?_); rintro e w1 ⟨rfl, rfl⟩)
    | (go_at_call 30; (with_reducible refine ka.mono ?_); rintro e w1 ⟨rfl, rfl⟩))
  try go_frame
  go_loopw [6] (fun s6 wr => Hid (DrJ w wr b m w.heap.size room L t)) (fun _ wr => wr.rangeLeft m w.heap.size)
  case atStart => exact HJ0
  case round =>
    obtain ⟨w8, hw8⟩ : ∃ x, x = wr := ⟨_, rfl⟩
    subst hw8
    have HJ := hrel
    clear hrel
    obtain ⟨left, cnt, D, M, hrg, hL, hI, hM⟩ := HJ.out.it
    have HE8 := Lib.hid hrg.left_eq
    have hr8 := hrg.lt
    rcases hrg.next klaw 0 with ⟨h0, hl0, hrun⟩ | ⟨key, v, kl, y, w9, cnt9, hkey, hlk, hv, hat, hrun, hrg9, hlt9, hg9, hs9, hen⟩
    · have hM0 := hL.none (fun x hx => HBIG.out x (hM x hx)) hl0
      subst hM0
      rw [keep_end] at hI
      have h9 := H.out.swap HJ.out.grow hrg.owns hI (H.out.good.filter _) (List.length_filter_le _ _)
      have kl2 := len_is h9
      have H9 := Lib.hid h9
      have hw2 := HW.out (dropL L t).length (by unfold dropL; exact List.length_filter_le _ _)
      clear hrg hL hI hM hl0 h9
      go_wp2_with (go_at_call 25; (with_reducible refine kl2.mono ?_); rintro e w10 ⟨rfl, rfl⟩)
      go_ret
      exact ⟨rfl, H9.out, HJ.out.grow⟩
    · obtain ⟨x, rfl, rfl, hxb, rfl, hxM⟩ := step_key hkey hv hL hlk
      have hg89 : w.grownBy w9 (some m) := HJ.out.grow.andThen hg9 fun j hj => Or.inl (by rw [← Option.some.inj hj]; exact Nat.le_refl _)
      have hal : Below w9.heap.size w9 (w9.alloc (box7 x)) := (Below.refl _ _).alloc (Nat.le_refl _) _
      have hk7 := K7.new w9 x
      have hL9 := hL.strike hxb
      have hM9 : ∀ z ∈ M.filter (fun y => !decide (y = x)), z ∈ L := fun z hz => hM z (List.mem_filter.1 hz).1
      have hsz : w.heap.size ≤ w9.heap.size := hg89.size
      obtain ⟨y0, y1, y2, y3, y4, y5, y6⟩ := hk7
      unfold hkV at hrun hen
      by_cases hxt : x.p.t < t
      · have hga : w.grownBy (w9.alloc (box7 x)).drew (some m) := grow_next hg89 hal.drew
        have hrga : (w9.alloc (box7 x)).drew.ranges Try.prog TKK unitElem m w.heap.size L.length D _ cnt9 := hrg9.kept (grow_of hal.drew none) (by simp) (by simp)
        obtain ⟨w11, cnt11, hrun11, hrg11, hle11, ht11⟩ := hrga.drop klaw undM hkey 0
        rw [Maps.strike_twice] at hrg11
        have hI11 := hI.del (hrg.owns.tidy klaw) hxb
        rw [← keep_gone (by omega)] at hI11
        have HJ11 := Lib.hid (show DrJ w w11 b m w.heap.size room L t from ⟨⟨_, _, _, _, hrg11, hL9, hI11, hM9⟩, hga.trans ht11.grown⟩)
        have HE11 := Lib.hid hrg11.left_eq
        have hobj : (w9.alloc (box7 x)).drew.heap[b]? = some (.cells #[.int .i64 room, .map (some m)] 61 (0, 0)) := (hga.block b hlt fun e => H.out.bm (Option.some.inj e)).trans H.out.obj
        have ka2 : Calls Try.prog 30 #[.pointer (some ⟨b, 0, none⟩)] (w9.alloc (box7 x)).drew fun e w'' => e = .returned (.map (some m)) ∧ w'' = (w9.alloc (box7 x)).drew := by
          refine (all_obj hobj).mono ?_
          rintro e w' ⟨rfl, rfl⟩
          exact ⟨rfl, rfl⟩
        unfold hkV at hrun11
        clear hrg hL hI hM hlk hkey hv hat hrg9 hg9 hs9 hxM hg89 hal hL9 hM9 hga hrga hrg11 ht11 hI11 hobj
        go_wp2_with fail
        refine still_tail 3 (by kernel_rfl) (by kernel_rfl) ?_
        simp only [List.take_succ_cons, List.take_zero, List.drop_succ_cons, List.drop_zero]
        still_step
        refine wpStill_step (fun K hK => ?_)
        go_simp
        refine ⟨_, (ka2), hK _ ?_⟩
        clear hK K
        repeat still_step
        refine wpStill_nil ?_
        go_wp2
        go_roundw
        case rel => exact HJ11
        case measure => rw [HE11.out, HE8.out]; omega
      · have hrga : (w9.alloc (box7 x)).ranges Try.prog TKK unitElem m w.heap.size L.length D _ cnt9 := hrg9.alloc _
        have HJ11 := Lib.hid (show DrJ w (w9.alloc (box7 x)) b m w.heap.size room L t from ⟨⟨_, _, _, _, hrga, hL9, by rw [keep_stays (by omega)]; exact hI, hM9⟩, grow_next hg89 hal⟩)
        have HE11 := Lib.hid hrga.left_eq
        clear hrg hL hI hM hlk hkey hv hat hrg9 hg9 hs9 hxM hg89 hal hL9 hM9 hrga
        go_wp2
        go_roundw
        case rel => exact HJ11
        case measure => rw [HE11.out, HE8.out]; omega
end Go.Proofs.Ytolmhlfegllfoaa.Qu.Hi
