/- The set as it stands; which of its spans another one touches. -/
import Derived.Test.YtdkenokjdiamhaaDoorWindowBits
import Derived.BigQuiet
set_option maxRecDepth 20000
namespace Go.Proofs.YtdkenokjdiamhaaDoor
open Go.RowKit

/-- Which spans of L the span s touches: those from i on that are ahead of j. -/
structure TouchOk (L : List Sp) (s : Sp) (i j : Nat) : Prop where
  le : i ≤ j
  len : j ≤ L.length
  lo : ∀ k (h : k < L.length), k < i → L[k].t < s.f
  mid : ∀ k (h : k < L.length), i ≤ k → k < j → s.f ≤ L[k].t ∧ L[k].f ≤ s.t
  hi : ∀ k (h : k < L.length), j ≤ k → s.t < L[k].f
theorem Canon.lt {L : List Sp} (h : Canon L) {i j : Nat} (hj : j < L.length) (hij : i < j) : L[i].t < L[j].f := (List.pairwise_iff_getElem.1 h.gap) i j (by omega) hj hij
theorem Canon.at_ {L : List Sp} (h : Canon L) {i : Nat} (hi : i < L.length) : 0 ≤ L[i].f ∧ L[i].f < L[i].t := h.pos _ (List.getElem_mem hi)
theorem Canon.t_le {L : List Sp} (h : Canon L) {i j : Nat} (hj : j < L.length) (hij : i ≤ j) : L[i].t ≤ L[j].t := by
  by_cases e : i = j
  · subst e; exact Int.le_refl _
  · have := h.lt hj (show i < j by omega); have := h.at_ hj; omega
theorem Canon.f_le {L : List Sp} (h : Canon L) {i j : Nat} (hj : j < L.length) (hij : i ≤ j) : L[i].f ≤ L[j].f := by
  by_cases e : i = j
  · subst e; exact Int.le_refl _
  · have := h.lt hj (show i < j by omega); have := h.at_ (show i < L.length by omega); omega
/-- A set of the program's in block b: its slice v, its spans. -/
structure SetAt (w : World) (b : Nat) (v : Value) (L : List Sp) : Prop where
  cell : w.cell? ⟨b, 0, none⟩ = some v
  free : w.frozen? ⟨b, 0, none⟩ = false
  row : SpRow w (b + 1) v L
theorem SetAt.room {w : World} {b : Nat} {v : Value} {L : List Sp} (h : SetAt w b v L) : b < w.heap.size := World.block_lt_of_cell? w _ h.cell
theorem SetAt.apart {w : World} {b : Nat} {v : Value} {L : List Sp} (h : SetAt w b v L) : some b ≠ v.ownBlock := by
  intro e; have := (World.ownsRow.lt h.row b e.symm).1; omega
theorem SetAt.later {w w' : World} {b : Nat} {v : Value} {L : List Sp} (h : SetAt w b v L) (k : Below w.heap.size w w') : SetAt w' b v L :=
  ⟨(k.cell (p := ⟨b, 0, none⟩) h.room).trans h.cell, (k.frozen (p := ⟨b, 0, none⟩) h.room).trans h.free, h.row.later k⟩
/-- Held while the set is looked through: the box of s. -/
structure TR (w : World) (s : Sp) (wr : World) : Prop where
  at_ : SpAt wr w.heap.size s
  bel : Below w.heap.size w wr
theorem TR.new (w : World) (s : Sp) : TR w s (w.alloc (.cells #[.int .i64 s.f, .int .i64 s.t] 26)) := ⟨SpAt.new w s _, (Below.refl _ _).alloc (Nat.le_refl _) _⟩
theorem TR.keep {w w1 w2 : World} {s : Sp} (h : TR w s w1) (k : Below w1.heap.size w1 w2) : TR w s w2 := ⟨h.at_.below k, bel_next h.bel k⟩
theorem TR.drewN {w w1 : World} {s : Sp} (h : TR w s w1) (n : Nat) : TR w s (w1.drewN n) := h.keep (below_drewN (Below.refl _ _) n)
theorem TR.alloc {w w1 : World} {s : Sp} (h : TR w s w1) (o : Obj) : TR w s (w1.alloc o) := h.keep ((Below.refl _ _).alloc (Nat.le_refl _) o)
def TouchDone (L : List Sp) (s : Sp) (w : World) (e : Ending) (w' : World) : Prop :=
  ∃ i j : Nat, e = .returned (.tuple #[.int .i64 (i : Int), .int .i64 (j : Int)]) ∧ TouchOk L s i j ∧ Below w.heap.size w w'

theorem touched_nil (b : Nat) (v : Value) (s : Sp) (w : World) (hS : SetAt w b v []) : Calls Tryd.prog 51 #[.pointer (some ⟨b, 0, none⟩), s.v] w (TouchDone [] s w) := by
  obtain ⟨a, c, rfl⟩ := hS.row.slice
  have hb := hS.room
  have hT := TR.new w s
  have hS1 := hS.later ((Below.refl _ _).alloc (Nat.le_refl _) (.cells #[.int .i64 s.f, .int .i64 s.t] 26))
  have c0 := hS1.cell
  have HT := Lib.hid hT
  rw [show s.v = .agg #[.int .i64 s.f, .int .i64 s.t] from rfl]
  clear hS hS1 hT
  dsimp only [List.length_nil] at c0
  go_enter Tryd.func51, Tryd.ntmps51
  go_wp2
  go_step3
  go_wp2_with fail
  go_quiet (fail)
  go_wp2
  go_step3
  go_wp2
  go_loopw [6, 7] (fun x y wr => x = .int .i64 0 ∧ y = .int .i64 0 ∧ TR w s wr) (fun _ _ _ => 0)
  case atStart => exact ⟨rfl, rfl, HT.out.drewN _⟩
  case round =>
    obtain ⟨rfl, rfl, hR⟩ := hrel
    go_wp2
    try rw [Exit.noGoto_ret]
    go_ret2
    exact ⟨0, 0, rfl, ⟨Nat.le_refl _, Nat.le_refl _, fun k h => absurd h (Nat.not_lt_zero _), fun k h => absurd h (Nat.not_lt_zero _), fun k h => absurd h (Nat.not_lt_zero _)⟩, hR.bel⟩

set_option maxHeartbeats 8000000 in
theorem touched_some (b g off c : Nat) (L : List Sp) (s : Sp) (w : World) (hS : SetAt w b (.slice (some ⟨g, off, none⟩) L.length c) L) (hC : Canon L) (hgw : g < w.heap.size) (hcells : ∀ j (h : j < L.length), SpO w g (off + j * 2) L[j]) (hlen : L.length ≤ 1000000) :
    Calls Tryd.prog 51 #[.pointer (some ⟨b, 0, none⟩), s.v] w (TouchDone L s w) := by
  obtain ⟨n, hn⟩ : ∃ n, L.length = n := ⟨_, rfl⟩
  have HN := Lib.hid hn
  rw [hn] at hS hlen
  have hb := hS.room
  have hT := TR.new w s
  have c00 := hS.cell
  have hS1 := hS.later ((Below.refl _ _).alloc (Nat.le_refl _) (.cells #[.int .i64 s.f, .int .i64 s.t] 26))
  have c0 := hS1.cell
  have HT := Lib.hid hT
  have HC := Lib.hid hC
  have HCE := Lib.hid hcells
  rw [show s.v = .agg #[.int .i64 s.f, .int .i64 s.t] from rfl]
  clear hS hS1 hT hC hcells hn
  go_enter Tryd.func51, Tryd.ntmps51
  go_wp2
  go_step3
  go_wp2_with fail
  go_quiet (fail)
  go_wp2
  go_step3
  go_wp2
  go_loopw [6, 7] (fun x y wr => ∃ fi be : Nat, x = .int .i64 (fi : Int) ∧ y = .int .i64 (be : Int) ∧ fi ≤ be ∧ be ≤ n ∧ TR w s wr ∧ Hid (∀ k (h : k < L.length), k < fi → L[k].t < s.f) ∧ Hid (∀ k (h : k < L.length), be ≤ k → s.t < L[k].f)) (fun x y _ => (intOf y).toNat - (intOf x).toNat)
  case atStart => exact ⟨0, n, rfl, rfl, Nat.zero_le _, Nat.le_refl _, HT.out.drewN _, Lib.hid fun k _ h => absurd h (Nat.not_lt_zero _), Lib.hid fun k h h2 => by have := HN.out; omega⟩
  case round =>
    obtain ⟨fi, be, rfl, rfl, hfb, hbn, hR, hLO, hHI⟩ := hrel
    obtain ⟨w3, hw3⟩ : ∃ x, x = wr := ⟨_, rfl⟩
    subst hw3
    by_cases hlt : fi < be
    · have hlti : (fi : Int) < (be : Int) := by omega
      obtain ⟨md, hmd⟩ : ∃ md, (fi + be) / 2 = md := ⟨_, rfl⟩
      have hm1 : fi ≤ md := by omega
      have hm2 : md < be := by omega
      have hq : ((fi : Int) + (be : Int)).tdiv 2 = (md : Int) := by rw [Int.tdiv_eq_ediv_of_nonneg (by omega)]; omega
      have hwa : IntKind.i64.wrap ((fi : Int) + (be : Int)) = (fi : Int) + (be : Int) := by rw [IntKind.wrap_i64]; omega
      have hwm : IntKind.i64.wrap (md : Int) = (md : Int) := by rw [IntKind.wrap_i64]; omega
      have hmL : md < L.length := by rw [HN.out]; omega
      have hmn : (md : Int) < (n : Int) := by omega
      have hmn2 : md < n := by omega
      obtain ⟨p, hp⟩ : ∃ p, L[md] = p := ⟨_, rfl⟩
      have hB3 : Below w.heap.size w w3 := hR.bel
      have cv : w3.cell? ⟨b, 0, none⟩ = some (.slice (some ⟨g, off, none⟩) n c) := (hB3.cell (p := ⟨b, 0, none⟩) hb).trans c00
      have cp := (HCE.out md hmL).below hB3 hgw
      rw [hp] at cp
      obtain ⟨q0, q1⟩ := cp
      have hsz := hB3.size
      have hr2 := hR.at_.room
      have hne1 : ¬ w.heap.size = w3.heap.size := by omega
      have hne2 : ¬ w3.heap.size = w.heap.size := by omega
      have hR4 := hR.alloc (.cells #[.int .i64 p.f, .int .i64 p.t] 26)
      obtain ⟨y0, y1⟩ := hR4.at_
      have HP := Lib.hid hp
      have HR4 := Lib.hid hR4
      clear hmd hp hr2 hR4
      by_cases h1 : p.t < s.f
      · have HH := Lib.hid (show ∀ k (h : k < L.length), k < md + 1 → L[k].t < s.f from fun k h hk => by
          have := HC.out.t_le hmL (show k ≤ md by omega)
          rw [HP.out] at this; omega)
        have hw1 : IntKind.i64.wrap ((md : Int) + 1) = (md : Int) + 1 := by rw [IntKind.wrap_i64]; omega
        go_wp2
        go_roundw
        case rel => exact ⟨md + 1, be, by go_num, rfl, by omega, hbn, HR4.out, HH, hHI⟩
        case measure => simp [intOf]; omega
      · by_cases h2 : s.t < p.f
        · have HH := Lib.hid (show ∀ k (h : k < L.length), md ≤ k → s.t < L[k].f from fun k h hk => by
            have := HC.out.f_le h hk
            rw [HP.out] at this; omega)
          go_wp2
          go_roundw
          case rel => exact ⟨fi, md, rfl, rfl, hm1, by omega, HR4.out, hLO, HH⟩
          case measure => simp [intOf]; omega
        · have HH1 := Lib.hid (show s.f ≤ L[md].t by rw [HP.out]; omega)
          have HH2 := Lib.hid (show L[md].f ≤ s.t by rw [HP.out]; omega)
          go_wp2
          go_loopw [8] (fun x wr => ∃ at_ : Nat, x = .int .i64 (at_ : Int) ∧ fi ≤ at_ ∧ at_ ≤ md ∧ TR w s wr ∧ Hid (∀ h : at_ < L.length, s.f ≤ L[at_].t)) (fun x _ => (intOf x).toNat)
          case atStart => exact ⟨md, rfl, hm1, Nat.le_refl _, HR4.out, Lib.hid fun _ => HH1.out⟩
          case round =>
            clear y0 y1 cv q0 q1 hne1 hne2
            obtain ⟨at1, rfl, ha1, ha2, hRa, hta⟩ := hrel
            obtain ⟨w5, hw5⟩ : ∃ x, x = wr := ⟨_, rfl⟩
            subst hw5
            have hB5 : Below w.heap.size w w5 := hRa.bel
            have cv : w5.cell? ⟨b, 0, none⟩ = some (.slice (some ⟨g, off, none⟩) n c) := (hB5.cell (p := ⟨b, 0, none⟩) hb).trans c00
            obtain ⟨y0, y1⟩ := hRa.at_
            have HRA := Lib.hid hRa
            clear hRa
            by_cases hg1 : fi < at1
            · have hg1i : (fi : Int) < (at1 : Int) := by omega
              obtain ⟨a1, ha1e⟩ : ∃ a1 : Nat, a1 + 1 = at1 := ⟨at1 - 1, by omega⟩
              have ha1i : (at1 : Int) - 1 = (a1 : Int) := by omega
              have hwa1 : IntKind.i64.wrap (a1 : Int) = (a1 : Int) := by rw [IntKind.wrap_i64]; omega
              have h1L : a1 < L.length := by rw [HN.out]; omega
              have h1n : (a1 : Int) < (n : Int) := by omega
              have h1nn : a1 < n := by omega
              obtain ⟨u, hu⟩ : ∃ u, L[a1] = u := ⟨_, rfl⟩
              have cu := (HCE.out a1 h1L).below hB5 hgw
              rw [hu] at cu
              obtain ⟨u0, u1⟩ := cu
              have HU := Lib.hid hu
              have HA1 := Lib.hid ha1e
              clear hu ha1e
              by_cases hle : s.f ≤ u.t
              · have HH := Lib.hid (show ∀ h : a1 < L.length, s.f ≤ L[a1].t from fun _ => by rw [HU.out]; exact hle)
                go_wp2_with fail
                go_quiet (fail)
                go_wp2
                go_roundw
                case rel => exact ⟨a1, rfl, by have := HA1.out; omega, by have := HA1.out; omega, HRA.out.drewN _, HH⟩
                case measure => have := HA1.out; simp [intOf]; omega
              · have HLOW := Lib.hid (show ∀ k (h : k < L.length), k < at1 → L[k].t < s.f from fun k h hk => by
                  have := HC.out.t_le h1L (show k ≤ a1 by have := HA1.out; omega)
                  rw [HU.out] at this; omega)
                clear hg1
                have HLO1 := Lib.hid (show ∀ k (h : k < L.length), k < at1 → L[k].t < s.f from HLOW.out)
                have HTA := Lib.hid (show ∀ k (h : k < L.length), at1 ≤ k → s.f ≤ L[k].t from fun k h hk => Int.le_trans (hta.out (by omega)) (HC.out.t_le h hk))
                clear hta
                go_wp2_with fail
                go_quiet (fail)
                go_wp2
                clear cv y0 y1
                go_loopw [8] (fun x wr => ∃ at2 : Nat, x = .int .i64 (at2 : Int) ∧ at1 ≤ at2 ∧ at2 ≤ be ∧ TR w s wr ∧ Hid (∀ k (h : k < L.length), at1 ≤ k → k < at2 → L[k].f ≤ s.t)) (fun x _ => be - (intOf x).toNat)
                case atStart => exact ⟨at1, rfl, Nat.le_refl _, by omega, HRA.out.drewN _, Lib.hid fun k _ h1 h2 => by omega⟩
                case round =>
                  obtain ⟨at2, rfl, hb1, hb2, hRb, htb⟩ := hrel
                  obtain ⟨w7, hw7⟩ : ∃ x, x = wr := ⟨_, rfl⟩
                  subst hw7
                  have hB7 : Below w.heap.size w w7 := hRb.bel
                  have cv : w7.cell? ⟨b, 0, none⟩ = some (.slice (some ⟨g, off, none⟩) n c) := (hB7.cell (p := ⟨b, 0, none⟩) hb).trans c00
                  obtain ⟨y0, y1⟩ := hRb.at_
                  have HRB := Lib.hid hRb
                  clear hRb
                  by_cases hg2 : at2 < be
                  · have hg2i : (at2 : Int) < (be : Int) := by omega
                    have h2L : at2 < L.length := by rw [HN.out]; omega
                    have h2n : (at2 : Int) < (n : Int) := by omega
                    have h2nn : at2 < n := by omega
                    obtain ⟨z, hz⟩ : ∃ z, L[at2] = z := ⟨_, rfl⟩
                    have cz := (HCE.out at2 h2L).below hB7 hgw
                    rw [hz] at cz
                    obtain ⟨z0, z1⟩ := cz
                    have HZ := Lib.hid hz
                    clear hz
                    by_cases hle : z.f ≤ s.t
                    · have HH := Lib.hid (show ∀ k (h : k < L.length), at1 ≤ k → k < at2 + 1 → L[k].f ≤ s.t from fun k h k1 k2 => by
                        by_cases e : k = at2
                        · subst e; rw [HZ.out]; exact hle
                        · exact htb.out k h k1 (by omega))
                      have hwp : IntKind.i64.wrap ((at2 : Int) + 1) = (at2 : Int) + 1 := by rw [IntKind.wrap_i64]; omega
                      go_wp2_with fail
                      go_quiet (fail)
                      go_wp2
                      go_roundw
                      case rel => exact ⟨at2 + 1, by go_num, by omega, by omega, HRB.out.drewN _, HH⟩
                      case measure => simp [intOf]; omega
                    · have HFIN := Lib.hid (show TouchOk L s at1 at2 from ⟨hb1, by omega, HLO1.out, fun k h k1 k2 => ⟨HTA.out k h k1, htb.out k h k1 k2⟩, fun k h k1 => by
                        have := HC.out.f_le h k1
                        rw [HZ.out] at this; omega⟩)
                      go_wp2_with fail
                      go_quiet (fail)
                      go_wp2
                      try rw [Exit.noGoto_ret]
                      go_ret2
                      exact ⟨at1, at2, rfl, HFIN.out, (HRB.out.drewN _).bel⟩
                  · have hg2i : ¬ (at2 : Int) < (be : Int) := by omega
                    obtain rfl : at2 = be := by omega
                    have HFIN := Lib.hid (show TouchOk L s at1 at2 from ⟨hb1, by rw [HN.out]; exact hbn, HLO1.out, fun k h k1 k2 => ⟨HTA.out k h k1, htb.out k h k1 k2⟩, hHI.out⟩)
                    go_wp2_with fail
                    go_quiet (fail)
                    go_wp2
                    try rw [Exit.noGoto_ret]
                    go_ret2
                    exact ⟨at1, at2, rfl, HFIN.out, (HRB.out.drewN _).bel⟩
            · have hg1i : ¬ (fi : Int) < (at1 : Int) := by omega
              have HLOW := Lib.hid (show ∀ k (h : k < L.length), k < at1 → L[k].t < s.f from fun k h hk => hLO.out k h (by omega))
              have HLO1 := Lib.hid (show ∀ k (h : k < L.length), k < at1 → L[k].t < s.f from HLOW.out)
              have HTA := Lib.hid (show ∀ k (h : k < L.length), at1 ≤ k → s.f ≤ L[k].t from fun k h hk => Int.le_trans (hta.out (by omega)) (HC.out.t_le h hk))
              clear hta
              go_wp2_with fail
              go_quiet (fail)
              go_wp2
              clear cv y0 y1
              go_loopw [8] (fun x wr => ∃ at2 : Nat, x = .int .i64 (at2 : Int) ∧ at1 ≤ at2 ∧ at2 ≤ be ∧ TR w s wr ∧ Hid (∀ k (h : k < L.length), at1 ≤ k → k < at2 → L[k].f ≤ s.t)) (fun x _ => be - (intOf x).toNat)
              case atStart => exact ⟨at1, rfl, Nat.le_refl _, by omega, HRA.out.drewN _, Lib.hid fun k _ h1 h2 => by omega⟩
              case round =>
                obtain ⟨at2, rfl, hb1, hb2, hRb, htb⟩ := hrel
                obtain ⟨w7, hw7⟩ : ∃ x, x = wr := ⟨_, rfl⟩
                subst hw7
                have hB7 : Below w.heap.size w w7 := hRb.bel
                have cv : w7.cell? ⟨b, 0, none⟩ = some (.slice (some ⟨g, off, none⟩) n c) := (hB7.cell (p := ⟨b, 0, none⟩) hb).trans c00
                obtain ⟨y0, y1⟩ := hRb.at_
                have HRB := Lib.hid hRb
                clear hRb
                by_cases hg2 : at2 < be
                · have hg2i : (at2 : Int) < (be : Int) := by omega
                  have h2L : at2 < L.length := by rw [HN.out]; omega
                  have h2n : (at2 : Int) < (n : Int) := by omega
                  have h2nn : at2 < n := by omega
                  obtain ⟨z, hz⟩ : ∃ z, L[at2] = z := ⟨_, rfl⟩
                  have cz := (HCE.out at2 h2L).below hB7 hgw
                  rw [hz] at cz
                  obtain ⟨z0, z1⟩ := cz
                  have HZ := Lib.hid hz
                  clear hz
                  by_cases hle : z.f ≤ s.t
                  · have HH := Lib.hid (show ∀ k (h : k < L.length), at1 ≤ k → k < at2 + 1 → L[k].f ≤ s.t from fun k h k1 k2 => by
                      by_cases e : k = at2
                      · subst e; rw [HZ.out]; exact hle
                      · exact htb.out k h k1 (by omega))
                    have hwp : IntKind.i64.wrap ((at2 : Int) + 1) = (at2 : Int) + 1 := by rw [IntKind.wrap_i64]; omega
                    go_wp2_with fail
                    go_quiet (fail)
                    go_wp2
                    go_roundw
                    case rel => exact ⟨at2 + 1, by go_num, by omega, by omega, HRB.out.drewN _, HH⟩
                    case measure => simp [intOf]; omega
                  · have HFIN := Lib.hid (show TouchOk L s at1 at2 from ⟨hb1, by omega, HLO1.out, fun k h k1 k2 => ⟨HTA.out k h k1, htb.out k h k1 k2⟩, fun k h k1 => by
                      have := HC.out.f_le h k1
                      rw [HZ.out] at this; omega⟩)
                    go_wp2_with fail
                    go_quiet (fail)
                    go_wp2
                    try rw [Exit.noGoto_ret]
                    go_ret2
                    exact ⟨at1, at2, rfl, HFIN.out, (HRB.out.drewN _).bel⟩
                · have hg2i : ¬ (at2 : Int) < (be : Int) := by omega
                  obtain rfl : at2 = be := by omega
                  have HFIN := Lib.hid (show TouchOk L s at1 at2 from ⟨hb1, by rw [HN.out]; exact hbn, HLO1.out, fun k h k1 k2 => ⟨HTA.out k h k1, htb.out k h k1 k2⟩, hHI.out⟩)
                  go_wp2_with fail
                  go_quiet (fail)
                  go_wp2
                  try rw [Exit.noGoto_ret]
                  go_ret2
                  exact ⟨at1, at2, rfl, HFIN.out, (HRB.out.drewN _).bel⟩
    · have hlti : ¬ (fi : Int) < (be : Int) := by omega
      go_wp2
      try rw [Exit.noGoto_ret]
      go_ret2
      exact ⟨fi, be, rfl, ⟨hfb, by rw [HN.out]; exact hbn, hLO.out, fun k h h1 h2 => by omega, hHI.out⟩, hR.bel⟩

theorem touched_is (b : Nat) (v : Value) (L : List Sp) (s : Sp) (w : World) (hS : SetAt w b v L) (hC : Canon L) (hlen : L.length ≤ 1000000) :
    Calls Tryd.prog 51 #[.pointer (some ⟨b, 0, none⟩), s.v] w (TouchDone L s w) := by
  obtain ⟨a, c, rfl⟩ := hS.row.slice
  rcases (hS.row.sps).at_ with rfl | ⟨g, off, rfl, hgw, hcells⟩
  · exact touched_nil b _ s w hS
  · exact touched_some b g off c L s w hS hC hgw hcells hlen
end Go.Proofs.YtdkenokjdiamhaaDoor
