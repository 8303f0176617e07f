/- Add. -/
import Derived.Test.YtolmhlfegllfoaaHiFresh
import Derived.StillTailTactics
set_option maxRecDepth 20000
set_option linter.unusedSimpArgs false
set_option linter.unusedVariables false
namespace Go.Proofs.Ytolmhlfegllfoaa.Qu.Hi
open Go.RowKit Go.Maps Go.Proofs.Ytolmhlfegllfoaa.Vi Go.Proofs.Ytolmhlfegllfoaa.Mk

/-- A drawing region all of whose operations but the last ones leave the world. -/
theorem still_tail {P : Program} {id : Nat} {Q : Exit → Act → World → Prop} {a : Act} {w : World} {l : List Oper} (n : Nat) (hm : P.follows .mixedOrders = true) (hB : Region.lexTailB .any l.toArray n = true)
    (h : wpStill P l.toArray w.drew (fun a' => wpList P l.toArray Q (l.drop n) a' w.drew) (l.take n) a) : (Code.region id l.toArray true).wp P Q a w := wp_region_still_tail n hm hB h
/-- One more entry. -/
theorem HiAt.put {w : World} {B b m : Nat} {room : Int} {L : List Hk} (h : HiAt w B b (some m) room L) {x : Hk} (hx : x.fine) (hn : x ∉ L) (hr : (L.length : Int) + 1 ≤ room) :
    ∃ w', (Instr.mapUpdate TMM (.map (some m)) (hkV x) (.agg #[])).run Try.prog w = .ok () w' ∧ HiAt w' B b (some m) room (L ++ [x]) ∧ w.grownBy w' (some m) := by
  obtain ⟨hB, ⟨D, hD, hI⟩, hG⟩ := h.some_ m rfl
  have hlen := h.len
  have hrm := h.rm
  obtain ⟨w', hrun, hD', ht⟩ := hD.store klaw undM (by unfold maxLen; omega) (key_is hx.big) (val := .agg #[]) (d := .agg []) (ps := []) unitElem_mk
  have hI' := hI.put (hD.tidy klaw) hx.big hn
  have hG' : Good (L ++ [x]) := ⟨hI'.nodup, fun y hy => by
    rcases List.mem_append.1 hy with hy | hy
    · exact hG.fine y hy
    · rw [List.mem_singleton] at hy; subst hy; exact hx⟩
  have hl : (L ++ [x]).length = L.length + 1 := by simp
  have hbm : b ≠ m := by
    obtain ⟨es, cl, e⟩ := (h.some_ m rfl).2.heap
    rintro rfl
    rw [h.obj] at e
    injection e with e
    cases e
  have hsome : ∀ m', some m = some m' → B ≤ m' ∧ MapAt w' m' (L ++ [x]) := fun m' e => by
    have e := Option.some.inj e
    subst e
    exact ⟨hB, ⟨⟨_, by rw [hl]; exact hD', hI'⟩, hG'⟩⟩
  exact ⟨w', hrun, ⟨(ht.grown.block b h.lt (fun e => hbm (Option.some.inj e))).trans h.obj, h.lo, (fun e => by cases e), hsome, hrm, by rw [hl]; omega, hG'⟩, ht.grown⟩
theorem grow_of {w w' : World} (h : Below w.heap.size w w') (mv : Option Nat) : w.grownBy w' mv := ⟨h.os, h.tape, h.output, h.size, fun i hi _ => h.block i hi⟩
theorem grow_next {w w1 w2 : World} {mv : Option Nat} (h : w.grownBy w1 mv) (k : Below w1.heap.size w1 w2) : w.grownBy w2 mv := h.trans (grow_of k mv)
structure AdJ (w wr : World) (B b C : Nat) (mv : Option Nat) (room : Int) (L F : List Hk) (k : Nat) (v : Value) : Prop where
  at_ : HiAt wr B b mv room (L ++ F.take k)
  grow : w.grownBy wr mv
  row : HRow 66 wr C v F
def AddDone (w : World) (B b : Nat) (mv : Option Nat) (room : Int) (L : List Hk) (p : Pt) (l : List Int) (e : Ending) (w' : World) : Prop := e = .returned (.bool (addOk L room p l)) ∧ HiAt w' B b mv room (addL L room p l) ∧ w.grownBy w' mv
theorem AdJ.map_ne {T : TypeId} {wr : World} {B b m : Nat} {room : Int} {L : List Hk} (h : HiAt wr B b (some m) room L) {g : Nat} {cur : Array Value} (k : wr.heap[g]? = some (.cells cur T (0, 0))) : g ≠ m := by
  obtain ⟨es, cl, e⟩ := (h.some_ m rfl).2.heap
  rintro rfl
  rw [e] at k
  injection k with k
  cases k
set_option maxHeartbeats 8000000 in
theorem add_is {w : World} {B b : Nat} {mv : Option Nat} {room : Int} {L : List Hk} (h : HiAt w B b mv room L) (p : Pt) (hf : p.fits) (hs : p.s.size ≤ 1000) (v : Value) (l : List Int) (hN : Ns w v l) : Calls Try.prog 16 #[.pointer (some ⟨b, 0, none⟩), ptV p, v] w (AddDone w B b mv room L p l) := by
  obtain ⟨a0, c0, rfl⟩ := hN.slice
  have hal := (Below.refl w.heap.size w).alloc (Nat.le_refl _) (.cells #[.string p.s, .int .i64 p.t, .int .i64 p.v, .int .i64 p.st.c, .int .i64 p.st.s, .int .i64 p.st.q] 31)
  have HAL := Lib.hid hal
  have HPT := PtAt.new w p
  have HH := Lib.hid h
  have HN := Lib.hid (Ns.later hN hal)
  have ke := checkp_is p (w.alloc (.cells #[.string p.s, .int .i64 p.t, .int .i64 p.v, .int .i64 p.st.c, .int .i64 p.st.s, .int .i64 p.st.q] 31)) (by omega)
  by_cases he : p.err = 0
  · rw [he] at ke
    obtain ⟨n, hn⟩ : ∃ n, (freshL L p l).length = n := ⟨_, rfl⟩
    have hn16 : n ≤ 16 := by rw [← hn]; exact fresh_len _ _ _
    have hlen := h.len
    have hrm := h.rm
    have kc := fun W => clone_is p.s W (by omega)
    have kf := fun (W : World) (h : HiAt W B b mv room L) (hN : Ns W (.slice a0 l.length c0) l) => fresh_is h p (fun k hk => Hk.fine.big ⟨he, hf, by show 0 ≤ (k : Int) ∧ (k : Int) < 16; omega⟩) _ l hN
    have kr := fun (W : World) (h : HiAt W B b mv room L) => room_is h
    have HOK := Lib.hid (show addOk L room p l = decide ((L.length : Int) + (n : Int) ≤ room) by unfold addOk; rw [he, hn]; simp)
    have HG := Lib.hid (h.good.add he hf l)
    obtain ⟨x0, x1, x2, x3, x4, x5⟩ := HPT
    have HE := Lib.hid he
    have HNL := Lib.hid hn
    clear h hN hal he hn
    have hwr : IntKind.i64.wrap (room - (L.length : Int)) = room - (L.length : Int) := by rw [IntKind.wrap_i64]; omega
    obtain ⟨q, hq⟩ : ∃ q, room - (L.length : Int) = q := ⟨_, rfl⟩
    rw [hq] at kr
    unfold ptV at *
    by_cases hgt : q < (n : Int)
    · have HO2 := Lib.hid (show addOk L room p l = false by rw [HOK.out]; exact decide_eq_false (by omega))
      clear hq hwr hlen hrm
      go_enter Try.func16, Try.ntmps16
      go_wp2_with (first
        | (go_at_call 31; (with_reducible refine ke.mono ?_); rintro e w2 ⟨rfl, hb2⟩; (have HB2 := Lib.hid (bel_next HAL.out hb2)); (have HP2 := (PtAt.new w p).below hb2 (PtAt.new w p).room); (have HN2 := Lib.hid (Ns.later HN.out hb2)); (have HK2 := Lib.hid ((hb2.block w.heap.size (by simp)).trans (heap_alloc_new w _))); (obtain ⟨y0, y1, y2, y3, y4, y5⟩ := HP2); clear hb2)
        | (go_at_call 32; (with_reducible refine (kc _).mono ?_); rintro e w3 ⟨rfl, hb3⟩; (have HB3 := Lib.hid (bel_next HB2.out hb3)); (have HN3 := Lib.hid (Ns.later HN2.out hb3)); (have HP3 : PtAt w3 w.heap.size p := PtAt.below ⟨y0, y1, y2, y3, y4, y5⟩ hb3 (World.block_lt_of_cell? w2 _ y0)); (have hno := setCell_noop HP3.c0); (have hfz : w3.frozen? ⟨w.heap.size, 0, none⟩ = false := by (have e := (hb3.block w.heap.size (World.block_lt_of_cell? w2 _ y0)).trans HK2.out; unfold World.frozen?; simp [e])); (obtain ⟨z0, z1, z2, z3, z4, z5⟩ := HP3); (have HH3 := Lib.hid (HH.out.later HB3.out)); clear hb3)
        | (go_at_call 33; (with_reducible refine (kf _ HH3.out HN3.out).mono ?_); rintro e w5 ⟨v5, rfl, hR5, hb5⟩; (have HB5 := Lib.hid (bel_next HB3.out hb5)); (have HH5 := Lib.hid (HH3.out.later hb5)); (obtain ⟨a5, c5, rfl⟩ := hR5.slice); (have HR5 := Lib.hid (hR5.base (show w.heap.size ≤ w3.heap.size from HB3.out.size))); (rw [HNL.out] at HR5); (rw [HNL.out]); clear hb5 hR5)
        | (go_at_call 26; (with_reducible refine (kr _ HH5.out).mono ?_); rintro e w6 ⟨rfl, hb6⟩; (have HB6 := Lib.hid (bel_next HB5.out hb6)); (have HH6 := Lib.hid (HH5.out.later hb6)); (have HR6 := Lib.hid (HR5.out.later hb6)); clear hb6))
      go_ret
      exact ⟨by rw [HO2.out]; rfl, by unfold addL; rw [HO2.out]; exact HH6.out, grow_of HB6.out mv⟩
    · have HO2 := Lib.hid (show addOk L room p l = true by rw [HOK.out]; exact decide_eq_true (by omega))
      have HQ := Lib.hid (show (L.length : Int) + (n : Int) ≤ room by omega)
      clear hq hwr hlen hrm
      go_enter Try.func16, Try.ntmps16
      go_wp2_with (first
        | (go_at_call 31; (with_reducible refine ke.mono ?_); rintro e w2 ⟨rfl, hb2⟩; (have HB2 := Lib.hid (bel_next HAL.out hb2)); (have HP2 := (PtAt.new w p).below hb2 (PtAt.new w p).room); (have HN2 := Lib.hid (Ns.later HN.out hb2)); (have HK2 := Lib.hid ((hb2.block w.heap.size (by simp)).trans (heap_alloc_new w _))); (obtain ⟨y0, y1, y2, y3, y4, y5⟩ := HP2); clear hb2)
        | (go_at_call 32; (with_reducible refine (kc _).mono ?_); rintro e w3 ⟨rfl, hb3⟩; (have HB3 := Lib.hid (bel_next HB2.out hb3)); (have HN3 := Lib.hid (Ns.later HN2.out hb3)); (have HP3 : PtAt w3 w.heap.size p := PtAt.below ⟨y0, y1, y2, y3, y4, y5⟩ hb3 (World.block_lt_of_cell? w2 _ y0)); (have hno := setCell_noop HP3.c0); (have hfz : w3.frozen? ⟨w.heap.size, 0, none⟩ = false := by (have e := (hb3.block w.heap.size (World.block_lt_of_cell? w2 _ y0)).trans HK2.out; unfold World.frozen?; simp [e])); (obtain ⟨z0, z1, z2, z3, z4, z5⟩ := HP3); (have HH3 := Lib.hid (HH.out.later HB3.out)); clear hb3)
        | (go_at_call 33; (with_reducible refine (kf _ HH3.out HN3.out).mono ?_); rintro e w5 ⟨v5, rfl, hR5, hb5⟩; (have HB5 := Lib.hid (bel_next HB3.out hb5)); (have HH5 := Lib.hid (HH3.out.later hb5)); (obtain ⟨a5, c5, rfl⟩ := hR5.slice); (have HR5 := Lib.hid (hR5.base (show w.heap.size ≤ w3.heap.size from HB3.out.size))); (rw [HNL.out] at HR5); (rw [HNL.out]); clear hb5 hR5)
        | (go_at_call 26; (with_reducible refine (kr _ HH5.out).mono ?_); rintro e w6 ⟨rfl, hb6⟩; (have HB6 := Lib.hid (bel_next HB5.out hb6)); (have HH6 := Lib.hid (HH5.out.later hb6)); (have HR6 := Lib.hid (HR5.out.later hb6)); clear hb6))
      go_loopw [32] (fun i wr => ∃ k : Nat, k ≤ n ∧ i = .int .i64 (k : Int) ∧ Hid (AdJ w wr B b w.heap.size mv room L (freshL L p l) k (.slice a5 n c5))) (fun i _ => n - (intOf i).toNat)
      case atStart => exact ⟨0, by omega, rfl, Lib.hid ⟨by rw [List.take_zero, List.append_nil]; exact HH6.out, grow_of HB6.out mv, HR6.out⟩⟩
      case round =>
        obtain ⟨k, hk, rfl, HJ⟩ := hrel
        obtain ⟨w8, hw8⟩ : ∃ x, x = wr := ⟨_, rfl⟩
        subst hw8
        by_cases hlt : k < n
        · have hlt2 : (k : Int) < (n : Int) := by omega
          have hkF : k < (freshL L p l).length := by rw [HNL.out]; exact hlt
          have hne : mv ≠ none := fun e => by
            have := (HJ.out.at_.none_ e).2
            have := HQ.out
            omega
          obtain ⟨m, rfl⟩ : ∃ m, mv = some m := by cases mv with | none => exact absurd rfl hne | some m => exact ⟨m, rfl⟩
          obtain ⟨g, rfl, -, -, hgl, ⟨cur, hcur⟩, hc⟩ := HJ.out.row.cell (by rw [HNL.out]; omega)
          have hx := hc k hkF
          obtain ⟨x, hxe⟩ : ∃ x, (freshL L p l)[k] = x := ⟨_, rfl⟩
          rw [hxe] at hx
          have hfx : x.fine := HG.out.fine x (List.mem_append_right _ (by rw [← hxe]; exact List.getElem_mem hkF))
          have hxn : x ∉ L ++ (freshL L p l).take k := fun hm => by
            rcases List.mem_append.1 hm with hm | hm
            · exact (fresh_mem.1 (show x ∈ freshL L p l by rw [← hxe]; exact List.getElem_mem hkF)).2.2.2 hm
            · obtain ⟨j, hj, e⟩ := List.getElem_of_mem hm
              rw [List.getElem_take] at e
              rw [List.length_take] at hj
              have := (List.getElem_inj (fresh_nodup L p l)).1 (e.trans hxe.symm)
              omega
          have hl8 : (L ++ (freshL L p l).take k).length = L.length + k := by rw [List.length_append, List.length_take, HNL.out]; omega
          have h8 := (HJ.out.at_.alloc (box7 x)).drew
          obtain ⟨w9, hrun, h9, hg9⟩ := h8.put hfx hxn (by rw [hl8]; have := HQ.out; omega)
          have HT := Lib.hid (show (L ++ (freshL L p l).take k) ++ [x] = L ++ (freshL L p l).take (k + 1) by rw [List.append_assoc, List.take_succ_eq_append_getElem hkF, hxe])
          have H9 := Lib.hid h9
          have hal9 : Below w8.heap.size w8 (w8.alloc (box7 x)).drew := ((Below.refl _ _).alloc (Nat.le_refl _) _).drew
          have HG9 := Lib.hid (show w.grownBy w9 (some m) from (grow_next HJ.out.grow hal9).trans hg9)
          have HR9 := Lib.hid (show HRow 66 w9 w.heap.size (.slice (some ⟨g, 0, none⟩) n c5) (freshL L p l) from (HJ.out.row.later hal9).other fun g' cur' e => hg9.block g' (Array.getElem?_eq_some_iff.1 e).1 fun e2 => AdJ.map_ne h8 e (Option.some.inj e2))
          have c1 := (HJ.out.at_.alloc (box7 x)).c1
          obtain ⟨y0, y1, y2, y3, y4, y5, y6⟩ := hx
          have hbl := HJ.out.at_.lt
          unfold hkV at hrun
          clear hc hcur hxe hfx hxn hl8 h8 h9 hal9 hg9 hne hkF hgl
          go_wp2_with fail
          refine still_tail 6 (by kernel_rfl) (by kernel_rfl) ?_
          simp only [List.take_succ_cons, List.take_zero, List.drop_succ_cons, List.drop_zero]
          repeat still_step
          refine wpStill_nil ?_
          go_wp2
          go_roundw
          case rel => exact ⟨k + 1, by omega, by go_num, Lib.hid ⟨by rw [← HT.out]; exact H9.out, HG9.out, HR9.out⟩⟩
          case measure => simp [intOf]; omega
        · obtain rfl : k = n := by omega
          have hlt2 : ¬ (k : Int) < (k : Int) := by omega
          have hT : (freshL L p l).take k = freshL L p l := List.take_of_length_le (by rw [HNL.out]; exact Nat.le_refl _)
          have HT := Lib.hid hT
          clear hlt hT
          go_wp2
          go_ret
          exact ⟨by rw [HO2.out]; rfl, by unfold addL; rw [HO2.out, if_pos rfl, ← HT.out]; exact HJ.out.at_, HJ.out.grow⟩
  · have he1 : p.err = 1 := by unfold Pt.err at *; split at he <;> simp_all
    rw [he1] at ke
    have HO := Lib.hid (show addOk L room p l = false by unfold addOk; rw [decide_eq_false he]; rfl)
    obtain ⟨x0, x1, x2, x3, x4, x5⟩ := HPT
    clear h hN he he1
    unfold ptV at *
    go_enter Try.func16, Try.ntmps16
    go_wp2_with (go_at_call 31; (with_reducible refine ke.mono ?_); rintro e w2 ⟨rfl, hb2⟩; (have HB2 := Lib.hid (bel_next HAL.out hb2)); clear hb2)
    go_ret
    exact ⟨by rw [HO.out]; rfl, by unfold addL; rw [HO.out]; exact HH.out.later HB2.out, grow_of HB2.out mv⟩
end Go.Proofs.Ytolmhlfegllfoaa.Qu.Hi
