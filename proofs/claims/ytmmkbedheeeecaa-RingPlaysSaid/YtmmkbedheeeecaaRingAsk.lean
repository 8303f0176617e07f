/- At, Holds and Moved. -/
import Derived.Test.YtmmkbedheeeecaaRingMoreMath
import Derived.BigQuiet
import Derived.Shelf.SlicesE.DeleteFunc
set_option maxRecDepth 20000
set_option linter.unusedSimpArgs false
namespace Go.Proofs.Ytmmkbedheeeecaa
open Go.RowKit

theorem at_yes (b : Nat) (v1 v2 : Value) (ep : Int) (N : List Int) (P : List Pt) (i : Nat) (w : World) (h : RingAt w b v1 v2 ep N P) (hi : i < P.length) :
    Calls Try.prog 15 #[.pointer (some ⟨b, 0, none⟩), .int .i64 (i : Int)] w fun e w' => e = .returned (.tuple #[.int .u64 P[i].a, .int .i64 P[i].n]) ∧ Below w.heap.size w w' := by
  have c := h.c2
  obtain ⟨a, cap, rfl⟩ := h.r2.slice
  obtain ⟨b2, off, rfl, -, hb2, hc⟩ := h.r2.pn.cell (by omega)
  obtain ⟨y0, y1⟩ := hc i hi
  obtain ⟨p, hp⟩ : ∃ p, P[i] = p := ⟨_, rfl⟩
  rw [hp] at y0 y1 ⊢
  clear h hc hp
  generalize P.length = n at *
  have hi2 : ¬ (n : Int) ≤ (i : Int) := by omega
  have hi3 : (i : Int) < (n : Int) := by omega
  go_enter Try.func15, Try.ntmps15
  go_wp2_with fail
  go_quiet (fail)
  go_wp2
  go_ret2
  exact ⟨rfl, below_drewN (Below.refl _ _) _⟩
theorem at_no (b : Nat) (v1 v2 : Value) (ep : Int) (N : List Int) (P : List Pt) (i : Int) (w : World) (h : RingAt w b v1 v2 ep N P) (hi : i < 0 ∨ (P.length : Int) ≤ i) :
    Calls Try.prog 15 #[.pointer (some ⟨b, 0, none⟩), .int .i64 i] w fun e w' => e = .returned (.tuple #[.int .u64 0, .int .i64 (-1)]) ∧ Below w.heap.size w w' := by
  have c := h.c2
  obtain ⟨a, cap, rfl⟩ := h.r2.slice
  clear h
  generalize P.length = n at *
  by_cases h0 : i < 0
  · clear hi
    go_enter Try.func15, Try.ntmps15
    go_wp2
    go_ret2
    exact ⟨rfl, Below.refl _ _⟩
  · have h1 : (n : Int) ≤ i := by omega
    clear hi
    go_enter Try.func15, Try.ntmps15
    go_wp2
    go_ret2
    exact ⟨rfl, Below.refl _ _⟩
theorem holds_is (b : Nat) (v1 v2 : Value) (ep : Int) (N : List Int) (P : List Pt) (key : ByteArray) (most node : Int) (w : World) (h : RingAt w b v1 v2 ep N P) (hs : Rises P) (hk : key.size ≤ maxLen) :
    Calls Try.prog 24 #[.pointer (some ⟨b, 0, none⟩), .string key, .int .i64 most, .int .i64 node] w fun e w' => e = .returned (.bool (inL (preferL P (hashI key) most) node)) ∧ Below w.heap.size w w' := by
  have k1 := prefer_is b v1 v2 ep N P key most w h hs hk
  obtain ⟨o1, o2⟩ := preferL_ok h.pok (hashI key) most
  have k2 := fun v w h => contains_is v (preferL P (hashI key) most) node w h
  generalize preferL P (hashI key) most = L at *
  generalize inL L node = z at *
  clear h hs hk
  have O2 := Lib.hid o2
  have O1 := Lib.hid o1
  clear o2 o1
  go_enter Try.func24, Try.ntmps24
  go_wp2_with (first
    | (go_at_call 21; (with_reducible refine k1.mono ?_); rintro e w1 ⟨v, rfl, hr, hB⟩; (have k3 := k2 v w1 (hr.ns (fun n hn => by have := O2.out n hn; omega) (by have := O1.out; omega))); (have HB := Lib.hid hB); clear hr hB k1 k2)
    | (go_at_call 26; (with_reducible refine k3.mono ?_); rintro e w2 ⟨rfl, rfl⟩))
  go_ret
  exact ⟨rfl, HB.out⟩
theorem oneI : OneCell icell := fun _ => rfl
instance : Inhabited Int := ⟨0⟩
theorem holds_irow {w : World} {B g n cap : Nat} {l : List Int} (h : IRow w B (.slice (some ⟨g, 0, none⟩) n cap) l) : Go.Sort.Holds icell w g 0 l.toArray := by
  intro j hj
  have hj' : j < l.length := by simpa using hj
  obtain ⟨a, c, e⟩ := h.slice
  injection e with e1 e2 e3
  subst e2 e3
  refine ⟨?_, ?_⟩
  · have := World.ownsRow.cellAt (show w.ownsRow B 3 1 _ l.length (l.map icell) from h) j (by omega)
    rw [Nat.zero_add, this, List.getElem?_map, List.getElem?_eq_getElem hj', getElem!_pos _ j hj]; rfl
  · have := World.ownsRow.frozenAt (show w.ownsRow B 3 1 _ l.length (l.map icell) from h) j
    rw [Nat.zero_add]; exact this
/-- A row that was turned, of which a beginning is kept. -/
theorem irow_kept {w : World} {B g n cap q : Nat} {l d z : List Int} (h : IRow w B (.slice (some ⟨g, 0, none⟩) n cap) l) (hd : (d ++ z).length = l.length) :
    IRow (Go.Sort.putRow icell (Go.Sort.ahead w q) g 0 (d ++ z).toArray) B (.slice (some ⟨g, 0, none⟩) d.length cap) d := by
  rcases h.2 with ⟨e0, _⟩ | ⟨g', cap', cur, e0, hb, hg, hn, hm, hs, ht⟩
  · cases e0
  · injection e0 with e1 e2 e3
    injection e1 with e1
    injection e1 with e1
    subst e1 e2 e3
    have hdl : d.length ≤ l.length := by rw [← hd, List.length_append]; omega
    unfold IRow
    refine ⟨by rw [List.length_map]; omega, .inr ⟨g, cap, Go.Sort.putCells icell 0 (d ++ z).toArray cur, rfl, hb, ?_, by omega, hm, by simpa [Go.Sort.putCells] using hs, ?_⟩⟩
    · simp [Go.Sort.putRow, Go.Sort.mapBlock, Go.Sort.ahead, Array.getElem?_modify, hg, Go.Sort.onCells]
    · apply List.ext_getElem?
      intro j
      rw [List.getElem?_take, Array.getElem?_toList, List.getElem?_map]
      by_cases hj : j < d.length
      · have hjc : j < cur.size := by omega
        simp only [Nat.mul_one, if_pos hj, Go.Sort.putCells, Array.getElem?_mapIdx, Array.getElem?_eq_getElem hjc, Option.map_some]
        rw [if_pos (by simp; omega)]
        simp [getElem!_pos, hj, List.getElem_append_left]
        rw [List.getElem?_append_left hj, List.getElem?_eq_getElem hj]; rfl
      · rw [if_neg (by omega), List.getElem?_eq_none (by omega)]; rfl
theorem below_putRow {w : World} {g q B : Nat} {d : Array Int} (hg : B ≤ g) : Below B w (Go.Sort.putRow icell (Go.Sort.ahead w q) g 0 d) := by
  refine ⟨rfl, rfl, rfl, ?_, fun k hk => ?_⟩
  · simp [Go.Sort.putRow, Go.Sort.mapBlock, Go.Sort.ahead]
  · have hne : g ≠ k := by omega
    simp [Go.Sort.putRow, Go.Sort.mapBlock, Go.Sort.ahead, Array.getElem?_modify, hne]
theorem sorted_at {w : World} {g n k : Nat} {dk : Array Int} {os : Array Obj} (hk : k < w.heap.size) (hne : g ≠ k) : (sortWorld icell w g 0 n dk os).heap[k]? = w.heap[k]? := by
  have e : (sortWorld icell w g 0 n dk os).heap = (Go.Sort.putRow icell (Go.Sort.ahead w n) g 0 dk).heap ++ os := rfl
  rw [e, Array.getElem?_append_left (by simpa [Go.Sort.putRow, Go.Sort.mapBlock, Go.Sort.ahead] using hk)]
  simp [Go.Sort.putRow, Go.Sort.mapBlock, Go.Sort.ahead, Array.getElem?_modify, hne]
theorem sorted_size {w : World} {g n : Nat} {dk : Array Int} {os : Array Obj} : w.heap.size ≤ (sortWorld icell w g 0 n dk os).heap.size := by
  have e : (sortWorld icell w g 0 n dk os).heap = (Go.Sort.putRow icell (Go.Sort.ahead w n) g 0 dk).heap ++ os := rfl
  rw [e]; simp [Go.Sort.putRow, Go.Sort.mapBlock, Go.Sort.ahead]
theorem moved1_is (b : Nat) (v : Value) (L : List Int) (x : Int) (w : World) (hc : w.cell? ⟨b, 0, none⟩ = some v) (h : Ns w v L) :
    Calls Try.prog 36 #[.int .i64 x, .pointer (some ⟨b, 0, none⟩)] w fun e w' => e = .returned (.bool (inL L x)) ∧ w = w' := by
  have k := contains_is v L x w h
  generalize inL L x = z at *
  obtain ⟨a, cap, rfl⟩ := h.slice
  clear h
  go_enter Try.func36, Try.ntmps36
  go_wp2_with (go_at_call 26; (with_reducible refine k.mono ?_); rintro e w1 ⟨rfl, rfl⟩)
  go_ret
  exact ⟨rfl, rfl⟩
theorem indexf_nil (f : Value) (w : World) : Calls Try.prog 44 #[.slice none 0 0, f] w fun e w' => e = .returned (.int .i64 (-1)) ∧ w = w' := by
  go_enter Try.func44, Try.ntmps44
  go_wp2
  refine wp_loop_rounds 1 ?_
  rw [rounds_succ]
  go_wp2
  go_ret
  exact ⟨rfl, rfl⟩
theorem delete_nil (f : Value) (w : World) : Calls Try.prog 35 #[.slice none 0 0, f] w fun e w' => e = .returned (.slice none 0 0) ∧ w = w' := by
  have k := indexf_nil f w
  go_enter Try.func35, Try.ntmps35
  go_wp2_with (go_at_call 44; (with_reducible refine k.mono ?_); rintro e w1 ⟨rfl, rfl⟩)
  go_ret
  exact ⟨rfl, rfl⟩
def notIn (L : List Int) (x : Int) : Bool := !inL L x
/-- DeleteFunc of what stands in a list that lies in a cell. -/
theorem delete_is (b : Nat) (v u : Value) (B : Nat) (L M : List Int) (w : World) (hc : w.cell? ⟨b, 0, none⟩ = some v) (h : Ns w v L) (hv : ∀ g, v.ownBlock = some g → g < B) (hb : b < B) (hw : B ≤ w.heap.size) (hu : IRow w B u M) (hl : M.length ≤ 1000000) :
    Calls Try.prog 35 #[u, .func (.func 36) #[] #[.pointer (some ⟨b, 0, none⟩)]] w fun e w' => ∃ u', e = .returned u' ∧ IRow w' B u' (M.filter (notIn L)) ∧ Below B w w' := by
  rcases hu.2 with ⟨rfl, h0⟩ | ⟨g, cap, cur, rfl, hBg, hrest⟩
  · obtain rfl := List.eq_nil_of_length_eq_zero h0
    exact (delete_nil _ w).mono fun e w' ⟨he, hw'⟩ => ⟨_, he, by subst hw'; exact hu, by subst hw'; exact Below.refl _ _⟩
  · have eg : ∀ args w, (callFunc 36 args).run Try.prog w = .ok (.enter 36 args) w := enters_of Try.func36 (by kernel_rfl) rfl
    have hgw : g < w.heap.size := (World.ownsRow.lt hu g rfl).2
    have pat : ∀ W, (∀ k, k < B → W.heap[k]? = w.heap[k]?) → B ≤ W.heap.size → ∀ x, FnGives Try.prog 36 #[.pointer (some ⟨b, 0, none⟩)] #[icell x] (.bool (inL L x)) W := by
      intro W hW hWs x
      have c1 : W.cell? ⟨b, 0, none⟩ = some v := by rw [← hc]; unfold World.cell?; rw [hW b hb]
      have hN : Ns W v L := by
        obtain ⟨⟨a, cap2, e1, e2⟩, e3, e4, _⟩ := h
        refine ⟨⟨a, cap2, e1, ?_⟩, e3, e4, Nat.le_refl _⟩
        rcases e2 with e2 | ⟨g2, off, e5, _, e7⟩
        · exact Or.inl e2
        · have hg2 : g2 < B := hv g2 (by rw [e1, e5]; rfl)
          refine Or.inr ⟨g2, off, e5, by omega, fun j hj => ?_⟩
          rw [← e7 j hj]; unfold World.cell?; dsimp only; rw [hW g2 hg2]
      exact (moved1_is b v L x W c1 hN).mono fun e w' ⟨he, hw'⟩ => ⟨he, 0, hw'.symm⟩
    have hcon := AnyE.slices_DeleteFunc delInts icell oneI (inL L) 36 #[.pointer (some ⟨b, 0, none⟩)] eg 0 (fun w => Try.zeroValue3 w) g 0 cap M.toArray w
      (fun W x hB => pat W (fun k hk => (hB.block k (by omega))) (Nat.le_trans hw hB.size) x)
      (fun n os dk x _ => pat _ (fun k hk => sorted_at (by omega) (by omega)) (Nat.le_trans hw sorted_size) x)
      (holds_irow hu) (by simp; omega) (by simpa using hrest.2.1)
    refine hcon.mono fun e w' ⟨he, q, hw'⟩ => ⟨_, he, ?_, ?_⟩
    · subst hw'
      have := irow_kept (q := q) (d := M.filter (notIn L)) (z := List.replicate (M.length - (M.filter (notIn L)).length) 0) hu (by
        have := List.length_filter_le (notIn L) M
        simp; omega)
      exact this
    · subst hw'
      exact below_putRow hBg
set_option maxHeartbeats 1000000 in
theorem moved_is (b1 : Nat) (v1 v2 : Value) (e1 : Int) (N1 : List Int) (P1 : List Pt) (b2 : Nat) (v3 v4 : Value) (e2 : Int) (N2 : List Int) (P2 : List Pt) (key : ByteArray) (most : Int) (w : World)
    (h1 : RingAt w b1 v1 v2 e1 N1 P1) (hs1 : Rises P1) (h2 : RingAt w b2 v3 v4 e2 N2 P2) (hs2 : Rises P2) (hk : key.size ≤ maxLen) :
    Calls Try.prog 22 #[.pointer (some ⟨b1, 0, none⟩), .pointer (some ⟨b2, 0, none⟩), .string key, .int .i64 most] w (IDone ((preferL P2 (hashI key) most).filter (notIn (preferL P1 (hashI key) most))) w) := by
  have k1 := prefer_is b1 v1 v2 e1 N1 P1 key most w h1 hs1 hk
  have k2 := fun w h => prefer_is b2 v3 v4 e2 N2 P2 key most w h hs2 hk
  obtain ⟨o1, o2⟩ := preferL_ok h1.pok (hashI key) most
  obtain ⟨o3, -⟩ := preferL_ok h2.pok (hashI key) most
  generalize preferL P1 (hashI key) most = L1 at *
  generalize preferL P2 (hashI key) most = L2 at *
  have O1 := Lib.hid o1
  have O2 := Lib.hid o2
  have O3 := Lib.hid o3
  have H2 := Lib.hid h2
  clear h1 h2 hs1 hs2 hk o1 o2 o3
  go_enter Try.func22, Try.ntmps22
  go_wp2_with (first
    | (go_at_call 21; (with_reducible refine k1.mono ?_); rintro e w1 ⟨v, rfl, hr, hB⟩; (obtain ⟨a1, d1, rfl⟩ := hr.slice); (obtain ⟨n1, hn1⟩ : ∃ n, L1.length = n := ⟨_, rfl⟩); (rw [hn1] at hr ⊢); (have HR := Lib.hid hr); (have HB := Lib.hid (bel_new hB (.cells #[.slice a1 n1 d1] 27))); (have k3 := k2 _ (H2.out.later HB.out)); clear hr hB hn1 k1 k2 H2)
    | (go_at_call 21; (with_reducible refine k3.mono ?_); rintro e w3 ⟨u, rfl, hr, hB⟩; (have k4 := delete_is w1.heap.size (.slice a1 n1 d1) u (w1.heap.size + 1) L1 L2 w3 ((hB.cell (p := ⟨w1.heap.size, 0, none⟩) (by simp)).trans (by simp)) (Ns.later (HR.out.ns (fun n hn => by have := O2.out n hn; omega) (by have := O1.out; omega)) (bel_next ((Below.refl _ w1).alloc (Nat.le_refl _) _) hB)) (fun g hg => by have := (World.ownsRow.lt HR.out g hg).2; omega) (Nat.lt_succ_self _) (by have := hB.size; simpa using this) (by simpa using hr) (by have := O3.out; omega)); (have HB3 := Lib.hid hB); (obtain ⟨a3, d3, rfl⟩ := hr.slice); clear hr hB k3)
    | (go_at_call 35; (with_reducible refine k4.mono ?_); rintro e w4 ⟨u4, rfl, hr, hB⟩; (have HR4 := Lib.hid hr); (have HB4 := Lib.hid hB); clear hr hB k4))
  go_ret
  have hsz : (w1.alloc (.cells #[.slice a1 n1 d1] 27)).heap.size = w1.heap.size + 1 := by simp
  have hle := HB.out.size
  rw [hsz] at hle
  exact ⟨_, rfl, Joins.ownsRow_le HR4.out hle, HB.out.trans ((HB3.out.trans (by rw [hsz]; exact HB4.out)).mono (by rw [hsz]; exact hle))⟩
end Go.Proofs.Ytmmkbedheeeecaa
