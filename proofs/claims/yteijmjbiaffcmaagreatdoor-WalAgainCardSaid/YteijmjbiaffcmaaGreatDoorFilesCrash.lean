/- Crash. -/
import Derived.Test.YteijmjbiaffcmaaGreatDoorFilesCrash1
import Derived.Deep.RegionHeld
import Derived.Deep.QuietTactic
import Derived.BigQuiet
set_option maxRecDepth 20000
set_option linter.unusedSimpArgs false
namespace Go.Proofs.YteijmjbiaffcmaaGreatDoor.Fi
open Go.RowKit Go.Maps Go.Shelf

def cutQ (l : List Int) (i q : Nat) (F : List Fil) : List Fil := match filQ F q with | some f => updQ F q (f.s.extract 0 (f.k + pickI l i (f.s.size - f.k))) (f.k + pickI l i (f.s.size - f.k)) | none => F
def cutAll (l : List Int) : List Nat → Nat → List Fil → List Fil
  | [], _, F => F
  | q :: t, i, F => cutAll l t (i + 1) (cutQ l (i + 1) q F)
theorem cutAll_snoc (l : List Int) : ∀ (Q : List Nat) (q i : Nat) (F : List Fil), cutAll l (Q ++ [q]) i F = cutQ l (i + Q.length + 1) q (cutAll l Q i F)
  | [], q, i, F => rfl
  | a :: t, q, i, F => by
    show cutAll l (t ++ [q]) (i + 1) _ = _
    rw [cutAll_snoc l t q (i + 1)]
    show cutQ l (i + 1 + t.length + 1) q _ = cutQ l (i + (t.length + 1) + 1) q _
    rw [show i + 1 + t.length + 1 = i + (t.length + 1) + 1 by omega]; rfl
theorem updQ_ids (F : List Fil) (q : Nat) (s : ByteArray) (k : Nat) : (updQ F q s k).map (·.q) = F.map (·.q) := by
  unfold updQ
  rw [List.map_map]
  refine List.map_congr_left fun f _ => ?_
  show (if f.q = q then (⟨q, s, k⟩ : Fil) else f).q = f.q
  split
  · rename_i h; exact h.symm
  · rfl
theorem cutQ_ids (l : List Int) (i q : Nat) (F : List Fil) : (cutQ l i q F).map (·.q) = F.map (·.q) := by
  unfold cutQ
  split
  · exact updQ_ids _ _ _ _
  · rfl
theorem cutAll_ids (l : List Int) : ∀ (Q : List Nat) (i : Nat) (F : List Fil), (cutAll l Q i F).map (·.q) = F.map (·.q)
  | [], _, _ => rfl
  | q :: t, i, F => by
    show (cutAll l t (i + 1) (cutQ l (i + 1) q F)).map _ = _
    rw [cutAll_ids l t (i + 1), cutQ_ids]
def SzOk (F : List Fil) : Prop := ∀ f ∈ F, f.s.size ≤ 1099511627776 ∧ f.k ≤ f.s.size
theorem cutQ_ok {l : List Int} {i q : Nat} {F : List Fil} (h : SzOk F) : SzOk (cutQ l i q F) := by
  unfold cutQ
  split
  · rename_i f e
    intro g hg
    have h1 := h f (filQ_mem e).1
    have h2 := pickI_le l i (f.s.size - f.k)
    rcases updQ_mem hg with ⟨rfl, _⟩ | ⟨hg, _⟩
    · dsimp only
      rw [ByteArray.size_extract]; omega
    · exact h g hg
  · exact h
theorem cutAll_ok {l : List Int} : ∀ (Q : List Nat) (i : Nat) (F : List Fil), SzOk F → SzOk (cutAll l Q i F)
  | [], _, _, h => h
  | q :: t, i, F, h => by
    show SzOk (cutAll l t (i + 1) (cutQ l (i + 1) q F))
    exact cutAll_ok t (i + 1) _ (cutQ_ok h)
def Nice (M : FM) : Prop := ∀ p ∈ M, p.1.length ≤ 20
def Chg.sz : Chg → Prop
  | .mk n _ => n.length ≤ 20
  | .ren _ t => t.length ≤ 20
  | _ => True
theorem doM_nice {c : Chg} {M : FM} (h : Nice M) (hc : c.sz) : Nice (c.doM M) := by
  intro p hp
  cases c with
  | mk n q =>
    rcases putM_mem.1 hp with rfl | ⟨hp, _⟩
    · exact hc
    · exact h p hp
  | del n => exact h p (delM_mem.1 hp).1
  | ren n t =>
    unfold Chg.doM at hp
    dsimp only at hp
    split at hp
    · rename_i q e
      rcases putM_mem.1 hp with rfl | ⟨hp, _⟩
      · exact hc
      · exact h p (delM_mem.1 hp).1
    · exact h p hp
theorem play_nice : ∀ {cs : List Chg} {M : FM}, Nice M → (∀ c ∈ cs, c.sz) → Nice (playM cs M)
  | [], _, h, _ => h
  | c :: cs, _, h, hc => play_nice (cs := cs) (doM_nice h (hc c List.mem_cons_self)) fun d hd => hc d (List.mem_cons_of_mem _ hd)
/-- What a directory must be for a crash. -/
structure Good (S : FS) : Prop where
  sane : Sane S
  fsrt : Srt S.firm
  hist : Hist S.chg S.firm
  fin : In (S.fil.map (·.q)) S.firm
  cin : ∀ c ∈ S.chg, c.inI (S.fil.map (·.q))
  fsz : Nice S.firm
  csz : ∀ c ∈ S.chg, c.sz
def namesK (S : FS) (k : Nat) : FM := playM (S.chg.take k) S.firm
theorem Good.srtK {S : FS} (h : Good S) (k : Nat) : Srt (namesK S k) := play_srt h.fsrt
theorem Good.lenK {S : FS} (h : Good S) (k : Nat) : (namesK S k).length ≤ 64 := (h.hist.take k).end_len
theorem Good.inK {S : FS} (h : Good S) (k : Nat) : In (S.fil.map (·.q)) (namesK S k) := play_in h.fin fun c hc => h.cin c (List.mem_of_mem_take hc)
theorem Good.niceK {S : FS} (h : Good S) (k : Nat) : Nice (namesK S k) := play_nice h.fsz fun c hc => h.csz c (List.mem_of_mem_take hc)
theorem namesK_next {S : FS} {k : Nat} (hk : k < S.chg.length) : namesK S (k + 1) = (S.chg[k]).doM (namesK S k) := by
  unfold namesK
  rw [List.take_add_one, List.getElem?_eq_getElem hk]
  exact play_snoc _ _ _
def crashS (S : FS) (l : List Int) : FS :=
  { S with now := namesK S (pickI l 0 S.chg.length), firm := namesK S (pickI l 0 S.chg.length), chg := [], on := true, armed := false, fil := cutAll l ((namesK S (pickI l 0 S.chg.length)).map (·.2)) 0 S.fil }
/-- A new folder in the place of the names. -/
theorem FsAt.fresh {w : World} {b g : Nat} {S : FS} {L : Lay} (h : FsAt w b S L) (hg : g = w.heap.size) : Went w ((w.alloc (.map #[] 0)).setCell ⟨b, 1, none⟩ (.map (some g))) b S { S with now := [] } L { L with bn := some g } := by
  have hB : Below w.heap.size w (w.alloc (.map #[] 0)) := (Below.refl _ w).alloc (Nat.le_refl _) _
  have h1 := h.later hB
  have hbl := h.room (Or.inl rfl)
  have hm : MapIs (w.alloc (.map #[] 0)) g [] := by rw [hg]; exact map_made w
  have hset : ∀ k, k ≠ b → ((w.alloc (.map #[] 0)).setCell ⟨b, 1, none⟩ (.map (some g))).heap[k]? = (w.alloc (.map #[] 0)).heap[k]? := fun k hk => heap_setCell_other _ ⟨b, 1, none⟩ k _ hk
  have hfm : L.bf ≠ some g := fun e => by have := h.room (Or.inr (Or.inr (Or.inl e))); omega
  have hrow : ∀ {n : Nat} {e : TypeId} {v : Value} {xs : List Value}, (w.alloc (.map #[] 0)).ownsRow 0 e 1 v n xs → e ≠ 79 → ((w.alloc (.map #[] 0)).setCell ⟨b, 1, none⟩ (.map (some g))).ownsRow 0 e 1 v n xs := fun hr hne => row_of hr fun k hk => by
    obtain ⟨cur, hh⟩ := row_heap hr hk
    exact hset k (kinds_ne hh h1.hb hne)
  refine ⟨⟨heap_setCell_same _ b 1 _ _ _ h1.hb, Or.inr ⟨g, rfl, hm.of_heap (hset g (by omega))⟩, h1.firm.of fun k e => ?_, Or.inr (fun e => hfm e.symm), hrow h1.row (by decide), h1.lcs, fun p hp => CapIs.of (h1.caps p hp) fun k cs T e hT => (hset k (kinds_ne e h1.hb ?_)).trans e, fun f hf => ⟨(hset f.q (kinds_ne (h1.fil f hf).1 h1.hb (by decide))).trans (h1.fil f hf).1, hrow (h1.fil f hf).2 (by decide)⟩, h1.ap⟩, ⟨rfl, rfl, rfl, by simp, fun k hk hn => (hset k (fun e => hn (Or.inl e))).trans (hB.block k hk)⟩, fun k hk => ?_⟩
  · obtain ⟨es, c, hh⟩ := h1.firm.lt e
    exact hset k (map_ne hh h1.hb)
  · rcases hT with rfl | rfl <;> decide
  · rcases hk with hk | hk | hk | hk | hk
    · exact Or.inl (Or.inl hk)
    · injection hk with hk; exact Or.inr (by omega)
    · exact Or.inl (Or.inr (Or.inr (Or.inl hk)))
    · exact Or.inl (Or.inr (Or.inr (Or.inr (Or.inl hk))))
    · exact Or.inl (Or.inr (Or.inr (Or.inr (Or.inr hk))))
theorem szF (w : World) : (sizeOf (Tryz.prog.elem 77)).run Tryz.prog w = .ok 1 w := by kernel_rfl
theorem grown_head {w1 W : World} {b bm : Nat} {S : FS} {L : Lay} (h : FsAt w1 b S L) (hn : L.bn = some bm) (k : w1.grownBy W (some bm)) : W.cell? ⟨b, 1, none⟩ = some (.map L.bn) ∧ W.cell? ⟨b, 2, none⟩ = some (.map L.bf) := by
  obtain ⟨es, c, hmap⟩ := h.now.lt hn
  have hb1 : W.heap[b]? = some (.cells (headV S L) 79) := (k.block b (h.room (Or.inl rfl)) (fun e => by injection e with e; subst e; have := h.hb; rw [hmap] at this; cases this)).trans h.hb
  exact ⟨cell_of hb1, cell_of hb1⟩
theorem drew_grown (w : World) : w.grownBy w.drew none := ⟨rfl, rfl, rfl, Nat.le_refl _, fun _ _ _ => rfl⟩
theorem src_map {w : World} {b : Nat} {M : FM} (h : SrcIs w (some b) M) : MapIs w b M := by
  rcases h with ⟨e, _⟩ | ⟨b2, e, hm⟩
  · cases e
  · injection e with e; subst e; exact hm
/-- A beginning of the changes. -/
theorem cut_chg {w : World} {v : Value} {n : Nat} {xs : List Value} (h : w.ownsRow 0 93 1 v n xs) {k : Nat} (hk : k ≤ n) : ∃ a c, v = .slice a n c ∧ ∃ a', (∀ W, (Instr.slice 77 (.slice a n c) none (some (.int .i64 (k : Int))) none).run Tryz.prog W = .ok (.slice a' k c) W) ∧
    ∀ W : World, W.ownsRow 0 93 1 v n xs → ∀ j (hj : j < xs.length), j < k → ∃ g, a' = some ⟨g, 0, none⟩ ∧ W.cell? ⟨g, j, none⟩ = some xs[j] := by
  rcases h.2 with ⟨rfl, h0⟩ | ⟨g, cap, cur, rfl, hg, hh, hn, hm, hcs, ht⟩
  · refine ⟨none, 0, by rw [h0], none, fun W => ?_, fun _ _ j hj hjk => by omega⟩
    rw [run_slice_h (P := Tryz.prog) W 77 none n 0 Tryz.underlying77 .i64 (k : Int) (by omega) (by omega), szF, Int.toNat_natCast]; rfl
  · refine ⟨_, cap, rfl, some ⟨g, 0, none⟩, fun W => ?_, fun W hW j hj hjk => ⟨g, rfl, ?_⟩⟩
    · rw [run_slice_h (P := Tryz.prog) W 77 _ n cap Tryz.underlying77 .i64 (k : Int) (by omega) (by omega), szF, Int.toNat_natCast]
      show Result.ok (sliced (some ⟨g, 0, none⟩) 0 k cap 1) W = _
      unfold sliced
      by_cases hc : cap = 0
      · subst hc; rfl
      · rw [if_neg hc]; simp [Addr.add]
    · have hl := h.1
      rw [World.ownsRow.cellAt hW j (by omega), List.getElem?_eq_getElem hj]
theorem chg_at {S : FS} {L : Lay} (hl : L.cs.length = S.chg.length) {j : Nat} (hj : j < S.chg.length) : ∃ (p : Nat × Nat) (h : j < ((S.chg.zip L.cs).map fun p => chgV p.1 p.2).length), ((S.chg.zip L.cs).map fun p => chgV p.1 p.2)[j] = chgV S.chg[j] p ∧ (S.chg[j], p) ∈ S.chg.zip L.cs := by
  have h1 : j < (S.chg.zip L.cs).length := by rw [List.length_zip]; omega
  refine ⟨L.cs[j]'(by omega), by rw [List.length_map]; exact h1, ?_, ?_⟩
  · rw [List.getElem_map, List.getElem_zip]
  · rw [← List.getElem_zip (h := h1)]; exact List.getElem_mem _
/-- Any change done to a folder, by its closure. -/
theorem nrow_cell {w : World} {B : Nat} {a : Option Addr} {n c : Nat} {l : List Nm} (h : NRow w B (.slice a n c) l) {j : Nat} (hj : j < l.length) : ∃ g, a = some ⟨g, 0, none⟩ ∧ g < w.heap.size ∧ w.cell? ⟨g, j, none⟩ = some (.string ⟨(l[j]).toArray⟩) := by
  have h0 := h
  rcases h.2 with ⟨hv, h2⟩ | ⟨g, cap, cur, hv, hg, hh, hn, hm, hsz, ht⟩
  · omega
  · injection hv with e1 e2 e3
    subst e1 e2 e3
    refine ⟨g, rfl, (Array.getElem?_eq_some_iff.1 hh).1, ?_⟩
    have e1 := World.ownsRow.cellAt (show w.ownsRow B 9 1 _ l.length (l.map encStr) from h0) j (by omega)
    rw [e1, List.getElem?_map, List.getElem?_eq_getElem hj]; rfl
theorem name_keep {w w' : World} {b B n c gn i : Nat} {S S' : FS} {L L' : Lay} {l : List Nm} (h : FsAt w b S L) (k : Went w w' b S S' L L') (hr : NRow w B (.slice (some ⟨gn, 0, none⟩) n c) l) (hg : gn < w.heap.size) : w'.cell? ⟨gn, i, none⟩ = w.cell? ⟨gn, i, none⟩ := by
  obtain ⟨cur, hh⟩ := row_heap hr (k := gn) rfl
  exact World.cell?_of_block (k.frm.block gn hg (h.not hh (by decide) (by decide) (by decide) (by decide)))
theorem ends_on {w : World} {b : Nat} {S : FS} {L : Lay} (h : FsAt w b S L) : Went w ((w.setCell ⟨b, 4, none⟩ (.bool true)).setCell ⟨b, 5, none⟩ (.bool false)) b S { S with on := true, armed := false } L L :=
  (Went.set h { S with on := true } 4 (.bool true) rfl rfl rfl rfl rfl).trans (Went.set (Went.set h { S with on := true } 4 (.bool true) rfl rfl rfl rfl rfl).at_ { S with on := true, armed := false } 5 (.bool false) rfl rfl rfl rfl rfl)
set_option maxHeartbeats 4000000 in
theorem crash_is (b : Nat) (S : FS) (L : Lay) (v : Value) (l : List Int) (w : World) (h : FsAt w b S L) (hS : Good S) (hchg : S.chg.length ≤ 1000000) (hl : ∀ W, Frm (mods b S L) w W → Is W v l) :
    Calls Tryz.prog 35 #[.pointer (some ⟨b, 0, none⟩), v] w fun e w' => ∃ L', e = .returned (.tuple #[]) ∧ Went w w' b S (crashS S l) L L' ∧ L'.bn ≠ none := by
  have H := Lib.hid h
  have HS := Lib.hid hS
  have HL := Lib.hid hl
  obtain ⟨av, cv, hv⟩ := (hl w (Frm.refl _ _)).slice
  obtain ⟨len, hlen⟩ : ∃ len, l.length = len := ⟨_, rfl⟩
  rw [hlen] at hv
  subst hv
  have hB0 : Below w.heap.size w (w.alloc (.map #[] 0)) := (Below.refl _ w).alloc (Nat.le_refl _) _
  have c1 : (w.alloc (.map #[] 0)).cell? ⟨b, 1, none⟩ = some (.map L.bn) := (h.later hB0).cells.2.1
  have f1 := frozen_of (j := 1) (h.later hB0).hb
  have hW1 := h.fresh rfl
  have hbl := h.room (Or.inl rfl)
  have HW1 := Lib.hid hW1
  have hmm := @run_makeMap Tryz.prog
  obtain ⟨bm, hbm⟩ : ∃ bm, w.heap.size = bm := ⟨_, rfl⟩
  have HBF := Lib.hid (show L.bf ≠ some bm from fun e => by have := h.room (Or.inr (Or.inr (Or.inl e))); omega)
  have HBM := Lib.hid hbm
  have HCHG := Lib.hid hchg
  clear h hS hl hW1 hlen hB0 hbm hchg
  go_enter Tryz.func35, Tryz.ntmps35
  go_upto_region 2 with fail
  have hbm := HBM.out
  rw [← World.setCell_alloc_past (.map #[] 0) b 1 (.map (some w.heap.size)) hbl]
  obtain ⟨w1, hw1⟩ : ∃ w1, (w.alloc (.map #[] 0)).setCell ⟨b, 1, none⟩ (.map (some w.heap.size)) = w1 := ⟨_, rfl⟩
  rw [hw1] at HW1 ⊢
  rw [hbm] at HW1 ⊢
  clear hw1 hbm c1 f1 hmm hbl
  have hF1 := HW1.out.at_
  have HF1 := Lib.hid hF1
  have HCX := Lib.hid (fun W (k : w1.grownBy W (some bm)) => grown_head HF1.out rfl k)
  have HMM := Lib.hid (fun W (k : Below w1.heap.size w1 W) => (HF1.out.later k).now)
  have HFF := Lib.hid (fun W (k : Below w1.heap.size w1 W) => (HF1.out.later k).firm)
  clear hF1
  refine wp_region_held_drew (S := fun W => w1.grownBy W (some bm)) (by kernel_rfl) (((World.grownBy.refl w1 none).trans (drew_grown w1)).but _) (fun hHeld => ?_)
  have HBD := Lib.hid (show Below w1.heap.size w1 w1.drew from (Below.refl w1.heap.size w1).drew)
  generalize w1.drew = wd at *
  refine wpAnyH_take (i := 0) (oi := ?r21o) (v := ?r21v) ?r21h (by kernel_rfl) (by kernel_rfl) (by kernel_rfl) ?r21q ?r21y hHeld ?r21r
  case r21h => (simp only [List.getElem?_toArray, List.getElem?_cons_zero]; rfl)
  case r21q => exact fun _ _ _ h => h
  case r21y => (refine Or.inl ⟨by first | kernel_rfl | rfl, ?_⟩; intro w hSw; (try dsimp only at hSw); obtain ⟨cc, cf⟩ := HCX.out _ hSw; go_simp <;> (try with_reducible rfl))
  try simp only [Act.put, List.setIfInBounds_toArray, List.set_cons_zero, List.set_cons_succ]
  refine wpAnyH_take (i := 1) (oi := ?r22o) (v := ?r22v) ?r22h (by kernel_rfl) (by kernel_rfl) (by kernel_rfl) ?r22q ?r22y hHeld ?r22r
  case r22h => (simp only [List.getElem?_toArray, List.getElem?_cons_succ, List.getElem?_cons_zero]; rfl)
  case r22q => exact fun _ _ _ h => h
  case r22y => (refine Or.inl ⟨by first | kernel_rfl | rfl, ?_⟩; intro w hSw; (try dsimp only at hSw); obtain ⟨cc, cf⟩ := HCX.out _ hSw; go_simp <;> (try with_reducible rfl))
  try simp only [Act.put, List.setIfInBounds_toArray, List.set_cons_zero, List.set_cons_succ]
  refine wpAnyH_take (i := 2) (oi := ?r23o) (v := ?r23v) ?r23h (by kernel_rfl) (by kernel_rfl) (by kernel_rfl) ?r23q ?r23y hHeld ?r23r
  case r23h => (simp only [List.getElem?_toArray, List.getElem?_cons_succ, List.getElem?_cons_zero]; rfl)
  case r23q => exact fun _ _ _ h => h
  case r23y => (refine Or.inl ⟨by first | kernel_rfl | rfl, ?_⟩; intro w hSw; (try dsimp only at hSw); obtain ⟨cc, cf⟩ := HCX.out _ hSw; go_simp <;> (try with_reducible rfl))
  try simp only [Act.put, List.setIfInBounds_toArray, List.set_cons_zero, List.set_cons_succ]
  refine wpAnyH_take (i := 3) (oi := ?r24o) (v := ?r24v) ?r24h (by kernel_rfl) (by kernel_rfl) (by kernel_rfl) ?r24q ?r24y hHeld ?r24r
  case r24h => (simp only [List.getElem?_toArray, List.getElem?_cons_succ, List.getElem?_cons_zero]; rfl)
  case r24q => exact fun _ _ _ h => h
  case r24y => (refine Or.inl ⟨by first | kernel_rfl | rfl, ?_⟩; intro w hSw; (try dsimp only at hSw); obtain ⟨cc, cf⟩ := HCX.out _ hSw; go_simp <;> (try with_reducible rfl))
  try simp only [Act.put, List.setIfInBounds_toArray, List.set_cons_zero, List.set_cons_succ]
  refine wpAnyH_take (i := 4) (oi := ?r25o) (v := ?r25v) ?r25h (by kernel_rfl) (by kernel_rfl) (by kernel_rfl) ?r25q ?r25y hHeld ?r25r
  case r25h => (simp only [List.getElem?_toArray, List.getElem?_cons_succ, List.getElem?_cons_zero]; rfl)
  case r25q => exact fun _ _ _ h => h
  case r25y => (refine Or.inl ⟨by first | kernel_rfl | rfl, ?_⟩; intro w hSw; (try dsimp only at hSw); obtain ⟨cc, cf⟩ := HCX.out _ hSw; go_simp <;> (try with_reducible rfl))
  try simp only [Act.put, List.setIfInBounds_toArray, List.set_cons_zero, List.set_cons_succ]
  refine wpAnyH_take (i := 5) (oi := ?r26o) (v := ?r26v) ?r26h (by kernel_rfl) (by kernel_rfl) (by kernel_rfl) ?r26q ?r26y hHeld ?r26r
  case r26h => (simp only [List.getElem?_toArray, List.getElem?_cons_succ, List.getElem?_cons_zero]; rfl)
  case r26q => exact fun _ _ _ h => h
  case r26y => (refine Or.inl ⟨by first | kernel_rfl | rfl, ?_⟩; intro w hSw; (try dsimp only at hSw); obtain ⟨cc, cf⟩ := HCX.out _ hSw; go_simp <;> (try with_reducible rfl))
  try simp only [Act.put, List.setIfInBounds_toArray, List.set_cons_zero, List.set_cons_succ]
  refine wpAnyH_take (i := 6) (oi := ?r27o) (v := ?r27v) ?r27h (by kernel_rfl) (by kernel_rfl) (by kernel_rfl) ?r27q ?r27y hHeld ?r27r
  case r27h => (simp only [List.getElem?_toArray, List.getElem?_cons_succ, List.getElem?_cons_zero]; rfl)
  case r27q => exact fun _ _ _ h => h
  case r27y => (refine Or.inl ⟨by first | kernel_rfl | rfl, ?_⟩; intro w hSw; (try dsimp only at hSw); obtain ⟨cc, cf⟩ := HCX.out _ hSw; go_simp <;> (try with_reducible rfl))
  try simp only [Act.put, List.setIfInBounds_toArray, List.set_cons_zero, List.set_cons_succ]
  refine wpAnyH_take (i := 7) (oi := ?r28o) (v := ?r28v) ?r28h (by kernel_rfl) (by kernel_rfl) (by kernel_rfl) ?r28q ?r28y hHeld ?r28r
  case r28h => (simp only [List.getElem?_toArray, List.getElem?_cons_succ, List.getElem?_cons_zero]; rfl)
  case r28q => exact fun _ _ _ h => h
  case r28y => (refine Or.inl ⟨by first | kernel_rfl | rfl, ?_⟩; intro w hSw; (try dsimp only at hSw); obtain ⟨cc, cf⟩ := HCX.out _ hSw; go_simp <;> (try with_reducible rfl))
  try simp only [Act.put, List.setIfInBounds_toArray, List.set_cons_zero, List.set_cons_succ]
  refine wpAnyH_ready (rs := [8]) (by kernel_rfl) (by simp) ?_
  refine (AllReadyH.cons rfl (fun K hK => ?_) AllReadyH.nil)
  go_simp
  ((have kc := copy_is bm L.bf S.firm wd (src_map (HMM.out _ HBD.out)) (HFF.out _ HBD.out) HBF.out HS.out.fsrt (Nat.le_trans (show S.firm.length ≤ 64 from (HS.out.hist.take 0).end_len) (by decide))); (with_reducible refine kc.mono ?_); rintro e w3 ⟨rfl, hM, hG⟩; (have hHeld2 : w1.grownBy w3 (some bm) := hHeld.trans hG); (have HW3 := Lib.hid ((HW1.out.trans (Went.below HF1.out HBD.out)).trans ((HF1.out.later HBD.out).remap rfl hM hG))); clear hM hG kc)
  refine hK.out _ _ (hHeld2) (fun hHeld => ?_)
  clear hK K
  try simp only [Act.put, List.setIfInBounds_toArray, List.set_cons_zero, List.set_cons_succ]
  refine wpAnyH_done (by kernel_rfl) ?_ _
  obtain ⟨LL, hLL⟩ : ∃ LL : Lay, { L with bn := some bm } = LL := ⟨_, rfl⟩
  rw [hLL] at HW3
  have hbn : LL.bn = some bm := by rw [← hLL]
  have hF3 := HW3.out.at_
  have hrow := hF3.row
  have hlcs := hF3.lcs
  obtain ⟨k, hk⟩ : ∃ k, pickI l 0 S.chg.length = k := ⟨_, rfl⟩
  have hkle : k ≤ S.chg.length := by rw [← hk]; exact pickI_le _ _ _
  obtain ⟨ca, cc, hvc, ca', hcut, hel⟩ := cut_chg hrow hkle
  have y3 : w3.cell? ⟨b, 3, none⟩ = some LL.vc := cell_of hF3.hb
  rw [hvc] at y3
  have kp := fun W (k : Below w3.heap.size w3 W) => picked_is (.slice av len cv) l 0 S.chg.length W ((HL.out w3 HW3.out.frm).later k) (by decide) (Nat.le_trans HCHG.out (by decide))
  rw [hk, show ((0 : Nat) : Int) = 0 from rfl] at kp
  obtain ⟨n, hn⟩ : ∃ n, S.chg.length = n := ⟨_, rfl⟩
  dsimp only at y3 hcut hel kp hkle
  rw [hn] at y3 hcut kp hkle
  have HCH := Lib.hid hvc
  have HBN := Lib.hid hbn
  have HN := Lib.hid hn
  have HPK := Lib.hid hk
  have HEL := Lib.hid hel
  have KP := Lib.hid kp
  have HLC := Lib.hid hlcs
  clear hF3 hrow hvc hbn hn hk hel kp hlcs hLL HCX HMM HFF HBD HF1
  go_wp2
  go_quiet ((go_at_call 64; exact Calls.quiet_of_same ((KP.out _ (below_drewN (Below.refl _ _) _)).mono fun _ _ h => ⟨h.1, h.2.symm⟩)))
  go_wp2
  go_loopg [36] k (fun g ii wr => ∃ j : Nat, j + g = k ∧ ii = .int .i64 (j : Int) ∧ Went w wr b S { S with now := namesK S j } L LL)
  case atStart => exact ⟨0, by omega, rfl, HW3.out.trans (Went.below HW3.out.at_ (below_drewN (Below.refl _ _) _))⟩
  case round =>
    obtain ⟨j, hj, rfl, hWr⟩ := hrel
    have HWR := Lib.hid hWr
    clear hWr
    cases gk with
    | zero =>
      obtain rfl : j = k := by omega
      have hlt : ¬ (j : Int) < (j : Int) := by omega
      have hF := HWR.out.at_
      have y1 : wr.cell? ⟨b, 1, none⟩ = some (.map LL.bn) := cell_of hF.hb
      rw [HBN.out] at y1
      have kn := names_is bm (namesK S j) wr (src_map (by rw [← HBN.out]; exact hF.now)) (HS.out.srtK j) (Nat.le_trans (HS.out.lenK j) (by decide))
      clear hF
      go_wp2_with (go_at_call 61; (with_reducible refine kn.mono ?_); rintro e w5 ⟨nv, rfl, hNR, hB5⟩; (obtain ⟨na, nc, rfl⟩ := row_slice hNR); (have HNR := Lib.hid hNR); (have HB5 := Lib.hid hB5); clear hNR hB5 kn y1)
      have HW5 := Lib.hid (HWR.out.trans (Went.below HWR.out.at_ HB5.out))
      obtain ⟨M, hM⟩ : ∃ M, namesK S j = M := ⟨_, rfl⟩
      rw [hM] at HW5 HNR
      have HM := Lib.hid hM
      have HML := Lib.hid (show M.length ≤ 64 from hM ▸ HS.out.lenK j)
      have HMS := Lib.hid (show Srt M from hM ▸ HS.out.srtK j)
      have HMI := Lib.hid (show In (S.fil.map (·.q)) M from hM ▸ HS.out.inK j)
      have HMN := Lib.hid (show Nice M from hM ▸ HS.out.niceK j)
      obtain ⟨m, hm⟩ : ∃ m, (M.map (·.1)).length = m := ⟨_, rfl⟩
      have HMM := Lib.hid hm
      have HLM := Lib.hid (show M.length = m from by rw [← hm, List.length_map])
      have HNR2 : Hid (NRow w5 wr.heap.size (.slice na m nc) (M.map (·.1))) := Lib.hid (by rw [← hm]; exact HNR.out)
      have hlm := HLM.out
      rw [hM, hlm]
      clear hM hm HNR hlm
      go_wp2
      go_loopg [53] m (fun g ii wy => ∃ i : Nat, i + g = m ∧ ii = .int .i64 (i : Int) ∧ ∃ L', Went w5 wy b { S with now := M } { S with now := M, fil := cutAll l ((M.map (·.2)).take i) 0 S.fil } LL L' ∧ L'.bn = some bm)
      case atStart => exact ⟨0, by omega, rfl, LL, Went.refl HW5.out.at_, HBN.out⟩
      case round =>
        obtain ⟨i, hi, rfl, L', hWy, hbn'⟩ := hrel
        have HWY := Lib.hid hWy
        have HBN' := Lib.hid hbn'
        clear hWy hbn'
        cases gk with
        | zero =>
          obtain rfl : i = m := by omega
          have hlt : ¬ (i : Int) < (i : Int) := by omega
          have hLt := HLM.out
          rw [List.take_of_length_le (by rw [List.length_map]; omega)] at HWY
          have k4 := settle_is b bm _ L' wr HWY.out.at_ HBN'.out
          clear hLt
          go_wp2_with (go_at_call 66; (with_reducible refine k4.mono ?_); rintro e w6 ⟨gs, rfl, hW6⟩; (have HW6 := Lib.hid hW6); (have HW7 := Lib.hid (ends_on hW6.at_)); (have f4 := frozen_of (j := 4) hW6.at_.hb); (have f5 := frozen_of (j := 5) hW6.at_.hb); (have y4 := cell_of (j := 4) hW6.at_.hb); (have y5 := cell_of (j := 5) hW6.at_.hb); clear hW6 k4)
          go_end0
          refine ⟨settleL L' gs, rfl, ?_, by show L'.bn ≠ none; rw [HBN'.out]; simp⟩
          have hfin : crashS S l = { settleS { S with now := M, fil := cutAll l (M.map (·.2)) 0 S.fil } with on := true, armed := false } := by
            unfold crashS settleS
            rw [HPK.out, HM.out]
          rw [hfin]
          exact ((HW5.out.trans HWY.out).trans HW6.out).trans HW7.out
        | succ g =>
          have hlt : (i : Int) < (m : Int) := by omega
          have him : i < M.length := by rw [HLM.out]; omega
          have hM64 : M.length ≤ 64 := HML.out
          have hWY := HWY.out
          have hF := hWY.at_
          have y1 : wr.cell? ⟨b, 1, none⟩ = some (.map L'.bn) := cell_of hF.hb
          rw [HBN'.out] at y1
          obtain ⟨⟨x, q⟩, hxq⟩ : ∃ p, M[i] = p := ⟨_, rfl⟩
          have hmem : (x, q) ∈ M := hxq ▸ List.getElem_mem him
          have hx20 : x.length ≤ 20 := HMN.out _ hmem
          have hlk : look M x = some q := (look_iff HMS.out).2 hmem
          obtain ⟨gn, rfl, hgl, hcn⟩ := nrow_cell HNR2.out (show i < (M.map (·.1)).length by rw [List.length_map]; exact him)
          have hcn' : w5.cell? ⟨gn, i, none⟩ = some (.string ⟨x.toArray⟩) := by rw [hcn, List.getElem_map, hxq]
          have hcy : wr.cell? ⟨gn, i, none⟩ = some (.string ⟨x.toArray⟩) := (name_keep HW5.out.at_ hWY HNR2.out hgl).trans hcn'
          have hll := look_src hF.now ⟨x.toArray⟩ (show x.toArray.size ≤ maxLen by unfold maxLen; simp; omega)
          rw [HBN'.out, show nm ⟨x.toArray⟩ = x from by simp [nm], hlk] at hll
          unfold ptrV at hll
          have hids : q ∈ (cutAll l ((M.map (·.2)).take i) 0 S.fil).map (·.q) := by rw [cutAll_ids]; exact HMI.out _ hmem
          obtain ⟨f, hf⟩ := filQ_some hids
          obtain ⟨hfm, hfq⟩ := filQ_mem hf
          have hok := cutAll_ok ((M.map (·.2)).take i) 0 S.fil HS.out.sane.sz (l := l) f hfm
          have hIs := HL.out wr (HW5.out.trans hWY).frm
          have kf := fcrash_is b _ L' f (.slice av len cv) l (i + 1) wr hF hok hfm hIs (by omega)
          rw [hfq] at kf
          have hsn : cutAll l ((M.map (·.2)).take (i + 1)) 0 S.fil = updQ (cutAll l ((M.map (·.2)).take i) 0 S.fil) q (f.s.extract 0 (f.k + pickI l (i + 1) (f.s.size - f.k))) (f.k + pickI l (i + 1) (f.s.size - f.k)) := by
            rw [List.take_add_one, List.getElem?_eq_getElem (by rw [List.length_map]; exact him), Option.toList_some, List.getElem_map, hxq, cutAll_snoc, List.length_take, List.length_map, Nat.min_eq_left (by omega)]
            unfold cutQ
            rw [show 0 + i + 1 = i + 1 by omega]
            dsimp only
            rw [hf]
          have HSN := Lib.hid hsn
          have hwr : IntKind.i64.wrap ((i : Int) + 1) = ((i + 1 : Nat) : Int) := by rw [IntKind.wrap_i64]; omega
          have hwi : IntKind.i64.wrap ((i : Int) + 1) = (i : Int) + 1 := by rw [IntKind.wrap_i64]; omega
          clear hWY hF hxq hmem hlk hcn hcn' hids hf hfm hfq hok hIs hsn hx20
          go_wp2_with (go_at_call 65; (refine kf.mono ?_); rintro e w6 ⟨rfl, v', hW6⟩; (have HW6 := Lib.hid hW6); clear hW6 kf)
          go_roundg g
          case measure => omega
          case rel => exact ⟨i + 1, by omega, by go_num, updL L' q v', by rw [HSN.out]; exact HWY.out.trans HW6.out, HBN'.out⟩
    | succ g =>
      have hlt : (j : Int) < (k : Int) := by omega
      have hjn : j < S.chg.length := by have := HN.out; omega
      have hjm : S.chg.length ≤ 1000000 := HCHG.out
      obtain ⟨p, hz, hel2, hpm⟩ := chg_at HLC.out hjn
      have hF := HWR.out.at_
      have hcap := hF.caps _ hpm
      have hok := HS.out.hist.at_ hjn
      obtain ⟨g0, hg0, hel0⟩ := HEL.out _ hF.row j hz (by omega)
      rw [hel2] at hel0
      have y1 : wr.cell? ⟨b, 1, none⟩ = some (.map LL.bn) := cell_of hF.hb
      rw [HBN.out] at y1
      have hm : MapIs wr bm (namesK S j) := src_map (by rw [← HBN.out]; exact hF.now)
      have hlen : (namesK S j).length ≤ 1000 := Nat.le_trans (HS.out.lenK j) (by decide)
      have hno := namesK_next (S := S) hjn
      subst hg0
      obtain ⟨c, hc⟩ : ∃ c, S.chg[j] = c := ⟨_, rfl⟩
      rw [hc] at hcap hok hel0 hno
      have hrem : ∀ w4, MapIs w4 bm (c.doM (namesK S j)) → wr.grownBy w4 (some bm) → Went w w4 b S { S with now := namesK S (j + 1) } L LL := fun w4 hM hG => by rw [hno]; exact HWR.out.trans (HWR.out.at_.remap HBN.out hM hG)
      have HREM := Lib.hid hrem
      have hmt := hF.now.lt HBN.out
      have hok' : c.okM (namesK S j) := hok
      clear hF hpm hel2 hno hz hc hrem hok
      dsimp only at hcap
      cases c with
      | mk n0 q =>
        obtain ⟨z1, s, hs1, hs2, hs3⟩ := hcap
        have kd := mk_is bm p.1 p.2 q s (namesK S j) wr hm hlen (by unfold maxLen; omega) (cell_of z1) (cell_of hs3)
        rw [hs1] at kd
        have cel : wr.cell? ⟨g0, j, none⟩ = some (chgV (Chg.mk n0 q) p) := hel0
        unfold chgV at cel
        dsimp only at cel
        have eg : ∀ args w, (callFunc 111 args).run Tryz.prog w = .ok (.enter 111 args) w := enters_of Tryz.func111 (by kernel_rfl) rfl
        clear hel0
        go_wp2_with (go_at_call 111; go_loud (refine kd.mono ?_); rintro e w4 ⟨rfl, hM, hG⟩; (have HW4 := Lib.hid (HREM.out w4 (by first | exact hM | exact HDO.out ▸ hM) hG)); clear hM hG kd)
        go_roundg g
        case measure => omega
        case rel => exact ⟨j + 1, by omega, by go_num, HW4.out⟩
      | del n0 =>
        obtain ⟨s, hs1, hs2, hs3⟩ := hcap
        have kd := del_is bm p.1 s (namesK S j) wr hm (by unfold maxLen; omega) (cell_of hs3)
        rw [hs1] at kd
        have cel : wr.cell? ⟨g0, j, none⟩ = some (chgV (Chg.del n0) p) := hel0
        unfold chgV at cel
        dsimp only at cel
        have eg : ∀ args w, (callFunc 112 args).run Tryz.prog w = .ok (.enter 112 args) w := enters_of Tryz.func112 (by kernel_rfl) rfl
        clear hel0
        go_wp2_with (go_at_call 112; go_loud (refine kd.mono ?_); rintro e w4 ⟨rfl, hM, hG⟩; (have HW4 := Lib.hid (HREM.out w4 (by first | exact hM | exact HDO.out ▸ hM) hG)); clear hM hG kd)
        go_roundg g
        case measure => omega
        case rel => exact ⟨j + 1, by omega, by go_num, HW4.out⟩
      | ren n0 t0 => exact hcap.elim
end Go.Proofs.YteijmjbiaffcmaaGreatDoor.Fi
