/- Joined: WalRecs, WalQuiet, WalAwake0, WalAwakeB, WalAwake. -/
import Derived.Test.YteijmjbiaffcmaaGreatDoorWalOpen
import Derived.Lib.SliceRun
import Derived.Test.YteijmjbiaffcmaaGreatDoorWalApp
/- Contracts of a log's Records, and of the laws' open. -/
set_option maxRecDepth 20000
set_option linter.unusedSimpArgs false
set_option linter.unusedVariables false
namespace Go.Proofs.YteijmjbiaffcmaaGreatDoor
open Go.RowKit Go.Maps Go.Shelf Go.Proofs.YteijmjbiaffcmaaGreatDoor.Vi Go.Proofs.YteijmjbiaffcmaaGreatDoor.Crc Go.Proofs.YteijmjbiaffcmaaGreatDoor.Fr Go.Proofs.YteijmjbiaffcmaaGreatDoor.Fi

/-- A slice of texts of the call's own. -/
def TDone (xs : List ByteArray) (w : World) (e : Ending) (w' : World) : Prop := ∃ u, e = .returned u ∧ w'.ownsRow w.heap.size 9 1 u xs.length (xs.map Value.string) ∧ Below w.heap.size w w'
theorem sclone_nil (w : World) : Calls Tryz.prog 58 #[.slice none 0 0] w (TDone [] w) := by
  have he := fun w => Lib.run_eql_slice_nil (P := Tryz.prog) w 34 9 none 0 0 0 0 Tryz.underlying34
  go_enter Tryz.func58, Tryz.ntmps58
  go_wp2
  go_ret
  exact ⟨_, rfl, World.ownsRow_nil _ _ _ _, Below.refl _ _⟩
set_option maxHeartbeats 1000000 in
theorem sclone_some (g n c : Nat) (L : List ByteArray) (w : World) (hn : Hid (L.length = n)) (hR : w.ownsRow 0 9 1 (.slice (some ⟨g, 0, none⟩) n c) L.length (L.map Value.string)) (hlen : n ≤ 100000000) : Calls Tryz.prog 58 #[.slice (some ⟨g, 0, none⟩) n c] w (TDone L w) := by
  obtain ⟨i0, hi, hz0, hz1, hz2⟩ := info_parts infoS
  have he := fun w => Lib.run_eql_slice_nil (P := Tryz.prog) w 34 9 (some ⟨g, 0, none⟩) n c 0 0 Tryz.underlying34
  have hgw : g < w.heap.size := (World.ownsRow.lt hR g rfl).2
  have hfl : (L.map Value.string).length = n * 1 := by rw [List.length_map, hn.out, Nat.mul_one]
  have hsrc : ∀ j u, (L.map Value.string)[j]? = some u → (w.alloc (.cells #[] 9)).cell? ((⟨g, 0, none⟩ : Addr).add j) = some u := fun j u hu => by
    have h1 := World.ownsRow.cells hR (g := g) rfl j u hu
    rw [Addr.add_lit] at h1 ⊢
    rw [World.cell?_alloc_past (w := w) _ g _ hgw]
    exact h1
  have hone : ∀ u ∈ L.map Value.string, u.oneCell' = true := fun u hu => by
    obtain ⟨x, -, rfl⟩ := List.mem_map.1 hu; rfl
  have hown := World.ownsRow_made (base := w.heap.size) (e := 9) (size := 1) w #[] 0 (Nat.le_refl _) (Nat.zero_le _) rfl
  clear hR
  go_enter Tryz.func58, Tryz.ntmps58
  go_wp2_with (at_builtin; refine wpList_append_own_at _ rfl _ _ 34 rfl w.heap.size 9 i0 (.string ⟨#[]⟩) 1 16 Tryz.underlying34 hi hz0 hz1 hz2 rfl (by decide) _ _ _ rfl hown ⟨g, 0, none⟩ n c (L.map Value.string) rfl hfl hsrc hone ?c3 ?c4 ?c5 ?_)
  case c3 => unfold maxLen; omega
  case c4 => omega
  case c5 => simp
  intro v' w' hown' hgrow _ hfoot
  obtain ⟨a', c', rfl⟩ : ∃ a' c', v' = .slice a' n c' := by
    rcases hown'.2 with ⟨h, h0⟩ | ⟨g', cap', cur', h, _⟩
    · exact ⟨none, 0, by rw [h, show n = 0 by omega]⟩
    · exact ⟨_, _, by rw [h]⟩
  have HR := Lib.hid (show w'.ownsRow w.heap.size 9 1 (.slice a' n c') L.length (L.map Value.string) by
    rw [hn.out]
    simpa using hown')
  have HB := Lib.hid (show Below w.heap.size w w' from ((Below.refl _ w).alloc (Nat.le_refl _) (.cells #[] 9)).grown hgrow (by simp) (fun q hq => (World.ownsRow.lt hown q hq).1))
  clear hown' hgrow hfoot hown hsrc
  go_wp2
  go_ret
  exact ⟨_, rfl, HR.out, HB.out⟩
theorem sclone_is (v : Value) (B : Nat) (L : List ByteArray) (w : World) (hR : w.ownsRow B 9 1 v L.length (L.map Value.string)) (hlen : L.length ≤ 100000000) : Calls Tryz.prog 58 #[v] w (TDone L w) := by
  rcases hR.2 with ⟨rfl, h0⟩ | ⟨g, cap, cur, rfl, hB, hrest⟩
  · obtain rfl := List.eq_nil_of_length_eq_zero h0
    exact sclone_nil w
  · exact sclone_some g L.length cap L w (Lib.hid rfl) ⟨hR.1, Or.inr ⟨g, cap, cur, rfl, Nat.zero_le _, hrest⟩⟩ hlen
theorem records_is {w : World} {b a : Nat} {S : FS} {L : Lay} {W : WS} {v : Value} (h : WalAt w b S L a W v) (hf : Fine W) : Calls Tryz.prog 25 #[.pointer (some ⟨a, 0, none⟩)] w (TDone W.rc w) := by
  have c4 := h.cells.c4
  have kc := sclone_is v 0 W.rc w h.rcs.1 hf.rc
  clear h hf
  go_enter Tryz.func25, Tryz.ntmps25
  go_wp2_with (go_at_call 58; (with_reducible refine kc.mono ?_); rintro _ w1 ⟨u, rfl, hR, hB⟩; (have HR := Lib.hid hR); (have HB := Lib.hid hB); clear hR hB kc)
  go_ret
  exact ⟨_, rfl, HR.out, HB.out⟩
/-- How the laws' open ends. -/
structure OpenedL (b : Nat) (S : FS) (L : Lay) (r : Int × FS × WS) (w : World) (e : Ending) (w' : World) (L' : Lay) (a : Nat) (v : Value) : Prop where
  ret : e = .returned (if r.1 = 0 then .pointer (some ⟨a, 0, none⟩) else .pointer none)
  at_ : WalAt w' b r.2.1 L' a r.2.2 v
  new : w.heap.size ≤ a
  frm : Frm (mods b S L) w w'
  sub : ∀ k, wmods b r.2.1 L' a v k → mods b S L k ∨ w.heap.size ≤ k
theorem lawOpen_is {w : World} {B b : Nat} {S : FS} {L : Lay} (D : Dir w b S L) (hlo : ∀ k, mods b S L k → B ≤ k) (hsz : B ≤ w.heap.size) (hgl : ∀ w', Below B w w' → Glob w') (hchg : S.chg.length ≤ 800000) (hT : ∀ n, (textS (syncL S (numsS S)).2 n).size ≤ 1000000) : Calls Tryz.prog 18 #[.pointer (some ⟨b, 0, none⟩)] w fun e w' => ∃ q, w.heap.size ≤ q ∧ ∃ L' a v, OpenedL b S L (openW S q) w e w' L' a v := by
  have ko := walOpen_is D hlo hsz hgl hchg hT
  clear D hlo hsz hgl hchg hT
  go_enter Tryz.func18, Tryz.ntmps18
  go_upto_if 11 with (go_at_call 38; (with_reducible refine ko.mono ?_); rintro _ w1 ⟨q, hq, L1, a, v, ⟨rfl, ho1, ho2, ho3, ho4⟩⟩; (have HQ := Lib.hid hq); (have HO1 := Lib.hid ho1); (have HO2 := Lib.hid ho2); (have HO3 := Lib.hid ho3); (have HO4 := Lib.hid ho4); (obtain ⟨⟨z, S1, W1⟩, hz⟩ : ∃ r, openW S q = r := ⟨_, rfl⟩); (have HZ := Lib.hid hz); clear hq ho1 ho2 ho3 ho4 ko)
  have hz := HZ.out
  by_cases hz0 : z = 0
  · subst hz0
    simp only [hz, if_pos]
    go_wp2
    go_ret
    exact ⟨q, HQ.out, L1, a, v, ⟨by rw [hz]; rfl, HO1.out, HO2.out, HO3.out, HO4.out⟩⟩
  · have hne : (z != 0) = true := by simpa using hz0
    simp only [hz, if_neg hz0]
    go_wp2
    go_ret
    exact ⟨q, HQ.out, L1, a, v, ⟨by rw [hz]; simp only [if_neg hz0]; rfl, HO1.out, HO2.out, HO3.out, HO4.out⟩⟩
end Go.Proofs.YteijmjbiaffcmaaGreatDoor

/- What a log does to a folder whose power stays. -/
set_option maxRecDepth 20000
set_option linter.unusedSimpArgs false
set_option linter.unusedVariables false
namespace Go.Proofs.YteijmjbiaffcmaaGreatDoor
open Go.RowKit Go.Maps Go.Shelf Go.Proofs.YteijmjbiaffcmaaGreatDoor.Vi Go.Proofs.YteijmjbiaffcmaaGreatDoor.Crc Go.Proofs.YteijmjbiaffcmaaGreatDoor.Fr Go.Proofs.YteijmjbiaffcmaaGreatDoor.Fi

structure Quiet (S : FS) : Prop where
  on : S.on = true
  ar : S.armed = false
  srt : Srt S.now
theorem check_q {S : FS} (h : Quiet S) {n : ByteArray} (hn : okS n = true) : checkS S [n] = 0 := by
  unfold checkS
  rw [h.on]
  simp [hn]
theorem find_q {S : FS} (h : Quiet S) {n : ByteArray} (hn : okS n = true) {q : Nat} (hl : Fi.look S.now (nm n) = some q) : findS S n = (some q, 0) := by
  unfold findS
  rw [check_q h hn, hl]
  rfl
theorem find_q0 {S : FS} (h : Quiet S) {n : ByteArray} (hn : okS n = true) (hl : Fi.look S.now (nm n) = none) : findS S n = (none, 12) := by
  unfold findS
  rw [check_q h hn, hl]
  rfl
theorem step_q {S : FS} (h : Quiet S) : stepS S = (true, S) := by
  unfold stepS
  rw [if_pos h.ar]
theorem stepD_q {S : FS} (h : Quiet S) : stepD S = (0, S) := by
  unfold stepD
  rw [step_q h]; rfl
theorem create_q {S : FS} (h : Quiet S) {n : ByteArray} {q : Nat} (hn : okS n = true) (hl : Fi.look S.now (nm n) = none) (h64 : S.now.length < 64) : createS S n q = (0, doS (addS S q) (.mk (nm n) q)) := by
  unfold createS
  rw [check_q h hn, hl, if_neg (by decide), if_neg (by simp), if_neg (by omega)]
  exact stepD_q ⟨h.on, h.ar, putM_srt h.srt⟩
theorem append_q {S : FS} (h : Quiet S) {n t : ByteArray} {q : Nat} {s : ByteArray} {k : Nat} (hn : okS n = true) (hl : Fi.look S.now (nm n) = some q) (hf : filQ S.fil q = some ⟨q, s, k⟩) (hu : (usedS S : Int) + (t.size : Int) ≤ S.room) : appendS S n t = (0, updS S q (s ++ t) k) := by
  unfold appendS
  rw [find_q h hn hl]
  dsimp only
  rw [if_neg (by omega)]
  unfold filS
  rw [hf]
  exact stepD_q ⟨h.on, h.ar, h.srt⟩
theorem sync_q {S : FS} (h : Quiet S) {n : ByteArray} {q : Nat} {s : ByteArray} {k : Nat} (hn : okS n = true) (hl : Fi.look S.now (nm n) = some q) (hf : filQ S.fil q = some ⟨q, s, k⟩) : syncS S n = (0, updS S q s s.size) := by
  unfold syncS
  rw [find_q h hn hl]
  dsimp only
  rw [step_q h, if_pos rfl]
  unfold filS
  rw [hf]
  rfl
theorem read_q {S : FS} (h : Quiet S) {n : ByteArray} {q : Nat} {s : ByteArray} {k : Nat} (hn : okS n = true) (hl : Fi.look S.now (nm n) = some q) (hf : filQ S.fil q = some ⟨q, s, k⟩) : readS S n = (s, 0) := by
  unfold readS
  rw [find_q h hn hl]
  dsimp only
  unfold filS
  rw [hf]
  rfl
theorem syncDir_q {S : FS} (h : Quiet S) : syncDirS S = (0, settleS S) := by
  unfold syncDirS
  rw [if_neg (by rw [h.on]; decide), step_q h, if_pos rfl]
theorem delete_q {S : FS} (h : Quiet S) {n : ByteArray} {q : Nat} (hn : okS n = true) (hl : Fi.look S.now (nm n) = some q) : deleteS S n = (0, doS S (.del (nm n))) := by
  unfold deleteS
  rw [find_q h hn hl]
  exact stepD_q ⟨h.on, h.ar, delM_srt h.srt⟩
theorem filQ_last {F : List Fil} {q : Nat} (hq : ∀ f ∈ F, f.q ≠ q) (s : ByteArray) (k : Nat) : filQ (F ++ [⟨q, s, k⟩]) q = some ⟨q, s, k⟩ := by
  unfold filQ
  rw [List.find?_append]
  rw [List.find?_eq_none.2 (fun f hf => by simpa using hq f hf)]
  simp
theorem updQ_last {F : List Fil} {q : Nat} (hq : ∀ f ∈ F, f.q ≠ q) (s : ByteArray) (k : Nat) (s' : ByteArray) (k' : Nat) : updQ (F ++ [⟨q, s, k⟩]) q s' k' = F ++ [⟨q, s', k'⟩] := by
  unfold updQ
  rw [List.map_append]
  congr 1
  · refine (List.map_congr_left fun f hf => ?_).trans (List.map_id _)
    rw [if_neg (hq f hf)]; rfl
  · simp
theorem nm_tx (l : List UInt8) : nm (tx l) = l := by simp [nm, tx]
theorem seg_ok {n : Nat} : okS (tx (seg n)) = true := by
  unfold okS
  rw [nm_tx]
  unfold okN
  rw [seg_len]
  have h : ∀ x ∈ seg n, inN x = true := by
    intro x hx
    unfold seg at hx
    rcases List.mem_cons.1 hx with rfl | hx
    · decide
    rcases List.mem_cons.1 hx with rfl | hx
    · decide
    · unfold digs8 at hx
      obtain ⟨t, -, rfl⟩ := List.mem_map.1 hx
      unfold inN
      have := dg_nat n (7 - t)
      rw [this]
      have := Nat.mod_lt (n / 10 ^ (7 - t)) (show 0 < 10 by decide)
      simp
      omega
  simp [List.all_eq_true]
  exact h
theorem seg_inj {n m : Nat} (h1 : 1 ≤ n ∧ n ≤ 99999999) (h2 : 1 ≤ m ∧ m ≤ 99999999) (h : seg n = seg m) : n = m := by
  have e := numN_seg h1.1 h1.2
  rw [h, numN_seg h2.1 h2.2] at e
  injection e with e
  exact e.symm
def newSeg (S : FS) (n q : Nat) (hd : ByteArray) : FS := { S with now := putM (seg n) q S.now, firm := putM (seg n) q S.now, chg := [], fil := S.fil ++ [⟨q, hd, hd.size⟩] }
theorem begin_q {S : FS} (h : Quiet S) {W : WS} {k : Bool} {st : ByteArray} {q n : Nat} (hn : beginN S = (n : Int)) (h1 : 1 ≤ n ∧ n ≤ 99999999) (hl : Fi.look S.now (seg n) = none) (h64 : S.now.length < 64) (hq : ∀ f ∈ S.fil, f.q ≠ q) {hd : ByteArray} (hh : headB (lastW W + 1) k st = hd) (hs : hd.size ≠ 0) (hu : (usedS (doS (addS S q) (.mk (seg n) q)) : Int) + (hd.size : Int) ≤ S.room) : beginW S W k st q = (0, newSeg S n q hd, { W with sg := (n : Int) }) := by
  have hsg : segI (n : Int) = seg n := segI_nat h1
  have e1 : createS S (tx (seg n)) q = (0, doS (addS S q) (.mk (seg n) q)) := by
    have := create_q (q := q) h (seg_ok (n := n)) (by rw [nm_tx]; exact hl) h64
    rw [nm_tx] at this; exact this
  have q2 : Quiet (doS (addS S q) (.mk (seg n) q)) := ⟨h.on, h.ar, putM_srt h.srt⟩
  have l2 : Fi.look (doS (addS S q) (.mk (seg n) q)).now (nm (tx (seg n))) = some q := by
    rw [nm_tx]
    show Fi.look (putM (seg n) q S.now) (seg n) = _
    rw [look_put h.srt, if_pos rfl]
  have e2 : appendS (doS (addS S q) (.mk (seg n) q)) (tx (seg n)) hd = (0, updS (doS (addS S q) (.mk (seg n) q)) q hd 0) := by
    have := append_q (t := hd) q2 (seg_ok (n := n)) l2 (filQ_last hq ⟨#[]⟩ 0) hu
    rw [this]
    congr 2
  have q3 : Quiet (updS (doS (addS S q) (.mk (seg n) q)) q hd 0) := ⟨h.on, h.ar, q2.srt⟩
  have f3 : filQ (updS (doS (addS S q) (.mk (seg n) q)) q hd 0).fil q = some ⟨q, hd, 0⟩ := by
    show filQ (updQ (S.fil ++ [⟨q, ⟨#[]⟩, 0⟩]) q hd 0) q = _
    rw [updQ_last hq]; exact filQ_last hq _ _
  have e3 := sync_q q3 (seg_ok (n := n)) l2 f3
  have q4 : Quiet (updS (updS (doS (addS S q) (.mk (seg n) q)) q hd 0) q hd hd.size) := ⟨h.on, h.ar, q2.srt⟩
  have e4 := syncDir_q q4
  unfold beginW
  rw [hn, hh, hsg]
  dsimp only
  rw [if_neg (by rw [tx_size, seg_len]; omega)]
  simp only [erB, stB, e1, e2, e3, e4]
  simp only [ne_eq, not_true_eq_false, if_false]
  unfold settleS updS newSeg
  show (0, ({ S with now := _, firm := _, chg := [], fil := updQ (updQ (S.fil ++ [⟨q, ⟨#[]⟩, 0⟩]) q hd 0) q hd hd.size } : FS), _) = _
  rw [updQ_last hq, updQ_last hq]
  rfl
end Go.Proofs.YteijmjbiaffcmaaGreatDoor

/- The chapter's examples, as mathematics. -/
set_option maxRecDepth 20000
set_option linter.unusedSimpArgs false
set_option linter.unusedVariables false
namespace Go.Proofs.YteijmjbiaffcmaaGreatDoor
open Go.RowKit Go.Maps Go.Shelf Go.Proofs.YteijmjbiaffcmaaGreatDoor.Vi Go.Proofs.YteijmjbiaffcmaaGreatDoor.Crc Go.Proofs.YteijmjbiaffcmaaGreatDoor.Fr Go.Proofs.YteijmjbiaffcmaaGreatDoor.Fi

theorem stepR_congr {T T' : Nat → ByteArray} {n : Nat} (h : T n = T' n) (acc : Nat × WS) : stepR T acc n = stepR T' acc n := by unfold stepR; rw [h]
theorem read_size {S : FS} {B : Nat} (h : ∀ f ∈ S.fil, f.s.size ≤ B) (n : ByteArray) : (readS S n).1.size ≤ B := by
  unfold readS
  split
  · rename_i q e hf
    show (filS S q).s.size ≤ B
    unfold filS
    cases hq : filQ S.fil q with
    | none => exact Nat.zero_le _
    | some f => exact h f (filQ_mem hq).1
  · exact Nat.zero_le _
def aH1 : ByteArray := headB 1 true ⟨#[]⟩
def aH2 : ByteArray := headB 1 false ⟨#[]⟩
def aH3 : ByteArray := headB 2 true ⟨#[115]⟩
def aH4 : ByteArray := headB 2 false ⟨#[]⟩
def aFA : ByteArray := tx (frs (byL [⟨#[97]⟩]))
def aFAB : ByteArray := tx (frs (byL [⟨#[97]⟩, ⟨#[98]⟩]))
theorem aH1_size : aH1.size = 8 := by kernel_rfl
theorem aH2_size : aH2.size = 8 := by kernel_rfl
theorem aH3_size : aH3.size = 9 := by kernel_rfl
theorem aH4_size : aH4.size = 8 := by kernel_rfl
theorem aFA_size : aFA.size = 6 := by kernel_rfl
theorem aFAB_size : aFAB.size = 12 := by kernel_rfl
def aS1 (q0 : Nat) (s : ByteArray) : FS := ⟨100000, [(seg 1, q0)], [(seg 1, q0)], [], true, false, 0, [⟨q0, s, 8⟩]⟩
def aS2 (q0 q1 : Nat) (s : ByteArray) (k : Nat) : FS := ⟨100000, [(seg 1, q0), (seg 2, q1)], [(seg 1, q0), (seg 2, q1)], [], true, false, 0, [⟨q0, aH1, 8⟩, ⟨q1, s, k⟩]⟩
def aS3 (q0 q1 q2 : Nat) : FS := ⟨100000, [(seg 3, q2)], [(seg 3, q2)], [], true, false, 0, [⟨q0, aH1, 8⟩, ⟨q1, aH2 ++ aFA, 14⟩, ⟨q2, aH3, 9⟩]⟩
def aS4 (q0 q1 q2 q3 : Nat) : FS := ⟨100000, [(seg 3, q2), (seg 4, q3)], [(seg 3, q2), (seg 4, q3)], [], true, false, 0, [⟨q0, aH1, 8⟩, ⟨q1, aH2 ++ aFA, 14⟩, ⟨q2, aH3, 9⟩, ⟨q3, aH4, 8⟩]⟩
def aW (sg : Int) (st : ByteArray) (fi : Int) (rc : List ByteArray) (fm : Int) : WS := ⟨sg, st, fi, rc, fm, false⟩
theorem srt1 (n q : Nat) : Srt [(seg n, q)] := List.pairwise_singleton _ _
theorem seg12 : bytesBefore (seg 1) (seg 2) = true := by kernel_rfl
theorem seg34 : bytesBefore (seg 3) (seg 4) = true := by kernel_rfl
theorem q_s1 (q0 : Nat) (s : ByteArray) : Quiet (aS1 q0 s) := ⟨rfl, rfl, srt1 1 q0⟩
theorem srt2 {n m q r : Nat} (h : bytesBefore (seg n) (seg m) = true) : Srt [(seg n, q), (seg m, r)] := by
  refine List.pairwise_cons.2 ⟨fun p hp => ?_, srt1 m r⟩
  rw [List.mem_singleton] at hp
  subst hp; exact h
theorem q_s2 (q0 q1 : Nat) (s : ByteArray) (k : Nat) : Quiet (aS2 q0 q1 s k) := ⟨rfl, rfl, srt2 seg12⟩
theorem q_s3 (q0 q1 q2 : Nat) : Quiet (aS3 q0 q1 q2) := ⟨rfl, rfl, srt1 3 q2⟩
theorem q_s0 : Quiet (emptyS 100000) := ⟨rfl, rfl, List.Pairwise.nil⟩
theorem a_open1 (q0 : Nat) : openW (emptyS 100000) q0 = (0, aS1 q0 aH1, aW 1 ⟨#[]⟩ 1 [] 0) := by
  have e1 : openW (emptyS 100000) q0 = open3 0 (beginW (emptyS 100000) (aW 0 ⟨#[]⟩ 1 [] 0) true ⟨#[]⟩ q0) := rfl
  have e2 := begin_q (n := 1) (W := aW 0 ⟨#[]⟩ 1 [] 0) (k := true) (st := ⟨#[]⟩) (q := q0) (hd := aH1) q_s0 rfl (by decide) rfl (by decide) (by intro f hf; cases hf) rfl (by rw [aH1_size]; decide) (by
    rw [aH1_size]
    show ((usedS ⟨100000, [(seg 1, q0)], [], _, true, false, 0, [⟨q0, ⟨#[]⟩, 0⟩]⟩ : Nat) : Int) + 8 ≤ 100000
    simp [usedS, szQ, filQ]
    decide)
  rw [e1, e2]
  have e3 : newSeg (emptyS 100000) 1 q0 aH1 = aS1 q0 aH1 := by unfold newSeg; rw [aH1_size]; rfl
  rw [e3]
  have e4 : numsS (aS1 q0 aH1) = [1] := by kernel_rfl
  unfold open3
  rw [if_neg (by simp)]
  dsimp only
  rw [e4]
  rfl
theorem a_app1 (q0 : Nat) : appendW (aS1 q0 aH1) (aW 1 ⟨#[]⟩ 1 [] 0) [⟨#[97]⟩, ⟨#[98]⟩] = (0, aS1 q0 (aH1 ++ aFAB), aW 1 ⟨#[]⟩ 1 [⟨#[97]⟩, ⟨#[98]⟩] 0) := by
  have e1 := append_q (n := tx (seg 1)) (t := aFAB) (q := q0) (s := aH1) (k := 8) (q_s1 q0 aH1) seg_ok (by rw [nm_tx]; show Fi.look [(seg 1, q0)] (seg 1) = some q0; kernel_rfl) (by simp [aS1, filQ]) (by
    rw [aFAB_size]
    show ((usedS (aS1 q0 aH1) : Nat) : Int) + 12 ≤ 100000
    simp [usedS, szQ, filQ, aS1, aH1_size])
  have e2 : updS (aS1 q0 aH1) q0 (aH1 ++ aFAB) 8 = aS1 q0 (aH1 ++ aFAB) := by simp [updS, updQ, aS1]
  rw [e2] at e1
  unfold appendW
  rw [if_neg (by decide), if_neg (by decide)]
  have e3 : segW (aW 1 ⟨#[]⟩ 1 [] 0) = tx (seg 1) := rfl
  have e4 : tx (frs (byL [⟨#[97]⟩, ⟨#[98]⟩])) = aFAB := rfl
  rw [e3, e4, e1, if_pos rfl]
  rfl
theorem a_cut1 : (aH1 ++ aFAB).extract 0 8 = aH1 := by kernel_rfl
theorem a_crash1 (q0 : Nat) : crashS (aS1 q0 (aH1 ++ aFAB)) [] = aS1 q0 aH1 := by
  have e : crashS (aS1 q0 (aH1 ++ aFAB)) [] = { aS1 q0 (aH1 ++ aFAB) with fil := cutQ [] 1 q0 [⟨q0, aH1 ++ aFAB, 8⟩] } := rfl
  rw [e]
  unfold cutQ
  have e2 : filQ [⟨q0, aH1 ++ aFAB, 8⟩] q0 = some ⟨q0, aH1 ++ aFAB, 8⟩ := by simp [filQ]
  rw [e2]
  dsimp only
  have e3 : pickI [] 1 ((aH1 ++ aFAB).size - 8) = 0 := rfl
  rw [e3, a_cut1]
  simp [updQ, aS1]
theorem a_sync1 (q0 : Nat) : syncL (aS1 q0 aH1) [1] = (0, aS1 q0 aH1) := by
  have e1 := sync_q (n := tx (seg 1)) (q := q0) (s := aH1) (k := 8) (q_s1 q0 aH1) seg_ok (by rw [nm_tx]; show Fi.look [(seg 1, q0)] (seg 1) = some q0; kernel_rfl) (by simp [aS1, filQ])
  have e2 : updS (aS1 q0 aH1) q0 aH1 aH1.size = aS1 q0 aH1 := by simp [updS, updQ, aS1, aH1_size]
  rw [e2] at e1
  unfold syncL
  rw [e1, if_neg (by simp)]
  rfl
theorem a_step1 : stepR (fun _ => aH1) (0, newW) 1 = (1, newW) := by kernel_rfl
theorem a_step3 : stepR (fun _ => aH3) (0, newW) 3 = (3, aW 0 ⟨#[115]⟩ 2 [] 0) := by kernel_rfl
theorem a_read1 (q0 : Nat) : readN (textS (aS1 q0 aH1)) [1] newW = (1, newW) := by
  show stepR (textS (aS1 q0 aH1)) (0, newW) 1 = _
  have e1 := read_q (n := tx (seg 1)) (q := q0) (s := aH1) (k := 8) (q_s1 q0 aH1) seg_ok (by rw [nm_tx]; show Fi.look [(seg 1, q0)] (seg 1) = some q0; kernel_rfl) (by simp [aS1, filQ])
  rw [stepR_congr (T' := fun _ => aH1) (by unfold textS; rw [e1])]
  exact a_step1
theorem a_open2 {q0 q1 : Nat} (h : q0 < q1) : openW (aS1 q0 aH1) q1 = (0, aS2 q0 q1 aH2 8, aW 2 ⟨#[]⟩ 1 [] 0) := by
  have e0 : numsS (aS1 q0 aH1) = [1] := by kernel_rfl
  have e2 := begin_q (n := 2) (W := aW 0 ⟨#[]⟩ 1 [] 0) (k := false) (st := ⟨#[]⟩) (q := q1) (hd := aH2) (q_s1 q0 aH1) (by unfold beginN; rw [e0]; rfl) (by decide) (by kernel_rfl) (by show 1 < 64; decide) (by intro f hf; have : f = ⟨q0, aH1, 8⟩ := List.mem_singleton.1 hf; subst this; show q0 ≠ q1; omega) rfl (by rw [aH2_size]; decide) (by
    rw [aH2_size]
    show ((usedS ⟨100000, [(seg 1, q0), (seg 2, q1)], _, _, true, false, 0, [⟨q0, aH1, 8⟩, ⟨q1, ⟨#[]⟩, 0⟩]⟩ : Nat) : Int) + 8 ≤ 100000
    have h1 : q0 ≠ q1 := by omega
    simp [usedS, szQ, filQ, h1, aH1_size]
    decide)
  have e3 : newSeg (aS1 q0 aH1) 2 q1 aH2 = aS2 q0 q1 aH2 8 := by unfold newSeg; rw [aH2_size]; rfl
  rw [e3] at e2
  unfold openW
  rw [e0, a_sync1, if_neg (by simp)]
  unfold open2
  dsimp only
  rw [e0, a_read1]
  have e5 : firmW newW = aW 0 ⟨#[]⟩ 1 [] 0 := rfl
  have e4 : numsS (aS2 q0 q1 aH2 8) = [1, 2] := by kernel_rfl
  show open3 1 (beginW (aS1 q0 aH1) (firmW newW) false ⟨#[]⟩ q1) = _
  rw [e5, e2]
  unfold open3
  rw [if_neg (by simp)]
  dsimp only
  rw [e4]
  rfl
theorem a_look2 (q0 q1 : Nat) : Fi.look [(seg 1, q0), (seg 2, q1)] (seg 2) = some q1 := by kernel_rfl
theorem a_app2 {q0 q1 : Nat} (h : q0 < q1) : appendW (aS2 q0 q1 aH2 8) (aW 2 ⟨#[]⟩ 1 [] 0) [⟨#[97]⟩] = (0, aS2 q0 q1 (aH2 ++ aFA) 8, aW 2 ⟨#[]⟩ 1 [⟨#[97]⟩] 0) := by
  have h1 : q0 ≠ q1 := by omega
  have e1 := append_q (n := tx (seg 2)) (t := aFA) (q := q1) (s := aH2) (k := 8) (q_s2 q0 q1 aH2 8) seg_ok (by rw [nm_tx]; exact a_look2 q0 q1) (by simp [aS2, filQ, h1]) (by
    rw [aFA_size]
    show ((usedS (aS2 q0 q1 aH2 8) : Nat) : Int) + 6 ≤ 100000
    simp [usedS, szQ, filQ, aS2, h1, aH1_size, aH2_size])
  have e2 : updS (aS2 q0 q1 aH2 8) q1 (aH2 ++ aFA) 8 = aS2 q0 q1 (aH2 ++ aFA) 8 := by simp [updS, updQ, aS2, h1]
  rw [e2] at e1
  unfold appendW
  rw [if_neg (by decide), if_neg (by decide)]
  have e3 : segW (aW 2 ⟨#[]⟩ 1 [] 0) = tx (seg 2) := rfl
  have e4 : tx (frs (byL [⟨#[97]⟩])) = aFA := rfl
  rw [e3, e4, e1, if_pos rfl]
  rfl
theorem a_size2 : (aH2 ++ aFA).size = 14 := by kernel_rfl
theorem a_settle2 {q0 q1 k : Nat} (h : q0 < q1) (fm : Int) : settleW (aS2 q0 q1 (aH2 ++ aFA) k) (aW 2 ⟨#[]⟩ 1 [⟨#[97]⟩] fm) = (0, aS2 q0 q1 (aH2 ++ aFA) 14, aW 2 ⟨#[]⟩ 1 [⟨#[97]⟩] 1) := by
  have h1 : q0 ≠ q1 := by omega
  have e1 := sync_q (n := tx (seg 2)) (q := q1) (s := aH2 ++ aFA) (k := k) (q_s2 q0 q1 (aH2 ++ aFA) k) seg_ok (by rw [nm_tx]; exact a_look2 q0 q1) (by simp [aS2, filQ, h1])
  have e2 : updS (aS2 q0 q1 (aH2 ++ aFA) k) q1 (aH2 ++ aFA) (aH2 ++ aFA).size = aS2 q0 q1 (aH2 ++ aFA) 14 := by simp [updS, updQ, aS2, h1]; rw [aH2_size, aFA_size]
  rw [e2] at e1
  unfold settleW
  have e3 : segW (aW 2 ⟨#[]⟩ 1 [⟨#[97]⟩] fm) = tx (seg 2) := rfl
  rw [e3, e1, if_pos rfl]
  rfl
theorem a_sync2 {q0 q1 : Nat} (h : q0 < q1) (q : Nat) : syncW (aS2 q0 q1 (aH2 ++ aFA) 8) (aW 2 ⟨#[]⟩ 1 [⟨#[97]⟩] 0) q = (0, aS2 q0 q1 (aH2 ++ aFA) 14, aW 2 ⟨#[]⟩ 1 [⟨#[97]⟩] 1) := by
  have h1 : q0 ≠ q1 := by omega
  unfold syncW
  rw [a_settle2 h, if_neg (by decide), if_neg (by simp)]
  have e1 := read_q (n := tx (seg 2)) (q := q1) (s := aH2 ++ aFA) (k := 14) (q_s2 q0 q1 (aH2 ++ aFA) 14) seg_ok (by rw [nm_tx]; exact a_look2 q0 q1) (by simp [aS2, filQ, h1])
  have e3 : segW (aW 2 ⟨#[]⟩ 1 [⟨#[97]⟩] 0) = tx (seg 2) := rfl
  rw [e3]
  dsimp only
  rw [e1, if_pos (by rw [a_size2]; decide)]
def aC1 (q0 q1 q2 : Nat) : FS := ⟨100000, [(seg 1, q0), (seg 2, q1), (seg 3, q2)], [(seg 1, q0), (seg 2, q1), (seg 3, q2)], [], true, false, 0, [⟨q0, aH1, 8⟩, ⟨q1, aH2 ++ aFA, 14⟩, ⟨q2, aH3, 9⟩]⟩
theorem a_ckpt {q0 q1 q2 : Nat} (h : q0 < q1) (h2 : q1 < q2) : ckptW (aS2 q0 q1 (aH2 ++ aFA) 14) (aW 2 ⟨#[]⟩ 1 [⟨#[97]⟩] 1) ⟨#[115]⟩ q2 = (0, aS3 q0 q1 q2, aW 3 ⟨#[115]⟩ 2 [] 1) := by
  have h1 : q0 ≠ q1 := by omega
  have h3 : q1 ≠ q2 := by omega
  have h4 : q0 ≠ q2 := by omega
  have e0 : numsS (aS2 q0 q1 (aH2 ++ aFA) 14) = [1, 2] := by kernel_rfl
  have e2 := begin_q (n := 3) (W := aW 2 ⟨#[]⟩ 1 [⟨#[97]⟩] 1) (k := true) (st := ⟨#[115]⟩) (q := q2) (hd := aH3) (q_s2 q0 q1 (aH2 ++ aFA) 14) (by unfold beginN; rw [e0]; rfl) (by decide) (by kernel_rfl) (by show 2 < 64; decide) (by
    intro f hf
    rcases List.mem_cons.1 hf with rfl | hf
    · show q0 ≠ q2; omega
    · have : f = ⟨q1, aH2 ++ aFA, 14⟩ := List.mem_singleton.1 hf
      subst this; show q1 ≠ q2; omega) rfl (by rw [aH3_size]; decide) (by
    rw [aH3_size]
    show ((usedS ⟨100000, [(seg 1, q0), (seg 2, q1), (seg 3, q2)], _, _, true, false, 0, [⟨q0, aH1, 8⟩, ⟨q1, aH2 ++ aFA, 14⟩, ⟨q2, ⟨#[]⟩, 0⟩]⟩ : Nat) : Int) + 9 ≤ 100000
    have a2 := a_size2
    simp [usedS, szQ, filQ, h1, h3, h4, aH1_size, aH2_size, aFA_size]
    decide)
  have e3 : newSeg (aS2 q0 q1 (aH2 ++ aFA) 14) 3 q2 aH3 = aC1 q0 q1 q2 := by unfold newSeg; rw [aH3_size]; rfl
  rw [e3] at e2
  have e4 : numsS (aC1 q0 q1 q2) = [1, 2, 3] := by kernel_rfl
  have q1' : Quiet (aC1 q0 q1 q2) := ⟨rfl, rfl, by
    have := putM_srt (n := seg 3) (q := q2) (q_s2 q0 q1 (aH2 ++ aFA) 14).srt
    exact this⟩
  have d1 := delete_q (n := tx (seg 1)) (q := q0) q1' seg_ok (by rw [nm_tx]; kernel_rfl)
  have q2' : Quiet (doS (aC1 q0 q1 q2) (.del (seg 1))) := ⟨rfl, rfl, delM_srt q1'.srt⟩
  have d2 := delete_q (n := tx (seg 2)) (q := q1) q2' seg_ok (by rw [nm_tx]; kernel_rfl)
  have q3' : Quiet (doS (doS (aC1 q0 q1 q2) (.del (seg 1))) (.del (seg 2))) := ⟨rfl, rfl, delM_srt q2'.srt⟩
  have d3 := syncDir_q q3'
  have e5 : settleS (doS (doS (aC1 q0 q1 q2) (.del (seg 1))) (.del (seg 2))) = aS3 q0 q1 q2 := by kernel_rfl
  rw [nm_tx] at d1 d2
  unfold ckptW
  rw [a_settle2 h, if_neg (by decide), if_neg (by decide), if_neg (by simp)]
  dsimp only
  rw [e2]
  unfold ckpt2
  rw [if_neg (by simp)]
  dsimp only
  rw [e4]
  have e6 : ckpt3 (aW 3 ⟨#[]⟩ 1 [⟨#[97]⟩] 1) ⟨#[115]⟩ = aW 3 ⟨#[115]⟩ 2 [] 1 := rfl
  have e7 : removeL (fun n => ((n : Int) != 3)) [1, 2, 3] (aC1 q0 q1 q2) (aW 3 ⟨#[115]⟩ 2 [] 1) = (0, doS (doS (aC1 q0 q1 q2) (.del (seg 1))) (.del (seg 2)), aW 3 ⟨#[115]⟩ 2 [] 1) := by
    unfold removeL
    rw [if_pos (by decide), d1, if_neg (by simp)]
    unfold removeL
    rw [if_pos (by decide), d2, if_neg (by simp)]
    rfl
  show ckpt4 (removeL (fun n => ((n : Int) != 3)) [1, 2, 3] (aC1 q0 q1 q2) (ckpt3 (aW 3 ⟨#[]⟩ 1 [⟨#[97]⟩] 1) ⟨#[115]⟩)) = _
  rw [e6, e7]
  unfold ckpt4
  rw [if_neg (by simp)]
  dsimp only
  rw [d3, e5]
  rfl
theorem a_cut3 : aH3.extract 0 9 = aH3 := by kernel_rfl
theorem a_crash3 {q0 q1 q2 : Nat} (h : q0 < q1) (h2 : q1 < q2) : crashS (aS3 q0 q1 q2) [] = aS3 q0 q1 q2 := by
  have h3 : q1 ≠ q2 := by omega
  have h4 : q0 ≠ q2 := by omega
  have e : crashS (aS3 q0 q1 q2) [] = { aS3 q0 q1 q2 with fil := cutQ [] 1 q2 (aS3 q0 q1 q2).fil } := rfl
  rw [e]
  unfold cutQ
  have e2 : filQ (aS3 q0 q1 q2).fil q2 = some ⟨q2, aH3, 9⟩ := by simp [filQ, aS3, h3, h4]
  rw [e2]
  dsimp only
  have e3 : pickI [] 1 (aH3.size - 9) = 0 := rfl
  rw [e3, a_cut3]
  simp [updQ, aS3, h3, h4]
theorem a_open3 {q0 q1 q2 q3 : Nat} (h : q0 < q1) (h2 : q1 < q2) (h3 : q2 < q3) : openW (aS3 q0 q1 q2) q3 = (0, aS4 q0 q1 q2 q3, aW 4 ⟨#[115]⟩ 2 [] 1) := by
  have h02 : q0 ≠ q2 := by omega
  have h12 : q1 ≠ q2 := by omega
  have h23 : q2 ≠ q3 := by omega
  have h13 : q1 ≠ q3 := by omega
  have h03 : q0 ≠ q3 := by omega
  have e0 : numsS (aS3 q0 q1 q2) = [3] := by kernel_rfl
  have hlk : Fi.look (aS3 q0 q1 q2).now (seg 3) = some q2 := by kernel_rfl
  have hfq : filQ (aS3 q0 q1 q2).fil q2 = some ⟨q2, aH3, 9⟩ := by simp [filQ, aS3, h12, h02]
  have s1 := sync_q (n := tx (seg 3)) (q_s3 q0 q1 q2) seg_ok (by rw [nm_tx]; exact hlk) hfq
  have s2 : updS (aS3 q0 q1 q2) q2 aH3 aH3.size = aS3 q0 q1 q2 := by simp [updS, updQ, aS3, aH3_size, h02, h12]
  rw [s2] at s1
  have s3 : syncL (aS3 q0 q1 q2) [3] = (0, aS3 q0 q1 q2) := by
    unfold syncL
    rw [s1, if_neg (by simp)]
    rfl
  have r1 := read_q (n := tx (seg 3)) (q_s3 q0 q1 q2) seg_ok (by rw [nm_tx]; exact hlk) hfq
  have r2 : readN (textS (aS3 q0 q1 q2)) [3] newW = (3, aW 0 ⟨#[115]⟩ 2 [] 0) := by
    show stepR (textS (aS3 q0 q1 q2)) (0, newW) 3 = _
    rw [stepR_congr (T' := fun _ => aH3) (by unfold textS; rw [r1])]
    exact a_step3
  have e2 := begin_q (n := 4) (W := aW 0 ⟨#[115]⟩ 2 [] 1) (k := false) (st := ⟨#[]⟩) (q := q3) (hd := aH4) (q_s3 q0 q1 q2) (by unfold beginN; rw [e0]; rfl) (by decide) (by kernel_rfl) (by show 1 < 64; decide) (by
    intro f hf
    rcases List.mem_cons.1 hf with rfl | hf
    · exact h03
    rcases List.mem_cons.1 hf with rfl | hf
    · exact h13
    · have : f = ⟨q2, aH3, 9⟩ := List.mem_singleton.1 hf
      subst this; exact h23) rfl (by rw [aH4_size]; decide) (by
    rw [aH4_size]
    show ((usedS ⟨100000, [(seg 3, q2), (seg 4, q3)], _, _, true, false, 0, [⟨q0, aH1, 8⟩, ⟨q1, aH2 ++ aFA, 14⟩, ⟨q2, aH3, 9⟩, ⟨q3, ⟨#[]⟩, 0⟩]⟩ : Nat) : Int) + 8 ≤ 100000
    simp [usedS, szQ, filQ, h02, h12, h23, h13, h03, aH3_size]
    decide)
  have e3 : newSeg (aS3 q0 q1 q2) 4 q3 aH4 = aS4 q0 q1 q2 q3 := by unfold newSeg; rw [aH4_size]; rfl
  rw [e3] at e2
  unfold openW
  rw [e0, s3, if_neg (by simp)]
  unfold open2
  dsimp only
  rw [e0, r2]
  have e5 : firmW (aW 0 ⟨#[115]⟩ 2 [] 0) = aW 0 ⟨#[115]⟩ 2 [] 1 := rfl
  have e4 : numsS (aS4 q0 q1 q2 q3) = [3, 4] := by kernel_rfl
  show open3 3 (beginW (aS3 q0 q1 q2) (firmW (aW 0 ⟨#[115]⟩ 2 [] 0)) false ⟨#[]⟩ q3) = _
  rw [e5, e2]
  unfold open3
  rw [if_neg (by simp)]
  dsimp only
  rw [e4]
  rfl
theorem a_nums1 (q0 : Nat) : numsS (aS1 q0 aH1) = [1] := by kernel_rfl
theorem a_nums3 (q0 q1 q2 : Nat) : numsS (aS3 q0 q1 q2) = [3] := by kernel_rfl
theorem a_sync3 {q0 q1 q2 : Nat} (h : q0 < q1) (h2 : q1 < q2) : syncL (aS3 q0 q1 q2) [3] = (0, aS3 q0 q1 q2) := by
  have h02 : q0 ≠ q2 := by omega
  have h12 : q1 ≠ q2 := by omega
  have hlk : Fi.look (aS3 q0 q1 q2).now (seg 3) = some q2 := by kernel_rfl
  have hfq : filQ (aS3 q0 q1 q2).fil q2 = some ⟨q2, aH3, 9⟩ := by simp [filQ, aS3, h12, h02]
  have s1 := sync_q (n := tx (seg 3)) (q_s3 q0 q1 q2) seg_ok (by rw [nm_tx]; exact hlk) hfq
  have s2 : updS (aS3 q0 q1 q2) q2 aH3 aH3.size = aS3 q0 q1 q2 := by simp [updS, updQ, aS3, aH3_size, h02, h12]
  rw [s2] at s1
  unfold syncL
  rw [s1, if_neg (by simp)]
  rfl
theorem a_text0 (n : Nat) : (textS (syncL (emptyS 100000) (numsS (emptyS 100000))).2 n).size ≤ 1000000 := by
  show (readS (emptyS 100000) _).1.size ≤ _
  exact read_size (fun f hf => by cases hf) _
theorem a_text1 (q0 n : Nat) : (textS (syncL (aS1 q0 aH1) (numsS (aS1 q0 aH1))).2 n).size ≤ 1000000 := by
  rw [a_nums1, a_sync1]
  refine read_size (fun f hf => ?_) _
  have : f = ⟨q0, aH1, 8⟩ := List.mem_singleton.1 hf
  subst this
  show aH1.size ≤ _
  rw [aH1_size]; decide
theorem a_text3 {q0 q1 q2 : Nat} (h : q0 < q1) (h2 : q1 < q2) (n : Nat) : (textS (syncL (aS3 q0 q1 q2) (numsS (aS3 q0 q1 q2))).2 n).size ≤ 1000000 := by
  rw [a_nums3, a_sync3 h h2]
  refine read_size (fun f hf => ?_) _
  rcases List.mem_cons.1 hf with rfl | hf
  · show aH1.size ≤ _
    rw [aH1_size]; decide
  rcases List.mem_cons.1 hf with rfl | hf
  · show (aH2 ++ aFA).size ≤ _
    rw [a_size2]; decide
  · have : f = ⟨q2, aH3, 9⟩ := List.mem_singleton.1 hf
    subst this
    show aH3.size ≤ _
    rw [aH3_size]; decide
end Go.Proofs.YteijmjbiaffcmaaGreatDoor

/- A log in a walk of the laws: what lies below stands. -/
set_option maxRecDepth 20000
set_option linter.unusedSimpArgs false
set_option linter.unusedVariables false
namespace Go.Proofs.YteijmjbiaffcmaaGreatDoor
open Go.RowKit Go.Maps Go.Shelf Go.Proofs.YteijmjbiaffcmaaGreatDoor.Vi Go.Proofs.YteijmjbiaffcmaaGreatDoor.Crc Go.Proofs.YteijmjbiaffcmaaGreatDoor.Fr Go.Proofs.YteijmjbiaffcmaaGreatDoor.Fi

structure DAt (w0 w : World) (b : Nat) (S : FS) (L : Lay) : Prop where
  dir : Dir w b S L
  lo : ∀ k, mods b S L k → w0.heap.size ≤ k
  bel : Below w0.heap.size w0 w
structure LAt (w0 w : World) (b : Nat) (S : FS) (L : Lay) (a : Nat) (W : WS) (v : Value) : Prop where
  log : Log w0.heap.size w b S L a W v
  bel : Below w0.heap.size w0 w
section
variable {w0 w w' : World} {b a : Nat} {S S' : FS} {L L' : Lay} {W W' : WS} {v v' : Value}
theorem LAt.d (h : LAt w0 w b S L a W v) : DAt w0 w b S L := ⟨h.log.at_.dir, fun k hk => h.log.lo k (Or.inl hk), h.bel⟩
theorem LAt.next (h : LAt w0 w b S L a W v) (k : WWent w w' b S S' L L' a W W' v v') : LAt w0 w' b S' L' a W' v' := ⟨h.log.next k, h.bel.trans (h.log.bel k)⟩
theorem LAt.below (h : LAt w0 w b S L a W v) (k : Below w.heap.size w w') : LAt w0 w' b S L a W v := h.next (WWent.below h.log.at_ k)
theorem DAt.next (h : DAt w0 w b S L) (k : Went w w' b S S' L L') (d : Dir w' b S' L') : DAt w0 w' b S' L' :=
  ⟨d, fun i hi => by
    rcases k.sub i hi with h1 | h1
    · exact h.lo i h1
    · exact Nat.le_trans h.bel.size h1, Below.went h.bel k h.bel.size h.lo⟩
theorem DAt.below (h : DAt w0 w b S L) (k : Below w.heap.size w w') : DAt w0 w' b S L := ⟨h.dir.later k, h.lo, h.bel.trans (k.mono h.bel.size)⟩
theorem DAt.gl (h : DAt w0 w b S L) (G : Glob w0) : ∀ w', Below w0.heap.size w w' → Glob w' := fun _ k => G.below (h.bel.trans k)
theorem DAt.open_ (h : DAt w0 w b S L) (G : Glob w0) {r : Int × FS × WS} {e : Ending} (o : OpenedL b S L r w e w' L' a v) : LAt w0 w' b r.2.1 L' a r.2.2 v := by
  have hb : Below w0.heap.size w0 w' := h.bel.trans (o.frm.below h.bel.size h.lo)
  refine ⟨⟨o.at_, fun k hk => ?_, hb.size, fun u hu => G.below (hb.trans hu)⟩, hb⟩
  rcases o.sub k hk with h1 | h1
  · exact h.lo k h1
  · exact Nat.le_trans h.bel.size h1
/-- A row of texts in a literal. -/
theorem ss_lit {p : Nat} {l : List ByteArray} (h : w.heap[p]? = some (.cells (l.map Value.string).toArray 9)) (hl : l.length ≤ maxLen) : Ss w (.slice (some ⟨p, 0, none⟩) l.length l.length) l := by
  refine ⟨_, _, rfl, Nat.le_refl _, hl, Or.inr ⟨p, 0, rfl, some_lt h, fun j hj => ?_⟩⟩
  have e : w.cell? ⟨p, 0 + j, none⟩ = (l.map Value.string).toArray[0 + j]? := cell_of h
  rw [e, Nat.zero_add]
  simp [hj]
/-- A row of texts of the caller's own stands. -/
theorem LAt.keep {p : Nat} {cs : Array Value} (h : LAt w0 w b S L a W v) (hp : w.heap[p]? = some (.cells cs 9)) (hv : v.ownBlock ≠ some p) (k : WWent w w' b S S' L L' a W W' v v') : w'.heap[p]? = some (.cells cs 9) ∧ v'.ownBlock ≠ some p :=
  ⟨box_went h.log.at_ k hp (by decide) (by decide) (by decide) (by decide) (by decide) hv, own_ne h.log.at_ k hp (by decide) (by decide) (by decide) (by decide) (by decide) hv⟩
theorem DAt.keep {p : Nat} {cs : Array Value} (h : DAt w0 w b S L) (hp : w.heap[p]? = some (.cells cs 9)) (k : Frm (mods b S L) w w') : w'.heap[p]? = some (.cells cs 9) :=
  (k.block p (some_lt hp) (h.dir.at_.not hp (by decide) (by decide) (by decide) (by decide))).trans hp
theorem DAt.keepO {p : Nat} {cs : Array Value} (h : DAt w0 w b S L) (hp : w.heap[p]? = some (.cells cs 9)) {r : Int × FS × WS} {e : Ending} (o : OpenedL b S L r w e w' L' a v) : w'.heap[p]? = some (.cells cs 9) ∧ v.ownBlock ≠ some p :=
  ⟨h.keep hp o.frm, fun e => by
    rcases o.sub p (Or.inr (Or.inr e)) with h1 | h1
    · exact h.dir.at_.not hp (by decide) (by decide) (by decide) (by decide) h1
    · have := some_lt hp; omega⟩
theorem LAt.fresh (h : LAt w0 w b S L a W v) : v.ownBlock ≠ some w.heap.size := fun e => by
  obtain ⟨c, e1⟩ := h.log.at_.rcs.heap e
  have := some_lt e1; omega
theorem LAt.file (h : LAt w0 w b S L a W v) {f : Fil} (hf : f ∈ S.fil) : f.q < w.heap.size := h.log.at_.dir.at_.room (Or.inr (Or.inr (Or.inr (Or.inr ⟨f, hf, Or.inl rfl⟩))))
theorem nrow_lit {B : Nat} {u : Value} (h : NRow w B u [seg 1]) : ∃ g c cs, u = .slice (some ⟨g, 0, none⟩) 1 c ∧ B ≤ g ∧ w.heap[g]? = some (.cells cs 9) ∧ cs[0]? = some (.string ⟨#[119, 46, 48, 48, 48, 48, 48, 48, 48, 49]⟩) := by
  obtain ⟨a, c, rfl⟩ := nrow_slice h
  obtain ⟨g, rfl, hg, hcell⟩ := nrow_cell h (show 0 < [seg 1].length by decide)
  obtain ⟨h1, h2⟩ := h
  rcases h2 with ⟨_, h0⟩ | ⟨g', cap, cur, e, hB, hh, hcap, _, hsz, _⟩
  · cases h0
  · injection e with e1 e2 e3
    injection e1 with e1
    injection e1 with e1
    subst e1
    refine ⟨g, c, cur, rfl, hB, hh, ?_⟩
    rw [← cell_of (j := 0) hh, hcell]
    rfl
end
end Go.Proofs.YteijmjbiaffcmaaGreatDoor

/- awake. -/
set_option maxRecDepth 20000
set_option linter.unusedSimpArgs false
set_option linter.unusedVariables false
namespace Go.Proofs.YteijmjbiaffcmaaGreatDoor
open Go.RowKit Go.Maps Go.Shelf Go.Proofs.YteijmjbiaffcmaaGreatDoor.Vi Go.Proofs.YteijmjbiaffcmaaGreatDoor.Crc Go.Proofs.YteijmjbiaffcmaaGreatDoor.Fr Go.Proofs.YteijmjbiaffcmaaGreatDoor.Fi

set_option maxHeartbeats 16000000 in
theorem awake_is (w : World) (GL : Glob w) : Calls Tryz.prog 9 #[] w fun e w' => e = .returned (.bool true) ∧ Below w.heap.size w w' := by
  have k1 := new_dir 100000 w
  have G := Lib.hid GL
  clear GL
  go_enter Tryz.func9, Tryz.ntmps9
  go_wp2_with (first
    | (go_at_call 17; (with_reducible refine k1.mono ?_); rintro e w1 ⟨b, L1, rfl, hD, hB, hl⟩; (have HD1 := Lib.hid (show DAt w w1 b (emptyS 100000) L1 from ⟨hD, hl, hB⟩)); (have k2 := lawOpen_is HD1.out.dir HD1.out.lo HD1.out.bel.size (HD1.out.gl G.out) (by decide) a_text0); clear hD hB hl k1)
    | (go_at_call 18; (with_reducible refine k2.mono ?_); rintro e w2 ⟨q0, -, L2, a1, v1, hO⟩; rw [a_open1] at hO; (obtain rfl : e = .returned (.pointer (some ⟨a1, 0, none⟩)) := hO.ret); (have HL2 := Lib.hid (show LAt w w2 b (aS1 q0 aH1) L2 a1 (aW 1 ⟨#[]⟩ 1 [] 0) v1 from HD1.out.open_ G.out hO)); (have k3 := names_dir HL2.out.log.at_.dir); clear hO k2)
    | (go_at_call 33; (with_reducible refine k3.mono ?_); rintro e w3 ⟨u3, rfl, hr, hB⟩; (obtain ⟨g, cg, csg, rfl, hg, hh, hc0⟩ := nrow_lit hr); (have HL3 := Lib.hid (HL2.out.below hB)); (have HC0 := Lib.hid hc0); (have HG3 := Lib.hid hh); (have HV3 := Lib.hid (show v1.ownBlock ≠ some g from fun e => by obtain ⟨c, e1⟩ := HL2.out.log.at_.rcs.heap e; have := some_lt e1; omega)); (have k4 : Calls Tryz.prog 23 #[.pointer (some ⟨a1, 0, none⟩)] w3 (fun e w' => e = .returned (.int .i64 1) ∧ w3 = w') := first_is HL3.out.log.at_); clear hr hB hg hh hc0 k3)
    | (go_at_call 23; (with_reducible refine k4.mono ?_); rintro _ w4 ⟨rfl, rfl⟩; (have k5 : Calls Tryz.prog 21 #[.pointer (some ⟨a1, 0, none⟩)] w3 (fun e w' => e = .returned (.int .i64 0) ∧ Below w3.heap.size w3 w') := last_is HL3.out.log.at_ ⟨by decide, by decide, by decide, by decide, by decide⟩); clear k4)
    | (go_at_call 21; (with_reducible refine k5.mono ?_); rintro _ w5 ⟨rfl, hB⟩; (have HL5 := Lib.hid (HL3.out.below hB)); (have HG5 := Lib.hid ((hB.block g (some_lt HG3.out)).trans HG3.out)); (have HA5 := Lib.hid (HL5.out.below (bel_al w5 (.cells #[.string ⟨#[97]⟩, .string ⟨#[98]⟩] 9)))); (have k6 : Calls Tryz.prog 30 #[.pointer (some ⟨a1, 0, none⟩), .slice (some ⟨w5.heap.size, 0, none⟩) 2 2] (w5.alloc (.cells #[.string ⟨#[97]⟩, .string ⟨#[98]⟩] 9)) (WDone b (aS1 q0 aH1) L2 a1 (aW 1 ⟨#[]⟩ 1 [] 0) v1 (appendW (aS1 q0 aH1) (aW 1 ⟨#[]⟩ 1 [] 0) [⟨#[97]⟩, ⟨#[98]⟩]) (w5.alloc (.cells #[.string ⟨#[97]⟩, .string ⟨#[98]⟩] 9))) := append_is2 HA5.out.log ⟨by decide, by decide, by decide, by decide, by decide⟩ (by decide) (some ⟨w5.heap.size, 0, none⟩) 2 [⟨#[97]⟩, ⟨#[98]⟩] (by decide) (by decide) (fun _ _ _ _ _ k => ss_lit (HA5.out.keep (heap_alloc_new w5 _) HL5.out.fresh k).1 (by unfold maxLen; decide))); rw [a_app1] at k6; clear hB k5)
    | (go_at_call 30; (with_reducible refine k6.mono ?_); rintro e w6 ⟨L6, v6, rfl, hW⟩; (have HG6 := Lib.hid (HA5.out.keep (((bel_al w5 _).block g (some_lt HG5.out)).trans HG5.out) HV3.out hW).1); (have HD6 := Lib.hid (show DAt w w6 b (aS1 q0 (aH1 ++ aFAB)) L6 from (HA5.out.next hW).d)); (have k7 := crash_dir (.slice none 0 0) [] HD6.out.dir.at_ HD6.out.dir.whole (by show 0 ≤ 1000000; decide) (fun W _ => Is.nil W)); rw [a_crash1] at k7; clear hW k6)
    | (go_at_call 35; (with_reducible refine k7.mono ?_); rintro e w7 ⟨L7, rfl, hW, hD⟩; (have HG7 := Lib.hid (HD6.out.keep HG6.out hW.frm)); (have HD7 := Lib.hid (show DAt w w7 b (aS1 q0 aH1) L7 from HD6.out.next hW hD)); (have h0 : q0 < w7.heap.size := hD.at_.room (Or.inr (Or.inr (Or.inr (Or.inr ⟨⟨q0, aH1, 8⟩, List.mem_singleton.2 rfl, Or.inl rfl⟩))))); (have k8 := lawOpen_is HD7.out.dir HD7.out.lo HD7.out.bel.size (HD7.out.gl G.out) (by show 0 ≤ 800000; decide) (a_text1 q0)); clear hW hD k7)
    | (go_at_call 18; (with_reducible refine k8.mono ?_); rintro e w8 ⟨q1, hq, L8, a8, v8, hO⟩; (have h01 : q0 < q1 := by omega); rw [a_open2 h01] at hO; (obtain rfl : e = .returned (.pointer (some ⟨a8, 0, none⟩)) := hO.ret); (have HL8 := Lib.hid (show LAt w w8 b (aS2 q0 q1 aH2 8) L8 a8 (aW 2 ⟨#[]⟩ 1 [] 0) v8 from HD7.out.open_ G.out hO)); (obtain ⟨hg8, hv8⟩ := HD7.out.keepO HG7.out hO); (have HG8 := Lib.hid hg8); (have HV8 := Lib.hid hv8); (have H01 := Lib.hid h01); (have k9 : Calls Tryz.prog 21 #[.pointer (some ⟨a8, 0, none⟩)] w8 (fun e w' => e = .returned (.int .i64 0) ∧ Below w8.heap.size w8 w') := last_is HL8.out.log.at_ ⟨by decide, by decide, by decide, by decide, by decide⟩); clear hO hq h0 h01 hg8 hv8 k8)
    | (go_at_call 21; (with_reducible refine k9.mono ?_); rintro _ w9 ⟨rfl, hB⟩; (have HL9 := Lib.hid (HL8.out.below hB)); (have HG9 := Lib.hid ((hB.block g (some_lt HG8.out)).trans HG8.out)); (have HA9 := Lib.hid (HL9.out.below (bel_al w9 (.cells #[.string ⟨#[97]⟩] 9)))); (have k10 : Calls Tryz.prog 30 #[.pointer (some ⟨a8, 0, none⟩), .slice (some ⟨w9.heap.size, 0, none⟩) 1 1] (w9.alloc (.cells #[.string ⟨#[97]⟩] 9)) (WDone b (aS2 q0 q1 aH2 8) L8 a8 (aW 2 ⟨#[]⟩ 1 [] 0) v8 (appendW (aS2 q0 q1 aH2 8) (aW 2 ⟨#[]⟩ 1 [] 0) [⟨#[97]⟩]) (w9.alloc (.cells #[.string ⟨#[97]⟩] 9))) := append_is2 HA9.out.log ⟨by decide, by decide, by decide, by decide, by decide⟩ (by decide) (some ⟨w9.heap.size, 0, none⟩) 1 [⟨#[97]⟩] (by decide) (by decide) (fun _ _ _ _ _ k => ss_lit (HA9.out.keep (heap_alloc_new w9 _) HL9.out.fresh k).1 (by unfold maxLen; decide))); rw [a_app2 H01.out] at k10; clear hB k9)
    | (go_at_call 30; (with_reducible refine k10.mono ?_); rintro e w10 ⟨L10, v10, rfl, hW⟩; (obtain ⟨hg, hv⟩ := HA9.out.keep (((bel_al w9 _).block g (some_lt HG9.out)).trans HG9.out) HV8.out hW); (have HG10 := Lib.hid hg); (have HV10 := Lib.hid hv); (have HL10 := Lib.hid (show LAt w w10 b (aS2 q0 q1 (aH2 ++ aFA) 8) L10 a8 (aW 2 ⟨#[]⟩ 1 [⟨#[97]⟩] 0) v10 from HA9.out.next hW)); (have k11 := sync_is2 HL10.out.log ⟨by decide, by decide, by decide, by decide, by decide⟩ (by rw [a_settle2 H01.out]; show 0 ≤ 900000; decide)); clear hW hg hv k10)
    | (go_at_call 19; (with_reducible refine k11.mono ?_); rintro e w11 ⟨q, -, hWD⟩; rw [a_sync2 H01.out] at hWD; (obtain ⟨L11, v11, rfl, hW⟩ := hWD); (obtain ⟨hg, hv⟩ := HL10.out.keep HG10.out HV10.out hW); (have HG11 := Lib.hid hg); (have HV11 := Lib.hid hv); (have HL11 := Lib.hid (show LAt w w11 b (aS2 q0 q1 (aH2 ++ aFA) 14) L11 a8 (aW 2 ⟨#[]⟩ 1 [⟨#[97]⟩] 1) v11 from HL10.out.next hW)); (have h1 : q1 < w11.heap.size := HL11.out.file (f := ⟨q1, aH2 ++ aFA, 14⟩) (List.mem_cons_of_mem _ List.mem_cons_self)); (have k12 := ckpt_is HL11.out.log ⟨by decide, by decide, by decide, by decide, by decide⟩ ⟨#[115]⟩ (by rw [a_settle2 H01.out]; show 0 ≤ 900000; decide) (by decide)); clear hW hg hv k11)
    | (go_at_call 22; (with_reducible refine k12.mono ?_); rintro e w12 ⟨q2, hq, hWD⟩; (have h12 : q1 < q2 := by omega); rw [a_ckpt H01.out h12] at hWD; (obtain ⟨L12, v12, rfl, hW⟩ := hWD); (obtain ⟨hg, -⟩ := HL11.out.keep HG11.out HV11.out hW); (have HG12 := Lib.hid hg); (have HD12 := Lib.hid (show DAt w w12 b (aS3 q0 q1 q2) L12 from (HL11.out.next hW).d)); (have H12 := Lib.hid h12); (have k13 := crash_dir (.slice none 0 0) [] HD12.out.dir.at_ HD12.out.dir.whole (by show 0 ≤ 1000000; decide) (fun W _ => Is.nil W)); rw [a_crash3 H01.out H12.out] at k13; clear hW hg hq h1 h12 k12)
    | (go_at_call 35; (with_reducible refine k13.mono ?_); rintro e w13 ⟨L13, rfl, hW, hD⟩; (have HG13 := Lib.hid (HD12.out.keep HG12.out hW.frm)); (have HD13 := Lib.hid (show DAt w w13 b (aS3 q0 q1 q2) L13 from HD12.out.next hW hD)); (have h2 : q2 < w13.heap.size := hD.at_.room (Or.inr (Or.inr (Or.inr (Or.inr ⟨⟨q2, aH3, 9⟩, List.mem_cons_of_mem _ (List.mem_cons_of_mem _ List.mem_cons_self), Or.inl rfl⟩))))); (have k14 := lawOpen_is HD13.out.dir HD13.out.lo HD13.out.bel.size (HD13.out.gl G.out) (by show 0 ≤ 800000; decide) (a_text3 H01.out H12.out)); clear hW hD k13)
    | (go_at_call 18; (with_reducible refine k14.mono ?_); rintro e w14 ⟨q3, hq, L14, a14, v14, hO⟩; (have h23 : q2 < q3 := by omega); rw [a_open3 H01.out H12.out h23] at hO; (obtain rfl : e = .returned (.pointer (some ⟨a14, 0, none⟩)) := hO.ret); (have HL14 := Lib.hid (show LAt w w14 b (aS4 q0 q1 q2 q3) L14 a14 (aW 4 ⟨#[115]⟩ 2 [] 1) v14 from HD13.out.open_ G.out hO)); (obtain ⟨hg, -⟩ := HD13.out.keepO HG13.out hO); (have hcg : w14.cell? ⟨g, 0, none⟩ = some (.string ⟨#[119, 46, 48, 48, 48, 48, 48, 48, 48, 49]⟩) := (cell_of hg).trans HC0.out); (have k15 : Calls Tryz.prog 24 #[.pointer (some ⟨a14, 0, none⟩)] w14 (fun e w' => e = .returned (.string ⟨#[115]⟩) ∧ w14 = w') := state_is HL14.out.log.at_); (have k16 : Calls Tryz.prog 23 #[.pointer (some ⟨a14, 0, none⟩)] w14 (fun e w' => e = .returned (.int .i64 2) ∧ w14 = w') := first_is HL14.out.log.at_); clear hO hq h2 h23 hg k14)
    | (go_at_call 24; (with_reducible refine k15.mono ?_); rintro _ w15 ⟨rfl, rfl⟩; clear k15)
    | (go_at_call 23; (with_reducible refine k16.mono ?_); rintro _ w16 ⟨rfl, rfl⟩; clear k16))
  go_ret
  exact ⟨rfl, HL14.out.bel⟩
end Go.Proofs.YteijmjbiaffcmaaGreatDoor
