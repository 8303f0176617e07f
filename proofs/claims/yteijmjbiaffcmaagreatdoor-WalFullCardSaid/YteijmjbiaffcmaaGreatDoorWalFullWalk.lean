/- The walk of WalFull. -/
import Derived.Test.YteijmjbiaffcmaaGreatDoorWalH
import Derived.Laws.MakeOwn
import Derived.Laws.OwnMore
import Derived.Deep.CutRange
import Derived.Deep.CutBlock
set_option maxRecDepth 20000
set_option linter.unusedSimpArgs false
set_option linter.unusedVariables false
namespace Go.Proofs.YteijmjbiaffcmaaGreatDoor
open Go.RowKit Go.Maps Go.Shelf Go.Proofs.YteijmjbiaffcmaaGreatDoor.Vi Go.Proofs.YteijmjbiaffcmaaGreatDoor.Crc Go.Proofs.YteijmjbiaffcmaaGreatDoor.Fr Go.Proofs.YteijmjbiaffcmaaGreatDoor.Fi

theorem one_text0 (r : Int) (n : Nat) : (textS (syncL (emptyS r) (numsS (emptyS r))).2 n).size ≤ 1000000 := by
  show (readS (emptyS r) _).1.size ≤ _
  exact read_size (fun f hf => by cases hf) _
theorem one_textL (r : Int) (q0 : Nat) (s : ByteArray) (k : Nat) (hs : s.size ≤ 1000000) (n : Nat) : (textS (syncL (oneS r q0 s k) (numsS (oneS r q0 s k))).2 n).size ≤ 1000000 := by
  rw [one_nums, one_syncL]
  refine read_size (fun f hf => ?_) _
  have : f = ⟨q0, s, s.size⟩ := List.mem_singleton.1 hf
  subst this
  exact hs
namespace walFull
/-- A text of M zeros, made out of a new slice. -/
theorem great (M : Nat) (hM : M ≤ 100000) : ∃ C : Array Value, (∀ w : World, (Instr.makeSlice 57 (.int .i64 (M : Int)) (.int .i64 (M : Int))).run Tryz.prog w = .ok (.slice (some ⟨w.heap.size, 0, none⟩) M M) (w.alloc (.cells C 5))) ∧
    ∀ w : World, (convert 57 9 (.slice (some ⟨w.heap.size, 0, none⟩) M M)).run Tryz.prog (w.alloc (.cells C 5)) = .ok (.string (tx (List.replicate M 0))) (w.alloc (.cells C 5)) := by
  obtain ⟨i0, hi, hz0, hz1, hz2⟩ := info_parts infoB
  refine ⟨madeCells #[.int .u8 0] M, fun w => ?_, fun w => ?_⟩
  · have := run_makeSlice (P := Tryz.prog) w 57 5 i0 (.int .u8 0) Tryz.underlying57 hi hz0 .i64 .i64 (M : Int) (M : Int) (by omega) (Int.le_refl _) (by rw [hz1]; simp; omega) (by rw [hz2]; omega) (by omega)
    rw [hz1, Int.toNat_natCast, Nat.mul_one] at this
    exact this
  · have := run_convert_bytes_back (P := Tryz.prog) (w.alloc (.cells (madeCells #[.int .u8 0] M) 5)) 57 9 5 ⟨w.heap.size, 0, none⟩ M (List.replicate M 0) Tryz.underlying57 Tryz.underlying5 Tryz.underlying9 fun j hj => by
      rw [List.length_replicate] at hj
      rw [add_off, Nat.zero_add, World.cell?_alloc_mark]
      have e : (madeCells #[Value.int .u8 0] M)[j]? = (madeCells #[Value.int .u8 0] M).toList[j]? := by simp
      rw [e, toList_madeCells_one]
      simp [hj]
    rw [List.length_replicate] at this
    exact this
theorem sgn (x : Int) : ∃ n : Nat, n ≤ 3000 ∧ ((0 ≤ x ∧ x % 3001 = (n : Int)) ∨ (x < 0 ∧ x.tmod 3001 = -(n : Int))) := by
  by_cases h : 0 ≤ x
  · exact ⟨(x % 3001).toNat, by omega, Or.inl ⟨h, by omega⟩⟩
  · have e := Int.tmod_eq_emod_of_nonneg (a := -x) (b := 3001) (by omega)
    rw [Int.neg_tmod] at e
    exact ⟨((-x) % 3001).toNat, by omega, Or.inr ⟨by omega, by omega⟩⟩
abbrev moreT : ByteArray := ⟨#[109, 111, 114, 101]⟩
theorem more_size : (tx (frs (byL [moreT]))).size = 9 := by kernel_rfl
theorem more_le {all : List ByteArray} (h : ∀ s ∈ all, s.size ≤ 300) : ∀ s ∈ all ++ [moreT], s.size ≤ 70000 := fun s hs => by
  rcases List.mem_append.1 hs with h1 | h1
  · exact Nat.le_trans (h s h1) (by decide)
  · rw [List.mem_singleton] at h1; subst h1; decide
theorem bytes_more {all : List ByteArray} (h : (bytesL all).size ≤ 8 + 314 * all.length) (hl : all.length ≤ 10) : (bytesL (all ++ [moreT])).size ≤ 4000 := by
  rw [bytesL_app, ByteArray.size_append, more_size]; omega
theorem fine_more {all : List ByteArray} (hl : all.length ≤ 10) : Fine (aW 1 ⟨#[]⟩ 1 (all ++ [moreT]) 0) := ⟨by show (0 : Int) ≤ 1; decide, by show (1 : Int) ≤ 2199023255552; decide, by show (all ++ [moreT]).length ≤ _; rw [List.length_append]; show all.length + 1 ≤ _; omega, by show (0 : Int) ≤ 1; decide, by show (1 : Int) ≤ 100000000; decide⟩
theorem fine_more2 {all : List ByteArray} {z : Int} (hl : all.length ≤ 10) : Fine (aW 2 ⟨#[]⟩ 1 (all ++ [moreT]) z) := ⟨by show (0 : Int) ≤ 1; decide, by show (1 : Int) ≤ 2199023255552; decide, by show (all ++ [moreT]).length ≤ _; rw [List.length_append]; show all.length + 1 ≤ _; omega, by show (0 : Int) ≤ 2; decide, by show (2 : Int) ≤ 100000000; decide⟩
theorem app_lit {w0 w : World} {b a p : Nat} {r : Int} {q0 k : Nat} {s : ByteArray} {L : Lay} {all : List ByteArray} {v : Value} (h : LAt w0 w b (oneS r q0 s k) L a (aW 1 ⟨#[]⟩ 1 all 0) v) (hl : all.length ≤ 10) (t : ByteArray) (ht : t.size ≤ 1000000) (hp : w.heap[p]? = some (.cells #[.string t] 9)) (hv : v.ownBlock ≠ some p) : Calls Tryz.prog 30 #[.pointer (some ⟨a, 0, none⟩), .slice (some ⟨p, 0, none⟩) 1 1] w (WDone b (oneS r q0 s k) L a (aW 1 ⟨#[]⟩ 1 all 0) v (appendW (oneS r q0 s k) (aW 1 ⟨#[]⟩ 1 all 0) [t]) w) :=
  append_is2 h.log ⟨by show (0 : Int) ≤ 1; decide, by show (1 : Int) ≤ 2199023255552; decide, by show all.length ≤ _; omega, by show (0 : Int) ≤ 1; decide, by show (1 : Int) ≤ 100000000; decide⟩ (by show all.length ≤ _; omega) (some ⟨p, 0, none⟩) 1 [t] (by show 1 ≤ 41; decide) (fun s hs => by rw [List.mem_singleton] at hs; subst hs; omega) (fun _ _ _ _ _ k => ss_lit (h.keep hp hv k).1 (by show 1 ≤ maxLen; unfold maxLen; decide))
theorem _root_.Go.Proofs.YteijmjbiaffcmaaGreatDoor.Rec.dstep {w0 w w' : World} {b : Nat} {S : FS} {L : Lay} {u : Value} {xs : List ByteArray} (hr : Rec w u xs) (h : DAt w0 w b S L) (k : Frm (mods b S L) w w') : Rec w' u xs := hr.of fun i hi => by
  obtain ⟨c, e⟩ := hr.heap hi
  exact k.block i (some_lt e) (h.dir.at_.not e (by decide) (by decide) (by decide) (by decide))
set_option maxHeartbeats 16000000 in
theorem walk (a1 : Option Addr) (n1 c1 : Nat) (room : Int) (w : World) (h1 : ArgStrs w a1 n1 c1) (hroom : -9223372036854775808 ≤ room ∧ room ≤ 9223372036854775807) (GL : Glob w) : Calls Tryz.prog 6 #[.slice a1 n1 c1, .int .i64 room] w fun e w' => e = .returned (.bool true) ∧ Below w.heap.size w w' := by
  have G := Lib.hid GL
  have ka := awake_is w GL
  obtain ⟨l, hl, hss⟩ : ∃ l : List ByteArray, l.length = n1 ∧ (0 < n1 → Ss w (.slice a1 n1 c1) l) := by
    rcases ss_of_args h1 with h | ⟨l, h2, h3, -⟩
    · exact ⟨[], h.symm, fun h' => by omega⟩
    · exact ⟨l, h2, fun _ => h3⟩
  have HN1 := Lib.hid hl
  have HSS := Lib.hid hss
  obtain ⟨N, hN⟩ : ∃ N, min n1 10 = N := ⟨_, rfl⟩
  have hNN : N ≤ 10 ∧ N ≤ n1 ∧ (N = n1 ∨ N = 10) := by omega
  obtain ⟨n, hn, hsg⟩ := sgn room
  have hneg : (0 ≤ room ∧ room % 3001 = (n : Int)) ∨ (room < 0 ∧ n = 0 ∧ room.tmod 3001 = 0) ∨ (room < 0 ∧ 0 < n ∧ room.tmod 3001 = -(n : Int)) := by omega
  clear hsg hl hss hN GL h1
  rcases hneg with ⟨s1, s2⟩ | ⟨s1, rfl, s2⟩ | ⟨s1, s3, s2⟩
  · have hrm : roomI (((n : Nat)) : Int) = (((n : Nat)) : Int) := by unfold roomI; omega
    have hn0 : ¬ (n : Int) < 0 := by omega
    go_enter Tryz.func6, Tryz.ntmps6
    go_wp2_with (first
      | (go_at_call 9; (with_reducible refine ka.mono ?_); rintro _ w1 ⟨rfl, hB⟩; (have HB1 := Lib.hid hB); (have k1 := new_dir 1000 w1); clear hB ka)
      | (go_at_call 17; (with_reducible refine k1.mono ?_); rintro e w2 ⟨b, L2, rfl, hD, hB, hlo⟩; (have HD2 := Lib.hid (show DAt w w2 b (emptyS 1000) L2 from ⟨hD, fun k hk => Nat.le_trans HB1.out.size (hlo k hk), HB1.out.trans (hB.mono HB1.out.size)⟩)); (have k2 := lawOpen_is HD2.out.dir HD2.out.lo HD2.out.bel.size (HD2.out.gl G.out) (by show 0 ≤ 800000; decide) (one_text0 1000)); clear hD hB hlo k1)
      | (go_at_call 18; (with_reducible refine k2.mono ?_); rintro e w3 ⟨q0, -, L3, a, v3, hO⟩; rw [one_open0 1000 (by decide)] at hO; (obtain rfl : e = .returned (.pointer (some ⟨a, 0, none⟩)) := hO.ret); (have HL3 := Lib.hid (show LAt w w3 b (oneS 1000 q0 aH1 8) L3 a (aW 1 ⟨#[]⟩ 1 [] 0) v3 from HD2.out.open_ G.out hO)); (have k3 := limit_dir (((n : Nat)) : Int) HL3.out.log.at_.dir); clear hO k2)
      | (go_at_call 27; (with_reducible refine k3.mono ?_); rintro e w4 ⟨L4, rfl, hW, hD⟩; (have HL4 := Lib.hid (show LAt w w4 b (oneS (((n : Nat)) : Int) q0 (bytesL []) 8) L4 a (aW 1 ⟨#[]⟩ 1 [] 0) v3 from by have h := HL3.out.next (WWent.dir HL3.out.log.at_ hW hD); rw [hrm] at h; rw [bytesL_nil]; exact h)); clear hW hD k3))
    go_loopg [9, 10] N (fun g av ii wr => ∃ (i : Nat) (all : List ByteArray) (u v : Value) (L : Lay), i + g = N ∧ ii = .int .i64 (i : Int) ∧ av = u ∧ all.length ≤ i ∧ Hid (∀ s ∈ all, s.size ≤ 300) ∧ Hid (Rec wr u all) ∧ Hid (Off u b (oneS (((n : Nat)) : Int) q0 (bytesL all) 8) L a v) ∧ Hid (∀ k, u.ownBlock = some k → w.heap.size ≤ k) ∧ LAt w wr b (oneS (((n : Nat)) : Int) q0 (bytesL all) 8) L a (aW 1 ⟨#[]⟩ 1 all 0) v)
    case atStart => exact ⟨0, [], .slice none 0 0, v3, L4, by omega, rfl, rfl, Nat.le_refl _, Lib.hid (fun s hs => by cases hs), Lib.hid (Rec.nil _), Lib.hid Off.nil, Lib.hid (fun k e => by cases e), HL4.out⟩
    case round =>
      obtain ⟨i, all, u, v, L, hi, rfl, rfl, hlen, hsz, hrec, hoff, hown, hlog⟩ := hrel
      have HLG := Lib.hid hlog
      clear hlog HL4
      cases gk with
      | zero =>
        obtain rfl : i = N := by omega
        have hexit : ¬ (i : Int) < (n1 : Int) ∨ ((i : Int) < (n1 : Int) ∧ ¬ (i : Int) < 10) := by omega
        have hlen10 : all.length ≤ 10 := by omega
        have k4 := limit_dir 100000 HLG.out.log.at_.dir
        obtain ⟨C, hC1, hC2⟩ := great 60001 (by decide)
        obtain ⟨Z, hZ⟩ : ∃ Z, tx (List.replicate 60001 0) = Z := ⟨_, rfl⟩
        have hZs : Z.size = 60001 := by rw [← hZ, tx_size, List.length_replicate]
        rw [hZ] at hC2
        have hC3 : ∀ w : World, (Instr.makeSlice 57 (.int .i64 60001) (.int .i64 60001)).run Tryz.prog w = .ok (.slice (some ⟨w.heap.size, 0, none⟩) 60001 60001) (w.alloc (.cells C 5)) := hC1
        have hbz := bytesL_size all hsz.out
        have HBZ := Lib.hid hbz
        have HZS := Lib.hid hZs
        have HL10 := Lib.hid hlen10
        clear hC1 hZ hZs hbz hlen10 hlen
        obtain ⟨ra, rc, rfl⟩ := hrec.out.slice
        obtain ⟨nn, hnn⟩ : ∃ nn, all.length = nn := ⟨_, rfl⟩
        rw [hnn] at hrec hoff hown
        simp only [hnn]
        have HNU := Lib.hid hnn
        have hnw2 : IntKind.i64.wrap ((nn : Int) + 1) = (nn : Int) + 1 := by have := HL10.out; rw [IntKind.wrap_i64]; omega
        clear hnn
        rcases hexit with hx1 | ⟨hx1, hx2⟩
        · go_wp2_with (first
            | (go_at_call 27; (with_reducible refine k4.mono ?_); rintro e w4 ⟨L5, rfl, hW, hD⟩; (have hT := WWent.dir HLG.out.log.at_ hW hD); (obtain ⟨hr5, ho5⟩ := hoff.out.went hrec.out hT); (have HL5 := Lib.hid (show LAt w w4 b (oneS 100000 q0 (bytesL all) 8) L5 a (aW 1 ⟨#[]⟩ 1 all 0) v from HLG.out.next hT)); (have HR5 := Lib.hid hr5); (have HO5 := Lib.hid (show Off _ b (oneS 100000 q0 (bytesL all) 8) L5 a v from ho5)); clear hW hD hT hr5 ho5 k4 HLG)
            | (go_at_call 30; (have HA6 := Lib.hid (HL5.out.below (bel_next (bel_al w4 (.cells C 5)) (bel_al (w4.alloc (.cells C 5)) (.cells #[.string Z] 9))))); (have hz6 : Z.size ≤ 1000000 := by have := HZS.out; omega); (have hz7 : 60000 < Z.size := by have := HZS.out; omega); (have hp6 : ((w4.alloc (.cells C 5)).alloc (.cells #[.string Z] 9)).heap[w4.heap.size + 1]? = some (.cells #[.string Z] 9) := by have h := heap_alloc_new (w4.alloc (.cells C 5)) (.cells #[.string Z] 9); simpa using h); (have hv6 : v.ownBlock ≠ some (w4.heap.size + 1) := fun e => by obtain ⟨c, e1⟩ := HL5.out.log.at_.rcs.heap e; have := some_lt e1; omega); (with_reducible refine (app_lit HA6.out HL10.out Z hz6 hp6 hv6).mono ?_); rintro e w6 ⟨L6, v6, he6, hW⟩; rw [one_big _ _ _ _ _ _ Z hz7] at he6 hW; subst he6; (obtain ⟨hr6, ho6⟩ := (show Off _ b (oneS 100000 q0 (bytesL all) 8) L5 a v from HO5.out).went (HR5.out.later (bel_next (bel_al w4 (.cells C 5)) (bel_al (w4.alloc (.cells C 5)) (.cells #[.string Z] 9)))) hW); (have HL6 := Lib.hid (show LAt w w6 b (oneS 100000 q0 (bytesL all) 8) L6 a (aW 1 ⟨#[]⟩ 1 all 0) v6 from HA6.out.next hW)); (have HR6 := Lib.hid hr6); (have HO6 := Lib.hid (show Off _ b (oneS 100000 q0 (bytesL all) 8) L6 a v6 from ho6)); clear hW hr6 ho6 hz6 hz7 hp6 hv6 HA6 HL5 HR5 HO5)
            | (go_at_call 30; (have HA7 := Lib.hid (HL6.out.below (bel_al w6 (.cells #[.string moreT] 9)))); (with_reducible refine (app_lit HA7.out HL10.out moreT (by decide) (heap_alloc_new w6 _) HL6.out.fresh).mono ?_); rintro e w7 ⟨L7, v7, he7, hW⟩; rw [one_app _ _ _ _ _ moreT (by decide), if_neg (by have := HBZ.out; have := HL10.out; have := more_size; omega)] at he7 hW; subst he7; (obtain ⟨hr7, ho7⟩ := HO6.out.went (HR6.out.later (bel_al w6 (.cells #[.string moreT] 9))) hW); (have HL7 := Lib.hid (show LAt w w7 b (oneS 100000 q0 (bytesL (all ++ [moreT])) 8) L7 a (aW 1 ⟨#[]⟩ 1 (all ++ [moreT]) 0) v7 from HA7.out.next hW)); (have HR7 := Lib.hid hr7); (have HO7 := Lib.hid (show Off _ b (oneS 100000 q0 (bytesL (all ++ [moreT])) 8) L7 a v7 from ho7)); clear hW hr7 ho7 HA7 HL6 HR6 HO6)
            | (go_at_call 19; (have hch7 : (settleW (oneS 100000 q0 (bytesL (all ++ [moreT])) 8) (aW 1 ⟨#[]⟩ 1 (all ++ [moreT]) 0)).2.1.chg.length ≤ 900000 := by rw [one_settle]; exact Nat.zero_le _); (with_reducible refine (sync_is2 HL7.out.log (fine_more HL10.out) hch7).mono ?_); rintro e w8 ⟨q, -, hWD⟩; rw [one_sync _ _ _ _ _ _ (bytes_more HBZ.out HL10.out)] at hWD; (obtain ⟨L8, v8, rfl, hW⟩ := hWD); (obtain ⟨hr8, -⟩ := HO7.out.went HR7.out hW); (have HD8 := Lib.hid (show DAt w w8 b (oneS 100000 q0 (bytesL (all ++ [moreT])) (bytesL (all ++ [moreT])).size) L8 from (HL7.out.next hW).d)); (have HR8 := Lib.hid hr8); (have k9 := crash_dir (.slice none 0 0) [] HD8.out.dir.at_ HD8.out.dir.whole (by show 0 ≤ 1000000; decide) (fun W _ => Is.nil W)); rw [one_crash] at k9; clear hW hr8 hch7 HL7 HR7 HO7)
            | (go_at_call 35; (with_reducible refine k9.mono ?_); rintro e w9 ⟨L9, rfl, hW, hD⟩; (have HR9 := Lib.hid (HR8.out.dstep HD8.out hW.frm)); (have HD9 := Lib.hid (HD8.out.next hW hD)); (have h0 : q0 < w9.heap.size := hD.at_.room (Or.inr (Or.inr (Or.inr (Or.inr ⟨⟨q0, bytesL (all ++ [moreT]), (bytesL (all ++ [moreT])).size⟩, List.mem_singleton.2 rfl, Or.inl rfl⟩))))); (have k10 := lawOpen_is HD9.out.dir HD9.out.lo HD9.out.bel.size (HD9.out.gl G.out) (by show 0 ≤ 800000; decide) (one_textL 100000 q0 _ _ (Nat.le_trans (bytes_more HBZ.out HL10.out) (by decide)))); clear hW hD k9)
            | (go_at_call 18; (with_reducible refine k10.mono ?_); rintro e w10 ⟨q1, hq, L10, x, v10, hO⟩; (have h01 : q0 < q1 := by omega); rw [one_open _ h01 (more_le hsz.out) (by have := HL10.out; simp; omega) (by have := bytes_more HBZ.out HL10.out; omega)] at hO; (obtain rfl : e = .returned (.pointer (some ⟨x, 0, none⟩)) := hO.ret); (have HR10 := Lib.hid (HR9.out.dstep HD9.out hO.frm)); (have hL := HD9.out.open_ G.out hO); (have HB10 := Lib.hid hL.bel); (have k11 := records_is hL.log.at_ (fine_more2 HL10.out)); clear hO hq h0 h01 hL k10)
            | (go_at_call 25; (with_reducible refine k11.mono ?_); rintro e w11 ⟨u11, rfl, hR, hB⟩; (have HU11 := Lib.hid hR); (have HB11 := Lib.hid (HB10.out.trans (hB.mono HB10.out.size))); (have HR11 := Lib.hid (HR10.out.later hB)); (have HNE := Lib.hid (show ∀ k, u11.ownBlock = some k → (Value.slice ra nn rc).ownBlock ≠ some k from fun k hk e => by obtain ⟨c, e1⟩ := HR10.out.heap e; have h1 := some_lt e1; have h2 := (World.ownsRow.lt hR k hk).1; omega)); clear hR hB k11)
            | (at_builtin; refine wpList_rec rfl _ _ rfl (.slice ra nn rc) _ rfl moreT rfl HR11.out (Nat.le_trans HL10.out (by decide)) ?_; rintro u12 w12 hR12 hg12 - hs12; (have HB12 := Lib.hid (show Below w.heap.size w w12 from HB11.out.grown hg12 HB11.out.size (fun k hk => hown.out k hk))); (have HP := Lib.hid (show Ss w12 u11 (all ++ [moreT]) from Rec.ss (w := w12) ⟨Fi.row_of (row_base HU11.out) fun k hk => hg12.block k (World.ownsRow.lt HU11.out k hk).2 (fun e => HNE.out k hk e.symm), Or.inr (by simp)⟩)); (have HP2 := Lib.hid (show Ss w12 u12 (all ++ [moreT]) from hR12.ss)); (have HPZ := Lib.hid (show prefB (all ++ [moreT]) (all ++ [moreT]) ((nn : Int) + 1) = true from by have e : ((nn : Int) + 1) = (((all ++ [moreT]).length : Nat) : Int) := (by rw [List.length_append, HNU.out]; rfl); rw [e]; exact prefB_self _)); clear hR12 hg12 hs12)
            | (go_at_call 36; (with_reducible refine (prefix_is _ _ _ _ _ _ HP.out HP2.out true HPZ).mono ?_); rintro e w13 ⟨rfl, hB⟩; (have HB13 := Lib.hid (HB12.out.trans (hB.mono HB12.out.size))); clear hB))
          go_ret
          exact ⟨rfl, HB13.out⟩
        · go_wp2_with (first
            | (go_at_call 27; (with_reducible refine k4.mono ?_); rintro e w4 ⟨L5, rfl, hW, hD⟩; (have hT := WWent.dir HLG.out.log.at_ hW hD); (obtain ⟨hr5, ho5⟩ := hoff.out.went hrec.out hT); (have HL5 := Lib.hid (show LAt w w4 b (oneS 100000 q0 (bytesL all) 8) L5 a (aW 1 ⟨#[]⟩ 1 all 0) v from HLG.out.next hT)); (have HR5 := Lib.hid hr5); (have HO5 := Lib.hid (show Off _ b (oneS 100000 q0 (bytesL all) 8) L5 a v from ho5)); clear hW hD hT hr5 ho5 k4 HLG)
            | (go_at_call 30; (have HA6 := Lib.hid (HL5.out.below (bel_next (bel_al w4 (.cells C 5)) (bel_al (w4.alloc (.cells C 5)) (.cells #[.string Z] 9))))); (have hz6 : Z.size ≤ 1000000 := by have := HZS.out; omega); (have hz7 : 60000 < Z.size := by have := HZS.out; omega); (have hp6 : ((w4.alloc (.cells C 5)).alloc (.cells #[.string Z] 9)).heap[w4.heap.size + 1]? = some (.cells #[.string Z] 9) := by have h := heap_alloc_new (w4.alloc (.cells C 5)) (.cells #[.string Z] 9); simpa using h); (have hv6 : v.ownBlock ≠ some (w4.heap.size + 1) := fun e => by obtain ⟨c, e1⟩ := HL5.out.log.at_.rcs.heap e; have := some_lt e1; omega); (with_reducible refine (app_lit HA6.out HL10.out Z hz6 hp6 hv6).mono ?_); rintro e w6 ⟨L6, v6, he6, hW⟩; rw [one_big _ _ _ _ _ _ Z hz7] at he6 hW; subst he6; (obtain ⟨hr6, ho6⟩ := (show Off _ b (oneS 100000 q0 (bytesL all) 8) L5 a v from HO5.out).went (HR5.out.later (bel_next (bel_al w4 (.cells C 5)) (bel_al (w4.alloc (.cells C 5)) (.cells #[.string Z] 9)))) hW); (have HL6 := Lib.hid (show LAt w w6 b (oneS 100000 q0 (bytesL all) 8) L6 a (aW 1 ⟨#[]⟩ 1 all 0) v6 from HA6.out.next hW)); (have HR6 := Lib.hid hr6); (have HO6 := Lib.hid (show Off _ b (oneS 100000 q0 (bytesL all) 8) L6 a v6 from ho6)); clear hW hr6 ho6 hz6 hz7 hp6 hv6 HA6 HL5 HR5 HO5)
            | (go_at_call 30; (have HA7 := Lib.hid (HL6.out.below (bel_al w6 (.cells #[.string moreT] 9)))); (with_reducible refine (app_lit HA7.out HL10.out moreT (by decide) (heap_alloc_new w6 _) HL6.out.fresh).mono ?_); rintro e w7 ⟨L7, v7, he7, hW⟩; rw [one_app _ _ _ _ _ moreT (by decide), if_neg (by have := HBZ.out; have := HL10.out; have := more_size; omega)] at he7 hW; subst he7; (obtain ⟨hr7, ho7⟩ := HO6.out.went (HR6.out.later (bel_al w6 (.cells #[.string moreT] 9))) hW); (have HL7 := Lib.hid (show LAt w w7 b (oneS 100000 q0 (bytesL (all ++ [moreT])) 8) L7 a (aW 1 ⟨#[]⟩ 1 (all ++ [moreT]) 0) v7 from HA7.out.next hW)); (have HR7 := Lib.hid hr7); (have HO7 := Lib.hid (show Off _ b (oneS 100000 q0 (bytesL (all ++ [moreT])) 8) L7 a v7 from ho7)); clear hW hr7 ho7 HA7 HL6 HR6 HO6)
            | (go_at_call 19; (have hch7 : (settleW (oneS 100000 q0 (bytesL (all ++ [moreT])) 8) (aW 1 ⟨#[]⟩ 1 (all ++ [moreT]) 0)).2.1.chg.length ≤ 900000 := by rw [one_settle]; exact Nat.zero_le _); (with_reducible refine (sync_is2 HL7.out.log (fine_more HL10.out) hch7).mono ?_); rintro e w8 ⟨q, -, hWD⟩; rw [one_sync _ _ _ _ _ _ (bytes_more HBZ.out HL10.out)] at hWD; (obtain ⟨L8, v8, rfl, hW⟩ := hWD); (obtain ⟨hr8, -⟩ := HO7.out.went HR7.out hW); (have HD8 := Lib.hid (show DAt w w8 b (oneS 100000 q0 (bytesL (all ++ [moreT])) (bytesL (all ++ [moreT])).size) L8 from (HL7.out.next hW).d)); (have HR8 := Lib.hid hr8); (have k9 := crash_dir (.slice none 0 0) [] HD8.out.dir.at_ HD8.out.dir.whole (by show 0 ≤ 1000000; decide) (fun W _ => Is.nil W)); rw [one_crash] at k9; clear hW hr8 hch7 HL7 HR7 HO7)
            | (go_at_call 35; (with_reducible refine k9.mono ?_); rintro e w9 ⟨L9, rfl, hW, hD⟩; (have HR9 := Lib.hid (HR8.out.dstep HD8.out hW.frm)); (have HD9 := Lib.hid (HD8.out.next hW hD)); (have h0 : q0 < w9.heap.size := hD.at_.room (Or.inr (Or.inr (Or.inr (Or.inr ⟨⟨q0, bytesL (all ++ [moreT]), (bytesL (all ++ [moreT])).size⟩, List.mem_singleton.2 rfl, Or.inl rfl⟩))))); (have k10 := lawOpen_is HD9.out.dir HD9.out.lo HD9.out.bel.size (HD9.out.gl G.out) (by show 0 ≤ 800000; decide) (one_textL 100000 q0 _ _ (Nat.le_trans (bytes_more HBZ.out HL10.out) (by decide)))); clear hW hD k9)
            | (go_at_call 18; (with_reducible refine k10.mono ?_); rintro e w10 ⟨q1, hq, L10, x, v10, hO⟩; (have h01 : q0 < q1 := by omega); rw [one_open _ h01 (more_le hsz.out) (by have := HL10.out; simp; omega) (by have := bytes_more HBZ.out HL10.out; omega)] at hO; (obtain rfl : e = .returned (.pointer (some ⟨x, 0, none⟩)) := hO.ret); (have HR10 := Lib.hid (HR9.out.dstep HD9.out hO.frm)); (have hL := HD9.out.open_ G.out hO); (have HB10 := Lib.hid hL.bel); (have k11 := records_is hL.log.at_ (fine_more2 HL10.out)); clear hO hq h0 h01 hL k10)
            | (go_at_call 25; (with_reducible refine k11.mono ?_); rintro e w11 ⟨u11, rfl, hR, hB⟩; (have HU11 := Lib.hid hR); (have HB11 := Lib.hid (HB10.out.trans (hB.mono HB10.out.size))); (have HR11 := Lib.hid (HR10.out.later hB)); (have HNE := Lib.hid (show ∀ k, u11.ownBlock = some k → (Value.slice ra nn rc).ownBlock ≠ some k from fun k hk e => by obtain ⟨c, e1⟩ := HR10.out.heap e; have h1 := some_lt e1; have h2 := (World.ownsRow.lt hR k hk).1; omega)); clear hR hB k11)
            | (at_builtin; refine wpList_rec rfl _ _ rfl (.slice ra nn rc) _ rfl moreT rfl HR11.out (Nat.le_trans HL10.out (by decide)) ?_; rintro u12 w12 hR12 hg12 - hs12; (have HB12 := Lib.hid (show Below w.heap.size w w12 from HB11.out.grown hg12 HB11.out.size (fun k hk => hown.out k hk))); (have HP := Lib.hid (show Ss w12 u11 (all ++ [moreT]) from Rec.ss (w := w12) ⟨Fi.row_of (row_base HU11.out) fun k hk => hg12.block k (World.ownsRow.lt HU11.out k hk).2 (fun e => HNE.out k hk e.symm), Or.inr (by simp)⟩)); (have HP2 := Lib.hid (show Ss w12 u12 (all ++ [moreT]) from hR12.ss)); (have HPZ := Lib.hid (show prefB (all ++ [moreT]) (all ++ [moreT]) ((nn : Int) + 1) = true from by have e : ((nn : Int) + 1) = (((all ++ [moreT]).length : Nat) : Int) := (by rw [List.length_append, HNU.out]; rfl); rw [e]; exact prefB_self _)); clear hR12 hg12 hs12)
            | (go_at_call 36; (with_reducible refine (prefix_is _ _ _ _ _ _ HP.out HP2.out true HPZ).mono ?_); rintro e w13 ⟨rfl, hB⟩; (have HB13 := Lib.hid (HB12.out.trans (hB.mono HB12.out.size))); clear hB))
          go_ret
          exact ⟨rfl, HB13.out⟩
      | succ g =>
        have hlt : (i : Int) < (n1 : Int) := by omega
        have hl10 : (i : Int) < 10 := by omega
        have hin : i < n1 := by omega
        have hil : i < l.length := by rw [HN1.out]; omega
        obtain ⟨ba, oa, rfl, -, cax⟩ := ((HSS.out (by omega)).below (HLG.out.bel)).cell (by omega)
        have c2 := cax i hil
        obtain ⟨y, hy⟩ : ∃ y, l[i] = y := ⟨_, rfl⟩
        rw [hy] at c2
        have hiw : IntKind.i64.wrap ((i : Int) + 1) = (i : Int) + 1 := by rw [IntKind.wrap_i64]; omega
        obtain ⟨t, ht⟩ : ∃ t, cutS y 300 = t := ⟨_, rfl⟩
        have htz : t.size ≤ 300 := by rw [← ht]; exact cutS_size _ _
        have ks := lshort_is y t 300 300 wr rfl (by decide) (Lib.hid ht)
        have HTZ := Lib.hid htz
        have hal := HLG.out.below (bel_al wr (.cells #[.string t] 9))
        have HAL := Lib.hid hal
        have kp : Calls Tryz.prog 30 #[.pointer (some ⟨a, 0, none⟩), .slice (some ⟨wr.heap.size, 0, none⟩) 1 1] (wr.alloc (.cells #[.string t] 9)) (WDone b (oneS (((n : Nat)) : Int) q0 (bytesL all) 8) L a (aW 1 ⟨#[]⟩ 1 all 0) v (appendW (oneS (((n : Nat)) : Int) q0 (bytesL all) 8) (aW 1 ⟨#[]⟩ 1 all 0) [t]) (wr.alloc (.cells #[.string t] 9))) := append_is2 hal.log ⟨by show (0 : Int) ≤ 1; decide, by show (1 : Int) ≤ 2199023255552; decide, by show all.length ≤ _; omega, by show (0 : Int) ≤ 1; decide, by show (1 : Int) ≤ 100000000; decide⟩ (by show all.length ≤ _; omega) (some ⟨wr.heap.size, 0, none⟩) 1 [t] (by show 1 ≤ 41; decide) (fun s hs => by rw [List.mem_singleton] at hs; subst hs; omega) (fun _ _ _ _ _ k => ss_lit (hal.keep (heap_alloc_new wr _) HLG.out.fresh k).1 (by show 1 ≤ maxLen; unfold maxLen; decide))
        have HR1 := Lib.hid (hrec.out.later (bel_al wr (.cells #[.string t] 9)))
        rw [one_app (((n : Nat)) : Int) q0 all 8 0 t (by omega)] at kp
        clear cax hy ht htz hal
        by_cases hroom2 : (((n : Nat)) : Int) < ((bytesL all).size : Int) + ((tx (frs (byL [t]))).size : Int)
        · rw [if_pos hroom2] at kp
          clear hroom2
          go_wp2_with (first
            | (go_at_call 10; (with_reducible refine ks.mono ?_); rintro _ w5 ⟨rfl, rfl⟩; clear ks)
            | (go_at_call 30; (with_reducible refine kp.mono ?_); rintro e w6 ⟨L6, v6, rfl, hW⟩; (obtain ⟨hr6, ho6⟩ := hoff.out.went HR1.out hW); (have HL6 := Lib.hid (show LAt w w6 b (oneS (((n : Nat)) : Int) q0 (bytesL all) 8) L6 a (aW 1 ⟨#[]⟩ 1 all 0) v6 from HAL.out.next hW)); clear hW kp))
          have HR6 := Lib.hid hr6
          have HO6 := Lib.hid ho6
          clear hr6 ho6
          go_roundg g
          case measure => omega
          case rel => exact ⟨i + 1, all, _, v6, L6, by omega, by go_num, rfl, by omega, hsz, HR6, HO6, hown, HL6.out⟩
        · rw [if_neg hroom2] at kp
          obtain ⟨ra, rc, rfl⟩ := hrec.out.slice
          have HLN := Lib.hid (show all.length ≤ 100000000 by omega)
          obtain ⟨nn, hnn⟩ : ∃ nn, all.length = nn := ⟨_, rfl⟩
          rw [hnn] at hrec hoff hown HR1
          simp only [hnn]
          have HNU := Lib.hid hnn
          clear hroom2 hnn
          go_wp2_with (first
            | (go_at_call 10; (with_reducible refine ks.mono ?_); rintro _ w5 ⟨rfl, rfl⟩; clear ks)
            | (go_at_call 30; (with_reducible refine kp.mono ?_); rintro e w6 ⟨L6, v6, rfl, hW⟩; (obtain ⟨hr6, ho6⟩ := hoff.out.went HR1.out hW); (have HR6 := Lib.hid hr6); (have HO6 := Lib.hid ho6); (have HL6 := Lib.hid (show LAt w w6 b (oneS (((n : Nat)) : Int) q0 (bytesL (all ++ [t])) 8) L6 a (aW 1 ⟨#[]⟩ 1 (all ++ [t]) 0) v6 from HAL.out.next hW)); clear hW kp hr6 ho6)
            | (at_builtin; refine wpList_rec rfl _ _ rfl (.slice ra nn rc) _ rfl t rfl HR6.out HLN.out ?_))
          rintro u2 w7 hR7 hg7 h17 hs7
          have HR7 := Lib.hid hR7
          have HB7 := Lib.hid (show Below w.heap.size w w7 from HL6.out.bel.grown hg7 HL6.out.bel.size (fun k hk => hown.out k hk))
          have HL7 := Lib.hid (HL6.out.aside HO6.out hg7 h17 HB7.out (fun w'' k => G.out.below (HB7.out.trans k)))
          have HO7 := Lib.hid (HO6.out.grown HL6.out.log.at_ hs7)
          have HW7 := Lib.hid (show ∀ k, u2.ownBlock = some k → w.heap.size ≤ k from fun k hk => by
            rcases hs7 with h | ⟨q, h, hq⟩
            · exact hown.out k (h ▸ hk)
            · rw [h] at hk; injection hk with hk; subst hk
              exact Nat.le_trans HL6.out.bel.size hq)
          have HSZ := Lib.hid (show ∀ s ∈ all ++ [t], s.size ≤ 300 from fun s hs => by
            rcases List.mem_append.1 hs with h | h
            · exact hsz.out s h
            · rw [List.mem_singleton] at h; subst h; exact HTZ.out)
          have hl2 : (all ++ [t]).length ≤ i + 1 := by rw [List.length_append]; show all.length + 1 ≤ _; omega
          obtain ⟨ra2, rc2, hv2⟩ := hR7.slice
          clear hR7 hg7 h17 hs7
          go_wp2
          go_roundg g
          case measure => omega
          case rel => exact ⟨i + 1, all ++ [t], u2, v6, L6, by omega, by go_num, rfl, hl2, HSZ, HR7, HO7, HW7, HL7.out⟩
  · have hrm : roomI ((0) : Int) = ((0) : Int) := by unfold roomI; omega
    go_enter Tryz.func6, Tryz.ntmps6
    go_wp2_with (first
      | (go_at_call 9; (with_reducible refine ka.mono ?_); rintro _ w1 ⟨rfl, hB⟩; (have HB1 := Lib.hid hB); (have k1 := new_dir 1000 w1); clear hB ka)
      | (go_at_call 17; (with_reducible refine k1.mono ?_); rintro e w2 ⟨b, L2, rfl, hD, hB, hlo⟩; (have HD2 := Lib.hid (show DAt w w2 b (emptyS 1000) L2 from ⟨hD, fun k hk => Nat.le_trans HB1.out.size (hlo k hk), HB1.out.trans (hB.mono HB1.out.size)⟩)); (have k2 := lawOpen_is HD2.out.dir HD2.out.lo HD2.out.bel.size (HD2.out.gl G.out) (by show 0 ≤ 800000; decide) (one_text0 1000)); clear hD hB hlo k1)
      | (go_at_call 18; (with_reducible refine k2.mono ?_); rintro e w3 ⟨q0, -, L3, a, v3, hO⟩; rw [one_open0 1000 (by decide)] at hO; (obtain rfl : e = .returned (.pointer (some ⟨a, 0, none⟩)) := hO.ret); (have HL3 := Lib.hid (show LAt w w3 b (oneS 1000 q0 aH1 8) L3 a (aW 1 ⟨#[]⟩ 1 [] 0) v3 from HD2.out.open_ G.out hO)); (have k3 := limit_dir ((0) : Int) HL3.out.log.at_.dir); clear hO k2)
      | (go_at_call 27; (with_reducible refine k3.mono ?_); rintro e w4 ⟨L4, rfl, hW, hD⟩; (have HL4 := Lib.hid (show LAt w w4 b (oneS ((0) : Int) q0 (bytesL []) 8) L4 a (aW 1 ⟨#[]⟩ 1 [] 0) v3 from by have h := HL3.out.next (WWent.dir HL3.out.log.at_ hW hD); rw [hrm] at h; rw [bytesL_nil]; exact h)); clear hW hD k3))
    go_loopg [9, 10] N (fun g av ii wr => ∃ (i : Nat) (all : List ByteArray) (u v : Value) (L : Lay), i + g = N ∧ ii = .int .i64 (i : Int) ∧ av = u ∧ all.length ≤ i ∧ Hid (∀ s ∈ all, s.size ≤ 300) ∧ Hid (Rec wr u all) ∧ Hid (Off u b (oneS ((0) : Int) q0 (bytesL all) 8) L a v) ∧ Hid (∀ k, u.ownBlock = some k → w.heap.size ≤ k) ∧ LAt w wr b (oneS ((0) : Int) q0 (bytesL all) 8) L a (aW 1 ⟨#[]⟩ 1 all 0) v)
    case atStart => exact ⟨0, [], .slice none 0 0, v3, L4, by omega, rfl, rfl, Nat.le_refl _, Lib.hid (fun s hs => by cases hs), Lib.hid (Rec.nil _), Lib.hid Off.nil, Lib.hid (fun k e => by cases e), HL4.out⟩
    case round =>
      obtain ⟨i, all, u, v, L, hi, rfl, rfl, hlen, hsz, hrec, hoff, hown, hlog⟩ := hrel
      have HLG := Lib.hid hlog
      clear hlog HL4
      cases gk with
      | zero =>
        obtain rfl : i = N := by omega
        have hexit : ¬ (i : Int) < (n1 : Int) ∨ ((i : Int) < (n1 : Int) ∧ ¬ (i : Int) < 10) := by omega
        have hlen10 : all.length ≤ 10 := by omega
        have k4 := limit_dir 100000 HLG.out.log.at_.dir
        obtain ⟨C, hC1, hC2⟩ := great 60001 (by decide)
        obtain ⟨Z, hZ⟩ : ∃ Z, tx (List.replicate 60001 0) = Z := ⟨_, rfl⟩
        have hZs : Z.size = 60001 := by rw [← hZ, tx_size, List.length_replicate]
        rw [hZ] at hC2
        have hC3 : ∀ w : World, (Instr.makeSlice 57 (.int .i64 60001) (.int .i64 60001)).run Tryz.prog w = .ok (.slice (some ⟨w.heap.size, 0, none⟩) 60001 60001) (w.alloc (.cells C 5)) := hC1
        have hbz := bytesL_size all hsz.out
        have HBZ := Lib.hid hbz
        have HZS := Lib.hid hZs
        have HL10 := Lib.hid hlen10
        clear hC1 hZ hZs hbz hlen10 hlen
        obtain ⟨ra, rc, rfl⟩ := hrec.out.slice
        obtain ⟨nn, hnn⟩ : ∃ nn, all.length = nn := ⟨_, rfl⟩
        rw [hnn] at hrec hoff hown
        simp only [hnn]
        have HNU := Lib.hid hnn
        have hnw2 : IntKind.i64.wrap ((nn : Int) + 1) = (nn : Int) + 1 := by have := HL10.out; rw [IntKind.wrap_i64]; omega
        clear hnn
        rcases hexit with hx1 | ⟨hx1, hx2⟩
        · go_wp2_with (first
            | (go_at_call 27; (with_reducible refine k4.mono ?_); rintro e w4 ⟨L5, rfl, hW, hD⟩; (have hT := WWent.dir HLG.out.log.at_ hW hD); (obtain ⟨hr5, ho5⟩ := hoff.out.went hrec.out hT); (have HL5 := Lib.hid (show LAt w w4 b (oneS 100000 q0 (bytesL all) 8) L5 a (aW 1 ⟨#[]⟩ 1 all 0) v from HLG.out.next hT)); (have HR5 := Lib.hid hr5); (have HO5 := Lib.hid (show Off _ b (oneS 100000 q0 (bytesL all) 8) L5 a v from ho5)); clear hW hD hT hr5 ho5 k4 HLG)
            | (go_at_call 30; (have HA6 := Lib.hid (HL5.out.below (bel_next (bel_al w4 (.cells C 5)) (bel_al (w4.alloc (.cells C 5)) (.cells #[.string Z] 9))))); (have hz6 : Z.size ≤ 1000000 := by have := HZS.out; omega); (have hz7 : 60000 < Z.size := by have := HZS.out; omega); (have hp6 : ((w4.alloc (.cells C 5)).alloc (.cells #[.string Z] 9)).heap[w4.heap.size + 1]? = some (.cells #[.string Z] 9) := by have h := heap_alloc_new (w4.alloc (.cells C 5)) (.cells #[.string Z] 9); simpa using h); (have hv6 : v.ownBlock ≠ some (w4.heap.size + 1) := fun e => by obtain ⟨c, e1⟩ := HL5.out.log.at_.rcs.heap e; have := some_lt e1; omega); (with_reducible refine (app_lit HA6.out HL10.out Z hz6 hp6 hv6).mono ?_); rintro e w6 ⟨L6, v6, he6, hW⟩; rw [one_big _ _ _ _ _ _ Z hz7] at he6 hW; subst he6; (obtain ⟨hr6, ho6⟩ := (show Off _ b (oneS 100000 q0 (bytesL all) 8) L5 a v from HO5.out).went (HR5.out.later (bel_next (bel_al w4 (.cells C 5)) (bel_al (w4.alloc (.cells C 5)) (.cells #[.string Z] 9)))) hW); (have HL6 := Lib.hid (show LAt w w6 b (oneS 100000 q0 (bytesL all) 8) L6 a (aW 1 ⟨#[]⟩ 1 all 0) v6 from HA6.out.next hW)); (have HR6 := Lib.hid hr6); (have HO6 := Lib.hid (show Off _ b (oneS 100000 q0 (bytesL all) 8) L6 a v6 from ho6)); clear hW hr6 ho6 hz6 hz7 hp6 hv6 HA6 HL5 HR5 HO5)
            | (go_at_call 30; (have HA7 := Lib.hid (HL6.out.below (bel_al w6 (.cells #[.string moreT] 9)))); (with_reducible refine (app_lit HA7.out HL10.out moreT (by decide) (heap_alloc_new w6 _) HL6.out.fresh).mono ?_); rintro e w7 ⟨L7, v7, he7, hW⟩; rw [one_app _ _ _ _ _ moreT (by decide), if_neg (by have := HBZ.out; have := HL10.out; have := more_size; omega)] at he7 hW; subst he7; (obtain ⟨hr7, ho7⟩ := HO6.out.went (HR6.out.later (bel_al w6 (.cells #[.string moreT] 9))) hW); (have HL7 := Lib.hid (show LAt w w7 b (oneS 100000 q0 (bytesL (all ++ [moreT])) 8) L7 a (aW 1 ⟨#[]⟩ 1 (all ++ [moreT]) 0) v7 from HA7.out.next hW)); (have HR7 := Lib.hid hr7); (have HO7 := Lib.hid (show Off _ b (oneS 100000 q0 (bytesL (all ++ [moreT])) 8) L7 a v7 from ho7)); clear hW hr7 ho7 HA7 HL6 HR6 HO6)
            | (go_at_call 19; (have hch7 : (settleW (oneS 100000 q0 (bytesL (all ++ [moreT])) 8) (aW 1 ⟨#[]⟩ 1 (all ++ [moreT]) 0)).2.1.chg.length ≤ 900000 := by rw [one_settle]; exact Nat.zero_le _); (with_reducible refine (sync_is2 HL7.out.log (fine_more HL10.out) hch7).mono ?_); rintro e w8 ⟨q, -, hWD⟩; rw [one_sync _ _ _ _ _ _ (bytes_more HBZ.out HL10.out)] at hWD; (obtain ⟨L8, v8, rfl, hW⟩ := hWD); (obtain ⟨hr8, -⟩ := HO7.out.went HR7.out hW); (have HD8 := Lib.hid (show DAt w w8 b (oneS 100000 q0 (bytesL (all ++ [moreT])) (bytesL (all ++ [moreT])).size) L8 from (HL7.out.next hW).d)); (have HR8 := Lib.hid hr8); (have k9 := crash_dir (.slice none 0 0) [] HD8.out.dir.at_ HD8.out.dir.whole (by show 0 ≤ 1000000; decide) (fun W _ => Is.nil W)); rw [one_crash] at k9; clear hW hr8 hch7 HL7 HR7 HO7)
            | (go_at_call 35; (with_reducible refine k9.mono ?_); rintro e w9 ⟨L9, rfl, hW, hD⟩; (have HR9 := Lib.hid (HR8.out.dstep HD8.out hW.frm)); (have HD9 := Lib.hid (HD8.out.next hW hD)); (have h0 : q0 < w9.heap.size := hD.at_.room (Or.inr (Or.inr (Or.inr (Or.inr ⟨⟨q0, bytesL (all ++ [moreT]), (bytesL (all ++ [moreT])).size⟩, List.mem_singleton.2 rfl, Or.inl rfl⟩))))); (have k10 := lawOpen_is HD9.out.dir HD9.out.lo HD9.out.bel.size (HD9.out.gl G.out) (by show 0 ≤ 800000; decide) (one_textL 100000 q0 _ _ (Nat.le_trans (bytes_more HBZ.out HL10.out) (by decide)))); clear hW hD k9)
            | (go_at_call 18; (with_reducible refine k10.mono ?_); rintro e w10 ⟨q1, hq, L10, x, v10, hO⟩; (have h01 : q0 < q1 := by omega); rw [one_open _ h01 (more_le hsz.out) (by have := HL10.out; simp; omega) (by have := bytes_more HBZ.out HL10.out; omega)] at hO; (obtain rfl : e = .returned (.pointer (some ⟨x, 0, none⟩)) := hO.ret); (have HR10 := Lib.hid (HR9.out.dstep HD9.out hO.frm)); (have hL := HD9.out.open_ G.out hO); (have HB10 := Lib.hid hL.bel); (have k11 := records_is hL.log.at_ (fine_more2 HL10.out)); clear hO hq h0 h01 hL k10)
            | (go_at_call 25; (with_reducible refine k11.mono ?_); rintro e w11 ⟨u11, rfl, hR, hB⟩; (have HU11 := Lib.hid hR); (have HB11 := Lib.hid (HB10.out.trans (hB.mono HB10.out.size))); (have HR11 := Lib.hid (HR10.out.later hB)); (have HNE := Lib.hid (show ∀ k, u11.ownBlock = some k → (Value.slice ra nn rc).ownBlock ≠ some k from fun k hk e => by obtain ⟨c, e1⟩ := HR10.out.heap e; have h1 := some_lt e1; have h2 := (World.ownsRow.lt hR k hk).1; omega)); clear hR hB k11)
            | (at_builtin; refine wpList_rec rfl _ _ rfl (.slice ra nn rc) _ rfl moreT rfl HR11.out (Nat.le_trans HL10.out (by decide)) ?_; rintro u12 w12 hR12 hg12 - hs12; (have HB12 := Lib.hid (show Below w.heap.size w w12 from HB11.out.grown hg12 HB11.out.size (fun k hk => hown.out k hk))); (have HP := Lib.hid (show Ss w12 u11 (all ++ [moreT]) from Rec.ss (w := w12) ⟨Fi.row_of (row_base HU11.out) fun k hk => hg12.block k (World.ownsRow.lt HU11.out k hk).2 (fun e => HNE.out k hk e.symm), Or.inr (by simp)⟩)); (have HP2 := Lib.hid (show Ss w12 u12 (all ++ [moreT]) from hR12.ss)); (have HPZ := Lib.hid (show prefB (all ++ [moreT]) (all ++ [moreT]) ((nn : Int) + 1) = true from by have e : ((nn : Int) + 1) = (((all ++ [moreT]).length : Nat) : Int) := (by rw [List.length_append, HNU.out]; rfl); rw [e]; exact prefB_self _)); clear hR12 hg12 hs12)
            | (go_at_call 36; (with_reducible refine (prefix_is _ _ _ _ _ _ HP.out HP2.out true HPZ).mono ?_); rintro e w13 ⟨rfl, hB⟩; (have HB13 := Lib.hid (HB12.out.trans (hB.mono HB12.out.size))); clear hB))
          go_ret
          exact ⟨rfl, HB13.out⟩
        · go_wp2_with (first
            | (go_at_call 27; (with_reducible refine k4.mono ?_); rintro e w4 ⟨L5, rfl, hW, hD⟩; (have hT := WWent.dir HLG.out.log.at_ hW hD); (obtain ⟨hr5, ho5⟩ := hoff.out.went hrec.out hT); (have HL5 := Lib.hid (show LAt w w4 b (oneS 100000 q0 (bytesL all) 8) L5 a (aW 1 ⟨#[]⟩ 1 all 0) v from HLG.out.next hT)); (have HR5 := Lib.hid hr5); (have HO5 := Lib.hid (show Off _ b (oneS 100000 q0 (bytesL all) 8) L5 a v from ho5)); clear hW hD hT hr5 ho5 k4 HLG)
            | (go_at_call 30; (have HA6 := Lib.hid (HL5.out.below (bel_next (bel_al w4 (.cells C 5)) (bel_al (w4.alloc (.cells C 5)) (.cells #[.string Z] 9))))); (have hz6 : Z.size ≤ 1000000 := by have := HZS.out; omega); (have hz7 : 60000 < Z.size := by have := HZS.out; omega); (have hp6 : ((w4.alloc (.cells C 5)).alloc (.cells #[.string Z] 9)).heap[w4.heap.size + 1]? = some (.cells #[.string Z] 9) := by have h := heap_alloc_new (w4.alloc (.cells C 5)) (.cells #[.string Z] 9); simpa using h); (have hv6 : v.ownBlock ≠ some (w4.heap.size + 1) := fun e => by obtain ⟨c, e1⟩ := HL5.out.log.at_.rcs.heap e; have := some_lt e1; omega); (with_reducible refine (app_lit HA6.out HL10.out Z hz6 hp6 hv6).mono ?_); rintro e w6 ⟨L6, v6, he6, hW⟩; rw [one_big _ _ _ _ _ _ Z hz7] at he6 hW; subst he6; (obtain ⟨hr6, ho6⟩ := (show Off _ b (oneS 100000 q0 (bytesL all) 8) L5 a v from HO5.out).went (HR5.out.later (bel_next (bel_al w4 (.cells C 5)) (bel_al (w4.alloc (.cells C 5)) (.cells #[.string Z] 9)))) hW); (have HL6 := Lib.hid (show LAt w w6 b (oneS 100000 q0 (bytesL all) 8) L6 a (aW 1 ⟨#[]⟩ 1 all 0) v6 from HA6.out.next hW)); (have HR6 := Lib.hid hr6); (have HO6 := Lib.hid (show Off _ b (oneS 100000 q0 (bytesL all) 8) L6 a v6 from ho6)); clear hW hr6 ho6 hz6 hz7 hp6 hv6 HA6 HL5 HR5 HO5)
            | (go_at_call 30; (have HA7 := Lib.hid (HL6.out.below (bel_al w6 (.cells #[.string moreT] 9)))); (with_reducible refine (app_lit HA7.out HL10.out moreT (by decide) (heap_alloc_new w6 _) HL6.out.fresh).mono ?_); rintro e w7 ⟨L7, v7, he7, hW⟩; rw [one_app _ _ _ _ _ moreT (by decide), if_neg (by have := HBZ.out; have := HL10.out; have := more_size; omega)] at he7 hW; subst he7; (obtain ⟨hr7, ho7⟩ := HO6.out.went (HR6.out.later (bel_al w6 (.cells #[.string moreT] 9))) hW); (have HL7 := Lib.hid (show LAt w w7 b (oneS 100000 q0 (bytesL (all ++ [moreT])) 8) L7 a (aW 1 ⟨#[]⟩ 1 (all ++ [moreT]) 0) v7 from HA7.out.next hW)); (have HR7 := Lib.hid hr7); (have HO7 := Lib.hid (show Off _ b (oneS 100000 q0 (bytesL (all ++ [moreT])) 8) L7 a v7 from ho7)); clear hW hr7 ho7 HA7 HL6 HR6 HO6)
            | (go_at_call 19; (have hch7 : (settleW (oneS 100000 q0 (bytesL (all ++ [moreT])) 8) (aW 1 ⟨#[]⟩ 1 (all ++ [moreT]) 0)).2.1.chg.length ≤ 900000 := by rw [one_settle]; exact Nat.zero_le _); (with_reducible refine (sync_is2 HL7.out.log (fine_more HL10.out) hch7).mono ?_); rintro e w8 ⟨q, -, hWD⟩; rw [one_sync _ _ _ _ _ _ (bytes_more HBZ.out HL10.out)] at hWD; (obtain ⟨L8, v8, rfl, hW⟩ := hWD); (obtain ⟨hr8, -⟩ := HO7.out.went HR7.out hW); (have HD8 := Lib.hid (show DAt w w8 b (oneS 100000 q0 (bytesL (all ++ [moreT])) (bytesL (all ++ [moreT])).size) L8 from (HL7.out.next hW).d)); (have HR8 := Lib.hid hr8); (have k9 := crash_dir (.slice none 0 0) [] HD8.out.dir.at_ HD8.out.dir.whole (by show 0 ≤ 1000000; decide) (fun W _ => Is.nil W)); rw [one_crash] at k9; clear hW hr8 hch7 HL7 HR7 HO7)
            | (go_at_call 35; (with_reducible refine k9.mono ?_); rintro e w9 ⟨L9, rfl, hW, hD⟩; (have HR9 := Lib.hid (HR8.out.dstep HD8.out hW.frm)); (have HD9 := Lib.hid (HD8.out.next hW hD)); (have h0 : q0 < w9.heap.size := hD.at_.room (Or.inr (Or.inr (Or.inr (Or.inr ⟨⟨q0, bytesL (all ++ [moreT]), (bytesL (all ++ [moreT])).size⟩, List.mem_singleton.2 rfl, Or.inl rfl⟩))))); (have k10 := lawOpen_is HD9.out.dir HD9.out.lo HD9.out.bel.size (HD9.out.gl G.out) (by show 0 ≤ 800000; decide) (one_textL 100000 q0 _ _ (Nat.le_trans (bytes_more HBZ.out HL10.out) (by decide)))); clear hW hD k9)
            | (go_at_call 18; (with_reducible refine k10.mono ?_); rintro e w10 ⟨q1, hq, L10, x, v10, hO⟩; (have h01 : q0 < q1 := by omega); rw [one_open _ h01 (more_le hsz.out) (by have := HL10.out; simp; omega) (by have := bytes_more HBZ.out HL10.out; omega)] at hO; (obtain rfl : e = .returned (.pointer (some ⟨x, 0, none⟩)) := hO.ret); (have HR10 := Lib.hid (HR9.out.dstep HD9.out hO.frm)); (have hL := HD9.out.open_ G.out hO); (have HB10 := Lib.hid hL.bel); (have k11 := records_is hL.log.at_ (fine_more2 HL10.out)); clear hO hq h0 h01 hL k10)
            | (go_at_call 25; (with_reducible refine k11.mono ?_); rintro e w11 ⟨u11, rfl, hR, hB⟩; (have HU11 := Lib.hid hR); (have HB11 := Lib.hid (HB10.out.trans (hB.mono HB10.out.size))); (have HR11 := Lib.hid (HR10.out.later hB)); (have HNE := Lib.hid (show ∀ k, u11.ownBlock = some k → (Value.slice ra nn rc).ownBlock ≠ some k from fun k hk e => by obtain ⟨c, e1⟩ := HR10.out.heap e; have h1 := some_lt e1; have h2 := (World.ownsRow.lt hR k hk).1; omega)); clear hR hB k11)
            | (at_builtin; refine wpList_rec rfl _ _ rfl (.slice ra nn rc) _ rfl moreT rfl HR11.out (Nat.le_trans HL10.out (by decide)) ?_; rintro u12 w12 hR12 hg12 - hs12; (have HB12 := Lib.hid (show Below w.heap.size w w12 from HB11.out.grown hg12 HB11.out.size (fun k hk => hown.out k hk))); (have HP := Lib.hid (show Ss w12 u11 (all ++ [moreT]) from Rec.ss (w := w12) ⟨Fi.row_of (row_base HU11.out) fun k hk => hg12.block k (World.ownsRow.lt HU11.out k hk).2 (fun e => HNE.out k hk e.symm), Or.inr (by simp)⟩)); (have HP2 := Lib.hid (show Ss w12 u12 (all ++ [moreT]) from hR12.ss)); (have HPZ := Lib.hid (show prefB (all ++ [moreT]) (all ++ [moreT]) ((nn : Int) + 1) = true from by have e : ((nn : Int) + 1) = (((all ++ [moreT]).length : Nat) : Int) := (by rw [List.length_append, HNU.out]; rfl); rw [e]; exact prefB_self _)); clear hR12 hg12 hs12)
            | (go_at_call 36; (with_reducible refine (prefix_is _ _ _ _ _ _ HP.out HP2.out true HPZ).mono ?_); rintro e w13 ⟨rfl, hB⟩; (have HB13 := Lib.hid (HB12.out.trans (hB.mono HB12.out.size))); clear hB))
          go_ret
          exact ⟨rfl, HB13.out⟩
      | succ g =>
        have hlt : (i : Int) < (n1 : Int) := by omega
        have hl10 : (i : Int) < 10 := by omega
        have hin : i < n1 := by omega
        have hil : i < l.length := by rw [HN1.out]; omega
        obtain ⟨ba, oa, rfl, -, cax⟩ := ((HSS.out (by omega)).below (HLG.out.bel)).cell (by omega)
        have c2 := cax i hil
        obtain ⟨y, hy⟩ : ∃ y, l[i] = y := ⟨_, rfl⟩
        rw [hy] at c2
        have hiw : IntKind.i64.wrap ((i : Int) + 1) = (i : Int) + 1 := by rw [IntKind.wrap_i64]; omega
        obtain ⟨t, ht⟩ : ∃ t, cutS y 300 = t := ⟨_, rfl⟩
        have htz : t.size ≤ 300 := by rw [← ht]; exact cutS_size _ _
        have ks := lshort_is y t 300 300 wr rfl (by decide) (Lib.hid ht)
        have HTZ := Lib.hid htz
        have hal := HLG.out.below (bel_al wr (.cells #[.string t] 9))
        have HAL := Lib.hid hal
        have kp : Calls Tryz.prog 30 #[.pointer (some ⟨a, 0, none⟩), .slice (some ⟨wr.heap.size, 0, none⟩) 1 1] (wr.alloc (.cells #[.string t] 9)) (WDone b (oneS ((0) : Int) q0 (bytesL all) 8) L a (aW 1 ⟨#[]⟩ 1 all 0) v (appendW (oneS ((0) : Int) q0 (bytesL all) 8) (aW 1 ⟨#[]⟩ 1 all 0) [t]) (wr.alloc (.cells #[.string t] 9))) := append_is2 hal.log ⟨by show (0 : Int) ≤ 1; decide, by show (1 : Int) ≤ 2199023255552; decide, by show all.length ≤ _; omega, by show (0 : Int) ≤ 1; decide, by show (1 : Int) ≤ 100000000; decide⟩ (by show all.length ≤ _; omega) (some ⟨wr.heap.size, 0, none⟩) 1 [t] (by show 1 ≤ 41; decide) (fun s hs => by rw [List.mem_singleton] at hs; subst hs; omega) (fun _ _ _ _ _ k => ss_lit (hal.keep (heap_alloc_new wr _) HLG.out.fresh k).1 (by show 1 ≤ maxLen; unfold maxLen; decide))
        have HR1 := Lib.hid (hrec.out.later (bel_al wr (.cells #[.string t] 9)))
        rw [one_app ((0) : Int) q0 all 8 0 t (by omega)] at kp
        clear cax hy ht htz hal
        by_cases hroom2 : ((0) : Int) < ((bytesL all).size : Int) + ((tx (frs (byL [t]))).size : Int)
        · rw [if_pos hroom2] at kp
          clear hroom2
          go_wp2_with (first
            | (go_at_call 10; (with_reducible refine ks.mono ?_); rintro _ w5 ⟨rfl, rfl⟩; clear ks)
            | (go_at_call 30; (with_reducible refine kp.mono ?_); rintro e w6 ⟨L6, v6, rfl, hW⟩; (obtain ⟨hr6, ho6⟩ := hoff.out.went HR1.out hW); (have HL6 := Lib.hid (show LAt w w6 b (oneS ((0) : Int) q0 (bytesL all) 8) L6 a (aW 1 ⟨#[]⟩ 1 all 0) v6 from HAL.out.next hW)); clear hW kp))
          have HR6 := Lib.hid hr6
          have HO6 := Lib.hid ho6
          clear hr6 ho6
          go_roundg g
          case measure => omega
          case rel => exact ⟨i + 1, all, _, v6, L6, by omega, by go_num, rfl, by omega, hsz, HR6, HO6, hown, HL6.out⟩
        · rw [if_neg hroom2] at kp
          obtain ⟨ra, rc, rfl⟩ := hrec.out.slice
          have HLN := Lib.hid (show all.length ≤ 100000000 by omega)
          obtain ⟨nn, hnn⟩ : ∃ nn, all.length = nn := ⟨_, rfl⟩
          rw [hnn] at hrec hoff hown HR1
          simp only [hnn]
          have HNU := Lib.hid hnn
          clear hroom2 hnn
          go_wp2_with (first
            | (go_at_call 10; (with_reducible refine ks.mono ?_); rintro _ w5 ⟨rfl, rfl⟩; clear ks)
            | (go_at_call 30; (with_reducible refine kp.mono ?_); rintro e w6 ⟨L6, v6, rfl, hW⟩; (obtain ⟨hr6, ho6⟩ := hoff.out.went HR1.out hW); (have HR6 := Lib.hid hr6); (have HO6 := Lib.hid ho6); (have HL6 := Lib.hid (show LAt w w6 b (oneS ((0) : Int) q0 (bytesL (all ++ [t])) 8) L6 a (aW 1 ⟨#[]⟩ 1 (all ++ [t]) 0) v6 from HAL.out.next hW)); clear hW kp hr6 ho6)
            | (at_builtin; refine wpList_rec rfl _ _ rfl (.slice ra nn rc) _ rfl t rfl HR6.out HLN.out ?_))
          rintro u2 w7 hR7 hg7 h17 hs7
          have HR7 := Lib.hid hR7
          have HB7 := Lib.hid (show Below w.heap.size w w7 from HL6.out.bel.grown hg7 HL6.out.bel.size (fun k hk => hown.out k hk))
          have HL7 := Lib.hid (HL6.out.aside HO6.out hg7 h17 HB7.out (fun w'' k => G.out.below (HB7.out.trans k)))
          have HO7 := Lib.hid (HO6.out.grown HL6.out.log.at_ hs7)
          have HW7 := Lib.hid (show ∀ k, u2.ownBlock = some k → w.heap.size ≤ k from fun k hk => by
            rcases hs7 with h | ⟨q, h, hq⟩
            · exact hown.out k (h ▸ hk)
            · rw [h] at hk; injection hk with hk; subst hk
              exact Nat.le_trans HL6.out.bel.size hq)
          have HSZ := Lib.hid (show ∀ s ∈ all ++ [t], s.size ≤ 300 from fun s hs => by
            rcases List.mem_append.1 hs with h | h
            · exact hsz.out s h
            · rw [List.mem_singleton] at h; subst h; exact HTZ.out)
          have hl2 : (all ++ [t]).length ≤ i + 1 := by rw [List.length_append]; show all.length + 1 ≤ _; omega
          obtain ⟨ra2, rc2, hv2⟩ := hR7.slice
          clear hR7 hg7 h17 hs7
          go_wp2
          go_roundg g
          case measure => omega
          case rel => exact ⟨i + 1, all ++ [t], u2, v6, L6, by omega, by go_num, rfl, hl2, HSZ, HR7, HO7, HW7, HL7.out⟩
  · have hrm : roomI (((n : Nat)) : Int) = (((n : Nat)) : Int) := by unfold roomI; omega
    have hn0 : -(n : Int) < 0 := by omega
    have hnw : IntKind.i64.wrap (n : Int) = (n : Int) := by rw [IntKind.wrap_i64]; omega
    go_enter Tryz.func6, Tryz.ntmps6
    go_wp2_with (first
      | (go_at_call 9; (with_reducible refine ka.mono ?_); rintro _ w1 ⟨rfl, hB⟩; (have HB1 := Lib.hid hB); (have k1 := new_dir 1000 w1); clear hB ka)
      | (go_at_call 17; (with_reducible refine k1.mono ?_); rintro e w2 ⟨b, L2, rfl, hD, hB, hlo⟩; (have HD2 := Lib.hid (show DAt w w2 b (emptyS 1000) L2 from ⟨hD, fun k hk => Nat.le_trans HB1.out.size (hlo k hk), HB1.out.trans (hB.mono HB1.out.size)⟩)); (have k2 := lawOpen_is HD2.out.dir HD2.out.lo HD2.out.bel.size (HD2.out.gl G.out) (by show 0 ≤ 800000; decide) (one_text0 1000)); clear hD hB hlo k1)
      | (go_at_call 18; (with_reducible refine k2.mono ?_); rintro e w3 ⟨q0, -, L3, a, v3, hO⟩; rw [one_open0 1000 (by decide)] at hO; (obtain rfl : e = .returned (.pointer (some ⟨a, 0, none⟩)) := hO.ret); (have HL3 := Lib.hid (show LAt w w3 b (oneS 1000 q0 aH1 8) L3 a (aW 1 ⟨#[]⟩ 1 [] 0) v3 from HD2.out.open_ G.out hO)); (have k3 := limit_dir (((n : Nat)) : Int) HL3.out.log.at_.dir); clear hO k2)
      | (go_at_call 27; (with_reducible refine k3.mono ?_); rintro e w4 ⟨L4, rfl, hW, hD⟩; (have HL4 := Lib.hid (show LAt w w4 b (oneS (((n : Nat)) : Int) q0 (bytesL []) 8) L4 a (aW 1 ⟨#[]⟩ 1 [] 0) v3 from by have h := HL3.out.next (WWent.dir HL3.out.log.at_ hW hD); rw [hrm] at h; rw [bytesL_nil]; exact h)); clear hW hD k3))
    go_loopg [9, 10] N (fun g av ii wr => ∃ (i : Nat) (all : List ByteArray) (u v : Value) (L : Lay), i + g = N ∧ ii = .int .i64 (i : Int) ∧ av = u ∧ all.length ≤ i ∧ Hid (∀ s ∈ all, s.size ≤ 300) ∧ Hid (Rec wr u all) ∧ Hid (Off u b (oneS (((n : Nat)) : Int) q0 (bytesL all) 8) L a v) ∧ Hid (∀ k, u.ownBlock = some k → w.heap.size ≤ k) ∧ LAt w wr b (oneS (((n : Nat)) : Int) q0 (bytesL all) 8) L a (aW 1 ⟨#[]⟩ 1 all 0) v)
    case atStart => exact ⟨0, [], .slice none 0 0, v3, L4, by omega, rfl, rfl, Nat.le_refl _, Lib.hid (fun s hs => by cases hs), Lib.hid (Rec.nil _), Lib.hid Off.nil, Lib.hid (fun k e => by cases e), HL4.out⟩
    case round =>
      obtain ⟨i, all, u, v, L, hi, rfl, rfl, hlen, hsz, hrec, hoff, hown, hlog⟩ := hrel
      have HLG := Lib.hid hlog
      clear hlog HL4
      cases gk with
      | zero =>
        obtain rfl : i = N := by omega
        have hexit : ¬ (i : Int) < (n1 : Int) ∨ ((i : Int) < (n1 : Int) ∧ ¬ (i : Int) < 10) := by omega
        have hlen10 : all.length ≤ 10 := by omega
        have k4 := limit_dir 100000 HLG.out.log.at_.dir
        obtain ⟨C, hC1, hC2⟩ := great 60001 (by decide)
        obtain ⟨Z, hZ⟩ : ∃ Z, tx (List.replicate 60001 0) = Z := ⟨_, rfl⟩
        have hZs : Z.size = 60001 := by rw [← hZ, tx_size, List.length_replicate]
        rw [hZ] at hC2
        have hC3 : ∀ w : World, (Instr.makeSlice 57 (.int .i64 60001) (.int .i64 60001)).run Tryz.prog w = .ok (.slice (some ⟨w.heap.size, 0, none⟩) 60001 60001) (w.alloc (.cells C 5)) := hC1
        have hbz := bytesL_size all hsz.out
        have HBZ := Lib.hid hbz
        have HZS := Lib.hid hZs
        have HL10 := Lib.hid hlen10
        clear hC1 hZ hZs hbz hlen10 hlen
        obtain ⟨ra, rc, rfl⟩ := hrec.out.slice
        obtain ⟨nn, hnn⟩ : ∃ nn, all.length = nn := ⟨_, rfl⟩
        rw [hnn] at hrec hoff hown
        simp only [hnn]
        have HNU := Lib.hid hnn
        have hnw2 : IntKind.i64.wrap ((nn : Int) + 1) = (nn : Int) + 1 := by have := HL10.out; rw [IntKind.wrap_i64]; omega
        clear hnn
        rcases hexit with hx1 | ⟨hx1, hx2⟩
        · go_wp2_with (first
            | (go_at_call 27; (with_reducible refine k4.mono ?_); rintro e w4 ⟨L5, rfl, hW, hD⟩; (have hT := WWent.dir HLG.out.log.at_ hW hD); (obtain ⟨hr5, ho5⟩ := hoff.out.went hrec.out hT); (have HL5 := Lib.hid (show LAt w w4 b (oneS 100000 q0 (bytesL all) 8) L5 a (aW 1 ⟨#[]⟩ 1 all 0) v from HLG.out.next hT)); (have HR5 := Lib.hid hr5); (have HO5 := Lib.hid (show Off _ b (oneS 100000 q0 (bytesL all) 8) L5 a v from ho5)); clear hW hD hT hr5 ho5 k4 HLG)
            | (go_at_call 30; (have HA6 := Lib.hid (HL5.out.below (bel_next (bel_al w4 (.cells C 5)) (bel_al (w4.alloc (.cells C 5)) (.cells #[.string Z] 9))))); (have hz6 : Z.size ≤ 1000000 := by have := HZS.out; omega); (have hz7 : 60000 < Z.size := by have := HZS.out; omega); (have hp6 : ((w4.alloc (.cells C 5)).alloc (.cells #[.string Z] 9)).heap[w4.heap.size + 1]? = some (.cells #[.string Z] 9) := by have h := heap_alloc_new (w4.alloc (.cells C 5)) (.cells #[.string Z] 9); simpa using h); (have hv6 : v.ownBlock ≠ some (w4.heap.size + 1) := fun e => by obtain ⟨c, e1⟩ := HL5.out.log.at_.rcs.heap e; have := some_lt e1; omega); (with_reducible refine (app_lit HA6.out HL10.out Z hz6 hp6 hv6).mono ?_); rintro e w6 ⟨L6, v6, he6, hW⟩; rw [one_big _ _ _ _ _ _ Z hz7] at he6 hW; subst he6; (obtain ⟨hr6, ho6⟩ := (show Off _ b (oneS 100000 q0 (bytesL all) 8) L5 a v from HO5.out).went (HR5.out.later (bel_next (bel_al w4 (.cells C 5)) (bel_al (w4.alloc (.cells C 5)) (.cells #[.string Z] 9)))) hW); (have HL6 := Lib.hid (show LAt w w6 b (oneS 100000 q0 (bytesL all) 8) L6 a (aW 1 ⟨#[]⟩ 1 all 0) v6 from HA6.out.next hW)); (have HR6 := Lib.hid hr6); (have HO6 := Lib.hid (show Off _ b (oneS 100000 q0 (bytesL all) 8) L6 a v6 from ho6)); clear hW hr6 ho6 hz6 hz7 hp6 hv6 HA6 HL5 HR5 HO5)
            | (go_at_call 30; (have HA7 := Lib.hid (HL6.out.below (bel_al w6 (.cells #[.string moreT] 9)))); (with_reducible refine (app_lit HA7.out HL10.out moreT (by decide) (heap_alloc_new w6 _) HL6.out.fresh).mono ?_); rintro e w7 ⟨L7, v7, he7, hW⟩; rw [one_app _ _ _ _ _ moreT (by decide), if_neg (by have := HBZ.out; have := HL10.out; have := more_size; omega)] at he7 hW; subst he7; (obtain ⟨hr7, ho7⟩ := HO6.out.went (HR6.out.later (bel_al w6 (.cells #[.string moreT] 9))) hW); (have HL7 := Lib.hid (show LAt w w7 b (oneS 100000 q0 (bytesL (all ++ [moreT])) 8) L7 a (aW 1 ⟨#[]⟩ 1 (all ++ [moreT]) 0) v7 from HA7.out.next hW)); (have HR7 := Lib.hid hr7); (have HO7 := Lib.hid (show Off _ b (oneS 100000 q0 (bytesL (all ++ [moreT])) 8) L7 a v7 from ho7)); clear hW hr7 ho7 HA7 HL6 HR6 HO6)
            | (go_at_call 19; (have hch7 : (settleW (oneS 100000 q0 (bytesL (all ++ [moreT])) 8) (aW 1 ⟨#[]⟩ 1 (all ++ [moreT]) 0)).2.1.chg.length ≤ 900000 := by rw [one_settle]; exact Nat.zero_le _); (with_reducible refine (sync_is2 HL7.out.log (fine_more HL10.out) hch7).mono ?_); rintro e w8 ⟨q, -, hWD⟩; rw [one_sync _ _ _ _ _ _ (bytes_more HBZ.out HL10.out)] at hWD; (obtain ⟨L8, v8, rfl, hW⟩ := hWD); (obtain ⟨hr8, -⟩ := HO7.out.went HR7.out hW); (have HD8 := Lib.hid (show DAt w w8 b (oneS 100000 q0 (bytesL (all ++ [moreT])) (bytesL (all ++ [moreT])).size) L8 from (HL7.out.next hW).d)); (have HR8 := Lib.hid hr8); (have k9 := crash_dir (.slice none 0 0) [] HD8.out.dir.at_ HD8.out.dir.whole (by show 0 ≤ 1000000; decide) (fun W _ => Is.nil W)); rw [one_crash] at k9; clear hW hr8 hch7 HL7 HR7 HO7)
            | (go_at_call 35; (with_reducible refine k9.mono ?_); rintro e w9 ⟨L9, rfl, hW, hD⟩; (have HR9 := Lib.hid (HR8.out.dstep HD8.out hW.frm)); (have HD9 := Lib.hid (HD8.out.next hW hD)); (have h0 : q0 < w9.heap.size := hD.at_.room (Or.inr (Or.inr (Or.inr (Or.inr ⟨⟨q0, bytesL (all ++ [moreT]), (bytesL (all ++ [moreT])).size⟩, List.mem_singleton.2 rfl, Or.inl rfl⟩))))); (have k10 := lawOpen_is HD9.out.dir HD9.out.lo HD9.out.bel.size (HD9.out.gl G.out) (by show 0 ≤ 800000; decide) (one_textL 100000 q0 _ _ (Nat.le_trans (bytes_more HBZ.out HL10.out) (by decide)))); clear hW hD k9)
            | (go_at_call 18; (with_reducible refine k10.mono ?_); rintro e w10 ⟨q1, hq, L10, x, v10, hO⟩; (have h01 : q0 < q1 := by omega); rw [one_open _ h01 (more_le hsz.out) (by have := HL10.out; simp; omega) (by have := bytes_more HBZ.out HL10.out; omega)] at hO; (obtain rfl : e = .returned (.pointer (some ⟨x, 0, none⟩)) := hO.ret); (have HR10 := Lib.hid (HR9.out.dstep HD9.out hO.frm)); (have hL := HD9.out.open_ G.out hO); (have HB10 := Lib.hid hL.bel); (have k11 := records_is hL.log.at_ (fine_more2 HL10.out)); clear hO hq h0 h01 hL k10)
            | (go_at_call 25; (with_reducible refine k11.mono ?_); rintro e w11 ⟨u11, rfl, hR, hB⟩; (have HU11 := Lib.hid hR); (have HB11 := Lib.hid (HB10.out.trans (hB.mono HB10.out.size))); (have HR11 := Lib.hid (HR10.out.later hB)); (have HNE := Lib.hid (show ∀ k, u11.ownBlock = some k → (Value.slice ra nn rc).ownBlock ≠ some k from fun k hk e => by obtain ⟨c, e1⟩ := HR10.out.heap e; have h1 := some_lt e1; have h2 := (World.ownsRow.lt hR k hk).1; omega)); clear hR hB k11)
            | (at_builtin; refine wpList_rec rfl _ _ rfl (.slice ra nn rc) _ rfl moreT rfl HR11.out (Nat.le_trans HL10.out (by decide)) ?_; rintro u12 w12 hR12 hg12 - hs12; (have HB12 := Lib.hid (show Below w.heap.size w w12 from HB11.out.grown hg12 HB11.out.size (fun k hk => hown.out k hk))); (have HP := Lib.hid (show Ss w12 u11 (all ++ [moreT]) from Rec.ss (w := w12) ⟨Fi.row_of (row_base HU11.out) fun k hk => hg12.block k (World.ownsRow.lt HU11.out k hk).2 (fun e => HNE.out k hk e.symm), Or.inr (by simp)⟩)); (have HP2 := Lib.hid (show Ss w12 u12 (all ++ [moreT]) from hR12.ss)); (have HPZ := Lib.hid (show prefB (all ++ [moreT]) (all ++ [moreT]) ((nn : Int) + 1) = true from by have e : ((nn : Int) + 1) = (((all ++ [moreT]).length : Nat) : Int) := (by rw [List.length_append, HNU.out]; rfl); rw [e]; exact prefB_self _)); clear hR12 hg12 hs12)
            | (go_at_call 36; (with_reducible refine (prefix_is _ _ _ _ _ _ HP.out HP2.out true HPZ).mono ?_); rintro e w13 ⟨rfl, hB⟩; (have HB13 := Lib.hid (HB12.out.trans (hB.mono HB12.out.size))); clear hB))
          go_ret
          exact ⟨rfl, HB13.out⟩
        · go_wp2_with (first
            | (go_at_call 27; (with_reducible refine k4.mono ?_); rintro e w4 ⟨L5, rfl, hW, hD⟩; (have hT := WWent.dir HLG.out.log.at_ hW hD); (obtain ⟨hr5, ho5⟩ := hoff.out.went hrec.out hT); (have HL5 := Lib.hid (show LAt w w4 b (oneS 100000 q0 (bytesL all) 8) L5 a (aW 1 ⟨#[]⟩ 1 all 0) v from HLG.out.next hT)); (have HR5 := Lib.hid hr5); (have HO5 := Lib.hid (show Off _ b (oneS 100000 q0 (bytesL all) 8) L5 a v from ho5)); clear hW hD hT hr5 ho5 k4 HLG)
            | (go_at_call 30; (have HA6 := Lib.hid (HL5.out.below (bel_next (bel_al w4 (.cells C 5)) (bel_al (w4.alloc (.cells C 5)) (.cells #[.string Z] 9))))); (have hz6 : Z.size ≤ 1000000 := by have := HZS.out; omega); (have hz7 : 60000 < Z.size := by have := HZS.out; omega); (have hp6 : ((w4.alloc (.cells C 5)).alloc (.cells #[.string Z] 9)).heap[w4.heap.size + 1]? = some (.cells #[.string Z] 9) := by have h := heap_alloc_new (w4.alloc (.cells C 5)) (.cells #[.string Z] 9); simpa using h); (have hv6 : v.ownBlock ≠ some (w4.heap.size + 1) := fun e => by obtain ⟨c, e1⟩ := HL5.out.log.at_.rcs.heap e; have := some_lt e1; omega); (with_reducible refine (app_lit HA6.out HL10.out Z hz6 hp6 hv6).mono ?_); rintro e w6 ⟨L6, v6, he6, hW⟩; rw [one_big _ _ _ _ _ _ Z hz7] at he6 hW; subst he6; (obtain ⟨hr6, ho6⟩ := (show Off _ b (oneS 100000 q0 (bytesL all) 8) L5 a v from HO5.out).went (HR5.out.later (bel_next (bel_al w4 (.cells C 5)) (bel_al (w4.alloc (.cells C 5)) (.cells #[.string Z] 9)))) hW); (have HL6 := Lib.hid (show LAt w w6 b (oneS 100000 q0 (bytesL all) 8) L6 a (aW 1 ⟨#[]⟩ 1 all 0) v6 from HA6.out.next hW)); (have HR6 := Lib.hid hr6); (have HO6 := Lib.hid (show Off _ b (oneS 100000 q0 (bytesL all) 8) L6 a v6 from ho6)); clear hW hr6 ho6 hz6 hz7 hp6 hv6 HA6 HL5 HR5 HO5)
            | (go_at_call 30; (have HA7 := Lib.hid (HL6.out.below (bel_al w6 (.cells #[.string moreT] 9)))); (with_reducible refine (app_lit HA7.out HL10.out moreT (by decide) (heap_alloc_new w6 _) HL6.out.fresh).mono ?_); rintro e w7 ⟨L7, v7, he7, hW⟩; rw [one_app _ _ _ _ _ moreT (by decide), if_neg (by have := HBZ.out; have := HL10.out; have := more_size; omega)] at he7 hW; subst he7; (obtain ⟨hr7, ho7⟩ := HO6.out.went (HR6.out.later (bel_al w6 (.cells #[.string moreT] 9))) hW); (have HL7 := Lib.hid (show LAt w w7 b (oneS 100000 q0 (bytesL (all ++ [moreT])) 8) L7 a (aW 1 ⟨#[]⟩ 1 (all ++ [moreT]) 0) v7 from HA7.out.next hW)); (have HR7 := Lib.hid hr7); (have HO7 := Lib.hid (show Off _ b (oneS 100000 q0 (bytesL (all ++ [moreT])) 8) L7 a v7 from ho7)); clear hW hr7 ho7 HA7 HL6 HR6 HO6)
            | (go_at_call 19; (have hch7 : (settleW (oneS 100000 q0 (bytesL (all ++ [moreT])) 8) (aW 1 ⟨#[]⟩ 1 (all ++ [moreT]) 0)).2.1.chg.length ≤ 900000 := by rw [one_settle]; exact Nat.zero_le _); (with_reducible refine (sync_is2 HL7.out.log (fine_more HL10.out) hch7).mono ?_); rintro e w8 ⟨q, -, hWD⟩; rw [one_sync _ _ _ _ _ _ (bytes_more HBZ.out HL10.out)] at hWD; (obtain ⟨L8, v8, rfl, hW⟩ := hWD); (obtain ⟨hr8, -⟩ := HO7.out.went HR7.out hW); (have HD8 := Lib.hid (show DAt w w8 b (oneS 100000 q0 (bytesL (all ++ [moreT])) (bytesL (all ++ [moreT])).size) L8 from (HL7.out.next hW).d)); (have HR8 := Lib.hid hr8); (have k9 := crash_dir (.slice none 0 0) [] HD8.out.dir.at_ HD8.out.dir.whole (by show 0 ≤ 1000000; decide) (fun W _ => Is.nil W)); rw [one_crash] at k9; clear hW hr8 hch7 HL7 HR7 HO7)
            | (go_at_call 35; (with_reducible refine k9.mono ?_); rintro e w9 ⟨L9, rfl, hW, hD⟩; (have HR9 := Lib.hid (HR8.out.dstep HD8.out hW.frm)); (have HD9 := Lib.hid (HD8.out.next hW hD)); (have h0 : q0 < w9.heap.size := hD.at_.room (Or.inr (Or.inr (Or.inr (Or.inr ⟨⟨q0, bytesL (all ++ [moreT]), (bytesL (all ++ [moreT])).size⟩, List.mem_singleton.2 rfl, Or.inl rfl⟩))))); (have k10 := lawOpen_is HD9.out.dir HD9.out.lo HD9.out.bel.size (HD9.out.gl G.out) (by show 0 ≤ 800000; decide) (one_textL 100000 q0 _ _ (Nat.le_trans (bytes_more HBZ.out HL10.out) (by decide)))); clear hW hD k9)
            | (go_at_call 18; (with_reducible refine k10.mono ?_); rintro e w10 ⟨q1, hq, L10, x, v10, hO⟩; (have h01 : q0 < q1 := by omega); rw [one_open _ h01 (more_le hsz.out) (by have := HL10.out; simp; omega) (by have := bytes_more HBZ.out HL10.out; omega)] at hO; (obtain rfl : e = .returned (.pointer (some ⟨x, 0, none⟩)) := hO.ret); (have HR10 := Lib.hid (HR9.out.dstep HD9.out hO.frm)); (have hL := HD9.out.open_ G.out hO); (have HB10 := Lib.hid hL.bel); (have k11 := records_is hL.log.at_ (fine_more2 HL10.out)); clear hO hq h0 h01 hL k10)
            | (go_at_call 25; (with_reducible refine k11.mono ?_); rintro e w11 ⟨u11, rfl, hR, hB⟩; (have HU11 := Lib.hid hR); (have HB11 := Lib.hid (HB10.out.trans (hB.mono HB10.out.size))); (have HR11 := Lib.hid (HR10.out.later hB)); (have HNE := Lib.hid (show ∀ k, u11.ownBlock = some k → (Value.slice ra nn rc).ownBlock ≠ some k from fun k hk e => by obtain ⟨c, e1⟩ := HR10.out.heap e; have h1 := some_lt e1; have h2 := (World.ownsRow.lt hR k hk).1; omega)); clear hR hB k11)
            | (at_builtin; refine wpList_rec rfl _ _ rfl (.slice ra nn rc) _ rfl moreT rfl HR11.out (Nat.le_trans HL10.out (by decide)) ?_; rintro u12 w12 hR12 hg12 - hs12; (have HB12 := Lib.hid (show Below w.heap.size w w12 from HB11.out.grown hg12 HB11.out.size (fun k hk => hown.out k hk))); (have HP := Lib.hid (show Ss w12 u11 (all ++ [moreT]) from Rec.ss (w := w12) ⟨Fi.row_of (row_base HU11.out) fun k hk => hg12.block k (World.ownsRow.lt HU11.out k hk).2 (fun e => HNE.out k hk e.symm), Or.inr (by simp)⟩)); (have HP2 := Lib.hid (show Ss w12 u12 (all ++ [moreT]) from hR12.ss)); (have HPZ := Lib.hid (show prefB (all ++ [moreT]) (all ++ [moreT]) ((nn : Int) + 1) = true from by have e : ((nn : Int) + 1) = (((all ++ [moreT]).length : Nat) : Int) := (by rw [List.length_append, HNU.out]; rfl); rw [e]; exact prefB_self _)); clear hR12 hg12 hs12)
            | (go_at_call 36; (with_reducible refine (prefix_is _ _ _ _ _ _ HP.out HP2.out true HPZ).mono ?_); rintro e w13 ⟨rfl, hB⟩; (have HB13 := Lib.hid (HB12.out.trans (hB.mono HB12.out.size))); clear hB))
          go_ret
          exact ⟨rfl, HB13.out⟩
      | succ g =>
        have hlt : (i : Int) < (n1 : Int) := by omega
        have hl10 : (i : Int) < 10 := by omega
        have hin : i < n1 := by omega
        have hil : i < l.length := by rw [HN1.out]; omega
        obtain ⟨ba, oa, rfl, -, cax⟩ := ((HSS.out (by omega)).below (HLG.out.bel)).cell (by omega)
        have c2 := cax i hil
        obtain ⟨y, hy⟩ : ∃ y, l[i] = y := ⟨_, rfl⟩
        rw [hy] at c2
        have hiw : IntKind.i64.wrap ((i : Int) + 1) = (i : Int) + 1 := by rw [IntKind.wrap_i64]; omega
        obtain ⟨t, ht⟩ : ∃ t, cutS y 300 = t := ⟨_, rfl⟩
        have htz : t.size ≤ 300 := by rw [← ht]; exact cutS_size _ _
        have ks := lshort_is y t 300 300 wr rfl (by decide) (Lib.hid ht)
        have HTZ := Lib.hid htz
        have hal := HLG.out.below (bel_al wr (.cells #[.string t] 9))
        have HAL := Lib.hid hal
        have kp : Calls Tryz.prog 30 #[.pointer (some ⟨a, 0, none⟩), .slice (some ⟨wr.heap.size, 0, none⟩) 1 1] (wr.alloc (.cells #[.string t] 9)) (WDone b (oneS (((n : Nat)) : Int) q0 (bytesL all) 8) L a (aW 1 ⟨#[]⟩ 1 all 0) v (appendW (oneS (((n : Nat)) : Int) q0 (bytesL all) 8) (aW 1 ⟨#[]⟩ 1 all 0) [t]) (wr.alloc (.cells #[.string t] 9))) := append_is2 hal.log ⟨by show (0 : Int) ≤ 1; decide, by show (1 : Int) ≤ 2199023255552; decide, by show all.length ≤ _; omega, by show (0 : Int) ≤ 1; decide, by show (1 : Int) ≤ 100000000; decide⟩ (by show all.length ≤ _; omega) (some ⟨wr.heap.size, 0, none⟩) 1 [t] (by show 1 ≤ 41; decide) (fun s hs => by rw [List.mem_singleton] at hs; subst hs; omega) (fun _ _ _ _ _ k => ss_lit (hal.keep (heap_alloc_new wr _) HLG.out.fresh k).1 (by show 1 ≤ maxLen; unfold maxLen; decide))
        have HR1 := Lib.hid (hrec.out.later (bel_al wr (.cells #[.string t] 9)))
        rw [one_app (((n : Nat)) : Int) q0 all 8 0 t (by omega)] at kp
        clear cax hy ht htz hal
        by_cases hroom2 : (((n : Nat)) : Int) < ((bytesL all).size : Int) + ((tx (frs (byL [t]))).size : Int)
        · rw [if_pos hroom2] at kp
          clear hroom2
          go_wp2_with (first
            | (go_at_call 10; (with_reducible refine ks.mono ?_); rintro _ w5 ⟨rfl, rfl⟩; clear ks)
            | (go_at_call 30; (with_reducible refine kp.mono ?_); rintro e w6 ⟨L6, v6, rfl, hW⟩; (obtain ⟨hr6, ho6⟩ := hoff.out.went HR1.out hW); (have HL6 := Lib.hid (show LAt w w6 b (oneS (((n : Nat)) : Int) q0 (bytesL all) 8) L6 a (aW 1 ⟨#[]⟩ 1 all 0) v6 from HAL.out.next hW)); clear hW kp))
          have HR6 := Lib.hid hr6
          have HO6 := Lib.hid ho6
          clear hr6 ho6
          go_roundg g
          case measure => omega
          case rel => exact ⟨i + 1, all, _, v6, L6, by omega, by go_num, rfl, by omega, hsz, HR6, HO6, hown, HL6.out⟩
        · rw [if_neg hroom2] at kp
          obtain ⟨ra, rc, rfl⟩ := hrec.out.slice
          have HLN := Lib.hid (show all.length ≤ 100000000 by omega)
          obtain ⟨nn, hnn⟩ : ∃ nn, all.length = nn := ⟨_, rfl⟩
          rw [hnn] at hrec hoff hown HR1
          simp only [hnn]
          have HNU := Lib.hid hnn
          clear hroom2 hnn
          go_wp2_with (first
            | (go_at_call 10; (with_reducible refine ks.mono ?_); rintro _ w5 ⟨rfl, rfl⟩; clear ks)
            | (go_at_call 30; (with_reducible refine kp.mono ?_); rintro e w6 ⟨L6, v6, rfl, hW⟩; (obtain ⟨hr6, ho6⟩ := hoff.out.went HR1.out hW); (have HR6 := Lib.hid hr6); (have HO6 := Lib.hid ho6); (have HL6 := Lib.hid (show LAt w w6 b (oneS (((n : Nat)) : Int) q0 (bytesL (all ++ [t])) 8) L6 a (aW 1 ⟨#[]⟩ 1 (all ++ [t]) 0) v6 from HAL.out.next hW)); clear hW kp hr6 ho6)
            | (at_builtin; refine wpList_rec rfl _ _ rfl (.slice ra nn rc) _ rfl t rfl HR6.out HLN.out ?_))
          rintro u2 w7 hR7 hg7 h17 hs7
          have HR7 := Lib.hid hR7
          have HB7 := Lib.hid (show Below w.heap.size w w7 from HL6.out.bel.grown hg7 HL6.out.bel.size (fun k hk => hown.out k hk))
          have HL7 := Lib.hid (HL6.out.aside HO6.out hg7 h17 HB7.out (fun w'' k => G.out.below (HB7.out.trans k)))
          have HO7 := Lib.hid (HO6.out.grown HL6.out.log.at_ hs7)
          have HW7 := Lib.hid (show ∀ k, u2.ownBlock = some k → w.heap.size ≤ k from fun k hk => by
            rcases hs7 with h | ⟨q, h, hq⟩
            · exact hown.out k (h ▸ hk)
            · rw [h] at hk; injection hk with hk; subst hk
              exact Nat.le_trans HL6.out.bel.size hq)
          have HSZ := Lib.hid (show ∀ s ∈ all ++ [t], s.size ≤ 300 from fun s hs => by
            rcases List.mem_append.1 hs with h | h
            · exact hsz.out s h
            · rw [List.mem_singleton] at h; subst h; exact HTZ.out)
          have hl2 : (all ++ [t]).length ≤ i + 1 := by rw [List.length_append]; show all.length + 1 ≤ _; omega
          obtain ⟨ra2, rc2, hv2⟩ := hR7.slice
          clear hR7 hg7 h17 hs7
          go_wp2
          go_roundg g
          case measure => omega
          case rel => exact ⟨i + 1, all ++ [t], u2, v6, L6, by omega, by go_num, rfl, hl2, HSZ, HR7, HO7, HW7, HL7.out⟩
end walFull
end Go.Proofs.YteijmjbiaffcmaaGreatDoor
