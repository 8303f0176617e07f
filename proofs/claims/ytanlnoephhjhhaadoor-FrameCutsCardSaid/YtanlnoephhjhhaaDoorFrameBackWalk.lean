/- The walk of law FrameBack: it returns true and turns nothing that was there. -/
import Derived.Test.YtanlnoephhjhhaaDoorFrameAwake
import Derived.Test.YtanlnoephhjhhaaDoorFrameHelp
import Derived.Test.YtanlnoephhjhhaaDoorFrameScanner
import Derived.Laws.Bits128
namespace Go.Proofs.YtanlnoephhjhhaaDoor.frameBack
open Go.RowKit Go.Proofs.YtanlnoephhjhhaaDoor Go.Proofs.YtanlnoephhjhhaaDoor.Vi Go.Proofs.YtanlnoephhjhhaaDoor.Crc Go.Proofs.YtanlnoephhjhhaaDoor.Fr

theorem and31 (n : Int) : bits .and .i64 n 31 = n % 32 := by
  have h31 : (BitVec.ofInt 64 31).toNat = 2 ^ 5 - 1 := by decide
  have key : (BitVec.ofInt 64 n &&& BitVec.ofInt 64 31).toNat = (n % ((2 ^ 64 : Nat) : Int)).toNat % 2 ^ 5 := by
    rw [BitVec.toNat_and, BitVec.toNat_ofInt, h31, Nat.and_two_pow_sub_one_eq_mod]
  show IntKind.i64.wrap ((BitVec.ofInt 64 n &&& BitVec.ofInt 64 31).toNat : Nat) = n % 32
  rw [key, IntKind.wrap_i64]
  omega
theorem byL_get (l : List ByteArray) (k : Nat) (h : k < (byL l).length) : (byL l)[k] = (l[k]'(by rw [byL_length] at h; exact h)).data.toList := List.getElem_map _
theorem byL_take (l : List ByteArray) (k : Nat) : byL (l.take k) = (byL l).take k := by unfold byL; rw [List.map_take]
theorem byL_size {l : List ByteArray} {n : Nat} (h : ∀ s ∈ l, s.size ≤ n) : ∀ b ∈ byL l, b.length ≤ n := fun b hb => by
  obtain ⟨s, hs, rfl⟩ := List.mem_map.1 hb
  rw [size_list]; exact h s hs
/-- Where the first k frames end. -/
def endsL (L : List (List UInt8)) (k : Nat) : List Int := (List.range k).map fun j => ((Fr.start L (j + 1) : Nat) : Int)
theorem endsL_len (L : List (List UInt8)) (k : Nat) : (endsL L k).length = k := by unfold endsL; simp
theorem endsL_snoc (L : List (List UInt8)) (k : Nat) : endsL L (k + 1) = endsL L k ++ [((Fr.start L (k + 1) : Nat) : Int)] := by unfold endsL; rw [List.range_succ, List.map_append]; rfl
theorem endsL_get (L : List (List UInt8)) (k j : Nat) (h : j < (endsL L k).length) : (endsL L k)[j] = ((Fr.start L (j + 1) : Nat) : Int) := (List.getElem_map _).trans (by rw [List.getElem_range])
theorem start_take (l : List ByteArray) (k : Nat) : (tx (frs (byL (l.take k)))).size = Fr.start (byL l) k := by rw [tx_size, byL_take]; rfl
theorem start_le (L : List (List UInt8)) (hL : ∀ b ∈ L, b.length ≤ 300) : ∀ k, k ≤ L.length → Fr.start L k ≤ 310 * k := by
  intro k
  induction k with
  | zero => intro _; exact Nat.le_refl _
  | succ k ih =>
    intro hk
    have h1 := ih (by omega)
    have h2 := hL _ (List.getElem_mem (show k < L.length by omega))
    rw [start_succ L k (by omega), fr_len]
    have := enc_len 2 L[k].length (by have : (128 : Nat) ^ (2 + 1) = 2097152 := by decide
                                      omega)
    omega
theorem start_lt (L : List (List UInt8)) (k : Nat) (h : k < L.length) : Fr.start L k < Fr.start L (k + 1) := by
  have := fr_pos L[k]
  rw [start_succ L k h]; omega

/-- What a round of the feeding finds: fed up to p, j bodies taken. -/
structure Fed (w3 wr : World) (b : Nat) (L : List (List UInt8)) (p j : Nat) : Prop where
  at_ : SAt wr b (Fr.left L p j) false
  bel : Below b w3 wr
  lo : Fr.start L j ≤ p
  hi : p ≤ (frs L).length
  js : j ≤ L.length
theorem Fed.len {w3 wr : World} {b : Nat} {L : List (List UInt8)} {p j : Nat} (_ : Fed w3 wr b L p j) : (Fr.left L p j).length ≤ (frs L).length := by
  unfold Fr.left; rw [List.length_drop, List.length_take]; omega
theorem Fed.tab {w3 wr : World} {b : Nat} {L : List (List UInt8)} {p j : Nat} (F : Fed w3 wr b L p j) (ht : Tab w3) (hb : 0 < b) : Tab wr := ht.below F.bel hb
/-- Fed some more. -/
theorem Fed.more {w3 wr wq : World} {b : Nat} {L : List (List UInt8)} {p j n P : Nat} (F : Fed w3 wr b L p j) (hP : p + n = P) (hN : P ≤ (frs L).length) (h : SAt wq b (Fr.left L p j ++ ((frs L).drop p).take n) false) (k : Below b wr wq) : Fed w3 wq b L P j := by
  subst hP
  exact ⟨by rw [← left_feed L p n j F.lo hN]; exact h, F.bel.trans k, Nat.le_trans F.lo (Nat.le_add_right _ _), hN, F.js⟩
theorem Fed.taken {w3 wr wq : World} {b : Nat} {L : List (List UInt8)} {p j : Nat} (F : Fed w3 wr b L p j) (hj : j < L.length) (hlo : Fr.start L (j + 1) ≤ p) (h : SAt wq b (Fr.left L p (j + 1)) false) (k : Below b wr wq) : Fed w3 wq b L p (j + 1) :=
  ⟨h, F.bel.trans k, hlo, F.hi, hj⟩
theorem Fed.still {w3 wr wq : World} {b : Nat} {L : List (List UInt8)} {p j : Nat} (F : Fed w3 wr b L p j) (k : Below wr.heap.size wr wq) : Fed w3 wq b L p j :=
  ⟨F.at_.later k, F.bel.trans (k.mono (Nat.le_of_lt F.at_.room)), F.lo, F.hi, F.js⟩

set_option maxRecDepth 50000 in
set_option maxHeartbeats 16000000 in
theorem walk (a1 : Option Addr) (n1 c1 : Nat) (a2 : Option Addr) (n2 c2 : Nat) (w : World) (h1 : ArgStrs w a1 n1 c1) (h2 : ArgInts w a2 n2 c2) (ht : Tab w) : Calls Tryd.prog 6 #[.slice a1 n1 c1, .slice a2 n2 c2] w fun e w' => e = .returned (.bool true) ∧ Below w.heap.size w w' := by
  obtain ⟨l, hl, hls, kf1⟩ := few_is a1 n1 c1 w h1
  have hA := awake_any w ht
  have HT := Lib.hid ht
  have HLS := Lib.hid hls
  have hput := fun (k : Nat) (hk : k < l.length) w ht => put_yes l[k] _ w (by have := hls _ (List.getElem_mem hk); omega) ht (Lib.hid (rfl : tx (fr l[k].data.toList) = _))
  have HPUT := Lib.hid hput
  have H2 := Lib.hid h2
  clear hput h1 h2 hls ht
  go_enter Tryd.func6, Tryd.ntmps6
  go_wp2_with (first
    | (go_at_call 10; (with_reducible refine hA.mono ?_); rintro e w1 ⟨rfl, hb1⟩)
    | (go_at_call 11; (with_reducible refine (kf1 _ hb1).mono ?_); rintro e w2 ⟨v2, rfl, hR2, -, hb2⟩; obtain ⟨a8, c8, rfl⟩ := hR2.slice))
  have HB2 := Lib.hid (bel_next hb1 hb2)
  have HR2 := Lib.hid hR2
  clear hb1 hb2 hR2 hA kf1
  go_loopw [7, 8, 9] (fun x es i wr => ∃ k : Nat, k ≤ l.length ∧ i = .int .i64 (k : Int) ∧ x = .string (tx (frs (byL (l.take k)))) ∧ IRow wr w2.heap.size es (endsL (byL l) k) ∧ Below w2.heap.size w2 wr) (fun _ _ i _ => l.length - (intOf i).toNat)
  case atStart => exact ⟨0, by omega, rfl, rfl, IRow.nil _ _, Below.refl _ _⟩
  case round =>
    obtain ⟨k, hk, rfl, rfl, hI, hbel⟩ := hrel
    by_cases hlt : k < l.length
    · have hlt2 : (k : Int) < (l.length : Int) := by omega
      obtain ⟨b, off, rfl, -, hc⟩ := (HR2.out.ss.below hbel).cell (by omega)
      have hck := hc k hlt
      have kp := HPUT.out k hlt
      have HF : Hid (tx (frs (byL (l.take (k + 1)))) = tx (frs (byL (l.take k))) ++ tx (fr l[k].data.toList)) := by
        show _ = _
        rw [byL_snoc l k hlt, frs_app, tx_app]
        simp [frs]
      have hsz : (tx (frs (byL (l.take k)))).size + (tx (fr l[k].data.toList)).size = Fr.start (byL l) (k + 1) := by
        rw [← start_take, HF.out]; simp
      have hsl := start_le (byL l) (byL_size HLS.out) (k + 1) (by rw [byL_length]; omega)
      have HES := Lib.hid (endsL_snoc (byL l) k)
      obtain ⟨SE, hSE⟩ : ∃ n, Fr.start (byL l) (k + 1) = n := ⟨_, rfl⟩
      rw [hSE] at hsz hsl HES
      have hIl := endsL_len (byL l) k
      generalize tx (frs (byL (l.take k))) = X at *
      generalize tx (fr l[k].data.toList) = Z at *
      generalize l[k] = x at *
      have hszi : (X.size : Int) + (Z.size : Int) = (SE : Int) := by omega
      have hszn : X.size + Z.size ≤ 9223372036854775807 := by omega
      have HB := Lib.hid hbel
      have hT := HT.out.below (HB2.out.trans (hbel.mono HB2.out.size)) HT.out.room
      have hw2r := hbel.size
      obtain ⟨a3, c3, rfl⟩ := hI.slice
      rw [hIl] at hI ⊢
      clear hc hbel hsz hSE
      go_wp2_with (first
        | (go_at_call 13; (with_reducible refine (kp _ hT).mono ?_); rintro e w4 ⟨rfl, hb4⟩; have hI4 := hI.later hb4; have hw4 := Nat.le_trans hw2r hb4.size)
        | (at_builtin; refine wpList_irow rfl _ _ rfl w2.heap.size (.slice a3 k c3) (endsL (byL l) k) rfl (SE : Int) rfl hI4 hw4 (by omega) ?_))
      intro v5 w5 hI5 hb5 _
      have HI5 := Lib.hid hI5
      have HB5 := Lib.hid ((bel_next HB.out hb4).trans hb5)
      clear hb4 hb5 hI5 hI4 hI hT
      go_wp2
      go_roundw
      case rel => exact ⟨k + 1, by omega, by go_num, by rw [HF.out], by rw [HES.out]; exact HI5.out, HB5.out⟩
      case measure => simp [intOf]; omega
    · have hlt2 : ¬ (k : Int) < (l.length : Int) := by omega
      obtain rfl : k = l.length := by omega
      obtain ⟨w3, hw3⟩ : ∃ x, x = wr := ⟨_, rfl⟩
      subst hw3
      rw [List.take_length]
      obtain ⟨L, hL⟩ : ∃ L, byL l = L := ⟨_, rfl⟩
      have hLl : L.length = l.length := by rw [← hL, byL_length]
      have hLs : ∀ b ∈ L, b.length ≤ 300 := by rw [← hL]; exact byL_size HLS.out
      have hLs7 : ∀ b ∈ L, b.length ≤ 70000 := fun b hb => Nat.le_trans (hLs b hb) (by omega)
      have hget : ∀ j (h : j < l.length) (h' : j < L.length), tx L[j] = l[j] := fun j h h' => by
        subst hL
        rw [byL_get l j h', tx_list]
      rw [hL] at hI ⊢
      obtain ⟨N, hN⟩ : ∃ N, (frs L).length = N := ⟨_, rfl⟩
      have hN2 : N ≤ 6200 := by
        have h1 := start_le L hLs L.length (Nat.le_refl _)
        rw [start_all, hN] at h1; omega
      have hSz : (tx (frs L)).size = N := by rw [tx_size]; exact hN
      have hEx : ∀ p n, (tx (frs L)).extract p (p + n) = tx (((frs L).drop p).take n) := fun p n => by rw [tx_part, Nat.add_sub_cancel_left]
      obtain ⟨S, hS⟩ : ∃ S, tx (frs L) = S := ⟨_, rfl⟩
      rw [hS] at hSz hEx ⊢
      have hT := HT.out.below (HB2.out.trans (hbel.mono HB2.out.size)) HT.out.room
      have hB0 := HB2.out.trans (hbel.mono HB2.out.size)
      have hR := HR2.out.later hbel
      have kNew := new_is w3
      have hpos0 : 0 < w3.heap.size := Nat.lt_of_lt_of_le HT.out.room hB0.size
      have hw0r := hB0.size
      obtain ⟨a3, c3, rfl⟩ := hI.slice
      rw [endsL_len] at hI ⊢
      have HE := Lib.hid (fun (j : Nat) (h : j < l.length) => show ∃ g, a3 = some ⟨g, 0, none⟩ ∧ g < w3.heap.size ∧ w3.cell? ⟨g, j, none⟩ = some (.int .i64 ((Fr.start L (j + 1) : Nat) : Int)) by
        have hl0 : 0 < (endsL L l.length).length := by rw [endsL_len]; omega
        obtain ⟨g, e1, -, e3, e4⟩ := hI.cell hl0
        have := e4 j (by rw [endsL_len]; exact h)
        rw [endsL_get] at this
        exact ⟨g, e1, e3, this⟩)
      have HM := Lib.hid (fun (j : Nat) (h : j < l.length) => show ∃ g off, a8 = some ⟨g, off, none⟩ ∧ g < w3.heap.size ∧ w3.cell? ⟨g, off + j, none⟩ = some (.string l[j]) by
        obtain ⟨g, off, e1, -, e2⟩ := hR.ss.cell (by omega)
        exact ⟨g, off, e1, World.block_lt_of_cell? w3 _ (e2 j h), e2 j h⟩)
      have HT3 := Lib.hid hT
      have HB0 := Lib.hid hB0
      have HGET := Lib.hid hget
      have HEX := Lib.hid hEx
      have HLS7 := Lib.hid hLs7
      have HNN := Lib.hid hN
      have hsl0 := start_zero L
      have hst : 0 < L.length → 0 < Fr.start L (0 + 1) := fun h => Nat.lt_of_le_of_lt (Nat.zero_le _) (start_lt L 0 h)
      have HST := Lib.hid hst
      have hl0 : Fr.left L 0 0 = [] := by unfold Fr.left; simp
      have HL0 := Lib.hid hl0
      have HSL0 := Lib.hid hsl0
      have HI2 := Lib.hid (fun (u : World) (h : Below w.heap.size w u) => (show True from trivial))
      clear hL hLs hLs7 hget hN hEx hS hbel hT hB0 hR hI hlt hlt2 hk HPUT HI2 hst hl0 hsl0
      go_wp2_with (first
        | (go_at_call 21; (with_reducible refine kNew.mono ?_); rintro e w4 ⟨rfl, hS4, hb4⟩))
      have HS4 := Lib.hid hS4
      have HB4 := Lib.hid hb4
      clear hS4 hb4 kNew
      go_loopw [13, 14, 15] (fun a b i wr => ∃ p j q : Nat, a = .int .i64 (p : Int) ∧ b = .int .i64 (j : Int) ∧ i = .int .i64 (q : Int) ∧ q ≤ p ∧ Fed w3 wr w3.heap.size L p j ∧ (j < L.length → p < Fr.start L (j + 1))) (fun a _ _ _ => N - (intOf a).toNat)
      case atStart => exact ⟨0, 0, 0, rfl, rfl, rfl, Nat.le_refl _, ⟨by rw [HL0.out]; exact HS4.out, HB4.out, by rw [HSL0.out]; exact Nat.le_refl _, Nat.zero_le _, Nat.zero_le _⟩, HST.out⟩
      case round =>
        obtain ⟨p, j, q, rfl, rfl, rfl, hqp, F, hjp⟩ := hrel
        have hphi := F.hi
        rw [HNN.out] at hphi
        by_cases hpN : p < N
        · have hpNi : (p : Int) < (N : Int) := by omega
          have key : ∀ n : Nat, 0 < n → p + n ≤ N → True := fun _ _ _ => trivial
          have hcase : (∃ n R : Nat, (N : Int) - (p : Int) = (n : Int) ∧ n = R ∧ 0 < n ∧ p + n ≤ N) := ⟨N - p, N - p, by omega, rfl, by omega, by omega⟩
          have hcuts : ¬ ((q : Int) < (n2 : Int)) ∨ ((q : Int) < (n2 : Int) ∧ ∃ (g off : Nat) (c : Int), a2 = some ⟨g, off, none⟩ ∧ (∀ u, Below w3.heap.size w3 u → u.cell? ⟨g, off + q, none⟩ = some (.int .i64 c))) := by
            by_cases h : (q : Int) < (n2 : Int)
            · refine Or.inr ⟨h, ?_⟩
              rcases H2.out with h0 | ⟨g, off, li, e1, e2, e3, e4, e5, e6⟩
              · omega
              · have hq : q < li.length := by omega
                refine ⟨g, off, li[q], e1, fun u hu => ?_⟩
                have hc := e5 q hq
                have hg := World.block_lt_of_cell? w _ hc
                rw [(HB0.out.trans (hu.mono hw0r)).cell (p := ⟨g, off + q, none⟩) hg]; exact hc
            · exact Or.inl h
          have FF := Lib.hid F
          have hp8 : (p : Int) ≤ 6200 := by omega
          clear F key hcase
          rcases hcuts with hc | ⟨hc, gc, oc, cv, rfl, hcell0⟩
          · skip
            obtain ⟨n, hn0, hnp⟩ : ∃ n : Nat, 0 < n ∧ p + n = N := ⟨N - p, by omega, by omega⟩
            have hNp : (N : Int) - (p : Int) = (n : Int) := by omega
            obtain ⟨P2, hP2⟩ : ∃ P2 : Nat, p + n = P2 := ⟨_, rfl⟩
            have hP2n := hP2
            have hP2i : (p : Int) + (n : Int) = (P2 : Int) := by omega
            have hP2N : P2 ≤ N := by omega
            have hpP2 : (p : Int) ≤ (P2 : Int) := by omega
            have hP2Ni : (P2 : Int) ≤ (N : Int) := by omega
            have hcell : True := trivial
            have hexp := HEX.out p n
            rw [hP2] at hexp
            obtain ⟨T, hT⟩ : ∃ T, tx (((frs L).drop p).take n) = T := ⟨_, rfl⟩
            have HTD : Hid (T.data.toList = ((frs L).drop p).take n) := by show _ = _; rw [← hT, tx_data]
            have hTs : T.size ≤ 6200 := by rw [← hT, tx_size, List.length_take, List.length_drop, HNN.out]; omega
            rw [hT] at hexp
            have kFeed := fun (h : SAt wr w3.heap.size (Fr.left L p j) false) => feed_is T wr w3.heap.size _ h (by have h1 := FF.out.len; rw [HNN.out] at h1; omega)
            have hF1 := FF.out.at_
            clear hT hTs
            go_wp2_with (first
              | (go_at_call 22; (with_reducible refine (kFeed hF1).mono ?_); rintro e w5 ⟨rfl, hS5, hb5⟩))
            have F5 := Lib.hid (FF.out.more hP2n (by rw [HNN.out]; exact hP2N) (by rw [← HTD.out]; exact hS5) hb5)
            clear hS5 hb5 kFeed hF1 hexp hcell
            go_loopw [14] (fun b wr => ∃ j2 : Nat, b = .int .i64 (j2 : Int) ∧ Fed w3 wr w3.heap.size L P2 j2) (fun b _ => l.length - (intOf b).toNat)
            case atStart => exact ⟨j, rfl, F5.out⟩
            case round =>
              obtain ⟨j2, rfl, G⟩ := hrel
              have hj2 := G.js
              have hGl := G.len
              rw [HNN.out] at hGl
              have hTz := G.tab HT3.out hpos0
              by_cases hjl : j2 < l.length
              · have hjli : (j2 : Int) < (l.length : Int) := by omega
                have hjL : j2 < L.length := by omega
                obtain ⟨ge, rfl, hge, hce⟩ := HE.out j2 hjl
                obtain ⟨gm, om, rfl, hgm, hcm⟩ := HM.out j2 hjl
                have hce2 := (G.bel.cell (p := ⟨ge, j2, none⟩) hge).trans hce
                by_cases hst : Fr.start L (j2 + 1) ≤ P2
                · have hsti : ((Fr.start L (j2 + 1) : Nat) : Int) ≤ (P2 : Int) := by omega
                  obtain ⟨y1, y2⟩ := next_yes L HLS7.out P2 j2 hjL hst
                  have kN := next_good wr w3.heap.size _ G.at_ (by omega) hTz (by rw [y1])
                  rw [y1] at kN
                  simp only at kN
                  rw [y2, HGET.out j2 hjl hjL] at kN
                  have GG := Lib.hid G
                  have HCM := Lib.hid hcm
                  have HTK := Lib.hid (fun (wq : World) (h : SAt wq w3.heap.size (Fr.left L P2 (j2 + 1)) false) (k : Below w3.heap.size wr wq) => G.taken hjL hst h k)
                  obtain ⟨e2, he2⟩ : ∃ e, Fr.start L (j2 + 1) = e := ⟨_, rfl⟩
                  rw [he2] at hce2 hsti
                  clear he2 hst
                  generalize l[j2] = yy at *
                  clear G y1 y2 hce hcm hTz
                  go_wp2_with (first
                    | (go_at_call 23; (with_reducible refine kN.mono ?_); rintro e w6 ⟨rfl, hS6, hb6⟩; have hcm6 := ((GG.out.bel.trans hb6).cell (p := ⟨gm, om + j2, none⟩) hgm).trans HCM.out))
                  have HG6 := Lib.hid (HTK.out _ hS6 hb6)
                  clear hS6 hb6 kN hcm6
                  go_roundw
                  case rel => exact ⟨j2 + 1, by go_num, HG6.out⟩
                  case measure => simp [intOf]; omega
                · have hsti : ¬ ((Fr.start L (j2 + 1) : Nat) : Int) ≤ (P2 : Int) := by omega
                  have hno := next_no L HLS7.out P2 j2 hj2 G.lo (fun _ => by omega) G.hi
                  have kN := next_none wr w3.heap.size _ false G.at_ (by omega) hTz (by omega) (by omega)
                  have GG := Lib.hid G
                  have HLT := Lib.hid (show j2 < L.length → P2 < Fr.start L (j2 + 1) from fun _ => by omega)
                  obtain ⟨e2, he2⟩ : ∃ e, Fr.start L (j2 + 1) = e := ⟨_, rfl⟩
                  rw [he2] at hce2 hsti
                  clear he2 hst
                  clear G hce hcm hTz hno
                  go_wp2_with (first
                    | (go_at_call 23; (with_reducible refine kN.mono ?_); rintro e w6 ⟨rfl, hb6⟩))
                  have HG6 := Lib.hid (GG.out.still hb6)
                  clear hb6 kN
                  go_roundw
                  case rel => exact ⟨P2, j2, q + 1, by first | rfl | (rw [← hP2i]), rfl, by go_num, by omega, HG6.out, HLT.out⟩
                  case measure => simp [intOf]; omega
              · have hjli : ¬ (j2 : Int) < (l.length : Int) := by omega
                have hno := next_no L HLS7.out P2 j2 hj2 G.lo (fun h => absurd h (by omega)) G.hi
                have kN := next_none wr w3.heap.size _ false G.at_ (by omega) hTz (by omega) (by omega)
                have GG := Lib.hid G
                have HLT := Lib.hid (show j2 < L.length → P2 < Fr.start L (j2 + 1) from fun h => absurd h (by omega))
                clear G hTz hno
                go_wp2_with (first
                  | (go_at_call 23; (with_reducible refine kN.mono ?_); rintro e w6 ⟨rfl, hb6⟩))
                have HG6 := Lib.hid (GG.out.still hb6)
                clear hb6 kN
                go_roundw
                case rel => exact ⟨P2, j2, q + 1, by first | rfl | (rw [← hP2i]), rfl, by go_num, by omega, HG6.out, HLT.out⟩
                case measure => simp [intOf]; omega
          · skip
            have hcell := hcell0 wr FF.out.bel
            have ha31 := and31 cv
            obtain ⟨kk, hkk⟩ : ∃ kk : Nat, cv % 32 = (kk : Int) := ⟨(cv % 32).toNat, by omega⟩
            rw [hkk] at ha31
            have hkk2 : (kk : Int) ≤ 31 := by omega
            clear hkk hcell0
            by_cases hkN : kk + 1 < N - p
            · skip
              obtain ⟨n, hn0⟩ : ∃ n : Nat, kk + 1 = n := ⟨_, rfl⟩
              have hk1 : (kk : Int) + 1 = (n : Int) := by omega
              obtain ⟨R, hR0⟩ : ∃ R : Nat, p + R = N := ⟨N - p, by omega⟩
              have hNp : (N : Int) - (p : Int) = (R : Int) := by omega
              have hlt : (n : Int) < (R : Int) := by omega
              obtain ⟨P2, hP2⟩ : ∃ P2 : Nat, p + n = P2 := ⟨_, rfl⟩
              have hP2n := hP2
              have hP2i : (p : Int) + (n : Int) = (P2 : Int) := by omega
              have hP2N : P2 ≤ N := by omega
              have hpP2 : (p : Int) ≤ (P2 : Int) := by omega
              have hP2Ni : (P2 : Int) ≤ (N : Int) := by omega
              have hexp := HEX.out p n
              rw [hP2] at hexp
              obtain ⟨T, hT⟩ : ∃ T, tx (((frs L).drop p).take n) = T := ⟨_, rfl⟩
              have HTD : Hid (T.data.toList = ((frs L).drop p).take n) := by show _ = _; rw [← hT, tx_data]
              have hTs : T.size ≤ 6200 := by rw [← hT, tx_size, List.length_take, List.length_drop, HNN.out]; omega
              rw [hT] at hexp
              have kFeed := fun (h : SAt wr w3.heap.size (Fr.left L p j) false) => feed_is T wr w3.heap.size _ h (by have h1 := FF.out.len; rw [HNN.out] at h1; omega)
              have hF1 := FF.out.at_
              clear hT hTs
              go_wp2_with (first
                | (go_at_call 22; (with_reducible refine (kFeed hF1).mono ?_); rintro e w5 ⟨rfl, hS5, hb5⟩))
              have F5 := Lib.hid (FF.out.more hP2n (by rw [HNN.out]; exact hP2N) (by rw [← HTD.out]; exact hS5) hb5)
              clear hS5 hb5 kFeed hF1 hexp hcell
              go_loopw [14] (fun b wr => ∃ j2 : Nat, b = .int .i64 (j2 : Int) ∧ Fed w3 wr w3.heap.size L P2 j2) (fun b _ => l.length - (intOf b).toNat)
              case atStart => exact ⟨j, rfl, F5.out⟩
              case round =>
                obtain ⟨j2, rfl, G⟩ := hrel
                have hj2 := G.js
                have hGl := G.len
                rw [HNN.out] at hGl
                have hTz := G.tab HT3.out hpos0
                by_cases hjl : j2 < l.length
                · have hjli : (j2 : Int) < (l.length : Int) := by omega
                  have hjL : j2 < L.length := by omega
                  obtain ⟨ge, rfl, hge, hce⟩ := HE.out j2 hjl
                  obtain ⟨gm, om, rfl, hgm, hcm⟩ := HM.out j2 hjl
                  have hce2 := (G.bel.cell (p := ⟨ge, j2, none⟩) hge).trans hce
                  by_cases hst : Fr.start L (j2 + 1) ≤ P2
                  · have hsti : ((Fr.start L (j2 + 1) : Nat) : Int) ≤ (P2 : Int) := by omega
                    obtain ⟨y1, y2⟩ := next_yes L HLS7.out P2 j2 hjL hst
                    have kN := next_good wr w3.heap.size _ G.at_ (by omega) hTz (by rw [y1])
                    rw [y1] at kN
                    simp only at kN
                    rw [y2, HGET.out j2 hjl hjL] at kN
                    have GG := Lib.hid G
                    have HCM := Lib.hid hcm
                    have HTK := Lib.hid (fun (wq : World) (h : SAt wq w3.heap.size (Fr.left L P2 (j2 + 1)) false) (k : Below w3.heap.size wr wq) => G.taken hjL hst h k)
                    obtain ⟨e2, he2⟩ : ∃ e, Fr.start L (j2 + 1) = e := ⟨_, rfl⟩
                    rw [he2] at hce2 hsti
                    clear he2 hst
                    generalize l[j2] = yy at *
                    clear G y1 y2 hce hcm hTz
                    go_wp2_with (first
                      | (go_at_call 23; (with_reducible refine kN.mono ?_); rintro e w6 ⟨rfl, hS6, hb6⟩; have hcm6 := ((GG.out.bel.trans hb6).cell (p := ⟨gm, om + j2, none⟩) hgm).trans HCM.out))
                    have HG6 := Lib.hid (HTK.out _ hS6 hb6)
                    clear hS6 hb6 kN hcm6
                    go_roundw
                    case rel => exact ⟨j2 + 1, by go_num, HG6.out⟩
                    case measure => simp [intOf]; omega
                  · have hsti : ¬ ((Fr.start L (j2 + 1) : Nat) : Int) ≤ (P2 : Int) := by omega
                    have hno := next_no L HLS7.out P2 j2 hj2 G.lo (fun _ => by omega) G.hi
                    have kN := next_none wr w3.heap.size _ false G.at_ (by omega) hTz (by omega) (by omega)
                    have GG := Lib.hid G
                    have HLT := Lib.hid (show j2 < L.length → P2 < Fr.start L (j2 + 1) from fun _ => by omega)
                    obtain ⟨e2, he2⟩ : ∃ e, Fr.start L (j2 + 1) = e := ⟨_, rfl⟩
                    rw [he2] at hce2 hsti
                    clear he2 hst
                    clear G hce hcm hTz hno
                    go_wp2_with (first
                      | (go_at_call 23; (with_reducible refine kN.mono ?_); rintro e w6 ⟨rfl, hb6⟩))
                    have HG6 := Lib.hid (GG.out.still hb6)
                    clear hb6 kN
                    go_roundw
                    case rel => exact ⟨P2, j2, q + 1, by first | rfl | (rw [← hP2i]), rfl, by go_num, by omega, HG6.out, HLT.out⟩
                    case measure => simp [intOf]; omega
                · have hjli : ¬ (j2 : Int) < (l.length : Int) := by omega
                  have hno := next_no L HLS7.out P2 j2 hj2 G.lo (fun h => absurd h (by omega)) G.hi
                  have kN := next_none wr w3.heap.size _ false G.at_ (by omega) hTz (by omega) (by omega)
                  have GG := Lib.hid G
                  have HLT := Lib.hid (show j2 < L.length → P2 < Fr.start L (j2 + 1) from fun h => absurd h (by omega))
                  clear G hTz hno
                  go_wp2_with (first
                    | (go_at_call 23; (with_reducible refine kN.mono ?_); rintro e w6 ⟨rfl, hb6⟩))
                  have HG6 := Lib.hid (GG.out.still hb6)
                  clear hb6 kN
                  go_roundw
                  case rel => exact ⟨P2, j2, q + 1, by first | rfl | (rw [← hP2i]), rfl, by go_num, by omega, HG6.out, HLT.out⟩
                  case measure => simp [intOf]; omega
            · skip
              obtain ⟨m, hm0⟩ : ∃ m : Nat, kk + 1 = m := ⟨_, rfl⟩
              have hk1 : (kk : Int) + 1 = (m : Int) := by omega
              obtain ⟨n, hn0, hnp⟩ : ∃ n : Nat, 0 < n ∧ p + n = N := ⟨N - p, by omega, by omega⟩
              have hNp : (N : Int) - (p : Int) = (n : Int) := by omega
              have hlt : ¬ (m : Int) < (n : Int) := by omega
              obtain ⟨P2, hP2⟩ : ∃ P2 : Nat, p + n = P2 := ⟨_, rfl⟩
              have hP2n := hP2
              have hP2i : (p : Int) + (n : Int) = (P2 : Int) := by omega
              have hP2N : P2 ≤ N := by omega
              have hpP2 : (p : Int) ≤ (P2 : Int) := by omega
              have hP2Ni : (P2 : Int) ≤ (N : Int) := by omega
              have hexp := HEX.out p n
              rw [hP2] at hexp
              obtain ⟨T, hT⟩ : ∃ T, tx (((frs L).drop p).take n) = T := ⟨_, rfl⟩
              have HTD : Hid (T.data.toList = ((frs L).drop p).take n) := by show _ = _; rw [← hT, tx_data]
              have hTs : T.size ≤ 6200 := by rw [← hT, tx_size, List.length_take, List.length_drop, HNN.out]; omega
              rw [hT] at hexp
              have kFeed := fun (h : SAt wr w3.heap.size (Fr.left L p j) false) => feed_is T wr w3.heap.size _ h (by have h1 := FF.out.len; rw [HNN.out] at h1; omega)
              have hF1 := FF.out.at_
              clear hT hTs
              go_wp2_with (first
                | (go_at_call 22; (with_reducible refine (kFeed hF1).mono ?_); rintro e w5 ⟨rfl, hS5, hb5⟩))
              have F5 := Lib.hid (FF.out.more hP2n (by rw [HNN.out]; exact hP2N) (by rw [← HTD.out]; exact hS5) hb5)
              clear hS5 hb5 kFeed hF1 hexp hcell
              go_loopw [14] (fun b wr => ∃ j2 : Nat, b = .int .i64 (j2 : Int) ∧ Fed w3 wr w3.heap.size L P2 j2) (fun b _ => l.length - (intOf b).toNat)
              case atStart => exact ⟨j, rfl, F5.out⟩
              case round =>
                obtain ⟨j2, rfl, G⟩ := hrel
                have hj2 := G.js
                have hGl := G.len
                rw [HNN.out] at hGl
                have hTz := G.tab HT3.out hpos0
                by_cases hjl : j2 < l.length
                · have hjli : (j2 : Int) < (l.length : Int) := by omega
                  have hjL : j2 < L.length := by omega
                  obtain ⟨ge, rfl, hge, hce⟩ := HE.out j2 hjl
                  obtain ⟨gm, om, rfl, hgm, hcm⟩ := HM.out j2 hjl
                  have hce2 := (G.bel.cell (p := ⟨ge, j2, none⟩) hge).trans hce
                  by_cases hst : Fr.start L (j2 + 1) ≤ P2
                  · have hsti : ((Fr.start L (j2 + 1) : Nat) : Int) ≤ (P2 : Int) := by omega
                    obtain ⟨y1, y2⟩ := next_yes L HLS7.out P2 j2 hjL hst
                    have kN := next_good wr w3.heap.size _ G.at_ (by omega) hTz (by rw [y1])
                    rw [y1] at kN
                    simp only at kN
                    rw [y2, HGET.out j2 hjl hjL] at kN
                    have GG := Lib.hid G
                    have HCM := Lib.hid hcm
                    have HTK := Lib.hid (fun (wq : World) (h : SAt wq w3.heap.size (Fr.left L P2 (j2 + 1)) false) (k : Below w3.heap.size wr wq) => G.taken hjL hst h k)
                    obtain ⟨e2, he2⟩ : ∃ e, Fr.start L (j2 + 1) = e := ⟨_, rfl⟩
                    rw [he2] at hce2 hsti
                    clear he2 hst
                    generalize l[j2] = yy at *
                    clear G y1 y2 hce hcm hTz
                    go_wp2_with (first
                      | (go_at_call 23; (with_reducible refine kN.mono ?_); rintro e w6 ⟨rfl, hS6, hb6⟩; have hcm6 := ((GG.out.bel.trans hb6).cell (p := ⟨gm, om + j2, none⟩) hgm).trans HCM.out))
                    have HG6 := Lib.hid (HTK.out _ hS6 hb6)
                    clear hS6 hb6 kN hcm6
                    go_roundw
                    case rel => exact ⟨j2 + 1, by go_num, HG6.out⟩
                    case measure => simp [intOf]; omega
                  · have hsti : ¬ ((Fr.start L (j2 + 1) : Nat) : Int) ≤ (P2 : Int) := by omega
                    have hno := next_no L HLS7.out P2 j2 hj2 G.lo (fun _ => by omega) G.hi
                    have kN := next_none wr w3.heap.size _ false G.at_ (by omega) hTz (by omega) (by omega)
                    have GG := Lib.hid G
                    have HLT := Lib.hid (show j2 < L.length → P2 < Fr.start L (j2 + 1) from fun _ => by omega)
                    obtain ⟨e2, he2⟩ : ∃ e, Fr.start L (j2 + 1) = e := ⟨_, rfl⟩
                    rw [he2] at hce2 hsti
                    clear he2 hst
                    clear G hce hcm hTz hno
                    go_wp2_with (first
                      | (go_at_call 23; (with_reducible refine kN.mono ?_); rintro e w6 ⟨rfl, hb6⟩))
                    have HG6 := Lib.hid (GG.out.still hb6)
                    clear hb6 kN
                    go_roundw
                    case rel => exact ⟨P2, j2, q + 1, by first | rfl | (rw [← hP2i]), rfl, by go_num, by omega, HG6.out, HLT.out⟩
                    case measure => simp [intOf]; omega
                · have hjli : ¬ (j2 : Int) < (l.length : Int) := by omega
                  have hno := next_no L HLS7.out P2 j2 hj2 G.lo (fun h => absurd h (by omega)) G.hi
                  have kN := next_none wr w3.heap.size _ false G.at_ (by omega) hTz (by omega) (by omega)
                  have GG := Lib.hid G
                  have HLT := Lib.hid (show j2 < L.length → P2 < Fr.start L (j2 + 1) from fun h => absurd h (by omega))
                  clear G hTz hno
                  go_wp2_with (first
                    | (go_at_call 23; (with_reducible refine kN.mono ?_); rintro e w6 ⟨rfl, hb6⟩))
                  have HG6 := Lib.hid (GG.out.still hb6)
                  clear hb6 kN
                  go_roundw
                  case rel => exact ⟨P2, j2, q + 1, by first | rfl | (rw [← hP2i]), rfl, by go_num, by omega, HG6.out, HLT.out⟩
                  case measure => simp [intOf]; omega
        · have hpNi : ¬ (p : Int) < (N : Int) := by omega
          obtain rfl : p = N := by omega
          have hjL : j = l.length := by
            have h1 := F.js
            by_cases e : j < L.length
            · have h2 := hjp e
              have h3 := start_mono L (show j + 1 ≤ L.length by omega) (Nat.le_refl _)
              rw [start_all, HNN.out] at h3
              omega
            · omega
          subst hjL
          have hSA := F.at_
          have hl0 : Fr.left L p l.length = [] := by
            rw [← hLl, ← HNN.out]; exact left_all L
          rw [hl0] at hSA
          have kL := fun (h : SAt wr w3.heap.size [] false) => left_is wr w3.heap.size [] false h
          have kB := fun (h : SAt wr w3.heap.size [] false) => bad_is wr w3.heap.size [] false h
          have HBB := Lib.hid (HB0.out.trans (F.bel.mono hw0r))
          clear F hl0 hjp
          go_wp2_with (first
            | (go_at_call 24; (with_reducible refine (kL hSA).mono ?_); rintro e w6 ⟨rfl, rfl⟩)
            | (go_at_call 25; (with_reducible refine (kB hSA).mono ?_); rintro e w7 ⟨rfl, rfl⟩))
          go_ret
          exact ⟨rfl, HBB.out⟩
end Go.Proofs.YtanlnoephhjhhaaDoor.frameBack
