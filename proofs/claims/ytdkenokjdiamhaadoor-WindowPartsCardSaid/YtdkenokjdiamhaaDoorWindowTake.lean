/- The set's Take. -/
import Derived.Test.YtdkenokjdiamhaaDoorWindowAdd
set_option maxRecDepth 20000
namespace Go.Proofs.YtdkenokjdiamhaaDoor
open Go.RowKit Go.Lib

/-- append(l, y), y a composed span. -/
theorem wpList_app1 {ops : Array Oper} {rest : List Oper} {o : Oper} {a : Act} {w : World} {Q : Exit → Act → World → Prop} (hgd : o.guard = none) (d s : Operand)
    (ho : o.op = .call { callee := .builtin .append, args := #[d, s], argTypes := #[SPT, SPT] }) (B r : Nat) (v : Value) (xs : List Sp) (y : Sp) (N : Nat) (hd : a.eval d = v) (hs : a.eval s = .slice (some ⟨N, 0, none⟩) 1 1) (hN : w.heap.size = N)
    (hr : Hid (xs.length = r)) (hR : SpRow w B v xs) (hlen : r ≤ 1000000) (hB : B ≤ w.heap.size)
    (h : ∀ a' c' w', Hid (SpRow w' B (.slice a' (r + 1) c') (xs ++ [y])) → Below B w w' → w.grownBy w' v.ownBlock → wpList Tryd.prog ops Q rest (a.put o.dst (.slice a' (r + 1) c')) w') :
    wpList Tryd.prog ops Q (o :: rest) a (w.alloc (.cells #[.int .i64 y.f, .int .i64 y.t] 26)) := by
  subst hN
  obtain ⟨i0, hi, hz0, hz1, hz2⟩ := info_parts infoSp
  have hR2 : w.ownsRow B 26 2 v r (xs.flatMap cells2) := by have := hR; unfold SpRow at this; rw [hr.out] at this; exact this
  refine wpList_append_own_at (w := w.alloc (.cells #[.int .i64 y.f, .int .i64 y.t] 26)) hgd d s SPT ho B 26 i0 (.agg #[.int .i64 0, .int .i64 0]) 2 16 Tryd.underlying29 hi hz0 hz1 hz2 rfl (by decide) v r (xs.flatMap cells2) hd (hR2.alloc _) ⟨w.heap.size, 0, none⟩ 1 1 [.int .i64 y.f, .int .i64 y.t] hs rfl ?_ ?_ (by unfold maxLen; omega) (by omega) (by simp; omega) ?_
  · intro j u hj
    rw [Addr.add_lit]
    match j, hj with
    | 0, hj => simp at hj; subst hj; simp [go_sem]
    | 1, hj => simp at hj; subst hj; simp [go_sem]
    | _ + 2, hj => simp at hj
  · intro u hu
    rcases List.mem_cons.1 hu with rfl | hu
    · rfl
    · rw [List.mem_singleton] at hu; subst hu; rfl
  · intro v' w' hown hgrow hnil _
    have hl : (xs ++ [y]).length = r + 1 := by rw [List.length_append, hr.out]; rfl
    have hR3 : SpRow w' B v' (xs ++ [y]) := by
      unfold SpRow
      rw [hl, List.flatMap_append]
      exact hown
    obtain ⟨a', c', e⟩ := hR3.slice
    rw [hl] at e
    subst e
    refine h a' c' w' hR3 ?_ (World.grownBy.trans (World.grownBy_alloc w _ _) hgrow)
    have hne : ∀ q, v.ownBlock = some q → B ≤ q := fun q hq => (World.ownsRow.lt hR2 q hq).1
    exact ((Below.refl B w).alloc hB _).grown hgrow (by simp; omega) hne
theorem SpRow.upto {w : World} {B : Nat} {a : Option Addr} {r c : Nat} {xs : List Sp} (h : SpRow w B (.slice a r c) xs) (hr : xs.length = r) : r ≤ c := by
  rcases h.2 with ⟨e, h0⟩ | ⟨g', cap', cur', e, _, _, hf, _⟩
  · omega
  · injection e with e1 e2 e3; omega
/-- Held while Take goes over the spans that are touched: the box of s, what is left. -/
structure KR (w : World) (s : Sp) (o : Value) (xs : List Sp) (wr : World) : Prop where
  at_ : SpAt wr w.heap.size s
  bel : Below w.heap.size w wr
  row : SpRow wr (w.heap.size + 1) o xs
  room : w.heap.size + 1 ≤ wr.heap.size
theorem KR.tr {w wr : World} {s : Sp} {o : Value} {xs : List Sp} (h : KR w s o xs wr) : TR w s wr := ⟨h.at_, h.bel⟩
theorem KR.keep {w w1 w2 : World} {s : Sp} {o : Value} {xs : List Sp} (h : KR w s o xs w1) (k : Below w1.heap.size w1 w2) : KR w s o xs w2 := ⟨h.at_.below k, bel_next h.bel k, h.row.later k, Nat.le_trans h.room k.size⟩
theorem KR.next {w w1 w2 : World} {s : Sp} {o o' : Value} {xs ys : List Sp} (h : KR w s o xs w1) (k : Below (w.heap.size + 1) w1 w2) (hR : SpRow w2 (w.heap.size + 1) o' ys) : KR w s o' ys w2 :=
  ⟨⟨(k.cell (p := ⟨w.heap.size, 0, none⟩) (Nat.lt_succ_self _)).trans h.at_.c0, (k.cell (p := ⟨w.heap.size, 1, none⟩) (Nat.lt_succ_self _)).trans h.at_.c1⟩, h.bel.trans (k.mono (Nat.le_succ _)), hR, Nat.le_trans h.room k.size⟩

set_option maxHeartbeats 8000000 in
theorem take_some (b : Nat) (v : Value) (L : List Sp) (s : Sp) (w : World) (hS : SetAt w b v L) (hC : Canon L) (hs : s.some_ = true) (hlen : L.length ≤ 100000) : Calls Tryd.prog 35 #[.pointer (some ⟨b, 0, none⟩), s.v] w (TakeDone b v L s w) := by
  obtain ⟨a, c, rfl⟩ := hS.row.slice
  obtain ⟨n, hn⟩ : ∃ n, L.length = n := ⟨_, rfl⟩
  have hb := hS.room
  have hcn : L.length ≤ c := SpRow.upto hS.row rfl
  have kh := fun w => has_times_is s true w (Lib.hid hs)
  have hA0 := TR.new w s
  have kt := fun w' (h : Below w.heap.size w w') => touched_is b _ L s w' (hS.later h) hC (by omega)
  have HN := Lib.hid hn
  have c0 := hS.cell
  have HS := Lib.hid hS
  have HC := Lib.hid hC
  have HSS := Lib.hid hs
  have hsp := hS.row.sps
  have KP := Lib.hid (fun (w' : World) (h : Below w.heap.size w w') (l T : List Sp) (a2 : Option Addr) (r c2 : Nat) (i j : Nat) (hij : i ≤ j) (hj : j ≤ L.length) (hr : l.length = r) (hl : r ≤ 200000) (hR : SpRow w' (w.heap.size + 1) (.slice a2 r c2) l) hT => put_is b (.slice a L.length c) L l T i j a2 r c2 w' (hS.later h) hij hj hr (by
    rcases hR.2 with ⟨e, h0⟩ | ⟨g, cap, cur, e, hg, hgg, hrest⟩
    · exact Or.inl (List.eq_nil_of_length_eq_zero h0)
    · injection e with e1 e2 e3
      subst e1
      refine Or.inr ⟨g, 0, rfl, fun e => ?_, fun q hq => ?_, fun q => by simp [World.frozen?, hgg]⟩
      · have := (World.ownsRow.lt hS.row g e.symm).2; omega
      · have hR' := hR
        rw [← hr] at hR'
        rcases hR'.sps.at_ with h0 | ⟨g2, off2, e5, _, hc⟩
        · rw [h0] at hq; simp at hq
        · injection e5 with e5; injection e5 with e6 e7; subst e6 e7; exact hc q hq) (by omega) hT)
  rw [hn] at c0 HS KP hcn hlen ⊢
  unfold Sp.v at kh kt ⊢
  have HA0 := Lib.hid hA0
  have HSP := Lib.hid hsp
  have HCN := Lib.hid hcn
  clear hS hC hs hn hA0 hsp hcn
  go_enter Tryd.func35, Tryd.ntmps35
  go_wp2_with (first
    | (go_at_call 50; (with_reducible refine (kh _).mono ?_); rintro e w1 ⟨rfl, hb1⟩; have HA1 := Lib.hid (HA0.out.keep hb1); (have hG := HA1.out.at_; obtain ⟨x0, x1⟩ := hG))
    | (go_at_call 51; (with_reducible refine (kt _ HA1.out.bel).mono ?_); rintro e w2 ⟨i, j, rfl, hto, hb2⟩; have HA2 := Lib.hid (HA1.out.keep hb2); (have cv := (HA2.out.bel.cell (p := ⟨b, 0, none⟩) hb).trans c0); (have hij := hto.le); (have hjL := hto.len); (obtain ⟨d, hd⟩ : ∃ d, j - i = d := ⟨_, rfl⟩); (obtain ⟨p, hpa, hp, hp'⟩ := cut_mid a n c i j (i : Int) (j : Int) rfl rfl hij (by rw [← HN.out] at *; have := HCN.out; omega)); (rw [hd] at hp hp'); (have HMID := Lib.hid (show Sps w w.heap.size p ((L.drop i).take d) from by
        rw [← hd]
        rcases HSP.out.at_ with h0 | ⟨g, off, e, hgw, hcells⟩
        · refine ⟨Or.inl ?_⟩; rw [h0]; simp
        · subst e; exact Sps.mid hcells hgw i j hij hjL p hpa (by rw [HN.out]; exact HCN.out))); (have HML := Lib.hid (show ((L.drop i).take d).length = d by rw [← hd]; exact mid_len L i j hij hjL)); (have HTO := Lib.hid hto); (have HD := Lib.hid hd); (have HIJ := Lib.hid hij); (have HJL := Lib.hid hjL); clear hto hpa hd hij hjL x0 x1))
  have HTP := Lib.hid (show ∀ q ∈ (L.drop i).take d, s.f ≤ q.t ∧ q.f ≤ s.t by rw [← HD.out]; exact HTO.out.parts.2.1)
  obtain ⟨mid, hmid⟩ : ∃ mid, (L.drop i).take d = mid := ⟨_, rfl⟩
  rw [hmid] at HMID HML HTP
  have HMD := Lib.hid hmid
  clear hmid cv hp hp'
  have hdn : d ≤ 100000 := by have := HD.out; have := HJL.out; rw [HN.out] at this; omega
  go_loopw [7, 31] (fun o x wr => ∃ k r : Nat, ∃ a1 c1, o = .slice a1 r c1 ∧ x = .int .i64 (k : Int) ∧ k ≤ d ∧ KR w s (.slice a1 r c1) (cutS s (mid.take k)) wr ∧ Hid ((cutS s (mid.take k)).length = r)) (fun _ x _ => d - (intOf x).toNat)
  case atStart => exact ⟨0, 0, none, 0, rfl, rfl, Nat.zero_le _, ⟨HA2.out.at_, HA2.out.bel, SpRow.nil _ _, HA2.out.at_.room⟩, Lib.hid rfl⟩
  case round =>
    obtain ⟨k, r, a1, c1, rfl, rfl, hk, hA, hrl⟩ := hrel
    obtain ⟨w3, hw3⟩ : ∃ x, x = wr := ⟨_, rfl⟩
    subst hw3
    have hB3 := hA.bel
    have hr2 : r ≤ 200000 := by
      have h1 := cutS_len s (mid.take k)
      rw [hrl.out, List.length_take] at h1
      omega
    obtain ⟨xs, hxs⟩ : ∃ xs, cutS s (mid.take k) = xs := ⟨_, rfl⟩
    rw [hxs] at hA hrl
    by_cases hkd : k < d
    · have hkdi : (k : Int) < (d : Int) := by omega
      have hkm : k < mid.length := by rw [HML.out]; exact hkd
      rcases HMID.out.at_ with h0 | ⟨g, off, rfl, hgw, hc⟩
      · rw [h0] at hkm; simp at hkm
      · obtain ⟨q, hq⟩ : ∃ q, mid[k] = q := ⟨_, rfl⟩
        have cq := (hc k hkm).below hB3 hgw
        rw [hq] at cq
        obtain ⟨q0, q1⟩ := cq
        have hnext : cutS s (mid.take (k + 1)) = xs ++ cut1 s q := by
          rw [List.take_succ_eq_append_getElem hkm, cutS_snoc, hxs, hq]
        have htq : s.f ≤ q.t ∧ q.f ≤ s.t := HTP.out q (by rw [← hq]; exact List.getElem_mem _)
        have hA4 := hA.keep ((Below.refl _ _).alloc (Nat.le_refl _) (.cells #[.int .i64 q.f, .int .i64 q.t] 26))
        have hQ4 := SpAt.new w3 q 26
        have HA4 := Lib.hid hA4
        have HQ4 := Lib.hid hQ4
        have HNB := Lib.hid (fun k e => (World.ownsRow.lt hA.row k e).2)
        have hG := hA4.at_
        obtain ⟨y0, y1⟩ := hG
        have hsz := hA.room
        have hne1 : ¬ w.heap.size = w3.heap.size := by omega
        have hne2 : ¬ w3.heap.size = w.heap.size := by omega
        have hwk : IntKind.i64.wrap ((k : Int) + 1) = (k : Int) + 1 := by rw [IntKind.wrap_i64]; omega
        have HNX := Lib.hid hnext
        have HTQ := Lib.hid htq
        clear hc hq hxs hA hB3 hnext hA4 hQ4 htq
        by_cases h1q : q.f < s.f
        · by_cases h1e : s.f < q.t
          ·
            by_cases h2q : s.t < q.t
            · by_cases h2e : q.f < s.t
              ·
                have HE := Lib.hid (show cutS s (mid.take (k + 1)) = xs ++ [⟨q.f, s.f⟩, ⟨s.t, q.t⟩] by
                  rw [HNX.out]
                  have h1 := HTQ.out
                  unfold cut1
                  rw [if_pos h1q, if_pos h2q]
                  have e1 : min q.t s.f = s.f := by omega
                  rw [e1]
                  have e2 : max q.f s.t = s.t := by omega
                  rw [e2]
                  simp)
                go_wp2_with (at_builtin; refine wpList_app1 rfl _ _ rfl (w.heap.size + 1) r (.slice a1 r c1) _ ⟨q.f, s.f⟩ _ rfl rfl (by simp) hrl HA4.out.row (by omega) HA4.out.room ?_)
                intro a5 c5 w5 HR5 hb5 hg5
                have HL5 := Lib.hid (show (xs ++ [(⟨q.f, s.f⟩ : Sp)]).length = r + 1 by rw [List.length_append, hrl.out]; rfl)
                have HA5 := Lib.hid (HA4.out.next hb5 HR5.out)
                have hG := HA5.out.at_
                obtain ⟨y0', y1'⟩ := hG
                have hQB : some w3.heap.size ≠ (Value.slice a1 r c1).ownBlock := fun e => Nat.lt_irrefl _ (HNB.out _ e.symm)
                have q0' := hg5.cell (a := ⟨w3.heap.size, 0, none⟩) HQ4.out.c0 hQB
                have q1' := hg5.cell (a := ⟨w3.heap.size, 1, none⟩) HQ4.out.c1 hQB
                clear hb5 hg5 hQB
                go_wp2_with (at_builtin; refine wpList_app1 rfl _ _ rfl (w.heap.size + 1) (r + 1) (.slice a5 (r + 1) c5) _ ⟨s.t, q.t⟩ _ rfl rfl (by simp) HL5 HA5.out.row (by omega) HA5.out.room ?_)
                intro a6 c6 w6 HR6 hb6 hg6
                have HL6 := Lib.hid (show ((xs ++ [(⟨q.f, s.f⟩ : Sp)]) ++ [(⟨s.t, q.t⟩ : Sp)]).length = (r + 1) + 1 by rw [List.length_append, HL5.out]; rfl)
                have HA6 := Lib.hid (HA5.out.next hb6 HR6.out)
                clear hb6 hg6
                go_wp2
                go_roundw
                case rel => exact ⟨k + 1, _, a6, c6, rfl, by go_num, hkd, by rw [HE.out]; exact HA6.out, Lib.hid (by rw [HE.out, List.length_append, hrl.out]; rfl)⟩
                case measure => simp [intOf]; omega
              ·
                have HE := Lib.hid (show cutS s (mid.take (k + 1)) = xs ++ [⟨q.f, s.f⟩, ⟨q.f, q.t⟩] by
                  rw [HNX.out]
                  have h1 := HTQ.out
                  unfold cut1
                  rw [if_pos h1q, if_pos h2q]
                  have e1 : min q.t s.f = s.f := by omega
                  rw [e1]
                  have e2 : max q.f s.t = q.f := by omega
                  rw [e2]
                  simp)
                go_wp2_with (at_builtin; refine wpList_app1 rfl _ _ rfl (w.heap.size + 1) r (.slice a1 r c1) _ ⟨q.f, s.f⟩ _ rfl rfl (by simp) hrl HA4.out.row (by omega) HA4.out.room ?_)
                intro a5 c5 w5 HR5 hb5 hg5
                have HL5 := Lib.hid (show (xs ++ [(⟨q.f, s.f⟩ : Sp)]).length = r + 1 by rw [List.length_append, hrl.out]; rfl)
                have HA5 := Lib.hid (HA4.out.next hb5 HR5.out)
                have hG := HA5.out.at_
                obtain ⟨y0', y1'⟩ := hG
                have hQB : some w3.heap.size ≠ (Value.slice a1 r c1).ownBlock := fun e => Nat.lt_irrefl _ (HNB.out _ e.symm)
                have q0' := hg5.cell (a := ⟨w3.heap.size, 0, none⟩) HQ4.out.c0 hQB
                have q1' := hg5.cell (a := ⟨w3.heap.size, 1, none⟩) HQ4.out.c1 hQB
                clear hb5 hg5 hQB
                go_wp2_with (at_builtin; refine wpList_app1 rfl _ _ rfl (w.heap.size + 1) (r + 1) (.slice a5 (r + 1) c5) _ ⟨q.f, q.t⟩ _ rfl rfl (by simp) HL5 HA5.out.row (by omega) HA5.out.room ?_)
                intro a6 c6 w6 HR6 hb6 hg6
                have HL6 := Lib.hid (show ((xs ++ [(⟨q.f, s.f⟩ : Sp)]) ++ [(⟨q.f, q.t⟩ : Sp)]).length = (r + 1) + 1 by rw [List.length_append, HL5.out]; rfl)
                have HA6 := Lib.hid (HA5.out.next hb6 HR6.out)
                clear hb6 hg6
                go_wp2
                go_roundw
                case rel => exact ⟨k + 1, _, a6, c6, rfl, by go_num, hkd, by rw [HE.out]; exact HA6.out, Lib.hid (by rw [HE.out, List.length_append, hrl.out]; rfl)⟩
                case measure => simp [intOf]; omega
            ·
              have HE := Lib.hid (show cutS s (mid.take (k + 1)) = xs ++ [⟨q.f, s.f⟩] by
                rw [HNX.out]
                have h1 := HTQ.out
                unfold cut1
                rw [if_pos h1q, if_neg h2q]
                have e1 : min q.t s.f = s.f := by omega
                rw [e1]
                simp)
              go_wp2_with (at_builtin; refine wpList_app1 rfl _ _ rfl (w.heap.size + 1) r (.slice a1 r c1) _ ⟨q.f, s.f⟩ _ rfl rfl (by simp) hrl HA4.out.row (by omega) HA4.out.room ?_)
              intro a5 c5 w5 HR5 hb5 hg5
              have HL5 := Lib.hid (show (xs ++ [(⟨q.f, s.f⟩ : Sp)]).length = r + 1 by rw [List.length_append, hrl.out]; rfl)
              have HA5 := Lib.hid (HA4.out.next hb5 HR5.out)
              have hG := HA5.out.at_
              obtain ⟨y0', y1'⟩ := hG
              have hQB : some w3.heap.size ≠ (Value.slice a1 r c1).ownBlock := fun e => Nat.lt_irrefl _ (HNB.out _ e.symm)
              have q0' := hg5.cell (a := ⟨w3.heap.size, 0, none⟩) HQ4.out.c0 hQB
              have q1' := hg5.cell (a := ⟨w3.heap.size, 1, none⟩) HQ4.out.c1 hQB
              clear hb5 hg5 hQB
              go_wp2
              go_roundw
              case rel => exact ⟨k + 1, _, a5, c5, rfl, by go_num, hkd, by rw [HE.out]; exact HA5.out, Lib.hid (by rw [HE.out, List.length_append, hrl.out]; rfl)⟩
              case measure => simp [intOf]; omega
          ·
            by_cases h2q : s.t < q.t
            · by_cases h2e : q.f < s.t
              ·
                have HE := Lib.hid (show cutS s (mid.take (k + 1)) = xs ++ [⟨q.f, q.t⟩, ⟨s.t, q.t⟩] by
                  rw [HNX.out]
                  have h1 := HTQ.out
                  unfold cut1
                  rw [if_pos h1q, if_pos h2q]
                  have e1 : min q.t s.f = q.t := by omega
                  rw [e1]
                  have e2 : max q.f s.t = s.t := by omega
                  rw [e2]
                  simp)
                go_wp2_with (at_builtin; refine wpList_app1 rfl _ _ rfl (w.heap.size + 1) r (.slice a1 r c1) _ ⟨q.f, q.t⟩ _ rfl rfl (by simp) hrl HA4.out.row (by omega) HA4.out.room ?_)
                intro a5 c5 w5 HR5 hb5 hg5
                have HL5 := Lib.hid (show (xs ++ [(⟨q.f, q.t⟩ : Sp)]).length = r + 1 by rw [List.length_append, hrl.out]; rfl)
                have HA5 := Lib.hid (HA4.out.next hb5 HR5.out)
                have hG := HA5.out.at_
                obtain ⟨y0', y1'⟩ := hG
                have hQB : some w3.heap.size ≠ (Value.slice a1 r c1).ownBlock := fun e => Nat.lt_irrefl _ (HNB.out _ e.symm)
                have q0' := hg5.cell (a := ⟨w3.heap.size, 0, none⟩) HQ4.out.c0 hQB
                have q1' := hg5.cell (a := ⟨w3.heap.size, 1, none⟩) HQ4.out.c1 hQB
                clear hb5 hg5 hQB
                go_wp2_with (at_builtin; refine wpList_app1 rfl _ _ rfl (w.heap.size + 1) (r + 1) (.slice a5 (r + 1) c5) _ ⟨s.t, q.t⟩ _ rfl rfl (by simp) HL5 HA5.out.row (by omega) HA5.out.room ?_)
                intro a6 c6 w6 HR6 hb6 hg6
                have HL6 := Lib.hid (show ((xs ++ [(⟨q.f, q.t⟩ : Sp)]) ++ [(⟨s.t, q.t⟩ : Sp)]).length = (r + 1) + 1 by rw [List.length_append, HL5.out]; rfl)
                have HA6 := Lib.hid (HA5.out.next hb6 HR6.out)
                clear hb6 hg6
                go_wp2
                go_roundw
                case rel => exact ⟨k + 1, _, a6, c6, rfl, by go_num, hkd, by rw [HE.out]; exact HA6.out, Lib.hid (by rw [HE.out, List.length_append, hrl.out]; rfl)⟩
                case measure => simp [intOf]; omega
              ·
                have HE := Lib.hid (show cutS s (mid.take (k + 1)) = xs ++ [⟨q.f, q.t⟩, ⟨q.f, q.t⟩] by
                  rw [HNX.out]
                  have h1 := HTQ.out
                  unfold cut1
                  rw [if_pos h1q, if_pos h2q]
                  have e1 : min q.t s.f = q.t := by omega
                  rw [e1]
                  have e2 : max q.f s.t = q.f := by omega
                  rw [e2]
                  simp)
                go_wp2_with (at_builtin; refine wpList_app1 rfl _ _ rfl (w.heap.size + 1) r (.slice a1 r c1) _ ⟨q.f, q.t⟩ _ rfl rfl (by simp) hrl HA4.out.row (by omega) HA4.out.room ?_)
                intro a5 c5 w5 HR5 hb5 hg5
                have HL5 := Lib.hid (show (xs ++ [(⟨q.f, q.t⟩ : Sp)]).length = r + 1 by rw [List.length_append, hrl.out]; rfl)
                have HA5 := Lib.hid (HA4.out.next hb5 HR5.out)
                have hG := HA5.out.at_
                obtain ⟨y0', y1'⟩ := hG
                have hQB : some w3.heap.size ≠ (Value.slice a1 r c1).ownBlock := fun e => Nat.lt_irrefl _ (HNB.out _ e.symm)
                have q0' := hg5.cell (a := ⟨w3.heap.size, 0, none⟩) HQ4.out.c0 hQB
                have q1' := hg5.cell (a := ⟨w3.heap.size, 1, none⟩) HQ4.out.c1 hQB
                clear hb5 hg5 hQB
                go_wp2_with (at_builtin; refine wpList_app1 rfl _ _ rfl (w.heap.size + 1) (r + 1) (.slice a5 (r + 1) c5) _ ⟨q.f, q.t⟩ _ rfl rfl (by simp) HL5 HA5.out.row (by omega) HA5.out.room ?_)
                intro a6 c6 w6 HR6 hb6 hg6
                have HL6 := Lib.hid (show ((xs ++ [(⟨q.f, q.t⟩ : Sp)]) ++ [(⟨q.f, q.t⟩ : Sp)]).length = (r + 1) + 1 by rw [List.length_append, HL5.out]; rfl)
                have HA6 := Lib.hid (HA5.out.next hb6 HR6.out)
                clear hb6 hg6
                go_wp2
                go_roundw
                case rel => exact ⟨k + 1, _, a6, c6, rfl, by go_num, hkd, by rw [HE.out]; exact HA6.out, Lib.hid (by rw [HE.out, List.length_append, hrl.out]; rfl)⟩
                case measure => simp [intOf]; omega
            ·
              have HE := Lib.hid (show cutS s (mid.take (k + 1)) = xs ++ [⟨q.f, q.t⟩] by
                rw [HNX.out]
                have h1 := HTQ.out
                unfold cut1
                rw [if_pos h1q, if_neg h2q]
                have e1 : min q.t s.f = q.t := by omega
                rw [e1]
                simp)
              go_wp2_with (at_builtin; refine wpList_app1 rfl _ _ rfl (w.heap.size + 1) r (.slice a1 r c1) _ ⟨q.f, q.t⟩ _ rfl rfl (by simp) hrl HA4.out.row (by omega) HA4.out.room ?_)
              intro a5 c5 w5 HR5 hb5 hg5
              have HL5 := Lib.hid (show (xs ++ [(⟨q.f, q.t⟩ : Sp)]).length = r + 1 by rw [List.length_append, hrl.out]; rfl)
              have HA5 := Lib.hid (HA4.out.next hb5 HR5.out)
              have hG := HA5.out.at_
              obtain ⟨y0', y1'⟩ := hG
              have hQB : some w3.heap.size ≠ (Value.slice a1 r c1).ownBlock := fun e => Nat.lt_irrefl _ (HNB.out _ e.symm)
              have q0' := hg5.cell (a := ⟨w3.heap.size, 0, none⟩) HQ4.out.c0 hQB
              have q1' := hg5.cell (a := ⟨w3.heap.size, 1, none⟩) HQ4.out.c1 hQB
              clear hb5 hg5 hQB
              go_wp2
              go_roundw
              case rel => exact ⟨k + 1, _, a5, c5, rfl, by go_num, hkd, by rw [HE.out]; exact HA5.out, Lib.hid (by rw [HE.out, List.length_append, hrl.out]; rfl)⟩
              case measure => simp [intOf]; omega
        ·
          by_cases h2q : s.t < q.t
          · by_cases h2e : q.f < s.t
            ·
              have HE := Lib.hid (show cutS s (mid.take (k + 1)) = xs ++ [⟨s.t, q.t⟩] by
                rw [HNX.out]
                have h1 := HTQ.out
                unfold cut1
                rw [if_neg h1q, if_pos h2q]
                have e2 : max q.f s.t = s.t := by omega
                rw [e2]
                simp)
              go_wp2_with (at_builtin; refine wpList_app1 rfl _ _ rfl (w.heap.size + 1) r (.slice a1 r c1) _ ⟨s.t, q.t⟩ _ rfl rfl (by simp) hrl HA4.out.row (by omega) HA4.out.room ?_)
              intro a6 c6 w6 HR6 hb6 hg6
              have HL6 := Lib.hid (show (xs ++ [(⟨s.t, q.t⟩ : Sp)]).length = r + 1 by rw [List.length_append, hrl.out]; rfl)
              have HA6 := Lib.hid (HA4.out.next hb6 HR6.out)
              clear hb6 hg6
              go_wp2
              go_roundw
              case rel => exact ⟨k + 1, _, a6, c6, rfl, by go_num, hkd, by rw [HE.out]; exact HA6.out, Lib.hid (by rw [HE.out, List.length_append, hrl.out]; rfl)⟩
              case measure => simp [intOf]; omega
            ·
              have HE := Lib.hid (show cutS s (mid.take (k + 1)) = xs ++ [⟨q.f, q.t⟩] by
                rw [HNX.out]
                have h1 := HTQ.out
                unfold cut1
                rw [if_neg h1q, if_pos h2q]
                have e2 : max q.f s.t = q.f := by omega
                rw [e2]
                simp)
              go_wp2_with (at_builtin; refine wpList_app1 rfl _ _ rfl (w.heap.size + 1) r (.slice a1 r c1) _ ⟨q.f, q.t⟩ _ rfl rfl (by simp) hrl HA4.out.row (by omega) HA4.out.room ?_)
              intro a6 c6 w6 HR6 hb6 hg6
              have HL6 := Lib.hid (show (xs ++ [(⟨q.f, q.t⟩ : Sp)]).length = r + 1 by rw [List.length_append, hrl.out]; rfl)
              have HA6 := Lib.hid (HA4.out.next hb6 HR6.out)
              clear hb6 hg6
              go_wp2
              go_roundw
              case rel => exact ⟨k + 1, _, a6, c6, rfl, by go_num, hkd, by rw [HE.out]; exact HA6.out, Lib.hid (by rw [HE.out, List.length_append, hrl.out]; rfl)⟩
              case measure => simp [intOf]; omega
          ·
            have HE := Lib.hid (show cutS s (mid.take (k + 1)) = xs by
              rw [HNX.out]
              have h1 := HTQ.out
              unfold cut1
              rw [if_neg h1q, if_neg h2q]
              simp)
            go_wp2
            go_roundw
            case rel => exact ⟨k + 1, _, a1, c1, rfl, by go_num, hkd, by rw [HE.out]; exact HA4.out, by rw [HE.out]; exact hrl⟩
            case measure => simp [intOf]; omega
    · have hkdi : ¬ (k : Int) < (d : Int) := by omega
      have hmE : cutS s mid = xs := by rw [← hxs, List.take_of_length_le (by rw [HML.out]; omega)]
      have HADD := Lib.hid (show TakeOk L s (L.take i ++ xs ++ L.drop j) by
        rw [← hmE, ← HMD.out, ← HD.out]
        exact take_ok HC.out HSS.out HTO.out)
      obtain ⟨T, hT⟩ : ∃ T, L.take i ++ xs ++ L.drop j = T := ⟨_, rfl⟩
      have kq := KP.out w3 hB3 xs T a1 r c1 i j HIJ.out (by have := HJL.out; rw [HN.out] at this; exact this) hrl.out (by omega) hA.row hT
      rw [hT] at HADD
      have HMV := Lib.hid (Moves.of b (.slice a n c) hB3)
      clear hmE hT hB3 hA hxs hrl
      go_wp2_with (go_at_call 52; (with_reducible refine kq.mono ?_); rintro e w4 ⟨v', rfl, hset, hmv⟩)
      go_ret
      exact ⟨T, ⟨v', rfl, hset, HMV.out.trans hmv⟩, HADD.out⟩
theorem add_is (b : Nat) (v : Value) (L : List Sp) (s : Sp) (w : World) (hS : SetAt w b v L) (hC : Canon L) (hlen : L.length ≤ 100000) : Calls Tryd.prog 37 #[.pointer (some ⟨b, 0, none⟩), s.v] w (AddDone b v L s w) := by
  cases hs : s.some_ with
  | false => exact add_no b v L s w hS hC hs
  | true => exact add_some b v L s w hS hC hs hlen
theorem take_is (b : Nat) (v : Value) (L : List Sp) (s : Sp) (w : World) (hS : SetAt w b v L) (hC : Canon L) (hlen : L.length ≤ 100000) : Calls Tryd.prog 35 #[.pointer (some ⟨b, 0, none⟩), s.v] w (TakeDone b v L s w) := by
  cases hs : s.some_ with
  | false => exact take_no b v L s w hS hC hs
  | true => exact take_some b v L s w hS hC hs hlen
end Go.Proofs.YtdkenokjdiamhaaDoor
