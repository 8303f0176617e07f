/- HintNil. -/
import Derived.Test.YtolmhlfegllfoaaHiNil
import Derived.Test.YtolmhlfegllfoaaHiAwake
set_option maxRecDepth 200000
set_option linter.unusedSimpArgs false
set_option linter.unusedVariables false
namespace Go.Proofs.Ytolmhlfegllfoaa.Qu.Hi
open Go.RowKit Go.Maps Go.Proofs.Ytolmhlfegllfoaa.Vi Go.Proofs.Ytolmhlfegllfoaa.Mk

structure ZSt (w X : World) : Prop where
  at_ : HiAt X w.heap.size w.heap.size none 0 []
  bel : Below w.heap.size w X
theorem ZSt.a {w W W' : World} (h : ZSt w W) (k : Below W.heap.size W W') : ZSt w W' := ⟨h.at_.later k, bel_next h.bel k⟩
theorem ZSt.al {w W : World} (h : ZSt w W) (o : Obj) : ZSt w (W.alloc o) := ⟨h.at_.alloc o, bel_new h.bel o⟩
theorem ZSt.b {w W W' : World} (h : ZSt w W) (o : Obj) (k : Below (W.alloc o).heap.size (W.alloc o) W') : ZSt w W' := (h.al o).a k
theorem ZSt.new (w : World) : ZSt w (w.alloc (.cells #[.int .i64 0, .map none] 61)) :=
  ⟨⟨heap_alloc_new _ _, Nat.le_refl _, fun _ => ⟨rfl, rfl⟩, (fun m e => by cases e), ⟨by omega, by omega⟩, by decide, ⟨List.nodup_nil, fun x hx => by cases hx⟩⟩, (Below.refl _ _).alloc (Nat.le_refl _) _⟩
theorem below_of_none {w w' : World} (h : w.grownBy w' none) : Below w.heap.size w w' := ⟨h.os, h.tape, h.output, h.size, fun k hk => h.block k hk (by simp)⟩
theorem zadd {w W : World} (h : ZSt w W) (v : Value) (l : List Int) (hN : Ns W v l) (z : Bool) (hz : addOk [] 0 (PP 1) l = z) : Calls Try.prog 16 #[.pointer (some ⟨w.heap.size, 0, none⟩), .agg #[.string ⟨#[97]⟩, .int .i64 1, .int .i64 0, .int .i64 1, .int .i64 0, .int .i64 1], v] W fun e w' => e = .returned (.bool z) ∧ Below W.heap.size W w' := by
  refine (add_is h.at_ (PP 1) (pp_fits 1 (i64_of (by omega) (by omega))) (by show (1 : Nat) ≤ _; decide) v l hN).mono ?_
  rintro e w' ⟨rfl, -, hg⟩
  exact ⟨by rw [hz], below_of_none hg⟩
namespace hintNil
set_option maxHeartbeats 16000000 in
theorem walk (n : Int) (w : World) (hn : -9223372036854775808 ≤ n ∧ n ≤ 9223372036854775807) : Calls Try.prog 6 #[.int .i64 n] w fun e w' => e = .returned (.bool true) ∧ Below w.heap.size w w' := by
  have HS := Lib.hid (ZSt.new w)
  have ka := fun W => awake_is W
  have kp : ∀ (t : Int) (W : World), Calls Try.prog 29 #[.int .i64 t] W fun e w' => e = .returned (.agg #[.string ⟨#[97]⟩, .int .i64 t, .int .i64 0, .int .i64 1, .int .i64 0, .int .i64 1]) ∧ Below W.heap.size W w' := fun t W => pp_is t W
  have ia : ∀ (v : Value) (W : World), Calls Try.prog 16 #[.pointer none, .agg #[.string ⟨#[97]⟩, .int .i64 1, .int .i64 0, .int .i64 1, .int .i64 0, .int .i64 1], v] W fun e w' => e = .returned (.bool false) ∧ Below W.heap.size W w' := fun v W => nil_add (PP 1) v W
  have ik : ∀ (W : World), Calls Try.prog 12 #[.pointer none, .int .i64 1, .slice (some ⟨W.heap.size, 0, none⟩) 1 1] (W.alloc (.cells #[.string ⟨#[97]⟩, .int .i64 1, .int .i64 0, .int .i64 1, .int .i64 0, .int .i64 1] 31)) fun e w' => e = .returned (.int .i64 0) ∧ Below (W.alloc (.cells #[.string ⟨#[97]⟩, .int .i64 1, .int .i64 0, .int .i64 1, .int .i64 0, .int .i64 1] 31)).heap.size (W.alloc (.cells #[.string ⟨#[97]⟩, .int .i64 1, .int .i64 0, .int .i64 1, .int .i64 0, .int .i64 1] 31)) w' := fun W => nil_ack 1 W.heap.size (PP 1) (pp_big 1 1 (i64_of (by omega) (by omega)) (i64_of (by omega) (by omega))) _ (PtAt.new W (PP 1))
  have idr := fun W => nil_drop 5 W
  have il := fun W => len_nil W
  have ir := fun W => room_nil W
  have if_ := fun W => nil_for n 5 W
  have io : ∀ (W : World), Calls Try.prog 22 #[.pointer none, .agg #[.string ⟨#[97]⟩, .int .i64 1, .int .i64 0, .int .i64 1, .int .i64 0, .int .i64 1]] W fun e w' => ∃ a c, e = .returned (.slice a 0 c) ∧ Below W.heap.size W w' := fun W => by
    refine (nil_owed (PP 1) (fun k hk => pp_big 1 k (i64_of (by omega) (by omega)) (i64_of (by omega) (by omega))) W).mono ?_
    rintro e w' ⟨v, rfl, hR, hb⟩
    obtain ⟨a, c, rfl⟩ := hR.slice
    exact ⟨a, c, rfl, hb⟩
  have inn := fun W => nil_nodes W
  have hn1 := fun W : World => ns_one W 1 (i64_of (n := 1) (by omega) (by omega))
  have hn0 := fun W : World => ((Nums.nil W none 0).mono (Nat.zero_le _) (Nat.le_refl _) : Ns W (.slice none 0 0) [])
  have q1 : addOk [] 0 (PP 1) [1] = false := by decide +kernel
  have q0 : addOk [] 0 (PP 1) [] = true := by decide +kernel
  go_enter Try.func6, Try.ntmps6
  go_upto_region 3 with fail
  refine wp_region_lit ?_
  try simp only [List.append_eq, List.cons_append, List.nil_append]
  go_wp2_with (first
    | (go_at_call 8; (with_reducible refine (ka _).mono ?_); rintro e w1 ⟨rfl, hb⟩; (first | replace HS := Lib.hid (HS.out.a hb) | replace HS := Lib.hid (HS.out.b _ hb)); clear hb)
    | (go_at_call 29; (with_reducible refine (kp 1 _).mono ?_); rintro e w1 ⟨rfl, hb⟩; (first | replace HS := Lib.hid (HS.out.a hb) | replace HS := Lib.hid (HS.out.b _ hb)); clear hb)
    | (go_at_call 16; (with_reducible refine (ia _ _).mono ?_); rintro e w1 ⟨rfl, hb⟩; (first | replace HS := Lib.hid (HS.out.a hb) | replace HS := Lib.hid (HS.out.b _ hb)); clear hb)
    | (go_at_call 12; (with_reducible refine (ik _).mono ?_); rintro e w1 ⟨rfl, hb⟩; (first | replace HS := Lib.hid (HS.out.a hb) | replace HS := Lib.hid (HS.out.b _ hb)); clear hb)
    | (go_at_call 14; (with_reducible refine (idr _).mono ?_); rintro e w1 ⟨rfl, hb⟩; (first | replace HS := Lib.hid (HS.out.a hb) | replace HS := Lib.hid (HS.out.b _ hb)); clear hb)
    | (go_at_call 25; (with_reducible refine (il _).mono ?_); rintro e w1 ⟨rfl, rfl⟩)
    | (go_at_call 26; (with_reducible refine (ir _).mono ?_); rintro e w1 ⟨rfl, rfl⟩)
    | (go_at_call 19; (with_reducible refine (if_ _).mono ?_); rintro e w1 ⟨a3, c3, rfl, hb⟩; (first | replace HS := Lib.hid (HS.out.a hb) | replace HS := Lib.hid (HS.out.b _ hb)); clear hb)
    | (go_at_call 22; (with_reducible refine (io _).mono ?_); rintro e w1 ⟨a4, c4, rfl, hb⟩; (first | replace HS := Lib.hid (HS.out.a hb) | replace HS := Lib.hid (HS.out.b _ hb)); clear hb)
    | (go_at_call 24; (with_reducible refine (inn _).mono ?_); rintro e w1 ⟨a5, c5, rfl, hb⟩; (first | replace HS := Lib.hid (HS.out.a hb) | replace HS := Lib.hid (HS.out.b _ hb)); clear hb)
    | (go_at_call 16; (have kk := zadd (HS.out.al (.cells #[.int .i64 1] 3)) _ [1] (hn1 _) _ q1); (with_reducible refine kk.mono ?_); rintro e w1 ⟨rfl, hb⟩; clear kk; (first | replace HS := Lib.hid (HS.out.a hb) | replace HS := Lib.hid (HS.out.b _ hb)); clear hb)
    | (go_at_call 16; (have kk := zadd HS.out _ [] (hn0 _) _ q0); (with_reducible refine kk.mono ?_); rintro e w1 ⟨rfl, hb⟩; clear kk; (first | replace HS := Lib.hid (HS.out.a hb) | replace HS := Lib.hid (HS.out.b _ hb)); clear hb)
    | (go_at_call 25; (have kk := len_is HS.out.at_); (with_reducible refine kk.mono ?_); rintro e w1 ⟨rfl, rfl⟩; clear kk)
    | (go_at_call 26; (have kk := room_is HS.out.at_); (with_reducible refine kk.mono ?_); rintro e w1 ⟨rfl, hb⟩; clear kk; (first | replace HS := Lib.hid (HS.out.a hb) | replace HS := Lib.hid (HS.out.b _ hb)); clear hb))
  go_ret
  exact ⟨rfl, HS.out.bel⟩
end hintNil
end Go.Proofs.Ytolmhlfegllfoaa.Qu.Hi
