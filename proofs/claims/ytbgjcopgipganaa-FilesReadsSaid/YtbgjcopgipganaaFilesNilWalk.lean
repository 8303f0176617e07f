/- The walk of FilesNil. -/
import Derived.Test.YtbgjcopgipganaaFilesNils
set_option maxRecDepth 20000
set_option linter.unusedSimpArgs false
namespace Go.Proofs.Ytbgjcopgipganaa
open Go.RowKit Go.Maps Go.Shelf

/-- A directory that the call has made. -/
structure One (w0 w : World) (b : Nat) (S : FS) (L : Lay) : Prop where
  at_ : FsAt w b S L
  lo : ∀ i, mods b S L i → w0.heap.size ≤ i
  bel : Below w0.heap.size w0 w
theorem One.below {w0 w w' : World} {b : Nat} {S : FS} {L : Lay} (h : One w0 w b S L) (k : Below w.heap.size w w') : One w0 w' b S L := ⟨h.at_.later k, h.lo, bel_next h.bel k⟩
theorem One.turn {w0 w w' : World} {b : Nat} {S S' : FS} {L L' : Lay} (h : One w0 w b S L) (k : Went w w' b S S' L L') : One w0 w' b S' L' := ⟨k.at_, fun i hi => by
    rcases k.sub i hi with h3 | h3
    · exact h.lo i h3
    · exact Nat.le_trans h.bel.size h3, Below.went h.bel k h.bel.size h.lo⟩
def Z0 : FS := ⟨0, [], [], [], false, false, 0, []⟩
def LZ : Lay := ⟨none, none, .slice none 0 0, fun _ => .slice none 0 0, []⟩
theorem zero_made (w : World) : One w (w.alloc (.cells (headV Z0 LZ) 61)) w.heap.size Z0 LZ :=
  ⟨⟨heap_alloc_new w _, Or.inl ⟨rfl, rfl⟩, Or.inl ⟨rfl, rfl⟩, Or.inl rfl, World.ownsRow_nil _ _ _ _, rfl, fun p hp => by simp [Z0, LZ] at hp, fun f hf => by simp [Z0] at hf, fun f hf => by simp [Z0] at hf⟩, fun i hi => by
    rcases hi with hi | hi | hi | hi | ⟨f, hf, _⟩
    · omega
    · cases hi
    · cases hi
    · cases hi
    · simp [Z0] at hf, bel_al w _⟩
theorem zero_whole : Whole Z0 := (Whole.empty (r := 0) (by decide)).head rfl rfl rfl rfl (by decide) (by decide)
def Z1 (q : Nat) : FS := ⟨0, [([97], q)], [], [.mk [97] q], true, false, 0, [⟨q, ⟨#[]⟩, 0⟩]⟩
theorem z_app (q : Nat) : appendS (Z1 q) TA ⟨#[120]⟩ = (15, Z1 q) := by
  unfold appendS
  rw [find_a rfl rfl]
  dsimp only
  rw [used_one rfl (rfl : (Z1 q).fil = [⟨q, ⟨#[]⟩, 0⟩]), if_pos (by show (0 : Int) < _; decide)]
namespace filesNil
set_option maxHeartbeats 4000000 in
theorem walk (s : ByteArray) (w : World) (_hs : s.size ≤ maxLen) : Calls Try.prog 8 #[.string s] w fun e w' => e = .returned (.bool true) ∧ Below w.heap.size w w' := by
  have hz := zero_made w
  have HT0 := Lib.hid hz
  clear hz
  go_enter Try.func8, Try.ntmps8
  go_wp2_with (first
    | (go_at_call 26; (with_reducible refine (arm_nil 1 _).mono ?_); rintro e w1 ⟨rfl, hB⟩; (have HT1 := Lib.hid (HT0.out.below hB)); clear hB HT0)
    | (go_at_call 28; (with_reducible refine (limit_nil 1 _).mono ?_); rintro e w2 ⟨rfl, hB⟩; (have HT2 := Lib.hid (HT1.out.below hB)); clear hB HT1)
    | (go_at_call 24; (with_reducible refine (crash_nil _ _).mono ?_); rintro e w3 ⟨rfl, hB⟩; (have HT3 := Lib.hid ((HT2.out.below (bel_al _ _)).below hB)); clear hB HT2)
    | (go_at_call 32; (with_reducible refine (read_nil TA _).mono ?_); rintro e w4 ⟨rfl, hB⟩; (have HT4 := Lib.hid (HT3.out.below hB)); clear hB HT3)
    | (go_at_call 14; (with_reducible refine (create_off _ Z0 LZ TA _ HT4.out.at_ rfl ta_len).mono ?_); rintro e w5 ⟨rfl, hB⟩; (have HT5 := Lib.hid (HT4.out.below hB)); clear hB HT4)
    | (go_at_call 24; (with_reducible refine (crash_dir (.slice none 0 0) [] HT5.out.at_ zero_whole (by decide) (fun W _ => Is.nil W)).mono ?_); rintro e w6 ⟨L6, rfl, hW, hD⟩; (have hT : One w w6 w.heap.size (emptyS 0) L6 := HT5.out.turn hW); (have k7 := create_dir (S := emptyS 0) TA hD (by decide) ta_len); (have HT6 := Lib.hid hT); clear hW hD hT HT5)
    | (go_at_call 14; (with_reducible refine k7.mono ?_); rintro e w7 ⟨q, hq, L7, rfl, hW, hD⟩; (have hT : One w w7 w.heap.size (Z1 q) L7 := HT6.out.turn hW); (have HT7 := Lib.hid hT); (have HD7 := Lib.hid (show L7.bn ≠ none ∧ Whole (Z1 q) from ⟨by obtain ⟨bm, h⟩ := hD.bn; rw [h]; simp, hD.whole⟩)); clear hW hD hT HT6 hq k7)
    | (go_at_call 10; (with_reducible refine (awake_is _).mono ?_); rintro e w8 ⟨rfl, hB⟩; (have HT8 := Lib.hid (HT7.out.below hB)); clear hB HT7)
    | (go_at_call 14; (with_reducible refine (create_nil TA _).mono ?_); rintro e w9 ⟨rfl, hB⟩; (have HT9 := Lib.hid (HT8.out.below hB)); clear hB HT8)
    | (go_at_call 30; (with_reducible refine (append_nil TA s _).mono ?_); rintro e w10 ⟨rfl, hB⟩; (have HT10 := Lib.hid (HT9.out.below hB)); clear hB HT9)
    | (go_at_call 16; (with_reducible refine (sync_nil TA _).mono ?_); rintro e w11 ⟨rfl, hB⟩; (have HT11 := Lib.hid (HT10.out.below hB)); clear hB HT10)
    | (go_at_call 18; (with_reducible refine (delete_nil TA _).mono ?_); rintro e w12 ⟨rfl, hB⟩; (have HT12 := Lib.hid (HT11.out.below hB)); clear hB HT11)
    | (go_at_call 20; (with_reducible refine (rename_nil TA TB _).mono ?_); rintro e w13 ⟨rfl, hB⟩; (have HT13 := Lib.hid (HT12.out.below hB)); clear hB HT12)
    | (go_at_call 22; (with_reducible refine (syncdir_nil _).mono ?_); rintro e w14 ⟨rfl, hB⟩; (have HT14 := Lib.hid (HT13.out.below hB)); clear hB HT13)
    | (go_at_call 35; (with_reducible refine (names_nil _).mono ?_); rintro e w15 ⟨rfl, hB⟩; (have HT15 := Lib.hid (HT14.out.below hB)); clear hB HT14)
    | (go_at_call 36; (with_reducible refine (used_nil _).mono ?_); rintro e w16 ⟨rfl, hB⟩; (have HT16 := Lib.hid (HT15.out.below hB)); clear hB HT15)
    | (go_at_call 38; (with_reducible refine (on_nil _).mono ?_); rintro e w17 ⟨rfl, hB⟩; (have HT17 := Lib.hid (HT16.out.below hB)); clear hB HT16)
    | (go_at_call 30; (have k18 := append_dir TA ⟨#[120]⟩ (show Dir _ _ _ _ from ⟨HT17.out.at_, Option.ne_none_iff_exists'.1 HD7.out.1, HD7.out.2⟩) ta_len (by decide)); (rw [z_app] at k18); (with_reducible refine k18.mono ?_); rintro e w18 ⟨L18, rfl, hW, hD⟩; (have HT20 := Lib.hid (HT17.out.turn hW)); clear hW hD k18 HT17))
  go_ret
  exact ⟨rfl, HT20.out.bel⟩
end filesNil
end Go.Proofs.Ytbgjcopgipganaa
