/-
  Contracts, joined: TrimsD, TrimsE, TrimsF, Shelf2, TrimsG, Reader, Quoted, Numbers, QFull, QTexts, Built, WriteP, RMore. Nothing is claimed here by itself.
-/
import Derived.Test.YteoogioanjkacaaGreatDoorK08
import Derived.WalkMore
import Derived.ScopeJumps
import Derived.Shelf.Strings.Builder1
import Derived.Shelf.Strings.Builder2
import Derived.Shelf.Strings.OnBuilder
import Derived.Shelf.Strings.Trim
import Derived.Shelf.Small.Utf8
import Derived.Shelf.Small.Strs
import Derived.Shelf.Small.Wraps
import Derived.Shelf.Strings.BuilderF
import Derived.Shelf.Strings.BuilderK
import Derived.Shelf.Utf8.AppendRunePlain
import Derived.Shelf.Strconv.Atoi
import Derived.Shelf.Strconv.Itoa0
import Derived.Shelf.Strconv.Itoa1
import Derived.Shelf.LaysM
import Derived.Shelf.Strconv.Itoa2
import Derived.Shelf.Strconv.Itoa3
import Derived.Shelf.Strconv.AtoiErrFast
import Derived.Shelf.Strconv.ParseIntEmpty
import Derived.Shelf.Strconv.AtoiFail
import Derived.Shelf.Strconv.Clone
import Derived.Shelf.Strconv.SyntaxError
import Derived.Shelf.LaysC
import Derived.Shelf.Strconv.ToError
import Derived.Shelf.Strconv.Lower
import Derived.Shelf.Strconv.ParseUint10
import Derived.Shelf.Strconv.ParseUint10Empty
import Derived.Shelf.Strconv.ParseUint10Any
import Derived.Shelf.Strconv.ParseInt10
import Derived.Shelf.Strconv.AtoiLong
import Derived.Shelf.Strconv.AtoiInnerAll
import Derived.Shelf.Strconv.RangeError
import Derived.Shelf.Strconv.ToErrorRange
import Derived.Shelf.Strconv.AtoiAll
import Derived.Shelf.Strconv.ErrVarAll
import Derived.Shelf.Strings.Search1
import Derived.Shelf.Strings.Search2
import Derived.Shelf.Strings.Search3
import Derived.Shelf.Strings.Cut
import Derived.Shelf.Strings.Shaped
import Derived.Shelf.Strings.Prefix
import Derived.Shelf.Unicode.Decode
import Derived.Shelf.Strings.Runes
import Derived.Shelf.Strings.AsciiSet
import Derived.Shelf.Bits.Mul64
import Derived.Shelf.Strings.Repeat
import Derived.Shelf.Unicode.DecodeSlow
import Derived.Shelf.Unicode.DecodeAny
import Derived.Shelf.Unicode.DecodeLast
import Derived.Test.YteoogioanjkacaaGreatDoorProg
import Derived.BigRegion
import Derived.BigQuiet
import Derived.ArgAppend
import Derived.Lib.SlBytesConst
import Derived.Deep.LoopGhost
import Derived.Deep.CutBlock
import Derived.Deep.DeepCutAuto
namespace Go.Proofs.YteoogioanjkacaaGreatDoor.Quo
set_option maxRecDepth 200000
open Go.RowKit Go.Lib
set_option linter.unusedVariables false
set_option linter.unusedSimpArgs false
def FR (S R : ByteArray) (c m m1 : Int) (u : Nat → Value) : Act := { tmps := #[.string S, .int .i32 c, undef, undef, u 4, undef, undef, .string R, .int .i64 m, .int .i64 12, .int .i64 0, u 11, u 12, undef, undef, undef, undef, .int .i32 c, .string R, .string R, .int .i64 m1, .int .i64 m, .int .i64 m, u 23, u 24, u 25, u 26, u 27, u 28, u 29, u 30, u 31, u 32, u 33, u 34, u 35, u 36, u 37, u 38, u 39, u 40, u 41, u 42, u 43, u 44, u 45, u 46, u 47, u 48, u 49, u 50, u 51, u 52, u 53, u 54, u 55, u 56, u 57, u 58, u 59, u 60, u 61, u 62, u 63, u 64, u 65, u 66, u 67, u 68, u 69, u 70, u 71, u 72, u 73, u 74, u 75, u 76, u 77, u 78, u 79, u 80, u 81, u 82, u 83, u 84, u 85, u 86, u 87, u 88, u 89, u 90, u 91, u 92, u 93, u 94, u 95, u 96, u 97, u 98, undef, undef, undef, undef, undef, undef, undef, undef, undef, undef, undef, undef, undef, undef, undef, undef, undef, undef, undef, undef, undef, undef, undef, undef, undef, undef, undef, undef, undef, undef, undef, undef, undef, undef, undef, undef, undef, undef, undef, undef, undef, undef, undef, undef, undef, undef, undef, undef, undef, undef, undef, undef, undef, undef, undef, undef, undef, undef, undef, undef, undef, .bool false, .int .i32 c, .bool true, .bool true, .int .i32 c, .bool false, .bool false, undef, undef, undef, undef, .bool false, .int .i32 c, .bool false, undef, undef, undef, undef, undef, undef, undef, undef, undef, .bool false, .int .i32 c, .bool true, .bool false], defers := [] }
def JP (S R : ByteArray) (c m m1 : Int) (w2 : World) (a' : Act) (w' : World) : Prop := Grow w2 w' ∧ ∃ u : Nat → Value, a' = FR S R c m m1 u
theorem jp_of {S R : ByteArray} {c m m1 : Int} {w2 w' : World} {a' : Act} (hg : Grow w2 w') (h : a' = FR S R c m m1 (fun k => a'.tmps.getD k undef)) : JP S R c m m1 w2 a' w' := ⟨hg, _, h⟩
theorem cutover (w : World) : Calls Tryz.prog 176 #[.int .i64 13] w fun e w' => e = .returned (.int .i64 3) ∧ w' = w := by
  go_enter Tryz.func176, Tryz.ntmps176
  go_wp2
  go_ret
  exact ⟨rfl, rfl⟩
set_option maxHeartbeats 4000000 in
/-- a sign of two bytes or more that is not the high minus -/
theorem index_far (c : Nat) (hc : isSign c = true) (h1 : 128 ≤ c) (h2 : c ≠ 65533) (h3 : c ≠ 175) (w : World) : Calls Tryz.prog 178 #[.string ⟨CUT.toArray⟩, .int .i32 c] w fun e w' => e = .returned (.int .i64 (-1)) ∧ Grow w w' := by
  obtain ⟨m, z, b, hl, m1, m3, hb, hz, b1, b2, hzb, _⟩ := last_two hc h1
  have henc := enc_bytes hc
  have hi0 := index_str hb
  have hi1 := index_str hz
  have hc0 := index_str (cut_get m m1 m3)
  have hV := Lib.hid (fun W => Tryz.utf8_ValidRune (c : Int) W)
  have hX := Lib.hid (cut_idx m m1 m3 b1 b2)
  have hn := Lib.hid (fun e => h3 (hzb.1 e))
  have hI := Lib.hid (fun (s : ByteArray) W => Tryz.strings_IndexByte s (b.toNat : Int) W)
  have hcl : ((c : Nat) : Int) ≤ 1114111 := by have := isSign_iff.1 hc; omega
  have hci : ¬ ((c : Nat) : Int) < 128 := by omega
  have hc65 : (((c : Nat) : Int) == 65533) = false := by rw [beq_eq_false_iff_ne]; omega
  have hvr : Lib.validRune ((c : Nat) : Int) = true := by have := isSign_iff.1 hc; unfold Lib.validRune; simp; omega
  obtain ⟨R, hR⟩ : ∃ R, (⟨(bytesD c).toArray⟩ : ByteArray) = R := ⟨_, rfl⟩
  have hRs : R.size = m + 1 := by rw [← hR, strS, hl]
  have hsl := slice_from CUT (m + 1) (by show m + 1 ≤ 14; omega)
  obtain ⟨D, hD⟩ : ∃ D, CUT.drop (m + 1) = D := ⟨_, rfl⟩
  obtain ⟨S, hS⟩ : ∃ S, (⟨CUT.toArray⟩ : ByteArray) = S := ⟨_, rfl⟩
  have hSs : S.size = 14 := by rw [← hS]; rfl
  rw [hR] at hi0 hi1 henc
  rw [hD] at hsl hX
  rw [hS] at hc0 hsl ⊢
  have hI1 := Lib.hid (fun W => hI.out ⟨D.toArray⟩ W)
  simp only [Int.toNat_natCast] at hI1
  have hbb : b.toNat.toUInt8 = b := u8_eq rfl
  rw [hbb, hX.out] at hI1
  have hdig : (UInt8.ofNat (48 + m)).toNat = 48 + m := u8_nat (by omega)
  rw [hdig] at hc0
  have hd1 : ((((48 + m : Nat) : Int)) == ((b.toNat : Nat) : Int)) = false := by rw [beq_eq_false_iff_ne]; omega
  have hS1 := hS
  clear hR hS hD hX hI hb hz hl hdig hbb hzb
  obtain ⟨β, hβ⟩ : ∃ β : Nat, b.toNat = β := ⟨_, rfl⟩
  rw [hβ] at hi0 hI1 hd1 b1 b2
  have hm : m = 1 ∨ m = 2 ∨ m = 3 := by omega
  by_cases hb175 : b = 175
  · have hzn : z ≠ 194 := fun e => hn.out ⟨e, hb175⟩
    rw [if_pos hb175] at hI1
    have hβ : β = 175 := by rw [← hβ, hb175]; rfl
    subst hβ
    obtain ⟨ζ, hζ⟩ : ∃ ζ : Nat, z.toNat = ζ := ⟨_, rfl⟩
    have hζn : ζ ≠ 194 := fun e => hzn (by rw [← u8_eq (b := z) (n := 194) (by rw [hζ, e])]; rfl)
    rw [hζ] at hi1
    clear hn hzn hb175 hζ
    have h11 : ∀ W, (Instr.index 9 (.string S) (.int .i64 11)).run Tryz.prog W = .ok (.int .u8 194) W := by subst hS1; exact index_str (l := CUT) (i := 11) rfl
    have h13 : ∀ W, (Instr.index 9 (.string S) (.int .i64 13)).run Tryz.prog W = .ok (.int .u8 32) W := by subst hS1; exact index_str (l := CUT) (i := 13) rfl
    have h14 : ∀ W, (Instr.slice 9 (.string S) (some (.int .i64 14)) none none).run Tryz.prog W = .ok (.string ⟨#[]⟩) W := by subst hS1; exact slice_from CUT 14 (Nat.le_refl _)
    have hI2 := Lib.hid (fun W => Tryz.strings_IndexByte ⟨#[]⟩ 175 W)
    have hI3 : Hid (∀ W, Calls Tryz.prog 195 #[.string ⟨#[]⟩, .int .u8 175] W fun e w' => e = .returned (.int .i64 (-1)) ∧ w' = W) := Lib.hid (fun W => hI2.out W)
    have hCO := Lib.hid (fun W => cutover W)
    clear hI2 hS1
    rcases hm with rfl | rfl | rfl
    · have hi0 : ∀ W, (Instr.index 9 (.string R) (.int .i64 1)).run Tryz.prog W = .ok (.int .u8 175) W := hi0
      have hi1 : ∀ W, (Instr.index 9 (.string R) (.int .i64 0)).run Tryz.prog W = .ok (.int .u8 ((ζ : Nat) : Int)) W := hi1
      have hc0 : ∀ W, (Instr.index 9 (.string S) (.int .i64 1)).run Tryz.prog W = .ok (.int .u8 49) W := hc0
      have hsl : ∀ W, (Instr.slice 9 (.string S) (some (.int .i64 2)) none none).run Tryz.prog W = .ok (.string ⟨D.toArray⟩) W := hsl
      have hI1 : Hid (∀ W, Calls Tryz.prog 195 #[.string ⟨D.toArray⟩, .int .u8 175] W fun e w' => e = .returned (.int .i64 10) ∧ w' = W) := Lib.hid (fun W => hI1.out W)
      have hRs : R.size = 2 := hRs
      have hz1 : ((194 : Int) != ((ζ : Nat) : Int)) = true := by rw [bne_iff_ne]; omega
      go_enter Tryz.func178, Tryz.ntmps178
      go_wp2_with fail
      refine (hV.out _).mono ?_
      rintro e w2 ⟨rfl, rfl⟩
      simp only [hvr]
      clear hV
      have hcv : ∀ W, (convert 21 9 (.int .i32 (c : Int))).run Tryz.prog W = .ok (.string R) W := fun W => by rw [run_convert_int_string W 21 9 .i32 (c : Int) (by kernel_rfl) (by kernel_rfl), henc]
      clear henc
      go_wp2
      go_step3
      go_wp2_with fail
      clear hcv hvr hc65 b1 b2 hcl hci h1 h2 h3 hc m1 m3 hd1
      go_loopg [9, 10] 2 (fun g s9 s10 wr => ((s9 = .int .i64 1 ∧ s10 = .int .i64 0 ∧ g = 2) ∨ (s9 = .int .i64 13 ∧ s10 = .int .i64 1 ∧ g = 1)) ∧ Grow w2 wr)
      case atStart => exact ⟨.inl ⟨rfl, rfl, rfl⟩, Grow.refl _⟩
      case round =>
        obtain ⟨hrel, hgr⟩ := hrel
        have HG := Lib.hid hgr
        clear hgr
        rcases hrel with ⟨rfl, rfl, rfl⟩ | ⟨rfl, rfl, rfl⟩
        · go_wp2
          refine wp_scope_jumps 0 (JP S R c 1 2 w2) (fun _ _ => 0) rfl ?_ ?_
          rotate_left
          · rintro a' w' ⟨hg, u, rfl⟩
            have hG5 := Lib.hid hg
            clear hg
            unfold FR
            go_wp2
            simp only [Exit.jump, Exit.then, Exit.inBlock]
            go_wp2
            go_roundg 1
            case rel => exact ⟨.inr ⟨rfl, rfl, rfl⟩, hG5.out⟩
            case measure => omega
          go_wp2
          go_quiet (fail)
          go_wp2
          have hG2 := Lib.hid (Grow.drewN HG.out nq)
          generalize wr.drewN nq = wr2 at hG2
          clear hc0
          go_quiet (refine Calls.quiet_of_same (hI1.out _))
          go_wp2
          have hG3 := Lib.hid (Grow.drewN hG2.out nq)
          generalize wr2.drewN nq = wr3 at hG3
          clear hsl hI1 hi0
          go_loopg [12] 1 (fun g s12 wx => s12 = .int .i64 1 ∧ Grow w2 wx)
          case atStart => exact ⟨rfl, hG3.out⟩
          case round =>
            obtain ⟨rfl, hgr⟩ := hrel
            have hG4 := Lib.hid hgr
            clear hgr
            go_wp2
            go_quiet (fail)
            go_wp2
            go_step3
            simp only [Exit.inBlock, Exit.then, Exit.jump]
            exact ⟨trivial, jp_of (Grow.drewN hG4.out _) rfl⟩
        · go_wp2
          go_step3
          go_wp2
          go_quiet (fail)
          go_wp2
          have hG2 := Lib.hid (Grow.drewN HG.out nq)
          generalize wr.drewN nq = wr2 at hG2
          go_quiet (refine Calls.quiet_of_same (hI3.out _))
          go_wp2
          simp only [Exit.noGoto_ret, Exit.then, Exit.inBlock]
          go_ret
          exact ⟨rfl, Grow.drewN hG2.out _⟩
    · have hi0 : ∀ W, (Instr.index 9 (.string R) (.int .i64 2)).run Tryz.prog W = .ok (.int .u8 175) W := hi0
      have hi1 : ∀ W, (Instr.index 9 (.string R) (.int .i64 1)).run Tryz.prog W = .ok (.int .u8 ((ζ : Nat) : Int)) W := hi1
      have hc0 : ∀ W, (Instr.index 9 (.string S) (.int .i64 2)).run Tryz.prog W = .ok (.int .u8 50) W := hc0
      have hsl : ∀ W, (Instr.slice 9 (.string S) (some (.int .i64 3)) none none).run Tryz.prog W = .ok (.string ⟨D.toArray⟩) W := hsl
      have hI1 : Hid (∀ W, Calls Tryz.prog 195 #[.string ⟨D.toArray⟩, .int .u8 175] W fun e w' => e = .returned (.int .i64 9) ∧ w' = W) := Lib.hid (fun W => hI1.out W)
      have hRs : R.size = 3 := hRs
      have hz1 : ((194 : Int) != ((ζ : Nat) : Int)) = true := by rw [bne_iff_ne]; omega
      go_enter Tryz.func178, Tryz.ntmps178
      go_wp2_with fail
      refine (hV.out _).mono ?_
      rintro e w2 ⟨rfl, rfl⟩
      simp only [hvr]
      clear hV
      have hcv : ∀ W, (convert 21 9 (.int .i32 (c : Int))).run Tryz.prog W = .ok (.string R) W := fun W => by rw [run_convert_int_string W 21 9 .i32 (c : Int) (by kernel_rfl) (by kernel_rfl), henc]
      clear henc
      go_wp2
      go_step3
      go_wp2_with fail
      clear hcv hvr hc65 b1 b2 hcl hci h1 h2 h3 hc m1 m3 hd1
      go_loopg [9, 10] 2 (fun g s9 s10 wr => ((s9 = .int .i64 2 ∧ s10 = .int .i64 0 ∧ g = 2) ∨ (s9 = .int .i64 13 ∧ s10 = .int .i64 1 ∧ g = 1)) ∧ Grow w2 wr)
      case atStart => exact ⟨.inl ⟨rfl, rfl, rfl⟩, Grow.refl _⟩
      case round =>
        obtain ⟨hrel, hgr⟩ := hrel
        have HG := Lib.hid hgr
        clear hgr
        rcases hrel with ⟨rfl, rfl, rfl⟩ | ⟨rfl, rfl, rfl⟩
        · go_wp2
          refine wp_scope_jumps 0 (JP S R c 2 3 w2) (fun _ _ => 0) rfl ?_ ?_
          rotate_left
          · rintro a' w' ⟨hg, u, rfl⟩
            have hG5 := Lib.hid hg
            clear hg
            unfold FR
            go_wp2
            simp only [Exit.jump, Exit.then, Exit.inBlock]
            go_wp2
            go_roundg 1
            case rel => exact ⟨.inr ⟨rfl, rfl, rfl⟩, hG5.out⟩
            case measure => omega
          go_wp2
          go_quiet (fail)
          go_wp2
          have hG2 := Lib.hid (Grow.drewN HG.out nq)
          generalize wr.drewN nq = wr2 at hG2
          clear hc0
          go_quiet (refine Calls.quiet_of_same (hI1.out _))
          go_wp2
          have hG3 := Lib.hid (Grow.drewN hG2.out nq)
          generalize wr2.drewN nq = wr3 at hG3
          clear hsl hI1 hi0
          go_loopg [12] 1 (fun g s12 wx => s12 = .int .i64 1 ∧ Grow w2 wx)
          case atStart => exact ⟨rfl, hG3.out⟩
          case round =>
            obtain ⟨rfl, hgr⟩ := hrel
            have hG4 := Lib.hid hgr
            clear hgr
            go_wp2
            go_quiet (fail)
            go_wp2
            go_step3
            simp only [Exit.inBlock, Exit.then, Exit.jump]
            exact ⟨trivial, jp_of (Grow.drewN hG4.out _) rfl⟩
        · go_wp2
          go_step3
          go_wp2
          go_quiet (fail)
          go_wp2
          have hG2 := Lib.hid (Grow.drewN HG.out nq)
          generalize wr.drewN nq = wr2 at hG2
          go_quiet (refine Calls.quiet_of_same (hI3.out _))
          go_wp2
          simp only [Exit.noGoto_ret, Exit.then, Exit.inBlock]
          go_ret
          exact ⟨rfl, Grow.drewN hG2.out _⟩
    · have hi0 : ∀ W, (Instr.index 9 (.string R) (.int .i64 3)).run Tryz.prog W = .ok (.int .u8 175) W := hi0
      have hi1 : ∀ W, (Instr.index 9 (.string R) (.int .i64 2)).run Tryz.prog W = .ok (.int .u8 ((ζ : Nat) : Int)) W := hi1
      have hc0 : ∀ W, (Instr.index 9 (.string S) (.int .i64 3)).run Tryz.prog W = .ok (.int .u8 51) W := hc0
      have hsl : ∀ W, (Instr.slice 9 (.string S) (some (.int .i64 4)) none none).run Tryz.prog W = .ok (.string ⟨D.toArray⟩) W := hsl
      have hI1 : Hid (∀ W, Calls Tryz.prog 195 #[.string ⟨D.toArray⟩, .int .u8 175] W fun e w' => e = .returned (.int .i64 8) ∧ w' = W) := Lib.hid (fun W => hI1.out W)
      have hRs : R.size = 4 := hRs
      have hz1 : ((194 : Int) != ((ζ : Nat) : Int)) = true := by rw [bne_iff_ne]; omega
      go_enter Tryz.func178, Tryz.ntmps178
      go_wp2_with fail
      refine (hV.out _).mono ?_
      rintro e w2 ⟨rfl, rfl⟩
      simp only [hvr]
      clear hV
      have hcv : ∀ W, (convert 21 9 (.int .i32 (c : Int))).run Tryz.prog W = .ok (.string R) W := fun W => by rw [run_convert_int_string W 21 9 .i32 (c : Int) (by kernel_rfl) (by kernel_rfl), henc]
      clear henc
      go_wp2
      go_step3
      go_wp2_with fail
      clear hcv hvr hc65 b1 b2 hcl hci h1 h2 h3 hc m1 m3 hd1
      go_loopg [9, 10] 2 (fun g s9 s10 wr => ((s9 = .int .i64 3 ∧ s10 = .int .i64 0 ∧ g = 2) ∨ (s9 = .int .i64 13 ∧ s10 = .int .i64 1 ∧ g = 1)) ∧ Grow w2 wr)
      case atStart => exact ⟨.inl ⟨rfl, rfl, rfl⟩, Grow.refl _⟩
      case round =>
        obtain ⟨hrel, hgr⟩ := hrel
        have HG := Lib.hid hgr
        clear hgr
        rcases hrel with ⟨rfl, rfl, rfl⟩ | ⟨rfl, rfl, rfl⟩
        · go_wp2
          refine wp_scope_jumps 0 (JP S R c 3 4 w2) (fun _ _ => 0) rfl ?_ ?_
          rotate_left
          · rintro a' w' ⟨hg, u, rfl⟩
            have hG5 := Lib.hid hg
            clear hg
            unfold FR
            go_wp2
            simp only [Exit.jump, Exit.then, Exit.inBlock]
            go_wp2
            go_roundg 1
            case rel => exact ⟨.inr ⟨rfl, rfl, rfl⟩, hG5.out⟩
            case measure => omega
          go_wp2
          go_quiet (fail)
          go_wp2
          have hG2 := Lib.hid (Grow.drewN HG.out nq)
          generalize wr.drewN nq = wr2 at hG2
          clear hc0
          go_quiet (refine Calls.quiet_of_same (hI1.out _))
          go_wp2
          have hG3 := Lib.hid (Grow.drewN hG2.out nq)
          generalize wr2.drewN nq = wr3 at hG3
          clear hsl hI1 hi0
          go_loopg [12] 1 (fun g s12 wx => s12 = .int .i64 1 ∧ Grow w2 wx)
          case atStart => exact ⟨rfl, hG3.out⟩
          case round =>
            obtain ⟨rfl, hgr⟩ := hrel
            have hG4 := Lib.hid hgr
            clear hgr
            go_wp2
            go_quiet (fail)
            go_wp2
            go_step3
            simp only [Exit.inBlock, Exit.then, Exit.jump]
            exact ⟨trivial, jp_of (Grow.drewN hG4.out _) rfl⟩
        · go_wp2
          go_step3
          go_wp2
          go_quiet (fail)
          go_wp2
          have hG2 := Lib.hid (Grow.drewN HG.out nq)
          generalize wr.drewN nq = wr2 at hG2
          go_quiet (refine Calls.quiet_of_same (hI3.out _))
          go_wp2
          simp only [Exit.noGoto_ret, Exit.then, Exit.inBlock]
          go_ret
          exact ⟨rfl, Grow.drewN hG2.out _⟩
  · rw [if_neg hb175] at hI1
    clear hb175 hi1 hn hS1
    rcases hm with rfl | rfl | rfl
    · have hi0 : ∀ W, (Instr.index 9 (.string R) (.int .i64 1)).run Tryz.prog W = .ok (.int .u8 ((β : Nat) : Int)) W := hi0
      have hc0 : ∀ W, (Instr.index 9 (.string S) (.int .i64 1)).run Tryz.prog W = .ok (.int .u8 49) W := hc0
      have hsl : ∀ W, (Instr.slice 9 (.string S) (some (.int .i64 2)) none none).run Tryz.prog W = .ok (.string ⟨D.toArray⟩) W := hsl
      have hd1 : ((49 : Int) == ((β : Nat) : Int)) = false := hd1
      have hRs : R.size = 2 := hRs
      have hd1n : ((49 : Int) != ((β : Nat) : Int)) = true := by rw [bne_iff_ne]; omega
      go_enter Tryz.func178, Tryz.ntmps178
      go_wp2_with fail
      refine (hV.out _).mono ?_
      rintro e w2 ⟨rfl, rfl⟩
      simp only [hvr]
      clear hV
      have hcv : ∀ W, (convert 21 9 (.int .i32 (c : Int))).run Tryz.prog W = .ok (.string R) W := fun W => by rw [run_convert_int_string W 21 9 .i32 (c : Int) (by kernel_rfl) (by kernel_rfl), henc]
      clear henc
      go_wp2
      go_step3
      go_wp2_with fail
      go_loopg [9, 10] 1 (fun g s9 s10 wr => s9 = .int .i64 1 ∧ s10 = .int .i64 0 ∧ Grow w2 wr)
      case atStart => exact ⟨rfl, rfl, Grow.refl _⟩
      case round =>
        obtain ⟨rfl, rfl, hgr⟩ := hrel
        have HG := Lib.hid hgr
        clear hgr
        go_wp2
        go_step3
        go_wp2
        go_quiet (fail)
        clear hc0 hcv hvr hc65 hd1 hd1n b1 b2 hβ hcl hci h1 h2 h3 hc m1 m3
        go_wp2
        have hG2 := Lib.hid (Grow.drewN HG.out nq)
        generalize wr.drewN nq = wr2 at hG2
        go_quiet (refine Calls.quiet_of_same (hI1.out _))
        go_wp2
        simp only [Exit.noGoto_ret, Exit.then, Exit.inBlock]
        go_ret
        exact ⟨rfl, Grow.drewN hG2.out _⟩
    · have hi0 : ∀ W, (Instr.index 9 (.string R) (.int .i64 2)).run Tryz.prog W = .ok (.int .u8 ((β : Nat) : Int)) W := hi0
      have hc0 : ∀ W, (Instr.index 9 (.string S) (.int .i64 2)).run Tryz.prog W = .ok (.int .u8 50) W := hc0
      have hsl : ∀ W, (Instr.slice 9 (.string S) (some (.int .i64 3)) none none).run Tryz.prog W = .ok (.string ⟨D.toArray⟩) W := hsl
      have hd1 : ((50 : Int) == ((β : Nat) : Int)) = false := hd1
      have hRs : R.size = 3 := hRs
      have hd1n : ((50 : Int) != ((β : Nat) : Int)) = true := by rw [bne_iff_ne]; omega
      go_enter Tryz.func178, Tryz.ntmps178
      go_wp2_with fail
      refine (hV.out _).mono ?_
      rintro e w2 ⟨rfl, rfl⟩
      simp only [hvr]
      clear hV
      have hcv : ∀ W, (convert 21 9 (.int .i32 (c : Int))).run Tryz.prog W = .ok (.string R) W := fun W => by rw [run_convert_int_string W 21 9 .i32 (c : Int) (by kernel_rfl) (by kernel_rfl), henc]
      clear henc
      go_wp2
      go_step3
      go_wp2_with fail
      go_loopg [9, 10] 1 (fun g s9 s10 wr => s9 = .int .i64 2 ∧ s10 = .int .i64 0 ∧ Grow w2 wr)
      case atStart => exact ⟨rfl, rfl, Grow.refl _⟩
      case round =>
        obtain ⟨rfl, rfl, hgr⟩ := hrel
        have HG := Lib.hid hgr
        clear hgr
        go_wp2
        go_step3
        go_wp2
        go_quiet (fail)
        clear hc0 hcv hvr hc65 hd1 hd1n b1 b2 hβ hcl hci h1 h2 h3 hc m1 m3
        go_wp2
        have hG2 := Lib.hid (Grow.drewN HG.out nq)
        generalize wr.drewN nq = wr2 at hG2
        go_quiet (refine Calls.quiet_of_same (hI1.out _))
        go_wp2
        simp only [Exit.noGoto_ret, Exit.then, Exit.inBlock]
        go_ret
        exact ⟨rfl, Grow.drewN hG2.out _⟩
    · have hi0 : ∀ W, (Instr.index 9 (.string R) (.int .i64 3)).run Tryz.prog W = .ok (.int .u8 ((β : Nat) : Int)) W := hi0
      have hc0 : ∀ W, (Instr.index 9 (.string S) (.int .i64 3)).run Tryz.prog W = .ok (.int .u8 51) W := hc0
      have hsl : ∀ W, (Instr.slice 9 (.string S) (some (.int .i64 4)) none none).run Tryz.prog W = .ok (.string ⟨D.toArray⟩) W := hsl
      have hd1 : ((51 : Int) == ((β : Nat) : Int)) = false := hd1
      have hRs : R.size = 4 := hRs
      have hd1n : ((51 : Int) != ((β : Nat) : Int)) = true := by rw [bne_iff_ne]; omega
      go_enter Tryz.func178, Tryz.ntmps178
      go_wp2_with fail
      refine (hV.out _).mono ?_
      rintro e w2 ⟨rfl, rfl⟩
      simp only [hvr]
      clear hV
      have hcv : ∀ W, (convert 21 9 (.int .i32 (c : Int))).run Tryz.prog W = .ok (.string R) W := fun W => by rw [run_convert_int_string W 21 9 .i32 (c : Int) (by kernel_rfl) (by kernel_rfl), henc]
      clear henc
      go_wp2
      go_step3
      go_wp2_with fail
      go_loopg [9, 10] 1 (fun g s9 s10 wr => s9 = .int .i64 3 ∧ s10 = .int .i64 0 ∧ Grow w2 wr)
      case atStart => exact ⟨rfl, rfl, Grow.refl _⟩
      case round =>
        obtain ⟨rfl, rfl, hgr⟩ := hrel
        have HG := Lib.hid hgr
        clear hgr
        go_wp2
        go_step3
        go_wp2
        go_quiet (fail)
        clear hc0 hcv hvr hc65 hd1 hd1n b1 b2 hβ hcl hci h1 h2 h3 hc m1 m3
        go_wp2
        have hG2 := Lib.hid (Grow.drewN HG.out nq)
        generalize wr.drewN nq = wr2 at hG2
        go_quiet (refine Calls.quiet_of_same (hI1.out _))
        go_wp2
        simp only [Exit.noGoto_ret, Exit.then, Exit.inBlock]
        go_ret
        exact ⟨rfl, Grow.drewN hG2.out _⟩
end Go.Proofs.YteoogioanjkacaaGreatDoor.Quo
namespace Go.Proofs.YteoogioanjkacaaGreatDoor.Quo
set_option maxRecDepth 200000
open Go.RowKit Go.Lib
set_option linter.unusedVariables false
set_option linter.unusedSimpArgs false
set_option maxHeartbeats 4000000 in
theorem index_minus (w : World) : Calls Tryz.prog 178 #[.string ⟨CUT.toArray⟩, .int .i32 175] w fun e w' => e = .returned (.int .i64 11) ∧ Grow w w' := by
  have henc : Utf8.encode 175 = ⟨#[194, 175]⟩ := by rw [show (175 : Int) = ((175 : Nat) : Int) from rfl, enc_bytes (by decide)]; rfl
  have hV := Lib.hid (fun W => Tryz.utf8_ValidRune 175 W)
  have hvr : Lib.validRune 175 = true := by decide
  obtain ⟨R, hR⟩ : ∃ R, (⟨#[194, 175]⟩ : ByteArray) = R := ⟨_, rfl⟩
  have hRs : R.size = 2 := by rw [← hR]; rfl
  obtain ⟨S, hS⟩ : ∃ S, (⟨CUT.toArray⟩ : ByteArray) = S := ⟨_, rfl⟩
  have hSs : S.size = 14 := by rw [← hS]; rfl
  have hi0 : ∀ W, (Instr.index 9 (.string R) (.int .i64 1)).run Tryz.prog W = .ok (.int .u8 175) W := by subst hR; exact index_str (l := [194, 175]) (i := 1) rfl
  have hi1 : ∀ W, (Instr.index 9 (.string R) (.int .i64 0)).run Tryz.prog W = .ok (.int .u8 194) W := by subst hR; exact index_str (l := [194, 175]) (i := 0) rfl
  have hc0 : ∀ W, (Instr.index 9 (.string S) (.int .i64 1)).run Tryz.prog W = .ok (.int .u8 49) W := by subst hS; exact index_str (l := CUT) (i := 1) rfl
  have h11 : ∀ W, (Instr.index 9 (.string S) (.int .i64 11)).run Tryz.prog W = .ok (.int .u8 194) W := by subst hS; exact index_str (l := CUT) (i := 11) rfl
  have hsl : ∀ W, (Instr.slice 9 (.string S) (some (.int .i64 2)) none none).run Tryz.prog W = .ok (.string ⟨(CUT.drop 2).toArray⟩) W := by subst hS; exact slice_from CUT 2 (by decide)
  have hI0 := Lib.hid (fun W => Tryz.strings_IndexByte ⟨(CUT.drop 2).toArray⟩ 175 W)
  have hI1 : Hid (∀ W, Calls Tryz.prog 195 #[.string ⟨(CUT.drop 2).toArray⟩, .int .u8 175] W fun e w' => e = .returned (.int .i64 10) ∧ w' = W) := Lib.hid (fun W => hI0.out W)
  generalize CUT.drop 2 = D at *
  rw [hR] at henc
  rw [hS]
  clear hR hS hI0
  go_enter Tryz.func178, Tryz.ntmps178
  go_wp2_with fail
  refine (hV.out _).mono ?_
  rintro e w2 ⟨rfl, rfl⟩
  simp only [hvr]
  clear hV
  have hcv : ∀ W, (convert 21 9 (.int .i32 175)).run Tryz.prog W = .ok (.string R) W := fun W => by rw [run_convert_int_string W 21 9 .i32 175 (by kernel_rfl) (by kernel_rfl), henc]
  clear henc
  go_wp2
  go_step3
  go_wp2_with fail
  clear hcv hvr
  go_loopg [9, 10] 2 (fun g s9 s10 wr => s9 = .int .i64 1 ∧ s10 = .int .i64 0 ∧ Grow w2 wr)
  case atStart => exact ⟨rfl, rfl, Grow.refl _⟩
  case round =>
    obtain ⟨rfl, rfl, hgr⟩ := hrel
    have HG := Lib.hid hgr
    clear hgr
    go_wp2
    go_step3
    go_wp2
    go_quiet (fail)
    go_wp2
    have hG2 := Lib.hid (Grow.drewN HG.out nq)
    generalize wr.drewN nq = wr2 at hG2
    clear hc0
    go_quiet (refine Calls.quiet_of_same (hI1.out _))
    go_wp2
    have hG3 := Lib.hid (Grow.drewN hG2.out nq)
    generalize wr2.drewN nq = wr3 at hG3
    clear hsl hI1 hi0
    go_loopg [12] 2 (fun g s12 wx => ((s12 = .int .i64 1 ∧ g = 2) ∨ (s12 = .int .i64 2 ∧ g = 1)) ∧ Grow w2 wx)
    case atStart => exact ⟨.inl ⟨rfl, rfl⟩, hG3.out⟩
    case round =>
      obtain ⟨hrel, hgr⟩ := hrel
      have hG4 := Lib.hid hgr
      clear hgr
      rcases hrel with ⟨rfl, rfl⟩ | ⟨rfl, rfl⟩
      · go_wp2
        go_quiet (fail)
        go_wp2
        go_roundg 1
        case rel => exact ⟨.inr ⟨rfl, rfl⟩, Grow.drewN hG4.out _⟩
        case measure => omega
      · go_wp2
        simp only [Exit.noGoto_ret, Exit.then, Exit.inBlock]
        go_ret
        exact ⟨rfl, hG4.out⟩
end Go.Proofs.YteoogioanjkacaaGreatDoor.Quo
namespace Go.Proofs.YteoogioanjkacaaGreatDoor.Quo
set_option maxRecDepth 20000
open Go.RowKit Go.Lib
set_option linter.unusedVariables false
set_option linter.unusedSimpArgs false
set_option maxRecDepth 100000 in
theorem cut_ascii : ∀ c, c < 128 → decide (0 ≤ indexByte CUT c.toUInt8) = numC c := by decide
theorem contains_any (c : Nat) (hc : isSign c = true) (w : World) : Calls Tryz.prog 156 #[.string ⟨CUT.toArray⟩, .int .i32 c] w fun e w' => e = .returned (.bool (numC c)) ∧ Grow w w' := by
  by_cases h1 : c < 128
  · refine (Tryz.strings_ContainsRune_ascii ⟨CUT.toArray⟩ (c : Int) w (by omega) (by omega)).mono ?_
    rintro e w' ⟨rfl, rfl⟩
    refine ⟨?_, Grow.refl _⟩
    rw [← cut_ascii c h1]
    rfl
  · by_cases h2 : c = 175
    · subst h2
      have HC := Lib.hid (fun W => index_minus W)
      have hn : numC 175 = true := by decide
      rw [hn]
      generalize CUT = C at *
      go_enter Tryz.func156, Tryz.ntmps156
      go_wp2_with fail
      refine (HC.out _).mono ?_
      rintro e w1 ⟨rfl, hg⟩
      go_wp2
      go_ret
      exact ⟨rfl, hg⟩
    · have hn : numC c = false := by unfold numC; simp; omega
      rw [hn]
      have HC : Hid (∀ W, Calls Tryz.prog 178 #[.string ⟨CUT.toArray⟩, .int .i32 c] W fun e w' => e = .returned (.int .i64 (-1)) ∧ Grow W w') := Lib.hid (fun W => by
        by_cases h3 : c = 65533
        · subst h3
          exact index_bad W
        · exact index_far c hc (by omega) h3 h2 W)
      generalize CUT = C at *
      go_enter Tryz.func156, Tryz.ntmps156
      go_wp2_with fail
      refine (HC.out _).mono ?_
      rintro e w1 ⟨rfl, hg⟩
      go_wp2
      go_ret
      exact ⟨rfl, hg⟩
theorem nsB_numC {b : UInt8} (h : b.toNat < 128) : nsB b = numC b.toNat := by
  have : ∀ n, n < 128 → nsB (UInt8.ofNat n) = numC n := by decide
  have h2 := this _ h
  rwa [u8_eq rfl] at h2
/-- one sign of numbers more -/
theorem numS_next {l : List UInt8} (h : l ≠ []) : 1 ≤ (runeD l).2 ∧ (numC (runeD l).1 = true → (runeD l).2 ≤ l.length ∧ numS l = (runeD l).2 + numS (l.drop (runeD l).2)) ∧ (numC (runeD l).1 = false → numS l = 0) ∧ isSign (runeD l).1 = true := by
  cases l with
  | nil => exact absurd rfl h
  | cons b r =>
    have hb := u8_lt b
    by_cases h1 : b.toNat < 128
    · have e : runeD (b :: r) = (b.toNat, 1) := runeD_of (next_one h1) (by omega)
      rw [e]
      refine ⟨Nat.le_refl _, fun hn => ⟨by simp, ?_⟩, fun hn => ?_, by rw [isSign_iff]; simp only; omega⟩
      · rw [numS_ns (by rw [nsB_numC h1]; exact hn)]
        simp only [List.drop_succ_cons, List.drop_zero]; omega
      · exact numS_not (by rw [nsB_numC h1]; exact hn) (by rintro rfl; simp at h1) r
    · have hns : nsB b = false := by
        unfold nsB Num.isPc
        have : ¬ b = 69 := by rintro rfl; simp at h1
        have : ¬ b = 32 := by rintro rfl; simp at h1
        simp [*]
        omega
      by_cases hz : (nextD (b :: r)).2 = 0
      · have e : runeD (b :: r) = (65533, 1) := by unfold runeD; rw [if_pos hz]
        rw [e]
        refine ⟨Nat.le_refl _, fun hn => by simp [numC] at hn, fun _ => ?_, by decide⟩
        by_cases h194 : b = 194
        · subst h194
          cases r with
          | nil => exact numS_last
          | cons d t =>
            by_cases hd : d = 175
            · subst hd
              exact absurd hz (by rw [next_two (c := 175) (by decide) (by decide) (by decide) (by decide) (by decide)]; simp)
            · exact numS_half hd t
        · exact numS_not hns h194 r
      · have e : runeD (b :: r) = nextD (b :: r) := by unfold runeD; rw [if_neg hz]
        obtain ⟨k1, k2, k3⟩ := next_inv hz
        rw [e]
        have hbp := bytes_pos k1
        refine ⟨by omega, fun hn => ?_, fun hn => ?_, k1⟩
        · have hc : (nextD (b :: r)).1 = 175 := by
            generalize (nextD (b :: r)).1 = c at *
            have hcl : ¬ c < 128 := by
              intro hc
              have : bytesD c = [UInt8.ofNat c] := by unfold bytesD; rw [if_pos k1, if_pos hc]
              rw [this] at k2
              have h0 := List.cons.inj k2
              have := congrArg UInt8.toNat h0.1
              rw [u8_nat (by omega)] at this
              omega
            unfold numC at hn
            simp at hn
            omega
          have hb2 : bytesD 175 = [194, 175] := by decide
          rw [hc, hb2] at k2 k3
          rw [k3]
          have hl : b :: r = 194 :: 175 :: (b :: r).drop 2 := by rw [k3] at k2; exact k2.symm
          refine ⟨by rw [hl]; simp, ?_⟩
          rw [hl]
          show numS (194 :: 175 :: (b :: r).drop 2) = 2 + numS ((b :: r).drop 2)
          rw [numS_sign]
          omega
        · by_cases h194 : b = 194
          · subst h194
            cases r with
            | nil => exact numS_last
            | cons d t =>
              by_cases hd : d = 175
              · subst hd
                rw [next_two (c := 175) (by decide) (by decide) (by decide) (by decide) (by decide)] at hn
                exact absurd hn (by decide)
              · exact numS_half hd t
          · exact numS_not hns h194 r
end Go.Proofs.YteoogioanjkacaaGreatDoor.Quo
namespace Go.Proofs
open Go.Shelf
def Tryz.lays161_ren : Go.Shelf.Ren := ⟨fun | 161 => 95 | 231 => 127 | 227 => 128 | 233 => 129 | 235 => 130 | 228 => 155 | 197 => 151 | 151 => 156 | 260 => 173 | 152 => 178 | 137 => 195 | 119 => 80 | 224 => 176 | 225 => 175 | 217 => 174 | 266 => 193 | n => n, fun | 9 => 9 | 4 => 4 | 3 => 3 | 5 => 5 | 117 => 141 | 116 => 140 | 0 => 0 | 124 => 144 | 105 => 134 | 21 => 21 | 119 => 187 | 46 => 124 | 139 => 190 | 138 => 189 | n => n, fun | 3 => 2 | 4 => 3 | n => n⟩
theorem Tryz.lays161 : Go.Proofs.Lays.n161 Tryz.prog Tryz.lays161_ren := {
  mixed := by kernel_rfl
  f119 := Tryz.func80.trans (congrArg some (by kernel_rfl))
  f137 := Tryz.func195.trans (congrArg some (by kernel_rfl))
  f151 := Tryz.func156.trans (congrArg some (by kernel_rfl))
  f152 := Tryz.func178.trans (congrArg some (by kernel_rfl))
  f161 := Tryz.func95.trans (congrArg some (by kernel_rfl))
  f197 := Tryz.func151.trans (congrArg some (by kernel_rfl))
  f217 := Tryz.func174.trans (congrArg some (by kernel_rfl))
  f224 := Tryz.func176.trans (congrArg some (by kernel_rfl))
  f225 := Tryz.func175.trans (congrArg some (by kernel_rfl))
  f227 := Tryz.func128.trans (congrArg some (by kernel_rfl))
  f228 := Tryz.func155.trans (congrArg some (by kernel_rfl))
  f231 := Tryz.func127.trans (congrArg some (by kernel_rfl))
  f233 := Tryz.func129.trans (congrArg some (by kernel_rfl))
  f235 := Tryz.func130.trans (congrArg some (by kernel_rfl))
  f260 := Tryz.func173.trans (congrArg some (by kernel_rfl))
  f266 := Tryz.func193.trans (congrArg some (by kernel_rfl))
  t0 := Tryz.underlying0
  a0 := Tryz.isAgg0
  z0 := Tryz.sizeOf0
  v0 := Tryz.zeroValue0
  t3 := Tryz.underlying3
  a3 := Tryz.isAgg3
  z3 := Tryz.sizeOf3
  v3 := Tryz.zeroValue3
  t4 := Tryz.underlying4
  a4 := Tryz.isAgg4
  z4 := Tryz.sizeOf4
  v4 := Tryz.zeroValue4
  t5 := Tryz.underlying5
  a5 := Tryz.isAgg5
  z5 := Tryz.sizeOf5
  v5 := Tryz.zeroValue5
  t9 := Tryz.underlying9
  a9 := Tryz.isAgg9
  z9 := Tryz.sizeOf9
  v9 := Tryz.zeroValue9
  t21 := Tryz.underlying21
  a21 := Tryz.isAgg21
  z21 := Tryz.sizeOf21
  v21 := Tryz.zeroValue21
  t46 := Tryz.underlying124
  a46 := Tryz.isAgg124
  z46 := Tryz.sizeOf124
  v46 := Tryz.zeroValue124
  t105 := Tryz.underlying134
  a105 := Tryz.isAgg134
  z105 := Tryz.sizeOf134
  v105 := Tryz.zeroValue134
  t116 := Tryz.underlying140
  a116 := Tryz.isAgg140
  z116 := Tryz.sizeOf140
  t117 := Tryz.underlying141
  a117 := Tryz.isAgg141
  z117 := Tryz.sizeOf141
  v117 := Tryz.zeroValue141
  t119 := Tryz.underlying187
  a119 := Tryz.isAgg187
  z119 := Tryz.sizeOf187
  t124 := Tryz.underlying144
  a124 := Tryz.isAgg144
  z124 := Tryz.sizeOf144
  v124 := Tryz.zeroValue144
  t138 := Tryz.underlying189
  a138 := Tryz.isAgg189
  z138 := Tryz.sizeOf189
  v138 := Tryz.zeroValue189
  t139 := Tryz.underlying190
  a139 := Tryz.isAgg190
  z139 := Tryz.sizeOf190
  v139 := Tryz.zeroValue190
  g3 := by kernel_rfl
  g4 := by kernel_rfl }
end Go.Proofs
namespace Go.Proofs.YteoogioanjkacaaGreatDoor.Quo
set_option maxRecDepth 20000
open Go.RowKit Go.Lib
set_option linter.unusedVariables false
set_option linter.unusedSimpArgs false
set_option maxHeartbeats 3200000 in
theorem trimU_any (l : List UInt8) (w : World) (hL : Laid w) : Calls Tryz.prog 130 #[.string ⟨l.toArray⟩, .string ⟨CUT.toArray⟩] w fun e w' => e = .returned (.string ⟨(l.drop (numS l)).toArray⟩) ∧ Grow w w' := by
  have HL := Lib.hid hL
  have HC := Lib.hid (fun c hc W => contains_any c hc W)
  have HN := Lib.hid (fun (r : List UInt8) h => numS_next (l := r) h)
  clear hL
  generalize CUT = C at *
  go_enter Tryz.func130, Tryz.ntmps130
  go_wp2
  go_loopg [0] l.length (fun gk s0 wr => ∃ r : List UInt8, s0 = .string ⟨r.toArray⟩ ∧ r.length = gk ∧ Hid (l.drop (numS l) = r.drop (numS r)) ∧ Hid (Grow w wr))
  case atStart => exact ⟨l, rfl, rfl, Lib.hid rfl, Lib.hid (Grow.refl _)⟩
  case round =>
    obtain ⟨r, rfl, rfl, HR, HG⟩ := hrel
    have hsz : (⟨r.toArray⟩ : ByteArray).size = r.length := str_size r
    by_cases h0 : r = []
    · subst h0
      go_wp2
      go_ret
      exact ⟨by rw [HR.out]; rfl, HG.out⟩
    · have hpos : 0 < r.length := List.length_pos_iff.2 h0
      obtain ⟨n1, n2, n3, n4⟩ := HN.out r h0
      have HD := Lib.hid (fun W hT => Tryz.utf8_DecodeRuneInString ⟨r.toArray⟩ W hT)
      have hd : decodeGo ⟨r.toArray⟩ = runeD r := by rw [decode_list, if_neg h0]
      rw [hd] at HD
      obtain ⟨c, hc⟩ : ∃ c, (runeD r).1 = c := ⟨_, rfl⟩
      obtain ⟨n, hn⟩ : ∃ n, (runeD r).2 = n := ⟨_, rfl⟩
      rw [hc, hn] at HD n2
      rw [hc] at n3 n4
      rw [hn] at n1
      have HS := Lib.hid n4
      clear hd hc hn n4
      obtain ⟨S, hS⟩ : ∃ S, (⟨r.toArray⟩ : ByteArray) = S := ⟨_, rfl⟩
      cases hb : numC c with
      | true =>
        obtain ⟨k1, k2⟩ := n2 hb
        have hsl := slice_from r n k1
        have HR2 : Hid (l.drop (numS l) = (r.drop n).drop (numS (r.drop n))) := Lib.hid (by rw [HR.out, k2, List.drop_drop])
        have hdl : (r.drop n).length = r.length - n := List.length_drop
        have HC2 := Lib.hid (HC.out c HS.out)
        rw [hb] at HC2
        rw [hS] at HD hsl hsz ⊢
        clear HR hS n2 n3 k2 hb HS h0
        go_wp2_with fail
        refine (HD.out _ (HL.out.grow HG.out)).mono ?_
        rintro e w1 ⟨rfl, hg1⟩
        have HG1 := Lib.hid (HG.out.trans hg1)
        clear hg1 HD
        go_wp2_with fail
        refine (HC2.out _).mono ?_
        rintro e w3 ⟨rfl, hg3⟩
        have HG3 := Lib.hid (HG1.out.trans hg3)
        clear hg3 HC2
        go_wp2
        go_roundg (r.length - n)
        case rel => exact ⟨r.drop n, rfl, hdl, HR2, HG3⟩
        case measure => omega
      | false =>
        have hz := n3 hb
        have HR2 : Hid (l.drop (numS l) = r) := Lib.hid (by rw [HR.out, hz, List.drop_zero])
        have HC2 := Lib.hid (HC.out c HS.out)
        rw [hb] at HC2
        have HSS := Lib.hid hS
        rw [hS] at HD hsz ⊢
        clear HR hS n2 n3 hb HS h0 hz
        go_wp2_with fail
        refine (HD.out _ (HL.out.grow HG.out)).mono ?_
        rintro e w1 ⟨rfl, hg1⟩
        have HG1 := Lib.hid (HG.out.trans hg1)
        clear hg1 HD
        go_wp2_with fail
        refine (HC2.out _).mono ?_
        rintro e w3 ⟨rfl, hg3⟩
        have HG3 := Lib.hid (HG1.out.trans hg3)
        clear hg3 HC2
        go_wp2
        go_ret
        exact ⟨by rw [HR2.out, HSS.out]; rfl, HG3.out⟩

theorem h140 : (Tryz.prog.info? 140).map (fun i => (i.zero, i.size)) = some (some (.agg (Array.replicate 256 (.bool false))), 256) := by kernel_rfl
theorem trimleft_any (l : List UInt8) (w : World) (hL : Laid w) : Calls Tryz.prog 95 #[.string ⟨l.toArray⟩, .string ⟨CUT.toArray⟩] w fun e w' => e = .returned (.string ⟨(l.drop (numS l)).toArray⟩) ∧ Grow w w' := by
  by_cases h0 : l = []
  · subst h0
    have hz : (⟨([] : List UInt8).toArray⟩ : ByteArray) = .empty := rfl
    generalize CUT = C at *
    go_enter Tryz.func95, Tryz.ntmps95
    go_wp2
    go_ret
    exact ⟨rfl, Grow.refl _⟩
  · have hpos : 0 < l.length := List.length_pos_iff.2 h0
    exact left_not (P := Tryz.prog) (ρ := Tryz.lays161_ren) Tryz.lays161 (zero_of_info h140).1 (zero_of_info h140).2 ⟨l.toArray⟩ [48, 49, 50, 51, 52, 53, 54, 55, 56, 57, 69] [175, 32] 194 w ⟨(l.drop (numS l)).toArray⟩
      (by decide) (by decide) (by rw [str_size]; exact hpos) (by decide) (by decide) (fun W hg => trimU_any l W (hL.grow hg))
end Go.Proofs.YteoogioanjkacaaGreatDoor.Quo
namespace Go.Proofs.YteoogioanjkacaaGreatDoor
set_option maxRecDepth 20000
open Go.RowKit Go.Lib
set_option linter.unusedVariables false
set_option linter.unusedSimpArgs false
/-- a reader stands at the block g: its row, what is left -/
def AtR (g : Nat) (v : Value) (s : List UInt8) (w : World) : Prop := Boxed 52 w g v (.string ⟨s.toArray⟩)
/-- what a step of the reader that reads does: nothing turns but the reader -/
def Step (g : Nat) (v : Value) (s : List UInt8) (w w' : World) : Prop := AtR g v s w' ∧ Kept (fun k => k = g) w w'
theorem AtR.put {g : Nat} {v : Value} {s t : List UInt8} {w : World} (h : AtR g v s w) : Step g v t w (w.setCell ⟨g, 1, none⟩ (.string ⟨t.toArray⟩)) := ⟨Boxed.put1 h _, (Kept.refl _ _).one _⟩
theorem AtR.grow {g : Nat} {v : Value} {s : List UInt8} {w w' : World} (h : AtR g v s w) (hg : Grow w w') : AtR g v s w' := Boxed.grow h hg
theorem Step.grow {g : Nat} {v : Value} {s : List UInt8} {a b c : World} (h : Step g v s a b) (hg : Grow b c) : Step g v s a c := ⟨h.1.grow hg, h.2.trans (Kept.of_grow hg)⟩
theorem Step.after {g : Nat} {v : Value} {s : List UInt8} {a b c : World} (h : Step g v s b c) (hg : Kept (fun k => k = g) a b) : Step g v s a c := ⟨h.1, hg.trans h.2⟩

theorem pre_beg (l p : List UInt8) : hasPrefix l p = begB l p := rfl
theorem trim_beg (l p : List UInt8) : trimPrefix l p = if begB l p = true then l.drop p.length else l := rfl

set_option maxHeartbeats 1600000 in
theorem begins_any (g : Nat) (v : Value) (s p : List UInt8) (w : World) (h : AtR g v s w) : Calls Tryz.prog 49 #[.pointer (some ⟨g, 0, none⟩), .string ⟨p.toArray⟩] w fun e w' => e = .returned (.bool (begB s p)) ∧ w' = w := by
  have h1 := Boxed.snd h
  have HC := Lib.hid (Tryz.strings_HasPrefix ⟨s.toArray⟩ ⟨p.toArray⟩ w)
  rw [show (⟨s.toArray⟩ : ByteArray).data.toList = s from rfl, show (⟨p.toArray⟩ : ByteArray).data.toList = p from rfl, pre_beg] at HC
  clear h
  generalize (⟨s.toArray⟩ : ByteArray) = S at *
  generalize (⟨p.toArray⟩ : ByteArray) = R at *
  go_enter Tryz.func49, Tryz.ntmps49
  go_wp2_with fail
  refine (HC.out).mono ?_
  rintro e w ⟨rfl, rfl⟩
  go_wp2
  go_ret
  exact ⟨rfl, rfl⟩
def skipL (s p : List UInt8) : List UInt8 := if begB s p = true then s.drop p.length else s
set_option maxHeartbeats 1600000 in
theorem skip_any (g : Nat) (v : Value) (s p : List UInt8) (w : World) (h : AtR g v s w) : Calls Tryz.prog 47 #[.pointer (some ⟨g, 0, none⟩), .string ⟨p.toArray⟩] w fun e w' => e = .returned (.bool (begB s p)) ∧ Step g v (skipL s p) w w' := by
  have h1 := Boxed.snd h
  have HP := Lib.hid (AtR.put (t := skipL s p) h)
  have hfz := Boxed.froz h 1
  have HC := Lib.hid (Tryz.strings_CutPrefix ⟨s.toArray⟩ ⟨p.toArray⟩ w)
  rw [show (⟨s.toArray⟩ : ByteArray).data.toList = s from rfl, show (⟨p.toArray⟩ : ByteArray).data.toList = p from rfl, pre_beg, trim_beg] at HC
  change Hid (Calls _ _ _ _ fun e w' => e = .returned (.tuple #[.string ⟨(skipL s p).toArray⟩, _]) ∧ _) at HC
  clear h
  generalize (⟨(skipL s p).toArray⟩ : ByteArray) = L at *
  generalize (⟨s.toArray⟩ : ByteArray) = S at *
  generalize (⟨p.toArray⟩ : ByteArray) = R at *
  go_enter Tryz.func47, Tryz.ntmps47
  go_wp2_with fail
  refine (HC.out).mono ?_
  rintro e w ⟨rfl, rfl⟩
  go_wp2
  go_ret
  exact ⟨rfl, HP.out⟩

set_option maxHeartbeats 1600000 in
theorem cut_any' (g : Nat) (v : Value) (s : List UInt8) (n : Nat) (w : World) (h : AtR g v s w) (hn : n ≤ s.length) : Calls Tryz.prog 93 #[.pointer (some ⟨g, 0, none⟩), .int .i64 n] w fun e w' => e = .returned (.string ⟨(s.take n).toArray⟩) ∧ Step g v (s.drop n) w w' := by
  have h1 := Boxed.snd h
  have HP := Lib.hid (AtR.put (t := s.drop n) h)
  have hfz := Boxed.froz h 1
  have hs1 := Num.slice_to s n hn
  have hs2 := Num.slice_from s n hn
  clear h
  generalize (⟨(s.drop n).toArray⟩ : ByteArray) = L at *
  generalize (⟨(s.take n).toArray⟩ : ByteArray) = K at *
  generalize (⟨s.toArray⟩ : ByteArray) = S at *
  go_enter Tryz.func93, Tryz.ntmps93
  go_wp2
  go_ret
  exact ⟨rfl, HP.out⟩

/-- a row of the reader's own, behind the reader; what is left -/
def Rd (g z : Nat) (ns : List Nd) (s : List UInt8) (w : World) : Prop := ∃ v, AtR g v s w ∧ OwnRN (g + 1) v ns w ∧ g < z ∧ z ≤ w.heap.size ∧ ∀ b, v.ownBlock = some b → b < z
theorem OwnRN.kept {B g : Nat} {v : Value} {ns : List Nd} {w w' : World} (h : OwnRN B v ns w) (hg : g < B) (hk : Kept (fun k => k = g) w w') : OwnRN B v ns w' := by
  obtain ⟨hB, vals, ho, hn⟩ := h
  refine ⟨Nat.le_trans hB hk.size, vals, ?_, fun i hi => (hn i hi).keep (fun b hb => ⟨⟨hb.1, hb.2.1, Nat.lt_of_lt_of_le hb.2.2 hk.size⟩, hk.block b hb.2.2 (by omega)⟩) (fun _ _ _ => rfl)⟩
  refine ⟨ho.1, ?_⟩
  rcases ho.2 with h | ⟨q, cap, cur, e1, hb, hq, rest⟩
  · exact .inl h
  · exact .inr ⟨q, cap, cur, e1, hb, (hk.block q (heap_lt hq) (by omega)).trans hq, rest⟩
theorem Rd.step {g z : Nat} {v : Value} {ns : List Nd} {s t : List UInt8} {w w' : World} (ho : OwnRN (g + 1) v ns w) (hz : g < z) (hzw : z ≤ w.heap.size) (hv : ∀ b, v.ownBlock = some b → b < z) (hs : Step g v t w w') : Rd g z ns t w' :=
  ⟨v, hs.1, ho.kept (by omega) hs.2, hz, Nat.le_trans hzw hs.2.size, hv⟩
end Go.Proofs.YteoogioanjkacaaGreatDoor
namespace Go.Proofs.YteoogioanjkacaaGreatDoor
set_option maxRecDepth 20000
open Go.RowKit Go.Lib
set_option linter.unusedVariables false
set_option linter.unusedSimpArgs false
theorem idx_split (b : UInt8) : ∀ (l : List UInt8), (indexByte l b = -1 ∧ ∀ x ∈ l, x ≠ b) ∨ ∃ p r, l = p ++ b :: r ∧ (∀ x ∈ p, x ≠ b) ∧ indexByte l b = (p.length : Nat)
  | [] => .inl ⟨rfl, fun x hx => by cases hx⟩
  | x :: l => by
    have hd : indexByte (x :: l) b = if (x == b) = true then (0 : Int) else if (indexByte l b == -1) = true then -1 else indexByte l b + 1 := rfl
    by_cases hx : x = b
    · subst hx
      exact .inr ⟨[], l, rfl, (fun x hx => by cases hx), by rw [hd, if_pos (by simp)]; rfl⟩
    · have hx1 : ¬ (x == b) = true := by simpa using hx
      rcases idx_split b l with ⟨h1, h2⟩ | ⟨p, r, rfl, h2, h3⟩
      · refine .inl ⟨by rw [hd, if_neg hx1, h1]; rfl, fun y hy => ?_⟩
        rcases List.mem_cons.1 hy with rfl | hy
        · exact hx
        · exact h2 y hy
      · refine .inr ⟨x :: p, r, rfl, fun y hy => ?_, ?_⟩
        · rcases List.mem_cons.1 hy with rfl | hy
          · exact hx
          · exact h2 y hy
        · rw [hd, if_neg hx1, h3, if_neg (by simp), List.length_cons]
          try push_cast
          try rfl
theorem scan_pre : ∀ {p : List UInt8} {l : List UInt8}, (∀ x ∈ p, x ≠ 39) → (Quo.scanQ (p ++ l)).map (·.2) = (Quo.scanQ l).map (·.2)
  | [], l, _ => rfl
  | x :: p, l, h => by
    rw [List.cons_append, Quo.scan_other (h x (by simp)), Option.map_map]
    show (Quo.scanQ (p ++ l)).map (·.2) = _
    exact scan_pre fun y hy => h y (by simp [hy])
theorem scan_no : ∀ {p : List UInt8}, (∀ x ∈ p, x ≠ 39) → Quo.scanQ p = none := fun {p} h => by
  have := scan_pre (l := []) h
  rw [List.append_nil] at this
  have h0 : Quo.scanQ [] = none := by rw [Quo.scanQ.eq_def]
  rw [h0] at this
  cases hq : Quo.scanQ p with
  | none => rfl
  | some q => rw [hq] at this; cases this
/-- the quotes are read up to a place -/
def Quo1 (s : List UInt8) (k : Nat) : Prop := 1 ≤ k ∧ (Quo.scanQ (s.drop 1)).map (·.2) = (Quo.scanQ (s.drop k)).map (·.2)
theorem quo_none {s : List UInt8} {k : Nat} (h : Quo1 s k) (hk : ∀ x ∈ s.drop k, x ≠ 39) : quotN s = s.length := by
  have := h.2
  rw [scan_no hk] at this
  unfold quotN
  cases hq : Quo.scanQ (s.drop 1) with
  | none => rfl
  | some q => rw [hq] at this; cases this
theorem quo_split {s p r : List UInt8} {k : Nat} (h : Quo1 s k) (hk : k ≤ s.length) (hs : s.drop k = p ++ 39 :: r) (hp : ∀ x ∈ p, x ≠ 39) :
    s.drop (k + p.length + 1) = r ∧ k + p.length + 1 ≤ s.length ∧ (begB r [39] = false → quotN s = k + p.length + 1) ∧ (begB r [39] = true → Quo1 s (k + p.length + 1 + 1) ∧ k + p.length + 1 + 1 ≤ s.length) := by
  have e : s.drop (k + p.length + 1) = r := by
    have : (s.drop k).drop (p.length + 1) = r := by rw [hs]; simp
    rw [List.drop_drop] at this
    rw [← this]
    congr 1
  have hl : (s.drop k).length = p.length + (r.length + 1) := by rw [hs]; simp
  rw [List.length_drop] at hl
  have hq := h.2
  rw [hs, scan_pre hp] at hq
  refine ⟨e, by omega, fun hb => ?_, fun hb => ?_⟩
  · have hr : r.head? ≠ some 39 := by
      intro e1
      cases r with
      | nil => cases e1
      | cons x t => rw [List.head?_cons] at e1; cases e1; rw [beg_one.2 ⟨t, rfl⟩] at hb; cases hb
    rw [Quo.scan_end hr] at hq
    unfold quotN
    cases hq1 : Quo.scanQ (s.drop 1) with
    | none => rw [hq1] at hq; cases hq
    | some q =>
      rw [hq1] at hq
      simp only [Option.map_some, Option.some.injEq] at hq
      simp only [hq]
      omega
  · obtain ⟨t, rfl⟩ := beg_one.1 hb
    rw [Quo.scan_two, Option.map_map] at hq
    have e2 : s.drop (k + p.length + 1 + 1) = t := by rw [← List.drop_drop, e]; rfl
    refine ⟨⟨by omega, ?_⟩, by rw [List.length_cons] at hl; omega⟩
    rw [e2, hq]
    rfl

set_option maxHeartbeats 3200000 in
theorem quoted_any (s : List UInt8) (w : World) (h1 : 1 ≤ s.length) (hl : s.length ≤ 100000) : Calls Tryz.prog 94 #[.string ⟨s.toArray⟩] w fun e w' => e = .returned (.int .i64 (quotN s : Nat)) ∧ w' = w := by
  have HI := Lib.hid (fun (x : List UInt8) W => Tryz.strings_Index_one ⟨x.toArray⟩ 39 W)
  have HP := Lib.hid (fun (x : List UInt8) W => Tryz.strings_HasPrefix ⟨x.toArray⟩ ⟨#[39]⟩ W)
  have hsz : (⟨s.toArray⟩ : ByteArray).size = s.length := by simp [ByteArray.size]
  have HSL := Lib.hid (fun n hn W => Num.slice_from s n hn W)
  obtain ⟨S, hS⟩ : ∃ S, (⟨s.toArray⟩ : ByteArray) = S := ⟨_, rfl⟩
  rw [hS] at hsz HSL ⊢
  clear hS
  go_enter Tryz.func94, Tryz.ntmps94
  go_wp2
  go_loopg [3] (s.length - 1) (fun gk s3 wr => ∃ k : Nat, s3 = .int .i64 k ∧ 1 ≤ k ∧ k ≤ s.length ∧ gk = s.length - k ∧ Hid (Quo1 s k) ∧ wr = w)
  case atStart => exact ⟨1, rfl, Nat.le_refl _, h1, rfl, Lib.hid ⟨Nat.le_refl _, rfl⟩, rfl⟩
  case round =>
    obtain ⟨k, rfl, hk1, hk2, rfl, HQ, rfl⟩ := hrel
    have hsl := HSL.out k hk2
    have HI1 := Lib.hid (fun W => HI.out (s.drop k) W)
    rcases idx_split 39 (s.drop k) with ⟨e1, e2⟩ | ⟨p, r, e1, e2, e3⟩
    · rw [e1] at HI1
      have HE := Lib.hid (quo_none HQ.out e2)
      clear e1 e2 HQ HI
      go_wp2_with fail
      refine (HI1.out _).mono ?_
      rintro e w ⟨rfl, rfl⟩
      go_wp2
      go_ret
      exact ⟨by rw [HE.out]; rfl, rfl⟩
    · rw [e3] at HI1
      obtain ⟨q1, q2, q3, q4⟩ := quo_split HQ.out hk2 e1 e2
      obtain ⟨m, hm⟩ : ∃ m, p.length = m := ⟨_, rfl⟩
      rw [hm] at HI1 q1 q2 q3 q4
      have HP1 := Lib.hid (fun W => HP.out r W)
      simp only [pre_beg] at HP1
      have hsl2 := HSL.out (k + m + 1) q2
      rw [q1] at hsl2
      push_cast at hsl2
      have ew : ((k : Int) + ((m : Int) + 1)) = (k : Int) + m + 1 := by omega
      clear e1 e2 e3 hm HQ HI HP q1
      cases hb : begB r [39] with
      | true =>
        obtain ⟨q5, q6⟩ := q4 hb
        have H5 := Lib.hid q5
        rw [hb] at HP1
        clear q3 q4 q5 hb
        go_wp2_with fail
        refine (HI1.out _).mono ?_
        rintro e w ⟨rfl, rfl⟩
        go_wp2_with fail
        refine (HP1.out _).mono ?_
        rintro e w ⟨rfl, rfl⟩
        go_wp2
        go_roundg (s.length - (k + m + 1 + 1))
        case rel => exact ⟨k + m + 1 + 1, by first | rfl | (push_cast; rfl) | go_num, by omega, q6, rfl, H5, rfl⟩
        case measure => omega
      | false =>
        have HE := Lib.hid (q3 hb)
        rw [hb] at HP1
        clear q3 q4 hb
        go_wp2_with fail
        refine (HI1.out _).mono ?_
        rintro e w ⟨rfl, rfl⟩
        go_wp2_with fail
        refine (HP1.out _).mono ?_
        rintro e w ⟨rfl, rfl⟩
        go_wp2
        go_ret
        exact ⟨by rw [HE.out]; first | rfl | (push_cast; rfl), rfl⟩
end Go.Proofs.YteoogioanjkacaaGreatDoor
namespace Go.Proofs.YteoogioanjkacaaGreatDoor
set_option maxRecDepth 20000
open Go.RowKit Go.Lib
set_option linter.unusedVariables false
set_option linter.unusedSimpArgs false
/-- the library's variables lie as they are -/
def LaidN (w : World) : Prop := Num.Laid w ∧ Quo.Laid w
theorem LaidN.grow {w w' : World} (h : LaidN w) (hg : Grow w w') : LaidN w' := ⟨h.1.grow hg, h.2.grow hg⟩
/-- they lie below the reader -/
def LaidG (g : Nat) (w : World) : Prop := ∃ w0, LaidN w0 ∧ w0.heap.size ≤ g ∧ Grow w0 w
theorem LaidG.now {g : Nat} {w : World} (h : LaidG g w) : LaidN w := by obtain ⟨w0, h1, h2, h3⟩ := h; exact h1.grow h3
theorem LaidG.below {g : Nat} {w w' : World} (h : LaidG g w) (hb : Below g w w') : LaidG g w' := by obtain ⟨w0, h1, h2, h3⟩ := h; exact ⟨w0, h1, h2, Below.trans h3 (Below.mono hb h2)⟩
theorem below_kept {g : Nat} {w w' : World} (h : Kept (fun k => k = g) w w') (hg : g ≤ w.heap.size) : Below g w w' := ⟨h.os, h.tape, h.output, h.size, fun k hk => h.block k (by omega) (by omega)⟩
theorem AtR.lt {g : Nat} {v : Value} {s : List UInt8} {w : World} (h : AtR g v s w) : g < w.heap.size := Boxed.lt h
theorem LaidG.step {g : Nat} {w w' : World} (h : LaidG g w) (hk : Kept (fun k => k = g) w w') (hg : g ≤ w.heap.size) : LaidG g w' := h.below (below_kept hk hg)
def NumP (g : Nat) (v : Value) (o : Option (List (Int × Int) × List UInt8)) (w : World) (e : Ending) (w' : World) : Prop :=
  match o with
  | none => (∃ x, e = .returned (.tuple #[x, .bool false])) ∧ Kept (fun k => k = g) w w'
  | some p => ∃ A c, e = .returned (.tuple #[.slice A p.1.length c, .bool true]) ∧ Decs w' w'.heap.size A p.1 ∧ Step g v p.2 w w'
theorem numsP_none {s : List UInt8} (h : Num.readO (s.take (numS s)) = none) : numsP s = none := by unfold numsP; rw [h]; rfl
theorem numsP_some {s : List UInt8} {ds : List (Int × Int)} (h : Num.readO (s.take (numS s)) = some (ds, [])) : numsP s = some (ds, s.drop (numS s)) := by unfold numsP; rw [h, Option.bind_some]; rfl
theorem numsP_more {s r : List UInt8} {ds : List (Int × Int)} (h : Num.readO (s.take (numS s)) = some (ds, r)) (hr : r ≠ []) : numsP s = none := by unfold numsP; rw [h, Option.bind_some, if_neg hr]

set_option maxHeartbeats 3200000 in
theorem pnumbers_any (g : Nat) (v : Value) (s : List UInt8) (w : World) (h : AtR g v s w) (hl : s.length ≤ 100000) (hL : LaidG g w) :
    Calls Tryz.prog 51 #[.pointer (some ⟨g, 0, none⟩)] w (NumP g v (numsP s) w) := by
  have HAT := Lib.hid h
  have HL := Lib.hid hL
  have HT : Hid (∀ W, Quo.Laid W → Calls Tryz.prog 95 #[.string ⟨s.toArray⟩, .string ⟨#[48, 49, 50, 51, 52, 53, 54, 55, 56, 57, 69, 194, 175, 32]⟩] W fun e w' => e = .returned (.string ⟨(s.drop (numS s)).toArray⟩) ∧ Grow W w') := Lib.hid (fun W hW => Quo.trimleft_any s W hW)
  obtain ⟨k, hk⟩ : ∃ k, numS s = k := ⟨_, rfl⟩
  have HK := Lib.hid hk
  have hkl : k ≤ s.length := by rw [← hk]; exact numS_le s
  rw [hk] at HT
  have HCUT := Lib.hid (fun W hW => cut_any' g v s k W hW hkl)
  have HRD := Lib.hid (fun W hW => Num.read_any (s.take k) (by rw [List.length_take]; omega) W hW)
  have hsz1 : (⟨s.toArray⟩ : ByteArray).size = s.length := by simp [ByteArray.size]
  have hsz2 : (⟨(s.drop k).toArray⟩ : ByteArray).size = s.length - k := by simp [ByteArray.size]
  have HC1 := Lib.hid (fun W (hg : Grow w W) => Boxed.snd (h.grow hg))
  obtain ⟨S, hS⟩ : ∃ S, (⟨s.toArray⟩ : ByteArray) = S := ⟨_, rfl⟩
  obtain ⟨T, hT⟩ : ∃ T, (⟨(s.drop k).toArray⟩ : ByteArray) = T := ⟨_, rfl⟩
  obtain ⟨Z, hZ⟩ : ∃ Z, (⟨(s.take k).toArray⟩ : ByteArray) = Z := ⟨_, rfl⟩
  rw [hS] at hsz1 HC1 HT
  rw [hT] at hsz2 HT
  rw [hZ] at HCUT HRD
  have hsub : ((s.length : Nat) : Int) - ((s.length - k : Nat) : Int) = (k : Int) := by omega
  have hwr : IntKind.i64.wrap (((s.length : Nat) : Int) - ((s.length - k : Nat) : Int)) = (k : Int) := by rw [hsub, IntKind.wrap_i64]; omega
  clear h hL hS hT hZ hk
  go_enter Tryz.func51, Tryz.ntmps51
  go_wp2
  refine wp_region_R Grow (n := 13) rfl (by kernel_rfl) ?_
  intro W0 hW0e hW0
  have hG0 : Grow w W0 := hW0
  have hd1 : ∀ wg, Grow W0 wg → wg.cell? ⟨g, 1, none⟩ = some (.string S) := fun wg h => HC1.out wg (hG0.trans h)
  clear hW0e
  refine wpR_take growOrd (i := 0) (v := ?vf1) rfl (by kernel_rfl) (by kernel_rfl) (by kernel_rfl) (fun _ _ _ h => h) (by rfl) ?hf1 ?rf1
  case hf1 => (intro wg hSw; go_simp <;> with_reducible rfl)
  simp only [Act.put, List.setIfInBounds_toArray, List.set_cons_zero, List.set_cons_succ]
  refine wpR_take growOrd (i := 1) (v := ?vf2) rfl (by kernel_rfl) (by kernel_rfl) (by kernel_rfl) (fun _ _ _ h => h) (by rfl) ?hf2 ?rf2
  case hf2 => (intro wg hSw; go_simp <;> with_reducible rfl)
  simp only [Act.put, List.setIfInBounds_toArray, List.set_cons_zero, List.set_cons_succ]
  refine wpR_take growOrd (i := 2) (v := ?vf3) rfl (by kernel_rfl) (by kernel_rfl) (by kernel_rfl) (fun _ _ _ h => h) (by rfl) ?hf3 ?rf3
  case hf3 => (intro wg hSw; go_simp <;> with_reducible rfl)
  simp only [Act.put, List.setIfInBounds_toArray, List.set_cons_zero, List.set_cons_succ]
  refine wpR_take growOrd (i := 3) (v := ?vf4) rfl (by kernel_rfl) (by kernel_rfl) (by kernel_rfl) (fun _ _ _ h => h) (by rfl) ?hf4 ?rf4
  case hf4 => (intro wg hSw; go_simp <;> with_reducible rfl)
  simp only [Act.put, List.setIfInBounds_toArray, List.set_cons_zero, List.set_cons_succ]
  refine wpR_take growOrd (i := 4) (v := ?vf5) rfl (by kernel_rfl) (by kernel_rfl) (by kernel_rfl) (fun _ _ _ h => h) (by rfl) ?hf5 ?rf5
  case hf5 => (intro wg hSw; go_simp <;> with_reducible rfl)
  simp only [Act.put, List.setIfInBounds_toArray, List.set_cons_zero, List.set_cons_succ]
  refine wpR_take growOrd (i := 5) (v := ?vf6) rfl (by kernel_rfl) (by kernel_rfl) (by kernel_rfl) (fun _ _ _ h => h) (by rfl) ?hf6 ?rf6
  case hf6 => (intro wg hSw; go_simp <;> with_reducible rfl)
  simp only [Act.put, List.setIfInBounds_toArray, List.set_cons_zero, List.set_cons_succ]
  refine wpR_take growOrd (i := 6) (v := ?vf7) rfl (by kernel_rfl) (by kernel_rfl) (by kernel_rfl) (fun _ _ _ h => h) (by rfl) ?hf7 ?rf7
  case hf7 => (intro wg hSw; go_simp <;> with_reducible rfl)
  simp only [Act.put, List.setIfInBounds_toArray, List.set_cons_zero, List.set_cons_succ]
  refine wpR_take growOrd (i := 7) (v := ?vf8) rfl (by kernel_rfl) (by kernel_rfl) (by kernel_rfl) (fun _ _ _ h => h) (by rfl) ?hf8 ?rf8
  case hf8 => (intro wg hSw; go_simp <;> with_reducible rfl)
  simp only [Act.put, List.setIfInBounds_toArray, List.set_cons_zero, List.set_cons_succ]
  refine wpR_take growOrd (i := 8) (v := ?vf9) rfl (by kernel_rfl) (by kernel_rfl) (by kernel_rfl) (fun _ _ _ h => h) (by rfl) ?hf9 ?rf9
  case hf9 => (intro wg hSw; go_simp <;> with_reducible rfl)
  simp only [Act.put, List.setIfInBounds_toArray, List.set_cons_zero, List.set_cons_succ]
  refine wpR_one (i := 9) (by kernel_rfl) ?_
  refine wpR_op (i := 9) rfl (by rfl) (fun K hK => ?_)
  go_simp
  refine (HT.out W0 (HL.out.now.2.grow (hG0.trans (Grow.refl W0)))).mono ?_
  rintro x wM9 ⟨rfl, hM9⟩
  refine hK.out _ _ hM9 ?_
  clear hK K
  try simp only [Act.put, List.setIfInBounds_toArray, List.set_cons_zero, List.set_cons_succ]
  refine wpR_take growOrd (i := 10) (v := ?vf10) rfl (by kernel_rfl) (by kernel_rfl) (by kernel_rfl) (fun _ _ _ h => h) (by rfl) ?hf10 ?rf10
  case hf10 => (intro wg hSw; go_simp <;> with_reducible rfl)
  simp only [Act.put, List.setIfInBounds_toArray, List.set_cons_zero, List.set_cons_succ]
  refine wpR_take growOrd (i := 11) (v := ?vf11) rfl (by kernel_rfl) (by kernel_rfl) (by kernel_rfl) (fun _ _ _ h => h) (by rfl) ?hf11 ?rf11
  case hf11 => (intro wg hSw; go_simp <;> with_reducible rfl)
  simp only [Act.put, List.setIfInBounds_toArray, List.set_cons_zero, List.set_cons_succ]
  refine wpR_take growOrd (i := 12) (v := ?vf12) rfl (by kernel_rfl) (by kernel_rfl) (by kernel_rfl) (fun _ _ _ h => h) (by rfl) ?hf12 ?rf12
  case hf12 => (intro wg hSw; go_simp <;> with_reducible rfl)
  simp only [Act.put, List.setIfInBounds_toArray, List.set_cons_zero, List.set_cons_succ]
  refine wpR_done (by kernel_rfl) ?_
  have HG1 := Lib.hid (hG0.trans (Grow.trans (Grow.refl W0) hM9))
  generalize wM9 = w5 at *
  go_wp2_with fail
  refine (HCUT.out _ (HAT.out.grow HG1.out)).mono ?_
  rintro x w6 ⟨rfl, hst⟩
  have HST := Lib.hid (hst.after (Kept.of_grow HG1.out))
  have HL6 := Lib.hid (HL.out.step HST.out.2 (Nat.le_of_lt (AtR.lt HAT.out)))
  clear hst
  go_wp2_with fail
  refine (HRD.out _ HL6.out.now.1).mono ?_
  rintro x w7 ⟨A, c, rfl, _, hds, hg7⟩
  have HST7 := Lib.hid (HST.out.grow hg7)
  have HDS := Lib.hid hds
  have HN := Lib.hid (fun h => numsP_none (s := s) h)
  have HS := Lib.hid (fun ds h => numsP_some (s := s) (ds := ds) h)
  have HM := Lib.hid (fun ds r h hr => numsP_more (s := s) (ds := ds) (r := r) h hr)
  rw [HK.out] at HN HS HM
  clear hds hg7 HST HL6 HL HAT HT HC1 HCUT HRD
  cases hr : Num.readO (s.take k) with
  | none =>
    have HV := Lib.hid (HN.out hr)
    rw [hr] at HDS
    simp only [Num.mkL] at HDS ⊢
    clear hr HN HS HM HDS
    go_wp2
    go_ret2
    rw [HV.out]
    exact ⟨⟨_, rfl⟩, HST7.out.2⟩
  | some p =>
    obtain ⟨ds, r⟩ := p
    have hr2 := hr
    rw [hr] at HDS
    simp only [Num.mkL] at HDS ⊢
    cases r with
    | nil =>
      have HV := Lib.hid (HS.out ds hr)
      clear hr hr2 HN HS HM
      go_wp2
      go_ret2
      rw [HV.out]
      exact ⟨A, c, rfl, HDS.out, HST7.out⟩
    | cons b t =>
      have HV := Lib.hid (HM.out ds (b :: t) hr (by simp))
      clear hr hr2 HN HS HM HDS
      go_wp2
      go_ret2
      rw [HV.out]
      exact ⟨⟨_, rfl⟩, HST7.out.2⟩
end Go.Proofs.YteoogioanjkacaaGreatDoor
namespace Go.Proofs.YteoogioanjkacaaGreatDoor.Quo
set_option maxRecDepth 20000
open Go.RowKit Go.Lib
set_option linter.unusedSimpArgs false
set_option linter.unusedVariables false
/-- a full row of bytes -/
def Full (w : World) (v : Value) (q : List UInt8) : Prop := ∃ g, v = .slice (some ⟨g, 0, none⟩) q.length q.length ∧ g < w.heap.size ∧ ∀ j u, (Go.Lib.byteCells q)[j]? = some u → w.cell? ⟨g, j, none⟩ = some u
theorem Full.grow {w w' : World} {v : Value} {q : List UInt8} (h : Full w v q) (hg : Grow w w') : Full w' v q := by
  obtain ⟨g, e, hl, hc⟩ := h
  exact ⟨g, e, Nat.lt_of_lt_of_le hl hg.size, fun j u hj => (hg.cell (p := ⟨g, j, none⟩) hl).trans (hc j u hj)⟩
theorem bytes_len (q : List UInt8) : (Go.Lib.byteCells q).length = q.length * 1 := by simp [Go.Lib.byteCells]
theorem full_conv {w : World} {v : Value} {q : List UInt8} (h : Full w v q) : (convert 57 9 v).run Tryz.prog w = .ok (.string ⟨q.toArray⟩) w := by
  obtain ⟨g, rfl, hl, hc⟩ := h
  refine run_convert_bytes_back (P := Tryz.prog) w 57 9 5 ⟨g, 0, none⟩ q.length q (by kernel_rfl) (by kernel_rfl) (by kernel_rfl) (fun j hj => ?_)
  rw [Addr.add_lit, Nat.zero_add, hc j (.int .u8 (q[j].toNat)) (by simp [Go.Lib.byteCells, hj])]
theorem own_base {w : World} {B B' : Nat} {e : TypeId} {size n : Nat} {v : Value} {xs : List Value} (h : w.ownsRow B e size v n xs) (hb : B' ≤ B) : w.ownsRow B' e size v n xs :=
  ⟨h.1, by
    rcases h.2 with h0 | ⟨g, cap, cur, hv, hbg, rest⟩
    · exact .inl h0
    · exact .inr ⟨g, cap, cur, hv, Nat.le_trans hb hbg, rest⟩⟩

theorem wpList_append_full {ops : Array Oper} {rest : List Oper} {o : Oper} {a : Act} {w : World} {Q : Exit → Act → World → Prop} (hgd : o.guard = none) (s x : Operand)
    (ho : o.op = .call { callee := .builtin .append, args := #[s, x], argTypes := #[57, 57] }) (B : Nat) (v : Value) (q : List UInt8) (m : Nat) (p : List Value)
    (hs : a.eval s = v) (hf : Full w v q) (hx : a.eval x = .slice (some ⟨w.heap.size, 0, none⟩) m m) (hm : p.length = m) (h0 : 0 < m) (hq : q.length ≤ 1000000) (hm4 : m ≤ 4) (hB : B ≤ w.heap.size)
    (h : ∀ v' w', w'.ownsRow B 5 1 v' (q.length + m) (Go.Lib.byteCells q ++ p) → Below B w w' → wpList Tryz.prog ops Q rest (a.put o.dst v') w') : wpList Tryz.prog ops Q (o :: rest) a (w.alloc (.cells p.toArray 5)) := by
  obtain ⟨i0, hi, hz0, hz1, hz2⟩ := info_of info5
  have hf1 := hf.grow (grow_new w (.cells p.toArray 5))
  obtain ⟨g, rfl, hl, hc⟩ := hf1
  obtain ⟨v', w', hr, h2, h3⟩ := run_append_arg_grows (P := Tryz.prog) (w.alloc (.cells p.toArray 5)) 57 o.type 5 i0 (.int .u8 0) 1 1 Tryz.underlying57 hi hz0 hz1 hz2 rfl (by decide) ⟨g, 0, none⟩ q.length q.length (Go.Lib.byteCells q) (bytes_len q)
    (fun j u hj => by rw [Addr.add_lit, Nat.zero_add]; exact hc j u hj) ⟨w.heap.size, 0, none⟩ m m p (by omega) (fun j u hj => by rw [Addr.add_lit, World.cell?_alloc_new]; simpa using hj) (by omega) (by unfold maxLen; omega) (by omega)
  refine wpList_plain hgd fun K hK => ?_
  have hg2 : Grow (w.alloc (.cells p.toArray 5)) w' := (Below.refl _ _).grown h3 (Nat.le_refl _) (fun k hk => by cases hk)
  have hw := h v' w' (own_base h2 (by simp; omega)) (Below.mono ((grow_new w _).trans hg2) hB)
  unfold Oper.wp
  simp [execOp, ho, resolve, invoke, builtin, hs, hx, hr, Result.andThen]
  exact hK _ _ hw
theorem wpList_append_full_text {ops : Array Oper} {rest : List Oper} {o : Oper} {a : Act} {w : World} {Q : Exit → Act → World → Prop} (hgd : o.guard = none) (s x : Operand)
    (ho : o.op = .call { callee := .builtin .append, args := #[s, x], argTypes := #[57, 9] }) (B : Nat) (v : Value) (q p : List UInt8)
    (hs : a.eval s = v) (hf : Full w v q) (hx : a.eval x = .string ⟨p.toArray⟩) (h0 : 0 < p.length) (hq : q.length ≤ 1000000) (hm4 : p.length ≤ 4) (hB : B ≤ w.heap.size)
    (h : ∀ v' w', Own B v' (q ++ p) w' → Below B w w' → wpList Tryz.prog ops Q rest (a.put o.dst v') w') : wpList Tryz.prog ops Q (o :: rest) a w := by
  obtain ⟨i0, hi, hz0, hz1, hz2⟩ := info_of info5
  obtain ⟨g, rfl, hl, hc⟩ := hf
  have hsz : (⟨p.toArray⟩ : ByteArray).size = p.length := str_size p
  have hr := run_append_grow_string (P := Tryz.prog) (w := w) 57 9 o.type 5 i0 (.int .u8 0) Tryz.underlying57 Tryz.underlying9 hi hz0 ⟨g, 0, none⟩ q.length q.length (Go.Lib.byteCells q) (by rw [hz1, bytes_len])
    (fun j u hj => by rw [Addr.add_lit, Nat.zero_add]; exact hc j u hj) ⟨p.toArray⟩ (by omega) (by omega) (growslice_fits (by omega) (by rw [hz2]; omega))
  have hge := grownCap_ge w (q.length + (⟨p.toArray⟩ : ByteArray).size) q.length 5
  have hcm := grownCap_le_maxLen w (q.length + (⟨p.toArray⟩ : ByteArray).size) q.length 5 (by unfold maxLen; omega)
  refine wpList_plain hgd fun K hK => ?_
  have hown : Own B (.slice (some ⟨w.heap.size, 0, none⟩) (q.length + (⟨p.toArray⟩ : ByteArray).size) (grownCap w (q.length + (⟨p.toArray⟩ : ByteArray).size) q.length 5)) (q ++ p)
      (w.drew.alloc (.cells ((Go.Lib.byteCells q).toArray ++ (strCells ⟨p.toArray⟩).toArray ++ Builtin.zeroCells (Value.int .u8 0).cells (grownCap w (q.length + (⟨p.toArray⟩ : ByteArray).size) q.length 5 - (q.length + (⟨p.toArray⟩ : ByteArray).size))) 5)) := by
    unfold Own
    rw [show (q ++ p).length = q.length + (⟨p.toArray⟩ : ByteArray).size by rw [List.length_append, hsz]]
    refine ⟨by rw [bytes_len, List.length_append, hsz], .inr ⟨w.heap.size, _, _, rfl, hB, heap_alloc_new w.drew _, hge, hcm, ?_, ?_⟩⟩
    · have hz1 : (Value.int IntKind.u8 0).cells.size = 1 := rfl
      simp only [Array.size_append, List.size_toArray, size_zeroCells, hz1, strCells_length]
      rw [bytes_len]
      omega
    · rw [cells_app, ← cells_str p]
      simp only [Array.toList_append, List.append_assoc]
      rw [← List.append_assoc]
      have : (Go.Lib.byteCells q ++ strCells ⟨p.toArray⟩).length = (q.length + (⟨p.toArray⟩ : ByteArray).size) * 1 := by rw [List.length_append, bytes_len, strCells_length]; omega
      rw [← this]
      exact List.take_left
  obtain ⟨v', w', hr', ho', hg'⟩ : ∃ v' w', (Builtin.append_ #[57, 9] o.type #[.slice (some ⟨g, 0, none⟩) q.length q.length, .string ⟨p.toArray⟩]).run Tryz.prog w = .ok v' w' ∧ Own B v' (q ++ p) w' ∧ Grow w w' :=
    ⟨_, _, hr, hown, Grow.of_drew (grow_new w.drew _)⟩
  have hw := h v' w' ho' (Below.mono hg' hB)
  clear hr hown
  unfold Oper.wp
  simp [execOp, ho, resolve, invoke, builtin, hs, hx, hr', Result.andThen]
  exact hK _ _ hw

def Laid2 (B : Nat) (q : List UInt8) (p : List Value) (w : World) (e : Ending) (w' : World) : Prop := ∃ v', e = .returned v' ∧ w'.ownsRow B 5 1 v' (q.length + p.length) (Go.Lib.byteCells q ++ p) ∧ Below B w w'

set_option maxHeartbeats 4000000 in
set_option maxRecDepth 100000 in
theorem full_one (B : Nat) (v : Value) (q : List UInt8) (r : Int) (h0 : 0 ≤ r) (h1 : r ≤ 127) (w : World) (hf : Full w v q) (hq : q.length ≤ 1000000) (hB : B ≤ w.heap.size) :
    Calls Tryz.prog 81 #[v, .int .i32 r] w (Laid2 B q [.int .u8 r] w) := by
  have HF := Lib.hid hf
  clear hf
  go_enter Tryz.func81, Tryz.ntmps81
  go_wp2_with (at_builtin; refine wpList_append_full rfl _ _ rfl B v q 1 [.int .u8 r] rfl HF.out rfl rfl (by decide) hq (by decide) hB ?_; intro v' w2 hown' hgrow)
  go_wp2
  go_ret
  exact ⟨_, rfl, hown', hgrow⟩

set_option maxHeartbeats 4000000 in
set_option maxRecDepth 100000 in
theorem full_two (B : Nat) (v : Value) (q : List UInt8) (r : Int) (h0 : 128 ≤ r) (h1 : r ≤ 2047) (w : World) (hf : Full w v q) (hq : q.length ≤ 1000000) (hB : B ≤ w.heap.size) :
    Calls Tryz.prog 116 #[v, .int .i32 r] w (Laid2 B q [.int .u8 (192 + r / 64), .int .u8 (128 + r % 64)] w) := by
  have HF := Lib.hid hf
  clear hf
  go_enter Tryz.func116, Tryz.ntmps116
  go_wp2_with (at_builtin; refine wpList_append_full rfl _ _ rfl B v q 2 [.int .u8 (192 + r / 64), .int .u8 (128 + r % 64)] rfl HF.out rfl rfl (by decide) hq (by decide) hB ?_; intro v' w2 hown' hgrow)
  go_wp2
  go_ret
  exact ⟨_, rfl, hown', hgrow⟩

set_option maxHeartbeats 4000000 in
set_option maxRecDepth 100000 in
theorem full_three_lo (B : Nat) (v : Value) (q : List UInt8) (r : Int) (h0 : 2048 ≤ r) (h1 : r < 55296) (w : World) (hf : Full w v q) (hq : q.length ≤ 1000000) (hB : B ≤ w.heap.size) :
    Calls Tryz.prog 116 #[v, .int .i32 r] w (Laid2 B q [.int .u8 (224 + r / 4096), .int .u8 (128 + r / 64 % 64), .int .u8 (128 + r % 64)] w) := by
  have HF := Lib.hid hf
  clear hf
  go_enter Tryz.func116, Tryz.ntmps116
  go_wp2_with (at_builtin; refine wpList_append_full rfl _ _ rfl B v q 3 [.int .u8 (224 + r / 4096), .int .u8 (128 + r / 64 % 64), .int .u8 (128 + r % 64)] rfl HF.out rfl rfl (by decide) hq (by decide) hB ?_; intro v' w2 hown' hgrow)
  go_wp2
  go_ret
  exact ⟨_, rfl, hown', hgrow⟩

set_option maxHeartbeats 4000000 in
set_option maxRecDepth 100000 in
theorem full_three_hi (B : Nat) (v : Value) (q : List UInt8) (r : Int) (h0 : 57343 < r) (h1 : r ≤ 65535) (w : World) (hf : Full w v q) (hq : q.length ≤ 1000000) (hB : B ≤ w.heap.size) :
    Calls Tryz.prog 116 #[v, .int .i32 r] w (Laid2 B q [.int .u8 (224 + r / 4096), .int .u8 (128 + r / 64 % 64), .int .u8 (128 + r % 64)] w) := by
  have HF := Lib.hid hf
  clear hf
  go_enter Tryz.func116, Tryz.ntmps116
  go_wp2_with (at_builtin; refine wpList_append_full rfl _ _ rfl B v q 3 [.int .u8 (224 + r / 4096), .int .u8 (128 + r / 64 % 64), .int .u8 (128 + r % 64)] rfl HF.out rfl rfl (by decide) hq (by decide) hB ?_; intro v' w2 hown' hgrow)
  go_wp2
  go_ret
  exact ⟨_, rfl, hown', hgrow⟩

set_option maxHeartbeats 4000000 in
set_option maxRecDepth 100000 in
theorem full_four (B : Nat) (v : Value) (q : List UInt8) (r : Int) (h0 : 65536 ≤ r) (h1 : r ≤ 1114111) (w : World) (hf : Full w v q) (hq : q.length ≤ 1000000) (hB : B ≤ w.heap.size) :
    Calls Tryz.prog 116 #[v, .int .i32 r] w (Laid2 B q [.int .u8 (240 + r / 262144), .int .u8 (128 + r / 4096 % 64), .int .u8 (128 + r / 64 % 64), .int .u8 (128 + r % 64)] w) := by
  have HF := Lib.hid hf
  clear hf
  go_enter Tryz.func116, Tryz.ntmps116
  go_wp2_with (at_builtin; refine wpList_append_full rfl _ _ rfl B v q 4 [.int .u8 (240 + r / 262144), .int .u8 (128 + r / 4096 % 64), .int .u8 (128 + r / 64 % 64), .int .u8 (128 + r % 64)] rfl HF.out rfl rfl (by decide) hq (by decide) hB ?_; intro v' w2 hown' hgrow)
  go_wp2
  go_ret
  exact ⟨_, rfl, hown', hgrow⟩

theorem full_non (B : Nat) (v : Value) (q : List UInt8) (c : Nat) (hc : isSign c = true) (h : 128 ≤ c) (w : World) (hf : Full w v q) (hq : q.length ≤ 1000000) (hB : B ≤ w.heap.size) :
    Calls Tryz.prog 116 #[v, .int .i32 (c : Int)] w (Laid2 B q (Lib.runeCells (c : Int)) w) := by
  have hs := isSign_iff.1 hc
  by_cases c1 : c ≤ 2047
  · rw [show Lib.runeCells (c : Int) = [.int .u8 (192 + (c : Int) / 64), .int .u8 (128 + (c : Int) % 64)] by simp [Lib.runeCells, Lib.encodeRuneZ_two (r := (c : Int)) (by omega) (by omega)]]
    exact full_two B v q c (by omega) (by omega) w hf hq hB
  by_cases c2 : c < 55296
  · rw [show Lib.runeCells (c : Int) = [.int .u8 (224 + (c : Int) / 4096), .int .u8 (128 + (c : Int) / 64 % 64), .int .u8 (128 + (c : Int) % 64)] by simp [Lib.runeCells, Lib.encodeRuneZ_three (r := (c : Int)) (Or.inl ⟨by omega, by omega⟩)]]
    exact full_three_lo B v q c (by omega) (by omega) w hf hq hB
  by_cases c4 : c ≤ 65535
  · rw [show Lib.runeCells (c : Int) = [.int .u8 (224 + (c : Int) / 4096), .int .u8 (128 + (c : Int) / 64 % 64), .int .u8 (128 + (c : Int) % 64)] by simp [Lib.runeCells, Lib.encodeRuneZ_three (r := (c : Int)) (Or.inr ⟨by omega, by omega⟩)]]
    exact full_three_hi B v q c (by omega) (by omega) w hf hq hB
  · rw [show Lib.runeCells (c : Int) = [.int .u8 (240 + (c : Int) / 262144), .int .u8 (128 + (c : Int) / 4096 % 64), .int .u8 (128 + (c : Int) / 64 % 64), .int .u8 (128 + (c : Int) % 64)] by simp [Lib.runeCells, Lib.encodeRuneZ_four (r := (c : Int)) (by omega) (by omega)]]
    exact full_four B v q c (by omega) (by omega) w hf hq hB

set_option maxHeartbeats 4000000 in
set_option maxRecDepth 100000 in
theorem full_rune (B : Nat) (v : Value) (q : List UInt8) (c : Nat) (w : World) (hc : isSign c = true) (hq : q.length ≤ 1000000) (hf : Full w v q) (hB : B ≤ w.heap.size) :
    Calls Tryz.prog 81 #[v, .int .i32 (c : Int)] w (Laid1 B (q ++ bytesD c) w) := by
  have hs := isSign_iff.1 hc
  have HR := Lib.hid (rune_cells hc)
  have hfin : ∀ e w', Laid2 B q (Lib.runeCells (c : Int)) w e w' → Laid1 B (q ++ bytesD c) w e w' := by
    rintro e w' ⟨v', rfl, h1, h2⟩
    refine ⟨v', rfl, ?_, h2⟩
    unfold Own
    rw [List.length_append, cells_app]
    rw [HR.out, Go.Lib.byteCells_length] at h1
    exact h1
  by_cases h1 : c < 128
  · refine (show Calls Tryz.prog 81 #[v, .int .i32 (c : Int)] w (Laid2 B q (Lib.runeCells (c : Int)) w) from ?_).mono hfin
    rw [show Lib.runeCells (c : Int) = [.int .u8 (c : Int)] by simp [Lib.runeCells, Lib.encodeRuneZ_one (r := (c : Int)) (by omega) (by omega)]]
    exact full_one B v q c (by omega) (by omega) w hf hq hB
  · refine (show Calls Tryz.prog 81 #[v, .int .i32 (c : Int)] w (Laid2 B q (Lib.runeCells (c : Int)) w) from ?_).mono hfin
    have HN := Lib.hid (full_non B v q c hc (by omega) w hf hq hB)
    have h1' : ¬ ((c : Nat) : Int) ≤ 127 := by omega
    have hw : IntKind.u32.wrap ((c : Nat) : Int) = ((c : Nat) : Int) := by rw [IntKind.wrap_u32]; omega
    clear hfin HR hf
    generalize Lib.runeCells (c : Int) = p at *
    go_enter Tryz.func81, Tryz.ntmps81
    go_wp2_with fail
    refine (HN.out).mono ?_
    rintro e w1 ⟨v1, rfl, ho, hb⟩
    have HO1 := Lib.hid ho
    have HB1 := Lib.hid hb
    clear ho hb
    go_wp2
    go_ret
    exact ⟨_, rfl, HO1.out, HB1.out⟩

set_option maxRecDepth 10000 in
set_option maxHeartbeats 800000 in
theorem append_full (B : Nat) (v : Value) (q : List UInt8) (c : Nat) (w : World) (hc : isSign c = true) (hq : q.length ≤ 1000000) (hf : Full w v q) (hB : B ≤ w.heap.size) :
    Calls Tryz.prog 40 #[v, .int .i32 c] w (Laid1 B (q ++ qC c) w) := by
  have HO := Lib.hid hf
  have henc : (Utf8.encode (c : Int)).toList = bytesD c := by rw [enc_bytes hc, Lib.toList_data]
  by_cases h39 : c = 39
  · have ht : ((Utf8.encode (c : Int)).toList == [39]) = true := by rw [henc, h39]; rfl
    rw [show qC c = [39, 39] by rw [h39]; rfl]
    clear hf hc henc h39
    go_enter Tryz.func40, Tryz.ntmps40
    go_wp2_with (at_builtin; refine wpList_append_full_text rfl _ _ rfl B v q [39, 39] rfl HO.out rfl (by decide) hq (by decide) hB ?_; intro v1 w1 ho1 hb1)
    go_ret
    exact ⟨_, rfl, ho1, hb1⟩
  · have HR := Lib.hid (full_rune B v q c w hc hq hf hB)
    rw [qC_other h39]
    have ht : ((Utf8.encode (c : Int)).toList == [39]) = false := by
      rw [beq_eq_false_iff_ne, henc]
      intro e1
      have hn := next_bytes hc []
      rw [e1, List.append_nil, next_one (by decide)] at hn
      exact h39 (Prod.mk.inj hn).1.symm
    clear hf hc h39 henc
    go_enter Tryz.func40, Tryz.ntmps40
    go_wp2_with fail
    refine (HR.out).mono ?_
    rintro e w1 ⟨v1, rfl, ho, hb⟩
    have HO1 := Lib.hid ho
    have HB1 := Lib.hid hb
    clear ho hb
    go_wp2
    go_ret
    exact ⟨_, rfl, HO1.out, HB1.out⟩

/-- bytes that may be appended to: of one's own, or a full row -/
def OwnM (B : Nat) (v : Value) (q : List UInt8) (w : World) : Prop := Own B v q w ∨ Full w v q
theorem OwnM.conv {B : Nat} {v : Value} {q : List UInt8} {w : World} (h : OwnM B v q w) : (convert 57 9 v).run Tryz.prog w = .ok (.string ⟨q.toArray⟩) w := h.elim conv_own full_conv
theorem append_both (B : Nat) (v : Value) (q : List UInt8) (c : Nat) (w : World) (hc : isSign c = true) (hq : q.length ≤ 1000000) (h : OwnM B v q w) (hB : B ≤ w.heap.size) :
    Calls Tryz.prog 40 #[v, .int .i32 c] w (Laid1 B (q ++ qC c) w) :=
  h.elim (fun h => append_any B v q c w hc hq h hB) (fun h => append_full B v q c w hc hq h hB)
end Go.Proofs.YteoogioanjkacaaGreatDoor.Quo
namespace Go.Proofs.YteoogioanjkacaaGreatDoor.Quo
set_option maxRecDepth 20000
open Go.RowKit Go.Lib
set_option linter.unusedSimpArgs false
set_option linter.unusedVariables false
/-- what is answered: a text, and is it so? -/
def TextP (l : List UInt8) (ok : Bool) (w : World) (e : Ending) (w' : World) : Prop := e = .returned (.tuple #[.string ⟨l.toArray⟩, .bool ok]) ∧ Grow w w'

theorem all_step {xs : List Int} {k : Nat} (hk : k < xs.length) (h : (xs.take k).all signZ = true) (h2 : signZ (xs.getD k 0) = true) : (xs.take (k + 1)).all signZ = true := by
  have e : xs.getD k 0 = xs[k] := by simp [List.getD, hk]
  rw [List.take_succ_eq_append_getElem hk, List.all_append, h, ← e, List.all_cons, h2]
  rfl
theorem all_not {xs : List Int} {k : Nat} (hk : k < xs.length) (h2 : signZ (xs.getD k 0) = false) : xs.all signZ = false := by
  have e : xs.getD k 0 = xs[k] := by simp [List.getD, hk]
  rw [Bool.eq_false_iff]
  intro h
  have := List.all_eq_true.1 h xs[k] (List.getElem_mem hk)
  rw [← e, h2] at this
  cases this
theorem qT_step {xs : List Int} {k : Nat} (hk : k < xs.length) : qT (natsZ (xs.take (k + 1))) = qT (natsZ (xs.take k)) ++ qC (xs.getD k 0).toNat := by
  have e : xs.getD k 0 = xs[k] := by simp [List.getD, hk]
  rw [List.take_succ_eq_append_getElem hk, nats_append, qT_append, e]
  show _ ++ (qC (xs[k]).toNat ++ []) = _
  rw [List.append_nil]
theorem textQ_not {xs : List Int} (h : xs.all signZ = false) : textQ xs = [] := by unfold textQ; rw [if_neg (by rw [h]; simp)]
theorem textQ_all {xs : List Int} (h : xs.all signZ = true) : textQ xs = 39 :: (qT (natsZ xs) ++ [39]) := by unfold textQ; rw [if_pos h]; rfl
theorem nats_take (xs : List Int) (k : Nat) : (natsZ (xs.take k)).length ≤ k := by rw [nats_len, List.length_take]; omega

set_option maxRecDepth 10000 in
set_option maxHeartbeats 1600000 in
theorem text_any (A : Option Addr) (n c : Nat) (xs : List Int) (w : World) (hn : xs.length = n) (hnb : n ≤ 100000) (hr : Nums .i64 w w.heap.size A xs) :
    Calls Tryz.prog 19 #[.slice A n c] w (TextP (textQ xs) (xs.all signZ) w) := by
  have HN := Lib.hid hn
  have HR := Lib.hid hr
  obtain ⟨B, hB⟩ : ∃ B, w.heap.size = B := ⟨_, rfl⟩
  have HBE := Lib.hid hB
  clear hn hr hB
  have hcv := Lib.run_convert_bytes_const (P := Tryz.prog) w 57 5 #[.int .u8 39] 1 1 Tryz.underlying57 Tryz.underlying5
  have HOW : Hid (OwnM B (.slice (some ⟨w.heap.size, 0, none⟩) 1 1) [39] (w.alloc (.cells #[.int .u8 39] 5 (1, 2)))) :=
    Lib.hid (.inr ⟨w.heap.size, rfl, by simp, fun j u hj => by rw [cell_of_row _ w.heap.size j #[.int .u8 39] 5 (1, 2) (heap_alloc_new w _)]; simpa [Go.Lib.byteCells] using hj⟩)
  have HG0 := Lib.hid (show Below B w (w.alloc (.cells #[.int .u8 39] 5 (1, 2))) from Below.mono (grow_new w _) (by rw [HBE.out]; exact Nat.le_refl _))
  go_enter Tryz.func19, Tryz.ntmps19
  go_wp2
  go_loopg [4, 11] n (fun g s4 s11 wr => ∃ (k : Nat) (v : Value), k ≤ n ∧ g = n - k ∧ v = s4 ∧ s11 = .int .i64 k ∧ Hid ((xs.take k).all signZ = true) ∧ Hid (OwnM B v (39 :: qT (natsZ (xs.take k))) wr) ∧ Hid (Below B w wr))
  case atStart => exact ⟨0, _, Nat.zero_le _, rfl, rfl, rfl, Lib.hid rfl, HOW, HG0⟩
  case round =>
    obtain ⟨k, v, hk, rfl, rfl, rfl, HS, HO, HG⟩ := hrel
    have HGW : Hid (Grow w wr) := Lib.hid (by unfold Grow; rw [HBE.out]; exact HG.out)
    have HZ : Hid (B ≤ wr.heap.size) := Lib.hid (by rw [← HBE.out]; exact HG.out.size)
    clear HOW HG0
    by_cases hlt : k < n
    · have hkl : k < xs.length := by rw [HN.out]; exact hlt
      obtain ⟨b, off, rfl, hb, hcl⟩ := (HR.out.below HGW.out) (by omega)
      have hck := hcl k hkl
      have HQ := Lib.hid (qT_step hkl)
      have HA := Lib.hid (all_step hkl HS.out)
      have HX := Lib.hid (all_not (xs := xs) hkl)
      have hql : (39 :: qT (natsZ (xs.take k))).length ≤ 1000000 := by
        have h1 := qT_le (natsZ (xs.take k))
        have h2 := nats_take xs k
        rw [List.length_cons]
        omega
      clear hcl
      obtain ⟨x, hx⟩ : ∃ x, xs.getD k 0 = x := ⟨_, rfl⟩
      rw [hx] at hck HQ HA HX
      clear hx hkl
      have HI := Lib.hid (fun W => issign_any x W)
      cases hs : signZ x with
      | false =>
        rw [hs] at HI
        have HV := Lib.hid (HX.out hs)
        clear HX HA HQ hs hql
        go_wp2_with fail
        refine (HI.out _).mono ?_
        rintro e w2 ⟨rfl, rfl⟩
        go_wp2
        go_ret2
        exact ⟨by rw [textQ_not HV.out, HV.out]; rfl, HGW.out⟩
      | true =>
        rw [hs] at HI
        have hsx := signZ_iff.1 hs
        obtain ⟨y, rfl⟩ : ∃ y : Nat, x = (y : Int) := ⟨x.toNat, by omega⟩
        rw [Int.toNat_natCast] at HQ
        have hw : IntKind.i32.wrap ((y : Nat) : Int) = ((y : Nat) : Int) := by rw [IntKind.wrap_i32]; omega
        have HP := Lib.hid (fun W (h : B ≤ W.heap.size) h2 => append_both B v (39 :: qT (natsZ (xs.take k))) y W (by have := (signZ_nat hs).1; rwa [Int.toNat_natCast] at this) hql h2 h)
        have HA' := Lib.hid (HA.out hs)
        have hwk : IntKind.i64.wrap (((k : Nat) : Int) + 1) = ((k : Nat) : Int) + 1 := by rw [IntKind.wrap_i64]; omega
        clear HX HA hs hql hsx
        go_wp2_with fail
        refine (HI.out _).mono ?_
        rintro e w2 ⟨rfl, rfl⟩
        go_wp2_with fail
        refine (HP.out _ HZ.out HO.out).mono ?_
        rintro e w3 ⟨v3, rfl, ho, hb3⟩
        have HO3 : Hid (Own B v3 (39 :: qT (natsZ (xs.take (k + 1)))) w3) := Lib.hid (by rw [HQ.out]; exact ho)
        have HG3 := Lib.hid (Below.trans HG.out hb3)
        clear ho hb3 HP HQ
        go_wp2
        go_roundg (n - (k + 1))
        case rel => exact ⟨k + 1, v3, by omega, rfl, rfl, by go_num, HA', Lib.hid (.inl HO3.out), HG3⟩
        case measure => omega
    · obtain rfl : k = n := by omega
      have hall : xs.take k = xs := List.take_of_length_le (by rw [HN.out]; exact Nat.le_refl _)
      have HV : Hid (xs.all signZ = true) := Lib.hid (by have := HS.out; rwa [hall] at this)
      have HO1 : Hid (OwnM B v (39 :: qT (natsZ xs)) wr) := Lib.hid (by have := HO.out; rwa [hall] at this)
      have hcv := HO1.out.conv
      have HC : Hid ((⟨(39 :: qT (natsZ xs)).toArray⟩ : ByteArray) ++ ⟨#[39]⟩ = ⟨(39 :: (qT (natsZ xs) ++ [39])).toArray⟩) := Lib.hid (str_app (39 :: qT (natsZ xs)) [39])
      have hlq : (qT (natsZ xs)).length ≤ 400000 := by
        have h1 := qT_le (natsZ xs)
        rw [nats_len, HN.out] at h1
        omega
      obtain ⟨q, hq⟩ : ∃ q, 39 :: qT (natsZ xs) = q := ⟨_, rfl⟩
      have hql : q.length ≤ 400001 := by rw [← hq, List.length_cons]; omega
      have HQ : Hid (39 :: (qT (natsZ xs) ++ [39]) = q ++ [39]) := Lib.hid (by rw [← hq]; rfl)
      rw [hq] at hcv HC
      rw [HQ.out] at HC
      clear hq hall HS HO hlq
      obtain ⟨s, hs⟩ : ∃ s : ByteArray, s = ⟨q.toArray⟩ := ⟨_, rfl⟩
      have hsz : s.size ≤ 400001 := by rw [hs, str_size]; exact hql
      rw [← hs] at hcv HC
      clear hs
      go_wp2
      go_ret2
      exact ⟨by rw [textQ_all HV.out, HV.out, HQ.out, ← HC.out]; rfl, HGW.out⟩
theorem text_says (A : Option Addr) (n c : Nat) (xs : List Int) (w : World) (hn : xs.length = n) (hnb : n ≤ 100000) (hr : Nums .i64 w w.heap.size A xs) {l : List UInt8} {ok : Bool} (hl : textQ xs = l) (ho : xs.all signZ = ok) :
    Calls Tryz.prog 19 #[.slice A n c] w (TextP l ok w) := by
  subst hl ho
  exact text_any A n c xs w hn hnb hr
end Go.Proofs.YteoogioanjkacaaGreatDoor.Quo
namespace Go.Proofs.YteoogioanjkacaaGreatDoor
set_option maxRecDepth 20000
open Go.RowKit Go.Lib
set_option linter.unusedVariables false
set_option linter.unusedSimpArgs false
theorem built166 : Go.Proofs.Lays.n166 Tryz.prog Tryz.lays156_ren := { Tryz.lays156 with }
/-- a builder holds the text q -/
def Bld (B b : Nat) (q : List UInt8) (w : World) : Prop := IsBuilderF 59 5 B b (Go.Lib.byteCells q) w
theorem BuilderAtF.grow' {T e : TypeId} {B b : Nat} {p : Value} {bs : List Value} {w w' : World} (h : BuilderAtF T e B b p bs w) (hg : Grow w w') : BuilderAtF T e B b p bs w' := by
  obtain ⟨hB, v, hb, ho, hn⟩ := h
  exact ⟨hB, v, (hg.block b (heap_lt hb)).trans hb, ho.kept (row := none) ⟨hg.os, hg.tape, hg.output, hg.size, fun k hk _ => hg.block k hk⟩ (by cases v.ownBlock <;> simp), hn⟩
theorem Bld.grow {B b : Nat} {q : List UInt8} {w w' : World} (h : Bld B b q w) (hg : Grow w w') : Bld B b q w' := h.elim (fun x => .inl (BuilderAtF.grow' x hg)) (fun x => .inr (BuilderAtF.grow' x hg))
theorem write_any (B b : Nat) (q s : List UInt8) (w : World) (h : Bld B b q w) (hl : q.length + s.length ≤ 140737488355328) (hB : B ≤ w.heap.size) :
    Calls Tryz.prog 59 #[.pointer (some ⟨b, 0, none⟩), .string ⟨s.toArray⟩] w fun e w' => (∃ x, e = .returned x) ∧ Bld B b (q ++ s) w' ∧ Below B w w' ∧ OthersKept 5 (some b) w w' := by
  refine (Any.Builder_WriteString_k built166 Tryz.Builder_Extra_156 B b (Go.Lib.byteCells q) ⟨s.toArray⟩ w h (by rw [Go.Lib.byteCells_length]; simp [ByteArray.size]; omega) hB).mono ?_
  rintro e w' ⟨rfl, h1, h2, h3⟩
  refine ⟨⟨_, rfl⟩, .inr ?_, h2, h3⟩
  have e1 : Go.Lib.byteCells (q ++ s) = Go.Lib.byteCells q ++ strCells ⟨s.toArray⟩ := Quo.cells_app q s
  rw [e1]
  exact h1
theorem build_any (B b : Nat) (q : List UInt8) (w : World) (h : Bld B b q w) (h0 : q ≠ []) :
    Calls Tryz.prog 28 #[.pointer (some ⟨b, 0, none⟩)] w fun e w' => e = .returned (.string ⟨q.toArray⟩) ∧ Below B w w' := by
  refine (Any.Builder_String_f Tryz.lays169 Tryz.Builder_Extra_169 B b q w h h0).mono ?_
  rintro e w' ⟨rfl, _, h2⟩
  exact ⟨rfl, h2⟩
theorem bld_new (w : World) : Bld w.heap.size w.heap.size [] (w.alloc (.cells #[.pointer none, .slice none 0 0] 59)) := by
  exact IsBuilderF.of (.inl ⟨Nat.le_refl _, .slice none 0 0, heap_alloc_new w _, World.ownsRow_nil _ _ _ _, by simp [Value.ownBlock]⟩)
/-- a node's box stands behind what the builder does -/
theorem box_others {b nb : Nat} {w w' : World} {k : Int} {A1 A2 A3 : Option Addr} {l1 c1 l2 c2 l3 c3 : Nat} (h : OthersKept 5 (some b) w w') (hb : BoxN w nb k A1 l1 c1 A2 l2 c2 A3 l3 c3) (hn : nb ≠ b) : BoxN w' nb k A1 l1 c1 A2 l2 c2 A3 l3 c3 :=
  h nb _ hb (fun e => hn (Option.some.inj e)) (fun _ _ e => by simp at e)

set_option maxHeartbeats 3200000 in
theorem pfront_any (nd : Nd) (A1 : Option Addr) (l1 c1 : Nat) (A2 : Option Addr) (l2 c2 : Nat) (A3 : Option Addr) (l3 c3 : Nat) (w : World) (h1 : nd.shp.length = l1) (hn : l1 ≤ 100000) (hr : Nums .i64 w w.heap.size A1 nd.shp) (hi : ∀ x ∈ nd.shp, In x) (hL : LaidN w) :
    Calls Tryz.prog 60 #[.agg #[.int .i64 nd.kind, .slice A1 l1 c1, .slice A2 l2 c2, .slice A3 l3 c3]] w fun e w' => e = .returned (.string ⟨(headT nd).toArray⟩) ∧ Grow w w' := by
  have hgn := grow_new w (.cells #[.int .i64 nd.kind, .slice A1 l1 c1, .slice A2 l2 c2, .slice A3 l3 c3] 34)
  have HBX := Lib.hid (boxN_new w nd.kind A1 l1 c1 A2 l2 c2 A3 l3 c3)
  have HC := Lib.hid (Num.ints_any A1 l1 c1 nd.shp _ h1 hn (hr.grow hgn) hi (hL.grow hgn).1.pows)
  have HG := Lib.hid hgn
  obtain ⟨nb, hnb⟩ : ∃ nb, w.heap.size = nb := ⟨_, rfl⟩
  have HNB := Lib.hid hnb
  rw [hnb] at HBX
  by_cases h0 : nd.shp = []
  · have hl0 : l1 = 0 := by rw [← h1, h0]; rfl
    by_cases h5 : nd.kind = 5
    · have HF : Hid (headT nd = [226, 138, 130]) := Lib.hid (by unfold headT; rw [if_pos h0, if_pos h5])
      have h5b : (nd.kind == 5) = true := by rw [h5]; rfl
      subst hl0
      generalize nd.kind = kd at *
      clear hgn hnb hr hi hL h1 h0 h5 HC
      go_enter Tryz.func60, Tryz.ntmps60
      go_upto_region 1 with fail
      rw [HNB.out]
      generalize w.alloc (.cells #[.int .i64 kd, .slice A1 0 c1, .slice A2 l2 c2, .slice A3 l3 c3] 34) = w1 at *
      have b0 := HBX.out.at0
      have b1 := HBX.out.at1
      go_wp2
      go_ret
      exact ⟨by rw [HF.out]; rfl, HG.out⟩
    · have HF : Hid (headT nd = []) := Lib.hid (by unfold headT; rw [if_pos h0, if_neg h5])
      have h5b : (nd.kind == 5) = false := by rw [beq_eq_false_iff_ne]; exact h5
      subst hl0
      generalize nd.kind = kd at *
      clear hgn hnb hr hi hL h1 h0 h5 HC
      go_enter Tryz.func60, Tryz.ntmps60
      go_upto_region 1 with fail
      rw [HNB.out]
      generalize w.alloc (.cells #[.int .i64 kd, .slice A1 0 c1, .slice A2 l2 c2, .slice A3 l3 c3] 34) = w1 at *
      have b0 := HBX.out.at0
      have b1 := HBX.out.at1
      go_wp2
      go_ret
      exact ⟨by rw [HF.out]; rfl, HG.out⟩
  · have hl0 : 0 < l1 := by rw [← h1]; exact List.length_pos_iff.2 h0
    have HF : Hid (headT nd = Num.intsT nd.shp ++ [226, 141, 180]) := Lib.hid (by unfold headT; rw [if_neg h0]; rfl)
    have hlen : ¬ 140737488355327 < (Num.intsT nd.shp).length + 3 := by
      have := Num.ints_len hi
      omega
    have hap := Quo.str_app (Num.intsT nd.shp) [226, 141, 180]
    generalize nd.kind = kd at *
    clear hgn hnb hr hi hL h1 h0
    go_enter Tryz.func60, Tryz.ntmps60
    go_upto_region 1 with fail
    rw [HNB.out]
    generalize w.alloc (.cells #[.int .i64 kd, .slice A1 l1 c1, .slice A2 l2 c2, .slice A3 l3 c3] 34) = w1 at *
    have b1 := HBX.out.at1
    go_wp2_with fail
    refine (HC.out).mono ?_
    rintro e w2 ⟨rfl, hg2⟩
    have HG2 := Lib.hid (HG.out.trans hg2)
    clear hg2
    go_wp2
    go_ret
    exact ⟨by rw [HF.out]; rfl, HG2.out⟩

/-- what the program writes of a node without kids -/
def itemT (n : Nd) : List UInt8 := if n.kind = 3 then Quo.textQ n.ints else if n.kind = 4 then Num.decsT n.decs else if n.ints = [] then [48] else Num.intsT n.ints
theorem item_leaf {n : Nd} (h : Tid n) (h5 : n.kind ≠ 5) : itemT n = leafT n := by
  unfold itemT leafT numsT
  by_cases h3 : n.kind = 3
  · rw [if_pos h3, if_pos h3]
  · rw [if_neg h3, if_neg h3]
    obtain ⟨hrs, hfill⟩ := ok_right h.ok
    have hle := h.least h3 h5
    by_cases h4 : n.kind = 4
    · rw [if_pos h4, if_neg (by rintro ⟨_, h2, _⟩; omega), if_pos h4]
    · rw [if_neg h4]
      have hd0 : n.decs = [] := by
        unfold fillB at hfill
        by_cases h1 : n.kind = 1
        · rw [if_pos h1] at hfill
          simp only [Bool.and_eq_true, beq_iff_eq] at hfill
          exact List.eq_nil_of_length_eq_zero hfill.1.2
        · rw [if_neg h1] at hfill
          by_cases h2 : n.kind = 2
          · rw [if_pos h2] at hfill
            simp only [Bool.and_eq_true, beq_iff_eq] at hfill
            exact List.eq_nil_of_length_eq_zero hfill.2
          · rw [if_neg h2, if_neg h3, if_neg h4, if_neg h5] at hfill
            cases hfill
      by_cases hi : n.ints = []
      · have hv0 : valsN n = [] := by unfold valsN; rw [hi, hd0]; rfl
        have hk2 : n.kind = 2 := by rw [← hle, hv0]; rfl
        have hc0 : cnt n.shp = 0 := by
          have := (vals_ok h.ok h3 h.fit h.vals).2.2.2 h5
          rw [this, hv0]; rfl
        have hsh : n.shp ≠ [] := by
          intro e
          rw [e] at hc0
          exact absurd hc0 (by decide)
        rw [if_pos hi, if_pos ⟨hsh, hk2, hi, hd0⟩]
      · rw [if_neg hi, if_neg (by rintro ⟨_, _, h', _⟩; exact hi h'), if_neg h4]

set_option maxHeartbeats 3200000 in
theorem pitems_any (nd : Nd) (A1 : Option Addr) (l1 c1 : Nat) (A2 : Option Addr) (l2 c2 : Nat) (A3 : Option Addr) (l3 c3 : Nat) (w : World) (h2 : nd.ints.length = l2) (h3 : nd.decs.length = l3) (hn2 : l2 ≤ 100000) (hn3 : l3 ≤ 100000)
    (hr2 : Nums .i64 w w.heap.size A2 nd.ints) (hr3 : Decs w w.heap.size A3 nd.decs) (hi2 : ∀ x ∈ nd.ints, In x) (hi3 : ∀ x ∈ nd.decs, In x.1 ∧ In x.2) (hL : LaidN w) :
    Calls Tryz.prog 61 #[.agg #[.int .i64 nd.kind, .slice A1 l1 c1, .slice A2 l2 c2, .slice A3 l3 c3]] w fun e w' => e = .returned (.string ⟨(itemT nd).toArray⟩) ∧ Grow w w' := by
  have hgn := grow_new w (.cells #[.int .i64 nd.kind, .slice A1 l1 c1, .slice A2 l2 c2, .slice A3 l3 c3] 34)
  have HBX := Lib.hid (boxN_new w nd.kind A1 l1 c1 A2 l2 c2 A3 l3 c3)
  have HQ := Lib.hid (Quo.text_any A2 l2 c2 nd.ints _ h2 hn2 (hr2.grow hgn))
  have HI := Lib.hid (Num.ints_any A2 l2 c2 nd.ints _ h2 hn2 (hr2.grow hgn) hi2 (hL.grow hgn).1.pows)
  have HD := Lib.hid (Num.decs_any A3 l3 c3 nd.decs _ h3 hn3 (hr3.grow hgn) hi3 (hL.grow hgn).1.pows)
  have HG := Lib.hid hgn
  obtain ⟨nb, hnb⟩ : ∃ nb, w.heap.size = nb := ⟨_, rfl⟩
  have HNB := Lib.hid hnb
  rw [hnb] at HBX
  by_cases k3 : nd.kind = 3
  · have HF : Hid (itemT nd = Quo.textQ nd.ints) := Lib.hid (by unfold itemT; rw [if_pos k3])
    have kb : (nd.kind == 3) = true := by rw [k3]; rfl
    generalize nd.kind = kd at *
    clear hgn hnb hr2 hr3 hi2 hi3 hL h2 h3 k3 HI HD
    go_enter Tryz.func61, Tryz.ntmps61
    go_upto_region 1 with fail
    rw [HNB.out]
    generalize w.alloc (.cells #[.int .i64 kd, .slice A1 l1 c1, .slice A2 l2 c2, .slice A3 l3 c3] 34) = w1 at *
    have b0 := HBX.out.at0
    have b2 := HBX.out.at2
    go_wp2_with fail
    refine (HQ.out).mono ?_
    rintro e w2 ⟨rfl, hg2⟩
    have HG2 := Lib.hid (HG.out.trans hg2)
    clear hg2
    go_wp2
    go_ret
    exact ⟨by rw [HF.out]; rfl, HG2.out⟩
  · have kb : (nd.kind == 3) = false := by rw [beq_eq_false_iff_ne]; exact k3
    by_cases k4 : nd.kind = 4
    · have HF : Hid (itemT nd = Num.decsT nd.decs) := Lib.hid (by unfold itemT; rw [if_neg k3, if_pos k4])
      have kb4 : (nd.kind == 4) = true := by rw [k4]; rfl
      generalize nd.kind = kd at *
      clear hgn hnb hr2 hr3 hi2 hi3 hL h2 h3 k3 k4 HI HQ
      go_enter Tryz.func61, Tryz.ntmps61
      go_upto_region 1 with fail
      rw [HNB.out]
      generalize w.alloc (.cells #[.int .i64 kd, .slice A1 l1 c1, .slice A2 l2 c2, .slice A3 l3 c3] 34) = w1 at *
      have b0 := HBX.out.at0
      have b3 := HBX.out.at3
      go_wp2_with fail
      refine (HD.out).mono ?_
      rintro e w2 ⟨rfl, hg2⟩
      have HG2 := Lib.hid (HG.out.trans hg2)
      clear hg2
      go_wp2
      go_ret
      exact ⟨by rw [HF.out]; rfl, HG2.out⟩
    · have kb4 : (nd.kind == 4) = false := by rw [beq_eq_false_iff_ne]; exact k4
      by_cases hi : nd.ints = []
      · have HF : Hid (itemT nd = [48]) := Lib.hid (by unfold itemT; rw [if_neg k3, if_neg k4, if_pos hi])
        have hl0 : l2 = 0 := by rw [← h2, hi]; rfl
        subst hl0
        generalize nd.kind = kd at *
        clear hgn hnb hr2 hr3 hi2 hi3 hL h2 h3 k3 k4 HI HQ HD hi
        go_enter Tryz.func61, Tryz.ntmps61
        go_upto_region 1 with fail
        rw [HNB.out]
        generalize w.alloc (.cells #[.int .i64 kd, .slice A1 l1 c1, .slice A2 0 c2, .slice A3 l3 c3] 34) = w1 at *
        have b0 := HBX.out.at0
        have b2 := HBX.out.at2
        go_wp2
        go_ret
        exact ⟨by rw [HF.out]; rfl, HG.out⟩
      · have HF : Hid (itemT nd = Num.intsT nd.ints) := Lib.hid (by unfold itemT; rw [if_neg k3, if_neg k4, if_neg hi])
        have hl0 : 0 < l2 := by rw [← h2]; exact List.length_pos_iff.2 hi
        have hlb : (((l2 : Nat) : Int) == 0) = false := by rw [beq_eq_false_iff_ne]; omega
        generalize nd.kind = kd at *
        clear hgn hnb hr2 hr3 hi2 hi3 hL h2 h3 k3 k4 HQ HD hi
        go_enter Tryz.func61, Tryz.ntmps61
        go_upto_region 1 with fail
        rw [HNB.out]
        generalize w.alloc (.cells #[.int .i64 kd, .slice A1 l1 c1, .slice A2 l2 c2, .slice A3 l3 c3] 34) = w1 at *
        have b0 := HBX.out.at0
        have b2 := HBX.out.at2
        go_wp2_with fail
        refine (HI.out).mono ?_
        rintro e w2 ⟨rfl, hg2⟩
        have HG2 := Lib.hid (HG.out.trans hg2)
        clear hg2
        go_wp2
        go_ret
        exact ⟨by rw [HF.out]; rfl, HG2.out⟩
end Go.Proofs.YteoogioanjkacaaGreatDoor
namespace Go.Proofs.YteoogioanjkacaaGreatDoor
set_option maxRecDepth 20000
open Go.RowKit Go.Lib
set_option linter.unusedVariables false
set_option linter.unusedSimpArgs false
/-- a node as the writer takes it -/
def Wr (m : Nd) : Prop := Tid m ∧ m.ints.length ≤ 100000 ∧ m.decs.length ≤ 100000
theorem Wr.parts {m : Nd} (h : Wr m) : m.shp.length ≤ 16 ∧ (∀ x ∈ m.shp, In x) ∧ (∀ x ∈ m.ints, In x) ∧ (∀ x ∈ m.decs, In x.1 ∧ In x.2) := by
  obtain ⟨hrs, _⟩ := ok_right h.1.ok
  exact ⟨(right_iff.1 hrs).1, shp_in hrs, h.1.vals, h.1.fit.2.2.2.2⟩
def WriP (B b : Nat) (q x : List UInt8) (L : List Nd) (w : World) (e : Ending) (w' : World) : Prop :=
  ∃ A' n' c', e = .returned (.slice A' n' c') ∧ L.length = n' ∧ n' ≤ c' ∧ Nodes w' B A' L ∧ Bld B b (q ++ x) w' ∧ Below B w w'

theorem catN_mono (p : List Nd → Option St) (f : List Nd → List UInt8) (l : List Nd) (j : Nat) : ∀ c, j ≤ c → (catN p f j l).length ≤ (catN p f c l).length
  | 0, h => by obtain rfl : j = 0 := by omega
               exact Nat.le_refl _
  | c + 1, h => by
    by_cases he : j = c + 1
    · rw [he]; exact Nat.le_refl _
    · have := catN_mono p f l j c (by omega)
      show _ ≤ (catN p f c l ++ _).length
      rw [List.length_append]
      omega
theorem Bld.lt {B b : Nat} {q : List UInt8} {w : World} (h : Bld B b q w) : b < w.heap.size := h.elim BuilderAtF.lt BuilderAtF.lt
set_option maxHeartbeats 12800000 in
theorem pwrite_any : ∀ (d B b : Nat) (q : List UInt8) (A : Option Addr) (n c : Nat) (ns : List Nd) (s : St) (w : World), par d ns = some s → (∀ m ∈ ns.take s.n, Wr m) → ns.length = n → n ≤ 1100000 → n ≤ c → Nodes w B A ns → Bld B b q w → B ≤ w.heap.size → q.length + (noteF d ns).length ≤ 140737488355328 → LaidG B w →
    Calls Tryz.prog 27 #[.pointer (some ⟨b, 0, none⟩), .slice A n c] w (WriP B b q (noteF d ns) (ns.drop s.n) w) := by
  intro d
  induction d with
  | zero => intro B b q A n c ns s w hp; cases hp
  | succ d ih =>
    intro B b q A n c ns s w hp hW hn hnb hnc hns hbld hBw hlen hL
    obtain ⟨e', nd, l', t, he, rfl, hok, hpk, rfl⟩ := par_parts hp
    obtain rfl : d = e' := by omega
    obtain ⟨nl, hnl⟩ : ∃ nl, l'.length = nl := ⟨_, rfl⟩
    have hn1 : n = nl + 1 := by rw [← hn, List.length_cons, hnl]
    subst hn1
    have hWn : Wr nd := hW nd (by simp [top])
    have hWk : ∀ m ∈ l'.take t.n, Wr m := fun m hm => hW m (by
      have : (nd :: l').take (top nd t).n = nd :: l'.take t.n := rfl
      rw [this]; simp [hm])
    obtain ⟨w1, w2, w3, w4⟩ := hWn.parts
    have HWN := Lib.hid hWn
    have HWK := Lib.hid hWk
    have HPK := Lib.hid hpk
    have HNL := Lib.hid hnl
    have HL := Lib.hid hL
    have HBL := Lib.hid hbld
    have IH := Lib.hid ih
    have HNO : Hid (noteF (d + 1) (nd :: l') = headT nd ++ if nd.kind = 5 then catN (par d) (noteF d) (kc nd) l' else leafT nd) := Lib.hid (noteF_cons d nd l')
    have HDR : Hid ((nd :: l').drop (top nd t).n = l'.drop t.n) := Lib.hid rfl
    obtain ⟨b0, off, rfl, hb0, hat⟩ := hns (by simp)
    have HNS := Lib.hid hns
    obtain ⟨A1, c1, A2, c2, A3, c3, p0, p1, p2, p3, m1, m2, m3⟩ := hat 0 (by simp)
    rw [Nat.zero_mul, Nat.add_zero] at p0 p1 p2 p3
    rw [show (nd :: l').getD 0 nd0 = nd from rfl] at p0 p1 p2 p3 m1 m2 m3
    have HM := Lib.hid (show Nums .i64 w B A1 nd.shp ∧ Nums .i64 w B A2 nd.ints ∧ Decs w B A3 nd.decs from ⟨m1, m2, m3⟩)
    have hs1 : ∀ W : World, (Instr.slice 22 (.slice (some ⟨b0, off, none⟩) (nl + 1) c) (some (.int .i64 1)) none none).run Tryz.prog W = .ok (.slice (cutA (some ⟨b0, off, none⟩) c 1) nl (c - 1)) W := fun W => run_cut_lo (some ⟨b0, off, none⟩) (nl + 1) c 1 (by omega) W
    obtain ⟨AL, hAL⟩ : ∃ AL, cutA (some ⟨b0, off, none⟩) c 1 = AL := ⟨_, rfl⟩
    rw [hAL] at hs1
    have HAL := Lib.hid hAL
    clear hok hpk hnl hL hbld ih hat m1 m2 m3 hns hp hW hWn hWk hAL hn he
    obtain ⟨l1, hl1⟩ : ∃ l1, nd.shp.length = l1 := ⟨_, rfl⟩
    obtain ⟨l2, hl2⟩ : ∃ l2, nd.ints.length = l2 := ⟨_, rfl⟩
    obtain ⟨l3, hl3⟩ : ∃ l3, nd.decs.length = l3 := ⟨_, rfl⟩
    have HL1 := Lib.hid hl1
    have HL2 := Lib.hid hl2
    have HL3 := Lib.hid hl3
    rw [hl1] at p1 w1
    rw [hl2] at p2
    rw [hl3] at p3
    clear hl1 hl2 hl3
    obtain ⟨nb, hnb⟩ : ∃ nb, w.heap.size = nb := ⟨_, rfl⟩
    have HNB := Lib.hid hnb
    have hbx := boxN_new w nd.kind A1 l1 c1 A2 l2 c2 A3 l3 c3
    rw [hnb] at hbx
    have HBX := Lib.hid hbx
    have HG1 := Lib.hid (grow_new w (.cells #[.int .i64 nd.kind, .slice A1 l1 c1, .slice A2 l2 c2, .slice A3 l3 c3] 34))
    have HIN := Lib.hid (show (∀ x ∈ nd.shp, In x) ∧ (∀ x ∈ nd.ints, In x) ∧ (∀ x ∈ nd.decs, In x.1 ∧ In x.2) from ⟨w2, w3, w4⟩)
    clear hbx w2 w3 w4
    obtain ⟨kd, hkd⟩ : ∃ kd, nd.kind = kd := ⟨_, rfl⟩
    have HKD := Lib.hid hkd
    rw [hkd] at p0 HBX HG1
    clear hkd
    have hB0 : b0 < B := hb0
    go_enter Tryz.func27, Tryz.ntmps27
    have hpos : (0 : Int) < ((nl + 1 : Nat) : Int) := by omega
    go_wp2
    refine wp_region_R ((Below nb)) (n := 8) rfl (by kernel_rfl) ?_
    intro W0 hW0e hW0
    have HW0 := Lib.hid hW0
    have HZ0 : Hid (W0.heap.size = nb) := Lib.hid (by rw [hW0e]; exact HNB.out)
    have hBn : B ≤ nb := by rw [← HNB.out]; exact hBw
    have f0 : ∀ wg, Below nb W0 wg → wg.cell? ⟨b0, off, none⟩ = some (.int .i64 kd) := fun wg h => (h.cell (by show b0 < nb; omega)).trans ((HW0.out.cell (by show b0 < w.heap.size; omega)).trans p0)
    have f1 : ∀ wg, Below nb W0 wg → wg.cell? ⟨b0, off + 1, none⟩ = some (.slice A1 l1 c1) := fun wg h => (h.cell (by show b0 < nb; omega)).trans ((HW0.out.cell (by show b0 < w.heap.size; omega)).trans p1)
    have f2 : ∀ wg, Below nb W0 wg → wg.cell? ⟨b0, off + 2, none⟩ = some (.slice A2 l2 c2) := fun wg h => (h.cell (by show b0 < nb; omega)).trans ((HW0.out.cell (by show b0 < w.heap.size; omega)).trans p2)
    have f3 : ∀ wg, Below nb W0 wg → wg.cell? ⟨b0, off + 3, none⟩ = some (.slice A3 l3 c3) := fun wg h => (h.cell (by show b0 < nb; omega)).trans ((HW0.out.cell (by show b0 < w.heap.size; omega)).trans p3)
    clear hW0e
    refine wpR_take (belowOrd nb) (i := 0) (v := ?vf1) rfl (by kernel_rfl) (by kernel_rfl) (by kernel_rfl) (fun _ _ _ h => h) (by rfl) ?hf1 ?rf1
    case hf1 => (intro wg hSw; go_simp <;> with_reducible rfl)
    simp only [Act.put, List.setIfInBounds_toArray, List.set_cons_zero, List.set_cons_succ]
    refine wpR_take (belowOrd nb) (i := 1) (v := ?vf2) rfl (by kernel_rfl) (by kernel_rfl) (by kernel_rfl) (fun _ _ _ h => h) (by rfl) ?hf2 ?rf2
    case hf2 => (intro wg hSw; go_simp <;> with_reducible rfl)
    simp only [Act.put, List.setIfInBounds_toArray, List.set_cons_zero, List.set_cons_succ]
    refine wpR_take (belowOrd nb) (i := 2) (v := ?vf3) rfl (by kernel_rfl) (by kernel_rfl) (by kernel_rfl) (fun _ _ _ h => h) (by rfl) ?hf3 ?rf3
    case hf3 => (intro wg hSw; go_simp <;> with_reducible rfl)
    simp only [Act.put, List.setIfInBounds_toArray, List.set_cons_zero, List.set_cons_succ]
    refine wpR_take (belowOrd nb) (i := 3) (v := ?vf4) rfl (by kernel_rfl) (by kernel_rfl) (by kernel_rfl) (fun _ _ _ h => h) (by rfl) ?hf4 ?rf4
    case hf4 => (intro wg hSw; go_simp <;> with_reducible rfl)
    simp only [Act.put, List.setIfInBounds_toArray, List.set_cons_zero, List.set_cons_succ]
    refine wpR_take (belowOrd nb) (i := 4) (v := ?vf5) rfl (by kernel_rfl) (by kernel_rfl) (by kernel_rfl) (fun _ _ _ h => h) (by rfl) ?hf5 ?rf5
    case hf5 => (intro wg hSw; go_simp <;> with_reducible rfl)
    simp only [Act.put, List.setIfInBounds_toArray, List.set_cons_zero, List.set_cons_succ]
    refine wpR_one (i := 5) (by kernel_rfl) ?_
    refine wpR_op (i := 5) rfl (by rfl) (fun K hK => ?_)
    go_simp
    refine hK.out _ _ (Below.mono (grow_new _ _) (by rw [← HZ0.out]; exact ((((belowOrd nb)).refl W0)).size)) ?_
    clear hK K
    try simp only [Act.put, List.setIfInBounds_toArray, List.set_cons_zero, List.set_cons_succ]
    have hb5 := boxN_new W0 0 none 0 0 none 0 0 none 0 0
    have hN5 := grow_new W0 (.cells #[.int .i64 0, .slice none 0 0, .slice none 0 0, .slice none 0 0] 34)
    rw [HZ0.out] at hb5 ⊢
    generalize hwM5 : World.alloc W0 (Obj.cells #[.int .i64 0, .slice none 0 0, .slice none 0 0, .slice none 0 0] 34) = wM5 at *
    have hM5 : Below nb W0 wM5 := Below.mono hN5 (by rw [← HZ0.out]; exact ((((belowOrd nb)).refl W0)).size)
    have HB5 := Lib.hid hb5
    clear hwM5 hb5
    refine wpR_one (i := 6) (by kernel_rfl) ?_
    refine wpR_op (i := 6) rfl (by rfl) (fun K hK => ?_)
    have z0 := HB5.out.froz 0
    have z1 := HB5.out.froz 1
    have z2 := HB5.out.froz 2
    have z3 := HB5.out.froz 3
    have y0 := HB5.out.at0
    have y1 := HB5.out.at1
    have y2 := HB5.out.at2
    have y3 := HB5.out.at3
    go_simp
    refine hK.out _ _ (below_put4 (Nat.le_refl _) _ _ _ _) ?_
    clear hK K z0 z1 z2 z3 y0 y1 y2 y3
    try simp only [Act.put, List.setIfInBounds_toArray, List.set_cons_zero, List.set_cons_succ]
    have hb6 := HB5.out.store kd A1 A2 A3 l1 c1 l2 c2 l3 c3
    have hM6 : Below nb wM5 ((((wM5).setCell ⟨nb, 0, none⟩ (.int .i64 kd)).setCell ⟨nb, 1, none⟩ (.slice A1 l1 c1)).setCell ⟨nb, 2, none⟩ (.slice A2 l2 c2) |>.setCell ⟨nb, 3, none⟩ (.slice A3 l3 c3)) := below_put4 (Nat.le_refl _) _ _ _ _
    generalize hwM6 : World.setCell _ _ _ = wM6 at *
    have hN6 := hM6
    have HB6 := Lib.hid hb6
    clear hwM6 hb6
    refine wpR_take (belowOrd nb) (i := 7) (v := ?vf6) rfl (by kernel_rfl) (by kernel_rfl) (by kernel_rfl) (fun _ _ _ h => h) (by rfl) ?hf6 ?rf6
    case hf6 => (intro wg hSw; go_simp <;> with_reducible rfl)
    simp only [Act.put, List.setIfInBounds_toArray, List.set_cons_zero, List.set_cons_succ]
    refine wpR_done (by kernel_rfl) ?_
    have HGW : Hid (Grow w wM6) := Lib.hid (by
      have h1 : Below nb w W0 := by rw [← HNB.out]; exact HW0.out
      have h2 := Below.trans h1 (((belowOrd nb)).trans (((belowOrd nb)).trans (((belowOrd nb)).refl W0) hM5) hM6)
      rw [← HNB.out] at h2
      exact h2)
    have HBX6 : Hid (BoxN wM6 nb kd A1 l1 c1 A2 l2 c2 A3 l3 c3) := HB6
    generalize wM6 = w6 at HGW HBX6 ⊢
    have hBB : Hid (Below B w w6) := Lib.hid (Below.mono HGW.out hBw)
    have hB6 : B ≤ w6.heap.size := Nat.le_trans hBw HGW.out.size
    have HL6 := Lib.hid (HL.out.below hBB.out)
    have HBL6 := Lib.hid (HBL.out.grow HGW.out)
    have HCUT : Hid (Nodes w6 B AL l') := Lib.hid (by
      have h := (HNS.out.below hBB.out).cut c 1 (by rw [List.length_cons, HNL.out]; exact hnc)
      rw [HAL.out] at h
      exact h)
    have HFR := pfront_any nd A1 l1 c1 A2 l2 c2 A3 l3 c3 w6 HL1.out (by omega) ((HM.out.1.below hBB.out).more hB6) HIN.out.1 HL6.out.now
    rw [HKD.out] at HFR
    have HFR := Lib.hid HFR
    have hln : (noteF (d + 1) (nd :: l')).length = (headT nd).length + (if nd.kind = 5 then catN (par d) (noteF d) (kc nd) l' else leafT nd).length := by rw [HNO.out, List.length_append]
    rw [hln] at hlen
    rw [HKD.out] at hlen HNO
    have HWR7 := Lib.hid (fun W (hg : Grow w6 W) => write_any B b q (headT nd) W (HBL6.out.grow hg) (by omega) (Nat.le_trans hB6 hg.size))
    have x0 := HBX6.out.at0
    have x1 := HBX6.out.at1
    have x2 := HBX6.out.at2
    have x3 := HBX6.out.at3
    clear HBX HG1 f0 f1 f2 f3 p0 p1 p2 p3 hs1 hln HW0 HZ0 HNS
    go_wp2_with fail
    refine (HFR.out).mono ?_
    rintro e w7 ⟨rfl, hg7⟩
    have HG7 := Lib.hid hg7
    have HBX7 := Lib.hid (HBX6.out.grow hg7)
    clear hg7 HFR x0 x1 x2 x3
    go_wp2_with fail
    refine (HWR7.out w7 HG7.out).mono ?_
    rintro e w8 ⟨⟨x, rfl⟩, hb8, hB8, ho8⟩
    have HB8 := Lib.hid hb8
    have HBX8 : Hid (BoxN w8 nb kd A1 l1 c1 A2 l2 c2 A3 l3 c3) := Lib.hid (box_others ho8 HBX7.out (by have := HBL.out.lt; rw [HNB.out] at this; omega))
    have HF8 : Hid (Below B w w8) := Lib.hid (Below.trans hBB.out (Below.trans (Below.mono HG7.out hB6) hB8))
    have HS8 : Hid (B ≤ w8.heap.size) := Lib.hid (Nat.le_trans hBw HF8.out.size)
    have HL8 := Lib.hid (HL.out.below HF8.out)
    have HF68 : Hid (Below B w6 w8) := Lib.hid (Below.trans (Below.mono HG7.out hB6) hB8)
    have HC8 := Lib.hid (HCUT.out.below HF68.out)
    clear hb8 hB8 ho8 HWR7 HBX7 HBX6 HL6 HBL6 HCUT
    have x0 := HBX8.out.at0
    have x1 := HBX8.out.at1
    have x2 := HBX8.out.at2
    have x3 := HBX8.out.at3
    by_cases hk5 : kd = 5
    · have hkb : (kd != 5) = false := by rw [hk5]; rfl
      have HKC : Hid (kc nd = cnt nd.shp) := Lib.hid (by unfold kc; rw [HKD.out]; exact if_pos hk5)
      rw [if_pos hk5] at hlen HNO
      obtain ⟨ι, hι⟩ : ∃ ι, cnt nd.shp = ι := ⟨_, rfl⟩
      rw [HKC.out, hι] at hlen HNO
      have HPI : Hid (parK (par d) ι l' = some t) := Lib.hid (by rw [← hι, ← HKC.out]; exact HPK.out)
      have hιb : ι ≤ 1048576 := hι ▸ cnt_le1 _
      have HCN := Lib.hid (count_any A1 l1 c1 nd.shp w8 HL1.out (by omega) ((HM.out.1.below HF8.out).more HS8.out))
      rw [hι] at HCN
      have HHD : Hid (∃ hd, headT nd = hd) := Lib.hid ⟨_, rfl⟩
      obtain ⟨hd, hhd⟩ := HHD.out
      rw [hhd] at HB8 hlen HNO
      clear hι hk5 hhd HHD
      go_wp2_with fail
      refine (HCN.out).mono ?_
      rintro x w8 ⟨rfl, rfl⟩
      clear x0 x1 x2 x3 HCN HBX8
      go_wp2
      go_loopg [6, 33] ι (fun gk s6 s33 wr => ∃ (j f cl : Nat) (u : St) (AL' : Option Addr), j ≤ ι ∧ gk = ι - j ∧ s33 = .int .i64 (j : Nat) ∧ s6 = .slice AL' f cl ∧ f ≤ cl ∧ Hid (parK (par d) j l' = some u) ∧ Hid ((l'.drop u.n).length = f) ∧
        Hid (Nodes wr B AL' (l'.drop u.n)) ∧ Hid (Bld B b (q ++ hd ++ catN (par d) (noteF d) j l') wr) ∧ Hid (Below B w8 wr))
      case atStart =>
        exact ⟨0, nl, c - 1, st0, AL, Nat.zero_le _, rfl, rfl, rfl, by omega, Lib.hid rfl, Lib.hid HNL.out, HC8, Lib.hid (by show Bld B b (q ++ hd ++ []) w8; rw [List.append_nil]; exact HB8.out), Lib.hid (Below.refl _ _)⟩
      case round =>
        obtain ⟨j, f, cl, u, AL', hj, rfl, rfl, rfl, hfc, HPJ, HFL, HNJ, HBJ, HFR⟩ := hrel
        by_cases hjl : j < ι
        · have hji : ((j : Nat) : Int) < ((ι : Nat) : Int) := by omega
          obtain ⟨a', ha', hAn, _⟩ := parK_to HPI.out (j + 1) hjl
          obtain ⟨x, y, hx, hy, rfl⟩ := parK_some ha'
          rw [HPJ.out] at hx
          cases hx
          have hyn := (par_len hy).2.1
          have hfl := HFL.out
          have HCS := Lib.hid (catN_succ (f := noteF d) HPJ.out)
          have hcm := catN_mono (par d) (noteF d) l' (j + 1) ι hjl
          rw [HCS.out] at hcm
          simp only [List.length_append, List.length_cons, List.length_nil] at hcm
          have hszr : B ≤ wr.heap.size := Nat.le_trans HS8.out HFR.out.size
          have HLR := Lib.hid (HL8.out.below HFR.out)
          have HO1 := Lib.hid (write_any B b (q ++ hd ++ catN (par d) (noteF d) j l') [40] wr HBJ.out (by simp only [List.length_append, List.length_cons, List.length_nil]; omega) hszr)
          obtain ⟨qc, hqc⟩ : ∃ qc, q ++ hd ++ catN (par d) (noteF d) j l' = qc := ⟨_, rfl⟩
          have hqcl : qc.length = q.length + hd.length + (catN (par d) (noteF d) j l').length := by rw [← hqc]; simp only [List.length_append]
          have HQC := Lib.hid hqc
          rw [hqc] at HO1
          have HWD : Hid (∀ m ∈ (l'.drop u.n).take y.n, Wr m) := Lib.hid (fun m hm => HWK.out m (by
            have e : l'.take (u.plus y).n = l'.take u.n ++ (l'.drop u.n).take y.n := take_app_part
            have h1 : m ∈ l'.take (u.plus y).n := by rw [e]; exact List.mem_append_right _ hm
            have h2 : l'.take (u.plus y).n = (l'.take t.n).take (u.plus y).n := by rw [List.take_take]; congr 1; omega
            rw [h2] at h1
            exact List.mem_of_mem_take h1))
          have HC : Hid (∀ W, Below B wr W → Bld B b (qc ++ [40]) W → Calls Tryz.prog 27 #[.pointer (some ⟨b, 0, none⟩), .slice AL' f cl] W (WriP B b (qc ++ [40]) (noteF d (l'.drop u.n)) ((l'.drop u.n).drop y.n) W)) :=
            Lib.hid (fun W hW hb => IH.out B b (qc ++ [40]) AL' f cl (l'.drop u.n) y W hy HWD.out HFL.out (by rw [List.length_drop, HNL.out] at hfl; omega) hfc (HNJ.out.below hW) hb (Nat.le_trans hszr hW.size) (by rw [List.length_append, hqcl]; simp only [List.length_cons, List.length_nil]; omega) (HLR.out.below hW))
          have HA := Lib.hid ha'
          have hnx : (qc ++ [40] ++ noteF d (l'.drop u.n)).length + 1 ≤ 140737488355328 := by simp only [List.length_append, List.length_cons, List.length_nil, hqcl]; omega
          clear ha' hy hqc
          generalize hNT : noteF d (l'.drop u.n) = NT at *
          go_wp2_with fail
          refine (HO1.out).mono ?_
          rintro e v1 ⟨⟨x1, rfl⟩, hb1, hB1, _⟩
          have HK1 := Lib.hid (HC.out v1 hB1 hb1)
          have HF1 := Lib.hid (Below.trans HFR.out hB1)
          clear hb1 hB1 HO1 HC
          go_wp2_with fail
          refine (HK1.out).mono ?_
          rintro e v2 ⟨A2', n2', c2', rfl, hl2, hc2, hns2, hb2, hB2⟩
          have HF2 := Lib.hid (Below.trans HF1.out hB2)
          have HO2 := Lib.hid (write_any B b (qc ++ [40] ++ NT) [41] v2 hb2 hnx (Nat.le_trans HS8.out HF2.out.size))
          have HN2 := Lib.hid hns2
          have HE2 := Lib.hid hl2
          clear hl2 hns2 hb2 hB2 HK1
          go_wp2_with fail
          refine (HO2.out).mono ?_
          rintro e v3 ⟨⟨x3, rfl⟩, hb3, hB3, _⟩
          have HF3 := Lib.hid (Below.trans HF2.out hB3)
          have HN3 := Lib.hid (HN2.out.below hB3)
          have HB3 : Hid (Bld B b (q ++ hd ++ catN (par d) (noteF d) (j + 1) l') v3) := Lib.hid (by
            rw [HCS.out, ← List.append_assoc, HQC.out]
            have e : qc ++ 40 :: (NT ++ [41]) = qc ++ [40] ++ NT ++ [41] := by simp
            rw [e]
            exact hb3)
          have e2 : l'.drop (u.plus y).n = (l'.drop u.n).drop y.n := by rw [List.drop_drop]; rfl
          have HE3 : Hid ((l'.drop (u.plus y).n).length = n2') := Lib.hid (by rw [e2]; exact HE2.out)
          have HN4 : Hid (Nodes v3 B A2' (l'.drop (u.plus y).n)) := Lib.hid (by rw [e2]; exact HN3.out)
          clear hb3 hB3 HO2 HN2 HN3 e2 HE2
          go_wp2
          go_roundg (ι - (j + 1))
          case rel => exact ⟨j + 1, n2', c2', u.plus y, A2', hjl, rfl, rfl, rfl, hc2, HA, HE3, HN4, HB3, HF3⟩
          case measure => omega
        · obtain rfl : j = ι := by omega
          have hut := HPJ.out
          rw [HPI.out] at hut
          cases hut
          go_wp2
          go_ret
          exact ⟨AL', f, cl, rfl, HFL.out, hfc, HNJ.out, by rw [HNO.out, ← List.append_assoc]; exact HBJ.out, Below.trans HF8.out HFR.out⟩
    · have hkb : (kd != 5) = true := by rw [bne_iff_ne]; exact hk5
      have HIT := pitems_any nd A1 l1 c1 A2 l2 c2 A3 l3 c3 w8 HL2.out HL3.out (by rw [← HL2.out]; exact HWN.out.2.1) (by rw [← HL3.out]; exact HWN.out.2.2) ((HM.out.2.1.below HF8.out).more HS8.out) ((HM.out.2.2.below HF8.out).more HS8.out) HIN.out.2.1 HIN.out.2.2 HL8.out.now
      rw [item_leaf HWN.out.1 (by rw [HKD.out]; exact hk5), HKD.out] at HIT
      have HIT := Lib.hid HIT
      rw [if_neg hk5] at hlen HNO
      have HWR9 := Lib.hid (fun W (hg : Grow w8 W) => write_any B b (q ++ headT nd) (leafT nd) W (HB8.out.grow hg) (by rw [List.length_append]; omega) (Nat.le_trans HS8.out hg.size))
      have HPZ := HPK.out
      rw [show kc nd = 0 by unfold kc; rw [HKD.out, if_neg hk5], parK_zero] at HPZ
      obtain rfl : st0 = t := by cases HPZ; rfl
      clear HPZ hk5
      go_wp2_with fail
      refine (HIT.out).mono ?_
      rintro e w9 ⟨rfl, hg9⟩
      have HG9 := Lib.hid hg9
      clear hg9 HIT x0 x1 x2 x3
      go_wp2_with fail
      refine (HWR9.out w9 HG9.out).mono ?_
      rintro e w10 ⟨⟨x, rfl⟩, hb10, hB10, _⟩
      have HB10 := Lib.hid hb10
      have HF10 : Hid (Below B w8 w10) := Lib.hid (Below.trans (Below.mono HG9.out HS8.out) hB10)
      clear hb10 hB10 HWR9
      go_wp2
      go_ret
      exact ⟨AL, nl, c - 1, rfl, HNL.out, by omega, HC8.out.below HF10.out, by rw [HNO.out, ← List.append_assoc]; exact HB10.out, Below.trans HF8.out HF10.out⟩
end Go.Proofs.YteoogioanjkacaaGreatDoor
namespace Go.Proofs.YteoogioanjkacaaGreatDoor
set_option maxRecDepth 20000
open Go.RowKit Go.Lib
set_option linter.unusedSimpArgs false
set_option linter.unusedVariables false
/-- nodes in a row of one's own, all else in new memory too, and in no block of X -/
def OwnRX (X : Nat → Prop) (B : Nat) (v : Value) (ns : List Nd) (w : World) : Prop :=
  B ≤ w.heap.size ∧ ∃ vals, w.ownsRow B 34 4 v ns.length vals ∧ ∀ i, i < ns.length → HeldN (fun b => B ≤ b ∧ v.ownBlock ≠ some b ∧ b < w.heap.size ∧ ¬ X b) w (fun j => vals.getD j undef) i (ns.getD i nd0)
theorem OwnRX.nodes {X : Nat → Prop} {B : Nat} {v : Value} {ns : List Nd} {w : World} (h : OwnRX X B v ns w) : ∃ A c, v = .slice A ns.length c ∧ ns.length ≤ c ∧ NodesT (fun b => B ≤ b ∧ b < w.heap.size) w A ns := by
  obtain ⟨hB, vals, ho, hn⟩ := h
  exact OwnRN.nodes ⟨hB, vals, ho, fun i hi => (hn i hi).keep (fun b hb => ⟨⟨hb.1, hb.2.1, hb.2.2.1⟩, rfl⟩) (fun _ _ _ => rfl)⟩
theorem OwnRX.lt {X : Nat → Prop} {B : Nat} {v : Value} {ns : List Nd} {w : World} (h : OwnRX X B v ns w) {q : Nat} (hq : v.ownBlock = some q) : B ≤ q ∧ q < w.heap.size := by
  obtain ⟨hB, vals, ho, hn⟩ := h
  exact ho.lt q hq
/-- three rows of one's own in unlike blocks: nodes, whole numbers, exact ones -/
def Trio (B : Nat) (v7 v8 v9 : Value) (ns : List Nd) (xs : List Int) (ds : List (Int × Int)) (w : World) : Prop :=
  OwnRX (fun b => v8.ownBlock = some b ∨ v9.ownBlock = some b) B v7 ns w ∧ OwnI B v8 xs w ∧ OwnD B v9 ds w ∧ (∀ q, v7.ownBlock = some q → v8.ownBlock ≠ some q ∧ v9.ownBlock ≠ some q) ∧ ∀ q, v8.ownBlock = some q → v9.ownBlock ≠ some q
theorem Trio.grow {B : Nat} {v7 v8 v9 : Value} {ns : List Nd} {xs : List Int} {ds : List (Int × Int)} {w w' : World} (h : Trio B v7 v8 v9 ns xs ds w) (hg : Grow w w') : Trio B v7 v8 v9 ns xs ds w' := by
  obtain ⟨⟨hB, vals, ho, hn⟩, h8, h9, hu⟩ := h
  exact ⟨⟨Nat.le_trans hB hg.size, vals, ownsRow_grow ho hg, fun i hi => (hn i hi).keep (fun b hb => ⟨⟨hb.1, hb.2.1, Nat.lt_of_lt_of_le hb.2.2.1 hg.size, hb.2.2.2⟩, hg.block b hb.2.2.1⟩) (fun _ _ _ => rfl)⟩, h8.grow hg, h9.grow hg, hu⟩
theorem Trio.size {B : Nat} {v7 v8 v9 : Value} {ns : List Nd} {xs : List Int} {ds : List (Int × Int)} {w : World} (h : Trio B v7 v8 v9 ns xs ds w) : B ≤ w.heap.size := h.1.1
end Go.Proofs.YteoogioanjkacaaGreatDoor
