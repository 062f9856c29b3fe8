/-
  What strconv.FormatInt comes to at base sixteen, and strings.ToUpper of it.
-/
import Derived.Test.YtcdjilipmjjjkaaDoorHexs
namespace Go.Proofs.YtcdjilipmjjjkaaDoor
open Go.RowKit Go.Lib

/-- the row of which the last hold q, what is left of the number is u -/
structure HexAt (c g : Nat) (w : World) (u i : Nat) (q : List UInt8) (wr : World) : Prop where
  len : i + q.length = 65
  eq : hexL c = hexL u ++ q
  row : wr.rowIs g 81 65 (rowF i q)
  grow : Grow w wr

theorem hexAt_put {c g u u' m d : Nat} {q : List UInt8} {w wr : World} (h : HexAt c g w u (m + 1) q wr) (hg : w.heap.size ≤ g) (he : hexL c = hexL u' ++ hexLow d :: q) :
    HexAt c g w u' m (hexLow d :: q) (wr.setCell ⟨g, m, none⟩ (.int .u8 ((hexLow d).toNat : Nat))) := by
  have hl := h.len
  refine ⟨by rw [List.length_cons]; omega, he, ?_, Below.setCell h.grow hg _⟩
  refine (h.row.set m _).congr fun j hj => ?_
  unfold rowF
  by_cases e : j = m
  · subst e
    simp
  · by_cases e2 : j < m
    · simp [e, e2, show j < m + 1 by omega]
    · rw [if_neg e, if_neg (show ¬ j < m + 1 by omega), if_neg e2, show j - m = (j - (m + 1)) + 1 by omega, List.getD_cons_succ]

theorem hexRow_put {c g u m d : Nat} {q : List UInt8} {w wr : World} (h : HexAt c g w u (m + 1) q wr) : (wr.setCell ⟨g, m, none⟩ (.int .u8 ((hexLow d).toNat : Nat))).rowIs g 81 65 (rowF m (hexLow d :: q)) := by
  refine (h.row.set m _).congr fun j hj => ?_
  unfold rowF
  by_cases e : j = m
  · subst e
    simp
  · by_cases e2 : j < m
    · simp [e, e2, show j < m + 1 by omega]
    · rw [if_neg e, if_neg (show ¬ j < m + 1 by omega), if_neg e2, show j - m = (j - (m + 1)) + 1 by omega, List.getD_cons_succ]

theorem slice_row (g m : Nat) (hm : m < 65) (W : World) : (Instr.sliceAt 81 (.pointer (some ⟨g, 0, none⟩)) (some (.int .i64 (m : Nat))) none none).run Tryd.prog W = .ok (.slice (some ⟨g, m, none⟩) (65 - m) (65 - m)) W := by
  have hal : Tryd.prog.arrayLen 81 = 65 := by kernel_rfl
  rw [run_sliceAt_array_l W 81 ⟨g, 0, none⟩ (by kernel_rfl) .i64 (m : Int) (by omega) (by rw [hal]; omega)]
  rw [hal, show Tryd.prog.elem 81 = 5 by kernel_rfl]
  have hz : (sizeOf 5).run Tryd.prog W = .ok 1 W := by
    have : (Tryd.prog.info? 5).map (·.size) = some 1 := by kernel_rfl
    obtain ⟨i, hi, hs⟩ := Option.map_eq_some_iff.1 this
    simp [sizeOf, typeInfo, hi, hs]
  rw [hz]
  simp only [Result.andThen_ok, slicedAt, Int.toNat_natCast, Nat.mul_one]
  rw [if_neg (by omega), Addr.add_lit, Nat.zero_add]

theorem conv_row {g m : Nat} {q : List UInt8} {W : World} (hl : m + q.length = 65) (h : W.rowIs g 81 65 (rowF m q)) :
    (convert 27 9 (.slice (some ⟨g, m, none⟩) (65 - m) (65 - m))).run Tryd.prog W = .ok (.string ⟨q.toArray⟩) W := by
  have e : 65 - m = q.length := by omega
  rw [e]
  refine run_convert_bytes_back (P := Tryd.prog) W 27 9 5 ⟨g, m, none⟩ q.length q (by kernel_rfl) (by kernel_rfl) (by kernel_rfl) (fun j hj => ?_)
  rw [Addr.add_lit, h.cell (show m + j < 65 by omega)]
  unfold rowF
  rw [if_neg (by omega), show m + j - m = j by omega]
  simp [hj]

theorem hexL_pos (u : Nat) : 1 ≤ (hexL u).length := by
  by_cases h : u < 16
  · rw [hexL_small h]; simp
  · rw [hexL_big h]; simp

def FmtBits (c : Nat) (w : World) (e : Ending) (w' : World) : Prop := e = .returned (.tuple #[.slice none 0 0, .string ⟨(hexL c).toArray⟩]) ∧ Grow w w'

theorem row_zero (w : World) : (w.alloc (.cells zs81 81)).rowIs w.heap.size 81 65 (rowF 65 []) := by
  have := World.rowIs_alloc w zs81 81 (rowF 65 []) (fun i hi => by
    have hi' : i < 65 := by rw [zs81_size] at hi; exact hi
    simp [zs81, rowF, hi'])
  rw [zs81_size] at this
  exact this

set_option maxRecDepth 10000 in
set_option maxHeartbeats 1600000 in
theorem bits_any (c : Nat) (hc : c < 4294967296) (w : World) (hL : Laid w) :
    Calls Tryd.prog 53 #[.slice none 0 0, .int .u64 c, .int .i64 16, .bool false, .bool false] w (FmtBits c w) := by
  have HL := Lib.hid hL
  have HLE : Hid ((hexL c).length ≤ 8) := Lib.hid (by rw [low_len]; exact (hex_len (k := 8) (by omega) (by omega)).1)
  have hz := zero81
  clear hL
  go_enter Tryd.func53, Tryd.ntmps53
  go_wp2_with fail
  refine (power_any _).mono ?_
  rintro e w1 ⟨rfl, rfl⟩
  clear hz
  have HG1 := Lib.hid (grow_new w (.cells zs81 81))
  have HR1 := Lib.hid (row_zero w)
  have HZ := Lib.hid (zeros_any (w.alloc (.cells zs81 81)) (HL.out.grow HG1.out))
  generalize w.alloc (.cells zs81 81) = w1 at HG1 HR1 HZ
  go_wp2_with fail
  refine (HZ.out).mono ?_
  rintro e w2 ⟨rfl, rfl⟩
  go_wp2_with fail
  go_loopg [1, 13] c (fun gh s1 s13 wr => ∃ (u i : Nat) (q : List UInt8), u = gh ∧ u ≤ c ∧ s1 = .int .u64 u ∧ s13 = .int .i64 i ∧ HexAt c w.heap.size w u i q wr)
  case atStart => exact ⟨c, 65, [], rfl, Nat.le_refl _, rfl, rfl, rfl, by simp, HR1.out, HG1.out⟩
  case round =>
    obtain ⟨u, i, q, rfl, huc, rfl, rfl, hat⟩ := hrel
    have hi1 : 1 ≤ i ∧ i ≤ 65 := by
      have h1 := HLE.out
      have h2 := hexL_pos u
      have h3 := hat.len
      rw [hat.eq, List.length_append] at h1
      omega
    obtain ⟨m, rfl⟩ : ∃ m, i = m + 1 := ⟨i - 1, by omega⟩
    have hm : m < 65 := by omega
    have hcell := hat.row.cell hm
    have hfz := hat.row.frozen m
    have hlt := hat.row.lt
    have HT := Lib.hid hat
    clear hat
    by_cases hu : 16 ≤ u
    · have hand := and_low u (by omega)
      have hix := index_low (d := u % 16) (by omega)
      unfold lowTab at hix
      have HE : Hid (hexL c = hexL (u / 16) ++ hexLow (u % 16) :: q) := Lib.hid (by rw [HT.out.eq, hexL_big (by omega), List.append_assoc]; rfl)
      have HN := Lib.hid (hexAt_put HT.out (Nat.le_refl _) HE.out)
      obtain ⟨d, hd⟩ : ∃ d, u % 16 = d := ⟨_, rfl⟩
      rw [hd] at hand hix HE HN
      go_wp2
      go_roundg (u / 16)
      case rel => exact ⟨u / 16, m, _, rfl, by omega, by go_num, by go_num, HN.out⟩
      case measure => omega
    · have hix := index_low (d := u) (by omega)
      unfold lowTab at hix
      have HE : Hid (hexL c = hexLow u :: q) := Lib.hid (by rw [HT.out.eq, hexL_small (by omega)]; rfl)
      have HN := Lib.hid (hexRow_put HT.out (d := u))
      have HG := Lib.hid (show Grow w (wr.setCell ⟨w.heap.size, m, none⟩ (.int .u8 ((hexLow u).toNat : Nat))) from Below.setCell HT.out.grow (Nat.le_refl _) _)
      have hml : m + (hexLow u :: q).length = 65 := by have := HT.out.len; rw [List.length_cons]; omega
      have hcv := fun W h => conv_row (m := m) (g := w.heap.size) (q := hexLow u :: q) (W := W) hml h
      have hsl := fun W => slice_row w.heap.size m (by omega) W
      have hcv2 := hcv _ HN.out
      clear hcv
      obtain ⟨Z, hZ⟩ : ∃ Z, hexLow u :: q = Z := ⟨_, rfl⟩
      rw [hZ] at hcv2 HE
      go_wp2
      go_ret2
      exact ⟨by rw [HE.out]; rfl, HG.out⟩

set_option maxRecDepth 10000 in
set_option maxHeartbeats 800000 in
theorem ifmt_any (c : Nat) (hc : c < 4294967296) (w : World) (hL : Laid w) :
    Calls Tryd.prog 40 #[.int .i64 c, .int .i64 16] w fun e w' => e = .returned (.string ⟨(hexL c).toArray⟩) ∧ Grow w w' := by
  have HB := Lib.hid (bits_any c hc w hL)
  have hw : IntKind.u64.wrap (c : Int) = c := by rw [IntKind.wrap_u64]; omega
  have h0 : ¬ (c : Int) < 0 := by omega
  clear hL
  go_enter Tryd.func40, Tryd.ntmps40
  go_wp2_with fail
  refine (HB.out).mono ?_
  rintro e w1 ⟨rfl, hg⟩
  have HG := Lib.hid hg
  clear hg HB
  go_wp2
  go_ret
  exact ⟨rfl, HG.out⟩

set_option maxRecDepth 10000 in
theorem fmt_any (c : Nat) (hc : c < 4294967296) (w : World) (hL : Laid w) :
    Calls Tryd.prog 26 #[.int .i64 c, .int .i64 16] w fun e w' => e = .returned (.string ⟨(hexL c).toArray⟩) ∧ Grow w w' := by
  have HB := Lib.hid (ifmt_any c hc w hL)
  clear hL
  go_enter Tryd.func26, Tryd.ntmps26
  go_wp2_with fail
  refine (HB.out).mono ?_
  rintro e w1 ⟨rfl, hg⟩
  have HG := Lib.hid hg
  clear hg HB
  go_wp2
  go_ret
  exact ⟨rfl, HG.out⟩

theorem upper_any (c : Nat) (hc : c < 4294967296) (w : World) :
    Calls Tryd.prog 25 #[.string ⟨(hexL c).toArray⟩] w fun e w' => e = .returned (.string ⟨(hexD c).toArray⟩) ∧ Grow w w' := by
  have hl : (hexL c).length ≤ 8 := by rw [low_len]; exact (hex_len (k := 8) (by omega) (by omega)).1
  have h := Tryd.strings_ToUpper_ascii ⟨(hexL c).toArray⟩ w (by rw [str_size]; omega) (fun j b hb => low_ascii c b (List.mem_of_getElem? hb))
  rw [show Lib.toUpperA (⟨(hexL c).toArray⟩ : ByteArray).data.toList = hexD c from upper_hex c] at h
  exact h
end Go.Proofs.YtcdjilipmjjjkaaDoor
