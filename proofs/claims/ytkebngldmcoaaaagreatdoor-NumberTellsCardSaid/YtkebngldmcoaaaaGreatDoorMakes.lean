/-
  What number.Ints and number.Decs come to, called with any numbers.
-/
import Derived.Test.YtkebngldmcoaaaaGreatDoorNTexts
import Derived.Test.YtkebngldmcoaaaaGreatDoorDecMem
import Derived.Deep.LoopGhost
namespace Go.Proofs.YtkebngldmcoaaaaGreatDoor
open Go.RowKit Go.Lib
set_option linter.unusedSimpArgs false
set_option linter.unusedVariables false

def strv (l : List UInt8) : Value := .string ⟨l.toArray⟩
theorem join_any (g n : Nat) (ls : List (List UInt8)) (w : World) (hn : ls.length = n) (hr : w.rowIs g 9 n (fun j => strv (ls.getD j []))) (hl : n ≤ 100000) (hm : ∀ x ∈ ls, x.length ≤ 100) :
    Calls Tryz.prog 19 #[.slice (some ⟨g, 0, none⟩) n n, .string ⟨#[32]⟩] w fun e w' => e = .returned (.string ⟨(join ls [32]).toArray⟩) ∧ Grow w w' := by
  have hmap : (ls.map fun l => (⟨l.toArray⟩ : ByteArray)).map (·.data.toList) = ls := by
    rw [List.map_map]
    conv => rhs; rw [← List.map_id ls]
    exact List.map_congr_left fun x _ => rfl
  have hlen := join_len hm
  have := Tryz.strings_Join g 0 n (ls.map fun l => (⟨l.toArray⟩ : ByteArray)) ⟨#[32]⟩ w (fun j x hx => by
    have hj : j < ls.length := by
      have := (List.getElem?_eq_some_iff.1 hx).1
      rwa [List.length_map] at this
    rw [Nat.zero_add, hr.cell (by omega)]
    rw [List.getElem?_map] at hx
    have e : ls[j]? = some (ls.getD j []) := by simp [List.getD, hj]
    rw [e] at hx
    simp only [Option.map_some, Option.some.injEq] at hx
    rw [← hx]
    rfl) hr.lt (by rw [List.length_map]; omega) (by rw [List.length_map]; omega) (by
      rw [hmap]
      show (join ls [32]).length ≤ _
      have : ls.length * (100 + 1) ≤ 100000 * 101 := Nat.mul_le_mul (by omega) (by omega)
      omega)
  rw [List.length_map, hn, hmap] at this
  exact this

theorem row_step {w w' : World} {g n k : Nat} {ls : List (List UInt8)} {s : List UInt8} (h : w.rowIs g 9 n (fun j => strv (if j < k then ls.getD j [] else []))) (hw : Grow w w') (hs : ls.getD k [] = s) :
    (w'.setCell ⟨g, k, none⟩ (strv s)).rowIs g 9 n (fun j => strv (if j < k + 1 then ls.getD j [] else [])) := by
  have h1 := h.of_block (hw.block g h.lt)
  refine (h1.set k (strv s)).congr fun j _ => ?_
  by_cases hj : j = k
  · subst hj
    rw [← hs]
    simp
  · by_cases hlt : j < k
    · simp [hj, hlt, show j < k + 1 by omega]
    · simp [hj, hlt, show ¬ j < k + 1 by omega]

theorem getD_in {xs : List Int} (h : ∀ x ∈ xs, In x) {k : Nat} (hk : k < xs.length) : In (xs.getD k 0) := by
  have e : xs.getD k 0 = xs[k] := by simp [List.getD, hk]
  rw [e]
  exact h _ (List.getElem_mem hk)
theorem getD_map {α β : Type} (f : α → β) (xs : List α) (k : Nat) (hk : k < xs.length) (d : α) (e : β) : (xs.map f).getD k e = f (xs.getD k d) := by simp [List.getD, hk]

set_option maxRecDepth 10000 in
set_option maxHeartbeats 1600000 in
theorem ints_any (A : Option Addr) (n c : Nat) (xs : List Int) (w : World) (hn : xs.length = n) (hnb : n ≤ 100000) (hr : Nums .i64 w w.heap.size A xs) (hi : ∀ x ∈ xs, In x) (hL : Pows w) :
    Calls Tryz.prog 7 #[.slice A n c] w fun e w' => e = .returned (.string ⟨(intsT xs).toArray⟩) ∧ Grow w w' := by
  have HN := Lib.hid hn
  have HR := Lib.hid hr
  have HI := Lib.hid hi
  have HL := Lib.hid hL
  have hmk := fun W => run_make_row' (P := Tryz.prog) 40 9 (.string ⟨#[]⟩) 16 Tryz.underlying40 info_str rfl .i64 .i64 n (by omega) (by omega) W
  clear hn hr hi hL
  go_enter Tryz.func7, Tryz.ntmps7
  go_wp2
  have hrow := World.rowIs_made w (.string ⟨#[]⟩) n 9
  have HRW := Lib.hid (show (w.alloc (.cells (madeCells #[.string ⟨#[]⟩] n) 9)).rowIs w.heap.size 9 n (fun j => strv (if j < 0 then (xs.map num).getD j [] else [])) from hrow.congr fun j _ => by simp [strv])
  have HG0 := Lib.hid (grow_new w (.cells (madeCells #[.string ⟨#[]⟩] n) 9))
  have HM := Lib.hid hmk
  clear hrow hmk
  go_loopg [11] n (fun g s11 wr => ∃ k : Nat, k ≤ n ∧ g = n - k ∧ s11 = .int .i64 k ∧ Hid (wr.rowIs w.heap.size 9 n (fun j => strv (if j < k then (xs.map num).getD j [] else []))) ∧ Hid (Grow w wr))
  case atStart => exact ⟨0, Nat.zero_le _, rfl, rfl, HRW, HG0⟩
  case round =>
    obtain ⟨k, hk, rfl, rfl, HW, HG⟩ := hrel
    clear HRW HG0
    by_cases hlt : k < n
    · have hkl : k < xs.length := by rw [HN.out]; exact hlt
      obtain ⟨b, off, rfl, hb, hcl⟩ := HR.out.grow HG.out (by omega)
      have hc := hcl k hkl
      have hin := getD_in HI.out hkl
      have HS := Lib.hid (getD_map num xs k hkl 0 [])
      clear hcl hb hkl
      generalize xs.getD k 0 = x at hc hin HS
      have HT := Lib.hid (textOf_any x wr hin (HL.out.grow HG.out))
      clear hin
      go_wp2_with fail
      refine (HT.out).mono ?_
      rintro e w2 ⟨rfl, hg⟩
      have HG2 := Lib.hid hg
      have HW2 := Lib.hid (HW.out.of_block (hg.block _ HW.out.lt))
      have hcq := HW2.out.cell hlt
      have hfq := HW2.out.frozen k
      clear hg HT
      go_wp2
      go_roundg (n - (k + 1))
      case rel => exact ⟨k + 1, by omega, rfl, by go_num, Lib.hid (row_step HW.out HG2.out HS.out), Lib.hid ((HG.out.trans HG2.out).put (Nat.le_refl _) k _)⟩
      case measure => omega
    · obtain rfl : n = k := by omega
      have HJ := Lib.hid (join_any w.heap.size n (xs.map num) wr (by rw [List.length_map]; exact HN.out) (HW.out.congr fun j hj => by simp [hj]) hnb (by
        intro y hy
        obtain ⟨z, hz, rfl⟩ := List.mem_map.1 hy
        have := num_len (HI.out z hz)
        omega))
      go_wp2_with fail
      refine (HJ.out).mono ?_
      rintro e w2 ⟨rfl, hg⟩
      have HG2 := Lib.hid (HG.out.trans hg)
      clear hg HJ
      go_wp2
      go_ret
      exact ⟨rfl, HG2.out⟩

def nd2 : Int × Int := (0, 0)
theorem decsR_take {ds : List Dc} {k : Nat} (hk : k < ds.length) : decsR (ds.take (k + 1)) = (decsR (ds.take k) && rightB (ds.getD k (0, 0)).1 (ds.getD k (0, 0)).2) := by
  have e : ds.getD k (0, 0) = ds[k] := by simp [List.getD, hk]
  rw [e, List.take_succ_eq_append_getElem hk, decsR_app]
  simp [decsR]
theorem decsR_not {ds : List Dc} {k : Nat} (hk : k < ds.length) (h : rightB (ds.getD k (0, 0)).1 (ds.getD k (0, 0)).2 = false) : decsR ds = false := by
  have e : ds.getD k (0, 0) = ds[k] := by simp [List.getD, hk]
  rw [e] at h
  unfold decsR
  rw [Bool.eq_false_iff, ne_eq, List.all_eq_true]
  intro hall
  have := hall _ (List.getElem_mem hk)
  rw [h] at this
  cases this

set_option maxRecDepth 10000 in
set_option maxHeartbeats 1600000 in
theorem decs_any (A : Option Addr) (n c : Nat) (ds : List Dc) (w : World) (hn : ds.length = n) (hnb : n ≤ 100000) (hr : Decs w w.heap.size A ds) (hi : ∀ x ∈ ds, In x.1 ∧ In x.2) (hL : Pows w) :
    Calls Tryz.prog 9 #[.slice A n c] w fun e w' => e = .returned (.string ⟨(decsT ds).toArray⟩) ∧ Grow w w' := by
  have HN := Lib.hid hn
  have HR := Lib.hid hr
  have HI := Lib.hid hi
  have HL := Lib.hid hL
  have hmk := fun W => run_make_row' (P := Tryz.prog) 40 9 (.string ⟨#[]⟩) 16 Tryz.underlying40 info_str rfl .i64 .i64 n (by omega) (by omega) W
  clear hn hr hi hL
  go_enter Tryz.func9, Tryz.ntmps9
  go_wp2
  have hrow := World.rowIs_made w (.string ⟨#[]⟩) n 9
  have HRW := Lib.hid (show (w.alloc (.cells (madeCells #[.string ⟨#[]⟩] n) 9)).rowIs w.heap.size 9 n (fun j => strv (if j < 0 then (ds.map fun d => text d.1 d.2).getD j [] else [])) from hrow.congr fun j _ => by simp [strv])
  have HG0 := Lib.hid (grow_new w (.cells (madeCells #[.string ⟨#[]⟩] n) 9))
  have HM := Lib.hid hmk
  clear hrow hmk
  go_loopg [11] n (fun g s11 wr => ∃ k : Nat, k ≤ n ∧ g = n - k ∧ s11 = .int .i64 k ∧ Hid (decsR (ds.take k) = true) ∧ Hid (wr.rowIs w.heap.size 9 n (fun j => strv (if j < k then (ds.map fun d => text d.1 d.2).getD j [] else []))) ∧ Hid (Grow w wr))
  case atStart => exact ⟨0, Nat.zero_le _, rfl, rfl, Lib.hid rfl, HRW, HG0⟩
  case round =>
    obtain ⟨k, hk, rfl, rfl, HD, HW, HG⟩ := hrel
    clear HRW HG0
    by_cases hlt : k < n
    · have hkl : k < ds.length := by rw [HN.out]; exact hlt
      obtain ⟨b, off, rfl, hb, hcl⟩ := HR.out.grow HG.out (by omega)
      obtain ⟨hc0, hc1⟩ := hcl k hkl
      have hin : In (ds.getD k (0, 0)).1 ∧ In (ds.getD k (0, 0)).2 := by
        have e : ds.getD k (0, 0) = ds[k] := by simp [List.getD, hkl]
        rw [e]
        exact HI.out _ (List.getElem_mem hkl)
      have HS := Lib.hid (getD_map (fun d : Dc => text d.1 d.2) ds k hkl (0, 0) [])
      have HX := Lib.hid (decsR_not hkl)
      have HY := Lib.hid (decsR_take hkl)
      clear hcl hb hkl
      obtain ⟨⟨m, e⟩, hx⟩ : ∃ x, ds.getD k (0, 0) = x := ⟨_, rfl⟩
      rw [hx] at hc0 hc1 hin HS HX HY
      simp only at hc0 hc1 hin HS HX HY
      clear hx
      have HT := Lib.hid (fun W h => text_any m e W hin.1 hin.2 h)
      have HRI := Lib.hid (fun W => right_any m e W hin.1 hin.2)
      clear hin
      go_wp2_with fail
      refine (HRI.out _).mono ?_
      rintro x w2 ⟨rfl, hg⟩
      have hb2 := (boxed_new wr (.int .i64 m) (.int .i64 e) 28).grow hg
      have d0 := hb2.fst
      have d1 := hb2.snd
      have HG2 := Lib.hid ((grow_new wr (.cells #[.int .i64 m, .int .i64 e] 28)).trans hg)
      clear hg HRI hb2 hc0 hc1
      obtain ⟨r, hrr⟩ : ∃ r, rightB m e = r := ⟨_, rfl⟩
      rw [hrr] at HX HY
      rw [hrr]
      clear hrr
      cases r
      · have HF := Lib.hid (decs_wrong (HX.out rfl))
        clear HX HY HT
        go_wp2
        go_ret
        exact ⟨by rw [HF.out]; rfl, HG.out.trans HG2.out⟩
      · have HD2 := Lib.hid (show decsR (ds.take (k + 1)) = true by rw [HY.out, HD.out]; rfl)
        clear HX HY HD
        go_wp2_with fail
        refine (HT.out _ (HL.out.grow (HG.out.trans HG2.out))).mono ?_
        rintro x w3 ⟨rfl, hg⟩
        have HG3 := Lib.hid (HG2.out.trans hg)
        have HW3 := Lib.hid (HW.out.of_block (HG3.out.block _ HW.out.lt))
        have hcq := HW3.out.cell hlt
        have hfq := HW3.out.frozen k
        clear hg HT HG2 d0 d1
        go_wp2
        go_roundg (n - (k + 1))
        case rel => exact ⟨k + 1, by omega, rfl, by go_num, HD2, Lib.hid (row_step HW.out HG3.out HS.out), Lib.hid ((HG.out.trans HG3.out).put (Nat.le_refl _) k _)⟩
        case measure => omega
    · obtain rfl : n = k := by omega
      have HJ := Lib.hid (join_any w.heap.size n (ds.map fun d => text d.1 d.2) wr (by rw [List.length_map]; exact HN.out) (HW.out.congr fun j hj => by simp [hj]) hnb (by
        intro y hy
        obtain ⟨z, hz, rfl⟩ := List.mem_map.1 hy
        have := text_len (e := z.2) (HI.out z hz).1
        omega))
      have HD2 := HD.out
      rw [List.take_of_length_le (by rw [HN.out]; exact Nat.le_refl _)] at HD2
      have HV := Lib.hid (show decsT ds = join (ds.map fun d => text d.1 d.2) [32] by unfold decsT; rw [if_pos HD2])
      clear HD2
      go_wp2_with fail
      refine (HJ.out).mono ?_
      rintro x w2 ⟨rfl, hg⟩
      have HG2 := Lib.hid (HG.out.trans hg)
      clear hg HJ
      go_wp2
      go_ret
      exact ⟨by rw [HV.out]; rfl, HG2.out⟩
end Go.Proofs.YtkebngldmcoaaaaGreatDoor
