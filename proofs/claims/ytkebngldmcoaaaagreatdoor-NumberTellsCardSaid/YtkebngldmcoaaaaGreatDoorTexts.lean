/-
  What decimal.Text comes to.
-/
import Derived.Test.YtkebngldmcoaaaaGreatDoorFmt
import Derived.Test.YtkebngldmcoaaaaGreatDoorWholes
namespace Go.Proofs.YtkebngldmcoaaaaGreatDoor
open Go.RowKit Go.Lib

theorem var_grow {w w' : World} {name : String} {cs : Array Value} (h : w.var? Tryz.prog name = some cs) (hg : Grow w w') : w'.var? Tryz.prog name = some cs := by
  unfold World.var? at *
  cases hn : Tryz.prog.globalNamed name with
  | none => simp [hn] at h
  | some g =>
    simp only [hn, Option.bind_some] at h ⊢
    have hlt : g < w.heap.size := by
      rcases Nat.lt_or_ge g w.heap.size with h' | h'
      · exact h'
      · rw [Array.getElem?_eq_none h'] at h; simp at h
    rw [hg.block g hlt]
    exact h

theorem Pows.grow {w w' : World} (h : Pows w) (hg : Grow w w') : Pows w' := var_grow h hg

theorem str_app (a b : List UInt8) : (⟨a.toArray⟩ : ByteArray) ++ ⟨b.toArray⟩ = ⟨(a ++ b).toArray⟩ := by
  apply ByteArray.ext
  simp

theorem sizeof_any (n : Int) (w : World) (hn : In n) :
    Calls Tryz.prog 52 #[.int .i64 n] w fun e w' => e = .returned (.int .u64 n.natAbs) ∧ w' = w := by
  have h1 := hn.1; have h2 := hn.2
  by_cases h : n < 0
  · have hw : IntKind.u64.wrap n = n + 18446744073709551616 := by rw [IntKind.wrap_u64]; omega
    have hw2 : IntKind.u64.wrap (-(n + 18446744073709551616)) = (n.natAbs : Int) := by rw [IntKind.wrap_u64]; omega
    go_enter Tryz.func52, Tryz.ntmps52
    go_wp2
    go_ret
    exact ⟨rfl, rfl⟩
  · have hw : IntKind.u64.wrap n = (n.natAbs : Int) := by rw [IntKind.wrap_u64]; omega
    go_enter Tryz.func52, Tryz.ntmps52
    go_wp2
    go_ret
    exact ⟨rfl, rfl⟩

theorem decimals_any (n : Int) (w : World) (hn : In n) (hp : Pows w) :
    Calls Tryz.prog 39 #[.int .i64 n] w fun e w' => e = .returned (.string ⟨(num n).toArray⟩) ∧ Grow w w' := by
  have HS := Lib.hid (sizeof_any n w hn)
  have HL : Hid (¬ 9223372036854775807 < 2 + (decDigits n.natAbs).length) := Lib.hid (by have h1 := hn.1; have h2 := hn.2; have hp : (10 : Nat) ^ 19 = 10000000000000000000 := by decide
                                                                                         have := dd_len (u := n.natAbs) (k := 19) (by omega) (by omega); omega)
  have HF := Lib.hid (fmt_any n.natAbs (by have := hn.1; have := hn.2; omega) w hp)
  clear hn hp
  go_enter Tryz.func39, Tryz.ntmps39
  go_wp2_with fail
  refine (HS.out).mono ?_
  rintro e w' ⟨rfl, rfl⟩
  go_wp2_with fail
  refine (HF.out).mono ?_
  rintro e w1 ⟨rfl, hg⟩
  have HG := Lib.hid hg
  have hl : ¬ 9223372036854775807 < 2 + (decDigits n.natAbs).length := HL.out
  clear hg HS HF
  by_cases h : n < 0
  · go_wp2
    go_ret
    exact ⟨by rw [num_neg h]; exact congrArg (fun s => Ending.returned (Value.string s)) (str_app [194, 175] _), HG.out⟩
  · go_wp2
    go_ret
    exact ⟨by rw [num_pos (by omega)]; rfl, HG.out⟩

theorem right_exp {m e : Int} (hm : In m) (h : rightB m e = true) : -32768 ≤ e ∧ e ≤ 32767 := by
  rcases (rightB_iff hm).1 h with ⟨_, h⟩ | h <;> omega

theorem text_join (m e : Int) : Ending.returned (.string ((⟨(num m).toArray⟩ : ByteArray) ++ ⟨#[69]⟩ ++ ⟨(num e).toArray⟩)) = .returned (.string ⟨(num m ++ 69 :: num e).toArray⟩) := by
  have h := str_app (num m) [69]
  have h2 := str_app (num m ++ [69]) (num e)
  rw [← h] at h2
  rw [show num m ++ 69 :: num e = num m ++ [69] ++ num e by simp]
  exact congrArg (fun s => Ending.returned (Value.string s)) h2

set_option maxRecDepth 10000 in
set_option maxHeartbeats 800000 in
theorem text_any (m e : Int) (w : World) (hm : In m) (he : In e) (hp : Pows w) :
    Calls Tryz.prog 22 #[.agg #[.int .i64 m, .int .i64 e]] w fun x w' => x = .returned (.string ⟨(text m e).toArray⟩) ∧ Grow w w' := by
  have HC := Lib.hid (fun W => right_any m e W hm he)
  have HD := Lib.hid (fun W (n : Int) (hn : In n) (hp : Pows W) => decimals_any n W hn hp)
  have HP := Lib.hid hp
  have HM := Lib.hid hm
  have HE := Lib.hid he
  clear hm he hp
  go_enter Tryz.func22, Tryz.ntmps22
  go_wp2_with fail
  refine (HC.out _).mono ?_
  rintro x w1 ⟨rfl, hg⟩
  have hb := (boxed_new w (.int .i64 m) (.int .i64 e) 28).grow hg
  have hc0 := hb.fst
  have hc1 := hb.snd
  have HB := Lib.hid hb
  have HG := Lib.hid ((grow_new w _).trans hg)
  have HP1 := Lib.hid (HP.out.grow HG.out)
  clear hb hg HC HP
  obtain ⟨r, hr⟩ : ∃ r, rightB m e = r := ⟨_, rfl⟩
  rw [hr]
  cases r
  · have HT := Lib.hid (text_wrong hr)
    clear hr
    go_wp2
    go_ret
    exact ⟨by rw [HT.out]; rfl, HG.out⟩
  · by_cases h0 : e = 0
    · subst h0
      have HT := Lib.hid (text_plain hr)
      clear hr
      go_wp2_with fail
      refine (HD.out _ m HM.out HP1.out).mono ?_
      rintro x w2 ⟨rfl, hg2⟩
      have HG2 := Lib.hid (HG.out.trans hg2)
      clear hg2
      go_wp2
      go_ret
      exact ⟨by rw [HT.out]; rfl, HG2.out⟩
    · have HT := Lib.hid (text_exp hr h0)
      have h0b : (e == 0) = false := by simpa using h0
      have hl1 := num_len HM.out
      have hl2 := num_len HE.out
      have hs1 : ¬ 9223372036854775807 < (num m).length + 1 := by omega
      have hs2 : ¬ 9223372036854775807 < (num m).length + 1 + (num e).length := by omega
      clear hr h0 hl1 hl2
      go_wp2
      refine wp_region_R Grow (n := 9) rfl (by kernel_rfl) ?_
      intro W0 hW0e hW0
      have hG0 : Grow w1 W0 := hW0
      have hd0 : ∀ wg, Grow W0 wg → wg.cell? ⟨w.heap.size, 0, none⟩ = some (.int .i64 m) := fun wg h => ((HB.out.grow hG0).grow h).fst
      have hd1 : ∀ wg, Grow W0 wg → wg.cell? ⟨w.heap.size, 1, none⟩ = some (.int .i64 e) := fun wg h => ((HB.out.grow hG0).grow h).snd
      clear hW0e
      refine wpR_take growOrd (i := 0) (v := ?vf1) rfl (by kernel_rfl) (by kernel_rfl) (by kernel_rfl) (fun _ _ _ h => h) (by rfl) ?hf1 ?rf1
      case hf1 => (intro wg hSw; go_simp <;> with_reducible rfl)
      simp only [Act.put, List.setIfInBounds_toArray, List.set_cons_zero, List.set_cons_succ]
      refine wpR_take growOrd (i := 1) (v := ?vf2) rfl (by kernel_rfl) (by kernel_rfl) (by kernel_rfl) (fun _ _ _ h => h) (by rfl) ?hf2 ?rf2
      case hf2 => (intro wg hSw; go_simp <;> with_reducible rfl)
      simp only [Act.put, List.setIfInBounds_toArray, List.set_cons_zero, List.set_cons_succ]
      refine wpR_take growOrd (i := 4) (v := ?vf3) rfl (by kernel_rfl) (by kernel_rfl) (by kernel_rfl) (fun _ _ _ h => h) (by rfl) ?hf3 ?rf3
      case hf3 => (intro wg hSw; go_simp <;> with_reducible rfl)
      simp only [Act.put, List.setIfInBounds_toArray, List.set_cons_zero, List.set_cons_succ]
      refine wpR_take growOrd (i := 5) (v := ?vf4) rfl (by kernel_rfl) (by kernel_rfl) (by kernel_rfl) (fun _ _ _ h => h) (by rfl) ?hf4 ?rf4
      case hf4 => (intro wg hSw; go_simp <;> with_reducible rfl)
      simp only [Act.put, List.setIfInBounds_toArray, List.set_cons_zero, List.set_cons_succ]
      refine wpR_one (i := 2) (by kernel_rfl) ?_
      refine wpR_op (i := 2) rfl (by rfl) (fun K hK => ?_)
      go_simp
      refine (HD.out W0 m HM.out (HP1.out.grow (hG0.trans (Grow.refl W0)))).mono ?_
      rintro x wM2 ⟨rfl, hM2⟩
      refine hK.out _ _ hM2 ?_
      clear hK K
      try simp only [Act.put, List.setIfInBounds_toArray, List.set_cons_zero, List.set_cons_succ]
      refine wpR_take growOrd (i := 3) (v := ?vf5) rfl (by kernel_rfl) (by kernel_rfl) (by kernel_rfl) (fun _ _ _ h => h) (by rfl) ?hf5 ?rf5
      case hf5 => (intro wg hSw; go_simp <;> with_reducible rfl)
      simp only [Act.put, List.setIfInBounds_toArray, List.set_cons_zero, List.set_cons_succ]
      refine wpR_one (i := 6) (by kernel_rfl) ?_
      refine wpR_op (i := 6) rfl (by rfl) (fun K hK => ?_)
      go_simp
      refine (HD.out wM2 e HE.out (HP1.out.grow (hG0.trans (Grow.trans (Grow.refl W0) hM2)))).mono ?_
      rintro x wM6 ⟨rfl, hM6⟩
      refine hK.out _ _ hM6 ?_
      clear hK K
      try simp only [Act.put, List.setIfInBounds_toArray, List.set_cons_zero, List.set_cons_succ]
      refine wpR_take growOrd (i := 7) (v := ?vf6) rfl (by kernel_rfl) (by kernel_rfl) (by kernel_rfl) (fun _ _ _ h => h) (by rfl) ?hf6 ?rf6
      case hf6 => (intro wg hSw; go_simp <;> with_reducible rfl)
      simp only [Act.put, List.setIfInBounds_toArray, List.set_cons_zero, List.set_cons_succ]
      refine wpR_take growOrd (i := 8) (v := ?vf7) rfl (by kernel_rfl) (by kernel_rfl) (by kernel_rfl) (fun _ _ _ h => h) (by rfl) ?hf7 ?rf7
      case hf7 => (intro wg hSw; go_simp <;> with_reducible rfl)
      simp only [Act.put, List.setIfInBounds_toArray, List.set_cons_zero, List.set_cons_succ]
      refine wpR_done (by kernel_rfl) ?_
      go_wp2
      go_ret
      exact ⟨by rw [HT.out]; exact text_join m e, HG.out.trans (hG0.trans (Grow.trans (Grow.trans (Grow.refl W0) hM2) hM6))⟩
end Go.Proofs.YtkebngldmcoaaaaGreatDoor
