/-
  What the document's own pieces, Ints and Decs come to.
-/
import Derived.Test.YtkebngldmcoaaaaGreatDoorMakes
import Derived.Test.YtkebngldmcoaaaaGreatDoorRTexts
import Derived.Deep.CutBlock
import Derived.Deep.DeepCutAuto
namespace Go.Proofs.YtkebngldmcoaaaaGreatDoor
open Go.RowKit Go.Lib
set_option linter.unusedSimpArgs false
set_option linter.unusedVariables false

set_option maxRecDepth 100000 in
theorem slice_mid (l : List UInt8) (i j : Nat) (h1 : i ≤ j) (h2 : j ≤ l.length) (W : World) : (Instr.slice 9 (.string ⟨l.toArray⟩) (some (.int .i64 (i : Nat))) (some (.int .i64 (j : Nat))) none).run Tryz.prog W = .ok (.string ⟨((l.take j).drop i).toArray⟩) W := by
  have hu : Tryz.prog.underlying 9 = some .string := by kernel_rfl
  rw [run_slice_string _ _ _ _ _ _ _ hu (by omega) (by omega) (by simp [ByteArray.size]; omega)]
  congr 2
  exact str_ext (by simp [ByteArray.size]; exact (List.drop_take).symm)

/-- what stands at the front of what is left: one piece of a byte; the sign; something else -/
theorem npc_ways (c : UInt8) (t : List UInt8) : (isPc c = true ∧ npc (c :: t) = npc t + 1) ∨ (isPc c = false ∧ ∃ r, c :: t = 194 :: 175 :: r ∧ npc (c :: t) = npc r + 2) ∨ (isPc c = false ∧ (c :: t).take 2 ≠ [194, 175] ∧ npc (c :: t) = 0) := by
  by_cases h : isPc c = true
  · exact .inl ⟨h, npc_pc h t⟩
  · have hf : isPc c = false := by simpa using h
    by_cases h2 : c = 194
    · subst h2
      cases t with
      | nil => exact .inr (.inr ⟨hf, by simp, rfl⟩)
      | cons d t =>
        by_cases h3 : d = 175
        · subst h3
          exact .inr (.inl ⟨hf, t, rfl, npc_sign t⟩)
        · exact .inr (.inr ⟨hf, by simpa using h3, npc_half h3 t⟩)
    · exact .inr (.inr ⟨hf, by simp [h2], npc_not hf h2 t⟩)
theorem isPc_nat (c : UInt8) : isPc c = ((decide (48 ≤ c.toNat) && decide (c.toNat ≤ 57)) || decide (c.toNat = 69)) := by
  unfold isPc
  rw [Bool.or_comm]
  congr 1
  have : (c == 69) = decide (c = 69) := rfl
  rw [this]
  by_cases h : c = 69
  · subst h; rfl
  · have : ¬ c.toNat = 69 := fun e => h (UInt8.toNat_inj.1 e)
    rw [decide_eq_false h, decide_eq_false this]

set_option maxRecDepth 10000 in
set_option maxHeartbeats 1600000 in
theorem rpieces_any (l : List UInt8) (hl : l.length ≤ 1000000) (w : World) :
    Calls Tryz.prog 16 #[.string ⟨l.toArray⟩] w fun e w' => e = .returned (.int .i64 (npc l : Nat)) ∧ w' = w := by
  have hsz := str_size l
  go_enter Tryz.func16, Tryz.ntmps16
  go_wp2
  go_loopg [3] l.length (fun g s3 wr => ∃ k : Nat, k ≤ l.length ∧ g = l.length - k ∧ s3 = .int .i64 k ∧ Hid (npc l = npc (l.drop k) + k) ∧ w = wr)
  case atStart => exact ⟨0, Nat.zero_le _, rfl, rfl, Lib.hid rfl, rfl⟩
  case round =>
    obtain ⟨k, hk, rfl, rfl, HN, rfl⟩ := hrel
    by_cases hlt : k < l.length
    · have hlti : ((k : Nat) : Int) < ((l.length : Nat) : Int) := by omega
      have hck : l[k]? = some l[k] := List.getElem?_eq_getElem hlt
      have hix := index_at hck
      have hdk : l.drop k = l[k] :: l.drop (k + 1) := List.drop_eq_getElem_cons hlt
      have hw := npc_ways l[k] (l.drop (k + 1))
      rw [← hdk] at hw
      have hcI := isPc_nat l[k]
      have hc256 : l[k].toNat < 256 := l[k].toNat_lt
      have hmid : k + 2 ≤ l.length → ∀ W, (Instr.slice 9 (.string ⟨l.toArray⟩) (some (.int .i64 (k : Nat))) (some (.int .i64 ((k + 2 : Nat) : Int))) none).run Tryz.prog W = .ok (.string ⟨((l.drop k).take 2).toArray⟩) W := fun h W => by
        rw [slice_mid l k (k + 2) (by omega) h W, List.drop_take, Nat.add_sub_cancel_left]
      have hd1 : (l.drop (k + 1)) = (l.drop k).drop 1 := by rw [List.drop_drop]
      have hdl : (l.drop k).length = l.length - k := by simp
      have hd2 : l.drop (k + 2) = (l.drop k).drop 2 := by rw [List.drop_drop]
      have hsub : IntKind.i64.wrap (((l.length : Nat) : Int) - ((k : Nat) : Int)) = ((l.length : Nat) : Int) - ((k : Nat) : Int) := by rw [IntKind.wrap_i64]; omega
      have hadd : IntKind.i64.wrap (((k : Nat) : Int) + 2) = ((k + 2 : Nat) : Int) := by rw [IntKind.wrap_i64]; omega
      clear hdk hck
      rcases hw with ⟨hp, hn⟩ | ⟨hp, r, hr, hn⟩ | ⟨hp, hne, hn⟩
      · have HV : Hid (npc l = npc (l.drop (k + 1)) + (k + 1)) := Lib.hid (by rw [HN.out, hn]; omega)
        rw [hp] at hcI
        clear HN hn hmid hd1 hd2 hdl hsub hadd hp
        generalize l[k].toNat = C at *
        by_cases h48 : 48 ≤ C
        · have i48 : (48 : Int) ≤ ((C : Nat) : Int) := by omega
          by_cases h57 : C ≤ 57
          · have i57 : ((C : Nat) : Int) ≤ 57 := by omega
            clear hcI
            go_wp2
            go_roundg (l.length - (k + 1))
            case rel => exact ⟨k + 1, by omega, rfl, by go_num, HV, rfl⟩
            case measure => omega
          · have i57 : ¬ ((C : Nat) : Int) ≤ 57 := by omega
            have h69 : C = 69 := by
              rw [decide_eq_false h57, Bool.and_false, Bool.false_or] at hcI
              exact of_decide_eq_true hcI.symm
            have b69 : (((C : Nat) : Int) == 69) = true := by rw [beq_iff_eq]; omega
            clear hcI h69
            go_wp2
            go_roundg (l.length - (k + 1))
            case rel => exact ⟨k + 1, by omega, rfl, by go_num, HV, rfl⟩
            case measure => omega
        · exfalso
          rw [decide_eq_false h48, Bool.false_and, Bool.false_or] at hcI
          have := of_decide_eq_true hcI.symm
          omega
      all_goals
        rw [hp] at hcI
        have hnb := hcI.symm
        simp only [Bool.or_eq_false_iff, Bool.and_eq_false_iff, decide_eq_false_iff_not] at hnb
        obtain ⟨hnd, hn69⟩ := hnb
      · have HV : Hid (npc l = npc (l.drop (k + 2)) + (k + 2)) := Lib.hid (by rw [HN.out, hn, hd2, hr]; simp; omega)
        have hlen : k + 2 ≤ l.length := by
          have := congrArg List.length hr
          rw [hdl] at this
          simp at this
          omega
        have hm := hmid hlen
        rw [hr] at hm
        have hm' : ∀ W, (Instr.slice 9 (.string ⟨l.toArray⟩) (some (.int .i64 (k : Nat))) (some (.int .i64 ((k : Int) + 2))) none).run Tryz.prog W = .ok (.string ⟨#[194, 175]⟩) W := fun W => hm W
        have h2i : (2 : Int) ≤ ((l.length : Nat) : Int) - ((k : Nat) : Int) := by omega
        clear HN hn hmid hd1 hd2 hdl hr hp hcI hm
        generalize l[k].toNat = C at *
        have b69 : (((C : Nat) : Int) == 69) = false := by rw [beq_eq_false_iff_ne]; omega
        by_cases h48 : 48 ≤ C
        · have i48 : (48 : Int) ≤ ((C : Nat) : Int) := by omega
          have i57 : ¬ ((C : Nat) : Int) ≤ 57 := by omega
          clear hnd hn69
          go_wp2
          go_roundg (l.length - (k + 2))
          case rel => exact ⟨k + 2, by omega, rfl, by go_num, HV, rfl⟩
          case measure => omega
        · have i48 : ¬ (48 : Int) ≤ ((C : Nat) : Int) := by omega
          clear hnd hn69
          go_wp2
          go_roundg (l.length - (k + 2))
          case rel => exact ⟨k + 2, by omega, rfl, by go_num, HV, rfl⟩
          case measure => omega
      · have HV : Hid (npc l = k) := Lib.hid (by rw [HN.out, hn]; omega)
        by_cases hlen : k + 2 ≤ l.length
        · have hm := hmid hlen
          have hm' : ∀ W, (Instr.slice 9 (.string ⟨l.toArray⟩) (some (.int .i64 (k : Nat))) (some (.int .i64 ((k : Int) + 2))) none).run Tryz.prog W = .ok (.string ⟨((l.drop k).take 2).toArray⟩) W := fun W => hm W
          have h2i : (2 : Int) ≤ ((l.length : Nat) : Int) - ((k : Nat) : Int) := by omega
          have hneb : ((l.drop k).take 2 == [194, 175]) = false := by rw [beq_eq_false_iff_ne]; exact hne
          clear HN hn hmid hd1 hd2 hdl hp hcI hm hne
          generalize (l.drop k).take 2 = m at *
          generalize l[k].toNat = C at *
          have b69 : (((C : Nat) : Int) == 69) = false := by rw [beq_eq_false_iff_ne]; omega
          by_cases h48 : 48 ≤ C
          · have i48 : (48 : Int) ≤ ((C : Nat) : Int) := by omega
            have i57 : ¬ ((C : Nat) : Int) ≤ 57 := by omega
            clear hnd hn69
            go_wp2
            go_ret
            exact ⟨by rw [HV.out]; rfl, rfl⟩
          · have i48 : ¬ (48 : Int) ≤ ((C : Nat) : Int) := by omega
            clear hnd hn69
            go_wp2
            go_ret
            exact ⟨by rw [HV.out]; rfl, rfl⟩
        · have h2i : ¬ (2 : Int) ≤ ((l.length : Nat) : Int) - ((k : Nat) : Int) := by omega
          clear HN hn hmid hd1 hd2 hdl hp hcI hne
          generalize l[k].toNat = C at *
          have b69 : (((C : Nat) : Int) == 69) = false := by rw [beq_eq_false_iff_ne]; omega
          by_cases h48 : 48 ≤ C
          · have i48 : (48 : Int) ≤ ((C : Nat) : Int) := by omega
            have i57 : ¬ ((C : Nat) : Int) ≤ 57 := by omega
            clear hnd hn69
            go_wp2
            go_ret
            exact ⟨by rw [HV.out]; rfl, rfl⟩
          · have i48 : ¬ (48 : Int) ≤ ((C : Nat) : Int) := by omega
            clear hnd hn69
            go_wp2
            go_ret
            exact ⟨by rw [HV.out]; rfl, rfl⟩
    · obtain rfl : l.length = k := by omega
      have HV : Hid (npc l = l.length) := Lib.hid (by rw [HN.out, List.drop_length]; simp [npc])
      clear HN
      go_wp2
      go_ret
      exact ⟨by rw [HV.out]; rfl, rfl⟩

/-- the row so far, one text more -/
theorem join_take {α : Type} (f : α → List UInt8) (xs : List α) (k : Nat) (h : k < xs.length) (d : α) :
    join ((xs.take (k + 1)).map f) [32] = if k = 0 then f (xs.getD k d) else join ((xs.take k).map f) [32] ++ 32 :: f (xs.getD k d) := by
  have e : xs.getD k d = xs[k] := by simp [List.getD, h]
  rw [e, List.take_succ_eq_append_getElem h, List.map_append, List.map_cons, List.map_nil]
  by_cases h0 : k = 0
  · subst h0
    simp [join_one]
  · rw [if_neg h0, join_snoc]
    intro e
    have := congrArg List.length e
    rw [List.length_map, List.length_take, List.length_nil] at this
    omega

set_option maxRecDepth 10000 in
set_option maxHeartbeats 1600000 in
theorem rints_any (A : Option Addr) (n c : Nat) (xs : List Int) (w : World) (hn : xs.length = n) (hnb : n ≤ 100000) (hr : Nums .i64 w w.heap.size A xs) (hi : ∀ x ∈ xs, In x) :
    Calls Tryz.prog 8 #[.slice A n c] w fun e w' => e = .returned (.string ⟨(intsT xs).toArray⟩) ∧ Grow w w' := by
  have HN := Lib.hid hn
  have HR := Lib.hid hr
  have HI := Lib.hid hi
  clear hn hr hi
  go_enter Tryz.func8, Tryz.ntmps8
  go_wp2
  go_loopg [3, 4] n (fun g s3 s4 wr => ∃ (k : Nat) (s : List UInt8), k ≤ n ∧ g = n - k ∧ s4 = .int .i64 k ∧ s3 = .string ⟨s.toArray⟩ ∧ Hid (s = join ((xs.take k).map num) [32]) ∧ Hid (Grow w wr))
  case atStart => exact ⟨0, [], Nat.zero_le _, rfl, rfl, rfl, Lib.hid rfl, Lib.hid (Grow.refl _)⟩
  case round =>
    obtain ⟨k, s, hk, rfl, rfl, rfl, HS, HG⟩ := hrel
    by_cases hlt : k < n
    · have hlti : ((k : Nat) : Int) < ((n : Nat) : Int) := by omega
      have hkl : k < xs.length := by rw [HN.out]; exact hlt
      obtain ⟨b, off, rfl, hb, hcl⟩ := HR.out.grow HG.out (by omega)
      have hc := hcl k hkl
      have hin := getD_in HI.out hkl
      have HT := Lib.hid (join_take num xs k hkl 0)
      have hsl : s.length ≤ 2200000 := by
        rw [HS.out]
        have := ints_len (xs := xs.take k) (fun x hx => HI.out x (List.mem_of_mem_take hx))
        unfold intsT at this
        rw [List.length_take] at this
        omega
      clear hcl hb hkl
      generalize xs.getD k 0 = x at hc hin HT
      have HX := Lib.hid (fun W => rnumber_any x W hin)
      have hxl := num_len hin
      clear hin
      obtain ⟨u, hu⟩ : ∃ u, num x = u := ⟨_, rfl⟩
      rw [hu] at HX HT hxl
      rw [← HS.out] at HT
      clear hu
      by_cases h0 : k = 0
      · have hz : ¬ (0 : Int) < ((k : Nat) : Int) := by omega
        have hzn : ¬ 0 < k := by omega
        have hs0 : s = [] := by rw [HS.out, h0]; rfl
        have HV := Lib.hid (show u = join ((xs.take (k + 1)).map num) [32] by rw [HT.out, if_pos h0])
        subst hs0
        have hcat : (⟨#[]⟩ : ByteArray) ++ ⟨u.toArray⟩ = ⟨u.toArray⟩ := str_app [] u
        have hs1 : ¬ 9223372036854775807 < u.length := by omega
        clear HT HS h0
        go_wp2_with fail
        refine (HX.out _).mono ?_
        rintro e w2 ⟨rfl, hg⟩
        have HG2 := Lib.hid (HG.out.trans hg)
        clear hg HX
        go_wp2
        go_roundg (n - (k + 1))
        case rel => exact ⟨k + 1, u, by omega, rfl, by go_num, rfl, HV, HG2⟩
        case measure => omega
      · have hz : (0 : Int) < ((k : Nat) : Int) := by omega
        have hzn : 0 < k := by omega
        have HV := Lib.hid (show s ++ 32 :: u = join ((xs.take (k + 1)).map num) [32] by rw [HT.out, if_neg h0])
        have hcat : (⟨s.toArray⟩ : ByteArray) ++ ⟨#[32]⟩ = ⟨(s ++ [32]).toArray⟩ := str_app s [32]
        have hcat2 : (⟨(s ++ [32]).toArray⟩ : ByteArray) ++ ⟨u.toArray⟩ = ⟨(s ++ 32 :: u).toArray⟩ := by rw [str_app]; simp
        have hs1 : ¬ 9223372036854775807 < s.length + 1 := by omega
        have hs2 : ¬ 9223372036854775807 < s.length + 1 + u.length := by omega
        clear HT HS h0
        go_wp2_with fail
        refine (HX.out _).mono ?_
        rintro e w2 ⟨rfl, hg⟩
        have HG2 := Lib.hid (HG.out.trans hg)
        clear hg HX
        go_wp2
        go_roundg (n - (k + 1))
        case rel => exact ⟨k + 1, s ++ 32 :: u, by omega, rfl, by go_num, rfl, HV, HG2⟩
        case measure => omega
    · obtain rfl : n = k := by omega
      have HV := Lib.hid (show s = intsT xs by rw [HS.out, List.take_of_length_le (by rw [HN.out]; exact Nat.le_refl _)]; rfl)
      go_wp2
      go_ret
      exact ⟨by rw [← HV.out]; rfl, HG.out⟩

set_option maxRecDepth 10000 in
set_option maxHeartbeats 1600000 in
theorem rdecs_any (A : Option Addr) (n c : Nat) (ds : List Dc) (w : World) (hn : ds.length = n) (hnb : n ≤ 100000) (hr : Decs w w.heap.size A ds) (hi : ∀ x ∈ ds, In x.1 ∧ In x.2) :
    Calls Tryz.prog 10 #[.slice A n c] w fun e w' => e = .returned (.string ⟨(decsT ds).toArray⟩) ∧ Grow w w' := by
  have HN := Lib.hid hn
  have HR := Lib.hid hr
  have HI := Lib.hid hi
  clear hn hr hi
  go_enter Tryz.func10, Tryz.ntmps10
  go_wp2
  go_loopg [3, 4] n (fun g s3 s4 wr => ∃ (k : Nat) (s : List UInt8), k ≤ n ∧ g = n - k ∧ s4 = .int .i64 k ∧ s3 = .string ⟨s.toArray⟩ ∧ Hid (s = join ((ds.take k).map fun d => text d.1 d.2) [32]) ∧ Hid (decsR (ds.take k) = true) ∧ Hid (Grow w wr))
  case atStart => exact ⟨0, [], Nat.zero_le _, rfl, rfl, rfl, Lib.hid rfl, Lib.hid rfl, Lib.hid (Grow.refl _)⟩
  case round =>
    obtain ⟨k, s, hk, rfl, rfl, rfl, HS, HDR, HG⟩ := hrel
    by_cases hlt : k < n
    · have hlti : ((k : Nat) : Int) < ((n : Nat) : Int) := by omega
      have hkl : k < ds.length := by rw [HN.out]; exact hlt
      obtain ⟨b, off, rfl, hb, hcl⟩ := HR.out.grow HG.out (by omega)
      obtain ⟨hc0, hc1⟩ := hcl k hkl
      have hin : In (ds.getD k (0, 0)).1 ∧ In (ds.getD k (0, 0)).2 := by
        have e : ds.getD k (0, 0) = ds[k] := by simp [List.getD, hkl]
        rw [e]
        exact HI.out _ (List.getElem_mem hkl)
      have HT := Lib.hid (join_take (fun d : Dc => text d.1 d.2) ds k hkl (0, 0))
      have HX0 := Lib.hid (decsR_not hkl)
      have HY := Lib.hid (decsR_take hkl)
      have hsl : s.length ≤ 3000000 := by
        rw [HS.out]
        have := decs_len (ds := ds.take k) (fun x hx => (HI.out x (List.mem_of_mem_take hx)).1)
        unfold decsT at this
        rw [if_pos HDR.out, List.length_take] at this
        omega
      clear hcl hb hkl
      obtain ⟨⟨m, e⟩, hx⟩ : ∃ x, ds.getD k (0, 0) = x := ⟨_, rfl⟩
      rw [hx] at hc0 hc1 hin HT HX0 HY
      simp only at hc0 hc1 hin HT HX0 HY
      clear hx
      have HX := Lib.hid (fun W => rtext_any m e W hin.1 hin.2)
      have hxl := text_len (e := e) hin.1
      have hnz : rightB m e = true → text m e ≠ [] := fun h => text_ne h
      have hz : rightB m e = false → text m e = [] := fun h => text_wrong h
      clear hin
      obtain ⟨u, hu⟩ : ∃ u, text m e = u := ⟨_, rfl⟩
      rw [hu] at HX HT hxl hnz hz
      rw [← HS.out] at HT
      clear hu
      obtain ⟨r, hrr⟩ : ∃ r, rightB m e = r := ⟨_, rfl⟩
      rw [hrr] at HX0 HY hnz hz
      clear hrr
      cases r
      · have hu0 := hz rfl
        subst hu0
        have HF := Lib.hid (decs_wrong (HX0.out rfl))
        clear HT HS hnz hz HY HDR
        go_wp2_with fail
        refine (HX.out _).mono ?_
        rintro x w2 ⟨rfl, hg⟩
        have HG2 := Lib.hid (HG.out.trans hg)
        clear hg HX
        go_wp2
        go_ret
        exact ⟨by rw [HF.out]; rfl, HG2.out⟩
      have hub : (u == []) = false := beq_eq_false_iff_ne.2 (hnz rfl)
      have HD2 := Lib.hid (show decsR (ds.take (k + 1)) = true by rw [HY.out, HDR.out]; rfl)
      clear HX0 HY hnz hz HDR
      by_cases h0 : k = 0
      · have hz : ¬ (0 : Int) < ((k : Nat) : Int) := by omega
        have hzn : ¬ 0 < k := by omega
        have hs0 : s = [] := by rw [HS.out, h0]; rfl
        have HV := Lib.hid (show u = join ((ds.take (k + 1)).map fun d => text d.1 d.2) [32] by rw [HT.out, if_pos h0])
        subst hs0
        have hcat : (⟨#[]⟩ : ByteArray) ++ ⟨u.toArray⟩ = ⟨u.toArray⟩ := str_app [] u
        have hs1 : ¬ 9223372036854775807 < u.length := by omega
        clear HT HS h0
        go_wp2_with fail
        refine (HX.out _).mono ?_
        rintro x w2 ⟨rfl, hg⟩
        have HG2 := Lib.hid (HG.out.trans hg)
        clear hg HX
        go_wp2
        go_roundg (n - (k + 1))
        case rel => exact ⟨k + 1, u, by omega, rfl, by go_num, rfl, HV, HD2, HG2⟩
        case measure => omega
      · have hz : (0 : Int) < ((k : Nat) : Int) := by omega
        have hzn : 0 < k := by omega
        have HV := Lib.hid (show s ++ 32 :: u = join ((ds.take (k + 1)).map fun d => text d.1 d.2) [32] by rw [HT.out, if_neg h0])
        have hcat : (⟨s.toArray⟩ : ByteArray) ++ ⟨#[32]⟩ = ⟨(s ++ [32]).toArray⟩ := str_app s [32]
        have hcat2 : (⟨(s ++ [32]).toArray⟩ : ByteArray) ++ ⟨u.toArray⟩ = ⟨(s ++ 32 :: u).toArray⟩ := by rw [str_app]; simp
        have hs1 : ¬ 9223372036854775807 < s.length + 1 := by omega
        have hs2 : ¬ 9223372036854775807 < s.length + 1 + u.length := by omega
        clear HT HS h0
        go_wp2_with fail
        refine (HX.out _).mono ?_
        rintro x w2 ⟨rfl, hg⟩
        have HG2 := Lib.hid (HG.out.trans hg)
        clear hg HX
        go_wp2
        go_roundg (n - (k + 1))
        case rel => exact ⟨k + 1, s ++ 32 :: u, by omega, rfl, by go_num, rfl, HV, HD2, HG2⟩
        case measure => omega
    · obtain rfl : n = k := by omega
      have hd := HDR.out
      rw [List.take_of_length_le (by rw [HN.out]; exact Nat.le_refl _)] at hd
      have HV := Lib.hid (show s = decsT ds by rw [HS.out, List.take_of_length_le (by rw [HN.out]; exact Nat.le_refl _)]; unfold decsT; rw [if_pos hd])
      clear hd
      go_wp2
      go_ret
      exact ⟨by rw [← HV.out]; rfl, HG.out⟩
end Go.Proofs.YtkebngldmcoaaaaGreatDoor
