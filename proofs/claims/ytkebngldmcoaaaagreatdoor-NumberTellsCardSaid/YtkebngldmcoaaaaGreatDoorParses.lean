/-
  What decimal.Parse comes to.
-/
import Derived.Test.YtkebngldmcoaaaaGreatDoorCuts
namespace Go.Proofs.YtkebngldmcoaaaaGreatDoor
open Go.RowKit Go.Lib

/-- what the library's variables hold -/
structure Laid (w : World) : Prop where
  pows : Pows w
  syn : ∃ tp p, w.var? Tryz.prog "strconv.ErrSyntax" = some #[.iface tp p]
  rng : ∃ tp p, w.var? Tryz.prog "strconv.ErrRange" = some #[.iface tp p]

theorem Laid.grow {w w' : World} (h : Laid w) (hg : Grow w w') : Laid w' :=
  ⟨h.pows.grow hg, by obtain ⟨tp, p, hv⟩ := h.syn; exact ⟨tp, p, var_grow hv hg⟩, by obtain ⟨tp, p, hv⟩ := h.rng; exact ⟨tp, p, var_grow hv hg⟩⟩

/-- the text that is handed to the library -/
def signed (l : List UInt8) : List UInt8 := if hasPrefix l [194, 175] then 45 :: l.drop 2 else l

/-- what a text says, nearly -/
def numOf (l : List UInt8) : Int := match atoiAll (signed l) with
  | .ok v => v
  | _ => 0

theorem numOf_nil : numOf [] = 0 := rfl

theorem atoi_in {l : List UInt8} {v : Int} (h : atoiAll l = .ok v) : In v := by
  unfold atoiAll at h
  split at h
  · cases h
  · simp only at h
    split at h
    · cases h
    · cases h
    · split at h
      · cases h
      · split at h
        · cases h
        · rename_i h1 h2
          injection h with h
          subst h
          split
          · rename_i h3
            simp only [h3, true_and] at h2
            constructor <;> omega
          · rename_i h3
            simp only [h3, not_false_eq_true, true_and] at h1
            constructor <;> omega

theorem numOf_in (l : List UInt8) : In (numOf l) := by
  unfold numOf
  split
  · rename_i h
    exact atoi_in h
  · constructor <;> decide

theorem hasP_digits (u : Nat) : hasPrefix (decDigits u) [194, 175] = false := by
  obtain ⟨c, r, h, h1, h2⟩ := dd_cons u
  rw [h]
  unfold hasPrefix
  have : ((194 : UInt8) == c) = false := by
    rw [beq_eq_false_iff_ne]
    intro e
    rw [← e] at h2
    exact absurd h2 (by decide)
  show ((194 : UInt8) == c && List.isPrefixOf [175] r) = false
  rw [this]
  rfl

theorem numOf_num {n : Int} (hn : In n) : numOf (num n) = n := by
  have h1 := hn.1; have h2 := hn.2
  unfold numOf signed
  by_cases h : n < 0
  · rw [num_neg h]
    have hp : hasPrefix (194 :: 175 :: decDigits n.natAbs) [194, 175] = true := by simp [hasPrefix]
    rw [hp]
    simp only [if_true, List.drop_succ_cons, List.drop_zero]
    rw [atoi_neg _ (by omega)]
    simp only
    omega
  · rw [num_pos h, hasP_digits]
    simp only [Bool.false_eq_true, if_false]
    rw [atoi_dd _ (by omega)]
    simp only
    omega

/-- the right number whose text is l, if there is one -/
def parseD (l : List UInt8) : Dc × Bool :=
  if text (numOf (cutE l).1) (numOf (cutE l).2.1) = l then ((numOf (cutE l).1, numOf (cutE l).2.1), true) else ((0, 0), false)

theorem zero_right : rightB 0 0 = true := by decide

theorem parseD_text {m e : Int} (hm : In m) (h : rightB m e = true) : parseD (text m e) = ((m, e), true) := by
  have he := right_exp hm h
  have hE : In e := ⟨by omega, by omega⟩
  unfold parseD
  by_cases h0 : e = 0
  · subst h0
    rw [text_plain h, cutE_none _ (num_noE m)]
    simp only [numOf_num hm, numOf_nil]
    rw [text_plain h, if_pos rfl]
  · rw [text_exp h h0, cutE_at _ _ (num_noE m)]
    simp only [numOf_num hm, numOf_num hE]
    rw [text_exp h h0, if_pos rfl]

theorem parseD_true {l : List UInt8} (h : (parseD l).2 = true) : rightB (parseD l).1.1 (parseD l).1.2 = true ∧ text (parseD l).1.1 (parseD l).1.2 = l := by
  unfold parseD at h ⊢
  split
  · rename_i ht
    refine ⟨?_, ht⟩
    cases hr : rightB (numOf (cutE l).1) (numOf (cutE l).2.1) with
    | true => rfl
    | false =>
      exfalso
      rw [text_wrong hr] at ht
      subst ht
      exact absurd hr (by decide)
  · rename_i ht
    rw [if_neg ht] at h
    cases h

theorem parseD_false {l : List UInt8} (h : (parseD l).2 = false) : (parseD l).1 = (0, 0) := by
  unfold parseD at h ⊢
  split
  · rename_i ht
    rw [if_pos ht] at h
    cases h
  · rfl

theorem parseD_in (l : List UInt8) : In (parseD l).1.1 ∧ In (parseD l).1.2 := by
  unfold parseD
  split
  · exact ⟨numOf_in _, numOf_in _⟩
  · constructor <;> constructor <;> decide

theorem cutE_len (l : List UInt8) : (cutE l).1.length ≤ l.length ∧ (cutE l).2.1.length ≤ l.length := by
  rcases cutE_idx l with ⟨h, _⟩ | ⟨a, b, h1, h2, _⟩
  · rw [h]; simp
  · rw [h2, h1]; simp; omega

theorem below_bytes (w : World) (t : ByteArray) : Grow w (Lib.bytesWorld w 5 t) := Lib.bytesWorld_below _ _ _

theorem atoi_any (l : List UInt8) (hl : l.length ≤ 1000001) (w : World) (hL : Laid w) :
    Calls Tryz.prog 55 #[.string ⟨l.toArray⟩] w fun e w' => ∃ v ev, e = .returned (.tuple #[.int .i64 v, ev]) ∧
      ((ev = .nilIface ∧ atoiAll l = .ok v) ∨ ((∃ N, ev = .iface 106 (.pointer (some ⟨N, 0, none⟩))) ∧ ∀ u, atoiAll l ≠ .ok u)) ∧ Grow w w' := by
  have hs : (⟨l.toArray⟩ : ByteArray).size ≤ 281474976710656 := by rw [Lib.size_eq]; simp; omega
  rcases h : atoiAll l with v | _ | _
  · refine (Tryz.strconv_Atoi_ok ⟨l.toArray⟩ (by omega) v h w).mono ?_
    rintro e w' ⟨rfl, hw⟩
    refine ⟨v, .nilIface, rfl, .inl ⟨rfl, rfl⟩, ?_⟩
    rcases hw with rfl | ⟨t, rfl⟩
    · exact Grow.refl _
    · exact below_bytes _ _
  · obtain ⟨tp, p, hv⟩ := hL.syn
    refine (Any.strconv_Atoi_syntax_var Tryz.laysC172 ⟨l.toArray⟩ hs h tp p w hv).mono ?_
    rintro e w' ⟨N, rfl, _, _, hb⟩
    exact ⟨_, _, rfl, .inr ⟨⟨N, rfl⟩, fun u hu => by cases hu⟩, hb⟩
  · obtain ⟨tp, p, hv⟩ := hL.rng
    refine (Any.strconv_Atoi_range_var Tryz.laysC172 ⟨l.toArray⟩ hs h tp p w hv).mono ?_
    rintro e w' ⟨N, rfl, _, _, hb⟩
    exact ⟨_, _, rfl, .inr ⟨⟨N, rfl⟩, fun u hu => by cases hu⟩, hb⟩

theorem signed_len (l : List UInt8) : (signed l).length ≤ l.length + 1 := by
  unfold signed
  split
  · simp only [List.length_cons, List.length_drop]; omega
  · omega

theorem numOf_ok {l : List UInt8} {v : Int} (h : atoiAll (signed l) = .ok v) : numOf l = v := by unfold numOf; rw [h]
theorem numOf_not {l : List UInt8} (h : ∀ u, atoiAll (signed l) ≠ .ok u) : numOf l = 0 := by
  unfold numOf
  split
  · rename_i v hv
    exact absurd hv (h v)
  · rfl

set_option maxRecDepth 10000 in
set_option maxHeartbeats 800000 in
theorem number_any (l : List UInt8) (hl : l.length ≤ 1000000) (w : World) (hL : Laid w) :
    Calls Tryz.prog 42 #[.string ⟨l.toArray⟩] w fun e w' => e = .returned (.int .i64 (numOf l)) ∧ Grow w w' := by
  have HC := Lib.hid (Tryz.strings_CutPrefix ⟨l.toArray⟩ ⟨#[194, 175]⟩ w)
  rw [show (⟨l.toArray⟩ : ByteArray).data.toList = l from rfl, show (⟨#[194, 175]⟩ : ByteArray).data.toList = [194, 175] from rfl] at HC
  have HA := Lib.hid (atoi_any (signed l) (by have := signed_len l; omega) w hL)
  have HO := Lib.hid (fun v h => numOf_ok (l := l) (v := v) h)
  have HN := Lib.hid (numOf_not (l := l))
  have hsg : signed l = if hasPrefix l [194, 175] then 45 :: l.drop 2 else l := rfl
  have htr : trimPrefix l [194, 175] = if hasPrefix l [194, 175] then l.drop 2 else l := rfl
  rw [htr] at HC
  generalize hasPrefix l [194, 175] = b at *
  clear htr
  cases b
  · simp only [Bool.false_eq_true, if_false] at hsg HC
    rw [hsg] at HA HO HN
    clear hsg
    go_enter Tryz.func42, Tryz.ntmps42
    go_wp2_with fail
    refine (HC.out).mono ?_
    rintro e w' ⟨rfl, rfl⟩
    go_wp2_with fail
    refine (HA.out).mono ?_
    rintro e w1 ⟨v, ev, rfl, hor, hg⟩
    have HG := Lib.hid hg
    clear hg HA HC
    rcases hor with ⟨rfl, hok⟩ | ⟨⟨N, rfl⟩, hno⟩
    · have HV := Lib.hid (HO.out v hok)
      clear hok
      go_wp2
      go_ret
      exact ⟨by rw [HV.out]; rfl, HG.out⟩
    · have HV := Lib.hid (HN.out hno)
      clear hno
      go_wp2
      go_ret
      exact ⟨by rw [HV.out]; rfl, HG.out⟩
  · simp only [if_true] at hsg HC
    rw [hsg] at HA HO HN
    obtain ⟨r, hr⟩ : ∃ r, l.drop 2 = r := ⟨_, rfl⟩
    have hlen : ¬ 9223372036854775807 < 1 + r.length := by rw [← hr]; simp; omega
    rw [hr] at HA HC HO HN
    have hcat : (⟨#[45]⟩ : ByteArray) ++ ⟨r.toArray⟩ = ⟨(45 :: r).toArray⟩ := str_app [45] r
    clear hsg hr
    go_enter Tryz.func42, Tryz.ntmps42
    go_wp2_with fail
    refine (HC.out).mono ?_
    rintro e w' ⟨rfl, rfl⟩
    go_wp2_with fail
    refine (HA.out).mono ?_
    rintro e w1 ⟨v, ev, rfl, hor, hg⟩
    have HG := Lib.hid hg
    clear hg HA HC
    rcases hor with ⟨rfl, hok⟩ | ⟨⟨N, rfl⟩, hno⟩
    · have HV := Lib.hid (HO.out v hok)
      clear hok
      go_wp2
      go_ret
      exact ⟨by rw [HV.out]; rfl, HG.out⟩
    · have HV := Lib.hid (HN.out hno)
      clear hno
      go_wp2
      go_ret
      exact ⟨by rw [HV.out]; rfl, HG.out⟩

set_option maxRecDepth 10000 in
set_option maxHeartbeats 800000 in
theorem parse_any (l : List UInt8) (hl : l.length ≤ 1000000) (w : World) (hL : Laid w) :
    Calls Tryz.prog 24 #[.string ⟨l.toArray⟩] w fun x w' =>
      x = .returned (.tuple #[.agg #[.int .i64 (parseD l).1.1, .int .i64 (parseD l).1.2], .bool (parseD l).2]) ∧ Grow w w' := by
  have HC := Lib.hid (fun W => cut_any l hl W)
  have hll := cutE_len l
  have HP : Hid (parseD l = if text (numOf (cutE l).1) (numOf (cutE l).2.1) = l then ((numOf (cutE l).1, numOf (cutE l).2.1), true) else ((0, 0), false)) := Lib.hid rfl
  have HI1 := Lib.hid (numOf_in (cutE l).1)
  have HI2 := Lib.hid (numOf_in (cutE l).2.1)
  have HL := Lib.hid hL
  clear hL
  obtain ⟨⟨a, b, f⟩, hr⟩ : ∃ r, cutE l = r := ⟨_, rfl⟩
  rw [hr] at HC hll HP HI1 HI2
  simp only at HC hll HP HI1 HI2
  have HN1 := Lib.hid (fun W h => number_any a (by omega) W h)
  have HN2 := Lib.hid (fun W h => number_any b (by omega) W h)
  obtain ⟨m, hm⟩ : ∃ m, numOf a = m := ⟨_, rfl⟩
  obtain ⟨e, he⟩ : ∃ e, numOf b = e := ⟨_, rfl⟩
  rw [hm, he] at HP
  rw [hm] at HI1 HN1
  rw [he] at HI2 HN2
  have HT := Lib.hid (fun W h => text_any m e W HI1.out HI2.out h)
  obtain ⟨t, ht⟩ : ∃ t, text m e = t := ⟨_, rfl⟩
  rw [ht] at HT HP
  clear hr hm he ht hll HI1 HI2
  go_enter Tryz.func24, Tryz.ntmps24
  go_wp2_with fail
  refine (HC.out _).mono ?_
  rintro x w1 ⟨rfl, hg⟩
  have HG := Lib.hid ((grow_new w _).trans hg)
  have HB := Lib.hid ((boxed_new w (.int .i64 0) (.int .i64 0) 28).grow hg)
  clear hg HC
  go_wp2_with fail
  refine (HN1.out _ (HL.out.grow HG.out)).mono ?_
  rintro x w2 ⟨rfl, hg⟩
  have HG2 := Lib.hid (HG.out.trans hg)
  have HB2 := Lib.hid (HB.out.grow hg)
  clear hg HG HB HN1
  go_wp2_with fail
  refine (HN2.out _ (HL.out.grow HG2.out)).mono ?_
  rintro x w3 ⟨rfl, hg⟩
  have HG3 := Lib.hid (HG2.out.trans hg)
  have HB3 := Lib.hid (HB2.out.grow hg)
  clear hg HG2 HB2 HN2
  go_wp2_with fail
  refine (HT.out _ ((HL.out.grow HG3.out).grow (grow_new _ _)).pows).mono ?_
  rintro x w4 ⟨rfl, hg⟩
  have HG4 := Lib.hid (HG3.out.trans ((grow_new _ _).trans hg))
  have hb4 := HB3.out.grow ((grow_new _ _).trans hg)
  have hd4 := (boxed_new w3 (.int .i64 m) (.int .i64 e) 28).grow hg
  have hc0 := hb4.fst
  have hc1 := hb4.snd
  have hf0 := hb4.froz 0
  have hf1 := hb4.froz 1
  have he0 := hd4.fst
  have he1 := hd4.snd
  have hne : ¬ w3.heap.size = w.heap.size := by have := HB3.out.lt; omega
  have HB4 := Lib.hid hb4
  clear hg HG3 HB3 HT hb4 hd4
  by_cases hq : t = l
  · subst hq
    rw [if_pos rfl] at HP
    have HP' := Lib.hid HP.out
    clear HP
    go_wp2
    have hr := (HB4.out.put0 (.int .i64 m)).put1 (.int .i64 e)
    exact bodyPost_ret (v := .tuple #[.agg #[.int .i64 m, .int .i64 e], .bool true]) (by simp [results, Tryz.results24, go_sem, hr.fst, hr.snd]) rfl
      ⟨by rw [HP'.out], (HG4.out.put (Nat.le_refl _) 0 _).put (Nat.le_refl _) 1 _⟩
  · rw [if_neg hq] at HP
    have HP' := Lib.hid HP.out
    have hqb : (t == l) = false := by simpa using hq
    clear HP hq
    go_wp2
    have hr := (HB4.out.put0 (.int .i64 0)).put1 (.int .i64 0)
    exact bodyPost_ret (v := .tuple #[.agg #[.int .i64 0, .int .i64 0], .bool false]) (by simp [results, Tryz.results24, go_sem, hr.fst, hr.snd]) rfl
      ⟨by rw [HP'.out], (HG4.out.put (Nat.le_refl _) 0 _).put (Nat.le_refl _) 1 _⟩

end Go.Proofs.YtkebngldmcoaaaaGreatDoor
