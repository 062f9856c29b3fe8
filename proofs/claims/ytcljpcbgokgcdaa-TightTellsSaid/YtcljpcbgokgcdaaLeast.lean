/-
  What tight.least comes to: the array of right numbers.
-/
import Derived.Test.YtcljpcbgokgcdaaLooks
import Derived.Test.YtcljpcbgokgcdaaSmallM
namespace Go.Proofs.Ytcljpcbgokgcdaa
open Go.RowKit Go.Lib
set_option linter.unusedSimpArgs false
set_option linter.unusedVariables false

section
variable {T : Nat → Prop} {w w' : World} {A : Option Addr}
theorem NumsT.grow {xs : List Int} (h : NumsT T w A xs) (hg : Grow w w') : NumsT T w' A xs := fun hn => by
  obtain ⟨b, off, e, hb, hc⟩ := h hn
  refine ⟨b, off, e, hb, fun i hi => ?_⟩
  have := hc i hi
  exact (hg.cell (p := ⟨b, off + i, none⟩) (block_lt_of_cell this)).trans this
theorem DecsT.grow {ds : List (Int × Int)} (h : DecsT T w A ds) (hg : Grow w w') : DecsT T w' A ds := fun hn => by
  obtain ⟨b, off, e, hb, hc⟩ := h hn
  refine ⟨b, off, e, hb, fun i hi => ?_⟩
  obtain ⟨h1, h2⟩ := hc i hi
  exact ⟨(hg.cell (p := ⟨b, off + i * 2, none⟩) (block_lt_of_cell h1)).trans h1, (hg.cell (p := ⟨b, off + i * 2 + 1, none⟩) (block_lt_of_cell h2)).trans h2⟩
theorem NewN.to {B : Nat} {xs : List Int} (h : NewN B A xs w) (hT : ∀ b, B ≤ b → T b) : NumsT T w A xs := h.keep fun b hb => ⟨hT b hb.1, rfl⟩
theorem NewD.to {B : Nat} {ds : List (Int × Int)} (h : NewD B A ds w) (hT : ∀ b, B ≤ b → T b) : DecsT T w A ds := h.keep fun b hb => ⟨hT b hb.1, rfl⟩
theorem NumsT.nil_ : NumsT T w A [] := fun h => absurd h (by simp)
theorem DecsT.nil_ : DecsT T w A [] := fun h => absurd h (by simp)
end
/-- a node as a value, whose lists lie in blocks of T -/
def NdV (T : Nat → Prop) (w : World) (v : Value) (n : Nd) : Prop :=
  ∃ A1 c1 A2 c2 A3 c3, v = .agg #[.int .i64 n.kind, .slice A1 n.shp.length c1, .slice A2 n.ints.length c2, .slice A3 n.decs.length c3] ∧ NumsT T w A1 n.shp ∧ NumsT T w A2 n.ints ∧ DecsT T w A3 n.decs
theorem NdV.grow {T : Nat → Prop} {w w' : World} {v : Value} {n : Nd} (h : NdV T w v n) (hg : Grow w w') : NdV T w' v n := by
  obtain ⟨A1, c1, A2, c2, A3, c3, e, h1, h2, h3⟩ := h
  exact ⟨A1, c1, A2, c2, A3, c3, e, h1.grow hg, h2.grow hg, h3.grow hg⟩
theorem BoxN.store {w : World} {b : Nat} {k : Int} {A1 A2 A3 : Option Addr} {l1 c1 l2 c2 l3 c3 : Nat} (h : BoxN w b k A1 l1 c1 A2 l2 c2 A3 l3 c3) (k' : Int) (A1' A2' A3' : Option Addr) (l1' c1' l2' c2' l3' c3' : Nat) :
    BoxN ((((w.setCell ⟨b, 0, none⟩ (.int .i64 k')).setCell ⟨b, 1, none⟩ (.slice A1' l1' c1')).setCell ⟨b, 2, none⟩ (.slice A2' l2' c2')).setCell ⟨b, 3, none⟩ (.slice A3' l3' c3')) b k' A1' l1' c1' A2' l2' c2' A3' l3' c3' := by
  have h0 := heap_setCell_same w b 0 _ _ (.int .i64 k') h
  have h1 := heap_setCell_same _ b 1 _ _ (.slice A1' l1' c1') h0
  have h2 := heap_setCell_same _ b 2 _ _ (.slice A2' l2' c2') h1
  exact heap_setCell_same _ b 3 _ _ (.slice A3' l3' c3') h2
theorem BoxN.froz {w : World} {b : Nat} {k : Int} {A1 A2 A3 : Option Addr} {l1 c1 l2 c2 l3 c3 : Nat} (h : BoxN w b k A1 l1 c1 A2 l2 c2 A3 l3 c3) (j : Nat) : w.frozen? ⟨b, j, none⟩ = false := frozen_of_row w b j _ _ h
theorem kept_store {w : World} {b : Nat} (u0 u1 u2 u3 : Value) : Kept (fun k => k = b) w ((((w.setCell ⟨b, 0, none⟩ u0).setCell ⟨b, 1, none⟩ u1).setCell ⟨b, 2, none⟩ u2).setCell ⟨b, 3, none⟩ u3) :=
  ((((Kept.refl _ w).one (i := 0) u0).one (i := 1) u1).one (i := 2) u2).one (i := 3) u3

/-- a variable that holds whole numbers of one's own -/
def IntsVar (ib : Nat) (xs : List Int) (w : World) : Prop := ∃ v, w.heap[ib]? = some (.cells #[v] 23 (0, 0)) ∧ OwnI (ib + 1) v xs w
theorem IntsVar.lt {ib : Nat} {xs : List Int} {w : World} (h : IntsVar ib xs w) : ib < w.heap.size := by obtain ⟨v, h1, _⟩ := h; exact heap_lt h1
theorem IntsVar.grow {ib : Nat} {xs : List Int} {w w' : World} (h : IntsVar ib xs w) (hg : Grow w w') : IntsVar ib xs w' := by
  obtain ⟨v, h1, h2⟩ := h
  exact ⟨v, (hg.block ib (heap_lt h1)).trans h1, h2.grow hg⟩
theorem own_keep {w w' : World} {B size n : Nat} {e : TypeId} {v : Value} {xs : List Value} (h : w.ownsRow B e size v n xs) (hk : ∀ b, B ≤ b → w'.heap[b]? = w.heap[b]?) : w'.ownsRow B e size v n xs := by
  refine ⟨h.1, ?_⟩
  rcases h.2 with h | ⟨g, cap, cur, e1, hb, hg, rest⟩
  · exact .inl h
  · exact .inr ⟨g, cap, cur, e1, hb, (hk g hb).trans hg, rest⟩

def StepL (ib : Nat) (β : Bool) (xs : List Int) (w : World) (e : Ending) (w' : World) : Prop := e = .returned (.bool β) ∧ IntsVar ib xs w' ∧ Below ib w w'
set_option maxRecDepth 10000 in
set_option maxHeartbeats 800000 in
theorem least1_any (m e : Int) (ib : Nat) (xs : List Int) (w : World) (hm : In m) (he : In e) (hx : xs.length ≤ 1100000) (hi : IntsVar ib xs w) :
    Calls Try.prog 55 #[.agg #[.int .i64 m, .int .i64 e], .pointer (some ⟨ib, 0, none⟩)] w (StepL ib (!whlB (m, e)) (xs ++ [whlV (m, e)]) w) := by
  have HC := Lib.hid (fun W => dwhole_any m e W hm he)
  have e1 : whlB (m, e) = (wholeD m e).2 := rfl
  have e2 : whlV (m, e) = (wholeD m e).1 := rfl
  rw [e1, e2]
  clear e1 e2 hm he
  generalize wholeD m e = r at *
  obtain ⟨q, β⟩ := r
  dsimp only at *
  have hb := boxed_new w (.int .i64 m) (.int .i64 e) 42
  have c0 := hb.fst
  have c1 := hb.snd
  have HI := Lib.hid hi
  have HLT := Lib.hid hi.lt
  have HG1 := Lib.hid (grow_new w (.cells #[.int .i64 m, .int .i64 e] 42))
  clear hb hi
  cases β with
  | false =>
    have HLE : Hid ((xs ++ [q]).length = xs.length + 1) := Lib.hid (by simp)
    go_enter Try.func55, Try.ntmps55
    go_wp2_with fail
    refine (HC.out _).mono ?_
    rintro x w2 ⟨rfl, hg2⟩
    have HG2 := Lib.hid (HG1.out.trans hg2)
    clear hg2 HC c0 c1
    obtain ⟨v, hv, hown⟩ := HI.out.grow HG2.out
    have v0 := cell_of_row w2 ib 0 _ _ (0, 0) hv
    have HV := Lib.hid hv
    have HO := Lib.hid (hown.grow (grow_new w2 (.cells #[.int .i64 q] 3)))
    have HL := Lib.hid (nums_lit w2 [q])
    have HV3 := Lib.hid ((Below.block (grow_new w2 (.cells #[.int .i64 q] 3)) ib (heap_lt hv)).trans hv)
    have HZ : Hid (ib + 1 ≤ (w2.alloc (.cells #[.int .i64 q] 3)).heap.size) := Lib.hid (heap_lt HV3.out)
    clear hv hown
    go_wp2_with (at_builtin; refine wpList_more_ints rfl _ _ rfl (ib + 1) v xs (some ⟨w2.heap.size, 0, none⟩) 1 1 [q] rfl HO.out rfl rfl HL.out (by omega) HZ.out ?_; intro v' w5 HO5 HB5 HA5; have HV5 := Lib.hid ((HB5.out.block ib (Nat.lt_succ_self _)).trans HV3.out); have f5 := frozen_of_row w5 ib 0 _ _ HV5.out; have c5 := cell_of_row w5 ib 0 _ _ (0, 0) HV5.out; obtain ⟨A5, k5, e5, hk5, hN5⟩ := HO5.out.new; rw [HLE.out] at e5; subst e5)
    go_ret
    refine ⟨rfl, ⟨_, heap_setCell_same w5 ib 0 _ _ _ HV5.out, own_keep HO5.out fun b hb => heap_setCell_other w5 ⟨ib, 0, none⟩ b _ (show b ≠ ib by omega)⟩, ?_⟩
    have h1 := Below.trans (Below.mono HG2.out (Nat.le_of_lt HLT.out)) (Below.mono (grow_new w2 (.cells #[.int .i64 q] 3)) (Nat.le_of_lt (heap_lt HV.out)))
    exact Below.setCell (Below.trans h1 (Below.mono HB5.out (Nat.le_succ _))) (Nat.le_refl _) _
  | true =>
    have HLE : Hid ((xs ++ [q]).length = xs.length + 1) := Lib.hid (by simp)
    go_enter Try.func55, Try.ntmps55
    go_wp2_with fail
    refine (HC.out _).mono ?_
    rintro x w2 ⟨rfl, hg2⟩
    have HG2 := Lib.hid (HG1.out.trans hg2)
    clear hg2 HC c0 c1
    obtain ⟨v, hv, hown⟩ := HI.out.grow HG2.out
    have v0 := cell_of_row w2 ib 0 _ _ (0, 0) hv
    have HV := Lib.hid hv
    have HO := Lib.hid (hown.grow (grow_new w2 (.cells #[.int .i64 q] 3)))
    have HL := Lib.hid (nums_lit w2 [q])
    have HV3 := Lib.hid ((Below.block (grow_new w2 (.cells #[.int .i64 q] 3)) ib (heap_lt hv)).trans hv)
    have HZ : Hid (ib + 1 ≤ (w2.alloc (.cells #[.int .i64 q] 3)).heap.size) := Lib.hid (heap_lt HV3.out)
    clear hv hown
    go_wp2_with (at_builtin; refine wpList_more_ints rfl _ _ rfl (ib + 1) v xs (some ⟨w2.heap.size, 0, none⟩) 1 1 [q] rfl HO.out rfl rfl HL.out (by omega) HZ.out ?_; intro v' w5 HO5 HB5 HA5; have HV5 := Lib.hid ((HB5.out.block ib (Nat.lt_succ_self _)).trans HV3.out); have f5 := frozen_of_row w5 ib 0 _ _ HV5.out; have c5 := cell_of_row w5 ib 0 _ _ (0, 0) HV5.out; obtain ⟨A5, k5, e5, hk5, hN5⟩ := HO5.out.new; rw [HLE.out] at e5; subst e5)
    go_ret
    refine ⟨rfl, ⟨_, heap_setCell_same w5 ib 0 _ _ _ HV5.out, own_keep HO5.out fun b hb => heap_setCell_other w5 ⟨ib, 0, none⟩ b _ (show b ≠ ib by omega)⟩, ?_⟩
    have h1 := Below.trans (Below.mono HG2.out (Nat.le_of_lt HLT.out)) (Below.mono (grow_new w2 (.cells #[.int .i64 q] 3)) (Nat.le_of_lt (heap_lt HV.out)))
    exact Below.setCell (Below.trans h1 (Below.mono HB5.out (Nat.le_succ _))) (Nat.le_refl _) _

theorem alld_good {l : List (Int × Int)} {k : Nat} (h : k < l.length) : l.take (k + 1) = l.take k ++ [l.getD k (0, 0)] := by
  rw [List.take_add_one]
  congr 1
  simp [List.getD, h]
def FindsL (ib : Nat) (l : List (Int × Int)) (w : World) (e : Ending) (w' : World) : Prop :=
  ∃ (j : Int) (xs : List Int), e = .returned (.int .i64 j) ∧ decide (0 ≤ j) = !(l.all whlB) ∧ IntsVar ib xs w' ∧ (l.all whlB = true → xs = l.map whlV) ∧ Below ib w w'
set_option maxRecDepth 10000 in
set_option maxHeartbeats 1600000 in
theorem indexl_any (A : Option Addr) (n c ib : Nat) (l : List (Int × Int)) (w : World) (hn : l.length = n) (hm : n ≤ 1100000) (hi : ∀ x ∈ l, In x.1 ∧ In x.2) (hv : IntsVar ib [] w) (hr : Decs w ib A l) :
    Calls Try.prog 54 #[.slice A n c, .func (.func 55) #[] #[.pointer (some ⟨ib, 0, none⟩)]] w (FindsL ib l w) := by
  have HR := Lib.hid hr
  have HN := Lib.hid hn
  have HI := Lib.hid hi
  have HV := Lib.hid hv
  clear hr hn hi hv
  go_enter Try.func54, Try.ntmps54
  go_wp2
  go_loopg [8] n (fun g s8 wr => ∃ k : Nat, k ≤ n ∧ g = n - k ∧ s8 = .int .i64 k ∧ Hid ((l.drop k).all whlB = l.all whlB) ∧ Hid (IntsVar ib ((l.take k).map whlV) wr) ∧ Hid (Below ib w wr))
  case atStart => exact ⟨0, Nat.zero_le _, rfl, rfl, Lib.hid rfl, HV, Lib.hid (Below.refl _ _)⟩
  case round =>
    obtain ⟨k, hk, rfl, rfl, HA, HX, HG⟩ := hrel
    by_cases hlt : k < n
    · have hlti : ((k : Nat) : Int) < ((n : Nat) : Int) := by omega
      have hkl : k < l.length := by rw [HN.out]; exact hlt
      obtain ⟨b, off, rfl, hb, hcl⟩ := HR.out.below HG.out (by omega)
      obtain ⟨hc1, hc2⟩ := hcl k hkl
      have HT := Lib.hid (fun h => alld_drop (p := whlB) hkl h)
      have HF := Lib.hid (fun h => alld_fails (p := whlB) hkl h)
      have HTK := Lib.hid (alld_good hkl)
      have hin := in_at HI.out k
      have HLT : Hid (((l.take k).map whlV).length ≤ 1100000) := Lib.hid (by rw [List.length_map, List.length_take]; omega)
      clear hcl hkl hb
      generalize l.getD k (0, 0) = x at hc1 hc2 HT HF hin HTK
      obtain ⟨x1, x2⟩ := x
      dsimp only at hc1 hc2 hin
      have HC := Lib.hid (least1_any x1 x2 ib _ wr hin.1 hin.2 HLT.out HX.out)
      cases hx : whlB (x1, x2) with
      | true =>
        have HT' := Lib.hid (HT.out hx)
        rw [hx] at HC
        clear hx HT HF hin
        go_wp2_with (go_at_call 55; refine (HC.out).mono ?_; rintro e w2 ⟨rfl, hv2, hb2⟩)
        go_roundg (n - (k + 1))
        case rel => exact ⟨k + 1, by omega, rfl, by go_num, Lib.hid (HT'.out.symm.trans HA.out), Lib.hid (by rw [HTK.out, List.map_append]; exact hv2), Lib.hid (Below.trans HG.out hb2)⟩
        case measure => omega
      | false =>
        have HF' := Lib.hid (HF.out hx)
        rw [hx] at HC
        clear hx HT HF hin
        go_wp2_with (go_at_call 55; refine (HC.out).mono ?_; rintro e w2 ⟨rfl, hv2, hb2⟩)
        go_ret
        refine ⟨_, _, rfl, ?_, hv2, fun h => ?_, Below.trans HG.out hb2⟩
        · rw [← HA.out, HF'.out]
          simp
        · rw [← HA.out, HF'.out] at h
          cases h
    · obtain rfl : n = k := by omega
      have HF := Lib.hid (show l.all whlB = true by rw [← HA.out, List.drop_of_length_le (by rw [HN.out]; exact Nat.le_refl _)]; rfl)
      have HTA := Lib.hid (show l.take n = l from List.take_of_length_le (by rw [HN.out]; exact Nat.le_refl _))
      rw [HTA.out] at HX
      go_wp2
      go_ret
      refine ⟨_, _, rfl, ?_, HX.out, fun _ => rfl, HG.out⟩
      rw [HF.out]
      rfl
def HasL (ib : Nat) (l : List (Int × Int)) (w : World) (e : Ending) (w' : World) : Prop :=
  ∃ xs : List Int, e = .returned (.bool (!(l.all whlB))) ∧ IntsVar ib xs w' ∧ (l.all whlB = true → xs = l.map whlV) ∧ Below ib w w'
theorem containsl_any (A : Option Addr) (n c ib : Nat) (l : List (Int × Int)) (w : World) (hn : l.length = n) (hm : n ≤ 1100000) (hi : ∀ x ∈ l, In x.1 ∧ In x.2) (hv : IntsVar ib [] w) (hr : Decs w ib A l) :
    Calls Try.prog 34 #[.slice A n c, .func (.func 55) #[] #[.pointer (some ⟨ib, 0, none⟩)]] w (HasL ib l w) := by
  have HI := Lib.hid (indexl_any A n c ib l w hn hm hi hv hr)
  clear hn hr hi hv
  obtain ⟨β, hβ⟩ : ∃ β, l.all whlB = β := ⟨_, rfl⟩
  have HB := Lib.hid hβ
  clear hβ
  go_enter Try.func34, Try.ntmps34
  go_wp2_with fail
  refine (HI.out).mono ?_
  rintro e w2 ⟨j, xs, rfl, hj, hv2, hx2, hb2⟩
  rw [HB.out] at hj
  have HV2 := Lib.hid hv2
  have HX2 := Lib.hid hx2
  have HB2 := Lib.hid hb2
  clear hv2 hx2 hb2
  cases β with
  | false =>
    have hj' : (0 : Int) ≤ j := by simpa using hj
    clear hj
    go_wp2
    go_ret
    exact ⟨xs, by rw [HB.out]; simp [hj'], HV2.out, HX2.out, HB2.out⟩
  | true =>
    have hj' : ¬ (0 : Int) ≤ j := by simpa using hj
    clear hj
    go_wp2
    go_ret
    exact ⟨xs, by rw [HB.out]; simp [hj'], HV2.out, HX2.out, HB2.out⟩

def LeastP (T : Nat → Prop) (n : Nd) (w : World) (e : Ending) (w' : World) : Prop := ∃ v, e = .returned v ∧ NdV T w' v n ∧ Grow w w'
set_option maxRecDepth 10000 in
set_option maxHeartbeats 1600000 in
theorem least_any (T : Nat → Prop) (A1 : Option Addr) (n1 c1 : Nat) (s : List Int) (A : Option Addr) (n c : Nat) (l : List (Int × Int)) (w : World) (hT : ∀ b, w.heap.size ≤ b → T b) (hs : s.length = n1) (hsh : NumsT T w A1 s)
    (hn : l.length = n) (hm : n ≤ 1100000) (hi : ∀ x ∈ l, In x.1 ∧ In x.2) (hr : DecsT T w A l) :
    Calls Try.prog 35 #[.slice A1 n1 c1, .slice A n c] w (LeastP T (leastN s l) w) := by
  have hmf : ∀ (fn : Fn) (first cap : Array Value) (w : World), (Instr.makeFunc fn first cap).run Try.prog w = .ok (.func fn first cap) w := fun _ _ _ _ => rfl
  obtain ⟨rb, hrb⟩ : ∃ rb, w.heap.size = rb := ⟨_, rfl⟩
  let wA := (w.alloc (.cells #[.int .i64 0, .slice none 0 0, .slice none 0 0, .slice none 0 0] 30)).alloc (.cells #[.slice none 0 0] 23)
  have hgA : Grow w wA := grow_new2 _ _ _
  have hrbx : BoxN wA rb 0 none 0 0 none 0 0 none 0 0 := by
    rw [← hrb]
    exact (boxN_new w 0 none 0 0 none 0 0 none 0 0).grow (grow_new _ _)
  have hva : IntsVar (rb + 1) [] wA := by
    refine ⟨.slice none 0 0, ?_, ownI_nil _ _⟩
    have h := heap_alloc_new (w.alloc (.cells #[.int .i64 0, .slice none 0 0, .slice none 0 0, .slice none 0 0] 30)) (.cells #[.slice none 0 0] 23)
    rw [show (w.alloc (.cells #[.int .i64 0, .slice none 0 0, .slice none 0 0, .slice none 0 0] 30)).heap.size = rb + 1 by simp [hrb]] at h
    exact h
  have hszA : wA.heap.size = rb + 2 := by simp [wA, hrb]
  have hdec : Decs wA (rb + 1) A l := (hr.decs.below (Below.mono hgA (Nat.le_refl _))).more (by omega)
  have HC := Lib.hid (containsl_any A n c (rb + 1) l wA hn hm hi hva hdec)
  have HGA := Lib.hid hgA
  have HRB := Lib.hid hrbx
  have HSA := Lib.hid hszA
  have HSH := Lib.hid hsh
  have HD := Lib.hid hr
  have HN := Lib.hid hn
  have HS := Lib.hid hs
  have HTT := Lib.hid hT
  have HRE := Lib.hid hrb
  have HLL : Hid (leastN s l = if l.all whlB = true then ⟨kindI (l.map whlV), s, l.map whlV, []⟩ else ⟨4, s, [], l⟩) := Lib.hid rfl
  have HLM : Hid ((l.map whlV).length = n) := Lib.hid (by rw [List.length_map]; exact hn)
  have hsz1 : (w.alloc (.cells #[.int .i64 0, .slice none 0 0, .slice none 0 0, .slice none 0 0] 30)).heap.size = rb + 1 := by simp [hrb]
  clear hgA hrbx hva hszA hdec hr hn hs hT hi hsh
  obtain ⟨β, hβ⟩ : ∃ β, l.all whlB = β := ⟨_, rfl⟩
  rw [hβ] at HLL
  have HC' : Hid (Calls Try.prog 34 #[.slice A n c, .func (.func 55) #[] #[.pointer (some ⟨rb + 1, 0, none⟩)]] wA
      fun e w' => ∃ xs : List Int, e = .returned (.bool (!β)) ∧ IntsVar (rb + 1) xs w' ∧ (β = true → xs = l.map whlV) ∧ Below (rb + 1) wA w') := by rw [← hβ]; exact HC
  clear hβ HC
  go_enter Try.func35, Try.ntmps35
  go_wp2_with fail
  refine (HC'.out).mono ?_
  rintro e w2 ⟨xs, rfl, hv2, hx2, hb2⟩
  have hrbx2 : BoxN w2 rb 0 none 0 0 none 0 0 none 0 0 := (hb2.block rb (Nat.lt_succ_self _)).trans HRB.out
  have HGW : Hid (Grow w w2) := Lib.hid (Below.trans HGA.out (Below.mono hb2 (by rw [HRE.out]; exact Nat.le_succ _)))
  have HRB2 := Lib.hid hrbx2
  have f0 := hrbx2.froz 0
  have f1 := hrbx2.froz 1
  have f2 := hrbx2.froz 2
  have f3 := hrbx2.froz 3
  have c0 := hrbx2.at0
  have c1' := hrbx2.at1
  have c2 := hrbx2.at2
  have c3 := hrbx2.at3
  clear hb2 HC' HGA HRB HSA hrbx2 hsz1
  cases β with
  | false =>
    have HL : Hid (leastN s l = ⟨4, s, [], l⟩) := Lib.hid (by rw [HLL.out]; exact if_neg (by decide))
    clear hv2 hx2 HLL HLM
    go_wp2
    have hb := HRB2.out.store 4 A1 none A n1 c1 0 0 n c
    have hg := HGW.out.trans (show Grow w2 w2 from Grow.refl _)
    refine bodyPost_ret (v := .agg #[.int .i64 4, .slice A1 n1 c1, .slice none 0 0, .slice A n c]) (by simp [results, Try.results35, go_sem, hb.at0, hb.at1, hb.at2, hb.at3]) rfl ?_
    have HG4 : Grow w ((((w2.setCell ⟨rb, 0, none⟩ (.int .i64 4)).setCell ⟨rb, 1, none⟩ (.slice A1 n1 c1)).setCell ⟨rb, 2, none⟩ (.slice none 0 0)).setCell ⟨rb, 3, none⟩ (.slice A n c)) := by
      have hle : w.heap.size ≤ rb := by rw [HRE.out]; exact Nat.le_refl _
      exact (((HGW.out.put hle 0 _).put hle 1 _).put hle 2 _).put hle 3 _
    exact ⟨_, rfl, ⟨A1, c1, none, 0, A, c, by rw [HL.out, HS.out, HN.out]; rfl, by rw [HL.out]; exact HSH.out.grow HG4, by rw [HL.out]; exact NumsT.nil_, by rw [HL.out]; exact HD.out.grow HG4⟩, HG4⟩
  | true =>
    have hxe := hx2 rfl
    subst hxe
    have HL : Hid (leastN s l = ⟨kindI (l.map whlV), s, l.map whlV, []⟩) := Lib.hid (by rw [HLL.out]; exact if_pos rfl)
    clear hx2 HLL
    generalize l.map whlV = xs at *
    obtain ⟨v, hv, hown⟩ := hv2
    obtain ⟨A2, c2', rfl, hc2', hnew⟩ := hown.new
    rw [HLM.out] at hv
    have HV := Lib.hid hv
    have HNW := Lib.hid hnew
    clear hv hnew hown hc2'
    go_wp2
    refine wp_region_R ((Kept (fun k => k = rb))) (n := 6) rfl (by kernel_rfl) ?_
    intro W0 hW0e hW0
    have HW0 := Lib.hid hW0
    have v0 : ∀ wg, Kept (fun k => k = rb) W0 wg → wg.cell? ⟨rb + 1, 0, none⟩ = some (.slice A2 n c2') := fun wg h => by
      have h1 := (HW0.out.block (rb + 1) (heap_lt HV.out)).trans HV.out
      exact cell_of_row wg (rb + 1) 0 _ _ (0, 0) ((h.block (rb + 1) (heap_lt h1) (by show ¬ rb + 1 = rb; omega)).trans h1)
    clear hW0e
    refine wpR_take (keptOrd (fun k => k = rb)) (i := 0) (v := ?vf1) rfl (by kernel_rfl) (by kernel_rfl) (by kernel_rfl) (fun _ _ _ h => h) (by rfl) ?hf1 ?rf1
    case hf1 => (intro wg hSw; go_simp <;> with_reducible rfl)
    simp only [Act.put, List.setIfInBounds_toArray, List.set_cons_zero, List.set_cons_succ]
    refine wpR_take (keptOrd (fun k => k = rb)) (i := 2) (v := ?vf2) rfl (by kernel_rfl) (by kernel_rfl) (by kernel_rfl) (fun _ _ _ h => h) (by rfl) ?hf2 ?rf2
    case hf2 => (intro wg hSw; go_simp <;> with_reducible rfl)
    simp only [Act.put, List.setIfInBounds_toArray, List.set_cons_zero, List.set_cons_succ]
    refine wpR_take (keptOrd (fun k => k = rb)) (i := 3) (v := ?vf3) rfl (by kernel_rfl) (by kernel_rfl) (by kernel_rfl) (fun _ _ _ h => h) (by rfl) ?hf3 ?rf3
    case hf3 => (intro wg hSw; go_simp <;> with_reducible rfl)
    simp only [Act.put, List.setIfInBounds_toArray, List.set_cons_zero, List.set_cons_succ]
    refine wpR_one (i := 1) (by kernel_rfl) ?_
    refine wpR_op (i := 1) rfl (by rfl) (fun K hK => ?_)
    go_simp
    refine (kindOf_any A2 n c2' xs _ HLM.out (by omega) (HNW.out.nums.grow HW0.out)).mono ?_
    rintro e wM1 ⟨rfl, hE1⟩
    have hM1 : Kept (fun k => k = rb) W0 wM1 := by rw [hE1]; exact Kept.refl _ _
    have hbm : BoxN wM1 rb 0 none 0 0 none 0 0 none 0 0 := by rw [hE1]; exact HRB2.out.grow HW0.out
    have f0' := hbm.froz 0
    have f1' := hbm.froz 1
    have f2' := hbm.froz 2
    have f3' := hbm.froz 3
    have d0 := hbm.at0
    have d1 := hbm.at1
    have d2 := hbm.at2
    have d3 := hbm.at3
    have HBM := Lib.hid hbm
    have HGM : Hid (Grow w wM1) := Lib.hid (by rw [hE1]; exact HGW.out.trans HW0.out)
    have HE1 : Hid (Grow w2 wM1) := Lib.hid (by rw [hE1]; exact HW0.out)
    clear hE1 hbm
    refine hK.out _ _ hM1 ?_
    clear hK K
    try simp only [Act.put, List.setIfInBounds_toArray, List.set_cons_zero, List.set_cons_succ]
    refine wpR_take (keptOrd (fun k => k = rb)) (i := 4) (v := ?vf4) rfl (by kernel_rfl) (by kernel_rfl) (by kernel_rfl) (fun _ _ _ h => h) (by rfl) ?hf4 ?rf4
    case hf4 => (intro wg hSw; go_simp <;> with_reducible rfl)
    simp only [Act.put, List.setIfInBounds_toArray, List.set_cons_zero, List.set_cons_succ]
    refine wpR_one (i := 5) (by kernel_rfl) ?_
    refine wpR_op (i := 5) rfl (by rfl) (fun K hK => ?_)
    go_simp
    refine hK.out _ _ (kept_store _ _ _ _) ?_
    clear hK K
    try simp only [Act.put, List.setIfInBounds_toArray, List.set_cons_zero, List.set_cons_succ]
    have hb := HBM.out.store (kindI xs) A1 A2 none n1 c1 n c2' 0 0
    have HG4 : Grow w ((((wM1.setCell ⟨rb, 0, none⟩ (.int .i64 (kindI xs))).setCell ⟨rb, 1, none⟩ (.slice A1 n1 c1)).setCell ⟨rb, 2, none⟩ (.slice A2 n c2')).setCell ⟨rb, 3, none⟩ (.slice none 0 0)) := by
      have hle : w.heap.size ≤ rb := by rw [HRE.out]; exact Nat.le_refl _
      exact (((HGM.out.put hle 0 _).put hle 1 _).put hle 2 _).put hle 3 _
    have hnew4 : NumsT T ((((wM1.setCell ⟨rb, 0, none⟩ (.int .i64 (kindI xs))).setCell ⟨rb, 1, none⟩ (.slice A1 n1 c1)).setCell ⟨rb, 2, none⟩ (.slice A2 n c2')).setCell ⟨rb, 3, none⟩ (.slice none 0 0)) A2 xs := by
      refine (HNW.out.grow HE1.out).keep fun b hb => ⟨HTT.out b (by rw [HRE.out]; omega), ?_⟩
      have hne : ¬ b = rb := by omega
      exact (kept_store (w := wM1) (b := rb) (.int .i64 (kindI xs)) (.slice A1 n1 c1) (.slice A2 n c2') (.slice none 0 0)).block b hb.2 hne
    have HB4 := Lib.hid hb
    have HG4' := Lib.hid HG4
    have HN4 := Lib.hid hnew4
    clear hb HG4 hnew4 f0 f1 f2 f3 c0 c1' c2 c3 f0' f1' f2' f3' d0 d1 d2 d3 v0
    generalize hw5 : World.setCell _ _ _ = wM5 at *
    have hM5 : Kept (fun k => k = rb) wM1 wM5 := by rw [← hw5]; exact kept_store _ _ _ _
    refine wpR_done (by kernel_rfl) ?_
    go_wp2
    refine bodyPost_ret (v := .agg #[.int .i64 (kindI xs), .slice A1 n1 c1, .slice A2 n c2', .slice none 0 0]) (by simp [results, Try.results35, go_sem, HB4.out.at0, HB4.out.at1, HB4.out.at2, HB4.out.at3]) rfl ?_
    exact ⟨_, rfl, ⟨A1, c1, A2, c2', none, 0, by rw [HL.out, HS.out, HLM.out]; rfl, by rw [HL.out]; exact HSH.out.grow HG4'.out, by rw [HL.out]; exact HN4.out, by rw [HL.out]; exact DecsT.nil_⟩, HG4'.out⟩
end Go.Proofs.Ytcljpcbgokgcdaa
