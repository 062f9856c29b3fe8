/-
  What tight.Numbers comes to, called with any shape and any numbers.
-/
import Derived.Test.YtcljpcbgokgcdaaMake
import Derived.Test.YtcljpcbgokgcdaaLeast
import Derived.Test.YtcljpcbgokgcdaaTightA
namespace Go.Proofs.Ytcljpcbgokgcdaa
open Go.RowKit Go.Lib
set_option linter.unusedSimpArgs false
set_option linter.unusedVariables false

theorem Nums.nt {T : Nat → Prop} {w : World} {A : Option Addr} {xs : List Int} (h : Nums .i64 w w.heap.size A xs) (hT : ∀ b, b < w.heap.size → T b) : NumsT T w A xs := fun hn => by
  obtain ⟨b, off, e, hb, hc⟩ := h hn
  exact ⟨b, off, e, hT b hb, hc⟩
theorem Decs.dt {T : Nat → Prop} {w : World} {A : Option Addr} {ds : List (Int × Int)} (h : Decs w w.heap.size A ds) (hT : ∀ b, b < w.heap.size → T b) : DecsT T w A ds := fun hn => by
  obtain ⟨b, off, e, hb, hc⟩ := h hn
  exact ⟨b, off, e, hT b hb, hc⟩
theorem wrong1_any (m e : Int) (w : World) (hm : In m) (he : In e) :
    Calls Try.prog 32 #[.agg #[.int .i64 m, .int .i64 e]] w (Says (!decB (m, e)) w) := by
  have HC := Lib.hid (fun W => right_any m e W hm he)
  have e1 : decB (m, e) = rightD m e := rfl
  rw [e1]
  clear e1 hm he
  generalize rightD m e = β at *
  have hb := boxed_new w (.int .i64 m) (.int .i64 e) 42
  have c0 := hb.fst
  have c1 := hb.snd
  have HG := Lib.hid (grow_new w (.cells #[.int .i64 m, .int .i64 e] 42))
  clear hb
  cases β with
  | true =>
    go_enter Try.func32, Try.ntmps32
    go_wp2_with fail
    refine (HC.out _).mono ?_
    rintro x w2 ⟨rfl, hg⟩
    go_wp2
    go_ret
    exact ⟨rfl, HG.out.trans hg⟩
  | false =>
    go_enter Try.func32, Try.ntmps32
    go_wp2_with fail
    refine (HC.out _).mono ?_
    rintro x w2 ⟨rfl, hg⟩
    go_wp2
    go_ret
    exact ⟨rfl, HG.out.trans hg⟩
def FindsD (β : Bool) (w : World) (e : Ending) (w' : World) : Prop := ∃ j : Int, e = .returned (.int .i64 j) ∧ decide (0 ≤ j) = β ∧ Grow w w'
set_option maxRecDepth 10000 in
set_option maxHeartbeats 1600000 in
theorem indexw_any (A : Option Addr) (n c : Nat) (l : List (Int × Int)) (w : World) (hn : l.length = n) (hm : n ≤ 9223372036854775807) (hi : ∀ x ∈ l, In x.1 ∧ In x.2) (hr : Decs w w.heap.size A l) :
    Calls Try.prog 54 #[.slice A n c, .func (.func 32) #[] #[]] w (FindsD (!(l.all decB)) w) := by
  have HR := Lib.hid hr
  have HN := Lib.hid hn
  have HI := Lib.hid hi
  clear hr hn hi
  go_enter Try.func54, Try.ntmps54
  go_wp2
  go_loopg [8] n (fun g s8 wr => ∃ k : Nat, k ≤ n ∧ g = n - k ∧ s8 = .int .i64 k ∧ Hid ((l.drop k).all decB = l.all decB) ∧ Hid (Grow w wr))
  case atStart => exact ⟨0, Nat.zero_le _, rfl, rfl, Lib.hid rfl, Lib.hid (Grow.refl _)⟩
  case round =>
    obtain ⟨k, hk, rfl, rfl, HA, HG⟩ := hrel
    by_cases hlt : k < n
    · have hlti : ((k : Nat) : Int) < ((n : Nat) : Int) := by omega
      have hkl : k < l.length := by rw [HN.out]; exact hlt
      obtain ⟨b, off, rfl, hb, hcl⟩ := HR.out.grow HG.out (by omega)
      obtain ⟨hc1, hc2⟩ := hcl k hkl
      have HT := Lib.hid (fun h => alld_drop (p := decB) hkl h)
      have HF := Lib.hid (fun h => alld_fails (p := decB) hkl h)
      have hin := in_at HI.out k
      clear hcl hkl hb
      generalize l.getD k (0, 0) = x at hc1 hc2 HT HF hin
      obtain ⟨x1, x2⟩ := x
      dsimp only at hc1 hc2 hin
      have HC := Lib.hid (wrong1_any x1 x2 wr hin.1 hin.2)
      cases hx : decB (x1, x2) with
      | true =>
        have HT' := Lib.hid (HT.out hx)
        rw [hx] at HC
        clear hx HT HF hin
        go_wp2_with (go_at_call 32; refine (HC.out).mono ?_; rintro e w2 ⟨rfl, hb2⟩)
        go_roundg (n - (k + 1))
        case rel => exact ⟨k + 1, by omega, rfl, by go_num, Lib.hid (HT'.out.symm.trans HA.out), Lib.hid (HG.out.trans hb2)⟩
        case measure => omega
      | false =>
        have HF' := Lib.hid (HF.out hx)
        rw [hx] at HC
        clear hx HT HF hin
        go_wp2_with (go_at_call 32; refine (HC.out).mono ?_; rintro e w2 ⟨rfl, hb2⟩)
        go_ret
        refine ⟨_, rfl, ?_, HG.out.trans hb2⟩
        rw [← HA.out, HF'.out]
        simp
    · obtain rfl : n = k := by omega
      have HF := Lib.hid (show l.all decB = true by rw [← HA.out, List.drop_of_length_le (by rw [HN.out]; exact Nat.le_refl _)]; rfl)
      go_wp2
      go_ret
      refine ⟨_, rfl, ?_, HG.out⟩
      rw [HF.out]
      rfl
theorem containsw_any (A : Option Addr) (n c : Nat) (l : List (Int × Int)) (w : World) (hn : l.length = n) (hm : n ≤ 9223372036854775807) (hi : ∀ x ∈ l, In x.1 ∧ In x.2) (hr : Decs w w.heap.size A l) :
    Calls Try.prog 34 #[.slice A n c, .func (.func 32) #[] #[]] w (Says (!(l.all decB)) w) := by
  have HI := Lib.hid (indexw_any A n c l w hn hm hi hr)
  clear hn hr hi
  generalize l.all decB = β at *
  go_enter Try.func34, Try.ntmps34
  go_wp2_with fail
  refine (HI.out).mono ?_
  rintro e w2 ⟨j, rfl, hj, hg⟩
  cases β with
  | false =>
    have hj' : (0 : Int) ≤ j := by simpa using hj
    clear hj
    go_wp2
    go_ret
    exact ⟨by simp [hj'], hg⟩
  | true =>
    have hj' : ¬ (0 : Int) ≤ j := by simpa using hj
    clear hj
    go_wp2
    go_ret
    exact ⟨by simp [hj'], hg⟩
theorem Copied.cells {w : World} {g : Nat} {ns : List Nd} (h : Copied w g ns) {k : Nat} (hk : k < ns.length) : ∃ b1 b2 b3, w.cell? ⟨g, k * 4, none⟩ = some (.int .i64 (ns.getD k nd0).kind) ∧
    w.cell? ⟨g, k * 4 + 1, none⟩ = some (.slice (some ⟨b1, 0, none⟩) (ns.getD k nd0).shp.length (ns.getD k nd0).shp.length) ∧ w.cell? ⟨g, k * 4 + 2, none⟩ = some (.slice (some ⟨b2, 0, none⟩) (ns.getD k nd0).ints.length (ns.getD k nd0).ints.length) ∧
    w.cell? ⟨g, k * 4 + 3, none⟩ = some (.slice (some ⟨b3, 0, none⟩) (ns.getD k nd0).decs.length (ns.getD k nd0).decs.length) ∧ NumsT (fun b => g < b) w (some ⟨b1, 0, none⟩) (ns.getD k nd0).shp ∧ NumsT (fun b => g < b) w (some ⟨b2, 0, none⟩) (ns.getD k nd0).ints ∧ DecsT (fun b => g < b) w (some ⟨b3, 0, none⟩) (ns.getD k nd0).decs := by
  obtain ⟨f, hr, ho⟩ := h
  obtain ⟨b1, b2, b3, g1, g2, g3, h0, h1, h2, h3, r1, r2, r3⟩ := ho k hk
  refine ⟨b1, b2, b3, by rw [hr.cell (by omega), h0], by rw [hr.cell (by omega), h1], by rw [hr.cell (by omega), h2], by rw [hr.cell (by omega), h3], ?_, ?_, ?_⟩
  · intro hp
    obtain ⟨b, off, e, hb, hc⟩ := nums_cells r1 hp
    cases e
    exact ⟨b1, 0, rfl, g1, hc⟩
  · intro hp
    obtain ⟨b, off, e, hb, hc⟩ := nums_cells r2 hp
    cases e
    exact ⟨b2, 0, rfl, g2, hc⟩
  · intro hp
    obtain ⟨b, off, e, hb, hc⟩ := decs_cells r3 hp
    cases e
    exact ⟨b3, 0, rfl, g3, hc⟩

set_option maxRecDepth 10000 in
set_option maxHeartbeats 3200000 in
theorem tnumbers_any (A1 : Option Addr) (n1 c1 : Nat) (s : List Int) (A : Option Addr) (n c : Nat) (l : List (Int × Int)) (w : World) (hs : s.length = n1) (hs1 : n1 ≤ 1100000) (hsh : Nums .i64 w w.heap.size A1 s)
    (hn : l.length = n) (hm : n ≤ 1100000) (hi : ∀ x ∈ l, In x.1 ∧ In x.2) (hr : Decs w w.heap.size A l) :
    Calls Try.prog 13 #[.slice A1 n1 c1, .slice A n c] w (OneP (fun b => w.heap.size ≤ b) (numO s l) w) := by
  obtain ⟨rb, hrb⟩ : ∃ rb, w.heap.size = rb := ⟨_, rfl⟩
  have hbx := boxN_new w 0 none 0 0 none 0 0 none 0 0
  rw [hrb] at hbx
  have hg1 := grow_new w (.cells #[.int .i64 0, .slice none 0 0, .slice none 0 0, .slice none 0 0] 30)
  have HC := Lib.hid (fun W h => count_any A1 n1 c1 s W hs (by omega) h)
  have HW := Lib.hid (fun W h => containsw_any A n c l W hn (by omega) hi h)
  have HL := Lib.hid (fun W (h1 : Nums .i64 W W.heap.size A1 s) (h2 : Decs W W.heap.size A l) => least_any (fun _ => True) A1 n1 c1 s A n c l W (fun _ _ => trivial) hs (h1.nt (fun _ _ => trivial)) hn hm hi (h2.dt (fun _ _ => trivial)))
  have HO : Hid (numO s l = if rightB s = true ∧ cnt s = n ∧ l.all decB = true then some (leastN s l) else none) := Lib.hid (by unfold numO; rw [hn])
  have HLF : Hid (rightB s = true → cnt s = n → l.all decB = true → Fit (leastN s l) ∧ okB (leastN s l) = true) := Lib.hid (fun h1 h2 h3 => by
    obtain ⟨k1, k2, k3, k4, k5, _⟩ := least_facts h1 (by rw [hn]; exact h2) h3 hi (by omega)
    exact ⟨k5, k1⟩)
  have HS0 := Lib.hid (hsh.grow hg1)
  have HD0 := Lib.hid (hr.grow hg1)
  have HRB := Lib.hid hrb
  have HBX := Lib.hid hbx
  have HG1 := Lib.hid hg1
  have hcb := cnt_le1 s
  clear hbx hg1 hs hsh hn hi hr
  generalize rightB s = β at *
  generalize cnt s = cs at *
  generalize l.all decB = γ at *
  by_cases hnc : n = cs
  rotate_left
  · have hne : (((n : Nat) : Int) != ((cs : Nat) : Int)) = true := by simp; omega
    have HN : Hid (numO s l = none) := Lib.hid (by rw [HO.out, if_neg]; rintro ⟨_, h, _⟩; exact hnc h.symm)
    cases β with
    | false =>
      go_enter Try.func13, Try.ntmps13
      go_wp2_with fail
      refine (HC.out _ HS0.out).mono ?_
      rintro e w2 ⟨rfl, rfl⟩
      go_wp2
      have hb := boxN_new w 0 none 0 0 none 0 0 none 0 0
      rw [HRB.out] at hb
      refine bodyPost_ret (v := .tuple #[.agg #[.int .i64 0, .slice none 0 0, .slice none 0 0, .slice none 0 0], .bool false]) (by simp [results, Try.results13, go_sem, hb.at0, hb.at1, hb.at2, hb.at3]) rfl ?_
      exact OneP.no HN.out HG1.out
    | true =>
      go_enter Try.func13, Try.ntmps13
      go_wp2_with fail
      refine (HC.out _ HS0.out).mono ?_
      rintro e w2 ⟨rfl, rfl⟩
      go_wp2
      have hb := boxN_new w 0 none 0 0 none 0 0 none 0 0
      rw [HRB.out] at hb
      refine bodyPost_ret (v := .tuple #[.agg #[.int .i64 0, .slice none 0 0, .slice none 0 0, .slice none 0 0], .bool false]) (by simp [results, Try.results13, go_sem, hb.at0, hb.at1, hb.at2, hb.at3]) rfl ?_
      exact OneP.no HN.out HG1.out
  · subst hnc
    have hne : (((n : Nat) : Int) != ((n : Nat) : Int)) = false := by simp
    cases β with
    | false =>
      have HN : Hid (numO s l = none) := Lib.hid (by rw [HO.out, if_neg]; rintro ⟨h, _, _⟩; cases h)
      go_enter Try.func13, Try.ntmps13
      go_wp2_with fail
      refine (HC.out _ HS0.out).mono ?_
      rintro e w2 ⟨rfl, rfl⟩
      go_wp2
      have hb := boxN_new w 0 none 0 0 none 0 0 none 0 0
      rw [HRB.out] at hb
      refine bodyPost_ret (v := .tuple #[.agg #[.int .i64 0, .slice none 0 0, .slice none 0 0, .slice none 0 0], .bool false]) (by simp [results, Try.results13, go_sem, hb.at0, hb.at1, hb.at2, hb.at3]) rfl ?_
      exact OneP.no HN.out HG1.out
    | true =>
      cases γ with
      | false =>
        have HN : Hid (numO s l = none) := Lib.hid (by rw [HO.out, if_neg]; rintro ⟨_, _, h⟩; cases h)
        go_enter Try.func13, Try.ntmps13
        go_wp2_with fail
        refine (HC.out _ HS0.out).mono ?_
        rintro e w2 ⟨rfl, rfl⟩
        go_wp2_with fail
        refine (HW.out _ HD0.out).mono ?_
        rintro x w2 ⟨rfl, hw2⟩
        have HB2 := Lib.hid (HBX.out.grow hw2)
        have HG2 := Lib.hid (HG1.out.trans hw2)
        have HS2 := Lib.hid (HS0.out.grow hw2)
        have HD2 := Lib.hid (HD0.out.grow hw2)
        clear hw2 HW
        have hbx := HB2.out
        have f0 := hbx.froz 0
        have f1 := hbx.froz 1
        have f2 := hbx.froz 2
        have f3 := hbx.froz 3
        have d0 := hbx.at0
        have d1 := hbx.at1
        have d2 := hbx.at2
        have d3 := hbx.at3
        clear hbx
        go_wp2
        have hle : w.heap.size ≤ rb := by rw [HRB.out]; exact Nat.le_refl _
        have hb := HB2.out.store 0 none none none 0 0 0 0 0 0
        have hg := (((HG2.out.put hle 0 (.int .i64 0)).put hle 1 (.slice none 0 0)).put hle 2 (.slice none 0 0)).put hle 3 (.slice none 0 0)
        refine bodyPost_ret (v := .tuple #[.agg #[.int .i64 0, .slice none 0 0, .slice none 0 0, .slice none 0 0], .bool false]) (by simp [results, Try.results13, go_sem, hb.at0, hb.at1, hb.at2, hb.at3]) rfl ?_
        exact OneP.no HN.out hg
      | true =>
        have HN : Hid (numO s l = some (leastN s l)) := Lib.hid (by rw [HO.out, if_pos ⟨rfl, rfl, rfl⟩])
        have HFM := Lib.hid (HLF.out rfl rfl rfl).1
        clear HLF HO
        go_enter Try.func13, Try.ntmps13
        go_wp2_with fail
        refine (HC.out _ HS0.out).mono ?_
        rintro e w2 ⟨rfl, rfl⟩
        go_wp2_with fail
        refine (HW.out _ HD0.out).mono ?_
        rintro x w2 ⟨rfl, hw2⟩
        have HB2 := Lib.hid (HBX.out.grow hw2)
        have HG2 := Lib.hid (HG1.out.trans hw2)
        have HS2 := Lib.hid (HS0.out.grow hw2)
        have HD2 := Lib.hid (HD0.out.grow hw2)
        clear hw2 HW
        go_wp2_with fail
        refine (HL.out _ HS2.out HD2.out).mono ?_
        rintro x w3 ⟨v, rfl, ⟨B1, k1, B2, k2, B3, k3, rfl, m1, m2, m3⟩, hw3⟩
        have HB3 := Lib.hid (HB2.out.grow hw3)
        have HG3 := Lib.hid (HG2.out.trans hw3)
        clear hw3 HL
        generalize leastN s l = m at *
        have HND := Lib.hid (show IsNd w3 w3.heap.size B1 B2 B3 m from ⟨m1.nums, m2.nums, m3.decs⟩)
        clear m1 m2 m3
        obtain ⟨l1, hl1⟩ : ∃ l1, m.shp.length = l1 := ⟨_, rfl⟩
        obtain ⟨l2, hl2⟩ : ∃ l2, m.ints.length = l2 := ⟨_, rfl⟩
        obtain ⟨l3, hl3⟩ : ∃ l3, m.decs.length = l3 := ⟨_, rfl⟩
        have HL1 := Lib.hid hl1
        have HL2 := Lib.hid hl2
        have HL3 := Lib.hid hl3
        rw [hl1, hl2, hl3]
        clear hl1 hl2 hl3
        have HNL := Lib.hid (node_lit w3 m.kind B1 l1 k1 B2 l2 k2 B3 l3 k3 m rfl HL1.out HL2.out HL3.out HND.out)
        have HG4 := Lib.hid (grow_new w3 (.cells #[.int .i64 m.kind, .slice B1 l1 k1, .slice B2 l2 k2, .slice B3 l3 k3] 30))
        have HCP := Lib.hid (copy_any (some ⟨w3.heap.size, 0, none⟩) 1 1 [m] _ rfl (by decide) (fits1 HFM.out) HNL.out)
        go_wp2_with fail
        refine (HCP.out).mono ?_
        rintro x w5 ⟨rfl, hcp, hw5⟩
        have HB5 := Lib.hid ((HB3.out.grow HG4.out).grow hw5)
        have HG5 := Lib.hid ((HG3.out.trans HG4.out).trans hw5)
        obtain ⟨z, hz⟩ : ∃ z, (w3.alloc (.cells #[.int .i64 m.kind, .slice B1 l1 k1, .slice B2 l2 k2, .slice B3 l3 k3] 30)).heap.size = z := ⟨_, rfl⟩
        have HZ : Hid (rb < z) := Lib.hid (by rw [← hz]; exact (HB3.out.grow HG4.out).lt)
        rw [hz] at hcp ⊢
        obtain ⟨b1, b2, b3, q0, q1, q2, q3, t1, t2, t3⟩ := hcp.cells (k := 0) (Nat.lt_succ_self 0)
        rw [show [m].getD 0 nd0 = m from rfl, Nat.zero_mul] at q0 q1 q2 q3
        rw [show [m].getD 0 nd0 = m from rfl] at t1 t2 t3
        rw [Nat.zero_add] at q1 q2 q3
        rw [HL1.out] at q1
        rw [HL2.out] at q2
        rw [HL3.out] at q3
        have T1 := Lib.hid t1
        have T2 := Lib.hid t2
        have T3 := Lib.hid t3
        clear hw5 hcp hz t1 t2 t3 HCP HNL
        have hbx := HB5.out
        have f0 := hbx.froz 0
        have f1 := hbx.froz 1
        have f2 := hbx.froz 2
        have f3 := hbx.froz 3
        have d0 := hbx.at0
        have d1 := hbx.at1
        have d2 := hbx.at2
        have d3 := hbx.at3
        clear hbx
        go_wp2
        have hle : w.heap.size ≤ rb := by rw [HRB.out]; exact Nat.le_refl _
        have hb := HB5.out.store m.kind (some ⟨b1, 0, none⟩) (some ⟨b2, 0, none⟩) (some ⟨b3, 0, none⟩) l1 l1 l2 l2 l3 l3
        have hg := (((HG5.out.put hle 0 (.int .i64 m.kind)).put hle 1 (.slice (some ⟨b1, 0, none⟩) l1 l1)).put hle 2 (.slice (some ⟨b2, 0, none⟩) l2 l2)).put hle 3 (.slice (some ⟨b3, 0, none⟩) l3 l3)
        have hkp : ∀ b, z < b ∧ b < w5.heap.size → w.heap.size ≤ b ∧ ((((w5.setCell ⟨rb, 0, none⟩ (.int .i64 m.kind)).setCell ⟨rb, 1, none⟩ (.slice (some ⟨b1, 0, none⟩) l1 l1)).setCell ⟨rb, 2, none⟩ (.slice (some ⟨b2, 0, none⟩) l2 l2)).setCell ⟨rb, 3, none⟩ (.slice (some ⟨b3, 0, none⟩) l3 l3)).heap[b]? = w5.heap[b]? := fun b hb => ⟨by have h1 := hb.1; have h2 := HZ.out; rw [HRB.out]; omega, (kept_store (w := w5) (b := rb) _ _ _ _).block b hb.2 (by have h1 := hb.1; have h2 := HZ.out; show ¬ b = rb; omega)⟩
        refine bodyPost_ret (v := .tuple #[.agg #[.int .i64 m.kind, .slice (some ⟨b1, 0, none⟩) l1 l1, .slice (some ⟨b2, 0, none⟩) l2 l2, .slice (some ⟨b3, 0, none⟩) l3 l3], .bool true]) (by simp [results, Try.results13, go_sem, hb.at0, hb.at1, hb.at2, hb.at3]) rfl ?_
        exact OneP.yes HN.out hg ⟨_, _, _, _, _, _, by rw [HL1.out, HL2.out, HL3.out], T1.out.lt.keep hkp, T2.out.lt.keep hkp, T3.out.lt.keep hkp⟩
end Go.Proofs.Ytcljpcbgokgcdaa
