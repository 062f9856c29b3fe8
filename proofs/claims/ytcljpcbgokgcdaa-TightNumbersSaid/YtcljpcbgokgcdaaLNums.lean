/-
  TightNumbers comes to true, whatever it is called with.
-/
import Derived.Test.YtcljpcbgokgcdaaLOnce
import Derived.Test.YtcljpcbgokgcdaaLNumsM
import Derived.Test.YtcljpcbgokgcdaaRowIn
namespace Go.Proofs.Ytcljpcbgokgcdaa
open Go.RowKit Go.Lib
set_option linter.unusedSimpArgs false
set_option linter.unusedVariables false

theorem ownD_lit0 {B : Nat} (w : World) (hB : B ≤ w.heap.size) : OwnD B (.slice (some ⟨w.heap.size, 0, none⟩) 0 0) [] (w.alloc (.cells #[] 42)) :=
  ⟨rfl, .inr ⟨w.heap.size, 0, #[], rfl, hB, heap_alloc_new w _, Nat.le_refl _, Nat.zero_le _, rfl, rfl⟩⟩
theorem bits_step {xs : List Int} {k : Nat} (h : k < xs.length) : (xs.take (k + 1)).all bitB = ((xs.take k).all bitB && bitB (xs.getD k 0)) := by
  rw [List.take_add_one, List.all_append]
  simp [List.getD, h]
theorem tnum_yes {s : List Int} {l : List (Int × Int)} {m : Nd} (h : numO s l = some m) {l1 l2 l3 : Nat} (h1 : m.shp.length = l1) (h2 : m.ints.length = l2) (h3 : m.decs.length = l3) {k : Int} (hk : m.kind = k) (A1 : Option Addr) (n1 c1 : Nat) (A : Option Addr) (n c : Nat) (w : World) (hs : s.length = n1) (hs1 : n1 ≤ 1100000) (hsh : Nums .i64 w w.heap.size A1 s)
    (hn : l.length = n) (hm : n ≤ 1100000) (hi : ∀ x ∈ l, In x.1 ∧ In x.2) (hr : Decs w w.heap.size A l) :
    Calls Try.prog 13 #[.slice A1 n1 c1, .slice A n c] w (fun e w' => ∃ B1 k1 B2 k2 B3 k3, e = .returned (.tuple #[.agg #[.int .i64 k, .slice B1 l1 k1, .slice B2 l2 k2, .slice B3 l3 k3], .bool true]) ∧ IsNd w' w'.heap.size B1 B2 B3 m ∧ Grow w w') := by
  refine (tnumbers_any A1 n1 c1 s A n c l w hs hs1 hsh hn hm hi hr).mono ?_
  rw [h]
  subst h1 h2 h3 hk
  rintro e w' ⟨hg, v, rfl, B1, k1, B2, k2, B3, k3, rfl, q1, q2, q3⟩
  exact ⟨B1, k1, B2, k2, B3, k3, rfl, ⟨q1.nums, q2.nums, q3.decs⟩, hg⟩
theorem one_says {m : Nd} (hf : Fit m) {l1 l2 l3 : Nat} (h1 : m.shp.length = l1) (h2 : m.ints.length = l2) (h3 : m.decs.length = l3) {k : Int} (hk : m.kind = k) (A1 A2 A3 : Option Addr) (c1 c2 c3 : Nat) (B1 B2 B3 : Option Addr) (d1 d2 d3 : Nat) (w : World) (hn : IsNd w w.heap.size A1 A2 A3 m) (hm : IsNd w w.heap.size B1 B2 B3 m) :
    Calls Try.prog 17 #[.agg #[.int .i64 k, .slice A1 l1 c1, .slice A2 l2 c2, .slice A3 l3 c3], .agg #[.int .i64 k, .slice B1 l1 d1, .slice B2 l2 d2, .slice B3 l3 d3]] w (Says true w) := by
  subst h1 h2 h3 hk
  have hc := rone_any m m A1 A2 A3 c1 c2 c3 B1 B2 B3 d1 d2 d3 w hf hf hn hm
  rw [decide_eq_true rfl] at hc
  exact hc

set_option maxRecDepth 10000 in
set_option maxHeartbeats 12800000 in
theorem nums_walk (A : Option Addr) (n c : Nat) (xs : List Int) (w : World) (hn : xs.length = n) (hm : n ≤ 9223372036854775807) (hr : Nums .i64 w w.heap.size A xs) (hin : ∀ x ∈ xs, In x) :
    Calls Try.prog 7 #[.slice A n c] w (Says true w) := by
  have HN := Lib.hid hn
  have HR := Lib.hid hr
  have HIN := Lib.hid hin
  clear hn hr hin
  go_enter Try.func7, Try.ntmps7
  go_wp2_with fail
  refine (small_any _).mono ?_
  rintro e w1 ⟨rfl, hg1⟩
  have HG1 := Lib.hid hg1
  clear hg1
  by_cases hbig : 200 < n
  · have hbi : (200 : Int) < ((n : Nat) : Int) := by omega
    go_wp2
    go_ret
    exact ⟨rfl, HG1.out⟩
  have hbi : ¬ (200 : Int) < ((n : Nat) : Int) := by omega
  have HALL : Hid (numO [(n : Int)] (xs.map ofD) = some (nodeW xs) ∧ numO [1, ((n + 1 : Nat) : Int)] (halfL xs) = some (nodeH xs) ∧
    OkOne (nodeW xs) (nodeW xs) ∧ OkOne (nodeH xs) (nodeH xs) ∧ (∀ x ∈ xs.map ofD, In x.1 ∧ In x.2) ∧ (ws [nodeW xs]).i ≤ 1099999 ∧ (ws [nodeH xs]).i ≤ 1099999) := Lib.hid (by
    have h := nums_facts (xs := xs) (by rw [HN.out]; omega) HIN.out
    rw [HN.out] at h
    exact h)
  have HHF := Lib.hid (half_facts HIN.out).2.2
  have HKB := Lib.hid (kindI_bits xs)
  have HR1 := Lib.hid (HR.out.grow HG1.out)
  clear HR
  obtain ⟨B, hB⟩ : ∃ B, w1.heap.size = B := ⟨_, rfl⟩
  have HBE := Lib.hid hB
  rw [hB] at HR1
  clear hB hbig
  go_wp2
  go_loopg [4, 5, 6] n (fun g s4 s5 s6 wr => ∃ (k : Nat) (v : Value) (β : Bool), k ≤ n ∧ g = n - k ∧ s6 = .int .i64 k ∧ v = s4 ∧ s5 = .bool β ∧ Hid (β = (decide (0 < n) && (xs.take k).all bitB)) ∧ Hid (OwnD B v ((xs.take k).map ofD) wr) ∧ Hid (Below B w1 wr))
  case atStart => exact ⟨0, _, _, Nat.zero_le _, rfl, rfl, rfl, rfl, Lib.hid (by simp), Lib.hid (ownD_nil _ _), Lib.hid (Below.refl _ _)⟩
  case round =>
    obtain ⟨k, v, β, hk, rfl, rfl, rfl, rfl, HBT, HO, HG⟩ := hrel
    have HZ : Hid (B ≤ wr.heap.size) := Lib.hid (by rw [← HBE.out]; exact HG.out.size)
    by_cases hlt : k < n
    · have hlti : ((k : Nat) : Int) < ((n : Nat) : Int) := by omega
      have hkl : k < xs.length := by rw [HN.out]; exact hlt
      obtain ⟨b, off, rfl, hb, hcl⟩ := HR1.out (by omega)
      have hc0 := hcl k hkl
      have HC0 : Hid (∀ W, Below B w1 W → W.cell? ⟨b, off + k, none⟩ = some (.int .i64 (xs.getD k 0))) := Lib.hid (fun W h => (h.cell (p := ⟨b, off + k, none⟩) hb).trans hc0)
      have HMS := Lib.hid (map_step hkl)
      have HBS := Lib.hid (bits_step hkl)
      have HIX : Hid (In (xs.getD k 0)) := Lib.hid (by
        rw [show xs.getD k 0 = xs[k] by simp [List.getD, hkl]]
        exact HIN.out _ (List.getElem_mem hkl))
      have HLX : Hid (((xs.take k).map ofD).length ≤ 1000) := Lib.hid (by rw [List.length_map, List.length_take]; omega)
      have H0N : Hid (decide (0 < n) = true) := Lib.hid (decide_eq_true (by omega))
      rw [H0N.out, Bool.true_and] at HBT
      have hp0 := HC0.out wr HG.out
      clear hcl hb hkl hc0
      generalize xs.getD k 0 = x at *
      have HC := Lib.hid (fun W => of_any x W HIX.out)
      have HOFD : Hid (ofD x = (norm x 0).1) := Lib.hid rfl
      generalize norm x 0 = nx at *
      obtain ⟨⟨q, r⟩, b0⟩ := nx
      dsimp only at HC HOFD
      cases β with
      | false =>
        have HXB : Hid ((false && bitB x) = false) := Lib.hid rfl
        go_wp2_with fail
        refine (HC.out _).mono ?_
        rintro e w3 ⟨rfl, hg3⟩
        have HG3 := Lib.hid (hg3.trans (grow_new w3 (.cells #[.int .i64 q, .int .i64 r] 42)))
        have HO3 := Lib.hid (HO.out.grow HG3.out)
        have HL3 := Lib.hid (decs_lit1 w3 q r)
        have HZ3 := Lib.hid (Nat.le_trans HZ.out HG3.out.size)
        have HGB3 := Lib.hid (Below.trans HG.out (Below.mono HG3.out HZ.out))
        clear hg3 HC HO hp0
        go_wp2_with (at_builtin; refine wpList_more_decs rfl _ _ rfl B v _ (some ⟨w3.heap.size, 0, none⟩) 1 1 [(q, r)] rfl HO3.out rfl rfl HL3.out (by have := HLX.out; omega) HZ3.out ?_; intro v' w5 HO5 HB5 HA5; have HGB5 := Lib.hid (Below.trans HGB3.out HB5.out); have hp5 := HC0.out w5 HGB5.out)
        go_roundg (n - (k + 1))
        case rel =>
          exact ⟨k + 1, v', false, by omega, rfl, by go_num, rfl, rfl, Lib.hid (by rw [H0N.out, HBS.out, ← HBT.out]; exact HXB.out.symm), Lib.hid (by rw [HMS.out, HOFD.out]; exact HO5.out), HGB5⟩
        case measure => omega
      | true =>
        by_cases x0 : x = 0
        · subst x0
          have HXB : Hid ((true && bitB 0) = true) := Lib.hid rfl
          go_wp2_with fail
          refine (HC.out _).mono ?_
          rintro e w3 ⟨rfl, hg3⟩
          have HG3 := Lib.hid (hg3.trans (grow_new w3 (.cells #[.int .i64 q, .int .i64 r] 42)))
          have HO3 := Lib.hid (HO.out.grow HG3.out)
          have HL3 := Lib.hid (decs_lit1 w3 q r)
          have HZ3 := Lib.hid (Nat.le_trans HZ.out HG3.out.size)
          have HGB3 := Lib.hid (Below.trans HG.out (Below.mono HG3.out HZ.out))
          clear hg3 HC HO hp0
          go_wp2_with (at_builtin; refine wpList_more_decs rfl _ _ rfl B v _ (some ⟨w3.heap.size, 0, none⟩) 1 1 [(q, r)] rfl HO3.out rfl rfl HL3.out (by have := HLX.out; omega) HZ3.out ?_; intro v' w5 HO5 HB5 HA5; have HGB5 := Lib.hid (Below.trans HGB3.out HB5.out); have hp5 := HC0.out w5 HGB5.out)
          go_roundg (n - (k + 1))
          case rel =>
            exact ⟨k + 1, v', true, by omega, rfl, by go_num, rfl, rfl, Lib.hid (by rw [H0N.out, HBS.out, ← HBT.out]; exact HXB.out.symm), Lib.hid (by rw [HMS.out, HOFD.out]; exact HO5.out), HGB5⟩
          case measure => omega
        · have x0' : (x == 0) = false := by simpa using x0
          by_cases x1 : x = 1
          · subst x1
            have HXB : Hid ((true && bitB 1) = true) := Lib.hid rfl
            go_wp2_with fail
            refine (HC.out _).mono ?_
            rintro e w3 ⟨rfl, hg3⟩
            have HG3 := Lib.hid (hg3.trans (grow_new w3 (.cells #[.int .i64 q, .int .i64 r] 42)))
            have HO3 := Lib.hid (HO.out.grow HG3.out)
            have HL3 := Lib.hid (decs_lit1 w3 q r)
            have HZ3 := Lib.hid (Nat.le_trans HZ.out HG3.out.size)
            have HGB3 := Lib.hid (Below.trans HG.out (Below.mono HG3.out HZ.out))
            clear hg3 HC HO hp0
            go_wp2_with (at_builtin; refine wpList_more_decs rfl _ _ rfl B v _ (some ⟨w3.heap.size, 0, none⟩) 1 1 [(q, r)] rfl HO3.out rfl rfl HL3.out (by have := HLX.out; omega) HZ3.out ?_; intro v' w5 HO5 HB5 HA5; have HGB5 := Lib.hid (Below.trans HGB3.out HB5.out); have hp5 := HC0.out w5 HGB5.out)
            go_roundg (n - (k + 1))
            case rel =>
              exact ⟨k + 1, v', true, by omega, rfl, by go_num, rfl, rfl, Lib.hid (by rw [H0N.out, HBS.out, ← HBT.out]; exact HXB.out.symm), Lib.hid (by rw [HMS.out, HOFD.out]; exact HO5.out), HGB5⟩
            case measure => omega
          · have x1' : (x == 1) = false := by simpa using x1
            have HXB : Hid ((true && bitB x) = false) := Lib.hid (by simp [bitB, x0, x1])
            clear x0 x1
            go_wp2_with fail
            refine (HC.out _).mono ?_
            rintro e w3 ⟨rfl, hg3⟩
            have HG3 := Lib.hid (hg3.trans (grow_new w3 (.cells #[.int .i64 q, .int .i64 r] 42)))
            have HO3 := Lib.hid (HO.out.grow HG3.out)
            have HL3 := Lib.hid (decs_lit1 w3 q r)
            have HZ3 := Lib.hid (Nat.le_trans HZ.out HG3.out.size)
            have HGB3 := Lib.hid (Below.trans HG.out (Below.mono HG3.out HZ.out))
            clear hg3 HC HO hp0
            go_wp2_with (at_builtin; refine wpList_more_decs rfl _ _ rfl B v _ (some ⟨w3.heap.size, 0, none⟩) 1 1 [(q, r)] rfl HO3.out rfl rfl HL3.out (by have := HLX.out; omega) HZ3.out ?_; intro v' w5 HO5 HB5 HA5; have HGB5 := Lib.hid (Below.trans HGB3.out HB5.out); have hp5 := HC0.out w5 HGB5.out)
            go_roundg (n - (k + 1))
            case rel =>
              exact ⟨k + 1, v', false, by omega, rfl, by go_num, rfl, rfl, Lib.hid (by rw [H0N.out, HBS.out, ← HBT.out]; exact HXB.out.symm), Lib.hid (by rw [HMS.out, HOFD.out]; exact HO5.out), HGB5⟩
            case measure => omega
    · obtain rfl : n = k := by omega
      have hnn : ¬ ((n : Nat) : Int) < ((n : Nat) : Int) := by omega
      have HTA := Lib.hid (show xs.take n = xs from List.take_of_length_le (by rw [HN.out]; exact Nat.le_refl _))
      rw [HTA.out] at HO HBT
      have HBB : Hid (β = bitsB xs) := Lib.hid (by rw [HBT.out]; unfold bitsB; rw [HN.out])
      obtain ⟨Ad, cd, rfl, hcd, hnew⟩ := HO.out.new
      have HD := Lib.hid hnew.decs
      have HGR := Lib.hid (show Grow w1 wr by unfold Grow; rw [HBE.out]; exact HG.out)
      have HR2 : Hid (Nums .i64 wr wr.heap.size A xs) := Lib.hid ((HR1.out.below HG.out).more HZ.out)
      have HLM : Hid ((xs.map ofD).length = n) := Lib.hid (by rw [List.length_map, HN.out])
      rw [HLM.out]
      obtain ⟨v2, hv2⟩ : ∃ v2, v2 = wr := ⟨_, rfl⟩
      subst hv2
      have HGW := Lib.hid (HG1.out.trans HGR.out)
      clear HO HG HG1 HGR HZ HR1 HBT HTA hcd hnew
      have HS3 := Lib.hid (nums_lit v2 [(n : Int)])
      have HG3 := Lib.hid (grow_new v2 (.cells #[.int .i64 (n : Int)] 3))
      go_wp2_with fail
      refine (tnum_yes HALL.out.1 (l1 := 1) (l2 := n) (l3 := 0) rfl HN.out rfl (k := kindI xs) rfl _ 1 1 Ad n cd _ rfl (by omega) HS3.out HLM.out (by omega) HALL.out.2.2.2.2.1 (HD.out.grow HG3.out)).mono ?_
      rintro e v4 ⟨B1, k1, B2, k2, B3, k3, rfl, hn4, hg4⟩
      have HGX := Lib.hid ((HG3.out.trans hg4).trans (grow_new v4 (.cells #[.int .i64 (kindI xs), .slice B1 1 k1, .slice B2 n k2, .slice B3 0 k3] 30)))
      have HM1 := Lib.hid (hn4.grow (grow_new v4 (.cells #[.int .i64 (kindI xs), .slice B1 1 k1, .slice B2 n k2, .slice B3 0 k3] 30)))
      have HB1 := Lib.hid (boxN_new v4 (kindI xs) B1 1 k1 B2 n k2 B3 0 k3)
      clear hn4 hg4 HS3 HG3
      replace HD := Lib.hid (HD.out.grow HGX.out)
      replace HR2 := Lib.hid (HR2.out.grow HGX.out)
      replace HGW := Lib.hid (HGW.out.trans HGX.out)
      clear HGX
      have H20 : Hid (200 < n → False) := Lib.hid (fun h => by omega)
      obtain ⟨b7, hb7⟩ : ∃ b7, v4.heap.size = b7 := ⟨_, rfl⟩
      rw [hb7] at HB1
      go_upto_region 12 with fail
      generalize hv5 : v4.alloc (.cells #[.int .i64 (kindI xs), .slice B1 1 k1, .slice B2 n k2, .slice B3 0 k3] 30) = v5 at *
      clear hv5 hb7
      have hs5 : (v5.alloc (.cells #[.int .i64 (n : Int)] 3)).heap.size = v5.heap.size + 1 := by simp
      cases β with
      | true =>
        have HK1 : Hid (kindI xs = 1) := Lib.hid (by rw [HKB.out, ← HBB.out]; rfl)
        rw [HK1.out] at HB1
        have hg6 := grow_new2 v5 (.cells #[.int .i64 (n : Int)] 3) (.cells #[.int .i64 1, .slice (some ⟨v5.heap.size, 0, none⟩) 1 1, .slice A n c, .slice none 0 0] 30)
        have hwn : IsNd (v5.alloc (.cells #[.int .i64 (n : Int)] 3)) (v5.alloc (.cells #[.int .i64 (n : Int)] 3)).heap.size (some ⟨v5.heap.size, 0, none⟩) A none (nodeW xs) := by
          have h := nums_lit v5 [(n : Int)]
          refine ⟨?_, HR2.out.grow (grow_new _ _), Decs.none_⟩
          show Nums .i64 _ _ _ [(xs.length : Int)]
          rw [HN.out]
          exact h
        have HWI := Lib.hid (hwn.grow (grow_new _ (.cells #[.int .i64 1, .slice (some ⟨v5.heap.size, 0, none⟩) 1 1, .slice A n c, .slice none 0 0] 30)))
        have hwb := boxN_new (v5.alloc (.cells #[.int .i64 (n : Int)] 3)) 1 (some ⟨v5.heap.size, 0, none⟩) 1 1 A n c none 0 0
        rw [hs5] at hwb
        have HWB := Lib.hid hwb
        replace HD := Lib.hid (HD.out.grow hg6)
        replace HR2 := Lib.hid (HR2.out.grow hg6)
        replace HM1 := Lib.hid (HM1.out.grow hg6)
        replace HB1 := Lib.hid (HB1.out.grow hg6)
        replace HGW := Lib.hid (HGW.out.trans hg6)
        obtain ⟨wa, hwa⟩ : ∃ wa, v5.heap.size = wa := ⟨_, rfl⟩
        rw [hwa] at HWB HWI
        clear hwn hwb hg6 hs5
        rw [hwa] at HD HR2 HM1 HB1 HGW
        go_upto_region 15 with fail
        generalize hv6 : (v5.alloc (.cells #[.int .i64 (n : Int)] 3)).alloc (.cells #[.int .i64 1, .slice (some ⟨wa, 0, none⟩) 1 1, .slice A n c, .slice none 0 0] 30) = v6 at *
        clear hv6 hwa
        obtain ⟨z, hz⟩ : ∃ z, v6.heap.size = z := ⟨_, rfl⟩
        have HZE := Lib.hid hz
        have he0 := ownD_lit0 (B := v6.heap.size) v6 (Nat.le_refl _)
        have hg7 := grow_new v6 (.cells #[] 42)
        have HDE := Lib.hid (HD.out.grow hg7)
        have hz7 : z ≤ (v6.alloc (.cells #[] 42)).heap.size := by rw [← hz]; exact hg7.size
        rw [hz] at he0
        have HE0 := Lib.hid he0
        have HG7 := Lib.hid hg7
        have HZ7 := Lib.hid hz7
        have HLH : Hid ((halfL xs).length = n + 1) := Lib.hid (by simp [halfL, HN.out])
        obtain ⟨hl, hhl⟩ : ∃ hl, n + 1 = hl := ⟨_, rfl⟩
        rw [hhl] at HLH
        have HHL := Lib.hid hhl
        have HDL : Hid ((xs.map ofD).length ≤ 1000) := Lib.hid (by rw [HLM.out]; omega)
        have HHE : Hid (halfL xs = xs.map ofD ++ [(5, -1)]) := Lib.hid rfl
        have hhb : hl ≤ 1100000 := by omega
        clear he0 hg7 hz7 hhl
        go_wp2_with (first
          | (at_builtin; refine wpList_more_decs rfl _ _ rfl z (.slice (some ⟨z, 0, none⟩) 0 0) [] Ad n cd (xs.map ofD) rfl HE0.out rfl HLM.out HDE.out (by simp; omega) HZ7.out ?_; intro u1 y1 HO1 HBe1 HA1; have HG8 := Lib.hid (grow_new y1 (.cells #[.int .i64 5, .int .i64 (-1)] 42)); have HO8 := Lib.hid (OwnD.grow (by simpa using HO1.out) HG8.out); have HL8 := Lib.hid (decs_lit1 y1 5 (-1)); have HZ8 := Lib.hid (Nat.le_trans (Nat.le_trans HZ7.out HBe1.out.size) HG8.out.size))
          | (at_builtin; refine wpList_more_decs rfl _ _ rfl z u1 (xs.map ofD) (some ⟨y1.heap.size, 0, none⟩) 1 1 [(5, -1)] rfl HO8.out rfl rfl HL8.out (by have := HDL.out; omega) HZ8.out ?_; intro u2 y2 HO2 HBe2 HA2; rw [← HHE.out] at HO2; obtain ⟨Ah, chh, e, hch, hN⟩ := HO2.out.new; rw [HLH.out] at e; subst e))
        have HGY : Hid (Grow v6 y2) := Lib.hid (by
          have h := HG7.out
          unfold Grow at h ⊢
          rw [HZE.out] at h ⊢
          exact Below.trans (Below.trans (Below.trans h HBe1.out) (Below.mono HG8.out (Nat.le_trans HZ7.out HBe1.out.size))) HBe2.out)
        have HDH := Lib.hid hN.decs
        clear HG7 HG8 HO8 HL8 HZ8 HBe1 HBe2 HA1 HA2 HO1 HO2 hN hch HE0 HDE HZ7 HD
        replace HR2 := Lib.hid (HR2.out.grow HGY.out)
        replace HM1 := Lib.hid (HM1.out.grow HGY.out)
        replace HB1 := Lib.hid (HB1.out.grow HGY.out)
        replace HWB := Lib.hid (HWB.out.grow HGY.out)
        replace HWI := Lib.hid (HWI.out.grow HGY.out)
        replace HGW := Lib.hid (HGW.out.trans HGY.out)
        have HNO2 : Hid (numO [1, (hl : Int)] (halfL xs) = some (nodeH xs)) := Lib.hid (by have h := HALL.out.2.1; rw [HHL.out] at h; exact h)
        have HSP2 : Hid ((nodeH xs).shp = [1, (hl : Int)]) := Lib.hid (by rw [← HHL.out, ← HN.out]; rfl)
        have HS9 := Lib.hid (nums_lit y2 [1, (hl : Int)])
        have HG9 := Lib.hid (grow_new y2 (.cells #[.int .i64 1, .int .i64 (hl : Int)] 3))
        clear HGY hz
        refine (tnum_yes HNO2.out (l1 := 2) (l2 := 0) (l3 := hl) rfl rfl HLH.out (k := 4) rfl _ 2 2 Ah hl chh _ rfl (by decide) HS9.out HLH.out hhb HHF.out (HDH.out.grow HG9.out)).mono ?_
        rintro e v9 ⟨E1, q1, E2, q2, E3, q3, rfl, hn9, hg9⟩
        have HGX := Lib.hid ((HG9.out.trans hg9).trans (grow_new v9 (.cells #[.int .i64 4, .slice E1 2 q1, .slice E2 0 q2, .slice E3 hl q3] 30)))
        have HM2 := Lib.hid (hn9.grow (grow_new v9 (.cells #[.int .i64 4, .slice E1 2 q1, .slice E2 0 q2, .slice E3 hl q3] 30)))
        have HB2 := Lib.hid (boxN_new v9 4 E1 2 q1 E2 0 q2 E3 hl q3)
        clear hn9 hg9 HS9 HG9
        obtain ⟨bm, hbm⟩ : ∃ bm, v9.heap.size = bm := ⟨_, rfl⟩
        rw [hbm] at HB2
        replace HR2 := Lib.hid (HR2.out.grow HGX.out)
        replace HM1 := Lib.hid (HM1.out.grow HGX.out)
        replace HB1 := Lib.hid (HB1.out.grow HGX.out)
        replace HWB := Lib.hid (HWB.out.grow HGX.out)
        replace HWI := Lib.hid (HWI.out.grow HGX.out)
        replace HDH := Lib.hid (HDH.out.grow HGX.out)
        replace HGW := Lib.hid (HGW.out.trans HGX.out)
        clear HGX
        go_upto_region 17 with fail
        generalize hv10 : v9.alloc (.cells #[.int .i64 4, .slice E1 2 q1, .slice E2 0 q2, .slice E3 hl q3] 30) = v10 at *
        clear hv10 hbm
        have m0 := HB1.out.at0
        have m1 := HB1.out.at1
        have m2 := HB1.out.at2
        have m3 := HB1.out.at3
        have x0 := HWB.out.at0
        have x1 := HWB.out.at1
        have x2 := HWB.out.at2
        have x3 := HWB.out.at3
        go_wp2_with fail
        refine (one_says HALL.out.2.2.1.2.2.2.1 (l1 := 1) (l2 := n) (l3 := 0) rfl HN.out rfl (k := 1) HK1.out B1 B2 B3 k1 k2 k3 (some ⟨wa, 0, none⟩) A none 1 c 0 v10 HM1.out HWI.out).mono ?_
        rintro e v11 ⟨rfl, hg⟩
        clear m0 m1 m2 m3
        clear x0 x1 x2 x3
        replace HM1 := Lib.hid (HM1.out.grow hg)
        replace HB1 := Lib.hid (HB1.out.grow hg)
        replace HM2 := Lib.hid (HM2.out.grow hg)
        replace HB2 := Lib.hid (HB2.out.grow hg)
        replace HDH := Lib.hid (HDH.out.grow hg)
        replace HGW := Lib.hid (HGW.out.trans hg)
        clear hg HWB HWI HR2
        have m0 := HB2.out.at0
        have m1 := HB2.out.at1
        have m2 := HB2.out.at2
        have m3 := HB2.out.at3
        have HS11 : Hid (IsNd (v11.alloc (.cells #[.int .i64 1, .int .i64 (hl : Int)] 3)) (v11.alloc (.cells #[.int .i64 1, .int .i64 (hl : Int)] 3)).heap.size (some ⟨v11.heap.size, 0, none⟩) none Ah (nodeH xs)) := Lib.hid (by
          have h := nums_lit v11 [1, (hl : Int)]
          refine ⟨?_, Nums.none_, HDH.out.grow (grow_new _ _)⟩
          rw [HSP2.out]
          exact h)
        have HG11 := Lib.hid (grow_new v11 (.cells #[.int .i64 1, .int .i64 (hl : Int)] 3))
        go_wp2_with fail
        refine (one_says HALL.out.2.2.2.1.2.2.2.1 (l1 := 2) (l2 := 0) (l3 := hl) rfl rfl HLH.out (k := 4) rfl E1 E2 E3 q1 q2 q3 (some ⟨v11.heap.size, 0, none⟩) none Ah 2 0 chh _ (HM2.out.grow HG11.out) HS11.out).mono ?_
        rintro e v12 ⟨rfl, hg⟩
        have HGX := Lib.hid (HG11.out.trans hg)
        clear HS11 HG11 hg
        clear m0 m1 m2 m3
        replace HM1 := Lib.hid (HM1.out.grow HGX.out)
        replace HB1 := Lib.hid (HB1.out.grow HGX.out)
        replace HM2 := Lib.hid (HM2.out.grow HGX.out)
        replace HB2 := Lib.hid (HB2.out.grow HGX.out)
        replace HGW := Lib.hid (HGW.out.trans HGX.out)
        clear HGX HDH
        have m0 := HB1.out.at0
        have m1 := HB1.out.at1
        have m2 := HB1.out.at2
        have m3 := HB1.out.at3
        have HW1 := Lib.hid (alone_right HALL.out.2.2.1)
        have HW2 := Lib.hid (alone_right HALL.out.2.2.2.1)
        have HV1 : Hid (Fine [nodeW xs]) := Lib.hid ⟨by show 1 ≤ 1100000; decide, fits1 HALL.out.2.2.1.2.2.2.1, fun n hn => by rw [List.mem_singleton.1 hn]; exact HALL.out.2.2.1.2.2.2.2.1⟩
        have HV2 : Hid (Fine [nodeH xs]) := Lib.hid ⟨by show 1 ≤ 1100000; decide, fits1 HALL.out.2.2.2.1.2.2.2.1, fun n hn => by rw [List.mem_singleton.1 hn]; exact HALL.out.2.2.2.1.2.2.2.2.1⟩
        have HN12 := Lib.hid (node_lit v12 1 B1 1 k1 B2 n k2 B3 0 k3 (nodeW xs) HK1.out rfl HN.out rfl HM1.out)
        have HG12 := Lib.hid (grow_new v12 (.cells #[.int .i64 1, .slice B1 1 k1, .slice B2 n k2, .slice B3 0 k3] 30))
        go_wp2_with fail
        refine (trights (ns := [nodeW xs]) (β := true) (by rw [HW1.out.1, HW1.out.2.1]; simp) HALL.out.2.2.2.2.2.1 HV1.out _ 1 1 _ rfl (Nat.le_refl _) HN12.out).mono ?_
        rintro e v13 ⟨rfl, hg⟩
        have HGX := Lib.hid (HG12.out.trans hg)
        clear HN12 HG12 hg
        clear m0 m1 m2 m3
        replace HM2 := Lib.hid (HM2.out.grow HGX.out)
        replace HB2 := Lib.hid (HB2.out.grow HGX.out)
        replace HGW := Lib.hid (HGW.out.trans HGX.out)
        clear HGX HM1 HB1
        have m0 := HB2.out.at0
        have m1 := HB2.out.at1
        have m2 := HB2.out.at2
        have m3 := HB2.out.at3
        have HN13 := Lib.hid (node_lit v13 4 E1 2 q1 E2 0 q2 E3 hl q3 (nodeH xs) rfl rfl rfl HLH.out HM2.out)
        have HG13 := Lib.hid (grow_new v13 (.cells #[.int .i64 4, .slice E1 2 q1, .slice E2 0 q2, .slice E3 hl q3] 30))
        go_wp2_with fail
        refine (trights (ns := [nodeH xs]) (β := true) (by rw [HW2.out.1, HW2.out.2.1]; simp) HALL.out.2.2.2.2.2.2 HV2.out _ 1 1 _ rfl (Nat.le_refl _) HN13.out).mono ?_
        rintro e v14 ⟨rfl, hg⟩
        have HGX := Lib.hid (HG13.out.trans hg)
        clear HN13 HG13 hg
        clear m0 m1 m2 m3
        go_wp2
        go_ret
        exact ⟨rfl, HGW.out.trans HGX.out⟩
      | false =>
        have HK2 : Hid (kindI xs = 2) := Lib.hid (by rw [HKB.out, ← HBB.out]; rfl)
        rw [HK2.out] at HB1
        have hg6 := grow_new2 v5 (.cells #[.int .i64 (n : Int)] 3) (.cells #[.int .i64 2, .slice (some ⟨v5.heap.size, 0, none⟩) 1 1, .slice A n c, .slice none 0 0] 30)
        have hwn : IsNd (v5.alloc (.cells #[.int .i64 (n : Int)] 3)) (v5.alloc (.cells #[.int .i64 (n : Int)] 3)).heap.size (some ⟨v5.heap.size, 0, none⟩) A none (nodeW xs) := by
          have h := nums_lit v5 [(n : Int)]
          refine ⟨?_, HR2.out.grow (grow_new _ _), Decs.none_⟩
          show Nums .i64 _ _ _ [(xs.length : Int)]
          rw [HN.out]
          exact h
        have HWI := Lib.hid (hwn.grow (grow_new _ (.cells #[.int .i64 2, .slice (some ⟨v5.heap.size, 0, none⟩) 1 1, .slice A n c, .slice none 0 0] 30)))
        have hwb := boxN_new (v5.alloc (.cells #[.int .i64 (n : Int)] 3)) 2 (some ⟨v5.heap.size, 0, none⟩) 1 1 A n c none 0 0
        rw [hs5] at hwb
        have HWB := Lib.hid hwb
        replace HD := Lib.hid (HD.out.grow hg6)
        replace HR2 := Lib.hid (HR2.out.grow hg6)
        replace HM1 := Lib.hid (HM1.out.grow hg6)
        replace HB1 := Lib.hid (HB1.out.grow hg6)
        replace HGW := Lib.hid (HGW.out.trans hg6)
        obtain ⟨wa, hwa⟩ : ∃ wa, v5.heap.size = wa := ⟨_, rfl⟩
        rw [hwa] at HWB HWI
        clear hwn hwb hg6 hs5
        rw [hwa] at HD HR2 HM1 HB1 HGW
        go_upto_region 15 with fail
        generalize hv6 : (v5.alloc (.cells #[.int .i64 (n : Int)] 3)).alloc (.cells #[.int .i64 2, .slice (some ⟨wa, 0, none⟩) 1 1, .slice A n c, .slice none 0 0] 30) = v6 at *
        clear hv6 hwa
        obtain ⟨z, hz⟩ : ∃ z, v6.heap.size = z := ⟨_, rfl⟩
        have HZE := Lib.hid hz
        have he0 := ownD_lit0 (B := v6.heap.size) v6 (Nat.le_refl _)
        have hg7 := grow_new v6 (.cells #[] 42)
        have HDE := Lib.hid (HD.out.grow hg7)
        have hz7 : z ≤ (v6.alloc (.cells #[] 42)).heap.size := by rw [← hz]; exact hg7.size
        rw [hz] at he0
        have HE0 := Lib.hid he0
        have HG7 := Lib.hid hg7
        have HZ7 := Lib.hid hz7
        have HLH : Hid ((halfL xs).length = n + 1) := Lib.hid (by simp [halfL, HN.out])
        obtain ⟨hl, hhl⟩ : ∃ hl, n + 1 = hl := ⟨_, rfl⟩
        rw [hhl] at HLH
        have HHL := Lib.hid hhl
        have HDL : Hid ((xs.map ofD).length ≤ 1000) := Lib.hid (by rw [HLM.out]; omega)
        have HHE : Hid (halfL xs = xs.map ofD ++ [(5, -1)]) := Lib.hid rfl
        have hhb : hl ≤ 1100000 := by omega
        clear he0 hg7 hz7 hhl
        go_wp2_with (first
          | (at_builtin; refine wpList_more_decs rfl _ _ rfl z (.slice (some ⟨z, 0, none⟩) 0 0) [] Ad n cd (xs.map ofD) rfl HE0.out rfl HLM.out HDE.out (by simp; omega) HZ7.out ?_; intro u1 y1 HO1 HBe1 HA1; have HG8 := Lib.hid (grow_new y1 (.cells #[.int .i64 5, .int .i64 (-1)] 42)); have HO8 := Lib.hid (OwnD.grow (by simpa using HO1.out) HG8.out); have HL8 := Lib.hid (decs_lit1 y1 5 (-1)); have HZ8 := Lib.hid (Nat.le_trans (Nat.le_trans HZ7.out HBe1.out.size) HG8.out.size))
          | (at_builtin; refine wpList_more_decs rfl _ _ rfl z u1 (xs.map ofD) (some ⟨y1.heap.size, 0, none⟩) 1 1 [(5, -1)] rfl HO8.out rfl rfl HL8.out (by have := HDL.out; omega) HZ8.out ?_; intro u2 y2 HO2 HBe2 HA2; rw [← HHE.out] at HO2; obtain ⟨Ah, chh, e, hch, hN⟩ := HO2.out.new; rw [HLH.out] at e; subst e))
        have HGY : Hid (Grow v6 y2) := Lib.hid (by
          have h := HG7.out
          unfold Grow at h ⊢
          rw [HZE.out] at h ⊢
          exact Below.trans (Below.trans (Below.trans h HBe1.out) (Below.mono HG8.out (Nat.le_trans HZ7.out HBe1.out.size))) HBe2.out)
        have HDH := Lib.hid hN.decs
        clear HG7 HG8 HO8 HL8 HZ8 HBe1 HBe2 HA1 HA2 HO1 HO2 hN hch HE0 HDE HZ7 HD
        replace HR2 := Lib.hid (HR2.out.grow HGY.out)
        replace HM1 := Lib.hid (HM1.out.grow HGY.out)
        replace HB1 := Lib.hid (HB1.out.grow HGY.out)
        replace HWB := Lib.hid (HWB.out.grow HGY.out)
        replace HWI := Lib.hid (HWI.out.grow HGY.out)
        replace HGW := Lib.hid (HGW.out.trans HGY.out)
        have HNO2 : Hid (numO [1, (hl : Int)] (halfL xs) = some (nodeH xs)) := Lib.hid (by have h := HALL.out.2.1; rw [HHL.out] at h; exact h)
        have HSP2 : Hid ((nodeH xs).shp = [1, (hl : Int)]) := Lib.hid (by rw [← HHL.out, ← HN.out]; rfl)
        have HS9 := Lib.hid (nums_lit y2 [1, (hl : Int)])
        have HG9 := Lib.hid (grow_new y2 (.cells #[.int .i64 1, .int .i64 (hl : Int)] 3))
        clear HGY hz
        refine (tnum_yes HNO2.out (l1 := 2) (l2 := 0) (l3 := hl) rfl rfl HLH.out (k := 4) rfl _ 2 2 Ah hl chh _ rfl (by decide) HS9.out HLH.out hhb HHF.out (HDH.out.grow HG9.out)).mono ?_
        rintro e v9 ⟨E1, q1, E2, q2, E3, q3, rfl, hn9, hg9⟩
        have HGX := Lib.hid ((HG9.out.trans hg9).trans (grow_new v9 (.cells #[.int .i64 4, .slice E1 2 q1, .slice E2 0 q2, .slice E3 hl q3] 30)))
        have HM2 := Lib.hid (hn9.grow (grow_new v9 (.cells #[.int .i64 4, .slice E1 2 q1, .slice E2 0 q2, .slice E3 hl q3] 30)))
        have HB2 := Lib.hid (boxN_new v9 4 E1 2 q1 E2 0 q2 E3 hl q3)
        clear hn9 hg9 HS9 HG9
        obtain ⟨bm, hbm⟩ : ∃ bm, v9.heap.size = bm := ⟨_, rfl⟩
        rw [hbm] at HB2
        replace HR2 := Lib.hid (HR2.out.grow HGX.out)
        replace HM1 := Lib.hid (HM1.out.grow HGX.out)
        replace HB1 := Lib.hid (HB1.out.grow HGX.out)
        replace HWB := Lib.hid (HWB.out.grow HGX.out)
        replace HWI := Lib.hid (HWI.out.grow HGX.out)
        replace HDH := Lib.hid (HDH.out.grow HGX.out)
        replace HGW := Lib.hid (HGW.out.trans HGX.out)
        clear HGX
        go_upto_region 17 with fail
        generalize hv10 : v9.alloc (.cells #[.int .i64 4, .slice E1 2 q1, .slice E2 0 q2, .slice E3 hl q3] 30) = v10 at *
        clear hv10 hbm
        have m0 := HB1.out.at0
        have m1 := HB1.out.at1
        have m2 := HB1.out.at2
        have m3 := HB1.out.at3
        have x0 := HWB.out.at0
        have x1 := HWB.out.at1
        have x2 := HWB.out.at2
        have x3 := HWB.out.at3
        go_wp2_with fail
        refine (one_says HALL.out.2.2.1.2.2.2.1 (l1 := 1) (l2 := n) (l3 := 0) rfl HN.out rfl (k := 2) HK2.out B1 B2 B3 k1 k2 k3 (some ⟨wa, 0, none⟩) A none 1 c 0 v10 HM1.out HWI.out).mono ?_
        rintro e v11 ⟨rfl, hg⟩
        clear m0 m1 m2 m3
        clear x0 x1 x2 x3
        replace HM1 := Lib.hid (HM1.out.grow hg)
        replace HB1 := Lib.hid (HB1.out.grow hg)
        replace HM2 := Lib.hid (HM2.out.grow hg)
        replace HB2 := Lib.hid (HB2.out.grow hg)
        replace HDH := Lib.hid (HDH.out.grow hg)
        replace HGW := Lib.hid (HGW.out.trans hg)
        clear hg HWB HWI HR2
        have m0 := HB2.out.at0
        have m1 := HB2.out.at1
        have m2 := HB2.out.at2
        have m3 := HB2.out.at3
        have HS11 : Hid (IsNd (v11.alloc (.cells #[.int .i64 1, .int .i64 (hl : Int)] 3)) (v11.alloc (.cells #[.int .i64 1, .int .i64 (hl : Int)] 3)).heap.size (some ⟨v11.heap.size, 0, none⟩) none Ah (nodeH xs)) := Lib.hid (by
          have h := nums_lit v11 [1, (hl : Int)]
          refine ⟨?_, Nums.none_, HDH.out.grow (grow_new _ _)⟩
          rw [HSP2.out]
          exact h)
        have HG11 := Lib.hid (grow_new v11 (.cells #[.int .i64 1, .int .i64 (hl : Int)] 3))
        go_wp2_with fail
        refine (one_says HALL.out.2.2.2.1.2.2.2.1 (l1 := 2) (l2 := 0) (l3 := hl) rfl rfl HLH.out (k := 4) rfl E1 E2 E3 q1 q2 q3 (some ⟨v11.heap.size, 0, none⟩) none Ah 2 0 chh _ (HM2.out.grow HG11.out) HS11.out).mono ?_
        rintro e v12 ⟨rfl, hg⟩
        have HGX := Lib.hid (HG11.out.trans hg)
        clear HS11 HG11 hg
        clear m0 m1 m2 m3
        replace HM1 := Lib.hid (HM1.out.grow HGX.out)
        replace HB1 := Lib.hid (HB1.out.grow HGX.out)
        replace HM2 := Lib.hid (HM2.out.grow HGX.out)
        replace HB2 := Lib.hid (HB2.out.grow HGX.out)
        replace HGW := Lib.hid (HGW.out.trans HGX.out)
        clear HGX HDH
        have m0 := HB1.out.at0
        have m1 := HB1.out.at1
        have m2 := HB1.out.at2
        have m3 := HB1.out.at3
        have HW1 := Lib.hid (alone_right HALL.out.2.2.1)
        have HW2 := Lib.hid (alone_right HALL.out.2.2.2.1)
        have HV1 : Hid (Fine [nodeW xs]) := Lib.hid ⟨by show 1 ≤ 1100000; decide, fits1 HALL.out.2.2.1.2.2.2.1, fun n hn => by rw [List.mem_singleton.1 hn]; exact HALL.out.2.2.1.2.2.2.2.1⟩
        have HV2 : Hid (Fine [nodeH xs]) := Lib.hid ⟨by show 1 ≤ 1100000; decide, fits1 HALL.out.2.2.2.1.2.2.2.1, fun n hn => by rw [List.mem_singleton.1 hn]; exact HALL.out.2.2.2.1.2.2.2.2.1⟩
        have HN12 := Lib.hid (node_lit v12 2 B1 1 k1 B2 n k2 B3 0 k3 (nodeW xs) HK2.out rfl HN.out rfl HM1.out)
        have HG12 := Lib.hid (grow_new v12 (.cells #[.int .i64 2, .slice B1 1 k1, .slice B2 n k2, .slice B3 0 k3] 30))
        go_wp2_with fail
        refine (trights (ns := [nodeW xs]) (β := true) (by rw [HW1.out.1, HW1.out.2.1]; simp) HALL.out.2.2.2.2.2.1 HV1.out _ 1 1 _ rfl (Nat.le_refl _) HN12.out).mono ?_
        rintro e v13 ⟨rfl, hg⟩
        have HGX := Lib.hid (HG12.out.trans hg)
        clear HN12 HG12 hg
        clear m0 m1 m2 m3
        replace HM2 := Lib.hid (HM2.out.grow HGX.out)
        replace HB2 := Lib.hid (HB2.out.grow HGX.out)
        replace HGW := Lib.hid (HGW.out.trans HGX.out)
        clear HGX HM1 HB1
        have m0 := HB2.out.at0
        have m1 := HB2.out.at1
        have m2 := HB2.out.at2
        have m3 := HB2.out.at3
        have HN13 := Lib.hid (node_lit v13 4 E1 2 q1 E2 0 q2 E3 hl q3 (nodeH xs) rfl rfl rfl HLH.out HM2.out)
        have HG13 := Lib.hid (grow_new v13 (.cells #[.int .i64 4, .slice E1 2 q1, .slice E2 0 q2, .slice E3 hl q3] 30))
        go_wp2_with fail
        refine (trights (ns := [nodeH xs]) (β := true) (by rw [HW2.out.1, HW2.out.2.1]; simp) HALL.out.2.2.2.2.2.2 HV2.out _ 1 1 _ rfl (Nat.le_refl _) HN13.out).mono ?_
        rintro e v14 ⟨rfl, hg⟩
        have HGX := Lib.hid (HG13.out.trans hg)
        clear HN13 HG13 hg
        clear m0 m1 m2 m3
        go_wp2
        go_ret
        exact ⟨rfl, HGW.out.trans HGX.out⟩
end Go.Proofs.Ytcljpcbgokgcdaa
