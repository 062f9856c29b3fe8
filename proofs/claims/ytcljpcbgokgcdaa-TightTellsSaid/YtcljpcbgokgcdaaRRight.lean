/-
  What the document's own right (of a node) comes to: the same as array.itemsOf.
-/
import Derived.Test.YtcljpcbgokgcdaaAllsA
import Derived.Test.YtcljpcbgokgcdaaRNormsA
namespace Go.Proofs.Ytcljpcbgokgcdaa
open Go.RowKit Go.Lib
set_option linter.unusedSimpArgs false
set_option linter.unusedVariables false

def pk (k v : Int) : Bool := if k = 1 then bitB v else if k = 3 then signB v else true
theorem fill_low {n : Nd} {c : Nat} (h1 : 1 ≤ n.kind) (h3 : n.kind ≤ 3) : fillB n c = ((n.ints.length == c && n.decs.length == 0) && n.ints.all (pk n.kind)) := by
  have hk : n.kind = 1 ∨ n.kind = 2 ∨ n.kind = 3 := by omega
  rcases hk with h | h | h
  · have e : pk n.kind = bitB := by funext v; simp [pk, h]
    rw [e]; simp [fillB, h]
  · have e : pk n.kind = fun _ => true := by funext v; simp [pk, h]
    rw [e]; simp [fillB, h]
  · have e : pk n.kind = signB := by funext v; simp [pk, h]
    rw [e]; simp [fillB, h]
theorem pk_bad {k v : Int} : pk k v = false ↔ (k = 1 ∧ v ≠ 0 ∧ v ≠ 1) ∨ (k = 3 ∧ (v < 0 ∨ 1114111 < v ∨ (55296 ≤ v ∧ v ≤ 57343))) := by
  unfold pk bitB signB
  by_cases h1 : k = 1
  · simp [h1]
  · by_cases h3 : k = 3
    · simp [h3]; omega
    · simp [h1, h3]
theorem pk_good {k v : Int} : pk k v = true ↔ ¬ ((k = 1 ∧ v ≠ 0 ∧ v ≠ 1) ∨ (k = 3 ∧ (v < 0 ∨ 1114111 < v ∨ (55296 ≤ v ∧ v ≤ 57343)))) := by
  rw [← pk_bad]
  cases pk k v <;> simp

set_option maxRecDepth 10000 in
set_option maxHeartbeats 6400000 in
theorem rnode_any (n : Nd) (A1 A2 A3 : Option Addr) (c1 c2 c3 : Nat) (w : World) (hf : Fit n) (hn : IsNd w w.heap.size A1 A2 A3 n) :
    Calls Try.prog 78 #[.agg #[.int .i64 n.kind, .slice A1 n.shp.length c1, .slice A2 n.ints.length c2, .slice A3 n.decs.length c3]] w (SaysN (itm n) (okB n) w) := by
  obtain ⟨C, hC⟩ : ∃ C, cnt n.shp = C := ⟨_, rfl⟩
  obtain ⟨β, hβ⟩ : ∃ β, rightB n.shp = β := ⟨_, rfl⟩
  have hC1 : C ≤ 1048576 := hC ▸ cnt_le1 _
  have hm : n.shp.length ≤ 9223372036854775807 := by have := hf.2.1; omega
  have HCO := Lib.hid (fun W h => rcount_any A1 n.shp.length c1 n.shp W rfl hm h)
  rw [hC, hβ] at HCO
  have h2 := hf.2.2.1
  have h3 := hf.2.2.2.1
  have HI := Lib.hid hf.2.2.2.2
  have HO : Hid (okB n = (β && fillB n C)) := Lib.hid (by unfold okB; rw [hβ, hC])
  have HT : Hid (okB n = true → itm n = C) := Lib.hid (fun h => by unfold itm; rw [if_pos h, hC])
  have HF : Hid (okB n = false → itm n = 0) := Lib.hid (fun h => by unfold itm; rw [h]; rfl)
  have HLOW := Lib.hid (fill_low (n := n) (c := C))
  have HK4 := Lib.hid ((fill_kind (n := n) (c := C)).2.2.2.1)
  have HK5 := Lib.hid ((fill_kind (n := n) (c := C)).2.2.2.2)
  have HK0 := Lib.hid (fill_other (n := n) (c := C))
  have HN1 := Lib.hid hn.1
  have HN2 := Lib.hid hn.2.1
  have HN3 := Lib.hid hn.2.2
  clear hf hn hC hβ
  generalize okB n = ω at *
  generalize itm n = ι at *
  generalize fillB n C = φ at *
  obtain ⟨k, sh, xs, ds⟩ := n
  dsimp only at *
  obtain ⟨l1, hl1⟩ : ∃ l1, sh.length = l1 := ⟨_, rfl⟩
  obtain ⟨l2, hl2⟩ : ∃ l2, xs.length = l2 := ⟨_, rfl⟩
  obtain ⟨l3, hl3⟩ : ∃ l3, ds.length = l3 := ⟨_, rfl⟩
  rw [hl1] at HCO ⊢
  rw [hl2] at HLOW HK4 HK5 h2 ⊢
  rw [hl3] at HLOW HK4 HK5 h3 ⊢
  have HL2 := Lib.hid hl2
  have HL3 := Lib.hid hl3
  clear hl1 hl2 hl3
  have hbx := boxN_new w k A1 l1 c1 A2 l2 c2 A3 l3 c3
  have HG := Lib.hid (grow_new w (.cells #[.int .i64 k, .slice A1 l1 c1, .slice A2 l2 c2, .slice A3 l3 c3] 30))
  obtain ⟨w1, hw1⟩ : ∃ w1, w1 = w.alloc (.cells #[.int .i64 k, .slice A1 l1 c1, .slice A2 l2 c2, .slice A3 l3 c3] 30) := ⟨_, rfl⟩
  rw [← hw1] at hbx HG
  have HN1' := Lib.hid (HN1.out.grow HG.out)
  have HN2' := Lib.hid (HN2.out.grow HG.out)
  have HN3' := Lib.hid (HN3.out.grow HG.out)
  have e0 := hbx.at0
  have e1 := hbx.at1
  have e2 := hbx.at2
  have e3 := hbx.at3
  have HW := Lib.hid hw1
  clear hbx HN1 HN2 HN3
  have HNO : Hid (∀ w', Grow w w' → ω = false → SaysN ι ω w (.returned (.tuple #[.int .i64 0, .bool false])) w') := Lib.hid (fun w' h1 h2 => ⟨by rw [HF.out h2, h2]; rfl, h1⟩)
  have HYES : Hid (∀ w', Grow w w' → ω = true → SaysN ι ω w (.returned (.tuple #[.int .i64 (C : Nat), .bool true])) w') := Lib.hid (fun w' h1 h2 => ⟨by rw [HT.out h2, h2], h1⟩)
  clear HF HT
  rw [hw1] at e0 e1 e2 e3
  go_enter Try.func78, Try.ntmps78
  go_wp2_with fail
  refine (HCO.out _ (HW.out ▸ HN1'.out)).mono ?_
  rintro e w2 ⟨rfl, hw2⟩
  rw [hw2]
  rw [← HW.out] at e0 e1 e2 e3 ⊢
  clear hw2 hw1 HCO HN1'
  cases β with
  | false =>
    have HB : Hid (ω = false) := Lib.hid (by rw [HO.out]; rfl)
    clear HO HLOW HK4 HK5 HK0 HYES
    go_wp2
    go_ret2
    exact HNO.out _ HG.out HB.out
  | true =>
    have HO' : Hid (ω = φ) := Lib.hid (by rw [HO.out]; rfl)
    clear HO
    by_cases k1 : k < 1
    · have HB : Hid (ω = false) := Lib.hid (by rw [HO'.out]; exact HK0.out (by omega) (by omega) (by omega) (by omega) (by omega))
      clear HLOW HK4 HK5 HK0 HYES
      go_wp2
      go_ret2
      exact HNO.out _ HG.out HB.out
    by_cases k5 : 5 < k
    · have HB : Hid (ω = false) := Lib.hid (by rw [HO'.out]; exact HK0.out (by omega) (by omega) (by omega) (by omega) (by omega))
      clear HLOW HK4 HK5 HK0 HYES
      go_wp2
      go_ret2
      exact HNO.out _ HG.out HB.out
    clear HK0
    by_cases k4 : 4 ≤ k
    · by_cases kk : k = 4
      · subst kk
        have HP : Hid (ω = ((l2 == 0 && l3 == C) && ds.all decB)) := Lib.hid (by rw [HO'.out]; exact HK4.out rfl)
        clear HLOW HK4 HK5 HO'
        by_cases q2 : l2 = 0
        · subst q2
          by_cases q3 : l3 = C
          · subst q3
            have hb : (((l3 : Nat) : Int) != ((l3 : Nat) : Int)) = false := by simp
            have HP' : Hid (ω = ds.all decB) := Lib.hid (by rw [HP.out]; simp)
            clear HP
            go_wp2
            go_loopg [8] 0 (fun g s8 wr => s8 = .int .i64 0 ∧ g = 0 ∧ w1 = wr)
            case atStart => exact ⟨rfl, rfl, rfl⟩
            case round =>
              obtain ⟨rfl, rfl, rfl⟩ := hrel
              go_wp2
              go_loopg [10] l3 (fun g s10 wr => ∃ j : Nat, j ≤ l3 ∧ g = l3 - j ∧ s10 = .int .i64 j ∧ Hid ((ds.drop j).all decB = ds.all decB) ∧ Hid (Grow w1 wr))
              case atStart => exact ⟨0, Nat.zero_le _, rfl, rfl, Lib.hid rfl, Lib.hid (Grow.refl _)⟩
              case round =>
                obtain ⟨j, hj, rfl, rfl, HA, HGW⟩ := hrel
                have hbw : BoxN wr w.heap.size 4 A1 l1 c1 A2 0 c2 A3 l3 c3 := by
                  have hb0 := boxN_new w 4 A1 l1 c1 A2 0 c2 A3 l3 c3
                  rw [← HW.out] at hb0
                  exact hb0.grow HGW.out
                have f3 := hbw.at3
                clear hbw
                by_cases hlt : j < l3
                · have hkl : j < ds.length := by rw [HL3.out]; exact hlt
                  obtain ⟨b, off, rfl, hb2, hcl⟩ := HN3'.out.grow HGW.out (by omega)
                  obtain ⟨hc1, hc2⟩ := hcl j hkl
                  have HTR := Lib.hid (fun h => alld_drop (p := decB) hkl h)
                  have HFA := Lib.hid (fun h => alld_fails (p := decB) hkl h)
                  have hin := in_at HI.out j
                  clear hcl hkl hb2
                  generalize ds.getD j (0, 0) = x at hc1 hc2 HTR HFA hin
                  obtain ⟨x1, x2⟩ := x
                  dsimp only at hc1 hc2 hin
                  cases hx : decB (x1, x2) with
                  | true =>
                    have HT' := Lib.hid (HTR.out hx)
                    have HB := Lib.hid (fun W => rright_any x1 x2 W hin.1 hin.2)
                    rw [show rightD x1 x2 = true from hx] at HB
                    clear hx HTR HFA hin
                    go_wp2_with fail
                    refine (HB.out _).mono ?_
                    rintro e w3 ⟨rfl, hg3⟩
                    go_wp2
                    go_roundg (l3 - (j + 1))
                    case rel => exact ⟨j + 1, by omega, rfl, by go_num, Lib.hid (HT'.out.symm.trans HA.out), Lib.hid (HGW.out.trans hg3)⟩
                    case measure => omega
                  | false =>
                    have HF' := Lib.hid (HFA.out hx)
                    have HB := Lib.hid (fun W => rright_any x1 x2 W hin.1 hin.2)
                    rw [show rightD x1 x2 = false from hx] at HB
                    clear hx HTR HFA hin
                    go_wp2_with fail
                    refine (HB.out _).mono ?_
                    rintro e w3 ⟨rfl, hg3⟩
                    go_wp2
                    go_ret2
                    exact HNO.out _ (HG.out.trans (HGW.out.trans hg3)) (by rw [HP'.out, ← HA.out, HF'.out])
                · obtain rfl : l3 = j := by omega
                  have HE : Hid (ds.all decB = true) := Lib.hid (by rw [← HA.out, ← HL3.out, List.drop_length]; rfl)
                  go_wp2
                  go_ret2
                  exact HYES.out _ (HG.out.trans HGW.out) (by rw [HP'.out, HE.out])
          · have hb : (((l3 : Nat) : Int) != ((C : Nat) : Int)) = true := by simp; omega
            have HB : Hid (ω = false) := Lib.hid (by rw [HP.out]; simp [q3])
            clear HP HYES
            go_wp2
            go_ret2
            exact HNO.out _ HG.out HB.out
        · have hb : (((l2 : Nat) : Int) != 0) = true := by simp; omega
          have HB : Hid (ω = false) := Lib.hid (by rw [HP.out]; simp [q2])
          clear HP HYES
          go_wp2
          go_ret2
          exact HNO.out _ HG.out HB.out
      · obtain rfl : k = 5 := by omega
        have HP : Hid (ω = (l2 == 0 && l3 == 0)) := Lib.hid (by rw [HO'.out]; exact HK5.out rfl)
        clear HLOW HK4 HK5 HO'
        by_cases q2 : l2 = 0
        · subst q2
          by_cases q3 : l3 = 0
          · subst q3
            have HB : Hid (ω = true) := Lib.hid (by rw [HP.out]; rfl)
            clear HP
            go_wp2
            go_loopg [8] 0 (fun g s8 wr => s8 = .int .i64 0 ∧ g = 0 ∧ w1 = wr)
            case atStart => exact ⟨rfl, rfl, rfl⟩
            case round =>
              obtain ⟨rfl, rfl, rfl⟩ := hrel
              go_wp2
              go_loopg [10] 0 (fun g s10 wr => s10 = .int .i64 0 ∧ g = 0 ∧ w1 = wr)
              case atStart => exact ⟨rfl, rfl, rfl⟩
              case round =>
                obtain ⟨rfl, rfl, rfl⟩ := hrel
                go_wp2
                go_ret2
                exact HYES.out _ HG.out HB.out
          · have hb : (((l3 : Nat) : Int) != 0) = true := by simp; omega
            have HB : Hid (ω = false) := Lib.hid (by rw [HP.out]; simp [q3])
            clear HP HYES
            go_wp2
            go_ret2
            exact HNO.out _ HG.out HB.out
        · have hb : (((l2 : Nat) : Int) != 0) = true := by simp; omega
          have HB : Hid (ω = false) := Lib.hid (by rw [HP.out]; simp [q2])
          clear HP HYES
          go_wp2
          go_ret2
          exact HNO.out _ HG.out HB.out
    · have k4b : (k == 4) = false := by simp; omega
      have HP : Hid (ω = ((l2 == C && l3 == 0) && xs.all (pk k))) := Lib.hid (by rw [HO'.out]; exact HLOW.out (by omega) (by omega))
      clear HLOW HK4 HK5 HO'
      by_cases q2 : l2 = C
      · subst q2
        have hb : (((l2 : Nat) : Int) != ((l2 : Nat) : Int)) = false := by simp
        by_cases q3 : l3 = 0
        · subst q3
          have HP' : Hid (ω = xs.all (pk k)) := Lib.hid (by rw [HP.out]; simp)
          clear HP
          go_wp2
          go_loopg [8] l2 (fun g s8 wr => ∃ j : Nat, j ≤ l2 ∧ g = l2 - j ∧ s8 = .int .i64 j ∧ Hid ((xs.drop j).all (pk k) = xs.all (pk k)) ∧ w1 = wr)
          case atStart => exact ⟨0, Nat.zero_le _, rfl, rfl, Lib.hid rfl, rfl⟩
          case round =>
            obtain ⟨j, hj, rfl, rfl, HA, rfl⟩ := hrel
            by_cases hlt : j < l2
            · have hkl : j < xs.length := by rw [HL2.out]; exact hlt
              obtain ⟨b, off, rfl, hb2, hcl⟩ := HN2'.out (by omega)
              have hc := hcl j hkl
              have HTR := Lib.hid (fun h => all_drop (p := pk k) hkl h)
              have HFA := Lib.hid (fun h => all_fails (p := pk k) hkl h)
              clear hcl hkl hb2
              generalize xs.getD j 0 = v at hc HTR HFA
              cases hx : pk k v with
              | true =>
                have HT' := Lib.hid (HTR.out hx)
                have hgood := pk_good.1 hx
                clear hx HTR HFA
                by_cases kk1 : k = 1
                · subst kk1
                  by_cases v0 : v = 0
                  · subst v0
                    go_wp2
                    go_roundg (l2 - (j + 1))
                    case rel => exact ⟨j + 1, by omega, rfl, by go_num, Lib.hid (HT'.out.symm.trans HA.out), rfl⟩
                    case measure => omega
                  · obtain rfl : v = 1 := by omega
                    go_wp2
                    go_roundg (l2 - (j + 1))
                    case rel => exact ⟨j + 1, by omega, rfl, by go_num, Lib.hid (HT'.out.symm.trans HA.out), rfl⟩
                    case measure => omega
                · have kb1 : (k == 1) = false := by simpa using kk1
                  by_cases kk3 : k = 3
                  · subst kk3
                    have v1 : ¬ v < 0 := by omega
                    have v2 : ¬ 1114111 < v := by omega
                    by_cases v3 : 55296 ≤ v
                    · have v4 : ¬ v ≤ 57343 := by omega
                      clear hgood
                      go_wp2
                      go_roundg (l2 - (j + 1))
                      case rel => exact ⟨j + 1, by omega, rfl, by go_num, Lib.hid (HT'.out.symm.trans HA.out), rfl⟩
                      case measure => omega
                    · clear hgood
                      go_wp2
                      go_roundg (l2 - (j + 1))
                      case rel => exact ⟨j + 1, by omega, rfl, by go_num, Lib.hid (HT'.out.symm.trans HA.out), rfl⟩
                      case measure => omega
                  · have kb3 : (k == 3) = false := by simpa using kk3
                    clear hgood
                    go_wp2
                    go_roundg (l2 - (j + 1))
                    case rel => exact ⟨j + 1, by omega, rfl, by go_num, Lib.hid (HT'.out.symm.trans HA.out), rfl⟩
                    case measure => omega
              | false =>
                have HF' := Lib.hid (HFA.out hx)
                have hbad := pk_bad.1 hx
                have HB : Hid (ω = false) := Lib.hid (by rw [HP'.out, ← HA.out, HF'.out])
                clear hx HTR HFA
                rcases hbad with ⟨rfl, v0, v1⟩ | ⟨rfl, hv⟩
                · have b0 : (v != 0) = true := by simpa using v0
                  have b1 : (v != 1) = true := by simpa using v1
                  go_wp2
                  go_ret2
                  exact HNO.out _ HG.out HB.out
                · by_cases v1 : v < 0
                  · clear hv
                    go_wp2
                    go_ret2
                    exact HNO.out _ HG.out HB.out
                  · by_cases v2 : 1114111 < v
                    · clear hv
                      go_wp2
                      go_ret2
                      exact HNO.out _ HG.out HB.out
                    · have v3 : 55296 ≤ v := by omega
                      have v4 : v ≤ 57343 := by omega
                      clear hv
                      go_wp2
                      go_ret2
                      exact HNO.out _ HG.out HB.out
            · obtain rfl : l2 = j := by omega
              have HE : Hid (ω = true) := Lib.hid (by rw [HP'.out, ← HA.out, ← HL2.out, List.drop_length]; rfl)
              go_wp2
              go_loopg [10] 0 (fun g s10 wr => s10 = .int .i64 0 ∧ g = 0 ∧ w1 = wr)
              case atStart => exact ⟨rfl, rfl, rfl⟩
              case round =>
                obtain ⟨rfl, rfl, rfl⟩ := hrel
                go_wp2
                go_ret2
                exact HYES.out _ HG.out HE.out
        · have hb3 : (((l3 : Nat) : Int) != 0) = true := by simp; omega
          have HB : Hid (ω = false) := Lib.hid (by rw [HP.out]; simp [q3])
          clear HP HYES
          go_wp2
          go_ret2
          exact HNO.out _ HG.out HB.out
      · have hb : (((l2 : Nat) : Int) != ((C : Nat) : Int)) = true := by simp; omega
        have HB : Hid (ω = false) := Lib.hid (by rw [HP.out]; simp [q2])
        clear HP HYES
        go_wp2
        go_ret2
        exact HNO.out _ HG.out HB.out
end Go.Proofs.Ytcljpcbgokgcdaa
