/-
  Plain words on bytes in memory of their own, and bytes as texts. Nothing is claimed here by itself.
-/
import Derived.Test.YtoapfegmipopkaaTake
import Derived.Test.YtoapfegmipopkaaFlow
import Derived.Deep.DeepAppendRoom
import Derived.Laws.AppendOwnNone
import Derived.Laws.MakeOwn
import Derived.Laws.BytesArg
import Derived.Lib.SlBytesConst
namespace Go.Proofs.Ytoapfegmipopkaa
open Go.RowKit

theorem info5 : (Try.prog.info? 5).map (fun i => (i.zero, i.size, i.bytes)) = some (some (.int .u8 0), 1, 1) := by kernel_rfl

/-- numbers as bytes in cells -/
def u8s (bs : List Int) : List Value := bs.map (Value.int .u8)
theorem u8s_len (bs : List Int) : (u8s bs).length = bs.length := by simp [u8s]
theorem u8s_app (a b : List Int) : u8s (a ++ b) = u8s a ++ u8s b := by simp [u8s]
theorem u8s_one (bs : List Int) : ∀ u ∈ u8s bs, u.oneCell' = true := by
  intro u hu
  simp only [u8s, List.mem_map] at hu
  obtain ⟨c, _, rfl⟩ := hu
  rfl

theorem nums_news {w : World} {B : Nat} {ad : Addr} {p : List Int} (h : Nums .u8 w B (some ad) p) : ∀ j u, (u8s p)[j]? = some u → w.cell? (ad.add j) = some u := by
  intro j u hj
  have hjl : j < p.length := by
    have := (List.getElem?_eq_some_iff.1 hj).1
    rwa [u8s_len] at this
  obtain ⟨b, off, e, _, hc⟩ := h (by omega)
  cases e
  rw [Addr.add_lit, hc j hjl]
  rw [← hj]
  simp [u8s, hjl]

theorem own_grow {w w' : World} {base : Nat} {e : TypeId} {size : Nat} {g n cap : Nat} {xs : List Value} (h : w.ownsRow base e size (.slice (some ⟨g, 0, none⟩) n cap) n xs) (hg : Grow w w') :
    w'.ownsRow base e size (.slice (some ⟨g, 0, none⟩) n cap) n xs := by
  refine ⟨h.1, ?_⟩
  rcases h.2 with ⟨h0, _⟩ | ⟨g', cap', cur, hv, hbg, hgg, rest⟩
  · cases h0
  · cases hv
    have hlt : g < w.heap.size := (Array.getElem?_eq_some_iff.1 hgg).1
    exact .inr ⟨g, cap, cur, rfl, hbg, (hg.block g hlt).trans hgg, rest⟩

theorem own_row {w : World} {base : Nat} {g n : Nat} {bs : List Int} (hn : n = bs.length) (h : w.ownsRow base 5 1 (.slice (some ⟨g, 0, none⟩) n n) n (u8s bs)) : w.rowIs g 5 n fun i => .int .u8 (bs.getD i 0) := by
  rcases h.2 with ⟨h0, _⟩ | ⟨g', cap', cur, hv, hbg, hgg, _, _, hsz, htake⟩
  · cases h0
  · cases hv
    refine ⟨cur, hgg, by omega, fun i hi => ?_⟩
    have h1 : cur.toList.take (n * 1) = cur.toList := List.take_of_length_le (by simp; omega)
    rw [h1] at htake
    rw [← Array.getElem?_toList, htake]
    simp [u8s, show i < bs.length by omega]

theorem lit_news (w : World) (xs : List Value) (t : TypeId) : ∀ j u, xs[j]? = some u → (w.alloc (.cells xs.toArray t)).cell? ((⟨w.heap.size, 0, none⟩ : Addr).add j) = some u := by
  intro j u hj
  rw [Addr.add_lit, World.cell?_alloc_new]
  simpa using hj

theorem own_nums {w : World} {base : Nat} {v : Value} {n : Nat} {xs : List Int} (h : w.ownsRow base 5 1 v n (u8s xs)) :
    ∃ A cap, v = .slice A n cap ∧ (A = none → cap = 0) ∧ Nums .u8 w w.heap.size A xs ∧ xs.length = n := by
  have hlen : xs.length = n := by have := h.1; rw [u8s_len] at this; omega
  rcases h.2 with ⟨rfl, hx⟩ | ⟨g, cap, cur, rfl, hbg, hgg, hnc, _, hsz, htake⟩
  · subst hx
    have hx' : xs = [] := List.eq_nil_of_length_eq_zero hlen
    subst hx'
    exact ⟨none, 0, rfl, fun _ => rfl, Nums.none_, rfl⟩
  · refine ⟨some ⟨g, 0, none⟩, cap, rfl, by simp, fun hp => ⟨g, 0, rfl, (Array.getElem?_eq_some_iff.1 hgg).1, fun i hi => ?_⟩, hlen⟩
    rw [Nat.zero_add, cell_of_row w g i cur 5 (0, 0) hgg]
    have h1 : (cur.toList.take (n * 1))[i]? = (u8s xs)[i]? := by rw [htake]
    rw [List.getElem?_take, if_pos (by omega), Array.getElem?_toList] at h1
    rw [h1]
    simp [u8s, hi]

theorem own_any {w w' : World} {base n : Nat} {v : Value} {xs : List Value} (h : w.ownsRow base 5 1 v n xs) (hg : Grow w w') : w'.ownsRow base 5 1 v n xs := by
  refine ⟨h.1, ?_⟩
  rcases h.2 with h0 | ⟨g', cap', cur, hv, hbg, hgg, rest⟩
  · exact .inl h0
  · have hlt : g' < w.heap.size := (Array.getElem?_eq_some_iff.1 hgg).1
    exact .inr ⟨g', cap', cur, hv, hbg, (hg.block g' hlt).trans hgg, rest⟩

theorem own_empty (w : World) : (w.alloc (.cells #[] 5)).ownsRow w.heap.size 5 1 (.slice (some ⟨w.heap.size, 0, none⟩) 0 0) 0 (u8s []) :=
  ⟨rfl, .inr ⟨w.heap.size, 0, #[], rfl, Nat.le_refl _, heap_alloc_new w _, Nat.le_refl _, by unfold maxLen; omega, rfl, rfl⟩⟩

theorem own_some {w : World} {base n : Nat} {v : Value} {xs : List Value} (h : w.ownsRow base 5 1 v n xs) (hn : v ≠ .slice none 0 0) : ∃ g cap, v = .slice (some ⟨g, 0, none⟩) n cap := by
  rcases h.2 with ⟨h0, _⟩ | ⟨g, cap, _, hv, _⟩
  · exact absurd h0 hn
  · exact ⟨g, cap, hv⟩

theorem Nums.drop_ {k : IntKind} {w : World} {B : Nat} {A : Option Addr} {xs : List Int} (h : Nums k w B A xs) (d : Nat) : Nums k w B (Option.map (fun x => x.add d) A) (xs.drop d) := fun hn => by
  have hl : d < xs.length := by simp at hn; omega
  obtain ⟨b, off, rfl, hb, hc⟩ := h (by omega)
  refine ⟨b, off + d, ?_, hb, fun i hi => ?_⟩
  · simp only [Option.map_some]
    congr 1
    unfold Addr.add
    split <;> simp_all
  · have := hc (d + i) (by simp at hi; omega)
    rw [show off + d + i = off + (d + i) by omega, this]
    simp

theorem grow_alloc {w w' : World} {o : Obj} (h : Grow (w.alloc o) w') : Grow w w' :=
  ⟨h.os, h.tape, h.output, by have := h.size; simp at this; omega, fun k hk => (h.block k (by simp; omega)).trans (Below.heap_alloc w o k hk)⟩

theorem conv_any {k : TypeId} {w : World} {B : Nat} {A : Option Addr} {xs : List Int} (cap : Nat) (h : Nums .u8 w B A xs) (hk : k = 22) :
    (convert k 9 (.slice A xs.length cap)).run Try.prog w = .ok (.string (strOfNums xs)) w := by
  subst hk
  by_cases h0 : 0 < xs.length
  · obtain ⟨b, off, rfl, _, hc⟩ := h h0
    exact run_convert_bytes_arg w 22 5 Try.underlying22 Try.underlying5 b off xs.length cap xs rfl hc 9 Try.underlying9
  · have e : xs = [] := List.eq_nil_of_length_eq_zero (by omega)
    subst e
    rcases A with _ | a
    · exact run_convert_bytes_nil w 22 5 Try.underlying22 Try.underlying5 0 cap 9 Try.underlying9
    · rw [run_convert_bytes_string w 22 9 5 _ _ _ Try.underlying22 Try.underlying5 Try.underlying9]
      exact run_bytesToString w a 0 cap [] (by simpa using run_loadCells_list (P := Try.prog) w a [] (fun j v hj => by simp at hj))

def Fine (w : World) (e : Ending) (w' : World) : Prop := e = .returned (.bool true) ∧ Grow w w'

theorem lit_row (w : World) (k : IntKind) (t : TypeId) (xs : List Int) : (w.alloc (.cells (xs.map (Value.int k)).toArray t)).rowIs w.heap.size t xs.length fun i => .int k (xs.getD i 0) := by
  have h := World.rowIs_alloc w (xs.map (Value.int k)).toArray t (fun i => .int k (xs.getD i 0)) (fun i hi => by
    have hi' : i < xs.length := by simpa using hi
    simp [hi'])
  simpa using h
theorem lit_nums (w : World) (k : IntKind) (t : TypeId) (xs : List Int) : Nums k (w.alloc (.cells (xs.map (Value.int k)).toArray t)) (w.alloc (.cells (xs.map (Value.int k)).toArray t)).heap.size (some ⟨w.heap.size, 0, none⟩) xs :=
  Nums.of_row (lit_row w k t xs)

theorem mark_nums (w : World) (t : TypeId) (fr : Nat × Nat) (xs : List Int) : Nums .u8 (w.alloc (.cells (xs.map (Value.int .u8)).toArray t fr)) (w.alloc (.cells (xs.map (Value.int .u8)).toArray t fr)).heap.size (some ⟨w.heap.size, 0, none⟩) xs := fun _ => by
  refine ⟨w.heap.size, 0, rfl, by simp, fun i hi => ?_⟩
  rw [cell_of_row _ _ _ _ t fr (heap_alloc_new w _)]
  simp [hi]

theorem str_inj (xs ys : List Int) (hx : ∀ n ∈ xs, 0 ≤ n ∧ n < 256) (hy : ∀ n ∈ ys, 0 ≤ n ∧ n < 256) : (strOfNums xs).toList = (strOfNums ys).toList ↔ xs = ys := by
  refine ⟨fun h => ?_, fun h => by rw [h]⟩
  rw [ByteArray.toList_eq, ByteArray.toList_eq, strOfNums_data, strOfNums_data] at h
  induction xs generalizing ys with
  | nil => cases ys with
    | nil => rfl
    | cons y ys => simp at h
  | cons x xs ih => cases ys with
    | nil => simp at h
    | cons y ys =>
      simp only [List.map_cons, List.cons.injEq] at h
      have hx0 := hx x (by simp)
      have hy0 := hy y (by simp)
      have e : x = y := by
        have h1 := congrArg UInt8.toNat h.1
        simp at h1
        omega
      rw [e, ih ys (fun n hn => hx n (by simp [hn])) (fun n hn => hy n (by simp [hn])) h.2]

/-- bytes in some memory of their own -/
def Gave (bs : List Int) (w : World) (e : Ending) (w' : World) : Prop :=
  ∃ A cap, e = .returned (.slice A bs.length cap) ∧ (A = none → cap = 0) ∧ Nums .u8 w' w'.heap.size A bs ∧ Grow w w'

theorem lit_news_at (w : World) (xs : List Value) (t : TypeId) (g : Nat) (hg : g = w.heap.size) : ∀ j u, xs[j]? = some u → (w.alloc (.cells xs.toArray t)).cell? ((⟨g, 0, none⟩ : Addr).add j) = some u := by
  subst hg
  exact lit_news w xs t

def Sealed (bs : List Int) (w : World) (e : Ending) (w' : World) : Prop :=
  ∃ g, e = .returned (.slice (some ⟨g, 0, none⟩) bs.length bs.length) ∧ w'.rowIs g 5 bs.length (fun i => .int .u8 (bs.getD i 0)) ∧ Grow w w'
end Go.Proofs.Ytoapfegmipopkaa
