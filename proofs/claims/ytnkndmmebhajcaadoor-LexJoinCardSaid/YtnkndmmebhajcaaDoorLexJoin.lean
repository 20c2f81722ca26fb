/- lex.Join: the texts of a row of tokens, a blank between each two. -/
import Derived.Test.YtnkndmmebhajcaaDoorLexBuild
import Derived.Test.YtnkndmmebhajcaaDoorShelf
namespace Go.Proofs.YtnkndmmebhajcaaDoor
open Go.RowKit

theorem kind_ne {l : List UInt8} {a : Nat} {ts : List Tok} {r : Option Nat} (h : Toks l a ts r) : ∀ t ∈ ts, t.kind ≠ 5 := by
  intro t ht
  have h2 := toks_good h t ht
  have := (oneL_some h2)
  omega
/-- the blank ahead of the j-th -/
def blankL (j : Nat) : List UInt8 := if j = 0 then [] else [32]
theorem blank_next (j : Nat) : (⟨#[32]⟩ : ByteArray) = str (blankL (j + 1)) := rfl
def JoinAt (B b : Nat) (ts : List Tok) (j : Nat) (w wr : World) : Prop := Lib.IsBuilder 55 5 B b (Lib.byteCells (joinT (ts.take j))) wr ∧ Below B w wr ∧ B ≤ wr.heap.size
set_option maxHeartbeats 8000000 in
theorem join_any (ts : List Tok) (m n : Nat) (hn : Hid (ts.length = n)) (hk : Hid (∀ t ∈ ts, t.kind ≠ 5)) (hlen : Hid (∀ j, (joinT (ts.take j)).length ≤ 100000)) (hq : Hid (∀ t ∈ ts, t.text.length ≤ 100000)) (n1 : (n : Int) ≤ 100000) (g : Nat) (cap : Nat) (w : World) (hr : Hid (RowAt w g (ts ++ [endT m]))) :
    Calls Tryd.prog 15 #[.slice (some ⟨g, 0, none⟩) (n + 1) cap] w fun e w' => e = .returned (.string (str (joinT ts))) ∧ Below w.heap.size w w' := by
  have F : Hid (Lib.IsBuilder 55 5 w.heap.size w.heap.size (Lib.byteCells (joinT (ts.take 0))) (w.alloc (.cells #[.pointer none, .slice none 0 0] 55))) := Lib.hid (Lib.fresh_isBuilder _ _ w)
  have tok : True := trivial
  go_enter Tryd.func15, Tryd.ntmps15
  go_wp2_with fail
  go_loopw [9, 4] (fun i v wr => ∃ (j : Nat) (bl : List UInt8), j ≤ n + 1 ∧ i = .int .i64 j ∧ v = .string (str bl) ∧ Hid (j ≤ n → bl = blankL j) ∧ Hid (JoinAt w.heap.size w.heap.size ts j w wr)) (fun i _ _ => n + 1 - litLen i)
  case atStart => exact ⟨0, [], by omega, rfl, rfl, Lib.hid fun _ => rfl, Lib.hid ⟨F.out, (Below.refl _ _).alloc (Nat.le_refl _) _, by simp⟩⟩
  case round =>
    obtain ⟨j, bl, hj, rfl, rfl, hbl, hJ⟩ := hrel
    by_cases hjn : (j : Int) < (n : Int) + 1
    · obtain ⟨t, htj⟩ : ∃ t, (ts ++ [endT m])[j]? = some t := ⟨(ts ++ [endT m])[j]'(by have := hn.out; simp; omega), List.getElem?_eq_getElem _⟩
      obtain ⟨x0, x1, x2, x3⟩ := (hr.out.below hJ.out.2.1).2 j t htj
      by_cases hjm : j < n
      · have htj2 : ts[j]? = some t := by rwa [List.getElem?_append_left (by have := hn.out; omega)] at htj
        have hk5 : ((t.kind : Int) == 5) = false := by have := hk.out t (List.mem_of_getElem? htj2); simp; omega
        have htl := Lib.hid (hq.out t (List.mem_of_getElem? htj2))
        have hsn := join_snoc htj2
        have hl1 := Lib.hid (hlen.out j)
        have hl2 := Lib.hid (hlen.out (j + 1))
        have hbe := hbl.out (by omega)
        obtain ⟨kk, tx, vv, aa⟩ := t
        have HS := Lib.hid hsn
        have W0 := Lib.hid (builder_alloc hJ.out.1 (.cells #[.int .i64 (kk : Int), .string (str tx), .int .i64 vv, .int .i64 (aa : Int)] 36))
        have BW := Lib.hid (hJ.out.2.1.alloc hJ.out.2.2 (.cells #[.int .i64 (kk : Int), .string (str tx), .int .i64 vv, .int .i64 (aa : Int)] 36))
        have SB := Lib.hid (Nat.le_trans hJ.out.2.2 (Nat.le_of_lt (by simp : wr.heap.size < (wr.alloc (.cells #[.int .i64 (kk : Int), .string (str tx), .int .i64 vv, .int .i64 (aa : Int)] 36)).heap.size)))
        have HB := Lib.hid (heap_alloc_new wr (.cells #[.int .i64 (kk : Int), .string (str tx), .int .i64 vv, .int .i64 (aa : Int)] 36))
        have LB : Hid (w.heap.size < wr.heap.size) := Lib.hid (hJ.out.1.elim (fun h => h.lt) (fun h => h.lt))
        have hbll : Hid (bl.length ≤ 1) := Lib.hid (by rw [hbe]; unfold blankL; split <;> simp)
        have C1 := Lib.hid (write_str w.heap.size w.heap.size (joinT (ts.take j)) bl _ W0.out (by have := hl1.out; have := hbll.out; omega) SB.out)
        have C2 : Hid (∀ W, Lib.IsBuilder 55 5 w.heap.size w.heap.size (Lib.byteCells (joinT (ts.take j) ++ bl)) W → w.heap.size ≤ W.heap.size → Calls Tryd.prog 23 #[.pointer (some ⟨w.heap.size, 0, none⟩), .string (str tx)] W fun e w' => e = .returned (.tuple #[.int .i64 (tx.length : Int), .nilIface]) ∧ Lib.IsBuilder 55 5 w.heap.size w.heap.size (Lib.byteCells (joinT (ts.take j) ++ bl ++ tx)) w' ∧ Below w.heap.size W w' ∧ Lib.OthersKept 5 (some w.heap.size) W w') :=
          Lib.hid fun W h1 h2 => write_str w.heap.size w.heap.size _ tx W h1 (by have := hl1.out; have := hbll.out; have := htl.out; rw [List.length_append]; simp only at this; omega) h2
        have HBE := Lib.hid hbe
        clear htj htj2 hsn hbe
        go_wp2_with (first | (go_at_call 23; have _k := tok; clear tok _k; ((with_reducible refine C1.out.mono ?_); rintro e w1 ⟨rfl, h1, hb1, ho1⟩; have y1 : w1.cell? ⟨wr.heap.size, 1, none⟩ = some (.string (str tx)) := (by rw [Lib.cell_of_heap (ho1 _ _ HB.out (by have := LB.out; intro e; injection e with e; omega) (by intro c fz h; cases h))]; rfl); have H1 := Lib.hid h1; have HB1 := Lib.hid (BW.out.trans hb1); have S1 := Lib.hid (Nat.le_trans SB.out hb1.size); clear h1 hb1 ho1)) | (go_at_call 23; ((with_reducible refine (C2.out _ H1.out S1.out).mono ?_); rintro e w2 ⟨rfl, h2, hb2, ho2⟩; have H2 := Lib.hid h2; have HB2 := Lib.hid (HB1.out.trans hb2); have S2 := Lib.hid (Nat.le_trans S1.out hb2.size); clear h2 hb2 ho2)))
        exact ⟨⟨j + 1, blankL (j + 1), by omega, rfl, rfl, Lib.hid fun _ => rfl, Lib.hid ⟨by rw [HS.out]; have := H2.out; rw [HBE.out] at this; exact this, HB2.out, S2.out⟩⟩, by simp [litLen]; omega⟩
      · have htj2 : t = endT m := by
          rw [List.getElem?_append_right (by have := hn.out; omega), show j - ts.length = 0 by have := hn.out; omega] at htj
          exact (Option.some.inj htj).symm
        subst htj2
        have HE := Lib.hid (show ts.take (j + 1) = ts.take j by have := hn.out; rw [List.take_of_length_le (by omega), List.take_of_length_le (by omega)])
        have x0' : wr.cell? ⟨g, j * 4, none⟩ = some (.int .i64 5) := x0
        have x1' : wr.cell? ⟨g, j * 4 + 1, none⟩ = some (.string ⟨#[]⟩) := x1
        have x2' : wr.cell? ⟨g, j * 4 + 2, none⟩ = some (.int .i64 0) := x2
        have x3' : wr.cell? ⟨g, j * 4 + 3, none⟩ = some (.int .i64 (m : Int)) := x3
        clear x0 x1 x2 x3 htj
        go_wp2_with fail
        exact ⟨⟨j + 1, bl, by omega, rfl, rfl, Lib.hid fun h => absurd h (by omega), Lib.hid ⟨by rw [HE.out]; exact builder_alloc hJ.out.1 _, hJ.out.2.1.alloc hJ.out.2.2 _, by have := hJ.out.2.2; simp; omega⟩⟩, by simp [litLen]; omega⟩
    · have D : Hid (Calls Tryd.prog 24 #[.pointer (some ⟨w.heap.size, 0, none⟩)] wr fun e w' => e = .returned (.string (str (joinT ts))) ∧ Below w.heap.size wr w') := Lib.hid (by
        have h1 := hJ.out.1
        rw [List.take_of_length_le (by have := hn.out; omega)] at h1
        exact Tryd.Builder_String_any w.heap.size w.heap.size (joinT ts) wr h1 hJ.out.2.2)
      go_wp2_with (go_at_call 24; ((with_reducible refine D.out.mono ?_); rintro e w1 ⟨rfl, hb1⟩; have HB1 := Lib.hid (hJ.out.2.1.trans hb1); clear hb1))
      go_ret
      exact ⟨rfl, HB1.out⟩
end Go.Proofs.YtnkndmmebhajcaaDoor
