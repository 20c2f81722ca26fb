/- The law CodeBytes. -/
import Derived.Test.YtnlodhpiedfdlaaCoREq
namespace Go.Proofs.Ytnlodhpiedfdlaa
open Go.RowKit Co

attribute [local go_sem] Oper.semAt_some

theorem conv_own {w : World} {B g cap n : Nat} {l : List UInt8} (h : w.ownsRow B 5 1 (.slice (some ⟨g, 0, none⟩) l.length cap) l.length (bc l)) (hn : n = l.length) {W : World} (hW : ∀ k < w.heap.size, W.heap[k]? = w.heap[k]?) : (convert 29 9 (.slice (some ⟨g, 0, none⟩) n cap)).run Try.prog W = .ok (.string (str l)) W := by
  subst hn
  obtain ⟨hB, cur, hc, h1, h2, h3, h4⟩ := own_at h
  refine run_convert_bytes_back (P := Try.prog) W 29 9 5 ⟨g, 0, none⟩ cap l Try.underlying29 Try.underlying5 Try.underlying9 fun j hj => ?_
  have hz : (bc l)[j]? = some (.int .u8 (l[j].toNat : Int)) := by unfold bc; rw [List.getElem?_map, List.getElem?_eq_getElem hj]; rfl
  rw [← h4, List.getElem?_take, if_pos hj, Array.getElem?_toList] at hz
  have hc' := (hW g (lt_of_heap hc)).trans hc
  rw [Go.WideShapes.add_plain]
  simp [World.cell?, hc', hz]
theorem size_bytes (o : Ob) : (bytesO o).length = 8 + sizeN (numsO o) := by
  unfold bytesO sealN
  rw [← rowN_enc]
  unfold rowN four sizeN signs
  simp only [List.length_append, List.length_cons, List.length_nil]
  omega

set_option maxHeartbeats 16000000 in
set_option maxRecDepth 100000 in
theorem law_any (a b : Ob) (s1 s2 s3 s4 t1 t2 t3 t4 u1 u2 u3 u4 v1 v2 v3 v4 : Value) (w : World) (hA : ObAt w s1 s2 s3 s4 t1 t2 t3 t4 a) (hB : ObAt w u1 u2 u3 u4 v1 v2 v3 v4 b) (la : ObLen a) (lb : ObLen b) (ka : a.ok) (kb : b.ok) :
    Calls Try.prog 3 #[.agg (obCells s1 s2 s3 s4 a.cross a.flags t1 t2 t3 t4), .agg (obCells u1 u2 u3 u4 b.cross b.flags v1 v2 v3 v4)] w fun e w' => e = .returned (.bool true) ∧ Below w.heap.size w w' := by
  have GA := fun (W : World) (h : Below w.heap.size w W) => great_any a s1 s2 s3 s4 t1 t2 t3 t4 W (hA.below h) la
  have GB := fun (W : World) (h : Below w.heap.size w W) => great_any b u1 u2 u3 u4 v1 v2 v3 v4 W (hB.below h) lb
  have BY := fun (W : World) (h : Below w.heap.size w W) (hs : ObSmall a) => bytes_any a s1 s2 s3 s4 t1 t2 t3 t4 W (hA.below h) ka hs
  have RB := fun (W : World) (h : Below w.heap.size w W) (hs : ObSmall a) => rbytes_any a s1 s2 s3 s4 t1 t2 t3 t4 W (hA.below h) ka hs
  have SZ := fun (W : World) (h : Below w.heap.size w W) (hs : ObSmall a) => size_any a s1 s2 s3 s4 t1 t2 t3 t4 W (hA.below h) ka hs
  have SM := fun (W : World) (h : Below w.heap.size w W) => seqOb_any a b s1 s2 s3 s4 t1 t2 t3 t4 u1 u2 u3 u4 v1 v2 v3 v4 W (hA.below h) (hB.below h) ka kb
  have EQ := fun (W : World) (h : Below w.heap.size w W) => req_any a b s1 s2 s3 s4 t1 t2 t3 t4 u1 u2 u3 u4 v1 v2 v3 v4 W (hA.below h) (hB.below h) ka kb
  have SO := fun (x1 x2 x3 x4 y1 y2 y3 y4 : Value) (W : World) (h : Below w.heap.size w W) (hO : ObAt W x1 x2 x3 x4 y1 y2 y3 y4 a) => seqOb_any a a s1 s2 s3 s4 t1 t2 t3 t4 x1 x2 x3 x4 y1 y2 y3 y4 W (hA.below h) hO ka ka
  have EO := fun (x1 x2 x3 x4 y1 y2 y3 y4 : Value) (W : World) (h : Below w.heap.size w W) (hO : ObAt W x1 x2 x3 x4 y1 y2 y3 y4 a) => req_any a a x1 x2 x3 x4 y1 y2 y3 y4 s1 s2 s3 s4 t1 t2 t3 t4 W hO (hA.below h) ka ka
  have OB := fun (v : Value) (W : World) (hv : BytesAt W v (bytesO a)) (hl : (bytesO a).length ≤ 1000000) => obj_any v (bytesO a) W hv hl
  rw [objOf_bytes ka] at OB
  have MO := Lib.hid (bytesO_most a ka)
  obtain ⟨ao1, an1, ac1, ao2, an2, ac2, ao3, an3, ac3, ao4, an4, ac4, aq1, am1, ad1, aq2, am2, ad2, aq3, am3, ad3, aq4, am4, ad4, rfl, rfl, rfl, rfl, rfl, rfl, rfl, rfl⟩ := obAt_slices hA
  obtain ⟨bo1, bn1, bc1, bo2, bn2, bc2, bo3, bn3, bc3, bo4, bn4, bc4, bq1, bm1, bd1, bq2, bm2, bd2, bq3, bm3, bd3, bq4, bm4, bd4, rfl, rfl, rfl, rfl, rfl, rfl, rfl, rfl⟩ := obAt_slices hB
  unfold obCells at GA GB BY RB SZ SM EQ SO EO ⊢
  obtain ⟨ap, hap⟩ : ∃ x, x = a.cross := ⟨_, rfl⟩
  obtain ⟨ar, har⟩ : ∃ x, x = a.flags := ⟨_, rfl⟩
  obtain ⟨bp, hbp⟩ : ∃ x, x = b.cross := ⟨_, rfl⟩
  obtain ⟨br, hbr⟩ : ∃ x, x = b.flags := ⟨_, rfl⟩
  unfold ObjPost obCells at OB
  rw [← hap, ← har] at GA BY RB SZ SO EO
  simp only [← hap, ← har] at OB
  rw [← hbp, ← hbr] at GB
  rw [← hap, ← har, ← hbp, ← hbr] at SM EQ
  rw [← hap, ← har, ← hbp, ← hbr]
  obtain ⟨D, hD⟩ : ∃ D, D = decide (a = b) := ⟨_, rfl⟩
  rw [← hD] at SM EQ
  simp only [decide_true] at SO EO
  obtain ⟨L, hL⟩ : ∃ L, L = bytesO a := ⟨_, rfl⟩
  rw [← hL] at BY RB MO OB
  obtain ⟨n, hn⟩ : ∃ n, n = L.length := ⟨_, rfl⟩
  have HSZ : Hid (8 + sizeN (numsO a) = n) := Lib.hid (by rw [hn, hL]; exact (size_bytes a).symm)
  rw [HSZ.out] at SZ
  replace GA := Lib.hid GA
  replace GB := Lib.hid GB
  replace BY := Lib.hid BY
  replace RB := Lib.hid RB
  replace SZ := Lib.hid SZ
  replace SM := Lib.hid SM
  replace EQ := Lib.hid EQ
  replace SO := Lib.hid SO
  replace EO := Lib.hid EO
  replace OB := Lib.hid OB
  have HN := Lib.hid hn
  have AL := Lib.hid alive_any
  have hs1 : (w.alloc (.cells #[.slice ao1 an1 ac1, .slice ao2 an2 ac2, .slice ao3 an3 ac3, .slice ao4 an4 ac4, .int .i64 ap, .int .i64 ar, .slice aq1 am1 ad1, .slice aq2 am2 ad2, .slice aq3 am3 ad3, .slice aq4 am4 ad4] 26)).heap.size = w.heap.size + 1 := World.size_alloc _ _
  have HB0 := Lib.hid (((Below.refl w.heap.size w).alloc (Nat.le_refl _) (.cells #[.slice ao1 an1 ac1, .slice ao2 an2 ac2, .slice ao3 an3 ac3, .slice ao4 an4 ac4, .int .i64 ap, .int .i64 ar, .slice aq1 am1 ad1, .slice aq2 am2 ad2, .slice aq3 am3 ad3, .slice aq4 am4 ad4] 26)).alloc (by rw [hs1]; omega) (.cells #[.slice bo1 bn1 bc1, .slice bo2 bn2 bc2, .slice bo3 bn3 bc3, .slice bo4 bn4 bc4, .int .i64 bp, .int .i64 br, .slice bq1 bm1 bd1, .slice bq2 bm2 bd2, .slice bq3 bm3 bd3, .slice bq4 bm4 bd4] 26))
  have HXA : Hid (((w.alloc (.cells #[.slice ao1 an1 ac1, .slice ao2 an2 ac2, .slice ao3 an3 ac3, .slice ao4 an4 ac4, .int .i64 ap, .int .i64 ar, .slice aq1 am1 ad1, .slice aq2 am2 ad2, .slice aq3 am3 ad3, .slice aq4 am4 ad4] 26)).alloc (.cells #[.slice bo1 bn1 bc1, .slice bo2 bn2 bc2, .slice bo3 bn3 bc3, .slice bo4 bn4 bc4, .int .i64 bp, .int .i64 br, .slice bq1 bm1 bd1, .slice bq2 bm2 bd2, .slice bq3 bm3 bd3, .slice bq4 bm4 bd4] 26)).heap[w.heap.size]? = some (.cells #[.slice ao1 an1 ac1, .slice ao2 an2 ac2, .slice ao3 an3 ac3, .slice ao4 an4 ac4, .int .i64 ap, .int .i64 ar, .slice aq1 am1 ad1, .slice aq2 am2 ad2, .slice aq3 am3 ad3, .slice aq4 am4 ad4] 26 (0, 0))) := Lib.hid (by rw [Below.heap_alloc _ _ _ (by rw [hs1]; omega)]; exact heap_alloc_new w _)
  have HXB : Hid (((w.alloc (.cells #[.slice ao1 an1 ac1, .slice ao2 an2 ac2, .slice ao3 an3 ac3, .slice ao4 an4 ac4, .int .i64 ap, .int .i64 ar, .slice aq1 am1 ad1, .slice aq2 am2 ad2, .slice aq3 am3 ad3, .slice aq4 am4 ad4] 26)).alloc (.cells #[.slice bo1 bn1 bc1, .slice bo2 bn2 bc2, .slice bo3 bn3 bc3, .slice bo4 bn4 bc4, .int .i64 bp, .int .i64 br, .slice bq1 bm1 bd1, .slice bq2 bm2 bd2, .slice bq3 bm3 bd3, .slice bq4 bm4 bd4] 26)).heap[w.heap.size + 1]? = some (.cells #[.slice bo1 bn1 bc1, .slice bo2 bn2 bc2, .slice bo3 bn3 bc3, .slice bo4 bn4 bc4, .int .i64 bp, .int .i64 br, .slice bq1 bm1 bd1, .slice bq2 bm2 bd2, .slice bq3 bm3 bd3, .slice bq4 bm4 bd4] 26 (0, 0))) := Lib.hid (by have h := heap_alloc_new (w.alloc (.cells #[.slice ao1 an1 ac1, .slice ao2 an2 ac2, .slice ao3 an3 ac3, .slice ao4 an4 ac4, .int .i64 ap, .int .i64 ar, .slice aq1 am1 ad1, .slice aq2 am2 ad2, .slice aq3 am3 ad3, .slice aq4 am4 ad4] 26)) (.cells #[.slice bo1 bn1 bc1, .slice bo2 bn2 bc2, .slice bo3 bn3 bc3, .slice bo4 bn4 bc4, .int .i64 bp, .int .i64 br, .slice bq1 bm1 bd1, .slice bq2 bm2 bd2, .slice bq3 bm3 bd3, .slice bq4 bm4 bd4] 26); rw [hs1] at h; exact h)
  clear hs1 hA hB la lb ka kb hap har hbp hbr hD hL hn
  go_enter Try.func3, Try.ntmps3
  go_wp2_with (first
    | (go_at_call 6; (with_reducible refine (AL.out _).mono ?_); rintro e w1 ⟨rfl, hb⟩; obtain ⟨ka0, ka1, ka2, ka3, ka4, ka5, ka6, ka7, ka8, ka9⟩ := box_cells HXA.out hb; obtain ⟨kb0, kb1, kb2, kb3, kb4, kb5, kb6, kb7, kb8, kb9⟩ := box_cells HXB.out hb; have HB1 := Lib.hid hb; clear hb)
    | (go_at_call 7; (with_reducible refine (GA.out _ (HB0.out.trans (HB1.out.mono HB0.out.size))).mono ?_); rintro e w2 ⟨gr, rfl, hg, hb⟩; clear ka0 ka1 ka2 ka3 ka4 ka5 ka6 ka7 ka8 ka9 kb0 kb1 kb2 kb3 kb4 kb5 kb6 kb7 kb8 kb9; have HB2 := Lib.hid (HB1.out.trans (hb.mono HB1.out.size)); obtain ⟨ka0, ka1, ka2, ka3, ka4, ka5, ka6, ka7, ka8, ka9⟩ := box_cells HXA.out HB2.out; obtain ⟨kb0, kb1, kb2, kb3, kb4, kb5, kb6, kb7, kb8, kb9⟩ := box_cells HXB.out HB2.out; have HG := Lib.hid hg; clear hb hg; cases gr)
    | (go_at_call 7; (with_reducible refine (GB.out _ (HB0.out.trans (HB2.out.mono HB0.out.size))).mono ?_); rintro e w3 ⟨gs, rfl, _, hb⟩; clear ka0 ka1 ka2 ka3 ka4 ka5 ka6 ka7 ka8 ka9 kb0 kb1 kb2 kb3 kb4 kb5 kb6 kb7 kb8 kb9; have HB3 := Lib.hid (HB2.out.trans (hb.mono HB2.out.size)); obtain ⟨ka0, ka1, ka2, ka3, ka4, ka5, ka6, ka7, ka8, ka9⟩ := box_cells HXA.out HB3.out; obtain ⟨kb0, kb1, kb2, kb3, kb4, kb5, kb6, kb7, kb8, kb9⟩ := box_cells HXB.out HB3.out; clear hb; cases gs))
  rotate_left
  · go_ret
    exact ⟨rfl, HB0.out.trans (HB3.out.mono HB0.out.size)⟩
  · go_ret
    exact ⟨rfl, HB0.out.trans (HB2.out.mono HB0.out.size)⟩
  have HS := Lib.hid (HG.out (by trivial))
  have HNL : Hid (L.length ≤ 1000000) := Lib.hid (MO.out HS.out)
  have hnl : (n : Int) ≤ 1000000 := by have := HNL.out; have := HN.out; omega
  have BY4 : Hid (Calls Try.prog 8 #[.agg #[.slice ao1 an1 ac1, .slice ao2 an2 ac2, .slice ao3 an3 ac3, .slice ao4 an4 ac4, .int .i64 ap, .int .i64 ar, .slice aq1 am1 ad1, .slice aq2 am2 ad2, .slice aq3 am3 ad3, .slice aq4 am4 ad4]] w3 fun e w' => ∃ g cap, e = .returned (.slice (some ⟨g, 0, none⟩) n cap) ∧ Hid (w'.ownsRow w3.heap.size 5 1 (.slice (some ⟨g, 0, none⟩) L.length cap) L.length (bc L)) ∧ Hid (Below w3.heap.size w3 w')) := Lib.hid ((BY.out _ (HB0.out.trans (HB3.out.mono HB0.out.size)) HS.out).mono fun e w' ⟨g, cap, h1, h2, h3⟩ => ⟨g, cap, by rw [h1, HN.out], Lib.hid h2, Lib.hid h3⟩)
  clear BY GA GB HG AL
  go_wp2_with (first
    | (go_at_call 8; (with_reducible refine BY4.out.mono ?_); rintro e w4 ⟨g, cap, rfl, HO4, hb⟩; clear ka0 ka1 ka2 ka3 ka4 ka5 ka6 ka7 ka8 ka9 kb0 kb1 kb2 kb3 kb4 kb5 kb6 kb7 kb8 kb9; have HB4 := Lib.hid (HB3.out.trans (hb.out.mono HB3.out.size)); have ob4 := OB.out _ w4 (bytesAt_own HO4.out) HNL.out; rw [← HN.out] at ob4; have OB4 := Lib.hid ob4; clear hb ob4)
    | (go_at_call 9; (with_reducible refine OB4.out.mono ?_); rintro e w5 ⟨hb, x1, x2, x3, x4, y1, y2, y3, y4, rfl, hO⟩; obtain ⟨eo1, en1, ec1, eo2, en2, ec2, eo3, en3, ec3, eo4, en4, ec4, eq1, em1, ed1, eq2, em2, ed2, eq3, em3, ed3, eq4, em4, ed4, rfl, rfl, rfl, rfl, rfl, rfl, rfl, rfl⟩ := obAt_slices hO; have HB5 := Lib.hid (HB4.out.trans (hb.mono HB4.out.size)); have HB45 := Lib.hid hb; have HO5 := Lib.hid hO; clear hb hO))
  have HE5 := Lib.hid (heap_alloc_new w5 (.cells #[.slice eo1 en1 ec1, .slice eo2 en2 ec2, .slice eo3 en3 ec3, .slice eo4 en4 ec4, .int .i64 ap, .int .i64 ar, .slice eq1 em1 ed1, .slice eq2 em2 ed2, .slice eq3 em3 ed3, .slice eq4 em4 ed4] 26))
  have HB6 := Lib.hid (HB5.out.alloc HB5.out.size (.cells #[.slice eo1 en1 ec1, .slice eo2 en2 ec2, .slice eo3 en3 ec3, .slice eo4 en4 ec4, .int .i64 ap, .int .i64 ar, .slice eq1 em1 ed1, .slice eq2 em2 ed2, .slice eq3 em3 ed3, .slice eq4 em4 ed4] 26))
  have HB6w := Lib.hid (HB0.out.trans (HB6.out.mono HB0.out.size))
  have HOX := Lib.hid (HO5.out.below ((Below.refl _ w5).alloc (Nat.le_refl _) (.cells #[.slice eo1 en1 ec1, .slice eo2 en2 ec2, .slice eo3 en3 ec3, .slice eo4 en4 ec4, .int .i64 ap, .int .i64 ar, .slice eq1 em1 ed1, .slice eq2 em2 ed2, .slice eq3 em3 ed3, .slice eq4 em4 ed4] 26)))
  have HB46 := Lib.hid (HB45.out.alloc HB45.out.size (.cells #[.slice eo1 en1 ec1, .slice eo2 en2 ec2, .slice eo3 en3 ec3, .slice eo4 en4 ec4, .int .i64 ap, .int .i64 ar, .slice eq1 em1 ed1, .slice eq2 em2 ed2, .slice eq3 em3 ed3, .slice eq4 em4 ed4] 26))
  obtain ⟨X, hX⟩ : ∃ X, X = w5.alloc (.cells #[.slice eo1 en1 ec1, .slice eo2 en2 ec2, .slice eo3 en3 ec3, .slice eo4 en4 ec4, .int .i64 ap, .int .i64 ar, .slice eq1 em1 ed1, .slice eq2 em2 ed2, .slice eq3 em3 ed3, .slice eq4 em4 ed4] 26) := ⟨_, rfl⟩
  obtain ⟨E, hE⟩ : ∃ E, E = w5.heap.size := ⟨_, rfl⟩
  rw [← hX] at HE5 HB6 HB6w HOX HB46 ⊢
  rw [← hE] at HE5 ⊢
  clear hX hE HB5 HB45 HO5 OB4 OB BY4 MO
  have hb0 : Below X.heap.size X X.drew := ⟨rfl, rfl, rfl, Nat.le_refl _, fun _ _ => rfl⟩
  have bw : ∀ W, Below X.heap.size X W → Below w.heap.size w W := fun W h => HB6w.out.trans (h.mono HB6w.out.size)
  have SX : Hid (∀ w', Below X.heap.size X w' → Below X.heap.size X w' ∧ (w'.cell? ⟨w.heap.size, 0, none⟩ = some (.slice ao1 an1 ac1) ∧ w'.cell? ⟨w.heap.size, 1, none⟩ = some (.slice ao2 an2 ac2) ∧ w'.cell? ⟨w.heap.size, 2, none⟩ = some (.slice ao3 an3 ac3) ∧ w'.cell? ⟨w.heap.size, 3, none⟩ = some (.slice ao4 an4 ac4) ∧ w'.cell? ⟨w.heap.size, 4, none⟩ = some (.int .i64 ap) ∧ w'.cell? ⟨w.heap.size, 5, none⟩ = some (.int .i64 ar) ∧ w'.cell? ⟨w.heap.size, 6, none⟩ = some (.slice aq1 am1 ad1) ∧ w'.cell? ⟨w.heap.size, 7, none⟩ = some (.slice aq2 am2 ad2) ∧ w'.cell? ⟨w.heap.size, 8, none⟩ = some (.slice aq3 am3 ad3) ∧ w'.cell? ⟨w.heap.size, 9, none⟩ = some (.slice aq4 am4 ad4)) ∧ (w'.cell? ⟨w.heap.size + 1, 0, none⟩ = some (.slice bo1 bn1 bc1) ∧ w'.cell? ⟨w.heap.size + 1, 1, none⟩ = some (.slice bo2 bn2 bc2) ∧ w'.cell? ⟨w.heap.size + 1, 2, none⟩ = some (.slice bo3 bn3 bc3) ∧ w'.cell? ⟨w.heap.size + 1, 3, none⟩ = some (.slice bo4 bn4 bc4) ∧ w'.cell? ⟨w.heap.size + 1, 4, none⟩ = some (.int .i64 bp) ∧ w'.cell? ⟨w.heap.size + 1, 5, none⟩ = some (.int .i64 br) ∧ w'.cell? ⟨w.heap.size + 1, 6, none⟩ = some (.slice bq1 bm1 bd1) ∧ w'.cell? ⟨w.heap.size + 1, 7, none⟩ = some (.slice bq2 bm2 bd2) ∧ w'.cell? ⟨w.heap.size + 1, 8, none⟩ = some (.slice bq3 bm3 bd3) ∧ w'.cell? ⟨w.heap.size + 1, 9, none⟩ = some (.slice bq4 bm4 bd4)) ∧ (w'.cell? ⟨E, 0, none⟩ = some (.slice eo1 en1 ec1) ∧ w'.cell? ⟨E, 1, none⟩ = some (.slice eo2 en2 ec2) ∧ w'.cell? ⟨E, 2, none⟩ = some (.slice eo3 en3 ec3) ∧ w'.cell? ⟨E, 3, none⟩ = some (.slice eo4 en4 ec4) ∧ w'.cell? ⟨E, 4, none⟩ = some (.int .i64 ap) ∧ w'.cell? ⟨E, 5, none⟩ = some (.int .i64 ar) ∧ w'.cell? ⟨E, 6, none⟩ = some (.slice eq1 em1 ed1) ∧ w'.cell? ⟨E, 7, none⟩ = some (.slice eq2 em2 ed2) ∧ w'.cell? ⟨E, 8, none⟩ = some (.slice eq3 em3 ed3) ∧ w'.cell? ⟨E, 9, none⟩ = some (.slice eq4 em4 ed4)) ∧ (convert 29 9 (.slice (some ⟨g, 0, none⟩) n cap)).run Try.prog w' = .ok (.string (str L)) w') := Lib.hid fun w' h => ⟨h, box_cells HXA.out (HB6.out.trans (h.mono HB6.out.size)), box_cells HXB.out (HB6.out.trans (h.mono HB6.out.size)), box_cells HE5.out h, conv_own HO4.out HN.out fun k hk => (h.block k (Nat.lt_of_lt_of_le hk HB46.out.size)).trans (HB46.out.block k hk)⟩
  have RB6 : Hid (∀ W, Below X.heap.size X W → Calls Try.prog 10 #[.agg #[.slice ao1 an1 ac1, .slice ao2 an2 ac2, .slice ao3 an3 ac3, .slice ao4 an4 ac4, .int .i64 ap, .int .i64 ar, .slice aq1 am1 ad1, .slice aq2 am2 ad2, .slice aq3 am3 ad3, .slice aq4 am4 ad4]] W fun e w' => ∃ g2 cap2, e = .returned (.slice (some ⟨g2, 0, none⟩) n cap2) ∧ (convert 29 9 (.slice (some ⟨g2, 0, none⟩) n cap2)).run Try.prog w' = .ok (.string (str L)) w' ∧ Below X.heap.size X w') := Lib.hid fun W h => (RB.out W (bw W h) HS.out).mono fun e w' ⟨g2, cap2, h1, h2, h3⟩ => ⟨g2, cap2, by rw [h1, HN.out], conv_own h2 HN.out fun _ _ => rfl, h.trans (h3.mono h.size)⟩
  have EO6 : Hid (∀ W, Below X.heap.size X W → Calls Try.prog 11 #[.agg #[.slice eo1 en1 ec1, .slice eo2 en2 ec2, .slice eo3 en3 ec3, .slice eo4 en4 ec4, .int .i64 ap, .int .i64 ar, .slice eq1 em1 ed1, .slice eq2 em2 ed2, .slice eq3 em3 ed3, .slice eq4 em4 ed4], .agg #[.slice ao1 an1 ac1, .slice ao2 an2 ac2, .slice ao3 an3 ac3, .slice ao4 an4 ac4, .int .i64 ap, .int .i64 ar, .slice aq1 am1 ad1, .slice aq2 am2 ad2, .slice aq3 am3 ad3, .slice aq4 am4 ad4]] W fun e w' => e = .returned (.bool true) ∧ Below X.heap.size X w') := Lib.hid fun W h => (EO.out _ _ _ _ _ _ _ _ W (bw W h) (HOX.out.below h)).mono fun e w' hh => ⟨hh.1, h.trans (hh.2.mono h.size)⟩
  have SZ6 : Hid (∀ W, Below X.heap.size X W → Calls Try.prog 12 #[.agg #[.slice ao1 an1 ac1, .slice ao2 an2 ac2, .slice ao3 an3 ac3, .slice ao4 an4 ac4, .int .i64 ap, .int .i64 ar, .slice aq1 am1 ad1, .slice aq2 am2 ad2, .slice aq3 am3 ad3, .slice aq4 am4 ad4]] W fun e w' => e = .returned (.int .i64 (n : Int)) ∧ Below X.heap.size X w') := Lib.hid fun W h => (SZ.out W (bw W h) HS.out).mono fun e w' hh => ⟨hh.1, h.trans (hh.2.2.mono h.size)⟩
  have SM6 : Hid (∀ W, Below X.heap.size X W → Calls Try.prog 13 #[.agg #[.slice ao1 an1 ac1, .slice ao2 an2 ac2, .slice ao3 an3 ac3, .slice ao4 an4 ac4, .int .i64 ap, .int .i64 ar, .slice aq1 am1 ad1, .slice aq2 am2 ad2, .slice aq3 am3 ad3, .slice aq4 am4 ad4], .agg #[.slice bo1 bn1 bc1, .slice bo2 bn2 bc2, .slice bo3 bn3 bc3, .slice bo4 bn4 bc4, .int .i64 bp, .int .i64 br, .slice bq1 bm1 bd1, .slice bq2 bm2 bd2, .slice bq3 bm3 bd3, .slice bq4 bm4 bd4]] W fun e w' => e = .returned (.bool D) ∧ Below X.heap.size X w') := Lib.hid fun W h => (SM.out W (bw W h)).mono fun e w' hh => ⟨hh.1, h.trans (hh.2.mono h.size)⟩
  have EQ6 : Hid (∀ W, Below X.heap.size X W → Calls Try.prog 11 #[.agg #[.slice ao1 an1 ac1, .slice ao2 an2 ac2, .slice ao3 an3 ac3, .slice ao4 an4 ac4, .int .i64 ap, .int .i64 ar, .slice aq1 am1 ad1, .slice aq2 am2 ad2, .slice aq3 am3 ad3, .slice aq4 am4 ad4], .agg #[.slice bo1 bn1 bc1, .slice bo2 bn2 bc2, .slice bo3 bn3 bc3, .slice bo4 bn4 bc4, .int .i64 bp, .int .i64 br, .slice bq1 bm1 bd1, .slice bq2 bm2 bd2, .slice bq3 bm3 bd3, .slice bq4 bm4 bd4]] W fun e w' => e = .returned (.bool D) ∧ Below X.heap.size X w') := Lib.hid fun W h => (EQ.out W (bw W h)).mono fun e w' hh => ⟨hh.1, h.trans (hh.2.mono h.size)⟩
  have SO6 : Hid (∀ W, Below X.heap.size X W → Calls Try.prog 13 #[.agg #[.slice ao1 an1 ac1, .slice ao2 an2 ac2, .slice ao3 an3 ac3, .slice ao4 an4 ac4, .int .i64 ap, .int .i64 ar, .slice aq1 am1 ad1, .slice aq2 am2 ad2, .slice aq3 am3 ad3, .slice aq4 am4 ad4], .agg #[.slice eo1 en1 ec1, .slice eo2 en2 ec2, .slice eo3 en3 ec3, .slice eo4 en4 ec4, .int .i64 ap, .int .i64 ar, .slice eq1 em1 ed1, .slice eq2 em2 ed2, .slice eq3 em3 ed3, .slice eq4 em4 ed4]] W fun e w' => e = .returned (.bool true) ∧ Below X.heap.size X w') := Lib.hid fun W h => (SO.out _ _ _ _ _ _ _ _ W (bw W h) (HOX.out.below h)).mono fun e w' hh => ⟨hh.1, h.trans (hh.2.mono h.size)⟩
  clear bw RB EO SZ SM EQ SO HOX HB46 HB2 HB3 HB4 HO4 HE5 HXA HXB HB0 HS HNL HSZ
  go_region_held (fun w' => Below X.heap.size X w' ∧ (w'.cell? ⟨w.heap.size, 0, none⟩ = some (.slice ao1 an1 ac1) ∧ w'.cell? ⟨w.heap.size, 1, none⟩ = some (.slice ao2 an2 ac2) ∧ w'.cell? ⟨w.heap.size, 2, none⟩ = some (.slice ao3 an3 ac3) ∧ w'.cell? ⟨w.heap.size, 3, none⟩ = some (.slice ao4 an4 ac4) ∧ w'.cell? ⟨w.heap.size, 4, none⟩ = some (.int .i64 ap) ∧ w'.cell? ⟨w.heap.size, 5, none⟩ = some (.int .i64 ar) ∧ w'.cell? ⟨w.heap.size, 6, none⟩ = some (.slice aq1 am1 ad1) ∧ w'.cell? ⟨w.heap.size, 7, none⟩ = some (.slice aq2 am2 ad2) ∧ w'.cell? ⟨w.heap.size, 8, none⟩ = some (.slice aq3 am3 ad3) ∧ w'.cell? ⟨w.heap.size, 9, none⟩ = some (.slice aq4 am4 ad4)) ∧ (w'.cell? ⟨w.heap.size + 1, 0, none⟩ = some (.slice bo1 bn1 bc1) ∧ w'.cell? ⟨w.heap.size + 1, 1, none⟩ = some (.slice bo2 bn2 bc2) ∧ w'.cell? ⟨w.heap.size + 1, 2, none⟩ = some (.slice bo3 bn3 bc3) ∧ w'.cell? ⟨w.heap.size + 1, 3, none⟩ = some (.slice bo4 bn4 bc4) ∧ w'.cell? ⟨w.heap.size + 1, 4, none⟩ = some (.int .i64 bp) ∧ w'.cell? ⟨w.heap.size + 1, 5, none⟩ = some (.int .i64 br) ∧ w'.cell? ⟨w.heap.size + 1, 6, none⟩ = some (.slice bq1 bm1 bd1) ∧ w'.cell? ⟨w.heap.size + 1, 7, none⟩ = some (.slice bq2 bm2 bd2) ∧ w'.cell? ⟨w.heap.size + 1, 8, none⟩ = some (.slice bq3 bm3 bd3) ∧ w'.cell? ⟨w.heap.size + 1, 9, none⟩ = some (.slice bq4 bm4 bd4)) ∧ (w'.cell? ⟨E, 0, none⟩ = some (.slice eo1 en1 ec1) ∧ w'.cell? ⟨E, 1, none⟩ = some (.slice eo2 en2 ec2) ∧ w'.cell? ⟨E, 2, none⟩ = some (.slice eo3 en3 ec3) ∧ w'.cell? ⟨E, 3, none⟩ = some (.slice eo4 en4 ec4) ∧ w'.cell? ⟨E, 4, none⟩ = some (.int .i64 ap) ∧ w'.cell? ⟨E, 5, none⟩ = some (.int .i64 ar) ∧ w'.cell? ⟨E, 6, none⟩ = some (.slice eq1 em1 ed1) ∧ w'.cell? ⟨E, 7, none⟩ = some (.slice eq2 em2 ed2) ∧ w'.cell? ⟨E, 8, none⟩ = some (.slice eq3 em3 ed3) ∧ w'.cell? ⟨E, 9, none⟩ = some (.slice eq4 em4 ed4)) ∧ (convert 29 9 (.slice (some ⟨g, 0, none⟩) n cap)).run Try.prog w' = .ok (.string (str L)) w')
    (first | exact SX.out _ hb0 | exact SX.out _ hb7 | exact SX.out _ hb8 | exact SX.out _ hb9 | exact SX.out _ hb10 | exact SX.out _ hb11 | exact SX.out _ hb12)
    (first | (go_at_call 10; (with_reducible refine (RB6.out _ hb0).mono ?_); rintro e w7 ⟨g2, cap2, rfl, cv2, hb7⟩)
           | (go_at_call 11; (with_reducible refine (EO6.out _ hb7).mono ?_); rintro e w8 ⟨rfl, hb8⟩)
           | (go_at_call 12; (with_reducible refine (SZ6.out _ hb8).mono ?_); rintro e w9 ⟨rfl, hb9⟩)
           | (go_at_call 13; (with_reducible refine (SM6.out _ hb9).mono ?_); rintro e w10 ⟨rfl, hb10⟩)
           | (go_at_call 11; (with_reducible refine (EQ6.out _ hb10).mono ?_); rintro e w11 ⟨rfl, hb11⟩)
           | (go_at_call 13; (with_reducible refine (SO6.out _ hb11).mono ?_); rintro e w12 ⟨rfl, hb12⟩))
  all_goals (go_wp2_with fail)
  all_goals (go_ret; exact ⟨rfl, HB6w.out.trans (hb12.mono HB6w.out.size)⟩)
end Go.Proofs.Ytnlodhpiedfdlaa
