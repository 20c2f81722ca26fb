/- The reference's items and SameAll. -/
import Derived.Test.YtiilgehdkanmnaaSameM1
import Derived.Test.YtiilgehdkanmnaaSameM4
namespace Go.Proofs.Ytiilgehdkanmnaa
section
open Go.RowKit Go.Shelf

attribute [local go_sem] Oper.semAt_some

theorem refSame_gen (p q : Pr) (o1 o2 oe1 oe2 : Option Addr) (m1 d1 b1 f1 cap1 n1 m2 d2 b2 f2 cap2 n2 : Nat) (ho1 : Hid (0 < n1 → oe1 = some ⟨b1, f1, none⟩)) (ho2 : Hid (0 < n2 → oe2 = some ⟨b2, f2, none⟩)) (hn1 : Hid (p.exprs.length = n1)) (hn2 : Hid (q.exprs.length = n2)) (nl1 : (n1 : Int) ≤ 300) (nl2 : (n2 : Int) ≤ 300)
    (hm1 : Hid (mayP p = true)) (hm2 : Hid (mayP q = true)) (hS1 : Hid (Small p)) (hS2 : Hid (Small q)) (w0 : World)
    (hc1 : Hid (∀ i, i < n1 → ∀ x, p.exprs[i]? = some x → ExAt w0 b1 (f1 + i * 9) x)) (hc2 : Hid (∀ i, i < n2 → ∀ x, q.exprs[i]? = some x → ExAt w0 b2 (f2 + i * 9) x)) :
    ∀ a : Nat, a < n1 → ∀ (b : Nat), b < n2 → ∀ (W : World), Below w0.heap.size w0 W →
      Calls Try.prog 11 #[.agg #[.slice o1 m1 d1, .slice oe1 n1 cap1], .int .i64 (a : Int), .agg #[.slice o2 m2 d2, .slice oe2 n2 cap2], .int .i64 (b : Int)] W fun r Y =>
        r = .returned (.bool (sameL p.exprs q.exprs a b)) ∧ Below W.heap.size W Y := by
  intro a ha b hb W hW
  obtain rfl := ho1.out (by omega)
  obtain rfl := ho2.out (by omega)
  exact refSame_core p q o1 o2 m1 d1 b1 f1 cap1 n1 m2 d2 b2 f2 cap2 n2 hn1 hn2 nl1 nl2 hm1 hm2 hS1 hS2 w0 hc1 hc2 a ha b hb W hW
set_option maxHeartbeats 8000000 in
set_option maxRecDepth 100000 in
theorem refItems_gen (p q : Pr) (o1 o2 oe1 oe2 : Option Addr) (m1 d1 b1 f1 cap1 n1 m2 d2 b2 f2 cap2 n2 : Nat) (ho1 : Hid (0 < n1 → oe1 = some ⟨b1, f1, none⟩)) (ho2 : Hid (0 < n2 → oe2 = some ⟨b2, f2, none⟩)) (hn1 : Hid (p.exprs.length = n1)) (hn2 : Hid (q.exprs.length = n2)) (nl1 : (n1 : Int) ≤ 300) (nl2 : (n2 : Int) ≤ 300)
    (hm1 : Hid (mayP p = true)) (hm2 : Hid (mayP q = true)) (hS1 : Hid (Small p)) (hS2 : Hid (Small q)) (w0 : World)
    (hc1 : Hid (∀ i, i < n1 → ∀ x, p.exprs[i]? = some x → ExAt w0 b1 (f1 + i * 9) x)) (hc2 : Hid (∀ i, i < n2 → ∀ x, q.exprs[i]? = some x → ExAt w0 b2 (f2 + i * 9) x))
    (xs ys : List It) (s t : Value) (hs : Hid (SlAt s xs.length 9 fun b o i => ∀ y, xs[i]? = some y → ItAt w0 b o y)) (ht : Hid (SlAt t ys.length 9 fun b o i => ∀ y, ys[i]? = some y → ItAt w0 b o y))
    (lx : Hid (xs.length ≤ reachN)) (ly : Hid (ys.length ≤ reachN)) (mx : Hid (∀ x ∈ xs, mayI n1 x = true)) (my : Hid (∀ y ∈ ys, mayI n2 y = true)) (W : World) (hW : Hid (Below w0.heap.size w0 W)) :
    Calls Try.prog 32 #[.agg #[.slice o1 m1 d1, .slice oe1 n1 cap1], s, .agg #[.slice o2 m2 d2, .slice oe2 n2 cap2], t] W fun r Y =>
      r = .returned (.bool (sameIts p.exprs q.exprs xs ys)) ∧ Below W.heap.size W Y := by
  have IH := Lib.hid (refSame_gen p q o1 o2 oe1 oe2 m1 d1 b1 f1 cap1 n1 m2 d2 b2 f2 cap2 n2 ho1 ho2 hn1 hn2 nl1 nl2 hm1 hm2 hS1 hS2 w0 hc1 hc2)
  obtain ⟨ox, capx, bx, fx, rfl, _, _, e1, c1⟩ := hs.out
  obtain ⟨oy, capy, yb, fy, rfl, _, _, e2, c2⟩ := ht.out
  obtain ⟨n, hn⟩ : ∃ n, n = xs.length := ⟨_, rfl⟩
  obtain ⟨m, hm⟩ : ∃ m, m = ys.length := ⟨_, rfl⟩
  rw [← hn] at e1 c1 ⊢
  rw [← hm] at e2 c2 ⊢
  have HN := Lib.hid hn
  have HM := Lib.hid hm
  have E1 := Lib.hid e1
  have E2 := Lib.hid e2
  have C1 := Lib.hid c1
  have C2 := Lib.hid c2
  have hnl : (n : Int) ≤ 140737488351232 := by have := lx.out; unfold reachN at this; omega
  have hml : (m : Int) ≤ 140737488351232 := by have := ly.out; unfold reachN at this; omega
  clear hn hm e1 e2 c1 c2 hs ht lx ly
  obtain ⟨Wb, hWb⟩ : ∃ Wb, Wb = (W.alloc (.cells #[.slice o1 m1 d1, .slice oe1 n1 cap1] 25)).alloc (.cells #[.slice o2 m2 d2, .slice oe2 n2 cap2] 25) := ⟨_, rfl⟩
  have bb : Below W.heap.size W Wb := by rw [hWb]; exact ((Below.refl _ W).alloc (Nat.le_refl _) _).alloc (by rw [World.size_alloc]; omega) _
  have pb : Wb.heap[W.heap.size]? = some (.cells #[.slice o1 m1 d1, .slice oe1 n1 cap1] 25 (0, 0)) := by
    rw [hWb]; exact (two_alloc W _ _).1
  have qb : Wb.heap[W.heap.size + 1]? = some (.cells #[.slice o2 m2 d2, .slice oe2 n2 cap2] 25 (0, 0)) := by
    rw [hWb]; exact (two_alloc W _ _).2
  have PB := Lib.hid pb
  have QB := Lib.hid qb
  have HB := Lib.hid bb
  have hwb := Lib.hid (hW.out.trans (bb.mono hW.out.size))
  clear pb qb bb
  go_enter Try.func32, Try.ntmps32
  by_cases g1 : ¬ n = m
  · have G1 := Lib.hid g1
    have z1 : ((n : Int) != (m : Int)) = true := by simp; omega
    have HF : Hid (sameIts p.exprs q.exprs xs ys = false) := Lib.hid (by
      have := G1.out
      rw [HN.out, HM.out] at this
      unfold sameIts
      simp [this])
    clear g1
    go_wp2_with (fail)
    go_ret
    exact ⟨by rw [HF.out]; rfl, by rw [← hWb]; exact HB.out⟩
  have G1 := Lib.hid (Classical.not_not.1 g1)
  have z1 : ((n : Int) != (m : Int)) = false := by simp [G1.out]
  clear g1
  go_wp2_with (fail)
  rw [← hWb]
  clear z1 hWb
  go_loopw [9] (fun i wr => ∃ (c : Nat), i = .int .i64 (c : Int) ∧ c ≤ n ∧ Hid (∀ j, j < c → ∀ x y, xs[j]? = some x → ys[j]? = some y → sameIt p.exprs q.exprs x y = true) ∧ Hid (Below Wb.heap.size Wb wr)) (fun i _ => n - litLen i)
  case atStart => exact ⟨0, rfl, Nat.zero_le _, Lib.hid fun j hj => by omega, Lib.hid (Below.refl _ _)⟩
  case round =>
    obtain ⟨c, rfl, hc, hP, hWr⟩ := hrel
    rcases Nat.lt_or_ge c n with hlt | hge
    · have hl : (c : Int) < (n : Int) := by omega
      have hl2 : c < m := by rw [← G1.out]; exact hlt
      have ix1 := ix_its (cap := capx) E1.out hlt (by omega)
      have ix2 := ix_its (cap := capy) E2.out hl2 (by omega)
      unfold Ix at ix1 ix2
      obtain ⟨x, hxk⟩ : ∃ x, xs[c]? = some x := ⟨_, List.getElem?_eq_getElem (by have := HN.out; omega)⟩
      obtain ⟨y, hyk⟩ : ∃ y, ys[c]? = some y := ⟨_, List.getElem?_eq_getElem (by have := HM.out; omega)⟩
      have hwr := Lib.hid (hwb.out.trans (hWr.out.mono hwb.out.size))
      obtain ⟨_, i0, i1, i2, i3, i4, i5, i6, i7, i8, hsx, hokx⟩ := (C1.out c hlt x hxk).below hwr.out
      obtain ⟨_, j0, j1, j2, j3, j4, j5, j6, j7, j8, hsy, hoky⟩ := (C2.out c hl2 y hyk).below hwr.out
      have HSX := Lib.hid hsx
      have HSY := Lib.hid hsy
      obtain ⟨osx, capsx, bsx, fsx, rfl, _⟩ := hsx
      obtain ⟨osy, capsy, bsy, fsy, rfl, _⟩ := hsy
      have HXK := Lib.hid hxk
      have HYK := Lib.hid hyk
      have HOX := Lib.hid hokx
      have HOY := Lib.hid hoky
      clear hxk hyk hokx hoky
      go_upto_region 6 with (fail)
      go_cut [10, 11] from 25 to 32 (fun s t wx => ∃ X Y : Nat, s = .pointer (some ⟨X, 0, none⟩) ∧ t = .pointer (some ⟨Y, 0, none⟩) ∧ Hid (Below wr.heap.size wr wx) ∧
        Hid (wx.heap[X]? = some (.cells #[.int .i64 x.kind, .string x.name, .int .i64 x.type, .int .i64 x.e, .int .i64 x.f, .slice osx x.states.length capsx, .string x.state, .string x.next, .int .i64 x.pos] 43 (0, 0))) ∧
        Hid (wx.heap[Y]? = some (.cells #[.int .i64 y.kind, .string y.name, .int .i64 y.type, .int .i64 y.e, .int .i64 y.f, .slice osy y.states.length capsy, .string y.state, .string y.next, .int .i64 y.pos] 43 (0, 0))))
      case first =>
        go_region_held3 (fun w' => w'.cell? ⟨bx, fx + c * 9, none⟩ = some (.int .i64 x.kind) ∧ w'.cell? ⟨bx, fx + c * 9 + 1, none⟩ = some (.string x.name) ∧ w'.cell? ⟨bx, fx + c * 9 + 2, none⟩ = some (.int .i64 x.type) ∧ w'.cell? ⟨bx, fx + c * 9 + 3, none⟩ = some (.int .i64 x.e) ∧ w'.cell? ⟨bx, fx + c * 9 + 4, none⟩ = some (.int .i64 x.f) ∧ w'.cell? ⟨bx, fx + c * 9 + 5, none⟩ = some (.slice osx x.states.length capsx) ∧ w'.cell? ⟨bx, fx + c * 9 + 6, none⟩ = some (.string x.state) ∧ w'.cell? ⟨bx, fx + c * 9 + 7, none⟩ = some (.string x.next) ∧ w'.cell? ⟨bx, fx + c * 9 + 8, none⟩ = some (.int .i64 x.pos) ∧
            w'.cell? ⟨yb, fy + c * 9, none⟩ = some (.int .i64 y.kind) ∧ w'.cell? ⟨yb, fy + c * 9 + 1, none⟩ = some (.string y.name) ∧ w'.cell? ⟨yb, fy + c * 9 + 2, none⟩ = some (.int .i64 y.type) ∧ w'.cell? ⟨yb, fy + c * 9 + 3, none⟩ = some (.int .i64 y.e) ∧ w'.cell? ⟨yb, fy + c * 9 + 4, none⟩ = some (.int .i64 y.f) ∧ w'.cell? ⟨yb, fy + c * 9 + 5, none⟩ = some (.slice osy y.states.length capsy) ∧ w'.cell? ⟨yb, fy + c * 9 + 6, none⟩ = some (.string y.state) ∧ w'.cell? ⟨yb, fy + c * 9 + 7, none⟩ = some (.string y.next) ∧ w'.cell? ⟨yb, fy + c * 9 + 8, none⟩ = some (.int .i64 y.pos))
          (first | exact ⟨i0, i1, i2, i3, i4, i5, i6, i7, i8, j0, j1, j2, j3, j4, j5, j6, j7, j8⟩ | ((repeat' apply And.intro) <;> first | assumption | go_keep))
          (first | fail)
        all_goals (go_wp2_with fail; go_meet)
        all_goals exact ⟨_, _, rfl, rfl, Lib.hid ((fun h : Below wr.heap.size wr ((wr.alloc _).alloc _) => ⟨h.os, h.tape, h.output, h.size, h.block⟩) (((Below.refl _ wr).alloc (Nat.le_refl _) _).alloc (by rw [World.size_alloc]; omega) _)), Lib.hid (by first | exact (two_alloc _ _ _).1 | exact (two_alloc _ _ _).2), Lib.hid (by first | exact (two_alloc _ _ _).1 | exact (two_alloc _ _ _).2)⟩
      case rest =>
        obtain ⟨X, Y, rfl, rfl, hbx, hX, hY⟩ := hcut
        obtain ⟨wx, hwx⟩ : ∃ wx, wx = wc := ⟨_, rfl⟩
        rw [← hwx] at hbx hX hY ⊢
        have P0 : wx.cell? ⟨W.heap.size, 0, none⟩ = some (.slice o1 m1 d1) := cell_on hbx.out (cell_on hWr.out (by simp [World.cell?, PB.out]))
        have P1 : wx.cell? ⟨W.heap.size, 1, none⟩ = some (.slice oe1 n1 cap1) := cell_on hbx.out (cell_on hWr.out (by simp [World.cell?, PB.out]))
        have Q0 : wx.cell? ⟨W.heap.size + 1, 0, none⟩ = some (.slice o2 m2 d2) := cell_on hbx.out (cell_on hWr.out (by simp [World.cell?, QB.out]))
        have Q1 : wx.cell? ⟨W.heap.size + 1, 1, none⟩ = some (.slice oe2 n2 cap2) := cell_on hbx.out (cell_on hWr.out (by simp [World.cell?, QB.out]))
        have hxc : ∀ j u, (#[.int .i64 x.kind, .string x.name, .int .i64 x.type, .int .i64 x.e, .int .i64 x.f, .slice osx x.states.length capsx, .string x.state, .string x.next, .int .i64 x.pos] : Array Value)[j]? = some u → wx.cell? ⟨X, j, none⟩ = some u := fun j u hu => by simp only [World.cell?, hX.out]; exact hu
        have hyc : ∀ j u, (#[.int .i64 y.kind, .string y.name, .int .i64 y.type, .int .i64 y.e, .int .i64 y.f, .slice osy y.states.length capsy, .string y.state, .string y.next, .int .i64 y.pos] : Array Value)[j]? = some u → wx.cell? ⟨Y, j, none⟩ = some u := fun j u hu => by simp only [World.cell?, hY.out]; exact hu
        have HWX := Lib.hid (hwr.out.trans (hbx.out.mono hwr.out.size))
        have HBW := Lib.hid ((HB.out.trans (hWr.out.mono HB.out.size)).trans (hbx.out.mono (Nat.le_trans HB.out.size hWr.out.size)))
        have HBR := Lib.hid (hWr.out.trans (hbx.out.mono hWr.out.size))
        have s0 : wx.cell? ⟨X, 0, none⟩ = some (.int .i64 x.kind) := hxc 0 _ rfl
        have s1 : wx.cell? ⟨X, 1, none⟩ = some (.string x.name) := hxc 1 _ rfl
        have s2 : wx.cell? ⟨X, 2, none⟩ = some (.int .i64 x.type) := hxc 2 _ rfl
        have s3 : wx.cell? ⟨X, 3, none⟩ = some (.int .i64 x.e) := hxc 3 _ rfl
        have s4 : wx.cell? ⟨X, 4, none⟩ = some (.int .i64 x.f) := hxc 4 _ rfl
        have s5 : wx.cell? ⟨X, 5, none⟩ = some (.slice osx x.states.length capsx) := hxc 5 _ rfl
        have s6 : wx.cell? ⟨X, 6, none⟩ = some (.string x.state) := hxc 6 _ rfl
        have s7 : wx.cell? ⟨X, 7, none⟩ = some (.string x.next) := hxc 7 _ rfl
        have t0 : wx.cell? ⟨Y, 0, none⟩ = some (.int .i64 y.kind) := hyc 0 _ rfl
        have t1 : wx.cell? ⟨Y, 1, none⟩ = some (.string y.name) := hyc 1 _ rfl
        have t2 : wx.cell? ⟨Y, 2, none⟩ = some (.int .i64 y.type) := hyc 2 _ rfl
        have t3 : wx.cell? ⟨Y, 3, none⟩ = some (.int .i64 y.e) := hyc 3 _ rfl
        have t4 : wx.cell? ⟨Y, 4, none⟩ = some (.int .i64 y.f) := hyc 4 _ rfl
        have t5 : wx.cell? ⟨Y, 5, none⟩ = some (.slice osy y.states.length capsy) := hyc 5 _ rfl
        have t6 : wx.cell? ⟨Y, 6, none⟩ = some (.string y.state) := hyc 6 _ rfl
        have t7 : wx.cell? ⟨Y, 7, none⟩ = some (.string y.next) := hyc 7 _ rfl
        obtain ⟨he, hhe⟩ : ∃ h, h = hasE x.kind := ⟨_, rfl⟩
        obtain ⟨hf, hhf⟩ : ∃ h, h = hasF x.kind := ⟨_, rfl⟩
        have CH : Hid (∀ V, Calls Try.prog 17 #[.int .i64 x.kind] V fun e w' => e = .returned (.tuple #[.bool he, .bool hf]) ∧ V = w') := Lib.hid fun V => by rw [hhe, hhf]; exact (has_any _ V).mono fun _ _ h => ⟨h.1, h.2.symm⟩
        have CT := Lib.hid (refTexts_any x.states y.states _ _ wx (Lib.hid (HSX.out.below hbx.out)) (Lib.hid (HSY.out.below hbx.out)) (Lib.hid HOX.out.states) (Lib.hid HOY.out.states))
        obtain ⟨st, hst⟩ : ∃ st, st = decide (x.states = y.states) := ⟨_, rfl⟩
        rw [← hst] at CT
        have HHE := Lib.hid hhe
        have HHF := Lib.hid hhf
        have HST := Lib.hid hst
        have HMX := Lib.hid (mx.out x (List.mem_of_getElem? HXK.out))
        have HMY := Lib.hid (my.out y (List.mem_of_getElem? HYK.out))
        have HF : Hid (sameIt p.exprs q.exprs x y = false → sameIts p.exprs q.exprs xs ys = false) := Lib.hid fun h => by
          unfold sameIts
          have hz : ((xs.zip ys).all fun z => sameIt p.exprs q.exprs z.1 z.2) = false := by
            rw [List.all_eq_false]
            obtain ⟨l1, e1⟩ := List.getElem?_eq_some_iff.1 HXK.out
            obtain ⟨l2, e2⟩ := List.getElem?_eq_some_iff.1 HYK.out
            refine ⟨(x, y), List.mem_iff_getElem.2 ⟨c, by rw [List.length_zip]; omega, by rw [List.getElem_zip, e1, e2]⟩, fun h3 => by have h4 := h.symm.trans h3; cases h4⟩
          rw [hz, Bool.and_false]
        clear hwx hxc hyc ix1 ix2 i0 i1 i2 i3 i4 i5 i6 i7 i8 j0 j1 j2 j3 j4 j5 j6 j7 j8 hX hY hhe hhf hst
        by_cases g : ¬ x.kind = y.kind
        · have G1 := Lib.hid g
          have z1 : (x.kind != y.kind) = true := by simp [g]
          clear g
          go_wp2_with (first | (go_at_call 17; ((with_reducible refine (CH.out _).mono ?_); rintro e w9 ⟨rfl, rfl⟩)) | (go_at_call 46; refine CT.out.mono ?_; rintro e w5 ⟨rfl, hb5⟩))
          go_ret
          exact ⟨by rw [HF.out (by unfold sameIt; simp [G1.out])]; rfl, HBW.out⟩
        have G1 := Lib.hid (Classical.not_not.1 g)
        have z1 : (x.kind != y.kind) = false := by simp [G1.out]
        clear g
        by_cases g : ¬ x.name = y.name
        · have G2 := Lib.hid g
          have z2 : (x.name.toList == y.name.toList) = false := by simpa [toList_iff] using g
          clear g
          go_wp2_with (first | (go_at_call 17; ((with_reducible refine (CH.out _).mono ?_); rintro e w9 ⟨rfl, rfl⟩)) | (go_at_call 46; refine CT.out.mono ?_; rintro e w5 ⟨rfl, hb5⟩))
          go_ret
          exact ⟨by rw [HF.out (by unfold sameIt; simp [G2.out])]; rfl, HBW.out⟩
        have G2 := Lib.hid (Classical.not_not.1 g)
        have z2 : (x.name.toList == y.name.toList) = true := by simp [G2.out]
        clear g
        by_cases g : ¬ x.type = y.type
        · have G3 := Lib.hid g
          have z3 : (x.type != y.type) = true := by simp [g]
          clear g
          go_wp2_with (first | (go_at_call 17; ((with_reducible refine (CH.out _).mono ?_); rintro e w9 ⟨rfl, rfl⟩)) | (go_at_call 46; refine CT.out.mono ?_; rintro e w5 ⟨rfl, hb5⟩))
          go_ret
          exact ⟨by rw [HF.out (by unfold sameIt; simp [G3.out])]; rfl, HBW.out⟩
        have G3 := Lib.hid (Classical.not_not.1 g)
        have z3 : (x.type != y.type) = false := by simp [G3.out]
        clear g
        by_cases g : ¬ x.state = y.state
        · have G4 := Lib.hid g
          have z4 : (x.state.toList == y.state.toList) = false := by simpa [toList_iff] using g
          clear g
          go_wp2_with (first | (go_at_call 17; ((with_reducible refine (CH.out _).mono ?_); rintro e w9 ⟨rfl, rfl⟩)) | (go_at_call 46; refine CT.out.mono ?_; rintro e w5 ⟨rfl, hb5⟩))
          go_ret
          exact ⟨by rw [HF.out (by unfold sameIt; simp [G4.out])]; rfl, HBW.out⟩
        have G4 := Lib.hid (Classical.not_not.1 g)
        have z4 : (x.state.toList == y.state.toList) = true := by simp [G4.out]
        clear g
        by_cases g : ¬ x.next = y.next
        · have G5 := Lib.hid g
          have z5 : (x.next.toList == y.next.toList) = false := by simpa [toList_iff] using g
          clear g
          go_wp2_with (first | (go_at_call 17; ((with_reducible refine (CH.out _).mono ?_); rintro e w9 ⟨rfl, rfl⟩)) | (go_at_call 46; refine CT.out.mono ?_; rintro e w5 ⟨rfl, hb5⟩))
          go_ret
          exact ⟨by rw [HF.out (by unfold sameIt; simp [G5.out])]; rfl, HBW.out⟩
        have G5 := Lib.hid (Classical.not_not.1 g)
        have z5 : (x.next.toList == y.next.toList) = true := by simp [G5.out]
        clear g
        cases st with
        | false =>
          go_wp2_with (first
                      | (go_at_call 17; ((with_reducible refine (CH.out _).mono ?_); rintro e w9 ⟨rfl, rfl⟩))
                      | (go_at_call 46; refine CT.out.mono ?_; rintro e w5 ⟨rfl, hb5⟩; have HBN := Lib.hid hb5; replace P0 := cell_on hb5 P0; replace P1 := cell_on hb5 P1; replace Q0 := cell_on hb5 Q0; replace Q1 := cell_on hb5 Q1; replace s0 := cell_on hb5 s0; replace s1 := cell_on hb5 s1; replace s2 := cell_on hb5 s2; replace s3 := cell_on hb5 s3; replace s4 := cell_on hb5 s4; replace s5 := cell_on hb5 s5; replace s6 := cell_on hb5 s6; replace s7 := cell_on hb5 s7; replace t0 := cell_on hb5 t0; replace t1 := cell_on hb5 t1; replace t2 := cell_on hb5 t2; replace t3 := cell_on hb5 t3; replace t4 := cell_on hb5 t4; replace t5 := cell_on hb5 t5; replace t6 := cell_on hb5 t6; replace t7 := cell_on hb5 t7; clear hb5 CT)
                      | (go_at_call 11; refine (CSE.out _ HBN.out).mono ?_; rintro e w6 ⟨rfl, hb6⟩; replace HBN := Lib.hid (HBN.out.trans (hb6.mono HBN.out.size)); replace P0 := cell_on hb6 P0; replace P1 := cell_on hb6 P1; replace Q0 := cell_on hb6 Q0; replace Q1 := cell_on hb6 Q1; replace s0 := cell_on hb6 s0; replace s1 := cell_on hb6 s1; replace s2 := cell_on hb6 s2; replace s3 := cell_on hb6 s3; replace s4 := cell_on hb6 s4; replace s5 := cell_on hb6 s5; replace s6 := cell_on hb6 s6; replace s7 := cell_on hb6 s7; replace t0 := cell_on hb6 t0; replace t1 := cell_on hb6 t1; replace t2 := cell_on hb6 t2; replace t3 := cell_on hb6 t3; replace t4 := cell_on hb6 t4; replace t5 := cell_on hb6 t5; replace t6 := cell_on hb6 t6; replace t7 := cell_on hb6 t7; clear hb6 CSE)
                      | (go_at_call 11; refine (CSF.out _ HBN.out).mono ?_; rintro e w7 ⟨rfl, hb7⟩; replace HBN := Lib.hid (HBN.out.trans (hb7.mono HBN.out.size)); replace P0 := cell_on hb7 P0; replace P1 := cell_on hb7 P1; replace Q0 := cell_on hb7 Q0; replace Q1 := cell_on hb7 Q1; replace s0 := cell_on hb7 s0; replace s1 := cell_on hb7 s1; replace s2 := cell_on hb7 s2; replace s3 := cell_on hb7 s3; replace s4 := cell_on hb7 s4; replace s5 := cell_on hb7 s5; replace s6 := cell_on hb7 s6; replace s7 := cell_on hb7 s7; replace t0 := cell_on hb7 t0; replace t1 := cell_on hb7 t1; replace t2 := cell_on hb7 t2; replace t3 := cell_on hb7 t3; replace t4 := cell_on hb7 t4; replace t5 := cell_on hb7 t5; replace t6 := cell_on hb7 t6; replace t7 := cell_on hb7 t7; clear hb7 CSF))
          go_ret
          exact ⟨by rw [HF.out (by unfold sameIt; simp [of_decide_eq_false HST.out.symm])]; rfl, HBW.out.trans (HBN.out.mono HBW.out.size)⟩
        | true =>
          cases he with
          | true =>
            have hk2 : hasE y.kind = true := by rw [← G1.out, ← HHE.out]
            obtain ⟨u0, u1⟩ := mayI_e HMX.out (HHE.out.symm)
            obtain ⟨v0, v1⟩ := mayI_e HMY.out hk2
            obtain ⟨e1, he1⟩ := Int.eq_ofNat_of_zero_le u0
            obtain ⟨e2, he2⟩ := Int.eq_ofNat_of_zero_le v0
            have CSE := Lib.hid fun V (hV : Below wx.heap.size wx V) => IH.out e1 (by omega) e2 (by omega) V (HWX.out.trans (hV.mono HWX.out.size))
            obtain ⟨se, hse⟩ : ∃ s, s = sameL p.exprs q.exprs e1 e2 := ⟨_, rfl⟩
            rw [← hse] at CSE
            have HSE : Hid (sameL p.exprs q.exprs x.e.toNat y.e.toNat = se) := Lib.hid (by rw [he1, he2, hse]; rfl)
            rw [he1] at s3
            rw [he2] at t3
            clear hk2 u0 u1 v0 v1 he1 he2 hse
            cases se with
            | false =>
              go_wp2_with (first
                          | (go_at_call 17; ((with_reducible refine (CH.out _).mono ?_); rintro e w9 ⟨rfl, rfl⟩))
                          | (go_at_call 46; refine CT.out.mono ?_; rintro e w5 ⟨rfl, hb5⟩; have HBN := Lib.hid hb5; replace P0 := cell_on hb5 P0; replace P1 := cell_on hb5 P1; replace Q0 := cell_on hb5 Q0; replace Q1 := cell_on hb5 Q1; replace s0 := cell_on hb5 s0; replace s1 := cell_on hb5 s1; replace s2 := cell_on hb5 s2; replace s3 := cell_on hb5 s3; replace s4 := cell_on hb5 s4; replace s5 := cell_on hb5 s5; replace s6 := cell_on hb5 s6; replace s7 := cell_on hb5 s7; replace t0 := cell_on hb5 t0; replace t1 := cell_on hb5 t1; replace t2 := cell_on hb5 t2; replace t3 := cell_on hb5 t3; replace t4 := cell_on hb5 t4; replace t5 := cell_on hb5 t5; replace t6 := cell_on hb5 t6; replace t7 := cell_on hb5 t7; clear hb5 CT)
                          | (go_at_call 11; refine (CSE.out _ HBN.out).mono ?_; rintro e w6 ⟨rfl, hb6⟩; replace HBN := Lib.hid (HBN.out.trans (hb6.mono HBN.out.size)); replace P0 := cell_on hb6 P0; replace P1 := cell_on hb6 P1; replace Q0 := cell_on hb6 Q0; replace Q1 := cell_on hb6 Q1; replace s0 := cell_on hb6 s0; replace s1 := cell_on hb6 s1; replace s2 := cell_on hb6 s2; replace s3 := cell_on hb6 s3; replace s4 := cell_on hb6 s4; replace s5 := cell_on hb6 s5; replace s6 := cell_on hb6 s6; replace s7 := cell_on hb6 s7; replace t0 := cell_on hb6 t0; replace t1 := cell_on hb6 t1; replace t2 := cell_on hb6 t2; replace t3 := cell_on hb6 t3; replace t4 := cell_on hb6 t4; replace t5 := cell_on hb6 t5; replace t6 := cell_on hb6 t6; replace t7 := cell_on hb6 t7; clear hb6 CSE)
                          | (go_at_call 11; refine (CSF.out _ HBN.out).mono ?_; rintro e w7 ⟨rfl, hb7⟩; replace HBN := Lib.hid (HBN.out.trans (hb7.mono HBN.out.size)); replace P0 := cell_on hb7 P0; replace P1 := cell_on hb7 P1; replace Q0 := cell_on hb7 Q0; replace Q1 := cell_on hb7 Q1; replace s0 := cell_on hb7 s0; replace s1 := cell_on hb7 s1; replace s2 := cell_on hb7 s2; replace s3 := cell_on hb7 s3; replace s4 := cell_on hb7 s4; replace s5 := cell_on hb7 s5; replace s6 := cell_on hb7 s6; replace s7 := cell_on hb7 s7; replace t0 := cell_on hb7 t0; replace t1 := cell_on hb7 t1; replace t2 := cell_on hb7 t2; replace t3 := cell_on hb7 t3; replace t4 := cell_on hb7 t4; replace t5 := cell_on hb7 t5; replace t6 := cell_on hb7 t6; replace t7 := cell_on hb7 t7; clear hb7 CSF))
              go_ret
              exact ⟨by rw [HF.out (by unfold sameIt; simp [← HHE.out, HSE.out])]; rfl, HBW.out.trans (HBN.out.mono HBW.out.size)⟩
            | true =>
              cases hf with
              | true =>
                have hk2 : hasF y.kind = true := by rw [← G1.out, ← HHF.out]
                obtain ⟨u0, u1⟩ := mayI_f HMX.out (HHF.out.symm)
                obtain ⟨v0, v1⟩ := mayI_f HMY.out hk2
                obtain ⟨f1, he1⟩ := Int.eq_ofNat_of_zero_le u0
                obtain ⟨f2, he2⟩ := Int.eq_ofNat_of_zero_le v0
                have CSF := Lib.hid fun V (hV : Below wx.heap.size wx V) => IH.out f1 (by omega) f2 (by omega) V (HWX.out.trans (hV.mono HWX.out.size))
                obtain ⟨sf, hsf⟩ : ∃ s, s = sameL p.exprs q.exprs f1 f2 := ⟨_, rfl⟩
                rw [← hsf] at CSF
                have HSF : Hid (sameL p.exprs q.exprs x.f.toNat y.f.toNat = sf) := Lib.hid (by rw [he1, he2, hsf]; rfl)
                rw [he1] at s4
                rw [he2] at t4
                clear hk2 u0 u1 v0 v1 he1 he2 hsf
                cases sf with
                | false =>
                  go_wp2_with (first
                              | (go_at_call 17; ((with_reducible refine (CH.out _).mono ?_); rintro e w9 ⟨rfl, rfl⟩))
                              | (go_at_call 46; refine CT.out.mono ?_; rintro e w5 ⟨rfl, hb5⟩; have HBN := Lib.hid hb5; replace P0 := cell_on hb5 P0; replace P1 := cell_on hb5 P1; replace Q0 := cell_on hb5 Q0; replace Q1 := cell_on hb5 Q1; replace s0 := cell_on hb5 s0; replace s1 := cell_on hb5 s1; replace s2 := cell_on hb5 s2; replace s3 := cell_on hb5 s3; replace s4 := cell_on hb5 s4; replace s5 := cell_on hb5 s5; replace s6 := cell_on hb5 s6; replace s7 := cell_on hb5 s7; replace t0 := cell_on hb5 t0; replace t1 := cell_on hb5 t1; replace t2 := cell_on hb5 t2; replace t3 := cell_on hb5 t3; replace t4 := cell_on hb5 t4; replace t5 := cell_on hb5 t5; replace t6 := cell_on hb5 t6; replace t7 := cell_on hb5 t7; clear hb5 CT)
                              | (go_at_call 11; refine (CSE.out _ HBN.out).mono ?_; rintro e w6 ⟨rfl, hb6⟩; replace HBN := Lib.hid (HBN.out.trans (hb6.mono HBN.out.size)); replace P0 := cell_on hb6 P0; replace P1 := cell_on hb6 P1; replace Q0 := cell_on hb6 Q0; replace Q1 := cell_on hb6 Q1; replace s0 := cell_on hb6 s0; replace s1 := cell_on hb6 s1; replace s2 := cell_on hb6 s2; replace s3 := cell_on hb6 s3; replace s4 := cell_on hb6 s4; replace s5 := cell_on hb6 s5; replace s6 := cell_on hb6 s6; replace s7 := cell_on hb6 s7; replace t0 := cell_on hb6 t0; replace t1 := cell_on hb6 t1; replace t2 := cell_on hb6 t2; replace t3 := cell_on hb6 t3; replace t4 := cell_on hb6 t4; replace t5 := cell_on hb6 t5; replace t6 := cell_on hb6 t6; replace t7 := cell_on hb6 t7; clear hb6 CSE)
                              | (go_at_call 11; refine (CSF.out _ HBN.out).mono ?_; rintro e w7 ⟨rfl, hb7⟩; replace HBN := Lib.hid (HBN.out.trans (hb7.mono HBN.out.size)); replace P0 := cell_on hb7 P0; replace P1 := cell_on hb7 P1; replace Q0 := cell_on hb7 Q0; replace Q1 := cell_on hb7 Q1; replace s0 := cell_on hb7 s0; replace s1 := cell_on hb7 s1; replace s2 := cell_on hb7 s2; replace s3 := cell_on hb7 s3; replace s4 := cell_on hb7 s4; replace s5 := cell_on hb7 s5; replace s6 := cell_on hb7 s6; replace s7 := cell_on hb7 s7; replace t0 := cell_on hb7 t0; replace t1 := cell_on hb7 t1; replace t2 := cell_on hb7 t2; replace t3 := cell_on hb7 t3; replace t4 := cell_on hb7 t4; replace t5 := cell_on hb7 t5; replace t6 := cell_on hb7 t6; replace t7 := cell_on hb7 t7; clear hb7 CSF))
                  go_ret
                  exact ⟨by rw [HF.out (by unfold sameIt; simp [← HHF.out, HSF.out])]; rfl, HBW.out.trans (HBN.out.mono HBW.out.size)⟩
                | true =>
                  go_wp2_with (first
                              | (go_at_call 17; ((with_reducible refine (CH.out _).mono ?_); rintro e w9 ⟨rfl, rfl⟩))
                              | (go_at_call 46; refine CT.out.mono ?_; rintro e w5 ⟨rfl, hb5⟩; have HBN := Lib.hid hb5; replace P0 := cell_on hb5 P0; replace P1 := cell_on hb5 P1; replace Q0 := cell_on hb5 Q0; replace Q1 := cell_on hb5 Q1; replace s0 := cell_on hb5 s0; replace s1 := cell_on hb5 s1; replace s2 := cell_on hb5 s2; replace s3 := cell_on hb5 s3; replace s4 := cell_on hb5 s4; replace s5 := cell_on hb5 s5; replace s6 := cell_on hb5 s6; replace s7 := cell_on hb5 s7; replace t0 := cell_on hb5 t0; replace t1 := cell_on hb5 t1; replace t2 := cell_on hb5 t2; replace t3 := cell_on hb5 t3; replace t4 := cell_on hb5 t4; replace t5 := cell_on hb5 t5; replace t6 := cell_on hb5 t6; replace t7 := cell_on hb5 t7; clear hb5 CT)
                              | (go_at_call 11; refine (CSE.out _ HBN.out).mono ?_; rintro e w6 ⟨rfl, hb6⟩; replace HBN := Lib.hid (HBN.out.trans (hb6.mono HBN.out.size)); replace P0 := cell_on hb6 P0; replace P1 := cell_on hb6 P1; replace Q0 := cell_on hb6 Q0; replace Q1 := cell_on hb6 Q1; replace s0 := cell_on hb6 s0; replace s1 := cell_on hb6 s1; replace s2 := cell_on hb6 s2; replace s3 := cell_on hb6 s3; replace s4 := cell_on hb6 s4; replace s5 := cell_on hb6 s5; replace s6 := cell_on hb6 s6; replace s7 := cell_on hb6 s7; replace t0 := cell_on hb6 t0; replace t1 := cell_on hb6 t1; replace t2 := cell_on hb6 t2; replace t3 := cell_on hb6 t3; replace t4 := cell_on hb6 t4; replace t5 := cell_on hb6 t5; replace t6 := cell_on hb6 t6; replace t7 := cell_on hb6 t7; clear hb6 CSE)
                              | (go_at_call 11; refine (CSF.out _ HBN.out).mono ?_; rintro e w7 ⟨rfl, hb7⟩; replace HBN := Lib.hid (HBN.out.trans (hb7.mono HBN.out.size)); replace P0 := cell_on hb7 P0; replace P1 := cell_on hb7 P1; replace Q0 := cell_on hb7 Q0; replace Q1 := cell_on hb7 Q1; replace s0 := cell_on hb7 s0; replace s1 := cell_on hb7 s1; replace s2 := cell_on hb7 s2; replace s3 := cell_on hb7 s3; replace s4 := cell_on hb7 s4; replace s5 := cell_on hb7 s5; replace s6 := cell_on hb7 s6; replace s7 := cell_on hb7 s7; replace t0 := cell_on hb7 t0; replace t1 := cell_on hb7 t1; replace t2 := cell_on hb7 t2; replace t3 := cell_on hb7 t3; replace t4 := cell_on hb7 t4; replace t5 := cell_on hb7 t5; replace t6 := cell_on hb7 t6; replace t7 := cell_on hb7 t7; clear hb7 CSF))
                  refine ⟨⟨c + 1, by go_num, by omega, Lib.hid fun j hj x1 y1 hx1 hy1 => ?_, Lib.hid (HBR.out.trans (HBN.out.mono HBR.out.size))⟩, ?_⟩
                  · rcases Nat.lt_or_ge j c with h | h
                    · exact hP.out j h x1 y1 hx1 hy1
                    · obtain rfl : j = c := by omega
                      have hx2 := HXK.out.symm.trans hx1
                      have hy2 := HYK.out.symm.trans hy1
                      cases hx2; cases hy2
                      unfold sameIt
                      rw [G1.out, G2.out, G3.out, G4.out, G5.out, of_decide_eq_true HST.out.symm, ← G1.out, ← HHE.out, ← HHF.out, HSE.out, HSF.out]
                      simp
                  · simp [litLen]; omega
              | false =>
                go_wp2_with (first
                            | (go_at_call 17; ((with_reducible refine (CH.out _).mono ?_); rintro e w9 ⟨rfl, rfl⟩))
                            | (go_at_call 46; refine CT.out.mono ?_; rintro e w5 ⟨rfl, hb5⟩; have HBN := Lib.hid hb5; replace P0 := cell_on hb5 P0; replace P1 := cell_on hb5 P1; replace Q0 := cell_on hb5 Q0; replace Q1 := cell_on hb5 Q1; replace s0 := cell_on hb5 s0; replace s1 := cell_on hb5 s1; replace s2 := cell_on hb5 s2; replace s3 := cell_on hb5 s3; replace s4 := cell_on hb5 s4; replace s5 := cell_on hb5 s5; replace s6 := cell_on hb5 s6; replace s7 := cell_on hb5 s7; replace t0 := cell_on hb5 t0; replace t1 := cell_on hb5 t1; replace t2 := cell_on hb5 t2; replace t3 := cell_on hb5 t3; replace t4 := cell_on hb5 t4; replace t5 := cell_on hb5 t5; replace t6 := cell_on hb5 t6; replace t7 := cell_on hb5 t7; clear hb5 CT)
                            | (go_at_call 11; refine (CSE.out _ HBN.out).mono ?_; rintro e w6 ⟨rfl, hb6⟩; replace HBN := Lib.hid (HBN.out.trans (hb6.mono HBN.out.size)); replace P0 := cell_on hb6 P0; replace P1 := cell_on hb6 P1; replace Q0 := cell_on hb6 Q0; replace Q1 := cell_on hb6 Q1; replace s0 := cell_on hb6 s0; replace s1 := cell_on hb6 s1; replace s2 := cell_on hb6 s2; replace s3 := cell_on hb6 s3; replace s4 := cell_on hb6 s4; replace s5 := cell_on hb6 s5; replace s6 := cell_on hb6 s6; replace s7 := cell_on hb6 s7; replace t0 := cell_on hb6 t0; replace t1 := cell_on hb6 t1; replace t2 := cell_on hb6 t2; replace t3 := cell_on hb6 t3; replace t4 := cell_on hb6 t4; replace t5 := cell_on hb6 t5; replace t6 := cell_on hb6 t6; replace t7 := cell_on hb6 t7; clear hb6 CSE)
                            | (go_at_call 11; refine (CSF.out _ HBN.out).mono ?_; rintro e w7 ⟨rfl, hb7⟩; replace HBN := Lib.hid (HBN.out.trans (hb7.mono HBN.out.size)); replace P0 := cell_on hb7 P0; replace P1 := cell_on hb7 P1; replace Q0 := cell_on hb7 Q0; replace Q1 := cell_on hb7 Q1; replace s0 := cell_on hb7 s0; replace s1 := cell_on hb7 s1; replace s2 := cell_on hb7 s2; replace s3 := cell_on hb7 s3; replace s4 := cell_on hb7 s4; replace s5 := cell_on hb7 s5; replace s6 := cell_on hb7 s6; replace s7 := cell_on hb7 s7; replace t0 := cell_on hb7 t0; replace t1 := cell_on hb7 t1; replace t2 := cell_on hb7 t2; replace t3 := cell_on hb7 t3; replace t4 := cell_on hb7 t4; replace t5 := cell_on hb7 t5; replace t6 := cell_on hb7 t6; replace t7 := cell_on hb7 t7; clear hb7 CSF))
                refine ⟨⟨c + 1, by go_num, by omega, Lib.hid fun j hj x1 y1 hx1 hy1 => ?_, Lib.hid (HBR.out.trans (HBN.out.mono HBR.out.size))⟩, ?_⟩
                · rcases Nat.lt_or_ge j c with h | h
                  · exact hP.out j h x1 y1 hx1 hy1
                  · obtain rfl : j = c := by omega
                    have hx2 := HXK.out.symm.trans hx1
                    have hy2 := HYK.out.symm.trans hy1
                    cases hx2; cases hy2
                    unfold sameIt
                    rw [G1.out, G2.out, G3.out, G4.out, G5.out, of_decide_eq_true HST.out.symm, ← G1.out, ← HHE.out, ← HHF.out, HSE.out]
                    simp
                · simp [litLen]; omega
          | false =>
            cases hf with
            | true =>
              have hk2 : hasF y.kind = true := by rw [← G1.out, ← HHF.out]
              obtain ⟨u0, u1⟩ := mayI_f HMX.out (HHF.out.symm)
              obtain ⟨v0, v1⟩ := mayI_f HMY.out hk2
              obtain ⟨f1, he1⟩ := Int.eq_ofNat_of_zero_le u0
              obtain ⟨f2, he2⟩ := Int.eq_ofNat_of_zero_le v0
              have CSF := Lib.hid fun V (hV : Below wx.heap.size wx V) => IH.out f1 (by omega) f2 (by omega) V (HWX.out.trans (hV.mono HWX.out.size))
              obtain ⟨sf, hsf⟩ : ∃ s, s = sameL p.exprs q.exprs f1 f2 := ⟨_, rfl⟩
              rw [← hsf] at CSF
              have HSF : Hid (sameL p.exprs q.exprs x.f.toNat y.f.toNat = sf) := Lib.hid (by rw [he1, he2, hsf]; rfl)
              rw [he1] at s4
              rw [he2] at t4
              clear hk2 u0 u1 v0 v1 he1 he2 hsf
              cases sf with
              | false =>
                go_wp2_with (first
                            | (go_at_call 17; ((with_reducible refine (CH.out _).mono ?_); rintro e w9 ⟨rfl, rfl⟩))
                            | (go_at_call 46; refine CT.out.mono ?_; rintro e w5 ⟨rfl, hb5⟩; have HBN := Lib.hid hb5; replace P0 := cell_on hb5 P0; replace P1 := cell_on hb5 P1; replace Q0 := cell_on hb5 Q0; replace Q1 := cell_on hb5 Q1; replace s0 := cell_on hb5 s0; replace s1 := cell_on hb5 s1; replace s2 := cell_on hb5 s2; replace s3 := cell_on hb5 s3; replace s4 := cell_on hb5 s4; replace s5 := cell_on hb5 s5; replace s6 := cell_on hb5 s6; replace s7 := cell_on hb5 s7; replace t0 := cell_on hb5 t0; replace t1 := cell_on hb5 t1; replace t2 := cell_on hb5 t2; replace t3 := cell_on hb5 t3; replace t4 := cell_on hb5 t4; replace t5 := cell_on hb5 t5; replace t6 := cell_on hb5 t6; replace t7 := cell_on hb5 t7; clear hb5 CT)
                            | (go_at_call 11; refine (CSE.out _ HBN.out).mono ?_; rintro e w6 ⟨rfl, hb6⟩; replace HBN := Lib.hid (HBN.out.trans (hb6.mono HBN.out.size)); replace P0 := cell_on hb6 P0; replace P1 := cell_on hb6 P1; replace Q0 := cell_on hb6 Q0; replace Q1 := cell_on hb6 Q1; replace s0 := cell_on hb6 s0; replace s1 := cell_on hb6 s1; replace s2 := cell_on hb6 s2; replace s3 := cell_on hb6 s3; replace s4 := cell_on hb6 s4; replace s5 := cell_on hb6 s5; replace s6 := cell_on hb6 s6; replace s7 := cell_on hb6 s7; replace t0 := cell_on hb6 t0; replace t1 := cell_on hb6 t1; replace t2 := cell_on hb6 t2; replace t3 := cell_on hb6 t3; replace t4 := cell_on hb6 t4; replace t5 := cell_on hb6 t5; replace t6 := cell_on hb6 t6; replace t7 := cell_on hb6 t7; clear hb6 CSE)
                            | (go_at_call 11; refine (CSF.out _ HBN.out).mono ?_; rintro e w7 ⟨rfl, hb7⟩; replace HBN := Lib.hid (HBN.out.trans (hb7.mono HBN.out.size)); replace P0 := cell_on hb7 P0; replace P1 := cell_on hb7 P1; replace Q0 := cell_on hb7 Q0; replace Q1 := cell_on hb7 Q1; replace s0 := cell_on hb7 s0; replace s1 := cell_on hb7 s1; replace s2 := cell_on hb7 s2; replace s3 := cell_on hb7 s3; replace s4 := cell_on hb7 s4; replace s5 := cell_on hb7 s5; replace s6 := cell_on hb7 s6; replace s7 := cell_on hb7 s7; replace t0 := cell_on hb7 t0; replace t1 := cell_on hb7 t1; replace t2 := cell_on hb7 t2; replace t3 := cell_on hb7 t3; replace t4 := cell_on hb7 t4; replace t5 := cell_on hb7 t5; replace t6 := cell_on hb7 t6; replace t7 := cell_on hb7 t7; clear hb7 CSF))
                go_ret
                exact ⟨by rw [HF.out (by unfold sameIt; simp [← HHF.out, HSF.out])]; rfl, HBW.out.trans (HBN.out.mono HBW.out.size)⟩
              | true =>
                go_wp2_with (first
                            | (go_at_call 17; ((with_reducible refine (CH.out _).mono ?_); rintro e w9 ⟨rfl, rfl⟩))
                            | (go_at_call 46; refine CT.out.mono ?_; rintro e w5 ⟨rfl, hb5⟩; have HBN := Lib.hid hb5; replace P0 := cell_on hb5 P0; replace P1 := cell_on hb5 P1; replace Q0 := cell_on hb5 Q0; replace Q1 := cell_on hb5 Q1; replace s0 := cell_on hb5 s0; replace s1 := cell_on hb5 s1; replace s2 := cell_on hb5 s2; replace s3 := cell_on hb5 s3; replace s4 := cell_on hb5 s4; replace s5 := cell_on hb5 s5; replace s6 := cell_on hb5 s6; replace s7 := cell_on hb5 s7; replace t0 := cell_on hb5 t0; replace t1 := cell_on hb5 t1; replace t2 := cell_on hb5 t2; replace t3 := cell_on hb5 t3; replace t4 := cell_on hb5 t4; replace t5 := cell_on hb5 t5; replace t6 := cell_on hb5 t6; replace t7 := cell_on hb5 t7; clear hb5 CT)
                            | (go_at_call 11; refine (CSE.out _ HBN.out).mono ?_; rintro e w6 ⟨rfl, hb6⟩; replace HBN := Lib.hid (HBN.out.trans (hb6.mono HBN.out.size)); replace P0 := cell_on hb6 P0; replace P1 := cell_on hb6 P1; replace Q0 := cell_on hb6 Q0; replace Q1 := cell_on hb6 Q1; replace s0 := cell_on hb6 s0; replace s1 := cell_on hb6 s1; replace s2 := cell_on hb6 s2; replace s3 := cell_on hb6 s3; replace s4 := cell_on hb6 s4; replace s5 := cell_on hb6 s5; replace s6 := cell_on hb6 s6; replace s7 := cell_on hb6 s7; replace t0 := cell_on hb6 t0; replace t1 := cell_on hb6 t1; replace t2 := cell_on hb6 t2; replace t3 := cell_on hb6 t3; replace t4 := cell_on hb6 t4; replace t5 := cell_on hb6 t5; replace t6 := cell_on hb6 t6; replace t7 := cell_on hb6 t7; clear hb6 CSE)
                            | (go_at_call 11; refine (CSF.out _ HBN.out).mono ?_; rintro e w7 ⟨rfl, hb7⟩; replace HBN := Lib.hid (HBN.out.trans (hb7.mono HBN.out.size)); replace P0 := cell_on hb7 P0; replace P1 := cell_on hb7 P1; replace Q0 := cell_on hb7 Q0; replace Q1 := cell_on hb7 Q1; replace s0 := cell_on hb7 s0; replace s1 := cell_on hb7 s1; replace s2 := cell_on hb7 s2; replace s3 := cell_on hb7 s3; replace s4 := cell_on hb7 s4; replace s5 := cell_on hb7 s5; replace s6 := cell_on hb7 s6; replace s7 := cell_on hb7 s7; replace t0 := cell_on hb7 t0; replace t1 := cell_on hb7 t1; replace t2 := cell_on hb7 t2; replace t3 := cell_on hb7 t3; replace t4 := cell_on hb7 t4; replace t5 := cell_on hb7 t5; replace t6 := cell_on hb7 t6; replace t7 := cell_on hb7 t7; clear hb7 CSF))
                refine ⟨⟨c + 1, by go_num, by omega, Lib.hid fun j hj x1 y1 hx1 hy1 => ?_, Lib.hid (HBR.out.trans (HBN.out.mono HBR.out.size))⟩, ?_⟩
                · rcases Nat.lt_or_ge j c with h | h
                  · exact hP.out j h x1 y1 hx1 hy1
                  · obtain rfl : j = c := by omega
                    have hx2 := HXK.out.symm.trans hx1
                    have hy2 := HYK.out.symm.trans hy1
                    cases hx2; cases hy2
                    unfold sameIt
                    rw [G1.out, G2.out, G3.out, G4.out, G5.out, of_decide_eq_true HST.out.symm, ← G1.out, ← HHE.out, ← HHF.out, HSF.out]
                    simp
                · simp [litLen]; omega
            | false =>
              go_wp2_with (first
                          | (go_at_call 17; ((with_reducible refine (CH.out _).mono ?_); rintro e w9 ⟨rfl, rfl⟩))
                          | (go_at_call 46; refine CT.out.mono ?_; rintro e w5 ⟨rfl, hb5⟩; have HBN := Lib.hid hb5; replace P0 := cell_on hb5 P0; replace P1 := cell_on hb5 P1; replace Q0 := cell_on hb5 Q0; replace Q1 := cell_on hb5 Q1; replace s0 := cell_on hb5 s0; replace s1 := cell_on hb5 s1; replace s2 := cell_on hb5 s2; replace s3 := cell_on hb5 s3; replace s4 := cell_on hb5 s4; replace s5 := cell_on hb5 s5; replace s6 := cell_on hb5 s6; replace s7 := cell_on hb5 s7; replace t0 := cell_on hb5 t0; replace t1 := cell_on hb5 t1; replace t2 := cell_on hb5 t2; replace t3 := cell_on hb5 t3; replace t4 := cell_on hb5 t4; replace t5 := cell_on hb5 t5; replace t6 := cell_on hb5 t6; replace t7 := cell_on hb5 t7; clear hb5 CT)
                          | (go_at_call 11; refine (CSE.out _ HBN.out).mono ?_; rintro e w6 ⟨rfl, hb6⟩; replace HBN := Lib.hid (HBN.out.trans (hb6.mono HBN.out.size)); replace P0 := cell_on hb6 P0; replace P1 := cell_on hb6 P1; replace Q0 := cell_on hb6 Q0; replace Q1 := cell_on hb6 Q1; replace s0 := cell_on hb6 s0; replace s1 := cell_on hb6 s1; replace s2 := cell_on hb6 s2; replace s3 := cell_on hb6 s3; replace s4 := cell_on hb6 s4; replace s5 := cell_on hb6 s5; replace s6 := cell_on hb6 s6; replace s7 := cell_on hb6 s7; replace t0 := cell_on hb6 t0; replace t1 := cell_on hb6 t1; replace t2 := cell_on hb6 t2; replace t3 := cell_on hb6 t3; replace t4 := cell_on hb6 t4; replace t5 := cell_on hb6 t5; replace t6 := cell_on hb6 t6; replace t7 := cell_on hb6 t7; clear hb6 CSE)
                          | (go_at_call 11; refine (CSF.out _ HBN.out).mono ?_; rintro e w7 ⟨rfl, hb7⟩; replace HBN := Lib.hid (HBN.out.trans (hb7.mono HBN.out.size)); replace P0 := cell_on hb7 P0; replace P1 := cell_on hb7 P1; replace Q0 := cell_on hb7 Q0; replace Q1 := cell_on hb7 Q1; replace s0 := cell_on hb7 s0; replace s1 := cell_on hb7 s1; replace s2 := cell_on hb7 s2; replace s3 := cell_on hb7 s3; replace s4 := cell_on hb7 s4; replace s5 := cell_on hb7 s5; replace s6 := cell_on hb7 s6; replace s7 := cell_on hb7 s7; replace t0 := cell_on hb7 t0; replace t1 := cell_on hb7 t1; replace t2 := cell_on hb7 t2; replace t3 := cell_on hb7 t3; replace t4 := cell_on hb7 t4; replace t5 := cell_on hb7 t5; replace t6 := cell_on hb7 t6; replace t7 := cell_on hb7 t7; clear hb7 CSF))
              refine ⟨⟨c + 1, by go_num, by omega, Lib.hid fun j hj x1 y1 hx1 hy1 => ?_, Lib.hid (HBR.out.trans (HBN.out.mono HBR.out.size))⟩, ?_⟩
              · rcases Nat.lt_or_ge j c with h | h
                · exact hP.out j h x1 y1 hx1 hy1
                · obtain rfl : j = c := by omega
                  have hx2 := HXK.out.symm.trans hx1
                  have hy2 := HYK.out.symm.trans hy1
                  cases hx2; cases hy2
                  unfold sameIt
                  rw [G1.out, G2.out, G3.out, G4.out, G5.out, of_decide_eq_true HST.out.symm, ← G1.out, ← HHE.out, ← HHF.out]
                  simp
              · simp [litLen]; omega
    · obtain rfl : c = n := by omega
      have hno : ¬ (c : Int) < (c : Int) := by omega
      have HF : Hid (sameIts p.exprs q.exprs xs ys = true) := Lib.hid (by
        unfold sameIts
        rw [← HN.out, ← HM.out, Bool.and_eq_true, decide_eq_true_eq]
        refine ⟨G1.out, List.all_eq_true.2 fun z hz => ?_⟩
        obtain ⟨i, hi, he⟩ := List.mem_iff_getElem.1 hz
        rw [List.length_zip, ← HN.out, ← HM.out] at hi
        rw [← he, List.getElem_zip]
        exact hP.out i (by omega) _ _ (List.getElem?_eq_getElem _) (List.getElem?_eq_getElem _))
      go_wp2_with (fail)
      go_ret
      exact ⟨by rw [HF.out]; rfl, HB.out.trans (hWr.out.mono HB.out.size)⟩
end
section
open Go.RowKit Go.Shelf

attribute [local go_sem] Oper.semAt_some

/-- are two declarations the same -/
def sameDe (l m : List Ex) (x y : De) : Bool := decide (x.kind = y.kind) && decide (x.name = y.name) && decide (x.type = y.type) && samePas x.params y.params && sameIts l m x.items y.items && (!hasVal x.kind || sameL l m x.e.toNat y.e.toNat)
def sameDes (l m : List Ex) (xs ys : List De) : Bool := decide (xs.length = ys.length) && (xs.zip ys).all fun z => sameDe l m z.1 z.2
theorem sameDes_bad {l m : List Ex} {xs ys : List De} {c : Nat} {x y : De} (hx : xs[c]? = some x) (hy : ys[c]? = some y) (h : sameDe l m x y = false) : sameDes l m xs ys = false := by
  unfold sameDes
  have hz : ((xs.zip ys).all fun z => sameDe l m z.1 z.2) = false := by
    rw [List.all_eq_false]
    obtain ⟨l1, e1⟩ := List.getElem?_eq_some_iff.1 hx
    obtain ⟨l2, e2⟩ := List.getElem?_eq_some_iff.1 hy
    refine ⟨(x, y), List.mem_iff_getElem.2 ⟨c, by rw [List.length_zip]; omega, by rw [List.getElem_zip, e1, e2]⟩, fun h3 => by have h4 := h.symm.trans h3; cases h4⟩
  rw [hz, Bool.and_false]
theorem sameDes_good {l m : List Ex} {xs ys : List De} (h1 : xs.length = ys.length) (h : ∀ j, j < xs.length → ∀ x y, xs[j]? = some x → ys[j]? = some y → sameDe l m x y = true) : sameDes l m xs ys = true := by
  unfold sameDes
  rw [Bool.and_eq_true, decide_eq_true_eq]
  refine ⟨h1, List.all_eq_true.2 fun z hz => ?_⟩
  obtain ⟨i, hi, he⟩ := List.mem_iff_getElem.1 hz
  rw [List.length_zip] at hi
  rw [← he, List.getElem_zip]
  exact h i (by omega) _ _ (List.getElem?_eq_getElem _) (List.getElem?_eq_getElem _)
theorem mayP_decls' {p : Pr} (h : mayP p = true) : ∀ x ∈ p.decls, mayD p.exprs.length x = true := by
  unfold mayP at h
  rw [Bool.and_eq_true, List.all_eq_true, List.all_eq_true] at h
  exact h.2
theorem items_base {w wr : World} {b o : Nat} {x : De} {s : Value} (h : DeAt w b o x) (hs : wr.cell? ⟨b, o + 3, none⟩ = some s) (hb : Below w.heap.size w wr) : SlAt s x.items.length 9 fun b o i => ∀ y, x.items[i]? = some y → ItAt w b o y := by
  obtain ⟨s1, t1, _, _, _, h3, _, _, _, _, h4, _⟩ := h
  have e := (cell_on hb h3).symm.trans hs
  cases e
  exact h4
set_option maxHeartbeats 8000000 in
set_option maxRecDepth 100000 in
theorem refAll_core (p q : Pr) (o1 o2 oe1 oe2 : Option Addr) (m1 d1 b1 f1 cap1 n1 m2 d2 b2 f2 cap2 n2 e1 g1 e2 g2 : Nat) (ho1 : Hid (0 < n1 → oe1 = some ⟨b1, f1, none⟩)) (ho2 : Hid (0 < n2 → oe2 = some ⟨b2, f2, none⟩)) (hn1 : Hid (p.exprs.length = n1)) (hn2 : Hid (q.exprs.length = n2)) (nl1 : (n1 : Int) ≤ 300) (nl2 : (n2 : Int) ≤ 300)
    (hm1 : Hid (mayP p = true)) (hm2 : Hid (mayP q = true)) (hS1 : Hid (Small p)) (hS2 : Hid (Small q)) (w : World)
    (hc1 : Hid (∀ i, i < n1 → ∀ x, p.exprs[i]? = some x → ExAt w b1 (f1 + i * 9) x)) (hc2 : Hid (∀ i, i < n2 → ∀ x, q.exprs[i]? = some x → ExAt w b2 (f2 + i * 9) x))
    (M1 : Hid (p.decls.length = m1)) (M2 : Hid (q.decls.length = m2)) (ml1 : (m1 : Int) ≤ 60) (ml2 : (m2 : Int) ≤ 60) (E1 : Hid (0 < m1 → o1 = some ⟨e1, g1, none⟩)) (E2 : Hid (0 < m2 → o2 = some ⟨e2, g2, none⟩))
    (C1 : Hid (∀ i, i < m1 → ∀ x, p.decls[i]? = some x → DeAt w e1 (g1 + i * 7) x)) (C2 : Hid (∀ i, i < m2 → ∀ x, q.decls[i]? = some x → DeAt w e2 (g2 + i * 7) x)) :
    Calls Try.prog 10 #[.agg #[.slice o1 m1 d1, .slice oe1 n1 cap1], .agg #[.slice o2 m2 d2, .slice oe2 n2 cap2]] w fun r Y =>
      r = .returned (.bool (sameDes p.exprs q.exprs p.decls q.decls)) ∧ Below w.heap.size w Y := by
  obtain ⟨Wb, hWb⟩ : ∃ Wb, Wb = (w.alloc (.cells #[.slice o1 m1 d1, .slice oe1 n1 cap1] 25)).alloc (.cells #[.slice o2 m2 d2, .slice oe2 n2 cap2] 25) := ⟨_, rfl⟩
  have bb : Below w.heap.size w Wb := by rw [hWb]; exact ((Below.refl _ w).alloc (Nat.le_refl _) _).alloc (by rw [World.size_alloc]; omega) _
  have pb : Wb.heap[w.heap.size]? = some (.cells #[.slice o1 m1 d1, .slice oe1 n1 cap1] 25 (0, 0)) := by
    rw [hWb]; exact (two_alloc w _ _).1
  have qb : Wb.heap[w.heap.size + 1]? = some (.cells #[.slice o2 m2 d2, .slice oe2 n2 cap2] 25 (0, 0)) := by
    rw [hWb]; exact (two_alloc w _ _).2
  have PB := Lib.hid pb
  have QB := Lib.hid qb
  have HB := Lib.hid bb
  have B0 : Wb.cell? ⟨w.heap.size, 0, none⟩ = some (.slice o1 m1 d1) := by simp [World.cell?, pb]
  have B1 : Wb.cell? ⟨w.heap.size + 1, 0, none⟩ = some (.slice o2 m2 d2) := by simp [World.cell?, qb]
  clear pb qb bb
  go_enter Try.func10, Try.ntmps10
  by_cases g : ¬ m1 = m2
  · have G0 := Lib.hid g
    have z1 : ((m1 : Int) != (m2 : Int)) = true := by simp; omega
    have HF : Hid (sameDes p.exprs q.exprs p.decls q.decls = false) := Lib.hid (by
      have := G0.out
      rw [← M1.out, ← M2.out] at this
      unfold sameDes
      simp [this])
    clear g
    go_wp2_with (fail)
    rw [← hWb]
    clear hWb
    go_wp2_with (fail)
    go_ret
    exact ⟨by rw [HF.out]; rfl, HB.out⟩
  have G0 := Lib.hid (Classical.not_not.1 g)
  have z1 : ((m1 : Int) != (m2 : Int)) = false := by simp [G0.out]
  clear g
  go_wp2_with (fail)
  rw [← hWb]
  clear hWb
  go_wp2_with (fail)
  clear z1 B0 B1
  go_loopw [5] (fun i wr => ∃ (c : Nat), i = .int .i64 (c : Int) ∧ c ≤ m1 ∧ Hid (∀ j, j < c → ∀ x y, p.decls[j]? = some x → q.decls[j]? = some y → sameDe p.exprs q.exprs x y = true) ∧ Hid (Below Wb.heap.size Wb wr)) (fun i _ => m1 - litLen i)
  case atStart => exact ⟨0, rfl, Nat.zero_le _, Lib.hid fun j hj => by omega, Lib.hid (Below.refl _ _)⟩
  case round =>
    obtain ⟨c, rfl, hc, hP, hWr⟩ := hrel
    have D0 : wr.cell? ⟨w.heap.size, 0, none⟩ = some (.slice o1 m1 d1) := cell_on hWr.out (by simp [World.cell?, PB.out])
    have D1 : wr.cell? ⟨w.heap.size + 1, 0, none⟩ = some (.slice o2 m2 d2) := cell_on hWr.out (by simp [World.cell?, QB.out])
    rcases Nat.lt_or_ge c m1 with hlt | hge
    · have hl : (c : Int) < (m1 : Int) := by omega
      have hl2 : c < m2 := by rw [← G0.out]; exact hlt
      have ix1 := ix_des (cap := d1) E1.out hlt (by omega)
      have ix2 := ix_des (cap := d2) E2.out hl2 (by omega)
      unfold Ix at ix1 ix2
      obtain ⟨x, hxk⟩ : ∃ x, p.decls[c]? = some x := ⟨_, List.getElem?_eq_getElem (by have := M1.out; omega)⟩
      obtain ⟨y, hyk⟩ : ∃ y, q.decls[c]? = some y := ⟨_, List.getElem?_eq_getElem (by have := M2.out; omega)⟩
      have hwr := Lib.hid (HB.out.trans (hWr.out.mono HB.out.size))
      obtain ⟨_, _, i0, i1, i2, i3, i4, i5, i6, hpx, hsx, hokx⟩ := (C1.out c hlt x hxk).below hwr.out
      obtain ⟨_, _, j0, j1, j2, j3, j4, j5, j6, hpy, hsy, hoky⟩ := (C2.out c hl2 y hyk).below hwr.out
      have HPX := Lib.hid hpx
      have HPY := Lib.hid hpy
      have HSX := Lib.hid hsx
      have HSY := Lib.hid hsy
      obtain ⟨ox, capx, bpx, fpx, rfl, _, _, epx, cpx⟩ := hpx
      obtain ⟨oy, capy, bpy, fpy, rfl, _, _, epy, cpy⟩ := hpy
      obtain ⟨px, cbpx, bsx, fsx, rfl, _⟩ := hsx
      obtain ⟨py, cbpy, bsy, fsy, rfl, _⟩ := hsy
      have HXK := Lib.hid hxk
      have HYK := Lib.hid hyk
      have HOX := Lib.hid hokx
      have HOY := Lib.hid hoky
      have EPX := Lib.hid epx
      have EPY := Lib.hid epy
      have CPX := Lib.hid cpx
      have CPY := Lib.hid cpy
      clear hxk hyk hokx hoky epx epy cpx cpy
      go_upto_region 6 with (fail)
      go_cut [6, 7] from 23 to 32 (fun s t wx => ∃ X Y : Nat, s = .pointer (some ⟨X, 0, none⟩) ∧ t = .pointer (some ⟨Y, 0, none⟩) ∧ Hid (Below wr.heap.size wr wx) ∧
        Hid (wx.heap[X]? = some (.cells #[.int .i64 x.kind, .string x.name, .slice ox x.params.length capx, .slice px x.items.length cbpx, .int .i64 x.type, .int .i64 x.e, .int .i64 x.pos] 41 (0, 0))) ∧
        Hid (wx.heap[Y]? = some (.cells #[.int .i64 y.kind, .string y.name, .slice oy y.params.length capy, .slice py y.items.length cbpy, .int .i64 y.type, .int .i64 y.e, .int .i64 y.pos] 41 (0, 0))))
      case first =>
        go_region_held3 (fun w' => w'.cell? ⟨w.heap.size, 0, none⟩ = some (.slice o1 m1 d1) ∧ w'.cell? ⟨w.heap.size + 1, 0, none⟩ = some (.slice o2 m2 d2) ∧ w'.cell? ⟨e1, g1 + c * 7, none⟩ = some (.int .i64 x.kind) ∧ w'.cell? ⟨e1, g1 + c * 7 + 1, none⟩ = some (.string x.name) ∧ w'.cell? ⟨e1, g1 + c * 7 + 2, none⟩ = some (.slice ox x.params.length capx) ∧ w'.cell? ⟨e1, g1 + c * 7 + 3, none⟩ = some (.slice px x.items.length cbpx) ∧ w'.cell? ⟨e1, g1 + c * 7 + 4, none⟩ = some (.int .i64 x.type) ∧ w'.cell? ⟨e1, g1 + c * 7 + 5, none⟩ = some (.int .i64 x.e) ∧ w'.cell? ⟨e1, g1 + c * 7 + 6, none⟩ = some (.int .i64 x.pos) ∧ w'.cell? ⟨e2, g2 + c * 7, none⟩ = some (.int .i64 y.kind) ∧ w'.cell? ⟨e2, g2 + c * 7 + 1, none⟩ = some (.string y.name) ∧ w'.cell? ⟨e2, g2 + c * 7 + 2, none⟩ = some (.slice oy y.params.length capy) ∧ w'.cell? ⟨e2, g2 + c * 7 + 3, none⟩ = some (.slice py y.items.length cbpy) ∧ w'.cell? ⟨e2, g2 + c * 7 + 4, none⟩ = some (.int .i64 y.type) ∧ w'.cell? ⟨e2, g2 + c * 7 + 5, none⟩ = some (.int .i64 y.e) ∧ w'.cell? ⟨e2, g2 + c * 7 + 6, none⟩ = some (.int .i64 y.pos))
          (first | exact ⟨D0, D1, i0, i1, i2, i3, i4, i5, i6, j0, j1, j2, j3, j4, j5, j6⟩ | ((repeat' apply And.intro) <;> first | assumption | go_keep))
          (first | fail)
        all_goals (go_wp2_with fail; go_meet)
        all_goals exact ⟨_, _, rfl, rfl, Lib.hid ((fun h : Below wr.heap.size wr ((wr.alloc _).alloc _) => ⟨h.os, h.tape, h.output, h.size, h.block⟩) (((Below.refl _ wr).alloc (Nat.le_refl _) _).alloc (by rw [World.size_alloc]; omega) _)), Lib.hid (by first | exact (two_alloc _ _ _).1 | exact (two_alloc _ _ _).2), Lib.hid (by first | exact (two_alloc _ _ _).1 | exact (two_alloc _ _ _).2)⟩
      case rest =>
        obtain ⟨X, Y, rfl, rfl, hbx, hX, hY⟩ := hcut
        obtain ⟨wx, hwx⟩ : ∃ wx, wx = wc := ⟨_, rfl⟩
        rw [← hwx] at hbx hX hY ⊢
        have P0 : wx.cell? ⟨w.heap.size, 0, none⟩ = some (.slice o1 m1 d1) := cell_on hbx.out D0
        have P1 : wx.cell? ⟨w.heap.size, 1, none⟩ = some (.slice oe1 n1 cap1) := cell_on hbx.out (cell_on hWr.out (by simp [World.cell?, PB.out]))
        have Q0 : wx.cell? ⟨w.heap.size + 1, 0, none⟩ = some (.slice o2 m2 d2) := cell_on hbx.out D1
        have Q1 : wx.cell? ⟨w.heap.size + 1, 1, none⟩ = some (.slice oe2 n2 cap2) := cell_on hbx.out (cell_on hWr.out (by simp [World.cell?, QB.out]))
        have hxc : ∀ j u, (#[.int .i64 x.kind, .string x.name, .slice ox x.params.length capx, .slice px x.items.length cbpx, .int .i64 x.type, .int .i64 x.e, .int .i64 x.pos] : Array Value)[j]? = some u → wx.cell? ⟨X, j, none⟩ = some u := fun j u hu => by simp only [World.cell?, hX.out]; exact hu
        have hyc : ∀ j u, (#[.int .i64 y.kind, .string y.name, .slice oy y.params.length capy, .slice py y.items.length cbpy, .int .i64 y.type, .int .i64 y.e, .int .i64 y.pos] : Array Value)[j]? = some u → wx.cell? ⟨Y, j, none⟩ = some u := fun j u hu => by simp only [World.cell?, hY.out]; exact hu
        have HWX := Lib.hid (hwr.out.trans (hbx.out.mono hwr.out.size))
        have HBW := Lib.hid ((HB.out.trans (hWr.out.mono HB.out.size)).trans (hbx.out.mono (Nat.le_trans HB.out.size hWr.out.size)))
        have HBR := Lib.hid (hWr.out.trans (hbx.out.mono hWr.out.size))
        have s0 : wx.cell? ⟨X, 0, none⟩ = some (.int .i64 x.kind) := hxc 0 _ rfl
        have s1 : wx.cell? ⟨X, 1, none⟩ = some (.string x.name) := hxc 1 _ rfl
        have s2 : wx.cell? ⟨X, 2, none⟩ = some (.slice ox x.params.length capx) := hxc 2 _ rfl
        have s3 : wx.cell? ⟨X, 3, none⟩ = some (.slice px x.items.length cbpx) := hxc 3 _ rfl
        have s4 : wx.cell? ⟨X, 4, none⟩ = some (.int .i64 x.type) := hxc 4 _ rfl
        have s5 : wx.cell? ⟨X, 5, none⟩ = some (.int .i64 x.e) := hxc 5 _ rfl
        have s6 : wx.cell? ⟨X, 6, none⟩ = some (.int .i64 x.pos) := hxc 6 _ rfl
        have t0 : wx.cell? ⟨Y, 0, none⟩ = some (.int .i64 y.kind) := hyc 0 _ rfl
        have t1 : wx.cell? ⟨Y, 1, none⟩ = some (.string y.name) := hyc 1 _ rfl
        have t2 : wx.cell? ⟨Y, 2, none⟩ = some (.slice oy y.params.length capy) := hyc 2 _ rfl
        have t3 : wx.cell? ⟨Y, 3, none⟩ = some (.slice py y.items.length cbpy) := hyc 3 _ rfl
        have t4 : wx.cell? ⟨Y, 4, none⟩ = some (.int .i64 y.type) := hyc 4 _ rfl
        have t5 : wx.cell? ⟨Y, 5, none⟩ = some (.int .i64 y.e) := hyc 5 _ rfl
        have t6 : wx.cell? ⟨Y, 6, none⟩ = some (.int .i64 y.pos) := hyc 6 _ rfl
        have HMX := Lib.hid (mayP_decls' hm1.out x (List.mem_of_getElem? HXK.out))
        have HMY := Lib.hid (mayP_decls' hm2.out y (List.mem_of_getElem? HYK.out))
        have CI := Lib.hid (refItems_gen p q o1 o2 oe1 oe2 m1 d1 b1 f1 cap1 n1 m2 d2 b2 f2 cap2 n2 ho1 ho2 hn1 hn2 nl1 nl2 hm1 hm2 hS1 hS2 w hc1 hc2 x.items y.items (.slice px x.items.length cbpx) (.slice py y.items.length cbpy)
          (Lib.hid (items_base (C1.out c hlt x HXK.out) i3 hwr.out)) (Lib.hid (items_base (C2.out c hl2 y HYK.out) j3 hwr.out)) (Lib.hid HOX.out.items) (Lib.hid HOY.out.items) (Lib.hid (by rw [← hn1.out]; exact mayD_items HMX.out)) (Lib.hid (by rw [← hn2.out]; exact mayD_items HMY.out)) wx HWX)
        obtain ⟨vi, hvi⟩ : ∃ v, v = sameIts p.exprs q.exprs x.items y.items := ⟨_, rfl⟩
        rw [← hvi] at CI
        have HVI := Lib.hid hvi
        clear hwx hxc hyc ix1 ix2 i0 j0 i1 j1 i2 j2 i3 j3 i4 j4 i5 j5 i6 j6 hX hY D0 D1 hvi
        --GUARDS
        by_cases g : ¬ x.kind = y.kind
        · have HF : Hid (sameDes p.exprs q.exprs p.decls q.decls = false) := Lib.hid (sameDes_bad HXK.out HYK.out (by unfold sameDe; simp [g]))
          have zz : (x.kind != y.kind) = true := by simp [g]
          clear g
          go_wp2_with (fail)
          go_ret
          exact ⟨by rw [HF.out]; rfl, HBW.out⟩
        have G1 := Lib.hid (Classical.not_not.1 g)
        have z1 : (x.kind != y.kind) = false := by simp [G1.out]
        clear g
        by_cases g : ¬ x.name = y.name
        · have HF : Hid (sameDes p.exprs q.exprs p.decls q.decls = false) := Lib.hid (sameDes_bad HXK.out HYK.out (by unfold sameDe; simp [g]))
          have zz : (x.name.toList == y.name.toList) = false := by simpa [toList_iff] using g
          clear g
          go_wp2_with (fail)
          go_ret
          exact ⟨by rw [HF.out]; rfl, HBW.out⟩
        have G2 := Lib.hid (Classical.not_not.1 g)
        have z2 : (x.name.toList == y.name.toList) = true := by simp [G2.out]
        clear g
        by_cases g : ¬ x.type = y.type
        · have HF : Hid (sameDes p.exprs q.exprs p.decls q.decls = false) := Lib.hid (sameDes_bad HXK.out HYK.out (by unfold sameDe; simp [g]))
          have zz : (x.type != y.type) = true := by simp [g]
          clear g
          go_wp2_with (fail)
          go_ret
          exact ⟨by rw [HF.out]; rfl, HBW.out⟩
        have G3 := Lib.hid (Classical.not_not.1 g)
        have z3 : (x.type != y.type) = false := by simp [G3.out]
        clear g
        by_cases g : ¬ x.params.length = y.params.length
        · have HF : Hid (sameDes p.exprs q.exprs p.decls q.decls = false) := Lib.hid (sameDes_bad HXK.out HYK.out (by unfold sameDe samePas; simp [g]))
          have zz : ((x.params.length : Int) != (y.params.length : Int)) = true := by simp; omega
          clear g
          go_wp2_with (fail)
          go_ret
          exact ⟨by rw [HF.out]; rfl, HBW.out⟩
        have G4 := Lib.hid (Classical.not_not.1 g)
        have z4 : ((x.params.length : Int) != (y.params.length : Int)) = false := by simp [G4.out]
        clear g
        cases vi with
        | false =>
          have HF : Hid (sameDes p.exprs q.exprs p.decls q.decls = false) := Lib.hid (sameDes_bad HXK.out HYK.out (by unfold sameDe; rw [← HVI.out]; simp))
          go_wp2_with (go_at_call 32; ((with_reducible refine CI.out.mono ?_)); rintro e w5 ⟨rfl, hb5⟩; have HB5 := Lib.hid hb5; replace P0 := cell_on hb5 P0; replace P1 := cell_on hb5 P1; replace Q0 := cell_on hb5 Q0; replace Q1 := cell_on hb5 Q1; replace s0 := cell_on hb5 s0; replace t0 := cell_on hb5 t0; replace s1 := cell_on hb5 s1; replace t1 := cell_on hb5 t1; replace s2 := cell_on hb5 s2; replace t2 := cell_on hb5 t2; replace s3 := cell_on hb5 s3; replace t3 := cell_on hb5 t3; replace s4 := cell_on hb5 s4; replace t4 := cell_on hb5 t4; replace s5 := cell_on hb5 s5; replace t5 := cell_on hb5 t5; replace s6 := cell_on hb5 s6; replace t6 := cell_on hb5 t6; clear hb5 CI)
          go_ret
          exact ⟨by rw [HF.out]; rfl, HBW.out.trans (HB5.out.mono HBW.out.size)⟩
        | true =>
        go_wp2_with (go_at_call 32; ((with_reducible refine CI.out.mono ?_)); rintro e w5 ⟨rfl, hb5⟩; have HB5 := Lib.hid hb5; replace P0 := cell_on hb5 P0; replace P1 := cell_on hb5 P1; replace Q0 := cell_on hb5 Q0; replace Q1 := cell_on hb5 Q1; replace s0 := cell_on hb5 s0; replace t0 := cell_on hb5 t0; replace s1 := cell_on hb5 s1; replace t1 := cell_on hb5 t1; replace s2 := cell_on hb5 s2; replace t2 := cell_on hb5 t2; replace s3 := cell_on hb5 s3; replace t3 := cell_on hb5 t3; replace s4 := cell_on hb5 s4; replace t4 := cell_on hb5 t4; replace s5 := cell_on hb5 s5; replace t5 := cell_on hb5 t5; replace s6 := cell_on hb5 s6; replace t6 := cell_on hb5 t6; clear hb5 CI)
        obtain ⟨nx, hnx⟩ : ∃ nx, nx = x.params.length := ⟨_, rfl⟩
        have hny : y.params.length = nx := by rw [hnx]; exact G4.out.symm
        have hnxl : (nx : Int) ≤ 140737488351232 := by have := HOX.out.params; unfold reachN at this; omega
        rw [← hnx] at s2
        rw [hny] at t2
        have HNX := Lib.hid hnx
        have HNY := Lib.hid hny
        clear z1 z2 z3 z4 hnx hny
        have HWR5 := Lib.hid (hbx.out.trans (HB5.out.mono hbx.out.size))
        go_loopw [8] (fun i wp => ∃ (k : Nat), i = .int .i64 (k : Int) ∧ k ≤ nx ∧ Hid (∀ j, j < k → ∀ a b, x.params[j]? = some a → y.params[j]? = some b → samePa a b = true) ∧ Hid (Below w5.heap.size w5 wp)) (fun i _ => nx - litLen i)
        case atStart => exact ⟨0, rfl, Nat.zero_le _, Lib.hid fun j hj => by omega, Lib.hid (Below.refl _ _)⟩
        case round =>
          obtain ⟨k, rfl, hk, hPP, hWp⟩ := hrel
          replace P0 := cell_on hWp.out P0; replace P1 := cell_on hWp.out P1; replace Q0 := cell_on hWp.out Q0; replace Q1 := cell_on hWp.out Q1; replace s0 := cell_on hWp.out s0; replace t0 := cell_on hWp.out t0; replace s1 := cell_on hWp.out s1; replace t1 := cell_on hWp.out t1; replace s2 := cell_on hWp.out s2; replace t2 := cell_on hWp.out t2; replace s3 := cell_on hWp.out s3; replace t3 := cell_on hWp.out t3; replace s4 := cell_on hWp.out s4; replace t4 := cell_on hWp.out t4; replace s5 := cell_on hWp.out s5; replace t5 := cell_on hWp.out t5; replace s6 := cell_on hWp.out s6; replace t6 := cell_on hWp.out t6
          --INNER
          have HBP := Lib.hid ((HBW.out.trans (HB5.out.mono HBW.out.size)).trans (hWp.out.mono (Nat.le_trans HBW.out.size HB5.out.size)))
          have HWWP := Lib.hid ((HWX.out.trans (HB5.out.mono HWX.out.size)).trans (hWp.out.mono (Nat.le_trans HWX.out.size HB5.out.size)))
          have HBRP := Lib.hid ((HBR.out.trans (HB5.out.mono HBR.out.size)).trans (hWp.out.mono (Nat.le_trans HBR.out.size HB5.out.size)))
          rcases Nat.lt_or_ge k nx with hlk | hgk
          · have hl3 : (k : Int) < (nx : Int) := by omega
            obtain ⟨pa, hpa⟩ : ∃ pa, x.params[k]? = some pa := ⟨_, List.getElem?_eq_getElem (by rw [← HNX.out]; exact hlk)⟩
            obtain ⟨pb', hpb⟩ : ∃ pb', y.params[k]? = some pb' := ⟨_, List.getElem?_eq_getElem (by rw [HNY.out]; exact hlk)⟩
            obtain ⟨pb, rfl⟩ : ∃ pb, pb = pb' := ⟨_, rfl⟩
            have hrp := HWR5.out.trans (hWp.out.mono HWR5.out.size)
            obtain ⟨u1, u2, u3, u4'⟩ := (CPX.out k (by rw [← HNX.out]; exact hlk) pa hpa).below hrp
            obtain ⟨v1, v2, v3, v4'⟩ := (CPY.out k (by rw [HNY.out]; exact hlk) pb hpb).below hrp
            have iy1 := ix_pas (cap := capx) (n := nx) (by rw [HNX.out]; exact EPX.out) hlk (by omega)
            have iy2 := ix_pas (cap := capy) (n := nx) (by rw [← HNY.out]; exact EPY.out) hlk (by omega)
            unfold Ix at iy1 iy2
            have HPA := Lib.hid hpa
            have HPB := Lib.hid hpb
            have HBD : Hid (Below w.heap.size w wr.drew) := Lib.hid (HBP.out.trans ⟨rfl, rfl, rfl, Nat.le_refl _, fun _ _ => rfl⟩)
            have HBD5 : Hid (Below w5.heap.size w5 wr.drew) := Lib.hid (hWp.out.trans ⟨rfl, rfl, rfl, Nat.le_refl _, fun _ _ => rfl⟩)
            clear hpa hpb u3 u4' v3 v4' hrp
            by_cases g : ¬ pa.name = pb.name
            · have HF : Hid (sameDes p.exprs q.exprs p.decls q.decls = false) := Lib.hid (sameDes_bad HXK.out HYK.out (by unfold sameDe; rw [samePas_bad HPA.out HPB.out (by unfold samePa; simp [g])]; simp))
              have z2 : (pa.name.toList == pb.name.toList) = false := by simpa [toList_iff] using g
              have z22 : ¬ pa.name.toList = pb.name.toList := by simpa [toList_iff] using g
              have z23 : ¬ pa.name = pb.name := g
              clear g
              go_wp2_with (fail)
              go_region_held3 (fun w' => w'.cell? ⟨X, 2, none⟩ = some (.slice ox nx capx) ∧ w'.cell? ⟨Y, 2, none⟩ = some (.slice oy nx capy) ∧ w'.cell? ⟨bpx, fpx + k * 2, none⟩ = some (.string pa.name) ∧ w'.cell? ⟨bpx, fpx + k * 2 + 1, none⟩ = some (.int .i64 pa.type) ∧ w'.cell? ⟨bpy, fpy + k * 2, none⟩ = some (.string pb.name) ∧ w'.cell? ⟨bpy, fpy + k * 2 + 1, none⟩ = some (.int .i64 pb.type))
                (first | exact ⟨s2, t2, u1, u2, v1, v2⟩)
                (first | fail)
              all_goals (go_wp2_with fail)
              go_ret
              exact ⟨by rw [HF.out]; rfl, HBD.out⟩
            have K2 := Lib.hid (Classical.not_not.1 g)
            have z2 : (pa.name.toList == pb.name.toList) = true := by simp [K2.out]
            have z22 : pa.name.toList = pb.name.toList := by rw [K2.out]
            clear g
            by_cases g : ¬ pa.type = pb.type
            · have HF : Hid (sameDes p.exprs q.exprs p.decls q.decls = false) := Lib.hid (sameDes_bad HXK.out HYK.out (by unfold sameDe; rw [samePas_bad HPA.out HPB.out (by unfold samePa; simp [g])]; simp))
              have z3 : (pa.type == pb.type) = false := by simpa using g
              have z33 : ¬ pa.type = pb.type := g
              clear g
              go_wp2_with (fail)
              go_region_held3 (fun w' => w'.cell? ⟨X, 2, none⟩ = some (.slice ox nx capx) ∧ w'.cell? ⟨Y, 2, none⟩ = some (.slice oy nx capy) ∧ w'.cell? ⟨bpx, fpx + k * 2, none⟩ = some (.string pa.name) ∧ w'.cell? ⟨bpx, fpx + k * 2 + 1, none⟩ = some (.int .i64 pa.type) ∧ w'.cell? ⟨bpy, fpy + k * 2, none⟩ = some (.string pb.name) ∧ w'.cell? ⟨bpy, fpy + k * 2 + 1, none⟩ = some (.int .i64 pb.type))
                (first | exact ⟨s2, t2, u1, u2, v1, v2⟩)
                (first | fail)
              all_goals (go_wp2_with fail)
              go_ret
              exact ⟨by rw [HF.out]; rfl, HBD.out⟩
            have K3 := Lib.hid (Classical.not_not.1 g)
            have z3 : (pa.type == pb.type) = true := by simp [K3.out]
            clear g
            go_wp2_with (fail)
            go_region_held3 (fun w' => w'.cell? ⟨X, 2, none⟩ = some (.slice ox nx capx) ∧ w'.cell? ⟨Y, 2, none⟩ = some (.slice oy nx capy) ∧ w'.cell? ⟨bpx, fpx + k * 2, none⟩ = some (.string pa.name) ∧ w'.cell? ⟨bpx, fpx + k * 2 + 1, none⟩ = some (.int .i64 pa.type) ∧ w'.cell? ⟨bpy, fpy + k * 2, none⟩ = some (.string pb.name) ∧ w'.cell? ⟨bpy, fpy + k * 2 + 1, none⟩ = some (.int .i64 pb.type))
              (first | exact ⟨s2, t2, u1, u2, v1, v2⟩)
              (first | fail)
            all_goals (go_wp2_with fail)
            refine ⟨⟨k + 1, by go_num, by omega, Lib.hid fun j hj a1 b1' h1 h2 => ?_, HBD5⟩, ?_⟩
            · rcases Nat.lt_or_ge j k with h | h
              · exact hPP.out j h a1 b1' h1 h2
              · obtain rfl : j = k := by omega
                have a1' := HPA.out.symm.trans h1
                have a2' := HPB.out.symm.trans h2
                cases a1'; cases a2'
                unfold samePa
                rw [K2.out, K3.out]; simp
            · simp [litLen]; omega
          · obtain rfl : k = nx := by omega
            have hno2 : ¬ (k : Int) < (k : Int) := by omega
            have HPS : Hid (samePas x.params y.params = true) := Lib.hid (samePas_good (by rw [HNY.out, ← HNX.out]) fun j hj a b h1 h2 => hPP.out j (by rw [HNX.out]; exact hj) a b h1 h2)
            by_cases hkk : x.kind = 1
            · have y1 : (x.kind == 1) = true := by simp [hkk]
              obtain ⟨a0, a1⟩ := mayD_e HMX.out (by unfold hasVal; simp [hkk])
              obtain ⟨b0, b1'⟩ := mayD_e HMY.out (by rw [← G1.out]; unfold hasVal; simp [hkk])
              obtain ⟨na, hna⟩ := Int.eq_ofNat_of_zero_le a0
              obtain ⟨nb, hnb⟩ := Int.eq_ofNat_of_zero_le b0
              have CS := Lib.hid (refSame_gen p q o1 o2 oe1 oe2 m1 d1 b1 f1 cap1 n1 m2 d2 b2 f2 cap2 n2 ho1 ho2 hn1 hn2 nl1 nl2 hm1 hm2 hS1 hS2 w hc1 hc2 na (by rw [← hn1.out]; omega) nb (by rw [← hn2.out]; omega) wr HWWP.out)
              obtain ⟨ve, hve⟩ : ∃ v, v = sameL p.exprs q.exprs na nb := ⟨_, rfl⟩
              rw [← hve] at CS
              have HVV : Hid (sameL p.exprs q.exprs x.e.toNat y.e.toNat = ve) := Lib.hid (by rw [hna, hnb, hve]; rfl)
              have HVAL : Hid (hasVal x.kind = true) := Lib.hid (by unfold hasVal; simp [hkk])
              rw [hna] at s5
              rw [hnb] at t5
              clear a0 a1 b0 b1' hna hnb hve hkk
              cases ve with
              | false =>
                have HF : Hid (sameDes p.exprs q.exprs p.decls q.decls = false) := Lib.hid (sameDes_bad HXK.out HYK.out (by unfold sameDe; rw [HVAL.out, HVV.out]; simp))
                go_wp2_with (go_at_call 11; ((with_reducible refine CS.out.mono ?_)); rintro e w7 ⟨rfl, hb7⟩; have HB7 := Lib.hid hb7; clear hb7 CS)
                go_ret
                exact ⟨by rw [HF.out]; rfl, HBP.out.trans (HB7.out.mono HBP.out.size)⟩
              | true =>
                have HVE : Hid ((!hasVal x.kind || sameL p.exprs q.exprs x.e.toNat y.e.toNat) = true) := Lib.hid (by rw [HVV.out]; simp)
                go_wp2_with (go_at_call 11; ((with_reducible refine CS.out.mono ?_)); rintro e w7 ⟨rfl, hb7⟩; have HB7 := Lib.hid hb7; clear hb7 CS)
                refine ⟨⟨c + 1, by go_num, by omega, Lib.hid fun j hj x1 y1 h1 h2 => ?_, Lib.hid (HBRP.out.trans (HB7.out.mono HBRP.out.size))⟩, ?_⟩
                · rcases Nat.lt_or_ge j c with h | h
                  · exact hP.out j h x1 y1 h1 h2
                  · obtain rfl : j = c := by omega
                    have a1 := HXK.out.symm.trans h1
                    have a2 := HYK.out.symm.trans h2
                    cases a1; cases a2
                    unfold sameDe
                    rw [G1.out, G2.out, G3.out, HPS.out, ← HVI.out]
                    rw [← G1.out]
                    simpa using HVE.out
                · simp [litLen]; omega
            have y1 : (x.kind == 1) = false := by simpa using hkk
            have HK1 := Lib.hid hkk
            clear hkk
            by_cases hkk : x.kind = 2
            · have y2 : (x.kind == 2) = true := by simp [hkk]
              obtain ⟨a0, a1⟩ := mayD_e HMX.out (by unfold hasVal; simp [hkk])
              obtain ⟨b0, b1'⟩ := mayD_e HMY.out (by rw [← G1.out]; unfold hasVal; simp [hkk])
              obtain ⟨na, hna⟩ := Int.eq_ofNat_of_zero_le a0
              obtain ⟨nb, hnb⟩ := Int.eq_ofNat_of_zero_le b0
              have CS := Lib.hid (refSame_gen p q o1 o2 oe1 oe2 m1 d1 b1 f1 cap1 n1 m2 d2 b2 f2 cap2 n2 ho1 ho2 hn1 hn2 nl1 nl2 hm1 hm2 hS1 hS2 w hc1 hc2 na (by rw [← hn1.out]; omega) nb (by rw [← hn2.out]; omega) wr HWWP.out)
              obtain ⟨ve, hve⟩ : ∃ v, v = sameL p.exprs q.exprs na nb := ⟨_, rfl⟩
              rw [← hve] at CS
              have HVV : Hid (sameL p.exprs q.exprs x.e.toNat y.e.toNat = ve) := Lib.hid (by rw [hna, hnb, hve]; rfl)
              have HVAL : Hid (hasVal x.kind = true) := Lib.hid (by unfold hasVal; simp [hkk])
              rw [hna] at s5
              rw [hnb] at t5
              clear a0 a1 b0 b1' hna hnb hve hkk
              cases ve with
              | false =>
                have HF : Hid (sameDes p.exprs q.exprs p.decls q.decls = false) := Lib.hid (sameDes_bad HXK.out HYK.out (by unfold sameDe; rw [HVAL.out, HVV.out]; simp))
                go_wp2_with (go_at_call 11; ((with_reducible refine CS.out.mono ?_)); rintro e w7 ⟨rfl, hb7⟩; have HB7 := Lib.hid hb7; clear hb7 CS)
                go_ret
                exact ⟨by rw [HF.out]; rfl, HBP.out.trans (HB7.out.mono HBP.out.size)⟩
              | true =>
                have HVE : Hid ((!hasVal x.kind || sameL p.exprs q.exprs x.e.toNat y.e.toNat) = true) := Lib.hid (by rw [HVV.out]; simp)
                go_wp2_with (go_at_call 11; ((with_reducible refine CS.out.mono ?_)); rintro e w7 ⟨rfl, hb7⟩; have HB7 := Lib.hid hb7; clear hb7 CS)
                refine ⟨⟨c + 1, by go_num, by omega, Lib.hid fun j hj x1 y1 h1 h2 => ?_, Lib.hid (HBRP.out.trans (HB7.out.mono HBRP.out.size))⟩, ?_⟩
                · rcases Nat.lt_or_ge j c with h | h
                  · exact hP.out j h x1 y1 h1 h2
                  · obtain rfl : j = c := by omega
                    have a1 := HXK.out.symm.trans h1
                    have a2 := HYK.out.symm.trans h2
                    cases a1; cases a2
                    unfold sameDe
                    rw [G1.out, G2.out, G3.out, HPS.out, ← HVI.out]
                    rw [← G1.out]
                    simpa using HVE.out
                · simp [litLen]; omega
            have y2 : (x.kind == 2) = false := by simpa using hkk
            have HVE : Hid ((!hasVal x.kind || sameL p.exprs q.exprs x.e.toNat y.e.toNat) = true) := Lib.hid (by unfold hasVal; simp [HK1.out, hkk])
            clear hkk
            go_wp2_with (fail)
            refine ⟨⟨c + 1, by go_num, by omega, Lib.hid fun j hj x1 y1 h1 h2 => ?_, Lib.hid (HBRP.out)⟩, ?_⟩
            · rcases Nat.lt_or_ge j c with h | h
              · exact hP.out j h x1 y1 h1 h2
              · obtain rfl : j = c := by omega
                have a1 := HXK.out.symm.trans h1
                have a2 := HYK.out.symm.trans h2
                cases a1; cases a2
                unfold sameDe
                rw [G1.out, G2.out, G3.out, HPS.out, ← HVI.out]
                rw [← G1.out]
                simpa using HVE.out
            · simp [litLen]; omega
    · obtain rfl : c = m1 := by omega
      have hno : ¬ (c : Int) < (c : Int) := by omega
      have HF : Hid (sameDes p.exprs q.exprs p.decls q.decls = true) := Lib.hid (sameDes_good (by rw [M1.out, M2.out]; exact G0.out) fun j hj x y h1 h2 => hP.out j (by rw [← M1.out]; exact hj) x y h1 h2)
      go_wp2_with (fail)
      go_ret
      exact ⟨by rw [HF.out]; rfl, HB.out.trans (hWr.out.mono HB.out.size)⟩
end
end Go.Proofs.Ytiilgehdkanmnaa
