/- Joined: EqInts, EqExs, AstRow, AstRefParts. -/
import Derived.Test.YtlbhlncipajapaaGreatDoorPe16
import Derived.Test.YtlbhlncipajapaaGreatDoorPe39
import Derived.Deep.RegionHeld3
import Derived.Deep.CutRange
import Derived.RangeFuncBox
import Derived.Maps.AppendAt
import Derived.Laws.AppendOwnNone
namespace Go.Proofs.YtlbhlncipajapaaGreatDoor
open Go.RowKit

attribute [local go_sem] Oper.semAt_some

set_option maxHeartbeats 8000000 in
set_option maxRecDepth 100000 in
theorem eqInts_any (xs : List Int) (s t : Value) (w : World) (hs : Hid (IntsAt w s xs)) (ht : Hid (IntsAt w t xs)) (lx : Hid (xs.length ≤ reachN)) :
    Calls Tryz.prog 21 #[s, t] w fun r Y => r = .returned (.bool true) ∧ Below w.heap.size w Y := by
  obtain ⟨o1, cap1, b1, f1, rfl, _, _, e1, c1⟩ := hs.out
  obtain ⟨o2, cap2, b2, f2, rfl, _, _, e2, c2⟩ := ht.out
  obtain ⟨n, hn⟩ : ∃ n, n = xs.length := ⟨_, rfl⟩
  rw [← hn] at e1 c1 e2 c2 ⊢
  have HN := Lib.hid hn
  have E1 := Lib.hid e1
  have E2 := Lib.hid e2
  have C1 := Lib.hid c1
  have C2 := Lib.hid c2
  have hnl : (n : Int) ≤ 140737488351232 := by have := lx.out; unfold reachN at this; omega
  clear hn e1 e2 c1 c2 hs ht lx
  go_enter Tryz.func21, Tryz.ntmps21
  have z1 : ((n : Int) != (n : Int)) = false := by simp
  go_wp2_with (fail)
  clear z1
  go_loopw [5] (fun i wr => ∃ (c : Nat), i = .int .i64 (c : Int) ∧ c ≤ n ∧ Hid (Below w.heap.size w wr)) (fun i _ => n - litLen i)
  case atStart => exact ⟨0, rfl, Nat.zero_le _, Lib.hid (Below.refl _ _)⟩
  case round =>
    obtain ⟨c, rfl, hc, hWr⟩ := hrel
    rcases Nat.lt_or_ge c n with hlt | hge
    · have hl : (c : Int) < (n : Int) := by omega
      have r1 := cell_on hWr.out (C1.out c hlt)
      have r2 := cell_on hWr.out (C2.out c hlt)
      have ix1 := ix_ints (cap := cap1) E1.out hlt (by omega)
      have ix2 := ix_ints (cap := cap2) E2.out hlt (by omega)
      unfold Ix at ix1 ix2
      obtain ⟨x, hx⟩ : ∃ x, x = xs.getD c 0 := ⟨_, rfl⟩
      rw [← hx, Nat.mul_one] at r1 r2
      have HDR : Hid (Below w.heap.size w wr.drew) := Lib.hid (hWr.out.trans ⟨rfl, rfl, rfl, Nat.le_refl _, fun _ _ => rfl⟩)
      have z2 : (x != x) = false := by simp
      clear hx
      go_wp2_with (fail)
      go_region_held3 (fun w' => w'.cell? ⟨b1, f1 + c, none⟩ = some (.int .i64 x) ∧ w'.cell? ⟨b2, f2 + c, none⟩ = some (.int .i64 x))
        (first | exact ⟨r1, r2⟩)
        (first | fail)
      all_goals (go_wp2_with fail)
      exact ⟨⟨c + 1, by go_num, by omega, HDR⟩, by simp [litLen]; omega⟩
    · obtain rfl : c = n := by omega
      have hno : ¬ (c : Int) < (c : Int) := by omega
      go_wp2_with (fail)
      go_ret
      exact ⟨rfl, hWr.out⟩
end Go.Proofs.YtlbhlncipajapaaGreatDoor
namespace Go.Proofs.YtlbhlncipajapaaGreatDoor
open Go.RowKit

attribute [local go_sem] Oper.semAt_some

theorem two_boxes (w : World) (c d : Array Value) (S T : Nat) : ((w.alloc (.cells c S)).alloc (.cells d T)).heap[w.heap.size]? = some (.cells c S (0, 0)) ∧ ((w.alloc (.cells c S)).alloc (.cells d T)).heap[w.heap.size + 1]? = some (.cells d T (0, 0)) := by
  constructor
  · rw [heap_alloc_old _ _ (by simp)]; exact heap_alloc_new w _
  · have := heap_alloc_new (w.alloc (.cells c S)) (.cells d T)
    rw [World.size_alloc] at this
    exact this
theorem two_boxes' (w : World) (c d : Array Value) (S T : Nat) : ((w.alloc (.cells c S)).alloc (.cells d T)).drew.heap[w.heap.size]? = some (.cells c S (0, 0)) ∧ ((w.alloc (.cells c S)).alloc (.cells d T)).drew.heap[w.heap.size + 1]? = some (.cells d T (0, 0)) := two_boxes w c d S T
set_option maxHeartbeats 8000000 in
set_option maxRecDepth 100000 in
theorem equal_exs (l : List Ex) (s t : Value) (W : World) (hs : Hid (ExsAt W s l)) (ht : Hid (ExsAt W t l)) (ll : Hid (l.length ≤ reachN)) :
    Calls Tryz.prog 10 #[.agg #[.slice none 0 0, s], .agg #[.slice none 0 0, t]] W fun r Y => r = .returned (.bool true) ∧ Below W.heap.size W Y := by
  obtain ⟨ox, capx, bx, fx, rfl, _, _, e1, c1⟩ := hs.out
  obtain ⟨oy, capy, yb, fy, rfl, _, _, e2, c2⟩ := ht.out
  obtain ⟨n, hn⟩ : ∃ n, n = l.length := ⟨_, rfl⟩
  rw [← hn] at e1 c1 e2 c2 ⊢
  have HN := Lib.hid hn
  have E1 := Lib.hid e1
  have E2 := Lib.hid e2
  have C1 := Lib.hid c1
  have C2 := Lib.hid c2
  have hnl : (n : Int) ≤ 140737488351232 := by have := ll.out; unfold reachN at this; omega
  clear hn e1 e2 c1 c2 hs ht ll
  obtain ⟨Wb, hWb⟩ : ∃ Wb, Wb = (W.alloc (.cells #[.slice none 0 0, .slice ox n capx] 26)).alloc (.cells #[.slice none 0 0, .slice oy n capy] 26) := ⟨_, rfl⟩
  have HB : Hid (Below W.heap.size W Wb) := Lib.hid (by rw [hWb]; exact ((Below.refl _ W).alloc (Nat.le_refl _) _).alloc (by rw [World.size_alloc]; omega) _)
  have PB : Hid (Wb.heap[W.heap.size]? = some (.cells #[.slice none 0 0, .slice ox n capx] 26 (0, 0))) := Lib.hid (by rw [hWb]; exact (two_boxes W _ _ _ _).1)
  have QB : Hid (Wb.heap[W.heap.size + 1]? = some (.cells #[.slice none 0 0, .slice oy n capy] 26 (0, 0))) := Lib.hid (by rw [hWb]; exact (two_boxes W _ _ _ _).2)
  have z1 : ((n : Int) != (n : Int)) = false := by simp
  go_enter Tryz.func10, Tryz.ntmps10
  go_wp2_with (fail)
  rw [← hWb]
  clear z1 hWb
  go_loopw [5] (fun i wr => ∃ (c : Nat), i = .int .i64 (c : Int) ∧ c ≤ n ∧ Hid (Below Wb.heap.size Wb wr)) (fun i _ => n - litLen i)
  case atStart => exact ⟨0, rfl, Nat.zero_le _, Lib.hid (Below.refl _ _)⟩
  case round =>
    obtain ⟨c, rfl, hc, hWr⟩ := hrel
    have hwr := Lib.hid (HB.out.trans (hWr.out.mono HB.out.size))
    have P0 : wr.cell? ⟨W.heap.size, 0, none⟩ = some (.slice none 0 0) := cell_on hWr.out (by simp [World.cell?, PB.out])
    have P1 : wr.cell? ⟨W.heap.size, 1, none⟩ = some (.slice ox n capx) := cell_on hWr.out (by simp [World.cell?, PB.out])
    have Q0 : wr.cell? ⟨W.heap.size + 1, 0, none⟩ = some (.slice none 0 0) := cell_on hWr.out (by simp [World.cell?, QB.out])
    have Q1 : wr.cell? ⟨W.heap.size + 1, 1, none⟩ = some (.slice oy n capy) := cell_on hWr.out (by simp [World.cell?, QB.out])
    rcases Nat.lt_or_ge c n with hlt | hge
    · have hl : (c : Int) < (n : Int) := by omega
      have ix1 := ix_exs (cap := capx) E1.out hlt (by omega)
      have ix2 := ix_exs (cap := capy) E2.out hlt (by omega)
      unfold Ix at ix1 ix2
      obtain ⟨x, hxk⟩ : ∃ x, l[c]? = some x := ⟨_, List.getElem?_eq_getElem (by have := HN.out; omega)⟩
      obtain ⟨_, i0, i1, i2, i3, i4, i5, i6, i7, i8, hsx, hokx⟩ := (C1.out c hlt x hxk).below hwr.out
      obtain ⟨_, j0, j1, j2, j3, j4, j5, j6, j7, j8, hsy, _⟩ := (C2.out c hlt x hxk).below hwr.out
      have HSX := Lib.hid hsx
      have HSY := Lib.hid hsy
      have HOX := Lib.hid hokx
      obtain ⟨osx, capsx, bsx, fsx, rfl, _⟩ := hsx
      obtain ⟨osy, capsy, bsy, fsy, rfl, _⟩ := hsy
      clear hxk hokx
      go_upto_region 6 with (fail)
      go_cut [6, 7] from 39 to 48 (fun s t wx => ∃ X Y : Nat, s = .pointer (some ⟨X, 0, none⟩) ∧ t = .pointer (some ⟨Y, 0, none⟩) ∧ Hid (Below wr.heap.size wr wx) ∧
        Hid (wx.heap[X]? = some (.cells #[.int .i64 x.kind, .int .i64 x.a, .int .i64 x.b, .int .i64 x.c, .string x.name, .string x.state, .int .i64 x.v, .slice osx x.args.length capsx, .int .i64 x.pos] 46 (0, 0))) ∧
        Hid (wx.heap[Y]? = some (.cells #[.int .i64 x.kind, .int .i64 x.a, .int .i64 x.b, .int .i64 x.c, .string x.name, .string x.state, .int .i64 x.v, .slice osy x.args.length capsy, .int .i64 x.pos] 46 (0, 0))))
      case first =>
        go_region_held3 (fun w' => w'.cell? ⟨W.heap.size, 1, none⟩ = some (.slice ox n capx) ∧ w'.cell? ⟨W.heap.size + 1, 1, none⟩ = some (.slice oy n capy) ∧ w'.cell? ⟨bx, fx + c * 9, none⟩ = some (.int .i64 x.kind) ∧ w'.cell? ⟨bx, fx + c * 9 + 1, none⟩ = some (.int .i64 x.a) ∧ w'.cell? ⟨bx, fx + c * 9 + 2, none⟩ = some (.int .i64 x.b) ∧ w'.cell? ⟨bx, fx + c * 9 + 3, none⟩ = some (.int .i64 x.c) ∧ w'.cell? ⟨bx, fx + c * 9 + 4, none⟩ = some (.string x.name) ∧ w'.cell? ⟨bx, fx + c * 9 + 5, none⟩ = some (.string x.state) ∧ w'.cell? ⟨bx, fx + c * 9 + 6, none⟩ = some (.int .i64 x.v) ∧ w'.cell? ⟨bx, fx + c * 9 + 7, none⟩ = some (.slice osx x.args.length capsx) ∧ w'.cell? ⟨bx, fx + c * 9 + 8, none⟩ = some (.int .i64 x.pos) ∧
            w'.cell? ⟨yb, fy + c * 9, none⟩ = some (.int .i64 x.kind) ∧ w'.cell? ⟨yb, fy + c * 9 + 1, none⟩ = some (.int .i64 x.a) ∧ w'.cell? ⟨yb, fy + c * 9 + 2, none⟩ = some (.int .i64 x.b) ∧ w'.cell? ⟨yb, fy + c * 9 + 3, none⟩ = some (.int .i64 x.c) ∧ w'.cell? ⟨yb, fy + c * 9 + 4, none⟩ = some (.string x.name) ∧ w'.cell? ⟨yb, fy + c * 9 + 5, none⟩ = some (.string x.state) ∧ w'.cell? ⟨yb, fy + c * 9 + 6, none⟩ = some (.int .i64 x.v) ∧ w'.cell? ⟨yb, fy + c * 9 + 7, none⟩ = some (.slice osy x.args.length capsy) ∧ w'.cell? ⟨yb, fy + c * 9 + 8, none⟩ = some (.int .i64 x.pos))
          (first | exact ⟨P1, Q1, i0, i1, i2, i3, i4, i5, i6, i7, i8, j0, j1, j2, j3, j4, j5, j6, j7, j8⟩ | ((repeat' apply And.intro) <;> first | assumption | go_keep))
          (first | fail)
        all_goals (go_wp2_with fail; go_meet)
        all_goals exact ⟨_, _, rfl, rfl, Lib.hid ((fun h : Below wr.heap.size wr ((wr.alloc _).alloc _) => ⟨h.os, h.tape, h.output, h.size, h.block⟩) (((Below.refl _ wr).alloc (Nat.le_refl _) _).alloc (by rw [World.size_alloc]; omega) _)), Lib.hid (by first | exact (two_boxes' _ _ _ _ _).1 | exact (two_boxes' _ _ _ _ _).2), Lib.hid (by first | exact (two_boxes' _ _ _ _ _).1 | exact (two_boxes' _ _ _ _ _).2)⟩
      case rest =>
        obtain ⟨X, Y, rfl, rfl, hbx, hX, hY⟩ := hcut
        obtain ⟨wx, hwx⟩ : ∃ wx, wx = wc := ⟨_, rfl⟩
        rw [← hwx] at hbx hX hY ⊢
        have HBR := Lib.hid (hWr.out.trans (hbx.out.mono hWr.out.size))
        obtain ⟨⟨s0, s1, s2, s3, s4, s5, s6, s7, s8⟩, _⟩ := (⟨⟨by simp [World.cell?, hX.out], by simp [World.cell?, hX.out], by simp [World.cell?, hX.out], by simp [World.cell?, hX.out], by simp [World.cell?, hX.out], by simp [World.cell?, hX.out], by simp [World.cell?, hX.out], by simp [World.cell?, hX.out], by simp [World.cell?, hX.out]⟩, trivial⟩ : (wx.cell? ⟨X, 0, none⟩ = some (.int .i64 x.kind) ∧ wx.cell? ⟨X, 1, none⟩ = some (.int .i64 x.a) ∧ wx.cell? ⟨X, 2, none⟩ = some (.int .i64 x.b) ∧ wx.cell? ⟨X, 3, none⟩ = some (.int .i64 x.c) ∧ wx.cell? ⟨X, 4, none⟩ = some (.string x.name) ∧ wx.cell? ⟨X, 5, none⟩ = some (.string x.state) ∧ wx.cell? ⟨X, 6, none⟩ = some (.int .i64 x.v) ∧ wx.cell? ⟨X, 7, none⟩ = some (.slice osx x.args.length capsx) ∧ wx.cell? ⟨X, 8, none⟩ = some (.int .i64 x.pos)) ∧ True)
        obtain ⟨⟨t0, t1, t2, t3, t4, t5, t6, t7, t8⟩, _⟩ := (⟨⟨by simp [World.cell?, hY.out], by simp [World.cell?, hY.out], by simp [World.cell?, hY.out], by simp [World.cell?, hY.out], by simp [World.cell?, hY.out], by simp [World.cell?, hY.out], by simp [World.cell?, hY.out], by simp [World.cell?, hY.out], by simp [World.cell?, hY.out]⟩, trivial⟩ : (wx.cell? ⟨Y, 0, none⟩ = some (.int .i64 x.kind) ∧ wx.cell? ⟨Y, 1, none⟩ = some (.int .i64 x.a) ∧ wx.cell? ⟨Y, 2, none⟩ = some (.int .i64 x.b) ∧ wx.cell? ⟨Y, 3, none⟩ = some (.int .i64 x.c) ∧ wx.cell? ⟨Y, 4, none⟩ = some (.string x.name) ∧ wx.cell? ⟨Y, 5, none⟩ = some (.string x.state) ∧ wx.cell? ⟨Y, 6, none⟩ = some (.int .i64 x.v) ∧ wx.cell? ⟨Y, 7, none⟩ = some (.slice osy x.args.length capsy) ∧ wx.cell? ⟨Y, 8, none⟩ = some (.int .i64 x.pos)) ∧ True)
        have CI := Lib.hid (eqInts_any x.args _ _ wx (Lib.hid (HSX.out.below hbx.out)) (Lib.hid (HSY.out.below hbx.out)) (Lib.hid HOX.out.args))
        have CI2 : Hid (Calls Tryz.prog 21 #[.slice osx x.args.length capsx, .slice osy x.args.length capsy] wx fun r Y => r = .returned (.bool true) ∧ Hid (Below wx.heap.size wx Y)) := Lib.hid (CI.out.mono fun r Y h => ⟨h.1, Lib.hid h.2⟩)
        clear CI hX hY hwx
        obtain ⟨k, a, b, cc, nm, st, v, p, ks⟩ : ∃ k a b cc nm st v p, k = x.kind ∧ a = x.a ∧ b = x.b ∧ cc = x.c ∧ nm = x.name ∧ st = x.state ∧ v = x.v ∧ p = x.pos := ⟨_, _, _, _, _, _, _, _, rfl, rfl, rfl, rfl, rfl, rfl, rfl, rfl⟩
        have y0 : (x.kind != x.kind) = false := by simp
        have y1 : (x.a != x.a) = false := by simp
        have y2 : (x.b != x.b) = false := by simp
        have y3 : (x.c != x.c) = false := by simp
        have y4 : (x.name.toList == x.name.toList) = true := by simp
        have y5 : (x.state.toList == x.state.toList) = true := by simp
        have y6 : (x.v != x.v) = false := by simp
        have y8 : (x.pos != x.pos) = false := by simp
        go_wp2_with (go_at_call 21; (with_reducible refine CI2.out.mono ?_); rintro e w2 ⟨rfl, hb2⟩)
        have HBN := Lib.hid (HBR.out.trans (hb2.out.mono HBR.out.size))
        exact ⟨⟨c + 1, by go_num, by omega, HBN⟩, by simp [litLen]; omega⟩
    · obtain rfl : c = n := by omega
      have hno : ¬ (c : Int) < (c : Int) := by omega
      go_wp2_with (fail)
      go_loopw [8] (fun i wr2 => i = .int .i64 0 ∧ wr2 = wr) (fun _ _ => 0)
      case atStart => exact ⟨rfl, rfl⟩
      case round =>
        obtain ⟨rfl, rfl⟩ := hrel
        go_wp2_with (fail)
        go_ret
        exact ⟨rfl, hwr.out⟩
end Go.Proofs.YtlbhlncipajapaaGreatDoor
namespace Go.Proofs.YtlbhlncipajapaaGreatDoor
open Go.RowKit Go.Shelf

attribute [local go_sem] Oper.semAt_some

theorem aint_info : (Tryz.prog.info? 3).map (fun i => (i.zero, i.size, i.bytes)) = some (some (.int .i64 0), 1, 8) := by kernel_rfl
/-- the row behind an append of one number: the one there was, or a new one -/
theorem arow_after {W : World} {base : Nat} {i : TypeInfo} {z : Value} {ty : TypeId} (h2 : Tryz.prog.info? 3 = some i) (h3 : i.zero = some z) (h4 : i.size = 1) (h5 : i.bytes = 8)
    (v : Value) (k : Nat) (xs : List Value) (hown : W.ownsRow base 3 1 v k xs) (ad : Addr) (news : List Value) (hn : news.length = 1 * 1)
    (hc : ∀ j u, news[j]? = some u → W.cell? (ad.add j) = some u) (h1c : ∀ u ∈ news, u.oneCell' = true) (hk : k ≤ 1000000000) (v' : Value) (w' : World)
    (hrun : (Builtin.append_ #[44, 44] ty #[v, .slice (some ad) 1 1]).run Tryz.prog W = .ok v' w') : v'.ownBlock = v.ownBlock ∨ v'.ownBlock = some W.heap.size := by
  rcases hown.2 with ⟨rfl, rfl⟩ | ⟨g, cap, cur, rfl, hbg, hg, hnc, hcm, hcs, htake⟩
  · have hr := run_append_nil (P := Tryz.prog) W 44 ty 3 i z Tryz.underlying44 h2 h3 ad 1 1 news (by rw [h4]; exact hn) hc (by omega) (by omega) (by rw [h5]; omega)
    rw [hr] at hrun
    cases hrun
    exact .inr rfl
  · by_cases hroom : k + 1 ≤ cap
    · have hr := run_append_room (P := Tryz.prog) W 44 ty 3 i Tryz.underlying44 h2 g k cap cur hg ad 1 1 news (by rw [h4]; exact hn) hc h1c hroom (by rw [h4, hcs]; omega)
      rw [hr] at hrun
      cases hrun
      exact .inl rfl
    · have holds : ∀ j u, xs[j]? = some u → W.cell? ((⟨g, 0, none⟩ : Addr).add j) = some u := hown.cells (g := g) rfl
      have hr := run_append_grow (P := Tryz.prog) W 44 ty 3 i z Tryz.underlying44 h2 h3 ⟨g, 0, none⟩ k cap xs (by rw [h4]; exact hown.1) holds ad 1 1 news (by rw [h4]; exact hn) hc (by omega) (by omega) (growslice_fits (by omega) (by rw [h5]; omega))
      rw [hr] at hrun
      cases hrun
      exact .inr rfl
theorem wpListIn_append_int {F : Fence} {n : Nat} (w : World) {ops : Array Oper} {rest : List Oper} {o : Oper} {a : Act} {Q : Exit → Act → World → Prop}
    (hg : o.guard = none) (s x : Operand) (hop : o.op = Op.call { callee := Callee.builtin Builtin.append, args := #[s, x], argTypes := #[44, 44] })
    (base : Nat) (v : Value) (k : Nat) (xs : List Value) (hs : a.eval s = v) (hown : w.ownsRow base 3 1 v k xs) (ad : Addr) (news : List Value) (hx : a.eval x = .slice (some ad) 1 1) (hn : news.length = 1 * 1)
    (hc : ∀ j u, news[j]? = some u → w.cell? (ad.add j) = some u) (h1c : ∀ u ∈ news, u.oneCell' = true) (hk : k ≤ 1000000000) (b3 : base ≤ w.heap.size)
    (hK : ∀ v' w', w'.ownsRow base 3 1 v' (k + 1) (xs ++ news) → w.grownBy w' v.ownBlock → (v'.ownBlock = v.ownBlock ∨ v'.ownBlock = some w.heap.size) → wpListIn F n Tryz.prog ops Q rest (a.put o.dst v') w') :
    wpListIn F n Tryz.prog ops Q (o :: rest) a w := by
  obtain ⟨i, h2, h3, h4, h5⟩ := info_parts aint_info
  refine wpListIn_plain hg fun K hK' => ?_
  obtain ⟨v', w', hrun, r1, r2, _⟩ := run_append_own (P := Tryz.prog) w base 44 o.type 3 i _ 1 8 Tryz.underlying44 h2 h3 h4 h5 rfl (by decide) v k xs hown ad 1 1 news hn hc h1c (by unfold maxLen; omega) (by omega) b3
  have r3 := arow_after h2 h3 h4 h5 v k xs hown ad news hn hc h1c hk v' w' hrun
  unfold Oper.wpIn
  refine ⟨?_, ?_⟩
  · simp [Oper.about, hop, resolve, Target.leads, Sem.run_pure]
  · rw [Oper.semAt_plain F _ _ (by rw [hop]; intro c hc'; cases hc')]
    simp [execOp, hop, resolve, invoke, builtin, hs, hx, hrun, Result.andThen]
    exact hK' _ _ (hK v' w' r1 r2 r3)
/-- the block that the slice in box B lies in -/
def rowOf (B : Nat) (W : World) : Option Nat := (W.cell? ⟨B, 0, none⟩).bind Value.ownBlock
theorem rowOf_box {W : World} {B : Nat} {T : TypeId} {v : Value} (h : Boxed W B T v) : rowOf B W = v.ownBlock := by unfold rowOf; rw [h.cell]; rfl
theorem rowOf_same {B : Nat} {X Y : World} (h : Y.heap[B]? = X.heap[B]?) : rowOf B Y = rowOf B X := by unfold rowOf; rw [cell_same' h]
theorem lt_of_heap {W : World} {k : Nat} {o : Obj} (h : W.heap[k]? = some o) : k < W.heap.size := (Array.getElem?_eq_some_iff.1 h).1
theorem set_other (W : World) (g k i : Nat) (v : Value) (h : k ≠ g) : (W.setCell ⟨g, i, none⟩ v).heap[k]? = W.heap[k]? := Below.heap_setCell W ⟨g, i, none⟩ v k h
theorem heap_old (W : World) (o : Obj) (k : Nat) (h : k < W.heap.size) : (W.alloc o).heap[k]? = W.heap[k]? := ((Below.refl W.heap.size W).alloc (Nat.le_refl _) o).block k h
theorem keepM_putObj {M : Nat → Prop} {B N : Nat} (hB : B < N) (W : World) (l : Nat) (o o' : Obj) (hl : N ≤ l) (h : W.heap[l]? = some o) (hc : o.isCells = false) : KeepM M (rowOf B) N W (W.putObj l o') := by
  have hg := grownBy_putObj' W l o'
  have hll := lt_of_heap h
  refine ⟨hg.size, fun k hk _ _ hh => hg.block k hk (fun e => ?_), fun k hk => ?_⟩
  · cases e
    rcases hh with h1 | ⟨o2, h1, h2⟩
    · omega
    · rw [h] at h1; cases h1; rw [hc] at h2; cases h2
  · rw [rowOf_same (hg.block B (by omega) (fun e => by cases e; omega))] at hk
    exact .inl hk
theorem row_kept {e : TypeId} {sz : Nat} {X Y : World} {row : Option Nat} {N base k : Nat} {v : Value} {xs : List Value} (h : X.ownsRow base e sz v k xs) (hg : X.grownBy Y row) (hr : ∀ r, row = some r → N ≤ r ∧ ∃ o : Obj, X.heap[r]? = some o ∧ o.isCells = false) : Y.ownsRow base e sz v k xs := by
  refine h.kept hg ?_
  rcases h.2 with ⟨rfl, _⟩ | ⟨g, cap, cur, rfl, _, hgb, _⟩
  · exact .inl rfl
  · refine .inr fun e' => ?_
    obtain ⟨_, o, ho, hc⟩ := hr g (by simpa [Value.ownBlock] using e'.symm)
    rw [hgb] at ho; cases ho; cases hc
theorem grown_trans' {w W W' : World} {r : Option Nat} {l : Nat} (h : w.grownBy W r) (k : W.grownBy W' (some l)) (hl : w.heap.size ≤ l) : w.grownBy W' r :=
  ⟨k.os.trans h.os, k.tape.trans h.tape, k.output.trans h.output, Nat.le_trans h.size k.size, fun i hi hr => (k.block i (Nat.lt_of_lt_of_le hi h.size) (fun e => by cases e; omega)).trans (h.block i hi hr)⟩
/-- what one append says of the row -/
def SameRow (w : World) (v v' : Value) : Prop := v'.ownBlock = v.ownBlock ∨ ∃ r, v'.ownBlock = some r ∧ w.heap.size ≤ r
def AppPost (base k : Nat) (v : Value) (xs news : List Value) (w : World) (e : Ending) (w' : World) : Prop :=
  ∃ v', e = .returned v' ∧ w'.ownsRow base 3 1 v' (k + news.length) (xs ++ news) ∧ w.grownBy w' v.ownBlock ∧ SameRow w v v'
def intV (p : Int) : Value := .int .i64 p
/-- between two rounds -/
def AInv {x : Ex} (w : World) (base k : Nat) (v : Value) (xs : List Value) (pre : List (PartOf x)) (W : World) : Prop :=
  (∃ v', Boxed W w.heap.size 44 v' ∧ W.ownsRow base 3 1 v' (k + pre.length) (xs ++ pre.map fun p => intV p.1) ∧ SameRow w v v') ∧ w.grownBy W v.ownBlock ∧ w.heap.size + 1 ≤ W.heap.size
theorem ainv_own {x : Ex} (w : World) (base k : Nat) (v : Value) (xs : List Value) : OwnFrom (w.heap.size + 1) (AInv (x := x) w base k v xs) := by
  rintro s X Y row ⟨⟨v', hv, hr, hs⟩, hg0, hN⟩ hg hrow
  have hne : ∀ b, b < w.heap.size + 1 → some b ≠ row := fun b hb e => by have := (hrow b e.symm).1; omega
  refine ⟨⟨v', hv.kept hg (hne _ (Nat.lt_succ_self _)), row_kept hr hg hrow, hs⟩, ⟨hg.os.trans hg0.os, hg.tape.trans hg0.tape, hg.output.trans hg0.output, Nat.le_trans hg0.size hg.size, fun i hi hr => (hg.block i (Nat.lt_of_lt_of_le hi hg0.size) (hne _ (by omega))).trans (hg0.block i hi hr)⟩, Nat.le_trans hN hg.size⟩
/-- a new slice of numbers, and nothing else -/
def NewInts (l : List Int) (w : World) (e : Ending) (w' : World) : Prop := ∃ v, e = .returned v ∧ w'.ownsRow w.heap.size 3 1 v l.length (l.map intV) ∧ Below w.heap.size w w'
theorem grown_below {w w' : World} (h : w.grownBy w' none) : Below w.heap.size w w' := ⟨h.os, h.tape, h.output, h.size, fun k hk => h.block k hk (fun e => by cases e)⟩
theorem owns_low {w : World} {base base' : Nat} {e : TypeId} {sz n : Nat} {v : Value} {xs : List Value} (h : w.ownsRow base e sz v n xs) (hb : base' ≤ base) : w.ownsRow base' e sz v n xs := by
  refine ⟨h.1, ?_⟩
  rcases h.2 with h2 | ⟨g, cap, cur, rfl, h3, h4⟩
  · exact .inl h2
  · exact .inr ⟨g, cap, cur, rfl, Nat.le_trans hb h3, h4⟩
/-- an expression as a value -/
def exV (x : Ex) (s : Value) : Value := .agg (exCells x s)
theorem ex_boxed (w : World) (x : Ex) (s : Value) : (w.alloc (.cells (exCells x s) 46)).heap[w.heap.size]? = some (.cells (exCells x s) 46 (0, 0)) := World.alloc_heap_new w _
end Go.Proofs.YtlbhlncipajapaaGreatDoor
namespace Go.Proofs.YtlbhlncipajapaaGreatDoor
open Go.RowKit

theorem wpList_append_ints (w : World) {ops : Array Oper} {rest : List Oper} {o : Oper} {a : Act} {Q : Exit → Act → World → Prop}
    (hg : o.guard = none) (s x : Operand) (hop : o.op = Op.call { callee := Callee.builtin Builtin.append, args := #[s, x], argTypes := #[44, 44] })
    (base : Nat) (v : Value) (k : Nat) (xs : List Value) (hs : a.eval s = v) (hown : w.ownsRow base 3 1 v k xs) (oa : Option Addr) (m cap b off : Nat) (hx : a.eval x = .slice oa m cap) (hcap : CapOk oa cap) (ho : 0 < m → oa = some ⟨b, off, none⟩)
    (l : List Int) (hl : l.length = m) (hc : ∀ j, j < m → w.cell? ⟨b, off + j, none⟩ = some (.int .i64 (l.getD j 0))) (hk : k + m ≤ 1000000000) (b3 : base ≤ w.heap.size)
    (hK : ∀ v' w', w'.ownsRow base 3 1 v' (k + m) (xs ++ l.map intV) → w.grownBy w' v.ownBlock → wpList Tryz.prog ops Q rest (a.put o.dst v') w') :
    wpList Tryz.prog ops Q (o :: rest) a w := by
  obtain ⟨i, h2, h3, h4, h5⟩ := info_parts aint_info
  cases oa with
  | none =>
    obtain rfl : m = 0 := by rcases Nat.eq_zero_or_pos m with h | h; exact h; exact absurd (ho h) (by simp)
    obtain rfl : cap = 0 := hcap.2 rfl
    refine wpList_append_own_none hg s x 44 hop base 3 i 1 Tryz.underlying44 h2 v k xs hs hown hx (hK _ _ ?_ ⟨rfl, rfl, rfl, Nat.le_refl _, fun _ _ _ => rfl⟩)
    obtain rfl : l = [] := List.eq_nil_of_length_eq_zero hl
    simpa using hown
  | some ad =>
    refine wpList_append_own _ hg s x 44 hop base 3 i _ 1 8 Tryz.underlying44 h2 h3 h4 h5 rfl (by decide) v k xs hs hown ad m cap (l.map intV) hx (by rw [List.length_map, hl, Nat.mul_one]) ?_ ?_ (by unfold maxLen; omega) (by omega) b3 (fun v' w' r1 r2 _ => hK v' w' r1 r2)
    · intro j u hj
      rw [List.getElem?_map, Option.map_eq_some_iff] at hj
      obtain ⟨z, hz, rfl⟩ := hj
      have hjl := (List.getElem?_eq_some_iff.1 hz).1
      obtain rfl : ad = ⟨b, off, none⟩ := Option.some.inj (ho (by omega))
      have := hc j (by omega)
      rw [List.getD_eq_getElem?_getD, hz] at this
      rw [show (⟨b, off, none⟩ : Addr).add j = ⟨b, off + j, none⟩ by unfold Addr.add; split <;> simp_all, this]
      rfl
    · intro u hu
      obtain ⟨z, _, rfl⟩ := List.mem_map.1 hu
      rfl
theorem empty_row (W : World) (B base : Nat) (hB : W.heap[B]? = some (.cells #[] 3 (0, 0))) (hb : base ≤ B) : W.ownsRow base 3 1 (.slice (some ⟨B, 0, none⟩) 0 0) 0 [] :=
  ⟨rfl, .inr ⟨B, 0, #[], rfl, hb, hB, Nat.le_refl _, by unfold maxLen; omega, rfl, rfl⟩⟩
theorem heap_new2 (w : World) (o o' : Obj) : ((w.alloc o).alloc o').heap[w.heap.size + 1]? = some o' := by have := World.alloc_heap_new (w.alloc o) o'; rwa [World.size_alloc] at this
theorem Below.alloc2 (w : World) (o o' : Obj) : Below w.heap.size w ((w.alloc o).alloc o') := ((Below.refl _ _).alloc (Nat.le_refl _) _).alloc (by simp) _
set_option maxHeartbeats 4000000 in
theorem refParts_args (x : Ex) (hk : x.kind = 19) (o : Option Addr) (cap b off n : Nat) (hn : Hid (x.args.length = n)) (nl : n ≤ 40000) (hcap : Hid (CapOk o cap)) (ho : Hid (0 < n → o = some ⟨b, off, none⟩)) (w : World) (hc : Hid (∀ j, j < n → w.cell? ⟨b, off + j, none⟩ = some (.int .i64 (x.args.getD j 0)))) :
    Calls Tryz.prog 46 #[.agg #[.int .i64 x.kind, .int .i64 x.a, .int .i64 x.b, .int .i64 x.c, .string x.name, .string x.state, .int .i64 x.v, .slice o n cap, .int .i64 x.pos]] w fun e w' => NewInts (partsE x) w e w' := by
  have hpl := Lib.hid (partsE_19 hk)
  have hm : manyR x.kind = -1 := by unfold manyR; rw [if_pos hk]
  rw [hk] at hm ⊢
  have HM := Lib.hid hm
  clear hm hk
  go_enter Tryz.func46, Tryz.ntmps46
  go_wp2_with (first | (go_at_call 45; ((with_reducible refine (many_any _ _).mono ?_); rintro e w1 ⟨rfl, rfl⟩; rw [HM.out])) | (at_builtin; refine wpList_append_ints _ rfl _ _ rfl w.heap.size (.slice (some ⟨w.heap.size + 1, 0, none⟩) 0 0) 0 [] rfl (empty_row _ _ _ (heap_new2 _ _ _) (by omega)) o n cap b off rfl hcap.out ho.out x.args hn.out (fun j hj => cell_on (Below.alloc2 _ _ _) (hc.out j hj)) (by omega) (by simp; omega) ?_; intro v' w2 hown hg; have H1 := Lib.hid hown; have H2 := Lib.hid hg; clear hown hg))
  go_ret
  refine ⟨_, rfl, ?_, ?_⟩
  · rw [hpl.out, hn.out]
    have := H1.out
    rwa [Nat.zero_add, List.nil_append] at this
  · refine ⟨H2.out.os, H2.out.tape, H2.out.output, Nat.le_trans (by simp; omega) H2.out.size, fun k hk => (H2.out.block k (by simp; omega) (fun e => by simp [Value.ownBlock] at e; omega)).trans ((Below.alloc2 w _ _).block k hk)⟩
set_option maxHeartbeats 4000000 in
theorem refParts_abc (x : Ex) (hk : ¬ x.kind = 19) (s : Value) (w : World) :
    Calls Tryz.prog 46 #[.agg #[.int .i64 x.kind, .int .i64 x.a, .int .i64 x.b, .int .i64 x.c, .string x.name, .string x.state, .int .i64 x.v, s, .int .i64 x.pos]] w fun e w' => NewInts (partsE x) w e w' := by
  have hpl := Lib.hid (partsE_abc hk)
  have hln := Lib.hid (partsE_len hk)
  have hmn := manyOf_le x.kind
  obtain ⟨m, hm⟩ : ∃ m, m = manyOf x.kind := ⟨_, rfl⟩
  have hm2 : manyR x.kind = (m : Int) := by unfold manyR; rw [if_neg hk, hm]
  have HM := Lib.hid hm2
  rw [← hm] at hmn hpl hln
  clear hm2 hk hm
  have q0 : (m : Int) ≤ 3 := by omega
  go_enter Tryz.func46, Tryz.ntmps46
  go_wp2_with (first | (go_at_call 45; ((with_reducible refine (many_any _ _).mono ?_); rintro e w1 ⟨rfl, rfl⟩; rw [HM.out])))
  go_ret
  refine ⟨_, rfl, ?_, Below.alloc2 _ _ _⟩
  rw [hln.out]
  refine ⟨by rw [List.length_map, hln.out, Nat.mul_one], .inr ⟨w.heap.size + 1, 3, #[.int .i64 x.a, .int .i64 x.b, .int .i64 x.c], rfl, by omega, heap_new2 _ _ _, by omega, by unfold maxLen; omega, rfl, ?_⟩⟩
  rw [hpl.out, Nat.mul_one, List.map_take]
  rfl
/-- the reference's Parts -/
theorem refParts_any (x : Ex) (s : Value) (w : World) (ha : IntsAt w s x.args) (hp : (partsE x).length ≤ 40000) : Calls Tryz.prog 46 #[exV x s] w fun e w' => NewInts (partsE x) w e w' := by
  by_cases h19 : x.kind = 19
  · obtain ⟨o, cap, b, off, rfl, h1, h2, h3, h4⟩ := ha
    exact refParts_args x h19 o cap b off _ (Lib.hid rfl) (by rw [partsE_19 h19] at hp; exact hp) (Lib.hid h2) (Lib.hid h3) w (Lib.hid fun j hj => by have := h4 j hj; rwa [Nat.mul_one] at this)
  · exact refParts_abc x h19 s w
end Go.Proofs.YtlbhlncipajapaaGreatDoor
