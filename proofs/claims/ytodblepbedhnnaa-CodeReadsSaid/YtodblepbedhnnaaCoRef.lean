/- The reference's Number, ints, numbers, piece: bytes put behind others. -/
import Derived.Test.YtodblepbedhnnaaCoTurned
namespace Go.Proofs.Ytodblepbedhnnaa
open Go.RowKit Co

attribute [local go_sem] Oper.semAt_some

/-- a row of bytes of the call's own, out of one that was in block g0 of w -/
structure Rw (w0 : World) (g0 : Nat) (w : World) (l : List UInt8) (g cap : Nat) (w' : World) : Prop where
  own : w'.ownsRow w0.heap.size 5 1 (.slice (some ⟨g, 0, none⟩) l.length cap) l.length (bc l)
  below : Below w0.heap.size w0 w'
  keep : ∀ k, k < w.heap.size → k ≠ g0 → w'.heap[k]? = w.heap[k]? ∧ k ≠ g
  size : w.heap.size ≤ w'.heap.size
theorem Rw.refl {w0 w : World} {g cap : Nat} {l : List UInt8} (h : w.ownsRow w0.heap.size 5 1 (.slice (some ⟨g, 0, none⟩) l.length cap) l.length (bc l)) (hb : Below w0.heap.size w0 w) : Rw w0 g w l g cap w := ⟨h, hb, fun _ _ h => ⟨rfl, h⟩, Nat.le_refl _⟩
theorem Rw.trans {w0 a b c : World} {g0 g1 g2 cap1 cap2 : Nat} {l m : List UInt8} (h : Rw w0 g0 a l g1 cap1 b) (k : Rw w0 g1 b m g2 cap2 c) : Rw w0 g0 a m g2 cap2 c :=
  ⟨k.own, k.below, fun j hj hg => by
    obtain ⟨e1, e2⟩ := h.keep j hj hg
    obtain ⟨e3, e4⟩ := k.keep j (Nat.lt_of_lt_of_le hj h.size) e2
    exact ⟨e3.trans e1, e4⟩, Nat.le_trans h.size k.size⟩
theorem Rw.alloc {w0 a b : World} {g0 g1 cap1 : Nat} {l : List UInt8} (h : Rw w0 g0 a l g1 cap1 b) (o : Obj) : Rw w0 g0 a l g1 cap1 (b.alloc o) :=
  ⟨h.own.alloc o, h.below.alloc h.below.size o, fun j hj hg => ⟨(Below.heap_alloc b o j (Nat.lt_of_lt_of_le hj h.size)).trans (h.keep j hj hg).1, (h.keep j hj hg).2⟩, by rw [World.size_alloc]; have := h.size; omega⟩
theorem wpList_pushR {w0 w Z : World} {g0 g cap : Nat} {l : List UInt8} (h : Hid (Rw w0 g0 w l g cap Z)) (x : UInt8) (z : Int) (hz : z = (x.toNat : Int)) (hk : l.length ≤ 1000000) {ops : Array Oper} {rest : List Oper} {o : Oper} {act : Act} {Q : Exit → Act → World → Prop} (hgd : o.guard = none) (s t : Operand)
    (hop : o.op = Op.call { callee := Callee.builtin Builtin.append, args := #[s, t], argTypes := #[29, 29] }) (hs : act.eval s = .slice (some ⟨g, 0, none⟩) l.length cap) {H : Nat} (hH : Z.heap.size = H) (hx : act.eval t = .slice (some ⟨H, 0, none⟩) 1 1)
    (hK : ∀ g' cap' Y, Hid (Rw w0 g0 w (l ++ [x]) g' cap' Y) → wpList Try.prog ops Q rest (act.put o.dst (.slice (some ⟨g', 0, none⟩) (l.length + 1) cap')) Y) :
    wpList Try.prog ops Q (o :: rest) act (Z.alloc (.cells #[.int .u8 z] 5)) := by
  subst hz hH
  obtain ⟨i, h2, h3, h4, h5⟩ := byte_parts
  have h := h.out
  refine wpList_append_lies (w := _) hgd s t 29 hop w0.heap.size 5 i (.int .u8 0) 1 1 Try.underlying29 h2 h3 h4 h5 rfl (by decide) _ l.length (bc l) hs (h.own.alloc _) ⟨Z.heap.size, 0, none⟩ 1 1 [.int .u8 (x.toNat : Int)] hx rfl (fun j u hu => ?_) (by simp [Value.oneCell']) (by decide) (by unfold maxLen; omega) (by omega) (by rw [World.size_alloc]; have := h.below.size; omega) _ rfl fun g' cap' Y ho hgr hw _ => ?_
  · have hj : j = 0 := by have := (List.getElem?_eq_some_iff.1 hu).1; simp at this; omega
    subst hj
    cases hu
    show (Z.alloc _).cell? ⟨Z.heap.size, 0, none⟩ = _
    rw [World.cell?_alloc_new]
    rfl
  · have hlen : (l ++ [x]).length = l.length + 1 := by simp
    have hg1 := (own_at h.own).1
    have hsz := hgr.size
    rw [World.size_alloc] at hsz
    refine hK g' cap' Y (Lib.hid ⟨by rw [hlen, bc_snoc]; exact ho, (h.below.alloc h.below.size _).grown hgr (by rw [World.size_alloc]; have := h.below.size; omega) (fun k e => by have e' : g = k := Option.some.inj e; omega), fun k hk hg0 => ?_, by have := h.size; omega⟩)
    obtain ⟨e1, e2⟩ := h.keep k hk hg0
    have hkZ : k < Z.heap.size := Nat.lt_of_lt_of_le hk h.size
    refine ⟨(hgr.block k (by rw [World.size_alloc]; omega) (fun e => e2 (Option.some.inj e))).trans ((Below.heap_alloc Z _ k hkZ).trans e1), ?_⟩
    rcases hw with h1 | h1
    · have e' : g = g' := Option.some.inj h1
      omega
    · rw [World.size_alloc] at h1; omega
/-- the value of a call that puts bytes behind others -/
def RwPost (w0 : World) (g0 : Nat) (w : World) (l : List UInt8) (e : Ending) (w' : World) : Prop := ∃ g cap, e = .returned (.slice (some ⟨g, 0, none⟩) l.length cap) ∧ Rw w0 g0 w l g cap w'
set_option maxHeartbeats 8000000 in
set_option maxRecDepth 100000 in
theorem rnumber_any (w0 : World) (g0 cap0 : Nat) (l : List UInt8) (v : Int) (hv : i64 v) (hl : l.length ≤ 500000) (w : World) (h : w.ownsRow w0.heap.size 5 1 (.slice (some ⟨g0, 0, none⟩) l.length cap0) l.length (bc l)) (hb : Below w0.heap.size w0 w) :
    Calls Try.prog 22 #[.slice (some ⟨g0, 0, none⟩) l.length cap0, .int .i64 v] w fun e w' => RwPost w0 g0 w (l ++ encN v) e w' := by
  have HR := Lib.hid (Rw.refl h hb)
  obtain ⟨U, hU⟩ : ∃ U, U = fold v := ⟨_, rfl⟩
  have hlt := fold_lt hv
  rw [← hU] at hlt
  have HU := Lib.hid hlt
  have HL := Lib.hid hl
  have HUE := Lib.hid hU
  obtain ⟨h1, h2⟩ := hv
  have hu1 : (U : Int) ≤ 18446744073709551615 := by omega
  rcases Int.lt_or_le v 0 with hn | hn
  · have hz : 2 * (-(v + 1)) + 1 = (U : Int) := by rw [hU]; unfold fold; rw [if_neg (by omega)]; omega
    have hd : decide (0 ≤ v) = false := decide_eq_false (by omega)
    clear h hb hl hlt hU
    go_enter Try.func22, Try.ntmps22
    go_wp2_with fail
    go_loopw [0, 5] (fun b f wr => ∃ (t : Nat) (m : List UInt8) (g cap : Nat), b = .slice (some ⟨g, 0, none⟩) m.length cap ∧ f = .int .u64 (t : Int) ∧ t ≤ U ∧ Hid (Rw w0 g0 w m g cap wr) ∧ Hid (m ++ numL t = l ++ numL U)) (fun _ f _ => litLen f)
    case atStart => exact ⟨U, l, g0, cap0, rfl, rfl, Nat.le_refl _, HR, Lib.hid rfl⟩
    case round =>
      obtain ⟨t, m, g, cap, rfl, rfl, ht, hR, hM⟩ := hrel
      have hml : Hid (m.length ≤ 600000) := Lib.hid (by
        have h1 := congrArg List.length hM.out
        have h2 := numL_ten HU.out
        have h3 := HL.out
        rw [List.length_append, List.length_append] at h1
        omega)
      have tb : (t : Int) ≤ 18446744073709551615 := by have := HU.out; omega
      rcases Nat.lt_or_ge t 128 with g1 | g1
      · have q1 : decide ((128 : Int) ≤ (t : Int)) = false := decide_eq_false (by omega)
        have hzz : (t : Int) = ((UInt8.ofNat t).toNat : Int) := by rw [byte_val (by omega)]
        have HZ := Lib.hid hzz
        have HM : Hid (m ++ [UInt8.ofNat t] = l ++ encN v) := Lib.hid (by
          have := hM.out
          rw [numL_small g1] at this
          rw [this, HUE.out]
          rfl)
        clear hzz hM
        go_wp2_with (at_builtin; refine wpList_pushR hR (UInt8.ofNat t) _ HZ.out (by have := hml.out; omega) rfl (.tmp 28) (.tmp 31) rfl rfl rfl rfl ?_; intro g2 cap2 Y HP)
        go_ret
        have h := HP.out
        have hlen : (m ++ [UInt8.ofNat t]).length = m.length + 1 := by simp
        rw [HM.out] at h hlen
        exact ⟨g2, cap2, by rw [hlen]; rfl, h⟩
      · have q1 : decide ((128 : Int) ≤ (t : Int)) = true := decide_eq_true (by omega)
        have hzz : (t : Int) % 128 + 128 = ((UInt8.ofNat (t % 128 + 128)).toNat : Int) := by rw [byte_val (by omega)]; omega
        have HZ := Lib.hid hzz
        have HM : Hid ((m ++ [UInt8.ofNat (t % 128 + 128)]) ++ numL (t / 128) = l ++ numL U) := Lib.hid (by rw [← hM.out, numL_big g1]; simp)
        have HT : Hid (t / 128 ≤ U ∧ t / 128 < t) := Lib.hid ⟨by omega, by omega⟩
        have xd : (t : Int).tdiv 128 = ((t / 128 : Nat) : Int) := by rw [Int.tdiv_eq_ediv_of_nonneg (by omega)]; omega
        have xd2 : ((t / 128 : Nat) : Int) ≤ 18446744073709551615 := by omega
        clear hzz hM
        go_wp2_with (at_builtin; refine wpList_pushR hR (UInt8.ofNat (t % 128 + 128)) _ HZ.out (by have := hml.out; omega) rfl (.tmp 19) (.tmp 24) rfl rfl rfl rfl ?_; intro g2 cap2 Y HP)
        exact ⟨⟨t / 128, m ++ [UInt8.ofNat (t % 128 + 128)], g2, cap2, by simp, rfl, HT.out.1, HP, HM⟩, by have := HT.out.2; simp [litLen]; omega⟩
  · have hz : 2 * v = (U : Int) := by rw [hU]; unfold fold; rw [if_pos hn]; omega
    have hd : decide (0 ≤ v) = true := decide_eq_true hn
    clear h hb hl hlt hU
    go_enter Try.func22, Try.ntmps22
    go_wp2_with fail
    go_loopw [0, 5] (fun b f wr => ∃ (t : Nat) (m : List UInt8) (g cap : Nat), b = .slice (some ⟨g, 0, none⟩) m.length cap ∧ f = .int .u64 (t : Int) ∧ t ≤ U ∧ Hid (Rw w0 g0 w m g cap wr) ∧ Hid (m ++ numL t = l ++ numL U)) (fun _ f _ => litLen f)
    case atStart => exact ⟨U, l, g0, cap0, rfl, rfl, Nat.le_refl _, HR, Lib.hid rfl⟩
    case round =>
      obtain ⟨t, m, g, cap, rfl, rfl, ht, hR, hM⟩ := hrel
      have hml : Hid (m.length ≤ 600000) := Lib.hid (by
        have h1 := congrArg List.length hM.out
        have h2 := numL_ten HU.out
        have h3 := HL.out
        rw [List.length_append, List.length_append] at h1
        omega)
      have tb : (t : Int) ≤ 18446744073709551615 := by have := HU.out; omega
      rcases Nat.lt_or_ge t 128 with g1 | g1
      · have q1 : decide ((128 : Int) ≤ (t : Int)) = false := decide_eq_false (by omega)
        have hzz : (t : Int) = ((UInt8.ofNat t).toNat : Int) := by rw [byte_val (by omega)]
        have HZ := Lib.hid hzz
        have HM : Hid (m ++ [UInt8.ofNat t] = l ++ encN v) := Lib.hid (by
          have := hM.out
          rw [numL_small g1] at this
          rw [this, HUE.out]
          rfl)
        clear hzz hM
        go_wp2_with (at_builtin; refine wpList_pushR hR (UInt8.ofNat t) _ HZ.out (by have := hml.out; omega) rfl (.tmp 28) (.tmp 31) rfl rfl rfl rfl ?_; intro g2 cap2 Y HP)
        go_ret
        have h := HP.out
        have hlen : (m ++ [UInt8.ofNat t]).length = m.length + 1 := by simp
        rw [HM.out] at h hlen
        exact ⟨g2, cap2, by rw [hlen]; rfl, h⟩
      · have q1 : decide ((128 : Int) ≤ (t : Int)) = true := decide_eq_true (by omega)
        have hzz : (t : Int) % 128 + 128 = ((UInt8.ofNat (t % 128 + 128)).toNat : Int) := by rw [byte_val (by omega)]; omega
        have HZ := Lib.hid hzz
        have HM : Hid ((m ++ [UInt8.ofNat (t % 128 + 128)]) ++ numL (t / 128) = l ++ numL U) := Lib.hid (by rw [← hM.out, numL_big g1]; simp)
        have HT : Hid (t / 128 ≤ U ∧ t / 128 < t) := Lib.hid ⟨by omega, by omega⟩
        have xd : (t : Int).tdiv 128 = ((t / 128 : Nat) : Int) := by rw [Int.tdiv_eq_ediv_of_nonneg (by omega)]; omega
        have xd2 : ((t / 128 : Nat) : Int) ≤ 18446744073709551615 := by omega
        clear hzz hM
        go_wp2_with (at_builtin; refine wpList_pushR hR (UInt8.ofNat (t % 128 + 128)) _ HZ.out (by have := hml.out; omega) rfl (.tmp 19) (.tmp 24) rfl rfl rfl rfl ?_; intro g2 cap2 Y HP)
        exact ⟨⟨t / 128, m ++ [UInt8.ofNat (t % 128 + 128)], g2, cap2, by simp, rfl, HT.out.1, HP, HM⟩, by have := HT.out.2; simp [litLen]; omega⟩
set_option maxHeartbeats 8000000 in
set_option maxRecDepth 100000 in
theorem rints_any (w0 : World) (g0 cap0 : Nat) (l : List UInt8) (L : List Int) (s : Value) (hL : IntsAt w0 s L) (hok : intsOk L) (hl : l.length + 10 * L.length ≤ 400000) (w : World) (h : w.ownsRow w0.heap.size 5 1 (.slice (some ⟨g0, 0, none⟩) l.length cap0) l.length (bc l)) (hb : Below w0.heap.size w0 w) :
    Calls Try.prog 20 #[.slice (some ⟨g0, 0, none⟩) l.length cap0, s] w fun e w' => RwPost w0 g0 w (l ++ encL encN L) e w' := by
  have LEN := Lib.hid (rnumber_any w0 g0 cap0 l (L.length : Int) (by unfold i64; have := hok.1; omega) (by omega) w h hb)
  obtain ⟨o, cap, b, off, rfl, _, _, e1, c1⟩ := hL
  obtain ⟨n, hn⟩ : ∃ n, n = L.length := ⟨_, rfl⟩
  rw [← hn] at LEN e1 c1 hl ⊢
  have HN := Lib.hid hn
  have E1 := Lib.hid e1
  have C1 := Lib.hid c1
  have HL := Lib.hid hl
  have HOK := Lib.hid hok
  have hnl : (n : Int) ≤ 40000 := by omega
  clear hn e1 c1 hl hok h hb
  go_enter Try.func20, Try.ntmps20
  go_wp2_with (go_at_call 22; (with_reducible refine LEN.out.mono ?_); rintro e w1 ⟨g1, cap1, rfl, hr⟩; have HR1 := Lib.hid hr; clear hr)
  go_loopw [0, 5] (fun b i wr => ∃ (c : Nat) (m : List UInt8) (g cap : Nat), b = .slice (some ⟨g, 0, none⟩) m.length cap ∧ i = .int .i64 (c : Int) ∧ c ≤ n ∧ Hid (m = l ++ (encN (n : Int) ++ (L.take c).flatMap encN)) ∧ Hid (Rw w0 g0 w m g cap wr)) (fun _ i _ => n - litLen i)
  case atStart => exact ⟨0, l ++ encN (n : Int), g1, cap1, by rw [List.length_append], rfl, Nat.zero_le _, Lib.hid (by simp), HR1⟩
  case round =>
    obtain ⟨c, m, g, cap2, rfl, rfl, hc, hM, hR⟩ := hrel
    rcases Nat.lt_or_ge c n with hlt | hge
    · have hcl : (c : Int) < (n : Int) := by omega
      have hlt2 : c < L.length := by rw [← HN.out]; exact hlt
      obtain ⟨x, hx⟩ : ∃ x, L[c]? = some x := ⟨_, List.getElem?_eq_getElem hlt2⟩
      have xok := HOK.out.2 x (List.mem_of_getElem? hx)
      have hml : m.length ≤ 500000 := by
        have h1 := congrArg List.length hM.out
        have h2 := flat_most (m := 10) (e := encN) (L.take c) fun y hy => encN_ten (HOK.out.2 y (List.mem_of_mem_take hy))
        have h3 : (encN (n : Int)).length ≤ 10 := encN_ten (by unfold i64; omega)
        have h4 := HL.out
        rw [List.length_append, List.length_append] at h1
        rw [List.length_take] at h2
        omega
      have ix1 := ix_ints (cap := cap) E1.out hlt (by omega)
      have C := Lib.hid (rnumber_any w0 g cap2 m x xok hml wr hR.out.own hR.out.below)
      have r1 := cell_on hR.out.below (C1.out c hlt)
      rw [List.getD_eq_getElem?_getD, hx, Option.getD_some, Nat.mul_one] at r1
      have HM : Hid (m ++ encN x = l ++ (encN (n : Int) ++ (L.take (c + 1)).flatMap encN)) := Lib.hid (by rw [hM.out, take_next hx]; simp)
      unfold Ix at ix1
      clear hml xok hx hlt2 hM
      go_wp2_with (go_at_call 22; (with_reducible refine C.out.mono ?_); rintro e w2 ⟨g2, cap3, rfl, hr⟩; have HR2 := Lib.hid hr; clear hr)
      exact ⟨⟨c + 1, m ++ encN x, g2, cap3, by rw [List.length_append], by go_num, by omega, HM, Lib.hid (hR.out.trans HR2.out)⟩, by simp [litLen]; omega⟩
    · obtain rfl : c = n := by omega
      have hno : ¬ (c : Int) < (c : Int) := by omega
      go_wp2_with fail
      go_ret
      have hend : m = l ++ encL encN L := by
        rw [hM.out, HN.out, List.take_length]
        rfl
      have h2 := hR.out
      rw [hend] at h2
      exact ⟨g, cap2, by rw [← hend]; rfl, h2⟩
set_option maxHeartbeats 8000000 in
set_option maxRecDepth 100000 in
theorem rnumbers_any (w0 : World) (g0 cap0 : Nat) (l : List UInt8) (L : List Int) (s : Value) (hL : IntsAt w0 s L) (hok : intsOk L) (hl : l.length + 10 * L.length ≤ 400000) (w : World) (h : w.ownsRow w0.heap.size 5 1 (.slice (some ⟨g0, 0, none⟩) l.length cap0) l.length (bc l)) (hb : Below w0.heap.size w0 w) :
    Calls Try.prog 21 #[.slice (some ⟨g0, 0, none⟩) l.length cap0, s] w fun e w' => RwPost w0 g0 w (l ++ encL encN L) e w' := by
  have LEN := Lib.hid (rnumber_any w0 g0 cap0 l (L.length : Int) (by unfold i64; have := hok.1; omega) (by omega) w h hb)
  obtain ⟨o, cap, b, off, rfl, _, _, e1, c1⟩ := hL
  obtain ⟨n, hn⟩ : ∃ n, n = L.length := ⟨_, rfl⟩
  rw [← hn] at LEN e1 c1 hl ⊢
  have HN := Lib.hid hn
  have E1 := Lib.hid e1
  have C1 := Lib.hid c1
  have HL := Lib.hid hl
  have HOK := Lib.hid hok
  have hnl : (n : Int) ≤ 40000 := by omega
  clear hn e1 c1 hl hok h hb
  go_enter Try.func21, Try.ntmps21
  go_wp2_with (go_at_call 22; (with_reducible refine LEN.out.mono ?_); rintro e w1 ⟨g1, cap1, rfl, hr⟩; have HR1 := Lib.hid hr; clear hr)
  go_loopw [0, 5] (fun b i wr => ∃ (c : Nat) (m : List UInt8) (g cap : Nat), b = .slice (some ⟨g, 0, none⟩) m.length cap ∧ i = .int .i64 (c : Int) ∧ c ≤ n ∧ Hid (m = l ++ (encN (n : Int) ++ (L.take c).flatMap encN)) ∧ Hid (Rw w0 g0 w m g cap wr)) (fun _ i _ => n - litLen i)
  case atStart => exact ⟨0, l ++ encN (n : Int), g1, cap1, by rw [List.length_append], rfl, Nat.zero_le _, Lib.hid (by simp), HR1⟩
  case round =>
    obtain ⟨c, m, g, cap2, rfl, rfl, hc, hM, hR⟩ := hrel
    rcases Nat.lt_or_ge c n with hlt | hge
    · have hcl : (c : Int) < (n : Int) := by omega
      have hlt2 : c < L.length := by rw [← HN.out]; exact hlt
      obtain ⟨x, hx⟩ : ∃ x, L[c]? = some x := ⟨_, List.getElem?_eq_getElem hlt2⟩
      have xok := HOK.out.2 x (List.mem_of_getElem? hx)
      have hml : m.length ≤ 500000 := by
        have h1 := congrArg List.length hM.out
        have h2 := flat_most (m := 10) (e := encN) (L.take c) fun y hy => encN_ten (HOK.out.2 y (List.mem_of_mem_take hy))
        have h3 : (encN (n : Int)).length ≤ 10 := encN_ten (by unfold i64; omega)
        have h4 := HL.out
        rw [List.length_append, List.length_append] at h1
        rw [List.length_take] at h2
        omega
      have ix1 := ix_i64s (cap := cap) E1.out hlt (by omega)
      have C := Lib.hid (rnumber_any w0 g cap2 m x xok hml wr hR.out.own hR.out.below)
      have r1 := cell_on hR.out.below (C1.out c hlt)
      rw [List.getD_eq_getElem?_getD, hx, Option.getD_some, Nat.mul_one] at r1
      have HM : Hid (m ++ encN x = l ++ (encN (n : Int) ++ (L.take (c + 1)).flatMap encN)) := Lib.hid (by rw [hM.out, take_next hx]; simp)
      unfold Ix at ix1
      clear hml xok hx hlt2 hM
      go_wp2_with (go_at_call 22; (with_reducible refine C.out.mono ?_); rintro e w2 ⟨g2, cap3, rfl, hr⟩; have HR2 := Lib.hid hr; clear hr)
      exact ⟨⟨c + 1, m ++ encN x, g2, cap3, by rw [List.length_append], by go_num, by omega, HM, Lib.hid (hR.out.trans HR2.out)⟩, by simp [litLen]; omega⟩
    · obtain rfl : c = n := by omega
      have hno : ¬ (c : Int) < (c : Int) := by omega
      go_wp2_with fail
      go_ret
      have hend : m = l ++ encL encN L := by
        rw [hM.out, HN.out, List.take_length]
        rfl
      have h2 := hR.out
      rw [hend] at h2
      exact ⟨g, cap2, by rw [← hend]; rfl, h2⟩
theorem encI_most {x : Six} (h : x.ok) : (encI x).length ≤ 60 := by
  obtain ⟨k1, k2, k3, k4, k5, k6⟩ := h
  have e1 := encN_ten k1
  have e2 := encN_ten k2
  have e3 := encN_ten k3
  have e4 := encN_ten k4
  have e5 := encN_ten k5
  have e6 := encN_ten k6
  unfold encI
  simp only [List.length_append]
  omega
set_option maxHeartbeats 16000000 in
set_option maxRecDepth 100000 in
theorem rpiece_any (w0 : World) (g0 cap0 : Nat) (l : List UInt8) (L : List Six) (s : Value) (hL : SixesAt w0 s L) (hok : sixOk L) (hl : l.length + 60 * L.length ≤ 400000) (w : World) (h : w.ownsRow w0.heap.size 5 1 (.slice (some ⟨g0, 0, none⟩) l.length cap0) l.length (bc l)) (hb : Below w0.heap.size w0 w) :
    Calls Try.prog 23 #[.slice (some ⟨g0, 0, none⟩) l.length cap0, s] w fun e w' => RwPost w0 g0 w (l ++ encL encI L) e w' := by
  have LEN := Lib.hid (rnumber_any w0 g0 cap0 l (L.length : Int) (by unfold i64; have := hok.1; omega) (by omega) w h hb)
  obtain ⟨o, cap, b, off, rfl, _, _, e1, c1⟩ := hL
  obtain ⟨n, hn⟩ : ∃ n, n = L.length := ⟨_, rfl⟩
  rw [← hn] at LEN e1 c1 hl ⊢
  have HN := Lib.hid hn
  have E1 := Lib.hid e1
  have C1' := Lib.hid c1
  have HL := Lib.hid hl
  have HOK := Lib.hid hok
  have hnl : (n : Int) ≤ 40000 := by omega
  clear hn e1 c1 hl hok h hb
  go_enter Try.func23, Try.ntmps23
  go_wp2_with (go_at_call 22; (with_reducible refine LEN.out.mono ?_); rintro e w1 ⟨g1, cap1, rfl, hr⟩; have HR1 := Lib.hid hr; clear hr)
  go_loopw [0, 5] (fun b i wr => ∃ (c : Nat) (m : List UInt8) (g cap : Nat), b = .slice (some ⟨g, 0, none⟩) m.length cap ∧ i = .int .i64 (c : Int) ∧ c ≤ n ∧ Hid (m = l ++ (encN (n : Int) ++ (L.take c).flatMap encI)) ∧ Hid (Rw w0 g0 w m g cap wr)) (fun _ i _ => n - litLen i)
  case atStart => exact ⟨0, l ++ encN (n : Int), g1, cap1, by rw [List.length_append], rfl, Nat.zero_le _, Lib.hid (by simp), HR1⟩
  case round =>
    obtain ⟨c, m, g, cap2, rfl, rfl, hc, hM, hR⟩ := hrel
    rcases Nat.lt_or_ge c n with hlt | hge
    · have hcl : (c : Int) < (n : Int) := by omega
      have hlt2 : c < L.length := by rw [← HN.out]; exact hlt
      obtain ⟨x, hx⟩ : ∃ x, L[c]? = some x := ⟨_, List.getElem?_eq_getElem hlt2⟩
      have xok := HOK.out.2 x (List.mem_of_getElem? hx)
      have hml : m.length ≤ 450000 := by
        have h1 := congrArg List.length hM.out
        have h2 := flat_most (m := 60) (e := encI) (L.take c) fun y hy => encI_most (HOK.out.2 y (List.mem_of_mem_take hy))
        have h3 : (encN (n : Int)).length ≤ 10 := encN_ten (by unfold i64; omega)
        have h4 := HL.out
        rw [List.length_append, List.length_append] at h1
        rw [List.length_take] at h2
        omega
      have ix1 := ix_sixes (cap := cap) E1.out hlt (by omega)
      obtain ⟨r0, r1, r2, r3, r4, r5⟩ := (C1'.out c hlt x hx).below hR.out.below
      have HA := Lib.hid (Rw.refl (g := g) (hR.out.own.alloc (.cells #[.int .i64 x.op, .int .i64 x.d, .int .i64 x.a, .int .i64 x.b, .int .i64 x.c, .int .i64 x.v] 59)) (hR.out.below.alloc hR.out.below.size _))
      have HBX := Lib.hid (heap_alloc_new wr (.cells #[.int .i64 x.op, .int .i64 x.d, .int .i64 x.a, .int .i64 x.b, .int .i64 x.c, .int .i64 x.v] 59))
      obtain ⟨K, hK⟩ : ∃ K, K = wr.heap.size := ⟨_, rfl⟩
      have hgl : g < wr.heap.size := by
        obtain ⟨_, cur, hc, _⟩ := own_at hR.out.own
        exact lt_of_heap hc
      have HK : Hid (K < (wr.alloc (.cells #[.int .i64 x.op, .int .i64 x.d, .int .i64 x.a, .int .i64 x.b, .int .i64 x.c, .int .i64 x.v] 59)).heap.size ∧ K ≠ g) := Lib.hid ⟨by rw [World.size_alloc]; omega, by omega⟩
      rw [← hK] at HBX
      have HKE := Lib.hid hK
      have q1 := encN_ten xok.1
      have q2 := encN_ten xok.2.1
      have q3 := encN_ten xok.2.2.1
      have q4 := encN_ten xok.2.2.2.1
      have q5 := encN_ten xok.2.2.2.2.1
      have C1 := Lib.hid (rnumber_any w0 g cap2 m x.op xok.1 (by omega) _ HA.out.own HA.out.below)
      have N2 := Lib.hid fun (ga ca : Nat) (z : World) (hz : Rw w0 g (wr.alloc (.cells #[.int .i64 x.op, .int .i64 x.d, .int .i64 x.a, .int .i64 x.b, .int .i64 x.c, .int .i64 x.v] 59)) (m ++ encN x.op) ga ca z) => rnumber_any w0 ga ca _ x.d xok.2.1 (by simp only [List.length_append]; omega) z hz.own hz.below
      have N3 := Lib.hid fun (ga ca : Nat) (z : World) (hz : Rw w0 g (wr.alloc (.cells #[.int .i64 x.op, .int .i64 x.d, .int .i64 x.a, .int .i64 x.b, .int .i64 x.c, .int .i64 x.v] 59)) ((m ++ encN x.op) ++ encN x.d) ga ca z) => rnumber_any w0 ga ca _ x.a xok.2.2.1 (by simp only [List.length_append]; omega) z hz.own hz.below
      have N4 := Lib.hid fun (ga ca : Nat) (z : World) (hz : Rw w0 g (wr.alloc (.cells #[.int .i64 x.op, .int .i64 x.d, .int .i64 x.a, .int .i64 x.b, .int .i64 x.c, .int .i64 x.v] 59)) (((m ++ encN x.op) ++ encN x.d) ++ encN x.a) ga ca z) => rnumber_any w0 ga ca _ x.b xok.2.2.2.1 (by simp only [List.length_append]; omega) z hz.own hz.below
      have N5 := Lib.hid fun (ga ca : Nat) (z : World) (hz : Rw w0 g (wr.alloc (.cells #[.int .i64 x.op, .int .i64 x.d, .int .i64 x.a, .int .i64 x.b, .int .i64 x.c, .int .i64 x.v] 59)) ((((m ++ encN x.op) ++ encN x.d) ++ encN x.a) ++ encN x.b) ga ca z) => rnumber_any w0 ga ca _ x.c xok.2.2.2.2.1 (by simp only [List.length_append]; omega) z hz.own hz.below
      have N6 := Lib.hid fun (ga ca : Nat) (z : World) (hz : Rw w0 g (wr.alloc (.cells #[.int .i64 x.op, .int .i64 x.d, .int .i64 x.a, .int .i64 x.b, .int .i64 x.c, .int .i64 x.v] 59)) (((((m ++ encN x.op) ++ encN x.d) ++ encN x.a) ++ encN x.b) ++ encN x.c) ga ca z) => rnumber_any w0 ga ca _ x.v xok.2.2.2.2.2 (by simp only [List.length_append]; omega) z hz.own hz.below
      have HM : Hid ((((((m ++ encN x.op) ++ encN x.d) ++ encN x.a) ++ encN x.b) ++ encN x.c) ++ encN x.v = l ++ (encN (n : Int) ++ (L.take (c + 1)).flatMap encI)) := Lib.hid (by rw [hM.out, take_next hx]; simp [encI])
      unfold Ix at ix1
      clear hml xok hx hlt2 hM hK hgl q1 q2 q3 q4 q5
      go_wp2_with (first
        | (go_at_call 22; ((with_reducible refine (C1.out).mono ?_); rintro e z1 ⟨g1, cp1, he1, hr1⟩; obtain ⟨u1, hu1⟩ : ∃ u, u = (m ++ encN x.op).length := ⟨_, rfl⟩; rw [← hu1] at he1; subst he1; have HU1 := Lib.hid hu1; have R1 := Lib.hid (HA.out.trans hr1); have cc2 := N2.out g1 cp1 z1 R1.out; rw [← hu1] at cc2; have C2 := Lib.hid cc2; have hb1 := ((R1.out.keep K HK.out.1 HK.out.2).1).trans HBX.out; have y1 : z1.cell? ⟨wr.heap.size, 1, none⟩ = some (.int .i64 x.d) := (by rw [← HKE.out]; simp [World.cell?, hb1]); clear hb1 hr1 hu1 cc2))
        | (go_at_call 22; ((with_reducible refine (C2.out).mono ?_); rintro e z2 ⟨g2, cp2, he2, hr2⟩; obtain ⟨u2, hu2⟩ : ∃ u, u = ((m ++ encN x.op) ++ encN x.d).length := ⟨_, rfl⟩; rw [← hu2] at he2; subst he2; have HU2 := Lib.hid hu2; have R2 := Lib.hid (R1.out.trans hr2); have cc3 := N3.out g2 cp2 z2 R2.out; rw [← hu2] at cc3; have C3 := Lib.hid cc3; have hb2 := ((R2.out.keep K HK.out.1 HK.out.2).1).trans HBX.out; have y2 : z2.cell? ⟨wr.heap.size, 2, none⟩ = some (.int .i64 x.a) := (by rw [← HKE.out]; simp [World.cell?, hb2]); clear hb2 hr2 hu2 cc3))
        | (go_at_call 22; ((with_reducible refine (C3.out).mono ?_); rintro e z3 ⟨g3, cp3, he3, hr3⟩; obtain ⟨u3, hu3⟩ : ∃ u, u = (((m ++ encN x.op) ++ encN x.d) ++ encN x.a).length := ⟨_, rfl⟩; rw [← hu3] at he3; subst he3; have HU3 := Lib.hid hu3; have R3 := Lib.hid (R2.out.trans hr3); have cc4 := N4.out g3 cp3 z3 R3.out; rw [← hu3] at cc4; have C4 := Lib.hid cc4; have hb3 := ((R3.out.keep K HK.out.1 HK.out.2).1).trans HBX.out; have y3 : z3.cell? ⟨wr.heap.size, 3, none⟩ = some (.int .i64 x.b) := (by rw [← HKE.out]; simp [World.cell?, hb3]); clear hb3 hr3 hu3 cc4))
        | (go_at_call 22; ((with_reducible refine (C4.out).mono ?_); rintro e z4 ⟨g4, cp4, he4, hr4⟩; obtain ⟨u4, hu4⟩ : ∃ u, u = ((((m ++ encN x.op) ++ encN x.d) ++ encN x.a) ++ encN x.b).length := ⟨_, rfl⟩; rw [← hu4] at he4; subst he4; have HU4 := Lib.hid hu4; have R4 := Lib.hid (R3.out.trans hr4); have cc5 := N5.out g4 cp4 z4 R4.out; rw [← hu4] at cc5; have C5 := Lib.hid cc5; have hb4 := ((R4.out.keep K HK.out.1 HK.out.2).1).trans HBX.out; have y4 : z4.cell? ⟨wr.heap.size, 4, none⟩ = some (.int .i64 x.c) := (by rw [← HKE.out]; simp [World.cell?, hb4]); clear hb4 hr4 hu4 cc5))
        | (go_at_call 22; ((with_reducible refine (C5.out).mono ?_); rintro e z5 ⟨g5, cp5, he5, hr5⟩; obtain ⟨u5, hu5⟩ : ∃ u, u = (((((m ++ encN x.op) ++ encN x.d) ++ encN x.a) ++ encN x.b) ++ encN x.c).length := ⟨_, rfl⟩; rw [← hu5] at he5; subst he5; have HU5 := Lib.hid hu5; have R5 := Lib.hid (R4.out.trans hr5); have cc6 := N6.out g5 cp5 z5 R5.out; rw [← hu5] at cc6; have C6 := Lib.hid cc6; have hb5 := ((R5.out.keep K HK.out.1 HK.out.2).1).trans HBX.out; have y5 : z5.cell? ⟨wr.heap.size, 5, none⟩ = some (.int .i64 x.v) := (by rw [← HKE.out]; simp [World.cell?, hb5]); clear hb5 hr5 hu5 cc6))
        | (go_at_call 22; ((with_reducible refine (C6.out).mono ?_); rintro e z6 ⟨g6, cp6, he6, hr6⟩; obtain ⟨u6, hu6⟩ : ∃ u, u = ((((((m ++ encN x.op) ++ encN x.d) ++ encN x.a) ++ encN x.b) ++ encN x.c) ++ encN x.v).length := ⟨_, rfl⟩; rw [← hu6] at he6; subst he6; have HU6 := Lib.hid hu6; have R6 := Lib.hid (R5.out.trans hr6); clear hr6 hu6)))
      have hfin := (hR.out.alloc (.cells #[.int .i64 x.op, .int .i64 x.d, .int .i64 x.a, .int .i64 x.b, .int .i64 x.c, .int .i64 x.v] 59)).trans R6.out
      rw [HM.out] at hfin
      refine ⟨⟨c + 1, _, g6, cp6, ?_, by go_num, by omega, Lib.hid rfl, Lib.hid hfin⟩, by simp [litLen]; omega⟩
      rw [← HM.out, HU6.out]
    · obtain rfl : c = n := by omega
      have hno : ¬ (c : Int) < (c : Int) := by omega
      go_wp2_with fail
      go_ret
      have hend : m = l ++ encL encI L := by
        rw [hM.out, HN.out, List.take_length]
        rfl
      have h2 := hR.out
      rw [hend] at h2
      exact ⟨g, cap2, by rw [← hend]; rfl, h2⟩
end Go.Proofs.Ytodblepbedhnnaa
