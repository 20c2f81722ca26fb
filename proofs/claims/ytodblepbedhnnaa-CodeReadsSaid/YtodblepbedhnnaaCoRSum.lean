/- The reference's Sum: bytes with their sum behind them. -/
import Derived.Test.YtodblepbedhnnaaCoRef
namespace Go.Proofs.Ytodblepbedhnnaa
open Go.RowKit Co

attribute [local go_sem] Oper.semAt_some

theorem four_at {S c : Nat} (hc : c < 4) : (four S)[c]? = some (UInt8.ofNat (S / 256 ^ c % 256)) := by
  obtain rfl | rfl | rfl | rfl : c = 0 ∨ c = 1 ∨ c = 2 ∨ c = 3 := by omega
  all_goals simp [four]
theorem own_nil (w0 w : World) (hb : Below w0.heap.size w0 w) : (w.alloc (.cells #[] 5)).ownsRow w0.heap.size 5 1 (.slice (some ⟨w.heap.size, 0, none⟩) 0 0) 0 [] :=
  own_mk hb.size (heap_alloc_new w _) (Nat.zero_le _) (by unfold maxLen; omega) rfl rfl rfl
/-- bytes put behind none -/
theorem wpList_catR {w0 Z : World} {l : List UInt8} (hb : Hid (Below w0.heap.size w0 Z)) {b off n cap : Nat} (hn : Hid (n = l.length)) (hp : 0 < n) (hl : n ≤ 1000000) (hc : Hid (∀ i, i < n → ∀ x, l[i]? = some x → Z.cell? ⟨b, off + i * 1, none⟩ = some (.int .u8 (x.toNat : Int)))) {ops : Array Oper} {rest : List Oper} {o : Oper} {act : Act} {Q : Exit → Act → World → Prop} (hgd : o.guard = none) (s t : Operand)
    (hop : o.op = Op.call { callee := Callee.builtin Builtin.append, args := #[s, t], argTypes := #[29, 29] }) {H : Nat} (hH : Z.heap.size = H) (hs : act.eval s = .slice (some ⟨H, 0, none⟩) 0 0) (hx : act.eval t = .slice (some ⟨b, off, none⟩) n cap)
    (hK : ∀ g' cap' Y, Hid (Y.ownsRow w0.heap.size 5 1 (.slice (some ⟨g', 0, none⟩) n cap') n (bc l)) → Hid (Below w0.heap.size w0 Y) → wpList Try.prog ops Q rest (act.put o.dst (.slice (some ⟨g', 0, none⟩) n cap')) Y) :
    wpList Try.prog ops Q (o :: rest) act (Z.alloc (.cells #[] 5)) := by
  subst hH
  obtain ⟨i, h2, h3, h4, h5⟩ := byte_parts
  have hb := hb.out
  have hn := hn.out
  have hba := hb.alloc hb.size (.cells #[] 5)
  refine wpList_append_lies (w := _) hgd s t 29 hop w0.heap.size 5 i (.int .u8 0) 1 1 Try.underlying29 h2 h3 h4 h5 rfl (by decide) _ 0 [] hs (own_nil w0 Z hb) ⟨b, off, none⟩ n cap (bc l) hx (by rw [bc_len, hn, Nat.mul_one]) (fun j u hu => ?_) (fun u hu => ?_) hp (by unfold maxLen; omega) (by omega) (by rw [World.size_alloc]; have := hb.size; omega) _ rfl fun g' cap' Y ho hgr hw _ => ?_
  · unfold bc at hu
    rw [List.getElem?_map] at hu
    obtain ⟨x, hx, rfl⟩ := Option.map_eq_some_iff.1 hu
    have hj : j < n := by rw [hn]; exact (List.getElem?_eq_some_iff.1 hx).1
    have h1 := hc.out j hj x hx
    rw [Nat.mul_one] at h1
    exact cell_on ((Below.refl _ Z).alloc (Nat.le_refl _) _) (by cases j with | zero => simpa [Addr.add] using h1 | succ k => simpa [Addr.add] using h1)
  · unfold bc at hu
    obtain ⟨x, _, rfl⟩ := List.mem_map.1 hu
    rfl
  · rw [Nat.zero_add, List.nil_append] at ho
    have := hK g' cap' Y (Lib.hid ho) (Lib.hid (hba.grown hgr hba.size (fun k e => by have e' : Z.heap.size = k := Option.some.inj e; have := hb.size; omega)))
    simpa using this
set_option maxHeartbeats 8000000 in
set_option maxRecDepth 100000 in
theorem rsum_any (w0 : World) (l : List UInt8) (s : Value) (w : World) (hs : BytesAt w s l) (hb : Below w0.heap.size w0 w) (hp : 0 < l.length) (hl : l.length ≤ 400000) :
    Calls Try.prog 24 #[s] w fun e w' => OwnB w0 (sealN l) e w' := by
  obtain ⟨o, cap, b, off, rfl, _, _, e1, c1⟩ := hs
  obtain ⟨n, hn⟩ : ∃ n, n = l.length := ⟨_, rfl⟩
  rw [← hn] at e1 c1 hl hp ⊢
  obtain rfl := e1 hp
  have HN := Lib.hid hn
  have C1 := Lib.hid c1
  have hnl : (n : Int) ≤ 400000 := by omega
  have HB := Lib.hid hb
  have HP := Lib.hid hp
  clear hn e1 c1 hl hb hp
  go_enter Try.func24, Try.ntmps24
  go_wp2_with fail
  go_loopw [4, 3] (fun i t wr => ∃ (c : Nat), i = .int .i64 (c : Int) ∧ t = .int .u32 ((sumN (l.take c) : Nat) : Int) ∧ c ≤ n ∧ Hid (wr = w)) (fun i _ _ => n - litLen i)
  case atStart => exact ⟨0, rfl, rfl, Nat.zero_le _, Lib.hid rfl⟩
  case round =>
    obtain ⟨c, rfl, rfl, hc, hW⟩ := hrel
    obtain rfl := hW.out
    clear hW
    rcases Nat.lt_or_ge c n with hlt | hge
    · have hcl : (c : Int) < (n : Int) := by omega
      obtain ⟨x, hx⟩ : ∃ x, l[c]? = some x := ⟨_, List.getElem?_eq_getElem (by rw [← HN.out]; exact hlt)⟩
      have hsn := sumN_next hx
      have hlt1 := sumN_lt (l.take c)
      have hlt2 := sumN_lt (l.take (c + 1))
      have r1 := C1.out c hlt x hx
      have ix1 := ix_bytes (o := some ⟨b, off, none⟩) (cap := cap) (b := b) (off := off) (fun _ => rfl) hlt (by omega)
      unfold Ix at ix1
      rw [Nat.mul_one] at r1 ix1
      have xl : x.toNat < 256 := x.toNat_lt
      obtain ⟨σ, hσ⟩ : ∃ σ, σ = sumN (l.take c) := ⟨_, rfl⟩
      obtain ⟨τ, hτ⟩ : ∃ τ, τ = sumN (l.take (c + 1)) := ⟨_, rfl⟩
      obtain ⟨ξ, hξ⟩ : ∃ ξ, ξ = x.toNat := ⟨_, rfl⟩
      have x1 := u32_xor_nat σ ξ (by omega) (by omega)
      have xr := xor_lt (s := σ) (t := ξ) (by omega) (by omega)
      have st : τ = (σ ^^^ ξ) * 16777619 % 4294967296 := by rw [hτ, hsn, hσ, hξ]; rfl
      obtain ⟨ρ, hρ⟩ : ∃ ρ, ρ = σ ^^^ ξ := ⟨_, rfl⟩
      rw [← hρ] at x1 xr st
      have x2 : IntKind.u32.wrap ((ρ : Int) * 16777619) = (τ : Int) := by rw [IntKind.wrap_u32']; omega
      have s1 : (σ : Int) ≤ 4294967295 := by omega
      have s2 : (ξ : Int) ≤ 255 := by omega
      have s3 : (ρ : Int) ≤ 4294967295 := by omega
      have HT := Lib.hid hτ
      rw [← hξ] at r1
      rw [← hσ]
      clear hsn hlt1 hlt2 xl hσ hτ hξ hx xr st hρ
      go_wp2_with fail
      exact ⟨⟨c + 1, by go_num, by rw [HT.out], by omega, Lib.hid trivial⟩, by simp [litLen]; omega⟩
    · obtain rfl : c = n := by omega
      have hno : ¬ (c : Int) < (c : Int) := by omega
      have hSS : sumN (l.take c) = sumN l := by rw [HN.out, List.take_length]
      rw [hSS]
      have hlt := sumN_lt l
      obtain ⟨S, hS⟩ : ∃ S, S = sumN l := ⟨_, rfl⟩
      rw [← hS] at hlt ⊢
      have HS := Lib.hid hS
      have HLT := Lib.hid hlt
      have s1 : (S : Int) ≤ 4294967295 := by omega
      clear hSS hlt hS
      go_wp2_with (at_builtin; refine wpList_catR (l := l) (cap := cap) HB HN HP.out (by omega) C1 rfl (.tmp 21) (.tmp 22) rfl rfl rfl rfl ?_; intro g1 cap1 Y HO HY)
      have HR0 := Lib.hid (Rw.refl (l := l) (g := g1) (cap := cap1) (by have h := HO.out; rw [HN.out] at h; exact h) HY.out)
      go_loopw [5, 3, 6] (fun d x k wr => ∃ (j : Nat) (m : List UInt8) (g cap : Nat), d = .slice (some ⟨g, 0, none⟩) m.length cap ∧ x = .int .u32 ((S / 256 ^ j : Nat) : Int) ∧ k = .int .i64 (j : Int) ∧ j ≤ 4 ∧ Hid (m = l ++ (four S).take j) ∧ Hid (Rw w0 g1 Y m g cap wr)) (fun _ _ k _ => 4 - litLen k)
      case atStart => exact ⟨0, l, g1, cap1, by rw [HN.out], by simp, rfl, Nat.zero_le _, Lib.hid (by simp), HR0⟩
      case round =>
        obtain ⟨j, m, g, cap2, rfl, rfl, rfl, hj, hM, hR⟩ := hrel
        rcases Nat.lt_or_ge j 4 with hlt | hge
        · have hjl : (j : Int) < 4 := by omega
          have hml : m.length ≤ 500000 := by
            have h1 := congrArg List.length hM.out
            rw [List.length_append, List.length_take, ← HN.out] at h1
            have h2 : (four S).length = 4 := rfl
            omega
          obtain ⟨p, hp⟩ : ∃ p, p = S / 256 ^ j := ⟨_, rfl⟩
          have hpS : p ≤ S := by rw [hp]; exact Nat.div_le_self _ _
          have hzz : (p : Int) % 256 = ((UInt8.ofNat (p % 256)).toNat : Int) := by rw [byte_val (by omega)]; omega
          have HZ := Lib.hid hzz
          have xd : (p : Int).tdiv 256 = ((p / 256 : Nat) : Int) := by rw [Int.tdiv_eq_ediv_of_nonneg (by omega)]; omega
          have hnx : p / 256 = S / 256 ^ (j + 1) := by rw [hp, Nat.div_div_eq_div_mul, Nat.pow_succ]
          have HNX := Lib.hid hnx
          have HM : Hid (m ++ [UInt8.ofNat (p % 256)] = l ++ (four S).take (j + 1)) := Lib.hid (by rw [hM.out, take_next (four_at hlt), hp]; simp)
          have pb : (p : Int) ≤ 4294967295 := by have := HLT.out; omega
          have pb2 : ((p / 256 : Nat) : Int) ≤ 4294967295 := by omega
          rw [← hp]
          clear hzz hnx hp hpS hM
          go_wp2_with (at_builtin; refine wpList_pushR hR (UInt8.ofNat (p % 256)) _ HZ.out (by omega) rfl (.tmp 28) (.tmp 32) rfl rfl rfl rfl ?_; intro g2 cap3 Y2 HP2)
          exact ⟨⟨j + 1, m ++ [UInt8.ofNat (p % 256)], g2, cap3, by simp, by have := HNX.out; first | (rw [← this]; rfl) | (rw [← this]; congr 1), by go_num, by omega, HM, HP2⟩, by simp [litLen]; omega⟩
        · obtain rfl : j = 4 := by omega
          go_wp2_with fail
          go_ret
          have hend : m = sealN l := by rw [hM.out, HS.out]; rfl
          have h2 := hR.out
          rw [hend] at h2
          exact ⟨g, cap2, by rw [← hend]; rfl, h2.own, h2.below⟩
end Go.Proofs.Ytodblepbedhnnaa
