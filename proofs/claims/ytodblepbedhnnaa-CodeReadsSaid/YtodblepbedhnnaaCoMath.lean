/- An object's bytes, as mathematics: numbers in bytes of seven bits, lists of them, the sum behind them; what is read of any bytes. -/
import Derived.WalkKit
namespace Go.Proofs.Ytodblepbedhnnaa.Co

/-- a number without its sign -/
def fold (v : Int) : Nat := if 0 ≤ v then (2 * v).toNat else (-2 * v - 1).toNat
def unfold (u : Nat) : Int := if u % 2 = 0 then ((u / 2 : Nat) : Int) else -((u / 2 : Nat) : Int) - 1
def i64 (v : Int) : Prop := -9223372036854775808 ≤ v ∧ v ≤ 9223372036854775807
theorem unfold_fold (v : Int) : unfold (fold v) = v := by unfold unfold fold; split <;> split <;> omega
theorem fold_unfold (u : Nat) : fold (unfold u) = u := by unfold unfold fold; split <;> split <;> omega
theorem fold_lt {v : Int} (h : i64 v) : fold v < 18446744073709551616 := by obtain ⟨h1, h2⟩ := h; unfold fold; split <;> omega
theorem unfold_ok {u : Nat} (h : u < 18446744073709551616) : i64 (unfold u) := by unfold unfold i64; split <;> omega
/-- its bytes -/
def numL (u : Nat) : List UInt8 := if u < 128 then [UInt8.ofNat u] else UInt8.ofNat (u % 128 + 128) :: numL (u / 128)
theorem numL_small {u : Nat} (h : u < 128) : numL u = [UInt8.ofNat u] := by rw [numL, if_pos h]
theorem numL_big {u : Nat} (h : 128 ≤ u) : numL u = UInt8.ofNat (u % 128 + 128) :: numL (u / 128) := by rw [numL, if_neg (by omega)]
theorem numL_len : ∀ (k u : Nat), u < 128 ^ (k + 1) → 1 ≤ (numL u).length ∧ (numL u).length ≤ k + 1
  | 0, u, h => by rw [numL_small (by omega)]; exact ⟨Nat.le_refl _, Nat.le_refl _⟩
  | k + 1, u, h => by
    rcases Nat.lt_or_ge u 128 with h1 | h1
    · rw [numL_small h1]; exact ⟨Nat.le_refl _, by simp⟩
    · rw [numL_big h1]
      have := numL_len k (u / 128) (by rw [Nat.pow_succ] at h; omega)
      simp only [List.length_cons]; omega
theorem numL_pos (u : Nat) : 1 ≤ (numL u).length := by
  rcases Nat.lt_or_ge u 128 with h1 | h1
  · rw [numL_small h1]; exact Nat.le_refl _
  · rw [numL_big h1]; simp
theorem numL_ten {u : Nat} (h : u < 18446744073709551616) : (numL u).length ≤ 10 := (numL_len 9 u (Nat.lt_of_lt_of_le h (by decide))).2
/-- a number that is read, so many bits of which were there -/
def rdF : List UInt8 → Nat → Nat → Option (Nat × List UInt8)
  | [], _, _ => none
  | c :: r, b, f => if 18446744073709551616 ≤ c.toNat % 128 * 2 ^ b then none
    else if c.toNat = 0 ∧ 0 < b then none
    else if 128 ≤ c.toNat then rdF r (b + 7) (f + c.toNat % 128 * 2 ^ b)
    else some (f + c.toNat % 128 * 2 ^ b, r)
theorem rdF_less : ∀ (l : List UInt8) (b f : Nat) {u : Nat} {r : List UInt8}, rdF l b f = some (u, r) → r.length < l.length
  | [], _, _, _, _, h => by cases h
  | c :: t, b, f, u, r, h => by
    unfold rdF at h
    split at h
    · cases h
    · split at h
      · cases h
      · split at h
        · have := rdF_less t _ _ h; simp only [List.length_cons]; omega
        · cases h; simp
theorem byte_val {n : Nat} (h : n < 256) : (UInt8.ofNat n).toNat = n := UInt8.toNat_ofNat_of_lt' h
theorem rdF_numL : ∀ (n u b f : Nat) (r : List UInt8), u < n → u * 2 ^ b < 18446744073709551616 → (0 < u ∨ b = 0) → rdF (numL u ++ r) b f = some (f + u * 2 ^ b, r)
  | 0, _, _, _, _, h, _, _ => by omega
  | n + 1, u, b, f, r, hn, h, hp => by
    rcases Nat.lt_or_ge u 128 with h1 | h1
    · rw [numL_small h1]
      show rdF (UInt8.ofNat u :: r) b f = _
      unfold rdF
      rw [byte_val (by omega), Nat.mod_eq_of_lt h1, if_neg (by omega), if_neg (by omega), if_neg (by omega)]
    · rw [numL_big h1]
      show rdF (UInt8.ofNat (u % 128 + 128) :: (numL (u / 128) ++ r)) b f = _
      unfold rdF
      have e1 : (u % 128 + 128) % 128 = u % 128 := by omega
      have e2 : 2 ^ (b + 7) = 2 ^ b * 128 := by rw [Nat.pow_add]
      have e3 : u % 128 * 2 ^ b + u / 128 * 2 ^ (b + 7) = u * 2 ^ b := by
        rw [e2, Nat.mul_comm (2 ^ b) 128, ← Nat.mul_assoc, ← Nat.add_mul]
        congr 1; omega
      rw [byte_val (by omega), e1, if_neg (by omega), if_neg (by omega), if_pos (by omega), rdF_numL n (u / 128) (b + 7) _ r (by omega) (by omega) (by omega), Nat.add_assoc, e3]
theorem numL_rdF : ∀ (l : List UInt8) (b f : Nat) {w : Nat} {r : List UInt8}, rdF l b f = some (w, r) → ∃ u, w = f + u * 2 ^ b ∧ l = numL u ++ r ∧ u * 2 ^ b < 18446744073709551616 ∧ (0 < u ∨ b = 0)
  | [], _, _, _, _, h => by cases h
  | c :: t, b, f, w, r, h => by
    have hc : c.toNat < 256 := c.toNat_lt
    unfold rdF at h
    split at h
    · cases h
    · rename_i h1
      split at h
      · cases h
      · rename_i h2
        split at h
        · rename_i h3
          obtain ⟨u, rfl, rfl, hu, hp⟩ := numL_rdF t _ _ h
          have e2 : 2 ^ (b + 7) = 2 ^ b * 128 := by rw [Nat.pow_add]
          have e3 : u * 2 ^ (b + 7) = u * 128 * 2 ^ b := by rw [e2, Nat.mul_assoc, Nat.mul_comm 128]
          have e4 : c.toNat % 128 * 2 ^ b + u * 128 * 2 ^ b = (c.toNat % 128 + u * 128) * 2 ^ b := by rw [Nat.add_mul]
          have hu0 : 0 < u := hp.elim id (fun h4 => by omega)
          refine ⟨c.toNat % 128 + u * 128, by rw [e3, ← e4, Nat.add_assoc], ?_, ?_, .inl (by omega)⟩
          · rw [numL_big (u := c.toNat % 128 + u * 128) (by omega)]
            have e5 : (c.toNat % 128 + u * 128) % 128 + 128 = c.toNat := by omega
            have e6 : (c.toNat % 128 + u * 128) / 128 = u := by omega
            rw [e5, e6, UInt8.ofNat_toNat]
            rfl
          · have hb : b + 7 ≤ 64 := Nat.le_of_not_lt fun hlt => by
              have h5 : 2 ^ 64 ≤ 2 ^ (b + 7) := Nat.pow_le_pow_right (by omega) (by omega)
              have h6 : 1 * 2 ^ (b + 7) ≤ u * 2 ^ (b + 7) := Nat.mul_le_mul_right _ hu0
              omega
            have e7 : (18446744073709551616 : Nat) = 2 ^ (64 - (b + 7)) * 2 ^ (b + 7) := by rw [← Nat.pow_add, Nat.sub_add_cancel hb]
            have h8 : u < 2 ^ (64 - (b + 7)) := Nat.lt_of_mul_lt_mul_right (a := 2 ^ (b + 7)) (by omega)
            have h9 : (u + 1) * 2 ^ (b + 7) ≤ 2 ^ (64 - (b + 7)) * 2 ^ (b + 7) := Nat.mul_le_mul_right _ h8
            have h10 : c.toNat % 128 * 2 ^ b < 128 * 2 ^ b := Nat.mul_lt_mul_of_pos_right (by omega) (Nat.two_pow_pos b)
            rw [Nat.add_mul, Nat.one_mul] at h9
            rw [← e4]
            omega
        · rename_i h3
          cases h
          refine ⟨c.toNat, by rw [Nat.mod_eq_of_lt (by omega)], ?_, by rw [Nat.mod_eq_of_lt (by omega)] at h1; omega, by omega⟩
          rw [numL_small (by omega), UInt8.ofNat_toNat]
          rfl

/-- what a reader has left; none: it is lost -/
abbrev St := Option (List UInt8)
def num : St → Int × St
  | none => (0, none)
  | some l => match rdF l 0 0 with
    | some (u, r) => (unfold u, some r)
    | none => (0, none)
def encN (v : Int) : List UInt8 := numL (fold v)
theorem num_enc {v : Int} (h : i64 v) (r : List UInt8) : num (some (encN v ++ r)) = (v, some r) := by
  unfold num encN
  simp only [rdF_numL _ (fold v) 0 0 r (Nat.lt_succ_self _) (by have := fold_lt h; omega) (.inr rfl)]
  rw [show 0 + fold v * 2 ^ 0 = fold v by omega, unfold_fold]
theorem enc_num {l r : List UInt8} {v : Int} (h : num (some l) = (v, some r)) : l = encN v ++ r ∧ i64 v := by
  unfold num at h
  simp only at h
  split at h
  · rename_i u r' hr
    cases h
    obtain ⟨w, e1, e2, e3, _⟩ := numL_rdF l 0 0 hr
    have e4 : w = u := by omega
    subst e4
    unfold encN
    rw [fold_unfold]
    exact ⟨e2, unfold_ok (by omega)⟩
  · cases h
/-- how what is read is written -/
structure Codec {α : Type} (each : St → α × St) (enc : α → List UInt8) (ok : α → Prop) (least : Nat) : Prop where
  to : ∀ {x : α}, ok x → ∀ r, each (some (enc x ++ r)) = (x, some r)
  of : ∀ {l r : List UInt8} {x : α}, each (some l) = (x, some r) → l = enc x ++ r ∧ ok x
  dead : (each none).2 = none
  len : ∀ x, least ≤ (enc x).length
theorem num_codec : Codec num encN i64 1 := ⟨fun h r => num_enc h r, fun h => enc_num h, rfl, fun _ => numL_pos _⟩
def cnt (least : Nat) (s : St) : Nat × St := match num s with
  | (_, none) => (0, none)
  | (n, some r) => if n < 0 ∨ ((r.length / least : Nat) : Int) < n then (0, none) else (n.toNat, some r)
def many {α : Type} (each : St → α × St) : Nat → St → List α × St
  | 0, s => ([], s)
  | n + 1, s => ((each s).1 :: (many each n (each s).2).1, (many each n (each s).2).2)
theorem many_length {α : Type} (each : St → α × St) : ∀ (n : Nat) (s : St), (many each n s).1.length = n
  | 0, _ => rfl
  | n + 1, s => by unfold many; simp [many_length each n]
theorem many_snoc {α : Type} (each : St → α × St) : ∀ (n : Nat) (s : St), many each (n + 1) s = ((many each n s).1 ++ [(each (many each n s).2).1], (each (many each n s).2).2)
  | 0, s => rfl
  | n + 1, s => by
    have h := many_snoc each n (each s).2
    show ((each s).1 :: (many each (n + 1) (each s).2).1, (many each (n + 1) (each s).2).2) = _
    rw [h]
    rfl
def lst {α : Type} (least : Nat) (each : St → α × St) (s : St) : List α × St := many each (cnt least s).1 (cnt least s).2
theorem many_dead {α : Type} {each : St → α × St} {enc : α → List UInt8} {ok : α → Prop} {least : Nat} (C : Codec each enc ok least) : ∀ n, (many each n none).2 = none
  | 0 => rfl
  | n + 1 => by show (many each n (each none).2).2 = none; rw [C.dead]; exact many_dead C n
theorem many_to {α : Type} {each : St → α × St} {enc : α → List UInt8} {ok : α → Prop} {least : Nat} (C : Codec each enc ok least) : ∀ (l : List α) (r : List UInt8), (∀ x ∈ l, ok x) → many each l.length (some (l.flatMap enc ++ r)) = (l, some r)
  | [], r, _ => rfl
  | x :: l, r, h => by
    have h1 := C.to (h x (List.mem_cons_self)) (l.flatMap enc ++ r)
    have h2 := many_to C l r fun y hy => h y (List.mem_cons_of_mem _ hy)
    show (_, _) = _
    rw [List.flatMap_cons, List.append_assoc, h1]
    show (x :: (many each l.length (some (l.flatMap enc ++ r))).1, (many each l.length (some (l.flatMap enc ++ r))).2) = _
    rw [h2]
theorem many_of {α : Type} {each : St → α × St} {enc : α → List UInt8} {ok : α → Prop} {least : Nat} (C : Codec each enc ok least) : ∀ (n : Nat) {b r : List UInt8} {l : List α}, many each n (some b) = (l, some r) → b = l.flatMap enc ++ r ∧ ∀ x ∈ l, ok x
  | 0, b, r, l, h => by cases h; exact ⟨rfl, fun x hx => by cases hx⟩
  | n + 1, b, r, l, h => by
    unfold many at h
    rcases hx : each (some b) with ⟨x, _ | t⟩
    · rw [hx] at h
      have := many_dead C n
      simp only at h
      rw [Prod.mk.injEq, this] at h
      cases h.2
    · rw [hx] at h
      simp only at h
      rcases hm : many each n (some t) with ⟨m, s⟩
      rw [hm] at h
      simp only [Prod.mk.injEq] at h
      obtain ⟨rfl, rfl⟩ := h
      obtain ⟨h1, h2⟩ := many_of C n hm
      obtain ⟨h3, h4⟩ := C.of hx
      refine ⟨by rw [h3, h1, List.flatMap_cons, List.append_assoc], fun y hy => ?_⟩
      rcases List.mem_cons.1 hy with rfl | h5
      · exact h4
      · exact h2 y h5
def encL {α : Type} (enc : α → List UInt8) (l : List α) : List UInt8 := encN l.length ++ l.flatMap enc
theorem flat_len {α : Type} {enc : α → List UInt8} {least : Nat} (h : ∀ x, least ≤ (enc x).length) : ∀ l : List α, least * l.length ≤ (l.flatMap enc).length
  | [] => by simp
  | x :: l => by
    have h1 := h x
    have h2 := flat_len h l
    rw [List.flatMap_cons, List.length_append, List.length_cons, Nat.mul_succ]
    omega
theorem lst_codec {α : Type} {each : St → α × St} {enc : α → List UInt8} {ok : α → Prop} {least : Nat} (C : Codec each enc ok least) (hl : 0 < least) : Codec (lst least each) (encL enc) (fun l => l.length ≤ 9223372036854775807 ∧ ∀ x ∈ l, ok x) 1 := by
  refine ⟨fun {l} h r => ?_, fun {b r l} h => ?_, many_dead C 0, fun l => ?_⟩
  · have e1 : num (some (encN (l.length : Int) ++ (l.flatMap enc ++ r))) = ((l.length : Int), some (l.flatMap enc ++ r)) := num_enc (by unfold i64; have := h.1; omega) _
    have e2 : cnt least (some (encL enc l ++ r)) = (l.length, some (l.flatMap enc ++ r)) := by
      unfold cnt encL
      rw [List.append_assoc, e1]
      have e3 := flat_len C.len l
      have e4 : l.length ≤ (l.flatMap enc ++ r).length / least := by
        rw [Nat.le_div_iff_mul_le hl, List.length_append, Nat.mul_comm]; omega
      simp only
      rw [if_neg (by omega)]
      rfl
    unfold lst
    rw [e2]
    exact many_to C l r h.2
  · unfold lst at h
    rcases hc : cnt least (some b) with ⟨n, _ | t⟩
    · rw [hc] at h
      have := many_dead C n
      simp only at h
      rw [h] at this
      cases this
    · rw [hc] at h
      simp only at h
      obtain ⟨h1, h2⟩ := many_of C n h
      have hn := many_length each n (some t)
      rw [h] at hn
      simp only at hn
      unfold cnt at hc
      rcases hm : num (some b) with ⟨k, _ | t'⟩
      · rw [hm] at hc; simp at hc
      · rw [hm] at hc
        simp only at hc
        split at hc
        · cases hc
        · rename_i hk
          cases hc
          obtain ⟨h3, h4⟩ := enc_num hm
          unfold i64 at h4
          have e5 : k = (l.length : Int) := by omega
          subst e5
          refine ⟨?_, by omega, h2⟩
          unfold encL
          rw [h3, h1, List.append_assoc]
  · unfold encL
    have := numL_pos (fold l.length)
    rw [List.length_append]
    unfold encN
    omega
/-- an instruction -/
structure Six where
  op : Int
  d : Int
  a : Int
  b : Int
  c : Int
  v : Int
def Six.ok (x : Six) : Prop := i64 x.op ∧ i64 x.d ∧ i64 x.a ∧ i64 x.b ∧ i64 x.c ∧ i64 x.v
def encI (x : Six) : List UInt8 := encN x.op ++ (encN x.d ++ (encN x.a ++ (encN x.b ++ (encN x.c ++ encN x.v))))
def six (s : St) : Six × St :=
  let a1 := num s
  let a2 := num a1.2
  let a3 := num a2.2
  let a4 := num a3.2
  let a5 := num a4.2
  let a6 := num a5.2
  (⟨a1.1, a2.1, a3.1, a4.1, a5.1, a6.1⟩, a6.2)
/-- what is read behind something that was read -/
theorem back {α : Type} {each : St → α × St} {enc : α → List UInt8} {ok : α → Prop} {least : Nat} (C : Codec each enc ok least) {s : St} {x : α} {r : List UInt8} (h : each s = (x, some r)) : ∃ l, s = some l ∧ l = enc x ++ r ∧ ok x := by
  rcases s with _ | l
  · have := C.dead
    rw [h] at this
    cases this
  · exact ⟨l, rfl, C.of h⟩
theorem pair_eta {α β : Type} (p : α × β) {y : β} (h : p.2 = y) : p = (p.1, y) := by rw [← h]
def seq2 {α β : Type} (e1 : St → α × St) (e2 : St → β × St) (s : St) : (α × β) × St := (((e1 s).1, (e2 (e1 s).2).1), (e2 (e1 s).2).2)
theorem seq_codec {α β : Type} {e1 : St → α × St} {e2 : St → β × St} {n1 : α → List UInt8} {n2 : β → List UInt8} {k1 : α → Prop} {k2 : β → Prop} {l1 l2 : Nat} (C : Codec e1 n1 k1 l1) (D : Codec e2 n2 k2 l2) :
    Codec (seq2 e1 e2) (fun p => n1 p.1 ++ n2 p.2) (fun p => k1 p.1 ∧ k2 p.2) (l1 + l2) := by
  refine ⟨fun {x} h r => ?_, fun {l r x} h => ?_, ?_, fun x => ?_⟩
  · unfold seq2
    rw [List.append_assoc, C.to h.1, D.to h.2]
  · unfold seq2 at h
    simp only [Prod.mk.injEq] at h
    obtain ⟨rfl, h2⟩ := h
    obtain ⟨t, e, f, k⟩ := back D (pair_eta _ h2)
    obtain ⟨g1, g2⟩ := C.of (pair_eta _ e)
    exact ⟨g1.trans (by rw [f, List.append_assoc]), g2, k⟩
  · unfold seq2
    rw [C.dead, D.dead]
  · have h1 := C.len x.1
    have h2 := D.len x.2
    rw [List.length_append]
    omega
theorem map_codec {α β : Type} {e : St → α × St} {n : α → List UInt8} {k : α → Prop} {l : Nat} (C : Codec e n k l) (f : α → β) (g : β → α) (hf : ∀ a, g (f a) = a) (hg : ∀ b, f (g b) = b) :
    Codec (fun s => (f (e s).1, (e s).2)) (fun b => n (g b)) (fun b => k (g b)) l := by
  refine ⟨fun {x} h r => ?_, fun {b r x} h => ?_, C.dead, fun x => C.len _⟩
  · rw [C.to h, hg]
  · simp only [Prod.mk.injEq] at h
    obtain ⟨rfl, h2⟩ := h
    rw [hf]
    exact C.of (pair_eta _ h2)
theorem six_codec : Codec six encI Six.ok 6 :=
  map_codec (seq_codec num_codec (seq_codec num_codec (seq_codec num_codec (seq_codec num_codec (seq_codec num_codec num_codec)))))
    (fun p => (⟨p.1, p.2.1, p.2.2.1, p.2.2.2.1, p.2.2.2.2.1, p.2.2.2.2.2⟩ : Six)) (fun x => (x.op, x.d, x.a, x.b, x.c, x.v)) (fun _ => rfl) (fun _ => rfl)
/-- an object -/
structure Ob where
  inn : List Int
  out : List Int
  state : List Int
  mem : List Int
  cross : Int
  flags : Int
  deriv : List Six
  zero : List Six
  step : List Six
  at_ : List Six
def intsOk (l : List Int) : Prop := l.length ≤ 9223372036854775807 ∧ ∀ x ∈ l, i64 x
def sixOk (l : List Six) : Prop := l.length ≤ 9223372036854775807 ∧ ∀ x ∈ l, x.ok
def Ob.ok (o : Ob) : Prop := intsOk o.inn ∧ intsOk o.out ∧ intsOk o.state ∧ intsOk o.mem ∧ i64 o.cross ∧ i64 o.flags ∧ sixOk o.deriv ∧ sixOk o.zero ∧ sixOk o.step ∧ sixOk o.at_
def encO (o : Ob) : List UInt8 := encL encN o.inn ++ (encL encN o.out ++ (encL encN o.state ++ (encL encN o.mem ++ (encN o.cross ++ (encN o.flags ++ (encL encI o.deriv ++ (encL encI o.zero ++ (encL encI o.step ++ encL encI o.at_))))))))
theorem ints_codec : Codec (lst 1 num) (encL encN) intsOk 1 := lst_codec num_codec (by omega)
theorem sixes_codec : Codec (lst 6 six) (encL encI) sixOk 1 := lst_codec six_codec (by omega)
def rdT : St → (List Int × List Int × List Int × List Int × Int × Int × List Six × List Six × List Six × List Six) × St :=
  seq2 (lst 1 num) (seq2 (lst 1 num) (seq2 (lst 1 num) (seq2 (lst 1 num) (seq2 num (seq2 num (seq2 (lst 6 six) (seq2 (lst 6 six) (seq2 (lst 6 six) (lst 6 six)))))))))
def obT (p : List Int × List Int × List Int × List Int × Int × Int × List Six × List Six × List Six × List Six) : Ob := ⟨p.1, p.2.1, p.2.2.1, p.2.2.2.1, p.2.2.2.2.1, p.2.2.2.2.2.1, p.2.2.2.2.2.2.1, p.2.2.2.2.2.2.2.1, p.2.2.2.2.2.2.2.2.1, p.2.2.2.2.2.2.2.2.2⟩
def tOb (o : Ob) : List Int × List Int × List Int × List Int × Int × Int × List Six × List Six × List Six × List Six := (o.inn, o.out, o.state, o.mem, o.cross, o.flags, o.deriv, o.zero, o.step, o.at_)
def rdO (s : St) : Ob × St := (obT (rdT s).1, (rdT s).2)
theorem rdO_codec : Codec rdO encO Ob.ok 10 := map_codec (e := rdT) (seq_codec ints_codec (seq_codec ints_codec (seq_codec ints_codec (seq_codec ints_codec (seq_codec num_codec (seq_codec num_codec (seq_codec sixes_codec (seq_codec sixes_codec (seq_codec sixes_codec sixes_codec))))))))) obT tOb (fun _ => rfl) (fun _ => rfl)
theorem rdO_chain {s0 s1 s2 s3 s4 s5 s6 s7 s8 s9 s10 : St} {x1 x2 x3 x4 : List Int} {x5 x6 : Int} {x7 x8 x9 x10 : List Six} (h1 : lst 1 num s0 = (x1, s1)) (h2 : lst 1 num s1 = (x2, s2)) (h3 : lst 1 num s2 = (x3, s3)) (h4 : lst 1 num s3 = (x4, s4)) (h5 : num s4 = (x5, s5)) (h6 : num s5 = (x6, s6))
    (h7 : lst 6 six s6 = (x7, s7)) (h8 : lst 6 six s7 = (x8, s8)) (h9 : lst 6 six s8 = (x9, s9)) (h10 : lst 6 six s9 = (x10, s10)) : rdO s0 = (⟨x1, x2, x3, x4, x5, x6, x7, x8, x9, x10⟩, s10) := by
  unfold rdO rdT seq2
  simp only [h1, h2, h3, h4, h5, h6, h7, h8, h9, h10]
  rfl
/-- the sum of bytes -/
def stepN (s : Nat) (c : UInt8) : Nat := (s ^^^ c.toNat) * 16777619 % 4294967296
def sumFrom (s : Nat) (l : List UInt8) : Nat := l.foldl stepN s
def sumN (l : List UInt8) : Nat := sumFrom 2166136261 l
theorem stepN_lt (s : Nat) (c : UInt8) : stepN s c < 4294967296 := Nat.mod_lt _ (by omega)
theorem xor_lt {s t : Nat} (h : s < 4294967296) (k : t < 256) : s ^^^ t < 4294967296 := Nat.xor_lt_two_pow (n := 32) h (by omega)
theorem mul_inj {x y : Nat} (hx : x < 4294967296) (hy : y < 4294967296) (h : x * 16777619 % 4294967296 = y * 16777619 % 4294967296) : x = y := by
  have key : ∀ z : Nat, z < 4294967296 → (z * 16777619 % 4294967296) * 899433627 % 4294967296 = z := fun z hz => by
    rw [Nat.mod_mul_mod, Nat.mul_assoc, show 16777619 * 899433627 = 1 + 4294967296 * 3513497 by rfl, Nat.mul_add, Nat.mul_one, Nat.mul_left_comm, Nat.add_mul_mod_self_left, Nat.mod_eq_of_lt hz]
  rw [← key x hx, ← key y hy, h]
theorem stepN_inj {s t : Nat} {c d : UInt8} (hs : s < 4294967296) (ht : t < 4294967296) (h : stepN s c = stepN t d) : s ^^^ c.toNat = t ^^^ d.toNat := mul_inj (xor_lt hs c.toNat_lt) (xor_lt ht d.toNat_lt) h
theorem xor_r {s t c : Nat} (h : s ^^^ c = t ^^^ c) : s = t := by
  have := congrArg (· ^^^ c) h
  simpa only [Nat.xor_assoc, Nat.xor_self, Nat.xor_zero] using this
theorem xor_l {s t c : Nat} (h : c ^^^ s = c ^^^ t) : s = t := xor_r (c := c) (by rw [Nat.xor_comm s, Nat.xor_comm t, h])
theorem sumFrom_inj : ∀ (l : List UInt8) {s t : Nat}, s < 4294967296 → t < 4294967296 → sumFrom s l = sumFrom t l → s = t
  | [], _, _, _, _, h => h
  | c :: l, s, t, hs, ht, h => by
    have h1 := sumFrom_inj l (stepN_lt s c) (stepN_lt t c) h
    exact xor_r (stepN_inj hs ht h1)
theorem sumFrom_lt : ∀ (l : List UInt8) {s : Nat}, s < 4294967296 → sumFrom s l < 4294967296
  | [], _, h => h
  | c :: l, s, _ => sumFrom_lt l (stepN_lt s c)
theorem sumN_lt (l : List UInt8) : sumN l < 4294967296 := sumFrom_lt l (by omega)
theorem sumN_set {l : List UInt8} {i : Nat} {c d : UInt8} (h : l[i]? = some c) (hs : sumN (l.set i d) = sumN l) : d = c := by
  obtain ⟨hi, rfl⟩ := List.getElem?_eq_some_iff.1 h
  have e1 : l = l.take i ++ l[i] :: l.drop (i + 1) := by rw [← List.drop_eq_getElem_cons hi, List.take_append_drop]
  have e2 : l.set i d = l.take i ++ d :: l.drop (i + 1) := List.set_eq_take_append_cons_drop.trans (if_pos hi)
  have e3 : sumN l = sumFrom (stepN (sumFrom 2166136261 (l.take i)) l[i]) (l.drop (i + 1)) := by
    conv => lhs; rw [e1]
    unfold sumN sumFrom
    rw [List.foldl_append, List.foldl_cons]
  have e4 : sumN (l.set i d) = sumFrom (stepN (sumFrom 2166136261 (l.take i)) d) (l.drop (i + 1)) := by
    rw [e2]
    unfold sumN sumFrom
    rw [List.foldl_append, List.foldl_cons]
  rw [e3, e4] at hs
  have h1 := sumFrom_inj _ (stepN_lt _ _) (stepN_lt _ _) hs
  have hl : sumFrom 2166136261 (l.take i) < 4294967296 := sumFrom_lt _ (by omega)
  exact UInt8.toNat_inj.1 (xor_l (stepN_inj hl hl h1))
def four (s : Nat) : List UInt8 := [UInt8.ofNat (s % 256), UInt8.ofNat (s / 256 % 256), UInt8.ofNat (s / 65536 % 256), UInt8.ofNat (s / 16777216 % 256)]
theorem ofNat_inj {a b : Nat} (ha : a < 256) (hb : b < 256) (h : UInt8.ofNat a = UInt8.ofNat b) : a = b := by
  have := congrArg UInt8.toNat h
  rwa [byte_val ha, byte_val hb] at this
theorem four_inj {s t : Nat} (hs : s < 4294967296) (ht : t < 4294967296) (h : four s = four t) : s = t := by
  unfold four at h
  simp only [List.cons.injEq] at h
  obtain ⟨h1, h2, h3, h4, _⟩ := h
  have k1 := ofNat_inj (by omega) (by omega) h1
  have k2 := ofNat_inj (by omega) (by omega) h2
  have k3 := ofNat_inj (by omega) (by omega) h3
  have k4 := ofNat_inj (by omega) (by omega) h4
  omega
/-- the signs ahead -/
def signs : List UInt8 := [65, 83, 84, 49]
def sealN (l : List UInt8) : List UInt8 := l ++ four (sumN l)
/-- an object's bytes -/
def bytesO (o : Ob) : List UInt8 := sealN (signs ++ encO o)
def noOb : Ob := ⟨[], [], [], [], 0, 0, [], [], [], []⟩
/-- is there an object's beginning and end? then what is between -/
def inside (b : List UInt8) : St := if 8 ≤ b.length ∧ b.take 4 = signs ∧ b.drop (b.length - 4) = four (sumN (b.take (b.length - 4))) then some ((b.take (b.length - 4)).drop 4) else none
def objOf (b : List UInt8) : Option Ob := match rdO (inside b) with
  | (o, some []) => some o
  | _ => none
theorem objOf_bytes {o : Ob} (h : o.ok) : objOf (bytesO o) = some o := by
  have e0 : (bytesO o).length = 8 + (encO o).length := by unfold bytesO sealN four signs; simp only [List.length_append, List.length_cons, List.length_nil]; omega
  have e4 : (bytesO o).length - 4 = (signs ++ encO o).length := by rw [e0]; unfold signs; simp only [List.length_append, List.length_cons, List.length_nil]; omega
  have e1 : inside (bytesO o) = some (encO o) := by
    unfold inside
    rw [e4]
    have e5 : (bytesO o).take (signs ++ encO o).length = signs ++ encO o := by unfold bytesO sealN; rw [List.take_left]
    have e6 : (bytesO o).drop (signs ++ encO o).length = four (sumN (signs ++ encO o)) := by unfold bytesO sealN; rw [List.drop_left]
    rw [e5, e6, if_pos ⟨by omega, rfl, rfl⟩]
    rfl
  unfold objOf
  rw [e1]
  have := rdO_codec.to h []
  rw [List.append_nil] at this
  rw [this]
theorem bytes_objOf {b : List UInt8} {o : Ob} (h : objOf b = some o) : b = bytesO o ∧ o.ok := by
  unfold objOf at h
  split at h
  · rename_i o' hr
    cases h
    obtain ⟨l, e1, e2, e3⟩ := back rdO_codec hr
    rw [List.append_nil] at e2
    subst e2
    refine ⟨?_, e3⟩
    unfold inside at e1
    split at e1
    · rename_i hc
      obtain ⟨c1, c2, c3⟩ := hc
      have e4 := Option.some.inj e1
      have e5 : signs ++ encO o = b.take (b.length - 4) := by
        rw [← e4, ← c2]
        have : b.take 4 = (b.take (b.length - 4)).take 4 := by rw [List.take_take, Nat.min_eq_left (by omega)]
        rw [this, List.take_append_drop]
      unfold bytesO sealN
      rw [e5, ← c3, List.take_append_drop]
    · cases e1
  · cases h
/-- one byte turned: none's -/
theorem turned_none {o : Ob} {i : Nat} {c d : UInt8} (hi : (bytesO o)[i]? = some c) (hd : d ≠ c) : objOf ((bytesO o).set i d) = none := by
  have hlt := (List.getElem?_eq_some_iff.1 hi).1
  rcases h : objOf ((bytesO o).set i d) with _ | o'
  · rfl
  · exfalso
    unfold objOf inside at h
    split at h
    · rename_i o2 hr
      split at hr
      · rename_i hc
        obtain ⟨c1, c2, c3⟩ := hc
        rw [List.length_set] at c3
        have e4 : (bytesO o).length - 4 = (signs ++ encO o).length := by unfold bytesO sealN four signs; simp only [List.length_append, List.length_cons, List.length_nil]; omega
        have e5 : (bytesO o).take (signs ++ encO o).length = signs ++ encO o := by unfold bytesO sealN; rw [List.take_left]
        have e6 : (bytesO o).drop (signs ++ encO o).length = four (sumN (signs ++ encO o)) := by unfold bytesO sealN; rw [List.drop_left]
        rw [e4] at c3
        rcases Nat.lt_or_ge i (signs ++ encO o).length with h1 | h1
        · rw [List.drop_set_of_lt h1, e6, List.take_set, e5] at c3
          have hi' : (signs ++ encO o)[i]? = some c := by
            rw [← hi]; unfold bytesO sealN; rw [List.getElem?_append_left h1]
          exact hd (sumN_set hi' (four_inj (sumN_lt _) (sumN_lt _) c3.symm))
        · rw [List.take_set_of_le h1, e5, List.drop_set, if_neg (by omega), e6] at c3
          have hi' : (four (sumN (signs ++ encO o)))[i - (signs ++ encO o).length]? = some c := by
            rw [← hi]; unfold bytesO sealN; rw [List.getElem?_append_right h1]
          have := congrArg (fun l => l[i - (signs ++ encO o).length]?) c3
          rw [List.getElem?_set_self (List.getElem?_eq_some_iff.1 hi').1, hi'] at this
          exact hd (Option.some.inj this)
      · have := rdO_codec.dead
        rw [hr] at this
        cases this
    · cases h
/-- cut off: none's -/
theorem cut_none {o : Ob} (ho : o.ok) {i : Nat} (hi : i < (bytesO o).length) : objOf ((bytesO o).take i) = none := by
  rcases h : objOf ((bytesO o).take i) with _ | o'
  · rfl
  · exfalso
    obtain ⟨e1, e2⟩ := bytes_objOf h
    have e3 : bytesO o = bytesO o' ++ (bytesO o).drop i := by rw [← e1, List.take_append_drop]
    have hn : 0 < ((bytesO o).drop i).length := by rw [List.length_drop]; omega
    generalize (bytesO o).drop i = t at e3 hn
    unfold bytesO sealN at e3
    simp only [List.append_assoc] at e3
    have e4 := List.append_cancel_left e3
    have t1 := rdO_codec.to ho (four (sumN (signs ++ encO o)))
    rw [e4, rdO_codec.to e2] at t1
    simp only [Prod.mk.injEq, Option.some.injEq] at t1
    have := congrArg List.length t1.2
    rw [List.length_append] at this
    simp only [four, List.length_cons, List.length_nil] at this
    omega
end Go.Proofs.Ytodblepbedhnnaa.Co
