/-
  Package weigh: contracts of added, Total, weightAt, All, First, and of the document's Admit and Total. Conditions: slices have at most a thousand elements.
-/
import Derived.Test.YtjdaacmopgfolaaDoorWgWalks
import Derived.Test.YtjdaacmopgfolaaDoorGenVec
import Derived.Test.YtjdaacmopgfolaaDoorGenArgs
import Derived.OwnWalk
namespace Go.Proofs.YtjdaacmopgfolaaDoor
open Go.RowKit Go.Deep

/-- The number of what is told of a number that comes to a sum. -/
def adx (s x : Int) : Int := if x < 0 then 1 else if 4611686018427387903 - s < x then 2 else 0
def sumTo (z : Nat → Int) : Nat → Int
  | 0 => 0
  | k + 1 => sumTo z k + z k
/-- The first k may come. -/
def Fine (z : Nat → Int) (k : Nat) : Prop := ∀ i, i < k → adx (sumTo z i) (z i) = 0
theorem Fine.zero (z : Nat → Int) : Fine z 0 := fun i hi => absurd hi (Nat.not_lt_zero i)
theorem Fine.succ {z : Nat → Int} {k : Nat} (h : Fine z k) (hk : adx (sumTo z k) (z k) = 0) : Fine z (k + 1) := fun i hi => by
  by_cases e : i = k
  · subst e; exact hk
  · exact h i (by omega)
theorem adx_zero {s x : Int} (h : adx s x = 0) : 0 ≤ x ∧ x ≤ 4611686018427387903 - s := by
  unfold adx at h
  split at h
  · cases h
  · split at h
    · cases h
    · omega
theorem Fine.bd {z : Nat → Int} {k : Nat} (h : Fine z k) : 0 ≤ sumTo z k ∧ sumTo z k ≤ 4611686018427387903 := by
  induction k with
  | zero => simp [sumTo]
  | succ k ih =>
    have h1 := ih (fun i hi => h i (by omega))
    have h2 := adx_zero (h k (by omega))
    rw [sumTo]; omega
/-- What Total tells: the sum, the error's number, its place, how much. -/
def Tot (z : Nat → Int) (len : Nat) (s n a m : Int) : Prop :=
  (Fine z len ∧ s = sumTo z len ∧ n = 0 ∧ a = 0 ∧ m = 0) ∨ ∃ k : Nat, k < len ∧ Fine z k ∧ adx (sumTo z k) (z k) ≠ 0 ∧ s = 0 ∧ n = adx (sumTo z k) (z k) ∧ a = k ∧ m = z k
theorem Tot.same {z : Nat → Int} {len : Nat} {s n a m s' n' a' m' : Int} (h : Tot z len s n a m) (h' : Tot z len s' n' a' m') : s = s' ∧ n = n' ∧ a = a' ∧ m = m' := by
  rcases h with ⟨f, rfl, rfl, rfl, rfl⟩ | ⟨k, hk, f, g, rfl, rfl, rfl, rfl⟩ <;> rcases h' with ⟨f', rfl, rfl, rfl, rfl⟩ | ⟨k', hk', f', g', rfl, rfl, rfl, rfl⟩
  · exact ⟨rfl, rfl, rfl, rfl⟩
  · exact absurd (f k' hk') g'
  · exact absurd (f' k hk) g
  · rcases Nat.lt_trichotomy k k' with h | h | h
    · exact absurd (f' k h) g
    · subst h; exact ⟨rfl, rfl, rfl, rfl⟩
    · exact absurd (f k' h) g'

/-- A slice of numbers that can be read: its element i is z i. -/
def Sl (w : World) (p : Option Addr) (len : Nat) (z : Nat → Int) : Prop :=
  len = 0 ∨ ∃ b off, p = some ⟨b, off, none⟩ ∧ b < w.heap.size ∧ ∀ i, i < len → w.cell? ⟨b, off + i, none⟩ = some (.int .i64 (z i))
theorem Sl.grown {w w' : World} {p : Option Addr} {len : Nat} {z : Nat → Int} (h : Sl w p len z) (g : Grown w w') : Sl w' p len z := by
  rcases h with h | ⟨b, off, h1, h2, h3⟩
  · exact .inl h
  · exact .inr ⟨b, off, h1, Nat.lt_of_lt_of_le h2 g.2.2, fun i hi => keys_cell (h3 i hi) h2 g⟩
theorem Sl.of_vec {w : World} {p : Option Addr} {n c : Nat} {z : Nat → Int} (h : Vec w 3 1 p n c (fun j => .int .i64 (z j))) : Sl w p n z := by
  by_cases h0 : n = 0
  · exact .inl h0
  · obtain ⟨B, rfl, hB, hc, _⟩ := h.opens (by omega)
    exact .inr ⟨B, 0, rfl, hB, fun i hi => by rw [Nat.zero_add]; exact hc i (by omega)⟩
theorem Sl.at {w : World} {p : Option Addr} {len : Nat} {z : Nat → Int} (h : Sl w p len z) {k : Nat} (hk : k < len) : ∃ b off, p = some ⟨b, off, none⟩ ∧ w.cell? ⟨b, off + k, none⟩ = some (.int .i64 (z k)) := by
  rcases h with h | ⟨b, off, h1, _, h3⟩
  · omega
  · exact ⟨b, off, h1, h3 k hk⟩

theorem added_c (s x : Int) (h0 : 0 ≤ s) (h1 : s ≤ 4611686018427387903) (w : World) : Calls Tryd.prog 24 #[.int .i64 s, .int .i64 x] w fun e w' => e = .returned (.int .i64 (adx s x)) ∧ w' = w := by
  unfold adx
  by_cases hx : x < 0
  · rw [if_pos hx]
    go_enter Tryd.func24, Tryd.ntmps24
    go_wp2
    go_ret
    exact ⟨rfl, rfl⟩
  · rw [if_neg hx]
    by_cases hd : 4611686018427387903 - s < x
    · rw [if_pos hd]
      go_enter Tryd.func24, Tryd.ntmps24
      go_wp2
      go_ret
      exact ⟨rfl, rfl⟩
    · rw [if_neg hd]
      go_enter Tryd.func24, Tryd.ntmps24
      go_wp2
      go_ret
      exact ⟨rfl, rfl⟩

set_option maxHeartbeats 2000000 in
theorem total_c (p : Option Addr) (len cap : Nat) (z : Nat → Int) (w : World) (hs : Sl w p len z) (hlen : len ≤ 1000) :
    Calls Tryd.prog 13 #[.slice p len cap] w fun e w' => ∃ s n a m v, e = .returned (.tuple #[.int .i64 s, v]) ∧ Tot z len s n a m ∧ FaultIs w' v n a m ∧ Grown w w' := by
  go_enter Tryd.func13, Tryd.ntmps13
  go_wp2
  go_loopw [4, 10] (fun s i wr => ∃ k : Nat, k ≤ len ∧ Fine z k ∧ s = .int .i64 (sumTo z k) ∧ i = .int .i64 k ∧ Grown w wr) (fun _ i _ => len - (intOf i).toNat)
  case atStart => exact ⟨0, by omega, Fine.zero z, rfl, rfl, Grown.refl _⟩
  case round =>
    obtain ⟨k, hk, hf, rfl, rfl, hg⟩ := hrel
    obtain ⟨b0, b1⟩ := hf.bd
    by_cases hlt : k < len
    · obtain ⟨b, off, rfl, c1⟩ := (hs.grown hg).at hlt
      obtain ⟨S, hS⟩ : ∃ S, S = sumTo z k := ⟨_, rfl⟩
      obtain ⟨X, hX⟩ : ∃ X, X = z k := ⟨_, rfl⟩
      rw [← hS] at b0 b1
      have c2 := added_c S X b0 b1
      rw [← hX] at c1
      rw [← hS]
      have HS : Hid (S = sumTo z k) := hS
      have HX : Hid (X = z k) := hX
      clear hS hX
      by_cases hn : adx S X = 0
      · rw [hn] at c2
        obtain ⟨hx0, hx1⟩ := adx_zero hn
        go_wp2_with (first
          | (go_at_call 24; refine (c2 _).mono ?_; rintro e w' ⟨rfl, rfl⟩))
        go_roundw
        case rel => exact ⟨k + 1, by omega, hf.succ (by rw [← HS.out, ← HX.out]; exact hn), by rw [sumTo, ← HS.out, ← HX.out], by go_num, hg⟩
        case measure => simp [intOf]; omega
      · obtain ⟨N, hN⟩ : ∃ N, N = adx S X := ⟨_, rfl⟩
        rw [← hN] at c2 hn
        have HN : Hid (N = adx S X) := hN
        clear hN
        go_wp2_with (first
          | (go_at_call 24; refine (c2 _).mono ?_; rintro e w' ⟨rfl, rfl⟩)
          | (go_at_call 19; refine (wrap_c N k X _).mono ?_; rintro e w' ⟨v, rfl, hv, hg2⟩))
        go_ret2
        exact ⟨_, N, k, X, _, rfl, .inr ⟨k, hlt, hf, by rw [← HS.out, ← HX.out, ← HN.out]; exact hn, rfl, by rw [← HS.out, ← HX.out]; exact HN.out, rfl, HX.out⟩, hv, grownTrans hg hg2⟩
    · obtain rfl : k = len := by omega
      go_wp2
      go_ret2
      exact ⟨_, 0, 0, 0, _, rfl, .inl ⟨hf, rfl, rfl, rfl, rfl⟩, .inl ⟨rfl, rfl⟩, hg⟩

theorem refAdmit_c (x c : Int) (w : World) : Calls Tryd.prog 10 #[.int .i64 x, .int .i64 c] w fun e w' => e = .returned (.int .i64 (adm x c)) ∧ w' = w := by
  unfold adm
  by_cases h1 : x < 0 ∨ c < 0 ∨ 4611686018427387903 < c
  · rw [if_pos h1]
    by_cases hx : x < 0
    · go_enter Tryd.func10, Tryd.ntmps10
      go_wp2
      go_ret
      exact ⟨rfl, rfl⟩
    · by_cases hc : c < 0
      · go_enter Tryd.func10, Tryd.ntmps10
        go_wp2
        go_ret
        exact ⟨rfl, rfl⟩
      · have hd : 4611686018427387903 < c := by omega
        clear h1
        go_enter Tryd.func10, Tryd.ntmps10
        go_wp2
        go_ret
        exact ⟨rfl, rfl⟩
  · rw [if_neg h1]
    have hx : ¬ x < 0 := by omega
    have hc : ¬ c < 0 := by omega
    have hd : ¬ 4611686018427387903 < c := by omega
    clear h1
    by_cases h2 : c < x ∨ 2147483648 < x
    · rw [if_pos h2]
      by_cases h3 : c < x
      · clear h2
        go_enter Tryd.func10, Tryd.ntmps10
        go_wp2
        go_ret
        exact ⟨rfl, rfl⟩
      · have h4 : 2147483648 < x := by omega
        clear h2
        go_enter Tryd.func10, Tryd.ntmps10
        go_wp2
        go_ret
        exact ⟨rfl, rfl⟩
    · rw [if_neg h2]
      have h3 : ¬ c < x := by omega
      have h4 : ¬ 2147483648 < x := by omega
      clear h2
      go_enter Tryd.func10, Tryd.ntmps10
      go_wp2
      go_ret
      exact ⟨rfl, rfl⟩

theorem adx_cases (s x : Int) : (x < 0 ∧ adx s x = 1) ∨ (¬ x < 0 ∧ 4611686018427387903 - s < x ∧ adx s x = 2) ∨ (¬ x < 0 ∧ ¬ 4611686018427387903 - s < x ∧ adx s x = 0) := by
  unfold adx
  by_cases h : x < 0
  · simp [h]
  · by_cases h1 : 4611686018427387903 - s < x
    · simp [h, h1]
    · simp [h, h1]

set_option maxHeartbeats 2000000 in
theorem refTotal_c (p : Option Addr) (len cap : Nat) (z : Nat → Int) (w : World) (hs : Sl w p len z) (hlen : len ≤ 1000) :
    Calls Tryd.prog 14 #[.slice p len cap] w fun e w' => ∃ s n a m, e = .returned (.tuple #[.int .i64 s, .int .i64 n, .int .i64 a]) ∧ Tot z len s n a m ∧ Grown w w' := by
  go_enter Tryd.func14, Tryd.ntmps14
  go_wp2
  go_loopw [5, 6] (fun s i wr => ∃ k : Nat, k ≤ len ∧ Fine z k ∧ s = .int .i64 (sumTo z k) ∧ i = .int .i64 k ∧ Grown w wr) (fun _ i _ => len - (intOf i).toNat)
  case atStart => exact ⟨0, by omega, Fine.zero z, rfl, rfl, Grown.refl _⟩
  case round =>
    obtain ⟨k, hk, hf, rfl, rfl, hg⟩ := hrel
    obtain ⟨b0, b1⟩ := hf.bd
    by_cases hlt : k < len
    · obtain ⟨b, off, rfl, c1⟩ := (hs.grown hg).at hlt
      obtain ⟨S, hS⟩ : ∃ S, S = sumTo z k := ⟨_, rfl⟩
      obtain ⟨X, hX⟩ : ∃ X, X = z k := ⟨_, rfl⟩
      rw [← hS] at b0 b1
      rw [← hX] at c1
      rw [← hS]
      have HS : Hid (S = sumTo z k) := hS
      have HX : Hid (X = z k) := hX
      clear hS hX
      rcases adx_cases S X with ⟨h1, hN⟩ | ⟨h1, h2, hN⟩ | ⟨h1, h2, hN⟩
      · have HN : Hid (adx S X = 1) := hN
        clear hN
        go_wp2
        go_ret3
        exact ⟨_, 1, k, X, rfl, .inr ⟨k, hlt, hf, by rw [← HS.out, ← HX.out, HN.out]; decide, rfl, by rw [← HS.out, ← HX.out]; exact HN.out.symm, rfl, HX.out⟩, hg⟩
      · have HN : Hid (adx S X = 2) := hN
        clear hN
        go_wp2
        go_ret3
        first | exact ⟨_, 2, k, X, rfl, .inr ⟨k, hlt, hf, by rw [← HS.out, ← HX.out, HN.out]; decide, rfl, by rw [← HS.out, ← HX.out]; exact HN.out.symm, rfl, HX.out⟩, hg⟩ | exact ⟨_, 2, k, rfl, ⟨X, .inr ⟨k, hlt, hf, by rw [← HS.out, ← HX.out, HN.out]; decide, rfl, by rw [← HS.out, ← HX.out]; exact HN.out.symm, rfl, HX.out⟩⟩, hg⟩
      · have HN : Hid (adx S X = 0) := hN
        clear hN
        go_wp2
        go_roundw
        case rel => exact ⟨k + 1, by omega, hf.succ (by rw [← HS.out, ← HX.out]; exact HN.out), by rw [sumTo, ← HS.out, ← HX.out], by go_num, hg⟩
        case measure => simp [intOf]; omega
    · obtain rfl : k = len := by omega
      go_wp2
      go_ret3
      exact ⟨_, 0, 0, 0, rfl, .inl ⟨hf, rfl, rfl, rfl, rfl⟩, hg⟩

theorem ints_c (p q : Option Addr) (len c1 c2 : Nat) (z : Nat → Int) (w : World) (hp : Sl w p len z) (hq : Sl w q len z) (hlen : len ≤ 1000) :
    Calls Tryd.prog 15 #[.slice p len c1, .slice q len c2] w fun e w' => e = .returned (.bool true) ∧ Grown w w' := by
  go_enter Tryd.func15, Tryd.ntmps15
  go_wp2
  go_loopw [5] (fun i wr => ∃ k d : Nat, k ≤ len ∧ i = .int .i64 k ∧ wr = w.drewN d) (fun i _ => len - (intOf i).toNat)
  case atStart => exact ⟨0, 0, by omega, rfl, rfl⟩
  case round =>
    obtain ⟨k, d, hk, rfl, rfl⟩ := hrel
    by_cases hlt : k < len
    · obtain ⟨b, off, rfl, c1⟩ := hp.at hlt
      obtain ⟨b', off', rfl, c2⟩ := hq.at hlt
      go_wp2
      go_quiet (fail)
      go_wp2
      go_roundw
      case rel => exact ⟨k + 1, _, by omega, by go_num, rfl⟩
      case measure => simp [intOf]; omega
    · obtain rfl : k = len := by omega
      go_wp2
      go_ret
      exact ⟨rfl, grownDrewN (Grown.refl _) _⟩

/-- The weight at a place; 0 behind. -/
def wat (z : Nat → Int) (len k : Nat) : Int := if k < len then z k else 0
theorem weightAt_c (p : Option Addr) (len cap k : Nat) (z : Nat → Int) (w : World) (hs : Sl w p len z) :
    Calls Tryd.prog 25 #[.slice p len cap, .int .i64 k] w fun e w' => e = .returned (.int .i64 (wat z len k)) ∧ w' = w := by
  unfold wat
  by_cases hk : k < len
  · obtain ⟨b, off, rfl, c1⟩ := hs.at hk
    rw [if_pos hk]
    go_enter Tryd.func25, Tryd.ntmps25
    go_wp2
    go_ret
    exact ⟨rfl, rfl⟩
  · rw [if_neg hk]
    go_enter Tryd.func25, Tryd.ntmps25
    go_wp2
    go_ret
    exact ⟨rfl, rfl⟩
end Go.Proofs.YtjdaacmopgfolaaDoor
