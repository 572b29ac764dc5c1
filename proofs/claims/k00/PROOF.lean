import PyProof.Rows.All
import Wide.All
import OpenK.AllK
import Wide.FinOn
import HandS.ForMost
import HandS.IsInst
import HandS.MakeKwOnly
import HandS.Rev
import HandS.RevRange
import HandS.Zip
import HandS.Defaults
import HandS.More
import HandS.ForExc
import HandS.ExcSuper
import HandS.Walk
import KE.GoesEnum
import KE.GoesZip
import HandS.TupAny
import KE.KExcIs
import HandS.HotCalls
import KE.KxText
import HandS.ExcValue
import HandS.ExcIs
import PySem.Challenge.RW_mendvault_k00_errors
set_option Elab.async false
set_option linter.all false
set_option maxRecDepth 100000
set_option maxHeartbeats 4000000
/-! Own mathematics: the field of 128 elements over Nat, by tables packed into numbers. -/
namespace MV
def powN : Nat := 179343145154286468999787348634966713635650659649736789414148021345911460223011165278843182007619610859593311888318488159128904538903604560337988443507032135323526942362685217139502154598999203791264386173164389839521109337246772858340806352412195616840658205728602791057560876167481289674224934752276972033
def lgN : Nat := 85299566321267760859882959404293287561914986092030414439102485899448894882442126012717921087539931761252616783538567363632140652556524324457790506479341977747011430397942856861852895404352684004849115400841281323173832260191922844437182647048573120541323249961997723919153927873044867097585891997657669369856
def powL : List Nat := [1, 2, 4, 8, 16, 32, 64, 3, 6, 12, 24, 48, 96, 67, 5, 10, 20, 40, 80, 35, 70, 15, 30, 60, 120, 115, 101, 73, 17, 34, 68, 11, 22, 44, 88, 51, 102, 79, 29, 58, 116, 107, 85, 41, 82, 39, 78, 31, 62, 124, 123, 117, 105, 81, 33, 66, 7, 14, 28, 56, 112, 99, 69, 9, 18, 36, 72, 19, 38, 76, 27, 54, 108, 91, 53, 106, 87, 45, 90, 55, 110, 95, 61, 122, 119, 109, 89, 49, 98, 71, 13, 26, 52, 104, 83, 37, 74, 23, 46, 92, 59, 118, 111, 93, 57, 114, 103, 77, 25, 50, 100, 75, 21, 42, 84, 43, 86, 47, 94, 63, 126, 127, 125, 121, 113, 97, 65]
def lgL : List Nat := [0, 0, 1, 7, 2, 14, 8, 56, 3, 63, 15, 31, 9, 90, 57, 21, 4, 28, 64, 67, 16, 112, 32, 97, 10, 108, 91, 70, 58, 38, 22, 47, 5, 54, 29, 19, 65, 95, 68, 45, 17, 43, 113, 115, 33, 77, 98, 117, 11, 87, 109, 35, 92, 74, 71, 79, 59, 104, 39, 100, 23, 82, 48, 119, 6, 126, 55, 13, 30, 62, 20, 89, 66, 27, 96, 111, 69, 107, 46, 37, 18, 53, 44, 94, 114, 42, 116, 76, 34, 86, 78, 73, 99, 103, 118, 81, 12, 125, 88, 61, 110, 26, 36, 106, 93, 52, 75, 41, 72, 85, 80, 102, 60, 124, 105, 25, 40, 51, 101, 84, 24, 123, 83, 50, 49, 122, 120, 121]
/-- 2 to the i-th -/
def pw (i : Nat) : Nat := (powN >>> (8 * i)) % 256
/-- the logarithm -/
def lg (a : Nat) : Nat := (lgN >>> (8 * a)) % 256
def mul (a b : Nat) : Nat := if a = 0 then 0 else if b = 0 then 0 else pw ((lg a + lg b) % 127)
def inv (a : Nat) : Nat := pw ((127 - lg a) % 127)
def allN (n : Nat) (f : Nat → Bool) : Bool := (List.range n).all f
theorem allN_of {n : Nat} {f : Nat → Bool} (h : allN n f = true) {i : Nat} (hi : i < n) : f i = true := by
  unfold allN at h
  exact List.all_eq_true.mp h i (List.mem_range.mpr hi)

theorem powL_get {i : Nat} (h : i < 127) : powL[i]? = some (pw i) := by
  have q := allN_of (n := 127) (f := fun i => powL[i]? == some (pw i)) (by decide +kernel) h
  exact eq_of_beq q
theorem lgL_get {i : Nat} (h : i < 128) : lgL[i]? = some (lg i) := by
  have q := allN_of (n := 128) (f := fun i => lgL[i]? == some (lg i)) (by decide +kernel) h
  exact eq_of_beq q
theorem pw_ok {i : Nat} (h : i < 127) : pw i < 128 ∧ pw i ≠ 0 ∧ lg (pw i) = i := by
  have q := allN_of (n := 127) (f := fun i => decide (pw i < 128 ∧ pw i ≠ 0 ∧ lg (pw i) = i)) (by decide +kernel) h
  exact of_decide_eq_true q
theorem lg_ok {a : Nat} (h : a < 128) : lg a < 127 ∧ (a ≠ 0 → pw (lg a) = a) := by
  have q := allN_of (n := 128) (f := fun a => decide (lg a < 127 ∧ (a ≠ 0 → pw (lg a) = a))) (by decide +kernel) h
  exact of_decide_eq_true q
theorem pw_lg {a : Nat} (h : a < 128) (h0 : a ≠ 0) : pw (lg a) = a := (lg_ok h).2 h0
theorem lg_lt {a : Nat} (h : a < 128) : lg a < 127 := (lg_ok h).1
theorem pw_inj {i j : Nat} (hi : i < 127) (hj : j < 127) (e : pw i = pw j) : i = j := by
  rw [← (pw_ok hi).2.2, ← (pw_ok hj).2.2, e]
theorem mul_zero_left (b : Nat) : mul 0 b = 0 := by unfold mul; simp
theorem mul_zero_right (a : Nat) : mul a 0 = 0 := by unfold mul; simp
theorem mul_nz {a b : Nat} (ha : a ≠ 0) (hb : b ≠ 0) : mul a b = pw ((lg a + lg b) % 127) := by unfold mul; simp [ha, hb]
theorem mul_lt (a b : Nat) : mul a b < 128 := by
  unfold mul
  by_cases ha : a = 0
  · simp [ha]
  · by_cases hb : b = 0
    · simp [hb]
    · simp only [ha, hb, if_false]
      exact (pw_ok (Nat.mod_lt _ (by decide))).1
theorem mul_ne_zero {a b : Nat} (ha : a ≠ 0) (hb : b ≠ 0) : mul a b ≠ 0 := by
  rw [mul_nz ha hb]
  exact (pw_ok (Nat.mod_lt _ (by decide))).2.1
theorem mul_comm (a b : Nat) : mul a b = mul b a := by
  by_cases ha : a = 0
  · subst ha; rw [mul_zero_left, mul_zero_right]
  · by_cases hb : b = 0
    · subst hb; rw [mul_zero_left, mul_zero_right]
    · rw [mul_nz ha hb, mul_nz hb ha, Nat.add_comm]
theorem lg_mul {a b : Nat} (ha : a ≠ 0) (hb : b ≠ 0) : lg (mul a b) = (lg a + lg b) % 127 := by
  rw [mul_nz ha hb]
  exact (pw_ok (Nat.mod_lt _ (by decide))).2.2
theorem mul_assoc (a b c : Nat) : mul (mul a b) c = mul a (mul b c) := by
  by_cases ha : a = 0
  · subst ha; simp only [mul_zero_left]
  · by_cases hb : b = 0
    · subst hb; simp only [mul_zero_left, mul_zero_right]
    · by_cases hc : c = 0
      · subst hc; simp only [mul_zero_right]
      · rw [mul_nz (mul_ne_zero ha hb) hc, mul_nz ha (mul_ne_zero hb hc), lg_mul ha hb, lg_mul hb hc]
        congr 1
        omega
theorem mul_one {a : Nat} (h : a < 128) : mul a 1 = a := by
  have q := allN_of (n := 128) (f := fun a => mul a 1 == a) (by decide +kernel) h
  exact eq_of_beq q
theorem one_mul {a : Nat} (h : a < 128) : mul 1 a = a := by rw [mul_comm, mul_one h]
theorem inv_ok {a : Nat} (h : a < 128) (h0 : a ≠ 0) : mul a (inv a) = 1 ∧ inv a < 128 ∧ inv a ≠ 0 := by
  have q := allN_of (n := 128) (f := fun a => decide (a ≠ 0 → mul a (inv a) = 1 ∧ inv a < 128 ∧ inv a ≠ 0)) (by decide +kernel) h
  exact of_decide_eq_true q h0
/-! sums -/
theorem xor_lt {a b : Nat} (ha : a < 128) (hb : b < 128) : a ^^^ b < 128 := Nat.xor_lt_two_pow (n := 7) ha hb
/-- the multiple of c that the bits of a tell -/
def lin (c a : Nat) : Nat :=
  (cond (a.testBit 0) (mul c 1) 0) ^^^ (cond (a.testBit 1) (mul c 2) 0) ^^^ (cond (a.testBit 2) (mul c 4) 0) ^^^ (cond (a.testBit 3) (mul c 8) 0) ^^^
  (cond (a.testBit 4) (mul c 16) 0) ^^^ (cond (a.testBit 5) (mul c 32) 0) ^^^ (cond (a.testBit 6) (mul c 64) 0)
theorem all2_of {f : Nat → Nat → Bool} (h : allN 128 (fun a => allN 128 (f a)) = true) {a b : Nat} (ha : a < 128) (hb : b < 128) : f a b = true :=
  allN_of (allN_of h ha) hb
theorem mul_lin {c a : Nat} (hc : c < 128) (ha : a < 128) : mul c a = lin c a := by
  have q := all2_of (f := fun c a => mul c a == lin c a) (by decide +kernel) hc ha
  exact eq_of_beq q
theorem cond_xor (p q : Bool) (m : Nat) : cond (p ^^ q) m 0 = cond p m 0 ^^^ cond q m 0 := by
  cases p <;> cases q <;> simp
theorem lin_xor (c a b : Nat) : lin c (a ^^^ b) = lin c a ^^^ lin c b := by
  unfold lin
  simp only [Nat.testBit_xor, cond_xor]
  ac_rfl
theorem mul_xor {c a b : Nat} (hc : c < 128) (ha : a < 128) (hb : b < 128) : mul c (a ^^^ b) = mul c a ^^^ mul c b := by
  rw [mul_lin hc (xor_lt ha hb), mul_lin hc ha, mul_lin hc hb, lin_xor]
theorem xor_mul {c a b : Nat} (hc : c < 128) (ha : a < 128) (hb : b < 128) : mul (a ^^^ b) c = mul a c ^^^ mul b c := by
  rw [mul_comm, mul_xor hc ha hb, mul_comm c a, mul_comm c b]
/-! the reckoning bit by bit -/
def ltStep (s : Nat × Nat × Nat) : Nat × Nat × Nat :=
  (cond (s.2.1 % 2 == 1) (s.1 ^^^ s.2.2) s.1, s.2.1 / 2, cond (Nat.ble 128 (2 * s.2.2)) ((2 * s.2.2) ^^^ 131) (2 * s.2.2))
def ltRun : Nat → Nat × Nat × Nat → Nat × Nat × Nat
  | 0, s => s
  | n + 1, s => ltStep (ltRun n s)
def ltimes (a b : Nat) : Nat := (ltRun 7 (0, b, a)).1
theorem ltimes_mul {a b : Nat} (ha : a < 128) (hb : b < 128) : ltimes a b = mul a b := by
  have q := all2_of (f := fun a b => ltimes a b == mul a b) (by decide +kernel) ha hb
  exact eq_of_beq q
theorem ltRun_lt {b a : Nat} (ha : a < 128) (n : Nat) : (ltRun n (0, b, a)).2.2 < 128 ∧ (ltRun n (0, b, a)).1 < 128 := by
  induction n with
  | zero => exact ⟨ha, by show 0 < 128; decide⟩
  | succ n ih =>
    obtain ⟨h1, h2⟩ := ih
    show (ltStep _).2.2 < 128 ∧ (ltStep _).1 < 128
    generalize ltRun n (0, b, a) = s at h1 h2 ⊢
    unfold ltStep
    refine ⟨?_, ?_⟩
    · cases e : Nat.ble 128 (2 * s.2.2) with
      | true =>
        have q := allN_of (n := 128) (f := fun x => decide (128 ≤ 2 * x → (2 * x) ^^^ 131 < 128)) (by decide +kernel) h1
        exact of_decide_eq_true q (Nat.le_of_ble_eq_true e)
      | false =>
        show 2 * s.2.2 < 128
        have := Nat.not_le_of_not_ble_eq_true (by rw [e]; decide : ¬ Nat.ble 128 (2 * s.2.2) = true)
        omega
    · cases s.2.1 % 2 == 1 with
      | true => exact xor_lt h2 h1
      | false => exact h2
/-- added, weight by weight -/
def laStep (a b : Nat) (t w : Nat) : Nat := t + (a / w + b / w) % 2 * w
def ladd (a b : Nat) : Nat := [1, 2, 4, 8, 16, 32, 64].foldl (laStep a b) 0
theorem ladd_xor {a b : Nat} (ha : a < 128) (hb : b < 128) : ladd a b = a ^^^ b := by
  have q := all2_of (f := fun a b => ladd a b == a ^^^ b) (by decide +kernel) ha hb
  exact eq_of_beq q
/-! powers in turn, quotients -/
def dbl (x : Nat) : Nat := if 2 * x > 127 then (2 * x) ^^^ 131 else 2 * x
theorem dbl_pw {i : Nat} (h : i < 126) : dbl (pw i) = pw (i + 1) := by
  have q := allN_of (n := 126) (f := fun i => dbl (pw i) == pw (i + 1)) (by decide +kernel) h
  exact eq_of_beq q
theorem powL_eq : powL = (List.range 127).map pw := by decide +kernel
theorem lg_inv {b : Nat} (hb : b < 128) (h0 : b ≠ 0) : lg (inv b) = (127 - lg b) % 127 := by
  unfold inv
  exact (pw_ok (Nat.mod_lt _ (by decide))).2.2
theorem quot_ok {a b : Nat} (ha : a < 128) (hb : b < 128) (a0 : a ≠ 0) (b0 : b ≠ 0) : mul a (inv b) = pw ((lg a + (127 - lg b)) % 127) := by
  rw [mul_nz a0 (inv_ok hb b0).2.2, lg_inv hb b0]
  congr 1
  omega
theorem mul_quot {a b : Nat} (ha : a < 128) (hb : b < 128) (b0 : b ≠ 0) : mul b (mul a (inv b)) = a := by
  rw [mul_comm a, ← mul_assoc, (inv_ok hb b0).1, one_mul ha]
theorem one_quot {b : Nat} (hb : b < 128) (b0 : b ≠ 0) : mul 1 (inv b) = inv b := one_mul (inv_ok hb b0).2.1
/-- a to the n-th -/
def fpow (a : Nat) : Nat → Nat
  | 0 => 1
  | n + 1 => mul (fpow a n) a
theorem fpow_pw {a : Nat} (a0 : a ≠ 0) : ∀ n, fpow a n = pw ((lg a * n) % 127)
  | 0 => by
    rw [Nat.mul_zero]
    show 1 = pw (0 % 127)
    decide +kernel
  | n + 1 => by
    show mul (fpow a n) a = _
    have h := fpow_pw a0 n
    have hp := pw_ok (i := (lg a * n) % 127) (Nat.mod_lt _ (by decide))
    rw [h, mul_nz hp.2.1 a0, hp.2.2, Nat.mul_succ]
    congr 1
    omega
theorem fpow_zero {n : Nat} (h : n ≠ 0) : fpow 0 n = 0 := by
  cases n with
  | zero => exact absurd rfl h
  | succ n => exact mul_zero_right _
theorem fpow_lt (a : Nat) : ∀ n, fpow a n < 128
  | 0 => by show 1 < 128; decide
  | n + 1 => mul_lt _ _
end MV

set_option Elab.async false
set_option linter.all false
set_option maxRecDepth 100000
set_option maxHeartbeats 4000000
/-! Own words over the hand layer: calls of own defs, what stays, what is alike. -/
namespace MV
open PySem PySem.Spec PyProof.Rows L2

/-- a def of the text, by its name, and its promise -/
structure Called (P : Program) (w : World) (K : PySem.W.Frag) (mg : Str → Option Value) (base : Heap) (CX : CXT) (x : Str) (k : Nat) (ps : List Str) (sp : Sp) : Prop where
  ex : ∃ (f : Addr) (fd : FuncData), FnOk P w K mg base CX k f fd ps sp ∧ mg x = some (.ref f) ∧ PySem.W.keepIn K (.ref f) = true ∧ Binds K fd ps []
/-- how a call by keywords alone binds -/
def KPerm (K : PySem.W.Frag) (mg : Str → Option Value) (x : Str) (ps ks : List Str) (g : List Value → List Value → List Value) (gV : List V → List V → List V) : Prop :=
  ∀ (f : Addr), mg x = some (.ref f) → ∃ fd : FuncData, (∀ (P : Program) (w : World) (base : Heap) (CX : CXT) (k : Nat) (sp : Sp) (fd' : FuncData), True) ∧ KBinds K fd ps ks g gV
section
variable {P : Program} {w : World} {K : PySem.W.Frag} {mg : Str → Option Value} {base : Heap} {CX : CXT}
theorem Called.mono {x : Str} {j k : Nat} {ps : List Str} {sp : Sp} (c : Called P w K mg base CX x j ps sp) (h : j ≤ k) : Called P w K mg base CX x k ps sp := by
  obtain ⟨f, fd, F, m, kp, b⟩ := c.ex
  exact ⟨f, fd, F.mono h, m, kp, b⟩
end
/-- the same, called by keywords alone: ks their names -/
structure CalledK (P : Program) (w : World) (K : PySem.W.Frag) (mg : Str → Option Value) (base : Heap) (CX : CXT) (x : Str) (k : Nat) (ps ks : List Str) (gV : List V → List V → List V) (sp : Sp) : Prop where
  ex : ∃ (f : Addr) (fd : FuncData) (g : List Value → List Value → List Value), FnOk P w K mg base CX k f fd ps sp ∧ mg x = some (.ref f) ∧ PySem.W.keepIn K (.ref f) = true ∧ KBinds K fd ps ks g gV
section
variable {X : Cx} {CX : CXT} {k : Nat} {ps ks : List Str} {sp : Sp} {E : XK} {x : Str} {p pos : Pos} {e : Expr} {es : List Expr} {kws : List Keyword} {t tk : TA} {gV : List V → List V → List V}
theorem pe_own (C : Called X.prog X.w X.K X.mg X.base CX x k ps sp) (hr : Room k X.A) (hg : Gl X x) (hx : Passes CX X E)
    (ha : PA X (e :: es) t) (hdb : (x == ("__debug__" : Str)) = false := by decide) (he : starEach (e :: es) X.env = (false, eval e X.env) :: starEach es X.env := by rfl) (hpl : (backTo pos (starEach es X.env)).any (·.1) = false := by rfl) :
    PE X (.Call (.Name x p) (e :: es) [] pos) (tCall sp [] E t) := by
  obtain ⟨f, fd, F, m, kp, b⟩ := C.ex
  exact pe_call F hr hg m kp b .nil hx ha hdb he hpl
theorem pe_own0 (C : Called X.prog X.w X.K X.mg X.base CX x k ps sp) (hr : Room k X.A) (hg : Gl X x) (hx : Passes CX X E)
    (hdb : (x == ("__debug__" : Str)) = false := by decide) : PE X (.Call (.Name x p) [] [] pos) (tCall sp [] E tNil) := by
  obtain ⟨f, fd, F, m, kp, b⟩ := C.ex
  exact pe_call0 F hr hg m kp b .nil hx hdb
/-- f(k = v, ..) -/
theorem pe_ownK (C : CalledK X.prog X.w X.K X.mg X.base CX x k ps ks gV sp) (hr : Room k X.A) (hg : Gl X x) (hx : Passes CX X E) (hkw : PK X kws tk)
    (hall : (backToKw pos (keywordEach kws X.env)).all (·.1.isSome) = true := by rfl) (hks : (backToKw pos (keywordEach kws X.env)).filterMap (·.1) = ks := by rfl) (hdb : (x == ("__debug__" : Str)) = false := by decide)
    (hpl : ((backTo pos (starEach [] X.env)).any (·.1) || (backToKw pos (keywordEach kws X.env)).any (·.1.isNone)) = false := by rfl) :
    PE X (.Call (.Name x p) [] kws pos) (tCallK sp gV E tNil tk) := by
  obtain ⟨f, fd, g, F, hm, hk, hb⟩ := C.ex
  refine ⟨fun pins s σ H Q I h => ?_⟩
  refine wpAny_Call_Name_kw (ld_glob I hg hm ?_ hdb)
  refine PySem.W.callWith_KW0 (h₀ := X.base) I.ok.mod.kin hk hall ?_ hpl
  refine thn (hkw.run pos pins s σ H _ I h) fun ws s2 ⟨zs, H2, I2, rz, q2⟩ => ⟨I2.kIn, ?_⟩
  rw [hks]
  exact run_fnk (us := []) (vs := []) F hr hb hx I2 .nil rz q2
/-- f(e, .., k = v, ..) -/
theorem pe_ownKA (C : CalledK X.prog X.w X.K X.mg X.base CX x k ps ks gV sp) (hr : Room k X.A) (hg : Gl X x) (hx : Passes CX X E) (ha : PA X (e :: es) t) (hkw : PK X kws tk)
    (hall : (backToKw pos (keywordEach kws X.env)).all (·.1.isSome) = true := by rfl) (hks : (backToKw pos (keywordEach kws X.env)).filterMap (·.1) = ks := by rfl)
    (hdb : (x == ("__debug__" : Str)) = false := by decide) (he : starEach (e :: es) X.env = (false, eval e X.env) :: starEach es X.env := by rfl)
    (hpl : ((backTo pos (starEach (e :: es) X.env)).any (·.1) || (backToKw pos (keywordEach kws X.env)).any (·.1.isNone)) = false := by rfl) :
    PE X (.Call (.Name x p) (e :: es) kws pos) (tCallK sp gV E t tk) := by
  obtain ⟨f, fd, g, F, hm, hk, hb⟩ := C.ex
  exact pe_callK F hr hg hm hk hb hx ha hkw hall hks hdb he hpl
end
/-! ### what stays -/
theorem same_new {H : Hp} {p : Addr} (h : H p = none) (o : HO) : Same H (upd H p o) := fun b u q => by rw [upd_ne (ne_of_none q h)]; exact q
theorem same_tup {K : PySem.W.Frag} {H H' : Hp} {a : Addr} {xs : List V} (e : Same H H') (h : SqT K H a xs) : SqT K H' a xs := by
  rcases h with (h | ⟨o, h⟩) | h
  · exact .inl (.inl (e _ _ h))
  · exact .inl (.inr ⟨o, e _ _ h⟩)
  · exact .inr h
theorem same_lst {H H' : Hp} {a : Addr} {o : HO} (e : Same H H') (h : H a = some o) : H' a = some o := e _ _ h
/-- an object that H doesn't know may change -/
theorem same_mut {H H' : Hp} {p : Addr} {o : HO} (e : Same H H') (h : H p = none) : Same H (upd H' p o) := fun a u ha => by
  rw [upd_ne (ne_of_none ha h)]
  exact e a u ha
/-! ### types -/
theorem ty_tup {K : PySem.W.Frag} {H : Hp} {a : Addr} {xs : List V} (h : SqT K H a xs) : TyX K H (.ref a) (.type "tuple") := by
  rcases h with (h | ⟨o, h⟩) | ⟨o, its, n, hk, hc, _⟩
  · exact .base (.tup h)
  · exact .fTuple h
  · exact .kTuple hk hc
theorem ty_lst {K : PySem.W.Frag} {H : Hp} {a : Addr} {xs : List V} (h : SqL K H a xs) : TyX K H (.ref a) (.type "list") := by
  rcases h with (h | ⟨o, h⟩) | ⟨o, its, n, hk, hc, _⟩
  · exact .base (.lst h)
  · exact .base (.frz h)
  · exact .kList hk hc
theorem ty_int {K : PySem.W.Frag} {H : Hp} {i : Int} : TyX K H (.int i) (.type "int") := .base (.int i)
theorem ty_bl {K : PySem.W.Frag} {H : Hp} {i : Bool} : TyX K H (.bl i) (.type "bool") := .base (.bl i)
theorem ty_str {K : PySem.W.Frag} {H : Hp} {i : Str} : TyX K H (.str i) (.type "str") := .base (.str i)
theorem ty_non {K : PySem.W.Frag} {H : Hp} : TyX K H .non (.type "NoneType") := .base .non
/-! ### what is alike, to a depth -/
def Scal (x y : V) : Prop := x = y ∧ (x = .non ∨ (∃ b, x = .bl b) ∨ (∃ i, x = .int i) ∨ ∃ s, x = .str s)
/-- the same int, text, bool or None; or tuples, or lists, of alike items -/
inductive Alike (K : PySem.W.Frag) : Nat → Hp → V → V → Prop where
  | scal {n : Nat} {H : Hp} {x y : V} (h : Scal x y) : Alike K n H x y
  | seq {n : Nat} {H : Hp} {p q : Addr} {xs ys : List V} (hs : (SqT K H p xs ∧ SqT K H q ys) ∨ (SqL K H p xs ∧ SqL K H q ys)) (hl : xs.length = ys.length) (hz : xs.length ≤ 100000)
    (hi : ∀ (i : Nat) (x' y' : V), xs[i]? = some x' → ys[i]? = some y' → Alike K n H x' y') : Alike K (n + 1) H (.ref p) (.ref q)
theorem alike_zero {K : PySem.W.Frag} {H : Hp} {x y : V} (h : Alike K 0 H x y) : Scal x y := by
  cases h with
  | scal h => exact h
theorem alike_succ {K : PySem.W.Frag} {n : Nat} {H : Hp} {x y : V} (h : Alike K (n + 1) H x y) : Scal x y ∨
      ∃ p q xs ys, x = .ref p ∧ y = .ref q ∧ ((SqT K H p xs ∧ SqT K H q ys) ∨ (SqL K H p xs ∧ SqL K H q ys)) ∧ xs.length = ys.length ∧ xs.length ≤ 100000 ∧ ∀ (i : Nat) (x' y' : V), xs[i]? = some x' → ys[i]? = some y' → Alike K n H x' y' := by
  cases h with
  | scal h => exact .inl h
  | seq hs hl hz hi => exact .inr ⟨_, _, _, _, rfl, rfl, hs, hl, hz, hi⟩
theorem Alike.same {K : PySem.W.Frag} : ∀ {n : Nat} {H H' : Hp} {x y : V}, Same H H' → Alike K n H x y → Alike K n H' x y
  | 0, _, _, _, _, _, h => .scal (alike_zero h)
  | n + 1, H, H', x, y, e, h => by
    rcases alike_succ h with h | ⟨p, q, xs, ys, hx, hy, hs, hl, hz, hi⟩
    · exact Alike.scal h
    · subst hx hy
      refine Alike.seq ?_ hl hz fun i x' y' a b => (hi i x' y' a b).same e
      rcases hs with ⟨a, b⟩ | ⟨a, b⟩
      · exact .inl ⟨same_tup e a, same_tup e b⟩
      · exact .inr ⟨e.seq a, e.seq b⟩
theorem Alike.int {K : PySem.W.Frag} {H : Hp} {i : Int} {n : Nat} : Alike K n H (.int i) (.int i) := Alike.scal ⟨rfl, .inr (.inr (.inl ⟨i, rfl⟩))⟩
theorem Alike.str {K : PySem.W.Frag} {H : Hp} {i : Str} {n : Nat} : Alike K n H (.str i) (.str i) := Alike.scal ⟨rfl, .inr (.inr (.inr ⟨i, rfl⟩))⟩
theorem Alike.ints {α : Type} {K : PySem.W.Frag} {H : Hp} {n : Nat} {f : α → V} {l : List α} (hf : ∀ a, ∃ i, f a = .int i) {i : Nat} {x y : V} (a : (l.map f)[i]? = some x) (b : (l.map f)[i]? = some y) : Alike K n H x y := by
  have e : x = y := Option.some.inj (a.symm.trans b)
  subst e
  rw [List.getElem?_map] at a
  cases h : l[i]? with
  | none => rw [h] at a; cases a
  | some u =>
    rw [h] at a
    obtain ⟨j, hj⟩ := hf u
    have e : x = .int j := (Option.some.inj a).symm.trans hj
    rw [e]
    exact Alike.int
/-- a row as a value -/
abbrev rowV (l : List Nat) : List V := l.map fun (n : Nat) => V.int (n : Int)
theorem Alike.rowT {K : PySem.W.Frag} {H : Hp} {n : Nat} {p q : Addr} {l : List Nat} (a : SqT K H p (rowV l)) (b : SqT K H q (rowV l)) (hz : l.length ≤ 100000) : Alike K (n + 1) H (.ref p) (.ref q) :=
  Alike.seq (.inl ⟨a, b⟩) rfl (by rw [List.length_map]; exact hz) fun _ _ _ x y => Alike.ints (fun a => ⟨_, rfl⟩) x y
theorem Alike.rowL {K : PySem.W.Frag} {H : Hp} {n : Nat} {p q : Addr} {l : List Nat} (a : SqL K H p (rowV l)) (b : SqL K H q (rowV l)) (hz : l.length ≤ 100000) : Alike K (n + 1) H (.ref p) (.ref q) :=
  Alike.seq (.inr ⟨a, b⟩) rfl (by rw [List.length_map]; exact hz) fun _ _ _ x y => Alike.ints (fun a => ⟨_, rfl⟩) x y
/-- two lists or tuples of two -/
theorem Alike.two {K : PySem.W.Frag} {H : Hp} {n : Nat} {p q : Addr} {a b c d : V} (h : (SqT K H p [a, b] ∧ SqT K H q [c, d]) ∨ (SqL K H p [a, b] ∧ SqL K H q [c, d])) (h1 : Alike K n H a c) (h2 : Alike K n H b d) : Alike K (n + 1) H (.ref p) (.ref q) :=
  Alike.seq h rfl (by show 2 ≤ 100000; decide) fun i x' y' e f => by
    match i with
    | 0 => cases e; cases f; exact h1
    | 1 => cases e; cases f; exact h2
    | i + 2 => cases e
theorem Alike.nat {K : PySem.W.Frag} {H : Hp} {i j : Nat} {n : Nat} (e : i = j) : Alike K n H (.int (i : Int)) (.int (j : Int)) := by
  rw [e]
  exact Alike.int
/-! ### promises of a law's helpers -/
def spAlike (K : PySem.W.Frag) (n : Nat) : Sp := fun vs H Q _ => ∃ x y, vs = [x, y] ∧ Alike K n H x y ∧ ∀ H', Same H H' → Q (.bl true) H'
/-- the mixing of a cell -/
def mix1 (c s : Int) : Int := (c * 48271 + s * 69621 + 12345) % 2147483647
def mix (c s : Int) : Int := (mix1 c s * mix1 c s + mix1 c s * 16807 + s * 7919) % 2147483629
theorem mix1_r (c s : Int) : 0 ≤ mix1 c s ∧ mix1 c s < 2147483647 := ⟨Int.emod_nonneg _ (by decide), Int.emod_lt_of_pos _ (by decide)⟩
theorem mix_r (c s : Int) : 0 ≤ mix c s ∧ mix c s < 2147483629 := ⟨Int.emod_nonneg _ (by decide), Int.emod_lt_of_pos _ (by decide)⟩
def spMix : Sp := fun vs H Q _ => ∃ c s : Int, vs = [.int c, .int s] ∧ Q (.int (mix c s)) H
/-- a def of two symbols -/
def spSym2 (f : Nat → Nat → Nat) : Sp := fun vs H Q _ => ∃ a b : Nat, vs = [.int (a : Int), .int (b : Int)] ∧ (a < 128 ∧ b < 128) ∧ Q (.int (f a b : Nat)) H
theorem nat_of {x : Int} {m : Int} (hm : 0 < m) : ∃ n : Nat, x % m = (n : Int) ∧ (n : Int) < m :=
  ⟨(x % m).toNat, (Int.toNat_of_nonneg (Int.emod_nonneg _ (by omega))).symm, by rw [Int.toNat_of_nonneg (Int.emod_nonneg _ (by omega))]; exact Int.emod_lt_of_pos _ hm⟩
theorem sym_of (x : Int) : ∃ n : Nat, x % 128 = (n : Int) ∧ n < 128 := by
  obtain ⟨n, e, h⟩ := nat_of (x := x) (m := 128) (by decide)
  exact ⟨n, e, by omega⟩
theorem row_at {l : List Nat} {i n : Nat} (h : l[i]? = some n) : atI (rowV l) (i : Int) = some (.int (n : Int)) := atI_nat (by rw [List.getElem?_map, h] <;> rfl)
theorem xor_cast (a b : Nat) : Builtin.bitXor (a : Int) (b : Int) = ((a ^^^ b : Nat) : Int) := by
  rw [Bits.bitXor_pp (Int.natCast_nonneg _) (Int.natCast_nonneg _)]
  rfl
/-! ### the field's tables as the program has them -/
structure Tabs (K : PySem.W.Frag) (mg : Str → Option Value) (pl ll : List Nat) : Prop where
  pow : ∃ a : Addr, mg "POWERS" = some (.ref a) ∧ ∀ H, SqT K H a (rowV pl)
  log : ∃ a : Addr, mg "LOGARITHMS" = some (.ref a) ∧ ∀ H, SqT K H a (rowV ll)
  ord : ∃ t : Tok, mg "ORDER" = some (.int 127 t)
theorem vint_eq {i j : Int} (h : decide (V.int i = V.int j) = true) : i = j := V.int.inj (of_decide_eq_true h)
theorem vint_ne {i j : Int} (h : ¬ decide (V.int i = V.int j) = true) : i ≠ j := fun e => h (decide_eq_true (by rw [e]))
theorem dec_ne {p : Prop} [Decidable p] (h : ¬ decide p = true) : ¬ p := fun e => h (decide_eq_true e)
/-- a branch that is taken, that is not taken -/
theorem iteP {c A B : Prop} [Decidable c] (hc : c) (h : A) : if c then A else B := by
  rw [if_pos hc]
  exact h
theorem iteN {c A B : Prop} [Decidable c] (hc : ¬ c) (h : B) : if c then A else B := by
  rw [if_neg hc]
  exact h
theorem iteB {c : Bool} {A B : Prop} (hc : c = false) (h : B) : if c = true then A else B := by
  rw [hc]
  exact iteF h
/-! ### isinstance with the built-in kinds -/
theorem kit_seqT {K : PySem.W.Frag} : PySem.W.kitAny K (.type "tuple") [.type "tuple", .type "list"] = some true :=
  kitAny_cons (b := true) (kit_ty (by decide +kernel)) (fun h => nomatch h) fun _ => rfl
theorem kit_seqL {K : PySem.W.Frag} : PySem.W.kitAny K (.type "list") [.type "tuple", .type "list"] = some true :=
  kitAny_cons (b := false) (kit_ty (by decide +kernel)) (fun _ => kitAny_cons (b := true) (kit_ty (by decide +kernel)) (fun h => nomatch h) fun _ => rfl) fun h => nomatch h
theorem kit_seqN {K : PySem.W.Frag} {t : String} (h1 : kitB t "tuple" = some false) (h2 : kitB t "list" = some false) : PySem.W.kitAny K (.type t) [.type "tuple", .type "list"] = some false :=
  kitAny_cons (b := false) (kit_ty h1) (fun _ => kitAny_cons (b := false) (kit_ty h2) (fun _ => kitAny_nil) fun h => nomatch h) fun h => nomatch h
theorem cls_seq : Paired ClsV [V.ty "tuple", V.ty "list"] [Value.type "tuple", Value.type "list"] := .cons (.ty _) (.cons (.ty _) .nil)
/-- a scalar's kind -/
inductive SK : V → String → Prop where
  | int (i : Int) : SK (.int i) "int"
  | bl (b : Bool) : SK (.bl b) "bool"
  | str (s : Str) : SK (.str s) "str"
  | non : SK .non "NoneType"
theorem SK.ty {K : PySem.W.Frag} {H : Hp} {x : V} {t : String} (h : SK x t) : TyX K H x (.type t) := by
  cases h with
  | int i => exact ty_int
  | bl b => exact ty_bl
  | str s => exact ty_str
  | non => exact ty_non
def spA (K : PySem.W.Frag) : Nat → Sp
  | 0 => fun _ _ _ _ => False
  | n + 1 => spAlike K n
theorem spA_no {P : Program} {w : World} {K : PySem.W.Frag} {mg : Str → Option Value} {base : Heap} {f : Addr} {fd : FuncData} {ps : List Str} : FnOk P w K mg base CX0 0 f fd ps (spA K 0) :=
  ⟨fun vs H Q E h => absurd h id, fun A outer s H args us vs Q E _ _ _ _ h => absurd h id⟩
theorem room_mono {j k : Nat} {A : Around} (r : Room k A) (h : j ≤ k) : Room j A := r.mono h
theorem sz_ok {n : Nat} (h : n ≤ 100000) : n ≤ sizeLine := Nat.le_trans h (by decide)
theorem sz_lt {n : Nat} (h : n < 100000) : n < sizeLine := Nat.lt_of_lt_of_le h (by decide)
theorem iteC {c : Bool} {A B : Prop} (hc : c = true) (h : A) : if c = true then A else B := by
  rw [hc]
  exact iteT h
theorem ix_any {K : PySem.W.Frag} {H : Hp} {p : Addr} {xs : List V} {i : Nat} {v : V} {Q : VK} (h : SqL K H p xs ∨ SqT K H p xs) (e : xs[i]? = some v) (q : Q v H) : rIx K (.ref p) (.int (i : Int)) H Q := by
  rcases h with h | h
  · exact .inl ⟨_, _, _, _, rfl, rfl, h, atI_nat e, q⟩
  · exact .inr (.inl ⟨_, _, _, _, rfl, rfl, h, atI_nat e, q⟩)
theorem kind_seq {K : PySem.W.Frag} {H : Hp} {p q : Addr} {xs ys : List V} (h : (SqT K H p xs ∧ SqT K H q ys) ∨ (SqL K H p xs ∧ SqL K H q ys)) :
    ∃ (ty : String) (b1 b2 : Bool), (∀ H', Same H H' → TyX K H' (.ref p) (.type ty) ∧ TyX K H' (.ref q) (.type ty) ∧ (SqL K H' p xs ∨ SqT K H' p xs) ∧ (SqL K H' q ys ∨ SqT K H' q ys)) ∧
      PySem.W.kitAny K (.type ty) [.type "tuple", .type "list"] = some true ∧ PySem.W.kitOne K (.type ty) (.type "tuple") = some b1 ∧ PySem.W.kitOne K (.type ty) (.type "list") = some b2 := by
  rcases h with ⟨a, b⟩ | ⟨a, b⟩
  · exact ⟨"tuple", true, false, fun H' e => ⟨ty_tup (same_tup e a), ty_tup (same_tup e b), .inr (same_tup e a), .inr (same_tup e b)⟩, kit_seqT, kit_ty (by decide +kernel), kit_ty (by decide +kernel)⟩
  · exact ⟨"list", false, true, fun H' e => ⟨ty_lst (e.seq a), ty_lst (e.seq b), .inl (e.seq a), .inl (e.seq b)⟩, kit_seqL, kit_ty (by decide +kernel), kit_ty (by decide +kernel)⟩
theorem not_self {A B : Prop} {b : Bool} (h : B) : if (!decide (V.bl b = V.bl b)) = true then A else B := iteNS rfl h
theorem foldl_take {α β : Type} (f : β → α → β) (z : β) {l : List α} {i : Nat} {w : α} (h : l[i]? = some w) : (l.take (i + 1)).foldl f z = f ((l.take i).foldl f z) w := by
  rw [List.take_add_one, h]
  show ((l.take i) ++ [w]).foldl f z = _
  rw [List.foldl_append]
  rfl
theorem rowV_at {l : List Nat} {i : Nat} {x : V} (h : (rowV l)[i]? = some x) : ∃ n, l[i]? = some n ∧ x = .int (n : Int) := by
  rw [List.getElem?_map] at h
  cases e : l[i]? with
  | none => rw [e] at h; cases h
  | some n =>
    rw [e] at h
    exact ⟨n, rfl, (Option.some.inj h).symm⟩
/-- .. that leaves new things behind -/
def spSym2N (f : Nat → Nat → Nat) : Sp := fun vs H Q _ => ∃ a b : Nat, vs = [.int (a : Int), .int (b : Int)] ∧ (a < 128 ∧ b < 128) ∧ ∀ H', Same H H' → Q (.int (f a b : Nat)) H'
/-! ### keywords alone -/
def gSame {α : Type} : List α → List α → List α
  | [], ws => ws
  | _ :: _, _ => []
def gSwap {α : Type} : List α → List α → List α
  | [], [x, y] => [y, x]
  | _, _ => []
section
variable {K : PySem.W.Frag} {x qual : Str} {st : Stmt} {f : Addr} {fd : FuncData}
theorem kb_same {ps : List Str} (F : Fun K x qual st f fd) (h0 : ps ≠ [])
    (h : ∀ (kV doc pm : Value) (an : Option Addr) (cdv ct : Value) (ws : List Value), ws.length = ps.length → bindArgs (PySem.W.fnOf x qual (defArgs st) (defBody st) (defScope st) .none kV doc pm an cdv ct) ⟨[], ps.zip ws⟩ = pure (ps.zip ws)) : KBinds K fd ps ps gSame gSame := by
  obtain ⟨oc, od, kV, doc, pm, an, cdv, ct, osl, rfl, lk, hcd⟩ := F.ex
  refine ⟨fun s us ws _ hl => ?_, fun {vs us zs ws} r q => ?_⟩
  · cases us with
    | nil => exact .of_eq (h kV doc pm an cdv ct ws hl)
    | cons u r =>
      exfalso
      cases ps with
      | nil => exact h0 rfl
      | cons p t => cases hl
  · cases r with
    | nil => exact q
    | cons a b => exact .nil
theorem kb_swap {p q : Str} (F : Fun K x qual st f fd)
    (h : ∀ (kV doc pm : Value) (an : Option Addr) (cdv ct : Value) (u v : Value), bindArgs (PySem.W.fnOf x qual (defArgs st) (defBody st) (defScope st) .none kV doc pm an cdv ct) ⟨[], [(q, u), (p, v)]⟩ = pure [(p, v), (q, u)]) : KBinds K fd [p, q] [q, p] gSwap gSwap := by
  obtain ⟨oc, od, kV, doc, pm, an, cdv, ct, osl, rfl, lk, hcd⟩ := F.ex
  refine ⟨fun s us ws _ hl => ?_, fun {vs us zs ws} r q => ?_⟩
  · match us, ws, hl with
    | [], [u, v], _ => exact .of_eq (h kV doc pm an cdv ct u v)
  · cases r with
    | cons a b => exact .nil
    | nil =>
      cases q with
      | nil => exact .nil
      | cons a b =>
        cases b with
        | nil => exact .nil
        | cons c d =>
          cases d with
          | nil => exact .cons c (.cons a .nil)
          | cons _ _ => exact .nil
end
/-! ### operators over numbers from 0 on -/
def rN2 (C : Nat → Nat → Prop) (f : Nat → Nat → Nat) : R2 := fun x y H Q => ∃ i j : Nat, x = .int (i : Int) ∧ y = .int (j : Int) ∧ C i j ∧ Q (.int (f i j : Nat)) H
def rN0 (f : Nat → Nat → Nat) : R2 := fun x y H Q => ∃ i j : Nat, x = .int (i : Int) ∧ y = .int (j : Int) ∧ Q (.int (f i j : Nat)) H
def rNB (f : Nat → Nat → Bool) : R2 := fun x y H Q => ∃ i j : Nat, x = .int (i : Int) ∧ y = .int (j : Int) ∧ Q (.bl (f i j)) H
section
variable {X : Cx} {f : Value → Value → Sem Value} {r r' : R2}
theorem op_imp (h : OpR X f r) (i : ∀ x y H Q, r' x y H Q → r x y H Q) : OpR X f r' := fun pins s σ H x y v u Q I a b q => h pins s σ H x y v u Q I a b (i x y H Q q)
theorem op_modI : OpR X (binaryOp .Mod) (rI (fun _ j => 0 < j) fun i j => .int ((i % j).toNat : Nat)) := op_imp op_mod fun x y H Q ⟨i, j, hx, hy, c, q⟩ => ⟨i, j, hx, hy, c, by
  dsimp only at q ⊢
  rw [Int.toNat_of_nonneg (Int.emod_nonneg i (by omega))] at q
  exact q⟩
theorem nop_add : OpR X (binaryOp .Add) (rN0 fun i j => i + j) := op_imp op_add fun x y H Q ⟨i, j, hx, hy, q⟩ => ⟨i, j, hx, hy, by
  dsimp only at q ⊢
  rw [Int.natCast_add] at q
  exact q⟩
theorem nop_mul : OpR X (binaryOp .Mult) (rN2 (fun i j => i < 2 ^ 64 ∨ j < 2 ^ 64) fun i j => i * j) := op_imp op_mul fun x y H Q ⟨i, j, hx, hy, c, q⟩ => ⟨i, j, hx, hy, by
  rcases c with c | c
  · exact .inl ⟨by omega, by omega⟩
  · exact .inr ⟨by omega, by omega⟩, by
  dsimp only at q ⊢
  rw [Int.natCast_mul] at q
  exact q⟩
theorem nop_div : OpR X (binaryOp .FloorDiv) (rN2 (fun _ j => 0 < j ∧ j < 1073741824) fun i j => i / j) := op_imp op_fdiv fun x y H Q ⟨i, j, hx, hy, c, q⟩ => ⟨i, j, hx, hy, ⟨by omega, by omega⟩, by
  dsimp only at q ⊢
  rw [Int.natCast_ediv] at q
  exact q⟩
theorem nop_mod : OpR X (binaryOp .Mod) (rN2 (fun _ j => 0 < j) fun i j => i % j) := op_imp op_mod fun x y H Q ⟨i, j, hx, hy, c, q⟩ => ⟨i, j, hx, hy, by omega, by
  dsimp only at q ⊢
  rw [Int.natCast_emod] at q
  exact q⟩
theorem nop_xor : OpR X (binaryOp .BitXor) (rN0 fun i j => i ^^^ j) := op_imp op_xor fun x y H Q ⟨i, j, hx, hy, q⟩ => ⟨i, j, hx, hy, by
  dsimp only at q ⊢
  rw [xor_cast]
  exact q⟩
theorem nop_sub : OpR X (binaryOp .Sub) (rN2 (fun i j => j ≤ i) fun i j => i - j) := op_imp op_sub fun x y H Q ⟨i, j, hx, hy, c, q⟩ => ⟨i, j, hx, hy, by
  dsimp only at q ⊢
  rw [Int.ofNat_sub c] at q
  exact q⟩
theorem nop_eq : OpR X (compareOp .Eq) (rNB fun i j => decide (i = j)) := op_imp op_eq fun x y H Q ⟨i, j, hx, hy, q⟩ => by
  subst hx hy
  refine ⟨rfl, ?_⟩
  have e : decide (V.int (i : Int) = V.int (j : Int)) = decide (i = j) := decide_eq_decide.mpr ⟨fun z => Int.ofNat.inj (V.int.inj z), fun z => by rw [z]⟩
  rw [e]
  exact q
theorem nop_ne : OpR X (compareOp .NotEq) (rNB fun i j => decide (i ≠ j)) := op_imp op_ne fun x y H Q ⟨i, j, hx, hy, q⟩ => by
  subst hx hy
  refine ⟨rfl, ?_⟩
  have e : (!decide (V.int (i : Int) = V.int (j : Int))) = decide (i ≠ j) := by
    rw [show decide (V.int (i : Int) = V.int (j : Int)) = decide (i = j) from decide_eq_decide.mpr ⟨fun z => Int.ofNat.inj (V.int.inj z), fun z => by rw [z]⟩]
    by_cases h : i = j <;> simp [h]
  rw [e]
  exact q
theorem nop_lt : OpR X (compareOp .Lt) (rNB fun i j => decide (i < j)) := op_imp op_lt fun x y H Q ⟨i, j, hx, hy, q⟩ => ⟨i, j, hx, hy, by
  dsimp only at q ⊢
  rw [show decide ((i : Int) < (j : Int)) = decide (i < j) from decide_eq_decide.mpr Int.ofNat_lt]
  exact q⟩
theorem nop_gt : OpR X (compareOp .Gt) (rNB fun i j => decide (i > j)) := op_imp op_gt fun x y H Q ⟨i, j, hx, hy, q⟩ => ⟨i, j, hx, hy, by
  have e : decide ((i : Int) > (j : Int)) = decide (i > j) := decide_eq_decide.mpr Int.ofNat_lt
  dsimp only at q ⊢
  first | (rw [e]; exact q) | (rw [show decide ((j : Int) < (i : Int)) = decide (i > j) from e]; exact q)⟩
theorem nop_le : OpR X (compareOp .LtE) (rNB fun i j => decide (i ≤ j)) := op_imp op_le fun x y H Q ⟨i, j, hx, hy, q⟩ => ⟨i, j, hx, hy, by
  dsimp only at q ⊢
  rw [show decide ((i : Int) ≤ (j : Int)) = decide (i ≤ j) from decide_eq_decide.mpr Int.ofNat_le]
  exact q⟩
theorem nop_ge : OpR X (compareOp .GtE) (rNB fun i j => decide (i ≥ j)) := op_imp op_ge fun x y H Q ⟨i, j, hx, hy, q⟩ => ⟨i, j, hx, hy, by
  have e : decide ((i : Int) ≥ (j : Int)) = decide (i ≥ j) := decide_eq_decide.mpr Int.ofNat_le
  dsimp only at q ⊢
  first | (rw [e]; exact q) | (rw [show decide ((j : Int) ≤ (i : Int)) = decide (i ≥ j) from e]; exact q)⟩
/-- xs[i], i from 0 on -/
def rIxN (K : PySem.W.Frag) : R2 := fun x y H Q => ∃ (p : Addr) (xs : List V) (i : Nat) (v : V), x = .ref p ∧ y = .int (i : Int) ∧ (SqL K H p xs ∨ SqT K H p xs) ∧ xs[i]? = some v ∧ Q v H
theorem ix_n : IxR X (rIxN X.K) := fun value slice pins s σ H x y v u Q I a b ⟨p, xs, i, w, hx, hy, h, e, q⟩ hs => by
  subst hx hy
  exact ix_seq value slice pins s σ H _ _ v u Q I a b (ix_any h e q) hs
end
theorem ln0 : ([] : List V).length ≤ sizeLine := by show 0 ≤ sizeLine; decide
theorem ln1 {a : V} : ([a] : List V).length ≤ sizeLine := by show 1 ≤ sizeLine; decide
theorem ln2 {a b : V} : ([a, b] : List V).length ≤ sizeLine := by show 2 ≤ sizeLine; decide
theorem ln3 {a b c : V} : ([a, b, c] : List V).length ≤ sizeLine := by show 3 ≤ sizeLine; decide
theorem ln4 {a b c d : V} : ([a, b, c, d] : List V).length ≤ sizeLine := by show 4 ≤ sizeLine; decide
theorem ln5 {a b c d e : V} : ([a, b, c, d, e] : List V).length ≤ sizeLine := by show 5 ≤ sizeLine; decide
theorem ln6 {a b c d e f : V} : ([a, b, c, d, e, f] : List V).length ≤ sizeLine := by show 6 ≤ sizeLine; decide
theorem ln7 {a b c d e f g : V} : ([a, b, c, d, e, f, g] : List V).length ≤ sizeLine := by show 7 ≤ sizeLine; decide
theorem ln8 {a b c d e f g h : V} : ([a, b, c, d, e, f, g, h] : List V).length ≤ sizeLine := by show 8 ≤ sizeLine; decide
theorem vals_of : ∀ {xs : List V} {us : List Value}, us.map absV = xs.map some → Vals xs us
  | [], [], _ => .nil
  | [], _ :: _, h => nomatch h
  | _ :: _, [], h => nomatch h
  | x :: xs, u :: us, h => by
    rw [List.map_cons, List.map_cons] at h
    injection h with h1 h2
    refine .cons ?_ (vals_of h2)
    cases u <;> first | (cases h1; first | exact ⟨_, rfl⟩ | rfl) | cases h1
theorem tup_written {K : PySem.W.Frag} {a : Addr} {dd : Option Addr} {its : Array Value} {n : Nat} {sl : Array (Option Value)} {xs : List V} (l : K.lookup a = some ⟨.type "tuple", dd, .seq its n, sl⟩) (h : its.toList.map absV = xs.map some) (hz : its.toList.length ≤ 1000) (H : Hp) : SqT K H a xs :=
  .inr ⟨_, its, n, l, rfl, rfl, Nat.le_of_lt (small1000 (by rw [← Array.length_toList]; exact hz)), vals_of h⟩
theorem called {P : Program} {w : World} {K : PySem.W.Frag} {mg : Str → Option Value} {base : Heap} {CX : CXT} {x qual : Str} {st : Stmt} {f : Addr} {fd : FuncData} {k : Nat} {ps : List Str} {sp : Sp} (F : Fun K x qual st f fd) (m : mg x = some (.ref f)) (b : Binds K fd ps []) (h : FnOk P w K mg base CX k f fd ps sp) :
    Called P w K mg base CX x k ps sp := ⟨f, fd, h, m, F.kp, b⟩
theorem calledK {P : Program} {w : World} {K : PySem.W.Frag} {mg : Str → Option Value} {base : Heap} {CX : CXT} {x qual : Str} {st : Stmt} {f : Addr} {fd : FuncData} {k : Nat} {ps ks : List Str} {sp : Sp} {g : List Value → List Value → List Value} {gV : List V → List V → List V} (F : Fun K x qual st f fd) (m : mg x = some (.ref f)) (b : KBinds K fd ps ks g gV) (h : FnOk P w K mg base CX k f fd ps sp) :
    CalledK P w K mg base CX x k ps ks gV sp := ⟨f, fd, g, h, m, F.kp, b⟩
theorem call_imp {X : Cx} {f : Value} {r r' : List V → Hp → VK → Prop} (h : CallR X f r) (i : ∀ xs H Q, r' xs H Q → r xs H Q) : CallR X f r' := fun pins s σ H xs us Q I a q => h pins s σ H xs us Q I a (i xs H Q q)
theorem ncall_min2 {X : Cx} (hc : X.calm = true) : CallR X (.builtin "min") (fun xs H Q => ∃ m n : Nat, xs = [.int (m : Int), .int (n : Int)] ∧ Q (.int ((if n < m then n else m : Nat) : Int)) H) := call_imp (call_min2 hc) fun xs H Q ⟨m, n, hx, q⟩ => ⟨m, n, hx, by
  by_cases h : n < m
  · rw [if_pos h] at q
    rw [if_pos (Int.ofNat_lt.mpr h)]
    exact q
  · rw [if_neg h] at q
    rw [if_neg (fun z => h (Int.ofNat_lt.mp z))]
    exact q⟩
theorem ncall_max2 {X : Cx} (hc : X.calm = true) : CallR X (.builtin "max") (fun xs H Q => ∃ m n : Nat, xs = [.int (m : Int), .int (n : Int)] ∧ Q (.int ((if n > m then n else m : Nat) : Int)) H) := call_imp (call_max2 hc) fun xs H Q ⟨m, n, hx, q⟩ => ⟨m, n, hx, by
  by_cases h : n > m
  · rw [if_pos h] at q
    rw [if_pos (Int.ofNat_lt.mpr h)]
    exact q
  · rw [if_neg h] at q
    rw [if_neg (fun z => h (Int.ofNat_lt.mp z))]
    exact q⟩
theorem ln9 {a b c d e f g h i : V} : ([a, b, c, d, e, f, g, h, i] : List V).length ≤ sizeLine := by show 9 ≤ sizeLine; decide
theorem ln10 {a b c d e f g h i j : V} : ([a, b, c, d, e, f, g, h, i, j] : List V).length ≤ sizeLine := by show 10 ≤ sizeLine; decide
theorem ln11 {a b c d e f g h i j k : V} : ([a, b, c, d, e, f, g, h, i, j, k] : List V).length ≤ sizeLine := by show 11 ≤ sizeLine; decide
theorem ln12 {a b c d e f g h i j k l : V} : ([a, b, c, d, e, f, g, h, i, j, k, l] : List V).length ≤ sizeLine := by show 12 ≤ sizeLine; decide
/-- what law(script) promises -/
def spLaw (K : PySem.W.Frag) : Sp := fun vs H Q _ => ∃ (a : Addr) (ns : List Int), vs = [.ref a] ∧ SqL K H a (ns.map V.int) ∧ ns.length ≤ 63 ∧ ∀ H', Q (.bl true) H'
def rLenK (K : PySem.W.Frag) : List V → Hp → VK → Prop := fun xs H Q => ∃ p ys, xs = [.ref p] ∧ (SqL K H p ys ∨ SqT K H p ys) ∧ Q (.int (ys.length : Nat)) H
theorem call_lenK {X : Cx} : CallR X (.builtin "len") (rLenK X.K) := call_len_seq
end MV

set_option Elab.async false
set_option linter.all false
set_option maxRecDepth 100000
set_option maxHeartbeats 4000000
/-! An own error class whose base is an own class that stands right over Exception; its __init__ stores its one argument in a field. -/
namespace PySem
namespace Mve
open PySem.W PySem.Calls PyProof.Rows PySem.HandSPX
/-! the text of __init__ with the field at -/
def iA_at (p1 p2 : Pos) : Arguments := { posonlyargs := [], args := [{ arg := "self", annotation := none, pos := p1 }, { arg := "at", annotation := none, pos := p2 }], vararg := none, kwonlyargs := [], kw_defaults := [], kwarg := none, defaults := [] }
def iB_at (q1 q2 q3 q4 : Pos) : List Stmt := [.Assign [.Attribute (.Name "self" q1) "at" q2] (.Name "at" q3) q4]
def iS_at : Scope := { kind := .function, names := [(PySem.Str.ofString "self", .local), (PySem.Str.ofString "at", .local)], isGenerator := false, isCoroutine := false, more := [] }

structure ETxt (x qual fld : Str) (iB : Pos → Pos → Pos → Pos → List Stmt) (iA : Pos → Pos → Arguments) (iS : Scope) (K : Frag) (mg : Str → Option Value) (C D fI : Addr) : Prop where
  gC : mg x = some (.ref C)
  cls : ∃ nm q N bs sn sub ab col dd k0 k1 k2 k3 k5, K.lookup C = some (excClassObj nm q C N bs (.ref D :: ESX.exTail) true sn sub ab col dd k0 k1 k2 k3 k5 "Exception.__new__")
  sa : findIn K (.ref C) "__setattr__" = some (some (.builtin "object.__setattr__"))
  ga : findIn K (.ref C) "__getattribute__" = some (some (.builtin "BaseException.__getattribute__"))
  gg : findIn K (.ref C) "__getattr__" = some none
  noN : findIn K (.ref C) fld = some none
  iC : findIn K (.ref C) "__init__" = some (some (.ref fI))
  tC : typeIn K (.ref fI) = some (.type "function")
  kC : keepIn K (.ref C) = true
  exC : subIn K (.ref C) (.type "BaseException") = some true
  tyC : typeIn K (.ref C) = some (.type "type")
  hdC : hasDictIn K C = true
  te : exmOne K (.ref C) (.ref C) = some true
  fn : ∃ (oc : Value) (od : Option Addr) (doc pm : Value) (an : Option Addr) (cdv ct : Value) (osl : Array (Option Value)) (p1 p2 q1 q2 q3 q4 : Pos),
    K.lookup fI = some ⟨oc, od, .func (fnOf "__init__" qual (iA p1 p2) (iB q1 q2 q3 q4) iS .none .none doc pm an cdv ct), osl⟩ ∧ codeIn K cdv qual = true
theorem one_fits (v : Value) : [v].length ≤ sizeLine := by rw [sizeLine_eq]; exact (by decide : 1 ≤ 16777216)
/-- what __init__ leaves of a fresh error at x -/
structure Left (fld : Str) (h h' : Heap) (x C dx t1 : Addr) (v : Value) : Prop where
  keep : ∀ b o, b ≠ x → h.get? b = some o → h'.get? b = some o
  obj : h'.get? x = some { cls := .ref C, dict := some dx, data := .fields #[.ref t1, .none, .none, .none, .bool false, .none] }
  big : h.objs.size ≤ dx
  ne : dx ≠ x
  ns : h'.Ns1 dx (fun y => if y = fld then some v else none)
/-- a made error at e -/
structure Made (fld : Str) (h h' : Heap) (e C d : Addr) (v : Value) : Prop where
  keep : ∀ b o, h.get? b = some o → h'.get? b = some o
  new : h.objs.size ≤ e
  obj : ∃ oe vs, h'.get? e = some oe ∧ oe.cls = .ref C ∧ oe.dict = some d ∧ oe.data = .fields vs ∧ vs[1]? = some .none ∧ vs[2]? = some .none
  big : h.objs.size ≤ d
  ne : d ≠ e
  ns : h'.Ns1 d (fun y => if y = fld then some v else none)
theorem tail2_has {C D : Addr} (X : String) : (Value.ref C :: Value.ref D :: ESX.exTail).contains (.type X) = ESX.exTail.contains (.type X) := by
  rw [List.contains_cons, List.contains_cons]
  rfl
theorem tail1_has {D : Addr} (X : String) : (Value.ref D :: ESX.exTail).contains (.type X) = ESX.exTail.contains (.type X) := by
  rw [List.contains_cons]
  rfl
section
variable {prog : Program} {w : World} {A : Around} {R : Result → Shared → Prop} {hp : Heap} {g : Array GenState} {d : Drawn} {t : Nat} {os : OsState}
open Builtin Builtin.ObjectAttr in
/-- x.fld = v on an error without a dict as yet -/
theorem store_first {K : W.Frag} {name : Str} {tk : Tok} {v : Value} {x C D : Addr} {fv : Array Value} {cd : ClassData} (X : K.In hp) (hx : hp.get? x = some { cls := .ref C, data := .fields fv }) (hcd : W.clsIn K C = some cd)
    (hm : cd.mro = .ref C :: .ref D :: ESX.exTail) (hh : cd.hasDict = true) (ha : W.findIn K (.ref C) name = some none)
    (hq : ∀ h' tk' dx, (∀ b o, b ≠ x → hp.get? b = some o → h'.get? b = some o) → hp.objs.size ≤ dx → dx ≠ x → h'.get? x = some { cls := .ref C, dict := some dx, data := .fields fv } → h'.Ns1 dx (fun y => if y = name then some v else none) → R (.ok (.ret .none)) ⟨h', g, d, tk', os⟩) :
    codeAny (model prog w) A (.call (.builtin "object.__setattr__") ⟨[.ref x, .str name tk, v], []⟩) R ⟨hp, g, d, t, os⟩ := by
  have J : W.InstAt hp x { cls := .ref C, data := .fields fv } C none := ⟨hx, rfl, rfl, trivial⟩
  have SO := F.store_object
  have apart : x ≠ hp.objs.size := Nat.ne_of_lt (Heap.lt_size hx)
  have inO : W.Looks (model prog w) hp (isInstance (.ref x) (.type "object")) true := by
    refine J.type.andThen (W.looks_mroIn X ?_)
    unfold W.mroIn
    rw [hcd, Option.bind_some, hm, if_neg (show ¬ (List.isEmpty (Value.ref C :: Value.ref D :: ESX.exTail) = true) from Bool.false_ne_true), tail2_has]
    decide +kernel
  refine codeAny_call_builtin SO.slot.plain SO.entry ?_
  refine @W.check_slot (model prog w) _ _ ⟨hp, g, d, t, os⟩ "object.__setattr__" "object" "__setattr__" (.ref x) [.str name tk, v] [] _ SO.kind SO.split inO (SO.args (.ref x) (.str name tk) v) ?_
  have lookM : W.Looks (model prog w) hp (mroOf (.ref C)) cd.mro := (W.looks_clsIn X hcd).andThen .now
  have lookC : W.Looks (model prog w) hp (classData C) cd := W.looks_clsIn X hcd
  have noTaker : W.Looks (model prog w) hp (storeTaker? none) none := .now
  have pass2 : refuseLoop (.ref x) "__setattr__" cd.mro = pure () := by
    rw [hm, refuseLoop_ref, refuseLoop_ref]
    exact F.store_Exception.passes _
  rw [W.osa_eq, refuse_eq]
  refine wpAny_bind (wpAny_bind (J.type.at (wpAny_bind (lookM.at ?_))))
  rw [pass2]
  refine wpAny_pure (wpAny_bind (J.type.at (wpAny_bind ((W.looks_findIn X ha).at (wpAny_bind (noTaker.at ?_))))))
  obtain ⟨_, _, _, _, _, dct, _, _, _, _, _⟩ := cd
  dsimp only at hh
  subst hh
  show wpAny _ _ (storeInOwnDict (.ref x) (.ref C) (.str name tk) name v false) _ _ _
  unfold storeInOwnDict ownDictForStores
  repeat (first | with_reducible refine HandSPX.store_in_new ?_ ?_ | with_reducible refine lookC.at ?_ | with_reducible refine wpAny_loadPart_at hx ?_ | wp_step)
  · refine ⟨_, #[], _,
      (Heap.get?_update_ne _ _ _ _ apart.symm).trans (Heap.get?_push_at rfl rfl),
      rfl, fun z hz => absurd hz (by simp), fun _ => rfl⟩
  · intro h' tk' hn' hs
    refine hq h' tk' hp.objs.size (fun b o hb ho => ?_) (Nat.le_refl _) apart.symm ?_ hn'
    · refine (hs.2 b (Nat.ne_of_lt (Heap.lt_size ho))).trans ?_
      exact (Heap.get?_update_ne _ _ _ _ hb).trans (Heap.get?_push_of_some _ ho)
    · have hx2 : (hp.push { cls := .type "dict", data := .dict #[] }).get? x = some { cls := .ref C, data := .fields fv } := Heap.get?_push_of_some _ hx
      exact (hs.2 x apart).trans (Heap.get?_update_self _ hx2 rfl)
end
theorem ld_loc {M : Model} {s : Shared} {name : Str} {scope : Scope} {L a : Addr} {cd : Value} {m : Str → Option Value} {x : Str} {pos : Pos} {v : Value} {Q : Value → Shared → Prop} {A : Around} {E : Value → Shared → Prop} (hn : s.heap.Ns L m) (hv : m x = some v) (h : Q v s)
    (hk : scope.kind = .function := by rfl) (hl : (envOfC name scope L a cd).kindOf x = some .local := by rfl) (hd : (x == ("__debug__" : Str)) = false := by decide) : wpAny M A (eval (.Name x pos) (envOfC name scope L a cd)) Q E s :=
  wpAny_Name (wpAny_loadName_local hk hl hn hv h) hd
end Mve
end PySem
namespace L2
open PySem PySem.Spec PyProof.Rows
/-- the class's making, said apart (shown for each field's name) -/
def Makes (x qual fld : Str) (iB : Pos → Pos → Pos → Pos → List Stmt) (iA : Pos → Pos → Arguments) (iS : Scope) : Prop :=
  ∀ {prog : Program} {w : World} {A : Around} {R : Result → Shared → Prop} {s : Shared} {K : PySem.W.Frag} {mg : Str → Option Value} {C D fI : Addr} (_ : PySem.Mve.ETxt x qual fld iB iA iS K mg C D fI) {v : Value}, K.In s.heap → s.heap.NoLimit → A.depth + 1 < recursionLimit →
    (∀ h' tk e d, PySem.Mve.Made fld s.heap h' e C d v → R (.ok (.ret (.ref e))) { s with heap := h', toks := tk }) → codeAny (model prog w) A (.call (.ref C) ⟨[v], []⟩) R s
end L2
namespace PySem
namespace Mve
open PySem.W PySem.Calls PyProof.Rows PySem.HandSPX
section
variable {prog : Program} {w : World} {A : Around} {R : Result → Shared → Prop} {s : Shared} {K : Frag} {mg : Str → Option Value} {C D fI : Addr} {x qual : Str}
theorem init_at (T : ETxt x qual "at" iB_at iA_at iS_at K mg C D fI) {x0 t0 : Addr} {v : Value} (X : K.In s.heap) (hlim : s.heap.NoLimit) (hx : s.heap.get? x0 = some (excO C t0)) (hnx : K.lookup x0 = none) (hroom : A.depth < recursionLimit)
    (hq : ∀ h' tk dx, Left "at" s.heap h' x0 C dx t0 v → R (.ok (.ret .none)) { s with heap := h', toks := tk }) : codeAny (model prog w) A (.call (.ref fI) ⟨[.ref x0, v], []⟩) R s := by
  obtain ⟨oc, od, doc, pm, an, cdv, ct, osl, p1, p2, q1, q2, q3, q4, ho, hcd⟩ := T.fn
  obtain ⟨nm, q, N, bs, sn, sub, ab, col, dd, k0, k1, k2, k3, k5, hC⟩ := T.cls
  have hcl : clsIn K C = some { name := nm, bases := bs, mro := .ref C :: .ref D :: ESX.exTail, ns := N, qualname := q, hasDict := true, slotNames := sn, subclasses := sub, abstract := ab, collection := col, hasDel := false } := by
    unfold clsIn
    rw [hC] <;> rfl
  refine Att.call_fn (binds := [("self", .ref x0), ("at", v)]) X hlim ho hcd hroom (BindsTo.of_eq (by first | rfl | with_unfolding_all rfl)) (by first | rfl | decide | with_unfolding_all rfl) (fun s₁ IC => ?_) rfl rfl rfl
  obtain ⟨h₁, tk₁, rfl⟩ := IC.toInCall.same
  have kp : ∀ b o, s.heap.get? b = some o → h₁.get? b = some o := IC.toInCall.keep
  have hn := IC.toInCall.ns
  have X₁ : K.In h₁ := X.keeps kp
  have hx₁ := kp _ _ hx
  show wpAny _ _ (execs _ _) _ _ _
  refine wpAny_execs_cons (plainObj_wpAny_Assign_Attribute ?_)
  refine ld_loc (v := v) hn (by first | rfl | with_unfolding_all rfl | kernel_rfl) (ld_loc (v := .ref x0) hn (by first | rfl | with_unfolding_all rfl | kernel_rfl) ?_)
  refine set_plain X₁ (ox := excO C t0) (od := none) ⟨hx₁, rfl, rfl, trivial⟩ T.sa ?_
  refine store_first X₁ hx₁ hcl rfl rfl T.noN (fun h₃ tk₃ dx k₃ dn dne hx₃ hn₃ => ?_)
  show wpAny _ _ (execs _ _) _ _ _
  have lt : s.heap.objs.size < h₁.objs.size := hn.lt
  exact wpAny_execs_nil (hq h₃ tk₃ dx ⟨fun b o hb e => k₃ b o hb (kp b o e), hx₃, Nat.le_of_lt (Nat.lt_of_lt_of_le lt dn), dne, hn₃⟩)
theorem made_at : L2.Makes x qual "at" iB_at iA_at iS_at := by
  intro prog w A R s K mg C D fI T v X hlim hroom hq
  obtain ⟨nm, q, N, bs, sn, sub, ab, col, dd, k0, k1, k2, k3, k5, hC⟩ := T.cls
  obtain ⟨hp, g, dr, tk, os⟩ := s
  have kp : ∀ b o, hp.get? b = some o → ((hp.push (kdv_tup [v])).push (excO C hp.objs.size)).get? b = some o := fun b o e => Heap.get?_push_of_some _ (Heap.get?_push_of_some _ e)
  have here : ((hp.push (kdv_tup [v])).push (excO C hp.objs.size)).get? (hp.objs.size + 1) = some (excO C hp.objs.size) := by heap_get
  have hnx : K.lookup (hp.objs.size + 1) = none := by
    cases e : K.lookup (hp.objs.size + 1) with
    | none => rfl
    | some o => exact absurd (Nat.lt_of_succ_lt (Heap.lt_size (X _ _ e))) (Nat.lt_irrefl _)
  refine call_own F.excBase_Exception (fun X => tail1_has X) (X _ _ hC) (looks_findIn X T.iC) (fun self => bind_fn X self T.tC) (one_fits v) ?_
  refine init_at (s := ⟨(hp.push (kdv_tup [v])).push (excO C hp.objs.size), g, dr, tk, os⟩) T (X.keeps kp) (hlim.keeps kp) here hnx hroom fun h' tk' dx ⟨k', hx, dn, dne, hns⟩ => ?_
  have old : ∀ b o, hp.get? b = some o → h'.get? b = some o := fun b o e => k' b o (Nat.ne_of_lt (Nat.lt_succ_of_lt (Heap.lt_size e))) (kp b o e)
  have big : hp.objs.size + 1 + 1 ≤ dx := by
    first | (simpa only [Heap.size_push] using dn) | exact dn | (have q := dn; rw [Heap.size_push, Heap.size_push] at q; exact q)
  exact ⟨rfl, hq h' tk' (hp.objs.size + 1) dx ⟨old, Nat.le_succ _, ⟨_, _, hx, rfl, rfl, rfl, rfl, rfl⟩, (by show hp.objs.size ≤ dx; omega), dne, hns⟩⟩
end

end Mve
end PySem
namespace L2
open PySem PySem.Spec PyProof.Rows
theorem relO_one {v : V} {v' : Value} {fld : Str} (r : RelV v v') (f : Str) : RelO (List.lookup f [(fld, v)]) (if f = fld then some v' else none) := by
  by_cases hw : f = fld
  · rw [if_pos hw, hw, show List.lookup fld [(fld, v)] = some v by simp [List.lookup]]
    exact r
  · have ne : (f == fld) = false := by simpa using hw
    rw [if_neg hw, show List.lookup f [(fld, v)] = none by simp [List.lookup, ne]]
    trivial
/-- C(e), an error of one field -/
def tMkE (C : Addr) (fld : Str) (ta : TA) : St → Hp → XK → Prop := fun σ H Q => ta σ H fun vs H1 => ∃ v, vs = [v] ∧ ∀ d, H1 d = none → Q (.ref C) (some d) (upd H1 d (.xd [(fld, v)]))
def tRaiseE (C : Addr) (fld : Str) (W : WX) (ta : TA) : TS := fun _ σ H => tMkE C fld ta σ H fun cls d H' => W cls d σ H'
/-- n.fld, n the error that the suite holds -/
def tByE (C : Addr) (fld : Str) (a : Addr) (cls : Value) (d : Option Addr) (te : TE) : TE := fun σ H Q => te σ H fun x H1 => x = .ref a ∧ cls = .ref C ∧ ∃ (dd : Addr) (v : V), d = some dd ∧ H1 dd = some (.xd [(fld, v)]) ∧ Q v H1
section
variable {X : Cx} {C D fI : Addr} {x qual fld : Str} {iB : Pos → Pos → Pos → Pos → List Stmt} {iA : Pos → Pos → Arguments} {iS : Scope}
theorem pmk_err {a : Expr} {ta : TA} {p pos : Pos} {k : Nat} (mk : Makes x qual fld iB iA iS) (T : PySem.Mve.ETxt x qual fld iB iA iS X.K X.mg C D fI) (hr : Room k X.A) (ha : PA X [a] ta) (hg : Gl X x := by rfl) (hdb : (x == ("__debug__" : Str)) = false := by decide)
    (he : starEach (a :: []) X.env = (false, eval a X.env) :: starEach [] X.env := by rfl) (hpl : (backTo pos (starEach [] X.env)).any (·.1) = false := by rfl) : PMk X (.Call (.Name x p) [a] [] pos) (tMkE C fld ta) := by
  intro pins s σ H Q I h
  refine wpAny_Call_Name_kw (ld_glob I hg T.gC ?_ hdb)
  refine PySem.W.callWith_K (h₀ := X.base) I.ok.mod.kin T.kC ?_ he hpl
  refine thn (ha.run pos pins s σ H _ I h) fun us s1 ⟨vs, H1, I1, r1, v, ev, q1⟩ => ⟨I1.kIn, ?_⟩
  subst ev
  cases r1 with
  | cons rv rn =>
    rename_i v' us'
    cases rn
    have lim := I1.nolimit
    obtain ⟨hp, g, dr, tk, os⟩ := s1
    have deep : X.A.depth + 1 < recursionLimit := by have := hr.dp; omega
    refine wpAny_call (mk T I1.kIn lim deep fun h' tk' e d M => ?_)
    show MkP X pins σ Q (.ref e) ⟨h', g, dr, tk', os⟩
    obtain ⟨oe, fv, hoe, hc, hd, hdat, h1, h2⟩ := M.obj
    obtain ⟨G', g1, g2⟩ := restrict h' fun b => decide (b ≠ e)
    have away : ∀ b, b ≠ e → G'.get? b = h'.get? b := fun b hb => g1 b (decide_eq_true hb)
    have gone : G'.get? e = none := g2 e (by simp)
    have old : ∀ b o, hp.get? b = some o → G'.get? b = some o := fun b o q => by
      rw [away b (Nat.ne_of_lt (Nat.lt_of_lt_of_le (Heap.lt_size q) M.new))]
      exact M.keep b o q
    have fresh : H1 d = none := I1.hok.fresh M.big
    have ob : ObjOk X.prog X.w (upd H1 d (.xd [(fld, v)])) G' d (.xd [(fld, v)]) := ⟨_, M.ns.at (fun o q => (away d M.ne).trans q), fun f => relO_one rv f⟩
    have J : Inv X pins σ (upd H1 d (.xd [(fld, v)])) ⟨G', g, dr, tk', os⟩ := I1.laid (t' := tk') old M.big ob
    refine ⟨e, oe, fv, ⟨G', g, dr, tk', os⟩, _, .ref C, some d, rfl, J, fun b o q => ?_, gone, hoe, ⟨hc, hd⟩, hdat, h1, ?_, rfl, I1.bare, raises_own T.exC T.tyC, q1 d fresh⟩
    · by_cases hb : b = e
      · have q' : G'.get? b = some o := q
        rw [hb, gone] at q'
        cases q'
      · exact (away b hb).symm.trans q
    · rw [upd_ne (Ne.symm M.ne)]
      exact I1.hok.fresh M.new
theorem ps_raiseE {a : Expr} {ta : TA} {W : WX} {p pos pos2 : Pos} {k : Nat} (mk : Makes x qual fld iB iA iS) (T : PySem.Mve.ETxt x qual fld iB iA iS X.K X.mg C D fI) (hc : X.calm = true) (hr : Room k X.A) (tk : Takes X W) (ha : PA X [a] ta) (hg : Gl X x := by rfl) (hdb : (x == ("__debug__" : Str)) = false := by decide)
    (he : starEach (a :: []) X.env = (false, eval a X.env) :: starEach [] X.env := by rfl) (hpl : (backTo pos (starEach [] X.env)).any (·.1) = false := by rfl) :
    PS X (.Raise (some (.Call (.Name x p) [a] [] pos)) none pos2) (tRaiseE C fld W ta) := ps_raise hc tk (pmk_err mk T hr ha hg hdb he hpl)
theorem pe_byE {a : Addr} {oe : Obj} {cls : Value} {d : Option Addr} {pn : List (Addr × Obj)} {e : Expr} {te : TE} {pos : Pos} (T : PySem.Mve.ETxt x qual fld iB iA iS X.K X.mg C D fI) (hz : Zc cls d oe) (hf : ∃ vs, oe.data = .fields vs) (he : PE (X.suite a ((a, oe) :: pn)) e te)
    (hb : attributeBase e fld X.env (eval e X.env) = eval e X.env := by rfl) : PE (X.suite a ((a, oe) :: pn)) (.Attribute e fld pos) (tByE C fld a cls d te) := by
  refine ⟨fun pins s σ H Q I h => ?_⟩
  refine attr_of hb (thn (he.run pins s σ H _ I h) fun u s1 ⟨y, H1, I1, rx, ey, ec, dd, v, ed, ea, q⟩ => ?_)
  subst ey ec ed
  obtain rfl : u = Value.ref a := rx
  obtain ⟨ha, _⟩ := I1.pin (a, oe) (List.mem_append_left _ List.mem_cons_self)
  obtain ⟨vs, hd⟩ := hf
  have hx : ObjOk X.prog X.w H1 s1.heap dd (.xd [(fld, v)]) := I1.hok dd _ ea
  obtain ⟨mA, hns, hr⟩ := hx
  obtain ⟨od, ho, hl⟩ := lookIn_ns hns
  have l : List.lookup fld [(fld, v)] = some v := by simp [List.lookup]
  obtain ⟨u, hu, ru⟩ := RelO.some_of (v := v) (o := mA fld) (by rw [← l]; exact hr fld)
  have J : PySem.W.InstAt s1.heap a oe C (some od) := ⟨ha, hz.1, by unfold PySem.W.notCls; rw [hd] <;> rfl, by rw [hz.2]; exact ho⟩
  refine HandSPX.exc_get I1.kIn J T.ga T.gg T.exC ?_ (handed_of ru) ⟨v, H1, I1.tok _, ru, q⟩
  exact PySem.W.findObj_own T.hdC T.noN rfl (by rw [hl, hu])
end
end L2
namespace MV
open PySem PySem.Spec PyProof.Rows L2
section
variable {X : Cx} {CX : CXT} {k : Nat} {ps : List Str} {sp : Sp} {x : Str} {p pos : Pos} {e : Expr} {es : List Expr} {t : TA} {E : L2.St → XK}
theorem pe_ownS (C : Called X.prog X.w X.K X.mg X.base CX x k ps sp) (hr : Room k X.A) (hg : Gl X x) (hx : ∀ σ, PassesAt CX X σ (E σ))
    (ha : PA X (e :: es) t) (hdb : (x == ("__debug__" : Str)) = false := by decide) (he : starEach (e :: es) X.env = (false, eval e X.env) :: starEach es X.env := by rfl) (hpl : (backTo pos (starEach es X.env)).any (·.1) = false := by rfl) :
    PE X (.Call (.Name x p) (e :: es) [] pos) (tCallS sp E t) := by
  obtain ⟨f, fd, F, m, kp, b⟩ := C.ex
  exact pe_callS F hr hg m kp b hx ha hdb he hpl
end
/-- the errors of the program, with their field at -/
abbrev EAt (x qual : Str) (K : PySem.W.Frag) (mg : Str → Option Value) (C D fI : Addr) : Prop := PySem.Mve.ETxt x qual "at" PySem.Mve.iB_at PySem.Mve.iA_at PySem.Mve.iS_at K mg C D fI
/-- what inverse promises -/
def spInv (C : Addr) : Sp := fun vs H Q E => ∃ a : Nat, vs = [.int (a : Int)] ∧ a < 128 ∧ (a = 0 → ∀ d : Addr, H d = none → E (.ref C) (some d) (upd H d (.xd [(("at" : Str), .int 0)]))) ∧ (a ≠ 0 → Q (.int (inv a : Nat)) H)
def spOver (C : Addr) : Sp := fun vs H Q E => ∃ a b : Nat, vs = [.int (a : Int), .int (b : Int)] ∧ (a < 128 ∧ b < 128) ∧ (b = 0 → ∀ d : Addr, H d = none → E (.ref C) (some d) (upd H d (.xd [(("at" : Str), .int 1)]))) ∧ (b ≠ 0 → Q (.int (mul a (inv b) : Nat)) H)
/-- a new list of the powers of 2 -/
def spPowers : Sp := fun vs H Q _ => vs = [] ∧ ∀ p H', Same H H' → H' p = some (.lst (rowV powL)) → Q (.ref p) H'
def spQuot (K : PySem.W.Frag) : Sp := fun vs H Q _ => ∃ (p : Addr) (a b : Nat), vs = [.ref p, .int (a : Int), .int (b : Int)] ∧ SqL K H p (rowV powL) ∧ (a < 128 ∧ b < 128) ∧ b ≠ 0 ∧ Q (.int (mul a (inv b) : Nat)) H
/-- ('told', value) or ('refused', place) -/
def askedW (w a b : Nat) : Str := if (w = 0 ∧ a = 0) ∨ (w ≠ 0 ∧ b = 0) then "refused" else "told"
def askedN (w a b : Nat) : Int := if w = 0 then (if a = 0 then 0 else (inv a : Nat)) else (if b = 0 then 1 else (mul a (inv b) : Nat))
def spAsked : Sp := fun vs H Q _ => ∃ w a b : Nat, vs = [.int (w : Int), .int (a : Int), .int (b : Int)] ∧ (a < 128 ∧ b < 128) ∧ ∀ p H', Same H H' → H' p = some (.tup [.str (askedW w a b), .int (askedN w a b)]) → Q (.ref p) H'
theorem flat_rowV (l : List Nat) : (rowV l).all flatV = true := by
  rw [List.all_map]
  exact List.all_eq_true.mpr fun _ _ => rfl
/-- an error of the class at S is what «except S» names -/
theorem exm_own {K : PySem.W.Frag} {S : Addr} (h1 : PySem.W.subIn K (.ref S) (.type "BaseException") = some true) (h2 : PySem.W.isClsIn K S = true) (h3 : PySem.W.typeIn K (.ref S) = some (.type "type")) (h4 : PySem.W.subIn K (.ref S) (.ref S) = some true) : PySem.W.exmOne K (.ref S) (.ref S) = some true := by
  have a : (PySem.W.subIn K (.ref S) (.type "BaseException") == some true) = true := by rw [h1] <;> rfl
  have b : ((PySem.W.clsIn K S).isSome && PySem.W.typeIn K (.ref S) == some (.type "type")) = true := by
    rw [show (PySem.W.clsIn K S).isSome = true from h2, h3] <;> rfl
  unfold PySem.W.exmOne PySem.W.kitCls
  rw [if_pos a]
  dsimp only
  rw [if_pos b]
  exact h4
end MV

set_option linter.all false
set_option maxRecDepth 100000
/-! Own mathematics: rows of symbols as polynomials. -/
namespace MV
/-- without noughts at the end -/
def trim : List Nat → List Nat
  | [] => []
  | a :: r => match trim r with
    | [] => if a = 0 then [] else [a]
    | b :: t => a :: b :: t
theorem trim_cons_ne {a : Nat} {r : List Nat} (h : trim r ≠ []) : trim (a :: r) = a :: trim r := by
  show (match trim r with | [] => if a = 0 then [] else [a] | b :: t => a :: b :: t) = _
  cases e : trim r with
  | nil => exact absurd e h
  | cons b t => rfl
theorem trim_cons_nil {a : Nat} {r : List Nat} (h : trim r = []) : trim (a :: r) = if a = 0 then [] else [a] := by
  show (match trim r with | [] => if a = 0 then [] else [a] | b :: t => a :: b :: t) = _
  rw [h]
theorem trim_len : ∀ l : List Nat, (trim l).length ≤ l.length
  | [] => Nat.le_refl _
  | a :: r => by
    have ih := trim_len r
    by_cases h : trim r = []
    · rw [trim_cons_nil h]
      split
      · exact Nat.zero_le _
      · show 1 ≤ r.length + 1
        omega
    · rw [trim_cons_ne h]
      show (trim r).length + 1 ≤ r.length + 1
      omega
/-- the n-th coefficient -/
def coef (l : List Nat) (n : Nat) : Nat := l.getD n 0
theorem coef_nil (n : Nat) : coef [] n = 0 := by unfold coef; simp
theorem coef_cons_zero (a : Nat) (r : List Nat) : coef (a :: r) 0 = a := rfl
theorem coef_cons_succ (a : Nat) (r : List Nat) (n : Nat) : coef (a :: r) (n + 1) = coef r n := by unfold coef; simp
theorem coef_trim : ∀ (l : List Nat) (n : Nat), coef (trim l) n = coef l n
  | [], n => rfl
  | a :: r, n => by
    have ih := coef_trim r
    by_cases h : trim r = []
    · have z : ∀ m, coef r m = 0 := fun m => by rw [← ih m, h, coef_nil]
      rw [trim_cons_nil h]
      by_cases a0 : a = 0
      · rw [if_pos a0, coef_nil]
        cases n with
        | zero => rw [coef_cons_zero, a0]
        | succ n => rw [coef_cons_succ, z]
      · rw [if_neg a0]
        cases n with
        | zero => rfl
        | succ n => rw [coef_cons_succ, coef_cons_succ, z, coef_nil]
    · rw [trim_cons_ne h]
      cases n with
      | zero => rfl
      | succ n => rw [coef_cons_succ, coef_cons_succ, ih]
/-- rows with the same coefficients are trimmed alike -/
theorem trim_eq : ∀ {l m : List Nat}, (∀ n, coef l n = coef m n) → trim l = trim m
  | [], [], _ => rfl
  | [], b :: m, h => by
    have hm : trim ([] : List Nat) = trim m := trim_eq fun n => by rw [coef_nil, ← coef_cons_succ b m n, ← h (n + 1), coef_nil]
    have hb : b = 0 := by rw [← coef_cons_zero b m, ← h 0, coef_nil]
    rw [trim_cons_nil (r := m) hm.symm, if_pos hb]
    rfl
  | a :: l, [], h => by
    have hl : trim l = trim ([] : List Nat) := trim_eq fun n => by rw [coef_nil, ← coef_cons_succ a l n, h (n + 1), coef_nil]
    have ha : a = 0 := by rw [← coef_cons_zero a l, h 0, coef_nil]
    rw [trim_cons_nil (r := l) hl, if_pos ha]
    rfl
  | a :: l, b :: m, h => by
    have hl : trim l = trim m := trim_eq fun n => by rw [← coef_cons_succ a l n, ← coef_cons_succ b m n, h (n + 1)]
    have hab : a = b := h 0
    subst hab
    by_cases e : trim l = []
    · rw [trim_cons_nil e, trim_cons_nil (hl.symm.trans e)]
    · rw [trim_cons_ne e, trim_cons_ne (fun z => e (hl.trans z)), hl]
termination_by l m => l.length + m.length
theorem trim_trim (l : List Nat) : trim (trim l) = trim l := trim_eq fun n => coef_trim l n
/-- trimmed to the part that counts: as many places as lead to the last symbol but 0 -/
theorem trim_snoc_zero (l : List Nat) : trim (l ++ [0]) = trim l := trim_eq fun n => by
  unfold coef
  rw [List.getD_eq_getElem?_getD, List.getD_eq_getElem?_getD]
  by_cases h : n < l.length
  · rw [List.getElem?_append_left h]
  · rw [List.getElem?_append_right (by omega), List.getElem?_eq_none (by omega : l.length ≤ n)]
    by_cases e : n - l.length = 0
    · rw [e]
      rfl
    · rw [List.getElem?_eq_none (by simp; omega)]
theorem trim_snoc_ne {l : List Nat} {a : Nat} (h : a ≠ 0) : trim (l ++ [a]) = l ++ [a] := by
  induction l with
  | nil => exact (trim_cons_nil rfl).trans (if_neg h)
  | cons b r ih =>
    have ne : trim (r ++ [a]) ≠ [] := by
      rw [ih]
      simp
    rw [List.cons_append, trim_cons_ne ne, ih]
/-! sums -/
def addL : List Nat → List Nat → List Nat
  | [], q => q
  | a :: p, [] => a :: p
  | a :: p, b :: q => (a ^^^ b) :: addL p q
theorem coef_addL : ∀ (p q : List Nat) (n : Nat), coef (addL p q) n = coef p n ^^^ coef q n
  | [], q, n => by
    rw [coef_nil, Nat.zero_xor]
    rfl
  | a :: p, [], n => by
    rw [coef_nil, Nat.xor_zero]
    rfl
  | a :: p, b :: q, 0 => rfl
  | a :: p, b :: q, n + 1 => by
    show coef ((a ^^^ b) :: addL p q) (n + 1) = _
    rw [coef_cons_succ, coef_cons_succ, coef_cons_succ, coef_addL p q n]
def padd (p q : List Nat) : List Nat := trim (addL p q)
theorem padd_comm (p q : List Nat) : padd p q = padd q p := trim_eq fun n => by rw [coef_addL, coef_addL, Nat.xor_comm]
theorem padd_self (p : List Nat) : padd p p = [] := by
  have h : trim (addL p p) = trim [] := trim_eq fun n => by rw [coef_addL, Nat.xor_self, coef_nil]
  exact h
/-! values -/
/-- all symbols -/
def Sym (l : List Nat) : Prop := ∀ a ∈ l, a < 128
def pval : List Nat → Nat → Nat
  | [], _ => 0
  | a :: r, x => mul (pval r x) x ^^^ a
theorem pval_lt : ∀ {l : List Nat} {x : Nat}, Sym l → pval l x < 128
  | [], _, _ => by show 0 < 128; decide
  | a :: r, x, h => xor_lt (mul_lt _ _) (h a List.mem_cons_self)
theorem Sym.tail {a : Nat} {r : List Nat} (h : Sym (a :: r)) : Sym r := fun b hb => h b (List.mem_cons_of_mem _ hb)
theorem coef_lt {l : List Nat} (h : Sym l) (n : Nat) : coef l n < 128 := by
  unfold coef
  rw [List.getD_eq_getElem?_getD]
  cases e : l[n]? with
  | none => show 0 < 128; decide
  | some v => exact h v (List.mem_of_getElem? e)
theorem pval_eq : ∀ {l m : List Nat} {x : Nat}, (∀ n, coef l n = coef m n) → pval l x = pval m x
  | [], [], _, _ => rfl
  | [], b :: m, x, h => by
    have hm : pval ([] : List Nat) x = pval m x := pval_eq fun n => by rw [coef_nil, ← coef_cons_succ b m n, ← h (n + 1), coef_nil]
    have hb : b = 0 := by rw [← coef_cons_zero b m, ← h 0, coef_nil]
    show 0 = mul (pval m x) x ^^^ b
    rw [← hm, hb]
    show 0 = mul 0 x ^^^ 0
    rw [mul_zero_left]
    rfl
  | a :: l, [], x, h => by
    have hl : pval l x = pval ([] : List Nat) x := pval_eq fun n => by rw [coef_nil, ← coef_cons_succ a l n, h (n + 1), coef_nil]
    have ha : a = 0 := by rw [← coef_cons_zero a l, h 0, coef_nil]
    show mul (pval l x) x ^^^ a = 0
    rw [hl, ha]
    show mul 0 x ^^^ 0 = 0
    rw [mul_zero_left]
    rfl
  | a :: l, b :: m, x, h => by
    have hl : pval l x = pval m x := pval_eq fun n => by rw [← coef_cons_succ a l n, ← coef_cons_succ b m n, h (n + 1)]
    have hab : a = b := h 0
    show mul (pval l x) x ^^^ a = mul (pval m x) x ^^^ b
    rw [hl, hab]
termination_by l m => l.length + m.length
theorem pval_trim (l : List Nat) (x : Nat) : pval (trim l) x = pval l x := pval_eq fun n => coef_trim l n
theorem pval_addL : ∀ {p q : List Nat} {x : Nat}, Sym p → Sym q → x < 128 → pval (addL p q) x = pval p x ^^^ pval q x
  | [], q, x, _, _, _ => by
    show pval q x = 0 ^^^ pval q x
    rw [Nat.zero_xor]
  | a :: p, [], x, _, _, _ => by
    show pval (a :: p) x = pval (a :: p) x ^^^ 0
    rw [Nat.xor_zero]
  | a :: p, b :: q, x, hp, hq, hx => by
    show mul (pval (addL p q) x) x ^^^ (a ^^^ b) = (mul (pval p x) x ^^^ a) ^^^ (mul (pval q x) x ^^^ b)
    rw [pval_addL hp.tail hq.tail hx, xor_mul hx (pval_lt hp.tail) (pval_lt hq.tail)]
    ac_rfl
theorem pval_padd {p q : List Nat} {x : Nat} (hp : Sym p) (hq : Sym q) (hx : x < 128) : pval (padd p q) x = pval p x ^^^ pval q x := by
  unfold padd
  rw [pval_trim, pval_addL hp hq hx]
/-! products, by the turns of two loops -/
/-- c is added at place n -/
def bump (O : List Nat) (n c : Nat) : List Nat := O.set n (coef O n ^^^ c)
theorem bump_len (O : List Nat) (n c : Nat) : (bump O n c).length = O.length := by unfold bump; rw [List.length_set]
/-- the row i of a product: the symbols from j on -/
def prow (a i : Nat) : Nat → List Nat → List Nat → List Nat
  | _, [], O => O
  | j, b :: q, O => prow a i (j + 1) q (bump O (i + j) (mul a b))
theorem prow_len (a i : Nat) : ∀ (j : Nat) (q O : List Nat), (prow a i j q O).length = O.length
  | _, [], _ => rfl
  | j, b :: q, O => by
    show (prow a i (j + 1) q _).length = _
    rw [prow_len a i (j + 1) q, bump_len]
def pconv (q : List Nat) : Nat → List Nat → List Nat → List Nat
  | _, [], O => O
  | i, a :: p, O => pconv q (i + 1) p (prow a i 0 q O)
theorem pconv_len (q : List Nat) : ∀ (i : Nat) (p O : List Nat), (pconv q i p O).length = O.length
  | _, [], _ => rfl
  | i, a :: p, O => by
    show (pconv q (i + 1) p _).length = _
    rw [pconv_len q (i + 1) p, prow_len]
def ptimes (p q : List Nat) : List Nat := trim (pconv q 0 p (List.replicate (p.length + q.length) 0))
/-- xor over f at j, j + 1, .. -/
def xs (f : Nat → Nat → Nat) : Nat → List Nat → Nat
  | _, [] => 0
  | j, b :: q => f j b ^^^ xs f (j + 1) q
theorem coef_bump {O : List Nat} {n c : Nat} (h : n < O.length) (m : Nat) : coef (bump O n c) m = coef O m ^^^ (if m = n then c else 0) := by
  unfold bump
  by_cases e : m = n
  · subst e
    rw [if_pos rfl]
    show (O.set m _).getD m 0 = _
    rw [List.getD_eq_getElem?_getD, List.getElem?_set_self h]
    rfl
  · rw [if_neg e, Nat.xor_zero]
    show (O.set n _).getD m 0 = O.getD m 0
    rw [List.getD_eq_getElem?_getD, List.getElem?_set_ne (fun z => e z.symm), List.getD_eq_getElem?_getD]
theorem coef_prow (a i m : Nat) : ∀ (j : Nat) (q O : List Nat), i + j + q.length ≤ O.length → coef (prow a i j q O) m = coef O m ^^^ xs (fun j b => if m = i + j then mul a b else 0) j q
  | j, [], O, _ => by
    show coef O m = coef O m ^^^ 0
    rw [Nat.xor_zero]
  | j, b :: q, O, h => by
    have h' : i + j + (q.length + 1) ≤ O.length := h
    show coef (prow a i (j + 1) q (bump O (i + j) (mul a b))) m = coef O m ^^^ ((if m = i + j then mul a b else 0) ^^^ xs _ (j + 1) q)
    rw [coef_prow a i m (j + 1) q _ (by rw [bump_len]; omega), coef_bump (by omega), Nat.xor_assoc]
theorem coef_pconv (q : List Nat) (m : Nat) : ∀ (i : Nat) (p O : List Nat), i + p.length + q.length ≤ O.length → coef (pconv q i p O) m = coef O m ^^^ xs (fun i a => xs (fun j b => if m = i + j then mul a b else 0) 0 q) i p
  | i, [], O, _ => by
    show coef O m = coef O m ^^^ 0
    rw [Nat.xor_zero]
  | i, a :: p, O, h => by
    have h' : i + (p.length + 1) + q.length ≤ O.length := h
    show coef (pconv q (i + 1) p (prow a i 0 q O)) m = coef O m ^^^ (xs _ 0 q ^^^ xs _ (i + 1) p)
    rw [coef_pconv q m (i + 1) p _ (by rw [prow_len]; omega), coef_prow a i m 0 q O (by omega), Nat.xor_assoc]
theorem coef_zeros (k n : Nat) : coef (List.replicate k 0) n = 0 := by
  unfold coef
  rw [List.getD_eq_getElem?_getD, List.getElem?_replicate]
  split <;> rfl
theorem coef_ptimes (p q : List Nat) (m : Nat) : coef (ptimes p q) m = xs (fun i a => xs (fun j b => if m = i + j then mul a b else 0) 0 q) 0 p := by
  unfold ptimes
  rw [coef_trim, coef_pconv q m 0 p _ (by rw [List.length_replicate]; omega), coef_zeros, Nat.zero_xor]
/-! the two sums change their places -/
theorem xs_zero : ∀ (j : Nat) (q : List Nat), xs (fun _ _ => 0) j q = 0
  | _, [] => rfl
  | j, _ :: q => by
    show 0 ^^^ xs _ (j + 1) q = 0
    rw [xs_zero (j + 1) q]
    rfl
theorem xs_xor (f g : Nat → Nat → Nat) : ∀ (j : Nat) (q : List Nat), xs (fun j b => f j b ^^^ g j b) j q = xs f j q ^^^ xs g j q
  | _, [] => by
    show 0 = 0 ^^^ 0
    rw [Nat.xor_zero]
  | j, b :: q => by
    show (f j b ^^^ g j b) ^^^ xs _ (j + 1) q = (f j b ^^^ xs f (j + 1) q) ^^^ (g j b ^^^ xs g (j + 1) q)
    rw [xs_xor f g (j + 1) q]
    ac_rfl
theorem xs_swap (f : Nat → Nat → Nat → Nat → Nat) (q : List Nat) (j0 : Nat) : ∀ (i : Nat) (p : List Nat), xs (fun i a => xs (fun j b => f i a j b) j0 q) i p = xs (fun j b => xs (fun i a => f i a j b) i p) j0 q
  | i, [] => (xs_zero j0 q).symm
  | i, a :: p => by
    show xs (fun j b => f i a j b) j0 q ^^^ xs _ (i + 1) p = xs (fun j b => f i a j b ^^^ xs (fun i a => f i a j b) (i + 1) p) j0 q
    rw [xs_swap f q j0 (i + 1) p, xs_xor (fun j b => f i a j b) (fun j b => xs (fun i a => f i a j b) (i + 1) p) j0 q]
theorem ptimes_comm (p q : List Nat) : ptimes p q = ptimes q p := by
  have h : ∀ m, coef (ptimes p q) m = coef (ptimes q p) m := fun m => by
    rw [coef_ptimes, coef_ptimes, xs_swap (fun i a j b => if m = i + j then mul a b else 0)]
    congr 1
    funext j b
    congr 1
    funext i a
    rw [Nat.add_comm, mul_comm]
  have e := trim_eq h
  unfold ptimes at e ⊢
  rw [trim_trim, trim_trim] at e
  exact e
/-! the value of a product -/
theorem fpow_add (x m : Nat) (hx : x < 128) : ∀ n, fpow x (m + n) = mul (fpow x m) (fpow x n)
  | 0 => (mul_one (fpow_lt x m)).symm
  | n + 1 => by
    show mul (fpow x (m + n)) x = mul (fpow x m) (mul (fpow x n) x)
    rw [fpow_add x m hx n, mul_assoc]
theorem Sym.bump {O : List Nat} {n c : Nat} (h : Sym O) (hc : c < 128) : Sym (bump O n c) := fun v hv => by
  unfold MV.bump at hv
  rcases List.mem_or_eq_of_mem_set hv with hv | hv
  · exact h v hv
  · rw [hv]
    exact xor_lt (coef_lt h n) hc
theorem pval_bump {x : Nat} (hx : x < 128) : ∀ {O : List Nat} {n c : Nat}, Sym O → c < 128 → n < O.length → pval (bump O n c) x = pval O x ^^^ mul c (fpow x n)
  | [], n, c, _, _, h => absurd h (Nat.not_lt_zero n)
  | a :: r, 0, c, _, hc, _ => by
    show mul (pval r x) x ^^^ (a ^^^ c) = (mul (pval r x) x ^^^ a) ^^^ mul c 1
    rw [mul_one hc]
    ac_rfl
  | a :: r, n + 1, c, hO, hc, h => by
    have hr : Sym r := hO.tail
    have e : bump (a :: r) (n + 1) c = a :: bump r n c := by
      unfold bump
      rw [coef_cons_succ]
      rfl
    rw [e]
    show mul (pval (bump r n c) x) x ^^^ a = (mul (pval r x) x ^^^ a) ^^^ mul c (mul (fpow x n) x)
    rw [pval_bump hx hr hc (Nat.lt_of_succ_lt_succ h), xor_mul hx (pval_lt hr) (mul_lt _ _), mul_assoc]
    ac_rfl
theorem Sym.prow (a i : Nat) : ∀ (j : Nat) (q : List Nat) {O : List Nat}, Sym O → Sym (prow a i j q O)
  | _, [], _, h => h
  | j, b :: q, _, h => Sym.prow a i (j + 1) q (h.bump (mul_lt _ _))
theorem Sym.pconv (q : List Nat) : ∀ (i : Nat) (p : List Nat) {O : List Nat}, Sym O → Sym (pconv q i p O)
  | _, [], _, h => h
  | i, a :: p, _, h => Sym.pconv q (i + 1) p (h.prow a i 0 q)
theorem mul4 (a b c d : Nat) : mul (mul a b) (mul c d) = mul (mul a c) (mul b d) := by
  rw [mul_assoc, ← mul_assoc b c d, mul_comm b c, mul_assoc c b d, ← mul_assoc]
/-- x to the j-th times the value of the symbols from there on -/
theorem xs_val {x : Nat} (hx : x < 128) (a i : Nat) (ha : a < 128) : ∀ (j : Nat) (q : List Nat), Sym q → xs (fun j b => mul (mul a b) (fpow x (i + j))) j q = mul (mul a (fpow x i)) (mul (fpow x j) (pval q x))
  | j, [], _ => by
    show 0 = mul _ (mul (fpow x j) 0)
    rw [mul_zero_right, mul_zero_right]
  | j, b :: q, hq => by
    have hv := pval_lt (x := x) hq.tail
    have hb := hq b List.mem_cons_self
    have ih := xs_val hx a i ha (j + 1) q hq.tail
    show mul (mul a b) (fpow x (i + j)) ^^^ xs (fun j b => mul (mul a b) (fpow x (i + j))) (j + 1) q = mul (mul a (fpow x i)) (mul (fpow x j) (mul (pval q x) x ^^^ b))
    rw [ih, fpow_add x i hx j, mul_xor (fpow_lt x j) (mul_lt _ _) hb, mul_xor (mul_lt _ _) (mul_lt _ _) (mul_lt _ _), mul4 a b (fpow x i) (fpow x j), mul_comm b (fpow x j)]
    have e : mul (fpow x (j + 1)) (pval q x) = mul (fpow x j) (mul (pval q x) x) := by
      show mul (mul (fpow x j) x) (pval q x) = _
      rw [mul_assoc, mul_comm x]
    rw [e, Nat.xor_comm]
theorem pval_prow {x a i : Nat} (hx : x < 128) (ha : a < 128) : ∀ (j : Nat) (q : List Nat) {O : List Nat}, Sym O → i + j + q.length ≤ O.length → pval (prow a i j q O) x = pval O x ^^^ xs (fun j b => mul (mul a b) (fpow x (i + j))) j q
  | j, [], O, _, _ => by
    show pval O x = pval O x ^^^ 0
    rw [Nat.xor_zero]
  | j, b :: q, O, hO, h => by
    have h' : i + j + (q.length + 1) ≤ O.length := h
    show pval (prow a i (j + 1) q (bump O (i + j) (mul a b))) x = pval O x ^^^ (mul (mul a b) (fpow x (i + j)) ^^^ xs _ (j + 1) q)
    rw [pval_prow hx ha (j + 1) q (hO.bump (mul_lt _ _)) (by rw [bump_len]; omega), pval_bump hx hO (mul_lt _ _) (by omega), Nat.xor_assoc]
theorem pval_pconv {x : Nat} (hx : x < 128) {q : List Nat} (hq : Sym q) : ∀ (i : Nat) (p : List Nat) {O : List Nat}, Sym p → Sym O → i + p.length + q.length ≤ O.length → pval (pconv q i p O) x = pval O x ^^^ mul (mul (fpow x i) (pval p x)) (pval q x)
  | i, [], O, _, _, _ => by
    show pval O x = pval O x ^^^ mul (mul (fpow x i) 0) (pval q x)
    rw [mul_zero_right, mul_zero_left, Nat.xor_zero]
  | i, a :: p, O, hp, hO, h => by
    have h' : i + (p.length + 1) + q.length ≤ O.length := h
    have ha := hp a List.mem_cons_self
    show pval (pconv q (i + 1) p (prow a i 0 q O)) x = pval O x ^^^ mul (mul (fpow x i) (mul (pval p x) x ^^^ a)) (pval q x)
    rw [pval_pconv hx hq (i + 1) p hp.tail (hO.prow a i 0 q) (by rw [prow_len]; omega), pval_prow hx ha 0 q hO (by omega), xs_val hx a i ha 0 q hq,
      show fpow x 0 = 1 from rfl, one_mul (pval_lt hq), mul_xor (fpow_lt x i) (mul_lt _ _) ha, xor_mul (pval_lt hq) (mul_lt _ _) (mul_lt _ _), mul_comm a (fpow x i)]
    have e : mul (fpow x (i + 1)) (pval p x) = mul (fpow x i) (mul (pval p x) x) := by
      show mul (mul (fpow x i) x) (pval p x) = _
      rw [mul_assoc, mul_comm x]
    rw [e]
    ac_rfl
theorem Sym.zeros (k : Nat) : Sym (List.replicate k 0) := fun a h => by
  rw [(List.mem_replicate.mp h).2]
  decide
theorem pval_zeros (x k : Nat) : pval (List.replicate k 0) x = 0 := by
  have h : pval (List.replicate k 0) x = pval [] x := pval_eq fun n => by rw [coef_zeros, coef_nil]
  exact h
theorem pval_ptimes {p q : List Nat} {x : Nat} (hp : Sym p) (hq : Sym q) (hx : x < 128) : pval (ptimes p q) x = mul (pval p x) (pval q x) := by
  unfold ptimes
  rw [pval_trim, pval_pconv hx hq 0 p hp (Sym.zeros _) (by rw [List.length_replicate]; omega), pval_zeros, Nat.zero_xor, show fpow x 0 = 1 from rfl, one_mul (pval_lt hp)]
theorem Sym.trim {l : List Nat} (h : Sym l) : Sym (MV.trim l) := fun a ha => by
  obtain ⟨n, hn⟩ := List.getElem?_of_mem ha
  have e := coef_trim l n
  unfold coef at e
  rw [List.getD_eq_getElem?_getD, hn] at e
  have : a = coef l n := e
  rw [this]
  exact coef_lt h n
theorem Sym.addL : ∀ {p q : List Nat}, Sym p → Sym q → Sym (MV.addL p q)
  | [], _, _, h => h
  | _ :: _, [], h, _ => h
  | a :: p, b :: q, hp, hq => fun v hv => by
    rcases List.mem_cons.mp hv with rfl | hv
    · exact xor_lt (hp a List.mem_cons_self) (hq b List.mem_cons_self)
    · exact Sym.addL hp.tail hq.tail v hv
theorem Sym.padd {p q : List Nat} (hp : Sym p) (hq : Sym q) : Sym (MV.padd p q) := (hp.addL hq).trim
theorem Sym.ptimes {p q : List Nat} (_ : Sym p) (_ : Sym q) : Sym (MV.ptimes p q) := (Sym.pconv q 0 p (Sym.zeros _)).trim
end MV

set_option Elab.async false
set_option linter.all false
set_option maxRecDepth 100000
set_option maxHeartbeats 4000000
/-! enumerate(v) and zip(v, w) where v, w are lists or tuples, either; over the iterators of any kind of the library. -/
namespace MV
open PySem PySem.Spec PyProof.Rows L2
/-- a list (true), a tuple (false) -/
def SqB (K : PySem.W.Frag) : Bool → Hp → Addr → List V → Prop
  | true, H, a, xs => SqL K H a xs
  | false, H, a, xs => SqT K H a xs
def IterB : Bool → Heap → Addr → Addr → Nat → Prop
  | true, h, it, a, i => h.IsListIter it a i
  | false, h, it, a, i => h.IsTupleIter it a i
def SeqB : Bool → Heap → Addr → Array Value → Prop
  | true, h, a, its => h.IsList a its
  | false, h, a, its => h.IsTuple a its
def itO : Bool → Addr → Obj
  | true, a => { cls := .type "list_iterator", data := .fields #[.ref a, .int 0 0] }
  | false, a => { cls := .type "tuple_iterator", data := .fields #[.ref a, .int 0 0] }
section
variable {prog : Program} {w : World} {K : PySem.W.Frag} {A : Around} {b : Bool} {it a : Addr} {i : Nat} {h h' : Heap}
theorem drawsB (b : Bool) (hh : A.handled = none) (ne : a ≠ it) (its : Array Value) : Draws prog w A it [it, a] its.size (fun i v => its[i]? = some v) (fun i h => IterB b h it a i ∧ SeqB b h a its) := by
  cases b with
  | true => exact Draws.list hh it a ne its
  | false => exact Draws.tuple hh it a ne its
theorem beginsB (b : Bool) (a : Addr) (its : Array Value) : Begins (.ref a) (itO b a) (fun h => SeqB b h a its) := by
  cases b with
  | true => exact begins_list a its
  | false => exact begins_tuple a its
theorem IterB.at (x : IterB b h it a i) (k : ∀ o, h.get? it = some o → h'.get? it = some o) : IterB b h' it a i := by
  cases b with
  | true => exact Heap.IsListIter.at x k
  | false => exact Heap.IsTupleIter.at x k
theorem IterB.obj (x : IterB b h it a i) : ∃ o, h.get? it = some o ∧ ∀ v, o.data ≠ .cell v := by
  cases b with
  | true =>
    obtain ⟨o, e, _, d⟩ := x
    exact ⟨o, e, fun v q => by rw [d] at q; cases q⟩
  | false =>
    obtain ⟨o, e, _, d⟩ := x
    exact ⟨o, e, fun v q => by rw [d] at q; cases q⟩
theorem IterB.lt (x : IterB b h it a i) : it < h.objs.size := by
  obtain ⟨o, e, _⟩ := x.obj
  exact Heap.lt_size e
theorem IterB.zero (e : h.get? it = some (itO b a)) : IterB b h it a 0 := by
  cases b with
  | true => exact ⟨_, e, rfl, rfl⟩
  | false => exact ⟨_, e, rfl, rfl⟩
end
section
variable {X : Cx} {pins : List (Addr × Obj)} {σ : L2.St} {H : Hp} {s : Shared} {b : Bool} {a : Addr} {xs ys : List V}
theorem seqB_of (I : Inv X pins σ H s) (q : SqB X.K b H a xs) : ∃ its : List Value, Vals xs its ∧ SeqB b s.heap a its.toArray := by
  cases b with
  | true =>
    obtain ⟨its, r, p, _⟩ := I.list q
    exact ⟨its, r, p.isList⟩
  | false =>
    obtain ⟨its, r, p, _⟩ := I.tuple q
    exact ⟨its, r, p⟩
theorem SeqB.lt {h : Heap} {its : Array Value} (x : SeqB b h a its) : a < h.objs.size := by
  cases b with
  | true => obtain ⟨o, e, _⟩ := x; exact Heap.lt_size e
  | false => obtain ⟨o, e, _⟩ := x; exact Heap.lt_size e
theorem sqB_inj (I : Inv X pins σ H s) (q : SqB X.K b H a xs) (q' : SqB X.K b H a ys) : xs = ys := by
  cases b with
  | true => exact I.list_inj q q'
  | false => exact I.tuple_inj q q'
end
theorem SqB.same {K : PySem.W.Frag} {b : Bool} {H H' : Hp} {a : Addr} {xs : List V} (e : Same H H') (h : SqB K b H a xs) : SqB K b H' a xs := by
  cases b with
  | true => exact e.seq h
  | false => exact same_tup e h
/-! ### enumerate -/
def IteB (K : PySem.W.Frag) (b : Bool) (a : Addr) : It :=
  ⟨fun i H => ∃ (xs : List V) (x : V), SqB K b H a xs ∧ xs[i]? = some x,
   fun i H v H' => ∃ T x, v = .ref T ∧ H T = none ∧ H' = upd H T (.tup [.int (i : Nat), x]) ∧ ∀ xs, SqB K b H a xs → xs[i]? = some x,
   fun i H => ∃ xs : List V, SqB K b H a xs ∧ xs.length = i⟩
theorem turn_enumB {P : Program} {w : World} {K : PySem.W.Frag} {elts : List Expr} {kk : Nat} {tpos : Pos} (b : Bool) (a e it : Addr) (ne : e ≠ it) (ea : e ≠ a) (ia : a ≠ it) :
    Turn P w K (.Tuple elts kk tpos) (IteB K b a) [e, it] e (fun i h => (∃ old, IsEnum h e it ((i : Nat) : Int) old) ∧ IterB b h it a i) where
  mem := List.mem_cons_self
  obj := fun i h st c hc => by
    obtain ⟨⟨old, he⟩, hi⟩ := st
    rcases List.mem_cons.mp hc with q | q
    · rw [q]
      exact ⟨_, he, fun v z => nomatch z⟩
    · rw [List.mem_singleton.mp q]
      exact hi.obj
  keep := fun i h h' st k => by
    obtain ⟨⟨old, he⟩, hi⟩ := st
    exact ⟨⟨old, k e List.mem_cons_self _ he⟩, hi.at fun o q => k it (List.mem_cons_of_mem _ List.mem_cons_self) o q⟩
  item := by
    intro X hP hw hK hc i pins s σ H E I hf st hg
    subst hP hw hK
    obtain ⟨⟨old, he⟩, hit⟩ := st
    obtain ⟨xs, x, hq, hx⟩ := hg
    obtain ⟨its, rv, p⟩ := seqB_of I hq
    obtain ⟨u, hu, ru⟩ := rv.get hx
    have el : e < s.heap.objs.size := Heap.lt_size he
    have il : it < s.heap.objs.size := hit.lt
    have lt : i < its.toArray.size := by
      have := (List.getElem?_eq_some_iff.mp hu).1
      simpa using this
    have D : Draws X.prog X.w X.A.in1 it [it, a] its.toArray.size (fun i v => its.toArray[i]? = some v) (fun i h => IterB b h it a i ∧ SeqB b h a its.toArray) := drawsB (A := X.A.in1) b (I.ok.hd hc) ia _
    refine wpAny_pyNext_enum_itemD D he ⟨hit, p⟩ lt ne (by simp [ne, ea]) fun y h' tk hy ho hst hT hsz hk => ?_
    have ey : y = u := by
      have z : its.toArray[i]? = some u := by simpa using hu
      exact Option.some.inj (hy.symm.trans z)
    subst ey
    refine ⟨_, rfl, wpAny_letOwnedTupleGo_enum (s := { s with heap := h', toks := tk + 1 }) ho fun h'' he' sb => ?_⟩
    have hT2 : h''.get? s.heap.objs.size = some { cls := .type "tuple", data := .seq #[.int i tk, y] } := (sb.2 _ (Nat.ne_of_gt el)).trans hT
    have new : ObjOk X.prog X.w (upd H s.heap.objs.size (.tup [.int (i : Nat), x])) h'' s.heap.objs.size (.tup [.int (i : Nat), x]) :=
      ⟨by show 2 ≤ sizeLine; decide, [.int i tk, y], .cons ⟨_, rfl⟩ (.cons ru .nil), ⟨_, hT2, rfl, _, rfl⟩⟩
    have I1 : Inv X pins σ (upd H s.heap.objs.size (.tup [.int (i : Nat), x])) { s with heap := h'', toks := tk + 1 } := by
      refine I.turnedNew (ch := [e, it]) (fun c o hb q => ?_) hf (Nat.le_refl _) new
      have c1 : c ≠ e := fun z => hb (by simp [z])
      have c2 : c ≠ it := fun z => hb (by simp [z])
      exact (sb.2 c c1).trans (hk c o c1 c2 q)
    refine ⟨.ref s.heap.objs.size, _, I1, rfl, ⟨_, x, rfl, I.hok.fresh (Nat.le_refl _), rfl, fun zs hz => by rw [sqB_inj I hz hq]; exact hx⟩, ⟨⟨y, ?_⟩, hst.1.at fun o q => (sb.2 it (Ne.symm ne)).trans q⟩, fun c hb => ?_⟩
    · rw [show ((i + 1 : Nat) : Int) = (i : Int) + 1 by omega]
      exact he'
    · have lc : c < s.heap.objs.size := by
        rcases List.mem_cons.mp hb with q | q
        · rw [q]; exact el
        · rw [List.mem_singleton.mp q]; exact il
      rw [upd_ne (Nat.ne_of_lt lc)]
      exact (hf c hb).1
  done := by
    intro X hP hw hK hc i pins s σ H E I hf st hg
    subst hP hw hK
    obtain ⟨⟨old, he⟩, hit⟩ := st
    obtain ⟨xs, hq, hx⟩ := hg
    obtain ⟨its, rv, p⟩ := seqB_of I hq
    obtain ⟨f0, f1, f2, f3, f4, f5⟩ := hf it (List.mem_cons_of_mem _ List.mem_cons_self)
    have sz : its.toArray.size = i := by
      have := rv.length
      simp
      omega
    have D : Draws X.prog X.w X.A.in1 it [it, a] its.toArray.size (fun i v => its.toArray[i]? = some v) (fun i h => IterB b h it a i ∧ SeqB b h a its.toArray) := drawsB (A := X.A.in1) b (I.ok.hd hc) ia _
    exact wpAny_pyNext_enum_endD D he (by rw [sz]; exact ⟨hit, p⟩) fun h' eb => ⟨rfl, I.turned (t' := s.toks) (fun c o hb q => eb c o hb q) f0 f1 f3 f4 f5⟩
  self := fun A i s Q E st h => by
    obtain ⟨⟨_, he⟩, _⟩ := st
    exact wpAny_pyIter_enum he h
theorem walk_enumB {K : PySem.W.Frag} {b : Bool} {a : Addr} {xs : List V} : Walk (IteB K b a) xs.length (fun H => SqB K b H a xs) (YPair (fun i => some (.int (i : Nat))) (fun i => xs[i]?)) where
  goes := fun i H hi g => ⟨xs, xs[i], g, List.getElem?_eq_getElem hi⟩
  stops := fun H g => ⟨xs, g, rfl⟩
  yields := fun i H v H' hi g y => by
    obtain ⟨T, x, e1, e2, e3, f⟩ := y
    exact ⟨T, _, x, e1, e2, e3, rfl, f xs g⟩
set_option maxHeartbeats 4000000 in
theorem meets_enumB {v : Value} {o : Obj} {Hc : Heap → Prop} (B : Begins v o Hc) :
    Meets (Builtin.«enumerate.__new__» ⟨[.type "enumerate", v], []⟩) (fun _ R s => Hc s.heap ∧ R (.ok (.ret (.ref (s.heap.push o).objs.size))) { s with heap := (s.heap.push o).push { cls := .type "enumerate", data := .fields #[.none, .bool false, .ref s.heap.objs.size, rawInt 0, .none, .none] } }) :=
  .of_wp fun prog w A R s h => by
    obtain ⟨hp, g, d, tk, os⟩ := s
    obtain ⟨h1, h⟩ := h
    have hsub := sub_enumerate
    have step : ∀ {A' : Around} {E : Value → Shared → Prop} {Q : Value → Shared → Prop}, Q (.ref hp.objs.size) ⟨hp.push o, g, d, tk, os⟩ → wpAny (model prog w) A' (pyIter v) Q E ⟨hp, g, d, tk, os⟩ := fun q => B.iter prog w _ _ ⟨hp, g, d, tk, os⟩ _ h1 q
    wp_walk using step
    refine wpAny_stack_any fun st => wpAny_pure ?_
    split
    · rename_i c _ _ _ _ _
      cases (c == Value.type "enumerate")
      · wp_walk using step
        exact ⟨_, rfl, h⟩
      · wp_walk using step
        exact ⟨_, rfl, h⟩
    · wp_walk using step
      exact ⟨_, rfl, h⟩
theorem call_enumB {prog : Program} {w : World} {A : Around} {E : Value → Shared → Prop} {s : Shared} {v : Value} {o : Obj} {Hc : Heap → Prop} {Q : Value → Shared → Prop} (B : Begins v o Hc) (h1 : Hc s.heap)
    (h : ∀ h', IsEnum h' (s.heap.objs.size + 1) s.heap.objs.size 0 .none → h'.get? s.heap.objs.size = some o → (∀ b o, s.heap.get? b = some o → h'.get? b = some o) → Q (.ref (s.heap.objs.size + 1)) { s with heap := h' }) : wpAny (model prog w) A (call (.type "enumerate") [v]) Q E s := by
  refine callType_new F.called_enumerate (by decide) (F.typeCall_enumerate_1 _) (F.newCall_enumerate_1 _) (fun obj => F.args_object_init_2 obj _) F.entry_enumerate_new (meets_enumB B) ⟨h1, ?_⟩
  have sz : (s.heap.push o).objs.size = s.heap.objs.size + 1 := Heap.size_push ..
  show _ ∧ _
  rw [sz]
  have he : IsEnum ((s.heap.push o).push { cls := .type "enumerate", data := .fields #[.none, .bool false, .ref s.heap.objs.size, rawInt 0, .none, .none] }) (s.heap.objs.size + 1) s.heap.objs.size 0 .none := by
    have q := Heap.get?_push_size (s.heap.push o) (o := { cls := .type "enumerate", data := .fields #[.none, .bool false, .ref s.heap.objs.size, rawInt 0, .none, .none] }) rfl
    rw [sz] at q
    exact q
  exact ⟨⟨_, he, rfl⟩, h _ he (Heap.get?_push_of_some _ (Heap.get?_push_size _ B.free)) fun b o x => Heap.get?_push_of_some _ (Heap.get?_push_of_some _ x)⟩
/-- the reading: a list or a tuple; then any walk that gives the pairs of place and item while the object stands -/
def iEnumB (K : PySem.W.Frag) (ta : TA) : L2.TI := fun σ H R => ta σ H fun vs H1 => ∃ a b xs, vs = [.ref a] ∧ SqB K b H1 a xs ∧ R (IteB K b a) H1
theorem pi_enumB {X : Cx} {e : Expr} {ta : TA} {p pos tpos : Pos} {elts : List Expr} {kk : Nat} (hg : Gl X "enumerate") (hm : X.mg "enumerate" = none) (ha : PA X [e] ta) (hs : starEach [e] X.env = [(false, eval e X.env)] := by rfl) :
    PI X (.Tuple elts kk tpos) (.Call (.Name "enumerate" p) [e] [] pos) (iEnumB X.K ta) := by
  refine ⟨fun pins s σ H R I h => ?_⟩
  refine Call_ (ld_blt I hg hm boot_enumerate (PyProof.Rows.callWith_type1 (thn (ha.run pos pins s σ H _ I h) fun us s1 ⟨vs, H1, I1, r1, a, b, xs, ev, hq, q⟩ => ?_) hs rfl))
  subst ev
  cases r1 with
  | cons r rr =>
    cases rr
    cases r
    obtain ⟨its, rv, p1⟩ := seqB_of I1 hq
    have la := p1.lt
    refine call_enumB (beginsB b a its.toArray) p1 fun h' he hi hk => wpAny_pyIter_enum he ?_
    have I2 : Inv X pins σ H1 { s1 with heap := h' } := I1.kept (t' := s1.toks) hk
    refine ⟨s1.heap.objs.size + 1, [s1.heap.objs.size + 1, s1.heap.objs.size], _, _, H1, rfl, I2, turn_enumB b a (s1.heap.objs.size + 1) s1.heap.objs.size (Nat.succ_ne_self _) (Nat.ne_of_gt (Nat.lt_succ_of_lt la)) (Nat.ne_of_lt la), ⟨⟨.none, he⟩, .zero hi⟩, fun c hc => ?_, q⟩
    have ge : s1.heap.objs.size ≤ c := by
      rcases List.mem_cons.mp hc with z | z
      · rw [z]; exact Nat.le_succ _
      · rw [List.mem_singleton.mp z]; exact Nat.le_refl _
    exact I1.fpOk ge (I1.hok.fresh ge)
/-! ### zip -/
def ItzB (K : PySem.W.Frag) (b c : Bool) (x y : Addr) : It :=
  ⟨fun i H => ∃ (xs ys : List V) (u v : V), SqB K b H x xs ∧ SqB K c H y ys ∧ xs[i]? = some u ∧ ys[i]? = some v,
   fun i H r H' => ∃ T u v, r = .ref T ∧ H T = none ∧ H' = upd H T (.tup [u, v]) ∧ (∀ xs, SqB K b H x xs → xs[i]? = some u) ∧ ∀ ys, SqB K c H y ys → ys[i]? = some v,
   fun i H => ∃ xs ys : List V, SqB K b H x xs ∧ SqB K c H y ys ∧ min xs.length ys.length = i⟩
theorem turn_zipB {P : Program} {w : World} {K : PySem.W.Frag} {elts : List Expr} {kk : Nat} {tpos : Pos} (b c : Bool) {x y z TI TO i1 i2 : Addr} (S : ZipSep2 z TI TO i1 i2 [i1, x] [i2, y]) (n1 : x ≠ i1) (n2 : y ≠ i2) :
    Turn P w K (.Tuple elts kk tpos) (ItzB K b c x y) [z, TI, TO, i1, i2] z (fun i h => IsZip h z TI TO .none ∧ IsTupOf2 h TI (.ref i1) (.ref i2) ∧ (∃ u v, IsTupOf2 h TO u v) ∧ IterB b h i1 x i ∧ IterB c h i2 y i) where
  mem := List.mem_cons_self
  obj := fun i h st k hk => by
    obtain ⟨hz, hTI, ⟨u, v, hTO⟩, h1, h2⟩ := st
    have e' : k = z ∨ k = TI ∨ k = TO ∨ k = i1 ∨ k = i2 := by simpa using hk
    rcases e' with q | q | q | q | q <;> rw [q]
    · exact ⟨_, hz, fun v z => nomatch z⟩
    · exact ⟨_, hTI, fun v z => nomatch z⟩
    · exact ⟨_, hTO, fun v z => nomatch z⟩
    · exact h1.obj
    · exact h2.obj
  keep := fun i h h' st k => by
    obtain ⟨hz, hTI, ⟨u, v, hTO⟩, h1, h2⟩ := st
    exact ⟨k z (by simp) _ hz, k TI (by simp) _ hTI, ⟨u, v, k TO (by simp) _ hTO⟩, h1.at fun o q => k i1 (by simp) o q, h2.at fun o q => k i2 (by simp) o q⟩
  item := by
    intro X hP hw hK hc i pins s σ H E I hf st hg
    subst hP hw hK
    obtain ⟨hz, hTI, ⟨u0, v0, hTO⟩, h1, h2⟩ := st
    obtain ⟨xs, ys, u, v, q1, q2, hu, hv⟩ := hg
    obtain ⟨its, rv, p1⟩ := seqB_of I q1
    obtain ⟨its2, rv2, p2⟩ := seqB_of I q2
    obtain ⟨u', eu, ru⟩ := rv.get hu
    obtain ⟨v', ev, rw2⟩ := rv2.get hv
    have zl : z < s.heap.objs.size := Heap.lt_size hz
    have lt1 : i < its.toArray.size := by simpa using (List.getElem?_eq_some_iff.mp eu).1
    have lt2 : i < its2.toArray.size := by simpa using (List.getElem?_eq_some_iff.mp ev).1
    have D1 : Draws X.prog X.w X.A.in1 i1 [i1, x] its.toArray.size (fun i v => its.toArray[i]? = some v) (fun i h => IterB b h i1 x i ∧ SeqB b h x its.toArray) := drawsB (A := X.A.in1) b (I.ok.hd hc) n1 _
    have D2 : Draws X.prog X.w X.A.in1 i2 [i2, y] its2.toArray.size (fun i v => its2.toArray[i]? = some v) (fun i h => IterB c h i2 y i ∧ SeqB c h y its2.toArray) := drawsB (A := X.A.in1) c (I.ok.hd hc) n2 _
    refine wpAny_pyNext_zipD2_item S D1 D2 hz hTI hTO ⟨h1, p1⟩ ⟨h2, p2⟩ lt1 lt2 fun x1 x2 h' tk e1 e2 z' TO' s1' s2' hT hsz hk => ?_
    have f1 : x1 = u' := Option.some.inj (e1.symm.trans (by simpa using eu))
    have f2 : x2 = v' := Option.some.inj (e2.symm.trans (by simpa using ev))
    subst f1 f2
    refine ⟨_, rfl, wpAny_letOwnedTupleGo_zip (s := { s with heap := h', toks := tk }) z' fun h'' z'' sb => ?_⟩
    have hT2 : h''.get? s.heap.objs.size = some { cls := .type "tuple", data := .seq #[x1, x2] } := (sb.2 _ (Nat.ne_of_gt zl)).trans hT
    have new : ObjOk X.prog X.w (upd H s.heap.objs.size (.tup [u, v])) h'' s.heap.objs.size (.tup [u, v]) := ⟨by show 2 ≤ sizeLine; decide, [x1, x2], .cons ru (.cons rw2 .nil), ⟨_, hT2, rfl, _, rfl⟩⟩
    have I1 : Inv X pins σ (upd H s.heap.objs.size (.tup [u, v])) { s with heap := h'', toks := tk } := by
      refine I.turnedNew (ch := [z, TI, TO, i1, i2]) (fun k o hb q => ?_) hf (Nat.le_refl _) new
      have k1 : k ≠ z := fun e => hb (by simp [e])
      have k2 : k ≠ TO := fun e => hb (by simp [e])
      have k3 : k ≠ i1 := fun e => hb (by simp [e])
      have k4 : k ≠ i2 := fun e => hb (by simp [e])
      exact (sb.2 k k1).trans (hk k o k1 k2 k3 k4 q)
    refine ⟨.ref s.heap.objs.size, _, I1, rfl, ⟨_, u, v, rfl, I.hok.fresh (Nat.le_refl _), rfl, fun l hl => by rw [sqB_inj I hl q1]; exact hu, fun l hl => by rw [sqB_inj I hl q2]; exact hv⟩, ⟨z'', ?_, ⟨x1, x2, ?_⟩, ?_, ?_⟩, fun k hk' => ?_⟩
    · exact (sb.2 _ S.TIz).trans (hk _ _ S.TIz S.TITO S.TIi1 S.TIi2 hTI)
    · exact (sb.2 _ S.TOz).trans TO'
    · exact s1'.1.at fun o q => (sb.2 _ (Ne.symm S.zi1)).trans q
    · exact s2'.1.at fun o q => (sb.2 _ (Ne.symm S.zi2)).trans q
    · have lk : k < s.heap.objs.size := by
        have e' : k = z ∨ k = TI ∨ k = TO ∨ k = i1 ∨ k = i2 := by simpa using hk'
        rcases e' with q | q | q | q | q <;> rw [q]
        · exact zl
        · exact Heap.lt_size hTI
        · exact Heap.lt_size hTO
        · exact h1.lt
        · exact h2.lt
      rw [upd_ne (Nat.ne_of_lt lk)]
      exact (hf k hk').1
  done := by
    intro X hP hw hK hc i pins s σ H E I hf st hg
    subst hP hw hK
    obtain ⟨hz, hTI, ⟨u0, v0, hTO⟩, h1, h2⟩ := st
    obtain ⟨xs, ys, q1, q2, hend⟩ := hg
    obtain ⟨its, rv, p1⟩ := seqB_of I q1
    obtain ⟨its2, rv2, p2⟩ := seqB_of I q2
    have l1 := rv.length
    have l2 := rv2.length
    have D1 : Draws X.prog X.w X.A.in1 i1 [i1, x] its.toArray.size (fun i v => its.toArray[i]? = some v) (fun i h => IterB b h i1 x i ∧ SeqB b h x its.toArray) := drawsB (A := X.A.in1) b (I.ok.hd hc) n1 _
    have D2 : Draws X.prog X.w X.A.in1 i2 [i2, y] its2.toArray.size (fun i v => its2.toArray[i]? = some v) (fun i h => IterB c h i2 y i ∧ SeqB c h y its2.toArray) := drawsB (A := X.A.in1) c (I.ok.hd hc) n2 _
    have sz1 : its.toArray.size = xs.length := by simp; omega
    have sz2 : its2.toArray.size = ys.length := by simp; omega
    refine wpAny_pyNext_zipD2_end S D1 D2 hz hTI hTO ⟨h1, p1⟩ ⟨h2, p2⟩ (by omega) (by omega) (by omega) fun h' tk hk => ⟨rfl, I.turnedL (t' := tk) (ch := [z, TI, TO, i1, i2]) (fun k o hb q => ?_) hf⟩
    exact hk k o (fun e => hb (by simp [e])) (fun e => hb (by simp [e])) (fun e => hb (by simp [e])) (fun e => hb (by simp [e])) q
  self := fun A i s Q E st h => wpAny_pyIter_zip st.1 h
theorem walk_zipB {K : PySem.W.Frag} {b c : Bool} {x y : Addr} {xs ys : List V} : Walk (ItzB K b c x y) (min xs.length ys.length) (fun H => SqB K b H x xs ∧ SqB K c H y ys) (YPair (fun i => xs[i]?) (fun i => ys[i]?)) where
  goes := fun i H hi g => ⟨xs, ys, xs[i]'(by omega), ys[i]'(by omega), g.1, g.2, List.getElem?_eq_getElem _, List.getElem?_eq_getElem _⟩
  stops := fun H g => ⟨xs, ys, g.1, g.2, rfl⟩
  yields := fun i H v H' hi g r => by
    obtain ⟨T, u, v, e1, e2, e3, f1, f2⟩ := r
    exact ⟨T, u, v, e1, e2, e3, f1 xs g.1, f2 ys g.2⟩
def iZipB (K : PySem.W.Frag) (ta : TA) : L2.TI := fun σ H R => ta σ H fun vs H1 => ∃ x y b c xs ys, vs = [.ref x, .ref y] ∧ SqB K b H1 x xs ∧ SqB K c H1 y ys ∧ R (ItzB K b c x y) H1
theorem pi_zipB {X : Cx} {e e2 : Expr} {ta : TA} {p pos tpos : Pos} {elts : List Expr} {kk : Nat} (hg : Gl X "zip") (hm : X.mg "zip" = none) (ha : PA X [e, e2] ta)
    (hs : starEach [e, e2] X.env = (false, eval e X.env) :: starEach [e2] X.env := by rfl) (hpl : (backTo pos (starEach [e2] X.env)).any (·.1) = false := by rfl) :
    PI X (.Tuple elts kk tpos) (.Call (.Name "zip" p) [e, e2] [] pos) (iZipB X.K ta) := by
  refine ⟨fun pins s σ H R I h => ?_⟩
  refine Call_ (ld_blt I hg hm PyProof.Rows.boot_zip (PyProof.Rows.callWith_type1 (thn (ha.run pos pins s σ H _ I h) fun us s1 ⟨vs, H1, I1, r1, x, y, b, c, xs, ys, ev, q1, q2, q⟩ => ?_) hs hpl))
  subst ev
  cases r1 with
  | cons r rr =>
    cases rr with
    | cons r' rr =>
      cases rr
      cases r
      cases r'
      obtain ⟨its, rv, p1⟩ := seqB_of I1 q1
      obtain ⟨its2, rv2, p2⟩ := seqB_of I1 q2
      have lx := p1.lt
      have ly := p2.lt
      refine zip_begins2 (beginsB b x its.toArray) (beginsB c y its2.toArray) p1 p2 fun h' hz hTI hTO g1 g2 hsz hk => wpAny_pyIter_zip hz ?_
      have I2 : Inv X pins σ H1 { s1 with heap := h' } := I1.kept (t' := s1.toks) hk
      have S := zip_sep2 (N := s1.heap.objs.size) (fp1 := [x]) (fp2 := [y]) (fun k hk => by rw [List.mem_singleton.mp hk]; exact lx) (fun k hk => by rw [List.mem_singleton.mp hk]; exact ly)
      refine ⟨s1.heap.objs.size + 4, [s1.heap.objs.size + 4, s1.heap.objs.size + 2, s1.heap.objs.size + 3, s1.heap.objs.size, s1.heap.objs.size + 1], _, _, H1, rfl, I2, turn_zipB b c S (Nat.ne_of_lt lx) (Nat.ne_of_lt (Nat.lt_succ_of_lt ly)), ⟨hz, hTI, ⟨_, _, hTO⟩, .zero g1, .zero g2⟩, fun k hk' => ?_, q⟩
      have ge : s1.heap.objs.size ≤ k := by
        have e' : k = s1.heap.objs.size + 4 ∨ k = s1.heap.objs.size + 2 ∨ k = s1.heap.objs.size + 3 ∨ k = s1.heap.objs.size ∨ k = s1.heap.objs.size + 1 := by simpa using hk'
        rcases e' with z | z | z | z | z <;> rw [z]
        · exact Nat.le_add_right _ _
        · exact Nat.le_add_right _ _
        · exact Nat.le_add_right _ _
        · exact Nat.le_refl _
        · exact Nat.le_add_right _ _
      exact I1.fpOk ge (I1.hok.fresh ge)
end MV

set_option Elab.async false
set_option linter.all false
set_option maxRecDepth 100000
set_option maxHeartbeats 4000000
/-! Slices, len, list(), tuple(), reversed of what is a list or a tuple, either. -/
namespace MV
open PySem PySem.Spec PyProof.Rows L2
theorem SqB.or {K : PySem.W.Frag} {b : Bool} {H : Hp} {a : Addr} {xs : List V} (h : SqB K b H a xs) : SqL K H a xs ∨ SqT K H a xs := by
  cases b with
  | true => exact .inl h
  | false => exact .inr h
def rSlB (K : PySem.W.Frag) : V → Option Int → Option Int → Hp → VK → Prop := fun x lo hi H Q => ∃ b a xs, x = .ref a ∧ SqB K b H a xs ∧ ∀ p H', Same H H' → SqB K b H' p (cutV xs lo hi) → Q (.ref p) H'
theorem cut_whole {xs : List V} {lo hi : Option Int} (h : HT.sIx xs.length 0 lo = 0 ∧ HT.sIx xs.length xs.length hi = xs.length) : cutV xs lo hi = xs := by
  unfold cutV
  rw [h.1, h.2, List.drop_zero, Nat.sub_zero, List.take_length]
theorem sl_any {X : Cx} : SlR X (rSlB X.K) := by
  intro pins s σ H x v vl vu lo hi sl Q I rx hs pl pu ⟨b, a, xs, hx, h, q⟩
  cases b with
  | true => exact sl_list pins s σ H x v vl vu lo hi sl Q I rx hs pl pu ⟨a, xs, hx, h, fun p np => q p _ (same_new np _) (.of upd_same)⟩
  | false =>
    refine sl_tupA pins s σ H x v vl vu lo hi sl Q I rx hs pl pu ⟨a, xs, hx, h, ?_⟩
    first
      | exact ⟨fun w => q a H (Same.refl H) (by rw [cut_whole w]; exact h), fun _ p np => q p _ (same_new np _) (.of upd_same)⟩
      | exact fun p np => q p _ (same_new np _) (.of upd_same)
theorem cut_to {xs : List V} {n : Nat} (h : n ≤ xs.length) : cutV xs none (some (n : Int)) = xs.take n := by
  unfold cutV
  rw [HT.sIx_none, HT.sIx_nat, List.drop_zero, Nat.sub_zero, Nat.min_eq_left h]
theorem cut_from {xs : List V} {n : Nat} : cutV xs (some (n : Int)) none = xs.drop n := by
  unfold cutV
  rw [HT.sIx_none, HT.sIx_nat]
  by_cases h : n ≤ xs.length
  · rw [Nat.min_eq_left h, List.take_of_length_le (by rw [List.length_drop]; omega)]
  · rw [Nat.min_eq_right (by omega), List.drop_eq_nil_of_le (Nat.le_refl _), List.drop_eq_nil_of_le (by omega)]
    simp
section
variable {X : Cx}
theorem call_lenB : CallR X (.builtin "len") (fun xs H Q => ∃ b p ys, xs = [.ref p] ∧ SqB X.K b H p ys ∧ Q (.int (ys.length : Nat)) H) := call_imp call_len_seq fun xs H Q ⟨b, p, ys, hx, h, q⟩ => ⟨p, ys, hx, h.or, q⟩
theorem call_listB : CallR X (.type "list") (fun xs H Q => ∃ b p ys, xs = [.ref p] ∧ SqB X.K b H p ys ∧ ∀ l, H l = none → Q (.ref l) (upd H l (.lst ys))) := call_imp call_list_of fun xs H Q ⟨b, p, ys, hx, h, q⟩ => ⟨p, ys, hx, h.or, q⟩
theorem call_tupleB : CallR X (.type "tuple") (fun xs H Q => ∃ b p ys, xs = [.ref p] ∧ SqB X.K b H p ys ∧ ∀ r H', Same H H' → SqT X.K H' r ys → Q (.ref r) H') := call_imp call_tuple_of fun xs H Q ⟨b, p, ys, hx, h, q⟩ => ⟨p, ys, hx, by
  cases b with
  | true => exact .inl ⟨h, fun l nl => q l _ (same_new nl _) (.of upd_same)⟩
  | false => exact .inr ⟨h, q p H (Same.refl H) h⟩⟩
end
end MV

set_option Elab.async false
set_option linter.all false
set_option maxRecDepth 100000
set_option maxHeartbeats 4000000
/-! isinstance of an error of the program that an except suite holds. -/
namespace MV
open PySem PySem.Spec PyProof.Rows L2
/-- what an error class says, so that isinstance asks its objects rightly -/
structure ErrC (K : PySem.W.Frag) (C : Addr) : Prop where
  cl : (PySem.W.clsIn K C).isSome = true
  gt : PySem.W.findIn K (.ref C) "__getattribute__" = some (some (.builtin "BaseException.__getattribute__"))
  ga : PySem.W.findIn K (.ref C) "__getattr__" = some none
  sb : PySem.W.subIn K (.ref C) (.type "BaseException") = some true
  cc : PySem.W.findIn K (.ref C) "__class__" = some (some (.builtin "object.__class__"))
  sp : PySem.W.specialIn K (.builtin "object.__class__") "__get__" = some (some (.builtin "getset_descriptor.__get__"))
  tk : PySem.W.takesIn K (.builtin "object.__class__") = some true
  mo : PySem.W.mroIn K C (.type "object") = some true
def rIsH (K : PySem.W.Frag) (C a : Addr) (cls : Value) (d : Option Addr) : List V → Hp → VK → Prop := fun xs H Q => cls = .ref C ∧ ∃ (D dd : Addr) (fs : List (Str × V)) (b : Bool), xs = [.ref a, .ref D] ∧ d = some dd ∧ H dd = some (.xd fs) ∧ PySem.W.kitOne K (.ref C) (.ref D) = some b ∧ Q (.bl b) H
theorem call_isH {X : Cx} {a C : Addr} {oe : Obj} {cls : Value} {d : Option Addr} {pn : List (Addr × Obj)} (E : ErrC X.K C) (hz : Zc cls d oe) (hf : ∃ vs, oe.data = .fields vs) : CallR (X.suite a ((a, oe) :: pn)) (.builtin "isinstance") (rIsH X.K C a cls d) := by
  intro pins s σ H xs us Q I r h
  obtain ⟨ec, D, dd, fs, b, ex, ed, hd, ek, q⟩ := h
  subst ex ec ed
  cases r with
  | cons r1 rr =>
    cases rr with
    | cons r2 rr =>
      cases rr
      cases r1
      cases r2
      obtain ⟨here, _⟩ := I.pin (a, oe) (List.mem_append_left _ List.mem_cons_self)
      obtain ⟨vs, hv⟩ := hf
      obtain ⟨mA, hns, _⟩ := I.hok dd _ hd
      obtain ⟨od, ho, _⟩ := lookIn_ns hns
      have J : PySem.W.InstAt s.heap a oe C (some od) := ⟨here, hz.1, by unfold PySem.W.notCls; rw [hv] <;> rfl, by rw [hz.2]; exact ho⟩
      exact PySem.W.kia_one (PySem.W.kitx_exc E.cl E.gt E.ga E.sb E.cc E.sp E.tk E.mo) I.kIn J ek (fun z => nomatch z) fun tk => ⟨.bl b, H, I.kept (t' := tk) fun _ _ z => z, rfl, q⟩
end MV

set_option Elab.async false
set_option linter.all false
set_option maxRecDepth 100000
set_option maxHeartbeats 4000000
/-! The own errors whose field is word. -/
namespace PySem
namespace Mve
open PySem.W PySem.Calls PyProof.Rows PySem.HandSPX
/-! the text of __init__ with the field word -/
def iA_word (p1 p2 : Pos) : Arguments := { posonlyargs := [], args := [{ arg := "self", annotation := none, pos := p1 }, { arg := "word", annotation := none, pos := p2 }], vararg := none, kwonlyargs := [], kw_defaults := [], kwarg := none, defaults := [] }
def iB_word (q1 q2 q3 q4 : Pos) : List Stmt := [.Assign [.Attribute (.Name "self" q1) "word" q2] (.Name "word" q3) q4]
def iS_word : Scope := { kind := .function, names := [(PySem.Str.ofString "self", .local), (PySem.Str.ofString "word", .local)], isGenerator := false, isCoroutine := false, more := [] }

section
variable {prog : Program} {w : World} {A : Around} {R : Result → Shared → Prop} {s : Shared} {K : Frag} {mg : Str → Option Value} {C D fI : Addr} {x qual : Str}
theorem init_word (T : ETxt x qual "word" iB_word iA_word iS_word K mg C D fI) {x0 t0 : Addr} {v : Value} (X : K.In s.heap) (hlim : s.heap.NoLimit) (hx : s.heap.get? x0 = some (excO C t0)) (hnx : K.lookup x0 = none) (hroom : A.depth < recursionLimit)
    (hq : ∀ h' tk dx, Left "word" s.heap h' x0 C dx t0 v → R (.ok (.ret .none)) { s with heap := h', toks := tk }) : codeAny (model prog w) A (.call (.ref fI) ⟨[.ref x0, v], []⟩) R s := by
  obtain ⟨oc, od, doc, pm, an, cdv, ct, osl, p1, p2, q1, q2, q3, q4, ho, hcd⟩ := T.fn
  obtain ⟨nm, q, N, bs, sn, sub, ab, col, dd, k0, k1, k2, k3, k5, hC⟩ := T.cls
  have hcl : clsIn K C = some { name := nm, bases := bs, mro := .ref C :: .ref D :: ESX.exTail, ns := N, qualname := q, hasDict := true, slotNames := sn, subclasses := sub, abstract := ab, collection := col, hasDel := false } := by
    unfold clsIn
    rw [hC] <;> rfl
  refine Att.call_fn (binds := [("self", .ref x0), ("word", v)]) X hlim ho hcd hroom (BindsTo.of_eq (by first | rfl | with_unfolding_all rfl)) (by first | rfl | decide | with_unfolding_all rfl) (fun s₁ IC => ?_) rfl rfl rfl
  obtain ⟨h₁, tk₁, rfl⟩ := IC.toInCall.same
  have kp : ∀ b o, s.heap.get? b = some o → h₁.get? b = some o := IC.toInCall.keep
  have hn := IC.toInCall.ns
  have X₁ : K.In h₁ := X.keeps kp
  have hx₁ := kp _ _ hx
  show wpAny _ _ (execs _ _) _ _ _
  refine wpAny_execs_cons (plainObj_wpAny_Assign_Attribute ?_)
  refine ld_loc (v := v) hn (by first | rfl | with_unfolding_all rfl | kernel_rfl) (ld_loc (v := .ref x0) hn (by first | rfl | with_unfolding_all rfl | kernel_rfl) ?_)
  refine set_plain X₁ (ox := excO C t0) (od := none) ⟨hx₁, rfl, rfl, trivial⟩ T.sa ?_
  refine store_first X₁ hx₁ hcl rfl rfl T.noN (fun h₃ tk₃ dx k₃ dn dne hx₃ hn₃ => ?_)
  show wpAny _ _ (execs _ _) _ _ _
  have lt : s.heap.objs.size < h₁.objs.size := hn.lt
  exact wpAny_execs_nil (hq h₃ tk₃ dx ⟨fun b o hb e => k₃ b o hb (kp b o e), hx₃, Nat.le_of_lt (Nat.lt_of_lt_of_le lt dn), dne, hn₃⟩)
theorem made_word : L2.Makes x qual "word" iB_word iA_word iS_word := by
  intro prog w A R s K mg C D fI T v X hlim hroom hq
  obtain ⟨nm, q, N, bs, sn, sub, ab, col, dd, k0, k1, k2, k3, k5, hC⟩ := T.cls
  obtain ⟨hp, g, dr, tk, os⟩ := s
  have kp : ∀ b o, hp.get? b = some o → ((hp.push (kdv_tup [v])).push (excO C hp.objs.size)).get? b = some o := fun b o e => Heap.get?_push_of_some _ (Heap.get?_push_of_some _ e)
  have here : ((hp.push (kdv_tup [v])).push (excO C hp.objs.size)).get? (hp.objs.size + 1) = some (excO C hp.objs.size) := by heap_get
  have hnx : K.lookup (hp.objs.size + 1) = none := by
    cases e : K.lookup (hp.objs.size + 1) with
    | none => rfl
    | some o => exact absurd (Nat.lt_of_succ_lt (Heap.lt_size (X _ _ e))) (Nat.lt_irrefl _)
  refine call_own F.excBase_Exception (fun X => tail1_has X) (X _ _ hC) (looks_findIn X T.iC) (fun self => bind_fn X self T.tC) (one_fits v) ?_
  refine init_word (s := ⟨(hp.push (kdv_tup [v])).push (excO C hp.objs.size), g, dr, tk, os⟩) T (X.keeps kp) (hlim.keeps kp) here hnx hroom fun h' tk' dx ⟨k', hx, dn, dne, hns⟩ => ?_
  have old : ∀ b o, hp.get? b = some o → h'.get? b = some o := fun b o e => k' b o (Nat.ne_of_lt (Nat.lt_succ_of_lt (Heap.lt_size e))) (kp b o e)
  have big : hp.objs.size + 1 + 1 ≤ dx := by
    first | (simpa only [Heap.size_push] using dn) | exact dn | (have q := dn; rw [Heap.size_push, Heap.size_push] at q; exact q)
  exact ⟨rfl, hq h' tk' (hp.objs.size + 1) dx ⟨old, Nat.le_succ _, ⟨_, _, hx, rfl, rfl, rfl, rfl, rfl⟩, (by show hp.objs.size ≤ dx; omega), dne, hns⟩⟩
end
end Mve
end PySem
namespace MV
open PySem PySem.Spec PyProof.Rows L2
/-- the errors of the program, with their field word -/
abbrev EWd (x qual : Str) (K : PySem.W.Frag) (mg : Str → Option Value) (C D fI : Addr) : Prop := PySem.Mve.ETxt x qual "word" PySem.Mve.iB_word PySem.Mve.iA_word PySem.Mve.iS_word K mg C D fI
end MV

set_option Elab.async false
set_option linter.all false
set_option maxRecDepth 100000
set_option maxHeartbeats 4000000
/-! The same errors where defs are called within an except suite (their context is None). -/
namespace L2
open PySem PySem.Spec PyProof.Rows
section
variable {X : Cx} {C D fI : Addr} {x qual fld : Str} {iB : Pos → Pos → Pos → Pos → List Stmt} {iA : Pos → Pos → Arguments} {iS : Scope}
theorem pmk_errN {a : Expr} {ta : TA} {p pos : Pos} {k : Nat} (mk : Makes x qual fld iB iA iS) (T : PySem.Mve.ETxt x qual fld iB iA iS X.K X.mg C D fI) (hr : Room k X.A) (ha : PA X [a] ta) (hg : Gl X x := by rfl) (hdb : (x == ("__debug__" : Str)) = false := by decide)
    (he : starEach (a :: []) X.env = (false, eval a X.env) :: starEach [] X.env := by rfl) (hpl : (backTo pos (starEach [] X.env)).any (·.1) = false := by rfl) : L2N.PMk X (.Call (.Name x p) [a] [] pos) (tMkE C fld ta) := by
  intro pins s σ H Q I h
  refine wpAny_Call_Name_kw (ld_glob I hg T.gC ?_ hdb)
  refine PySem.W.callWith_K (h₀ := X.base) I.ok.mod.kin T.kC ?_ he hpl
  refine thn (ha.run pos pins s σ H _ I h) fun us s1 ⟨vs, H1, I1, r1, v, ev, q1⟩ => ⟨I1.kIn, ?_⟩
  subst ev
  cases r1 with
  | cons rv rn =>
    rename_i v' us'
    cases rn
    have lim := I1.nolimit
    obtain ⟨hp, g, dr, tk, os⟩ := s1
    have deep : X.A.depth + 1 < recursionLimit := by have := hr.dp; omega
    refine wpAny_call (mk T I1.kIn lim deep fun h' tk' e d M => ?_)
    show L2N.MkP X pins σ Q (.ref e) ⟨h', g, dr, tk', os⟩
    obtain ⟨oe, fv, hoe, hc, hd, hdat, h1, h2⟩ := M.obj
    obtain ⟨G', g1, g2⟩ := restrict h' fun b => decide (b ≠ e)
    have away : ∀ b, b ≠ e → G'.get? b = h'.get? b := fun b hb => g1 b (decide_eq_true hb)
    have gone : G'.get? e = none := g2 e (by simp)
    have old : ∀ b o, hp.get? b = some o → G'.get? b = some o := fun b o q => by
      rw [away b (Nat.ne_of_lt (Nat.lt_of_lt_of_le (Heap.lt_size q) M.new))]
      exact M.keep b o q
    have fresh : H1 d = none := I1.hok.fresh M.big
    have ob : ObjOk X.prog X.w (upd H1 d (.xd [(fld, v)])) G' d (.xd [(fld, v)]) := ⟨_, M.ns.at (fun o q => (away d M.ne).trans q), fun f => relO_one rv f⟩
    have J : Inv X pins σ (upd H1 d (.xd [(fld, v)])) ⟨G', g, dr, tk', os⟩ := I1.laid (t' := tk') old M.big ob
    refine ⟨e, oe, fv, ⟨G', g, dr, tk', os⟩, _, .ref C, some d, rfl, J, fun b o q => ?_, gone, hoe, ⟨hc, hd, fun ws ew => by
      rw [hdat] at ew
      cases ew
      exact h2⟩, hdat, h1, ?_, rfl, I1.bare, raises_own T.exC T.tyC, q1 d fresh⟩
    · by_cases hb : b = e
      · have q' : G'.get? b = some o := q
        rw [hb, gone] at q'
        cases q'
      · exact (away b hb).symm.trans q
    · rw [upd_ne (Ne.symm M.ne)]
      exact I1.hok.fresh M.new
theorem ps_raiseEN {a : Expr} {ta : TA} {W : WX} {p pos pos2 : Pos} {k : Nat} (mk : Makes x qual fld iB iA iS) (T : PySem.Mve.ETxt x qual fld iB iA iS X.K X.mg C D fI) (hc : X.calm = true) (hr : Room k X.A) (tk : L2N.Takes X W) (ha : PA X [a] ta) (hg : Gl X x := by rfl) (hdb : (x == ("__debug__" : Str)) = false := by decide)
    (he : starEach (a :: []) X.env = (false, eval a X.env) :: starEach [] X.env := by rfl) (hpl : (backTo pos (starEach [] X.env)).any (·.1) = false := by rfl) :
    PS X (.Raise (some (.Call (.Name x p) [a] [] pos)) none pos2) (tRaiseE C fld W ta) := L2N.ps_raise hc tk (pmk_errN mk T hr ha hg hdb he hpl)
theorem passN {X : Cx} : Passes (L2N.CX X.prog X.w) X E0 := fun _ _ _ _ _ _ _ h => by
  obtain ⟨_, _, _, _, _, _, _, _, _, _, _, _, z⟩ := h
  exact z.elim
theorem takes0N {X : Cx} : L2N.Takes X (fun _ _ _ _ => False) := fun _ _ x => by
  obtain ⟨_, _, _, _, _, _, _, _, _, _, _, _, _, _, _, _, z⟩ := x
  exact z.elim
end
section
variable {P : Program} {w : World} {K : PySem.W.Frag} {mg : Str → Option Value} {base : Heap}
theorem Fun.okN {x qual : Str} {st : Stmt} {f : Addr} {fd : FuncData} {N ps : List Str} {k : Nat} {sp : Sp} (F : Fun K x qual st f fd) (S : FnScope N ps (defScope st)) (len : ∀ vs H Q E, sp vs H Q E → vs.length = ps.length)
    (hbody : ∀ (cdv : Value) (A : Around) (outer : List Env) (s : Shared) (H : Hp) (vs : List V) (Q : VK) (E : XK), Room k (A.deeper (envOfC qual (defScope st) s.heap.objs.size f cdv)) → sp vs H Q E →
      ∃ t, PSs (cxOf (L2N.CX P w) P w K mg base N qual (defScope st) f cdv A outer s H E) (defBody st) t ∧ t { nx := fun _ H' => Q .non H', rt := Q } (start N vs) H) : FnOk P w K mg base (L2N.CX P w) (k + 1) f fd ps sp := by
  obtain ⟨_, _, _, _, _, _, _, _, _, rfl, lk, hcd⟩ := F.ex
  exact fn_of lk hcd S len fun A outer s H vs Q E hr hsp => hbody _ A outer s H vs Q E hr hsp
/-- a def called in a suite -/
theorem Fun.okH {x qual : Str} {st : Stmt} {f : Addr} {fd : FuncData} {N ps : List Str} {k : Nat} {sp : Sp} (F : Fun K x qual st f fd) (S : FnScope N ps (defScope st)) (len : ∀ vs H Q E, sp vs H Q E → vs.length = ps.length)
    (hbody : ∀ (cdv : Value) (A : Around) (outer : List Env) (s : Shared) (H : Hp) (vs : List V) (Q : VK) (E : XK) (p : Addr × Obj), L2H.HotC (L2H.cxH CX0 P w K mg base N qual (defScope st) f cdv A outer s H E p).nox → L2H.RoomH k (A.deeper (envOfC qual (defScope st) s.heap.objs.size f cdv)) → sp vs H Q E →
      ∃ t, PSs (L2H.cxH CX0 P w K mg base N qual (defScope st) f cdv A outer s H E p).nox (defBody st) t ∧ t { nx := fun _ H' => Q .non H', rt := Q } (start N vs) H) : L2H.FnH P w K mg base CX0 (k + 1) f fd ps sp := by
  obtain ⟨_, _, _, _, _, _, _, _, _, rfl, lk, hcd⟩ := F.ex
  refine L2H.fn_ofH lk hcd S len fun A outer s H vs Q E p hot hr hsp => ?_
  obtain ⟨t, h, q⟩ := hbody _ A outer s H vs Q E p ⟨p, hot, List.mem_cons_self⟩ hr hsp
  exact ⟨t, h.nox, q⟩
end
end L2
namespace MV
open PySem PySem.Spec PyProof.Rows L2
structure CalledH (P : Program) (w : World) (K : PySem.W.Frag) (mg : Str → Option Value) (base : Heap) (x : Str) (k : Nat) (ps : List Str) (sp : Sp) : Prop where
  ex : ∃ (f : Addr) (fd : FuncData), L2H.FnH P w K mg base CX0 k f fd ps sp ∧ mg x = some (.ref f) ∧ PySem.W.keepIn K (.ref f) = true ∧ Binds K fd ps []
theorem calledH {P : Program} {w : World} {K : PySem.W.Frag} {mg : Str → Option Value} {base : Heap} {x qual : Str} {st : Stmt} {f : Addr} {fd : FuncData} {k : Nat} {ps : List Str} {sp : Sp} (F : Fun K x qual st f fd) (m : mg x = some (.ref f)) (b : Binds K fd ps []) (h : L2H.FnH P w K mg base CX0 k f fd ps sp) :
    CalledH P w K mg base x k ps sp := ⟨f, fd, h, m, F.kp, b⟩
theorem pe_ownH {X : Cx} {k : Nat} {ps : List Str} {sp : Sp} {x : Str} {p pos : Pos} {e : Expr} {es : List Expr} {t : TA} (C : CalledH X.prog X.w X.K X.mg X.base x k ps sp) (hr : L2H.RoomH k X.A) (hc : L2H.HotC X) (hg : Gl X x)
    (ha : PA X (e :: es) t) (hdb : (x == ("__debug__" : Str)) = false := by decide) (he : starEach (e :: es) X.env = (false, eval e X.env) :: starEach es X.env := by rfl) (hpl : (backTo pos (starEach es X.env)).any (·.1) = false := by rfl) :
    PE X (.Call (.Name x p) (e :: es) [] pos) (tCallS sp (fun _ => E0) t) := by
  obtain ⟨f, fd, F, m, kp, b⟩ := C.ex
  exact L2H.pe_callH F hr hc hg m kp b (fun _ _ _ _ _ _ _ h => h.elim) ha hdb he hpl
theorem fnH_no {P : Program} {w : World} {K : PySem.W.Frag} {mg : Str → Option Value} {base : Heap} {f : Addr} {fd : FuncData} {ps : List Str} : L2H.FnH P w K mg base CX0 0 f fd ps (fun _ _ _ _ => False) :=
  ⟨fun vs H Q E h => h.elim, fun A outer s H args us vs Q E p _ _ _ _ _ _ h => h.elim⟩
/-- two equal ints -/
def spSame : Sp := fun vs H Q _ => ∃ i : Int, vs = [.int i, .int i] ∧ ∀ H', Same H H' → Q (.bl true) H'
theorem hot_suite {X : Cx} {a : Addr} {oe : Obj} {cls : Value} {d : Option Addr} {pn : List (Addr × Obj)} (hz : L2N.Zn cls d oe) (hf : ∃ vs, oe.data = .fields vs) : L2H.HotC (X.suite a ((a, oe) :: pn)) := by
  obtain ⟨vs, hd⟩ := hf
  exact ⟨(a, oe), ⟨rfl, vs, hd, hz.2.2 vs hd⟩, List.mem_cons_self⟩
end MV

set_option Elab.async false
set_option linter.all false
set_option maxRecDepth 100000
set_option maxHeartbeats 4000000
/-! The own errors whose field is name. -/
namespace PySem
namespace Mve
open PySem.W PySem.Calls PyProof.Rows PySem.HandSPX
/-! the text of __init__ with the field name -/
def iA_name (p1 p2 : Pos) : Arguments := { posonlyargs := [], args := [{ arg := "self", annotation := none, pos := p1 }, { arg := "name", annotation := none, pos := p2 }], vararg := none, kwonlyargs := [], kw_defaults := [], kwarg := none, defaults := [] }
def iB_name (q1 q2 q3 q4 : Pos) : List Stmt := [.Assign [.Attribute (.Name "self" q1) "name" q2] (.Name "name" q3) q4]
def iS_name : Scope := { kind := .function, names := [(PySem.Str.ofString "self", .local), (PySem.Str.ofString "name", .local)], isGenerator := false, isCoroutine := false, more := [] }

section
variable {prog : Program} {w : World} {A : Around} {R : Result → Shared → Prop} {s : Shared} {K : Frag} {mg : Str → Option Value} {C D fI : Addr} {x qual : Str}
theorem init_name (T : ETxt x qual "name" iB_name iA_name iS_name K mg C D fI) {x0 t0 : Addr} {v : Value} (X : K.In s.heap) (hlim : s.heap.NoLimit) (hx : s.heap.get? x0 = some (excO C t0)) (hnx : K.lookup x0 = none) (hroom : A.depth < recursionLimit)
    (hq : ∀ h' tk dx, Left "name" s.heap h' x0 C dx t0 v → R (.ok (.ret .none)) { s with heap := h', toks := tk }) : codeAny (model prog w) A (.call (.ref fI) ⟨[.ref x0, v], []⟩) R s := by
  obtain ⟨oc, od, doc, pm, an, cdv, ct, osl, p1, p2, q1, q2, q3, q4, ho, hcd⟩ := T.fn
  obtain ⟨nm, q, N, bs, sn, sub, ab, col, dd, k0, k1, k2, k3, k5, hC⟩ := T.cls
  have hcl : clsIn K C = some { name := nm, bases := bs, mro := .ref C :: .ref D :: ESX.exTail, ns := N, qualname := q, hasDict := true, slotNames := sn, subclasses := sub, abstract := ab, collection := col, hasDel := false } := by
    unfold clsIn
    rw [hC] <;> rfl
  refine Att.call_fn (binds := [("self", .ref x0), ("name", v)]) X hlim ho hcd hroom (BindsTo.of_eq (by first | rfl | with_unfolding_all rfl)) (by first | rfl | decide | with_unfolding_all rfl) (fun s₁ IC => ?_) rfl rfl rfl
  obtain ⟨h₁, tk₁, rfl⟩ := IC.toInCall.same
  have kp : ∀ b o, s.heap.get? b = some o → h₁.get? b = some o := IC.toInCall.keep
  have hn := IC.toInCall.ns
  have X₁ : K.In h₁ := X.keeps kp
  have hx₁ := kp _ _ hx
  show wpAny _ _ (execs _ _) _ _ _
  refine wpAny_execs_cons (plainObj_wpAny_Assign_Attribute ?_)
  refine ld_loc (v := v) hn (by first | rfl | with_unfolding_all rfl | kernel_rfl) (ld_loc (v := .ref x0) hn (by first | rfl | with_unfolding_all rfl | kernel_rfl) ?_)
  refine set_plain X₁ (ox := excO C t0) (od := none) ⟨hx₁, rfl, rfl, trivial⟩ T.sa ?_
  refine store_first X₁ hx₁ hcl rfl rfl T.noN (fun h₃ tk₃ dx k₃ dn dne hx₃ hn₃ => ?_)
  show wpAny _ _ (execs _ _) _ _ _
  have lt : s.heap.objs.size < h₁.objs.size := hn.lt
  exact wpAny_execs_nil (hq h₃ tk₃ dx ⟨fun b o hb e => k₃ b o hb (kp b o e), hx₃, Nat.le_of_lt (Nat.lt_of_lt_of_le lt dn), dne, hn₃⟩)
theorem made_name : L2.Makes x qual "name" iB_name iA_name iS_name := by
  intro prog w A R s K mg C D fI T v X hlim hroom hq
  obtain ⟨nm, q, N, bs, sn, sub, ab, col, dd, k0, k1, k2, k3, k5, hC⟩ := T.cls
  obtain ⟨hp, g, dr, tk, os⟩ := s
  have kp : ∀ b o, hp.get? b = some o → ((hp.push (kdv_tup [v])).push (excO C hp.objs.size)).get? b = some o := fun b o e => Heap.get?_push_of_some _ (Heap.get?_push_of_some _ e)
  have here : ((hp.push (kdv_tup [v])).push (excO C hp.objs.size)).get? (hp.objs.size + 1) = some (excO C hp.objs.size) := by heap_get
  have hnx : K.lookup (hp.objs.size + 1) = none := by
    cases e : K.lookup (hp.objs.size + 1) with
    | none => rfl
    | some o => exact absurd (Nat.lt_of_succ_lt (Heap.lt_size (X _ _ e))) (Nat.lt_irrefl _)
  refine call_own F.excBase_Exception (fun X => tail1_has X) (X _ _ hC) (looks_findIn X T.iC) (fun self => bind_fn X self T.tC) (one_fits v) ?_
  refine init_name (s := ⟨(hp.push (kdv_tup [v])).push (excO C hp.objs.size), g, dr, tk, os⟩) T (X.keeps kp) (hlim.keeps kp) here hnx hroom fun h' tk' dx ⟨k', hx, dn, dne, hns⟩ => ?_
  have old : ∀ b o, hp.get? b = some o → h'.get? b = some o := fun b o e => k' b o (Nat.ne_of_lt (Nat.lt_succ_of_lt (Heap.lt_size e))) (kp b o e)
  have big : hp.objs.size + 1 + 1 ≤ dx := by
    first | (simpa only [Heap.size_push] using dn) | exact dn | (have q := dn; rw [Heap.size_push, Heap.size_push] at q; exact q)
  exact ⟨rfl, hq h' tk' (hp.objs.size + 1) dx ⟨old, Nat.le_succ _, ⟨_, _, hx, rfl, rfl, rfl, rfl, rfl⟩, (by show hp.objs.size ≤ dx; omega), dne, hns⟩⟩
end
end Mve
end PySem
namespace MV
open PySem PySem.Spec PyProof.Rows L2
/-- the errors of the program, with their field name -/
abbrev ENm (x qual : Str) (K : PySem.W.Frag) (mg : Str → Option Value) (C D fI : Addr) : Prop := PySem.Mve.ETxt x qual "name" PySem.Mve.iB_name PySem.Mve.iA_name PySem.Mve.iS_name K mg C D fI
end MV

set_option Elab.async false
set_option linter.all false
set_option maxRecDepth 100000
set_option maxHeartbeats 4000000
/-! Errors of the program held as values: made, asked by isinstance, their field read. -/
namespace MV
open PySem PySem.Spec PyProof.Rows L2
/-- an error of the class at C with its dict at d, not raised yet, at a -/
def ExD (C d a : Addr) : HO := .ext fun h => ∃ (oe : Obj) (vs : Array Value), h.get? a = some oe ∧ Zc (.ref C) (some d) oe ∧ oe.data = .fields vs
theorem exD_ok {P : Program} {w : World} {H : Hp} {h : Heap} {C d a : Addr} {oe : Obj} {vs : Array Value} (e : h.get? a = some oe) (z : Zc (.ref C) (some d) oe) (hd : oe.data = .fields vs) : ObjOk P w H h a (ExD C d a) :=
  ⟨⟨oe, vs, e, z, hd⟩, ⟨oe, e⟩, fun _ _ ⟨o, v, q, r⟩ k => ⟨o, v, k o q, r⟩⟩
def tMkV (C : Addr) (fld : Str) (ta : TA) : TE := fun σ H Q => ta σ H fun vs H1 => ∃ v, vs = [v] ∧ ∀ a d, H1 a = none → H1 d = none → a ≠ d → Q (.ref a) (upd (upd H1 d (.xd [(fld, v)])) a (ExD C d a))
/-- what an error class says, so that the field of its objects is read rightly -/
structure FldC (K : PySem.W.Frag) (C : Addr) (fld : Str) : Prop where
  ga : PySem.W.findIn K (.ref C) "__getattribute__" = some (some (.builtin "BaseException.__getattribute__"))
  gg : PySem.W.findIn K (.ref C) "__getattr__" = some none
  ex : PySem.W.subIn K (.ref C) (.type "BaseException") = some true
  hd : PySem.W.hasDictIn K C = true
  no : PySem.W.findIn K (.ref C) fld = some none
theorem FldC.of {x qual fld : Str} {iB : Pos → Pos → Pos → Pos → List Stmt} {iA : Pos → Pos → Arguments} {iS : Scope} {K : PySem.W.Frag} {mg : Str → Option Value} {C D fI : Addr} (T : PySem.Mve.ETxt x qual fld iB iA iS K mg C D fI) : FldC K C fld := ⟨T.ga, T.gg, T.exC, T.hdC, T.noN⟩
def tFldA (K : PySem.W.Frag) (fld : Str) (te : TE) : TE := fun σ H Q => te σ H fun x H1 => ∃ (a C d : Addr) (v : V), x = .ref a ∧ FldC K C fld ∧ H1 a = some (ExD C d a) ∧ H1 d = some (.xd [(fld, v)]) ∧ Q v H1
section
variable {X : Cx} {C D fI : Addr} {x qual fld : Str} {iB : Pos → Pos → Pos → Pos → List Stmt} {iA : Pos → Pos → Arguments} {iS : Scope}
theorem pe_mkV {a : Expr} {ta : TA} {p pos : Pos} {k : Nat} (mk : Makes x qual fld iB iA iS) (T : PySem.Mve.ETxt x qual fld iB iA iS X.K X.mg C D fI) (hr : Room k X.A) (ha : PA X [a] ta) (hg : Gl X x := by rfl) (hdb : (x == ("__debug__" : Str)) = false := by decide)
    (he : starEach (a :: []) X.env = (false, eval a X.env) :: starEach [] X.env := by rfl) (hpl : (backTo pos (starEach [] X.env)).any (·.1) = false := by rfl) : PE X (.Call (.Name x p) [a] [] pos) (tMkV C fld ta) := by
  refine ⟨fun pins s σ H Q I h => ?_⟩
  refine wpAny_Call_Name_kw (ld_glob I hg T.gC ?_ hdb)
  refine PySem.W.callWith_K (h₀ := X.base) I.ok.mod.kin T.kC ?_ he hpl
  refine thn (ha.run pos pins s σ H _ I h) fun us s1 ⟨vs, H1, I1, r1, v, ev, q1⟩ => ⟨I1.kIn, ?_⟩
  subst ev
  cases r1 with
  | cons rv rn =>
    rename_i v' us'
    cases rn
    have lim := I1.nolimit
    obtain ⟨hp, g, dr, tk, os⟩ := s1
    have deep : X.A.depth + 1 < recursionLimit := by have := hr.dp; omega
    refine wpAny_call (mk T I1.kIn lim deep fun h' tk' e d M => ?_)
    obtain ⟨oe, fv, hoe, hc, hd, hdat, h1, h2⟩ := M.obj
    obtain ⟨G', g1, g2⟩ := restrict h' fun b => decide (b ≠ e)
    have away : ∀ b, b ≠ e → G'.get? b = h'.get? b := fun b hb => g1 b (decide_eq_true hb)
    have gone : G'.get? e = none := g2 e (by simp)
    have old : ∀ b o, hp.get? b = some o → G'.get? b = some o := fun b o q => by
      rw [away b (Nat.ne_of_lt (Nat.lt_of_lt_of_le (Heap.lt_size q) M.new))]
      exact M.keep b o q
    have fresh : H1 d = none := I1.hok.fresh M.big
    have freshE : H1 e = none := I1.hok.fresh M.new
    have ob : ObjOk X.prog X.w (upd H1 d (.xd [(fld, v)])) G' d (.xd [(fld, v)]) := ⟨_, M.ns.at (fun o q => (away d M.ne).trans q), fun f => relO_one rv f⟩
    have J : Inv X pins σ (upd H1 d (.xd [(fld, v)])) ⟨G', g, dr, tk', os⟩ := I1.laid (t' := tk') old M.big ob
    have fe : upd H1 d (.xd [(fld, v)]) e = none := by
      rw [upd_ne (Ne.symm M.ne)]
      exact freshE
    have J2 : Inv X pins σ (upd (upd H1 d (.xd [(fld, v)])) e (ExD C d e)) ⟨h', g, dr, tk', os⟩ := J.laidN (h' := h') (t' := tk') (fun b u q => by
      by_cases hb : b = e
      · have q' : G'.get? b = some u := q
        rw [hb, gone] at q'
        cases q'
      · exact (away b hb).symm.trans q) gone fe (exD_ok hoe ⟨hc, hd⟩ hdat)
    exact ⟨.ref e, _, J2, rfl, q1 e d freshE fresh (Ne.symm M.ne)⟩
theorem pe_fldA {e : Expr} {te : TE} {pos : Pos} (he : PE X e te)
    (hb : attributeBase e fld X.env (eval e X.env) = eval e X.env := by rfl) : PE X (.Attribute e fld pos) (tFldA X.K fld te) := by
  refine ⟨fun pins s σ H Q I h => ?_⟩
  refine attr_of hb (thn (he.run pins s σ H _ I h) fun u s1 ⟨y, H1, I1, rx, a, C, dd, v, ey, T, ha, ea, q⟩ => ?_)
  subst ey
  obtain rfl : u = Value.ref a := rx
  obtain ⟨⟨oe, vs, ho', hz, hd⟩, _, _⟩ := I1.hok a _ ha
  have hx : ObjOk X.prog X.w H1 s1.heap dd (.xd [(fld, v)]) := I1.hok dd _ ea
  obtain ⟨mA, hns, hr⟩ := hx
  obtain ⟨od, ho, hl⟩ := lookIn_ns hns
  have l : List.lookup fld [(fld, v)] = some v := by simp [List.lookup]
  obtain ⟨u, hu, ru⟩ := RelO.some_of (v := v) (o := mA fld) (by rw [← l]; exact hr fld)
  have J : PySem.W.InstAt s1.heap a oe C (some od) := ⟨ho', hz.1, by unfold PySem.W.notCls; rw [hd] <;> rfl, by rw [hz.2]; exact ho⟩
  refine HandSPX.exc_get I1.kIn J T.ga T.gg T.ex ?_ (handed_of ru) ⟨v, H1, I1.tok _, ru, q⟩
  exact PySem.W.findObj_own T.hd T.no rfl (by rw [hl, hu])
end
/-- isinstance(x, c), x an error held as a value -/
def rIsV (K : PySem.W.Frag) : List V → Hp → VK → Prop := fun xs H Q => ∃ (a C d : Addr) (fs : List (Str × V)) (c : V) (u : Value) (b : Bool), xs = [.ref a, c] ∧ ClsV c u ∧ ErrC K C ∧ H a = some (ExD C d a) ∧ H d = some (.xd fs) ∧ PySem.W.kitOne K (.ref C) u = some b ∧ Q (.bl b) H
theorem call_isV {X : Cx} : CallR X (.builtin "isinstance") (rIsV X.K) := by
  intro pins s σ H xs us Q I r h
  obtain ⟨a, C, d, fs, c, u, b, rfl, k, E, ha, hd, ek, q⟩ := h
  obtain ⟨u1, u2, rfl, r1, r2⟩ := vals2 r
  have e2 := k.eq r2
  subst e2
  obtain rfl : u1 = Value.ref a := r1
  obtain ⟨⟨oe, vs, ho', hz, hv⟩, _, _⟩ := I.hok a _ ha
  obtain ⟨mA, hns, _⟩ := I.hok d _ hd
  obtain ⟨od, ho, _⟩ := lookIn_ns hns
  have J : PySem.W.InstAt s.heap a oe C (some od) := ⟨ho', hz.1, by unfold PySem.W.notCls; rw [hv] <;> rfl, by rw [hz.2]; exact ho⟩
  exact PySem.W.kia_one (PySem.W.kitx_exc E.cl E.gt E.ga E.sb E.cc E.sp E.tk E.mo) I.kIn J ek (fun z => nomatch z) fun tk => ⟨.bl b, H, I.kept (t' := tk) fun _ _ z => z, rfl, q⟩
end MV

set_option Elab.async false
set_option linter.all false
set_option maxRecDepth 100000
set_option maxHeartbeats 4000000
/-! try with several clauses that name what they hold; each error of the body is held by one of them. -/
namespace MV
open PySem PySem.Spec PyProof.Rows L2
def dropE (D : Ends) (i : Nat) : Ends := { nx := fun τ G => D.nx (τ.set i none) G, rt := D.rt, bk := fun τ G => D.bk (τ.set i none) G, ct := fun τ G => D.ct (τ.set i none) G }
abbrev Clause := Value × (Addr → Value → Option Addr → TS)
def wSome (K : PySem.W.Frag) (D : Ends) (i : Nat) : List Clause → WX
  | [] => fun _ _ _ _ => False
  | q :: r => fun cls d τ G => ∃ b, PySem.W.exmOne K cls q.1 = some b ∧ (b = true → ∀ a, G a = none → q.2 a cls d (dropE D i) (τ.set i (some (.ref a))) G) ∧ (b = false → wSome K D i r cls d τ G)
inductive Cls8 (X : Cx) (n : Str) : List ExceptHandler → List Clause → Prop
  | nil : Cls8 X n [] []
  | cons {x : Str} {c : Value} {t : Addr → Value → Option Addr → TS} {b : Stmt} {bs : List Stmt} {p q : Pos} {r : List ExceptHandler} {l : List Clause} (hx : Names X x c)
      (hb : ∀ (a : Addr) (oe : Obj) (cls : Value) (d : Option Addr) (pn : List (Addr × Obj)), L2N.Zn cls d oe → (∃ vs, oe.data = .fields vs) → PSs (X.suite a ((a, oe) :: pn)) (b :: bs) (t a cls d)) (rest : Cls8 X n r l) :
      Cls8 X n (.ExceptHandler (some (.Name x p)) (some n) (b :: bs) q :: r) ((c, t) :: l)
section
variable {X : Cx} {n : Str} {i : Nat} {pins : List (Addr × Obj)} {σ : L2.St} {H : Hp} {D : Ends} {a : Addr} {B U : Heap} {cls : Value} {d : Option Addr} {s : Shared}
/-- a held error, shown to one clause after the other -/
theorem chain (ok : X.Ok) (nd : X.N.Nodup) (ni : X.N[i]? = some n) (loc : X.env.kindOf n = some .local) (na : H a = none)
    (mk : ∀ g, HandSPX.FlyingZ B (X.env :: X.outer) a (L2N.Zn cls d) g → U.UpToSlots g → Inv X pins σ H { s with heap := g })
    (off : ∀ g, HandSPX.FlyingZ B (X.env :: X.outer) a (L2N.Zn cls d) g → a ≠ X.env.locals ∧ a ∉ X.fs) :
    ∀ {hds : List ExceptHandler} {l : List Clause}, Cls8 X n hds l → ∀ g, HandSPX.FlyingZ B (X.env :: X.outer) a (L2N.Zn cls d) g → U.UpToSlots g → wSome X.K D i l cls d σ H →
      wpAny (model X.prog X.w) X.A (handleBy (.ref a) X.env hds) (SP X pins D) X.xe { s with heap := g } := by
  intro hds l c8
  induction c8 with
  | nil => exact fun g _ _ w => False.elim w
  | @cons x c t b bs p q r l hx hb rest ih =>
    intro g fly u w
    obtain ⟨v, ev, yes, nope⟩ := w
    have I := mk g fly u
    obtain ⟨oe, vs, here, hz, hd⟩ := fly.there
    have S := I.suite here hd na (off g fly).1 (off g fly).2
    have ty : PySem.W.Looks (model X.prog X.w) g (typeOf (.ref a)) cls := fun A1 Q1 E1 s1 kp q1 => wpAny_typeOf_ref (kp _ _ here) (by rw [hz.1] <;> exact q1)
    have lk := PySem.W.exm_one (M := model X.prog X.w) I.kIn ty ev
    have ask : ∀ {Q1 E1 : Value → Shared → Prop}, Q1 c { s with heap := g } → wpAny (model X.prog X.w) (X.A.mark (some (.ref a))) (eval (.Name x p) X.env) Q1 E1 { s with heap := g } := fun {Q1 E1} q1 => by
      rcases hx with ⟨y1, y2, y3⟩
      rcases y3 with y3 | ⟨y3, y4, y5⟩
      · exact ld_glob (X := X.suite a ((a, oe) :: (X.pn ++ pins))) S y1 y3 q1 y2
      · exact ld_blt (X := X.suite a ((a, oe) :: (X.pn ++ pins))) S y1 y3 y4 q1 y5 y2
    refine wpAny_handleBy_cons (codeAny_handlers_test (ask (lk.here ?_))) (fun z => nomatch z)
    cases v with
    | false => exact ih g fly u (nope rfl)
    | true =>
      refine codeAny_handlers_suite_as (HandSPX.lands_againZ fly fun g2 fly2 u2 => ?_)
      have I2 := mk g2 fly2 (u.trans u2)
      obtain ⟨oe2, vs2, here2, hz2, hd2⟩ := fly2.there
      have S2 := I2.suite here2 hd2 na (off g2 fly2).1 (off g2 fly2).2
      refine store_ok (X := X.suite a ((a, oe2) :: (X.pn ++ pins))) (v := .ref a) S2 nd ni (.inl loc) rfl (fun s5 S5 => ?_) (.inr loc)
      refine wpAny_mono ((hb a oe2 cls d (X.pn ++ pins) hz2 ⟨_, hd2⟩).run [] s5 _ H _ S5 (yes rfl a na)) (fun f s6 out => ?_) (fun _ _ z => False.elim z)
      have bye : ∀ {τ : L2.St} {G : Hp} {Q1 : Shared → Prop}, Inv (X.suite a ((a, oe2) :: (X.pn ++ pins))) [] τ G s6 → (∀ s7, Inv X pins (τ.set i none) G s7 → Q1 s7) →
          wpAny (model X.prog X.w) X.A (do bindName X.env n .none; unbindBehindTheSuite X.env n q) (fun _ s7 => Q1 s7) X.xe s6 := fun S6 k => gone_ok (S6.unsuite ok) nd ni loc k
      cases f with
      | ret v1 =>
        obtain ⟨z, τ, G, S6, rz, q6⟩ := out
        exact bye S6 fun s7 J7 => ⟨_, _, _, J7, rz, q6⟩
      | next =>
        obtain ⟨τ, G, S6, q6⟩ := out
        exact bye S6 fun s7 J7 => ⟨_, _, J7, q6⟩
      | brk =>
        obtain ⟨τ, G, S6, q6⟩ := out
        exact bye S6 fun s7 J7 => ⟨_, _, J7, q6⟩
      | cont =>
        obtain ⟨τ, G, S6, q6⟩ := out
        exact bye S6 fun s7 J7 => ⟨_, _, J7, q6⟩
end
section
variable {X : Cx} {n : Str} {i : Nat} {body : List Stmt} {h0 : ExceptHandler} {hds : List ExceptHandler} {l : List Clause} {pos : Pos} {tb : WX → TS}
theorem ps_tryN (st : X.stack = X.env :: X.outer) (fr : X.env.frame = some X.env.locals) (nd : X.N.Nodup) (ni : X.N[i]? = some n) (loc : X.env.kindOf n = some .local)
    (bd : ∀ (W : WX) (pn : List (Addr × Obj)) (xe : Value → Shared → Prop), L2N.Takes (X.tr pn xe) W → PassesOwn (model X.prog X.w) X.A X.env xe → PSs (X.tr pn xe) body (tb W))
    (c8 : Cls8 X n (h0 :: hds) l) : PS X (.Try body (h0 :: hds) [] [] pos) (fun D τ G => tb (wSome X.K D i l) D τ G) := by
  refine ⟨fun pins s τ G D I h => ?_⟩
  have ok := I.ok
  have frs' : X.A.frames = some (X.env :: X.outer) := by rw [← st]; exact ok.frames
  let held : Value → Shared → Prop := fun e s1 => wpAny (model X.prog X.w) X.A (noteFrame e X.env) (fun _ s2 => wpAny (model X.prog X.w) X.A (setFlight e none) (fun _ s3 => wpAny (model X.prog X.w) X.A (handleBy e X.env (h0 :: hds)) (SP X pins D) X.xe s3) X.xe s2) X.xe s1
  have take : L2N.Takes (X.tr (X.pn ++ pins) held) (wSome X.K D i l) := by
    rintro u s1 ⟨a, B, sI, pns, σ1, H1, cls, d, rfl, J1, nb, up, sky, na, os, ag, w⟩
    have J := J1.ofTry ok
    have sky1 : Sky B (X.env :: X.outer) a (L2N.Zn cls d) X.env.locals s1.heap := by rw [← st]; exact sky
    show wpAny (model X.prog X.w) X.A (noteFrame (.ref a) X.env) _ _ _
    refine L2N.Sky.land L2N.Zn.steady frs' fr sky1 fun g fly u1 => ?_
    have off : ∀ g, HandSPX.FlyingZ B (X.env :: X.outer) a (L2N.Zn cls d) g → a ≠ X.env.locals ∧ a ∉ X.fs := fun g fly => by
      obtain ⟨oe, vs, here, hz, hd⟩ := fly.there
      have nf : a ∉ L2.frs (X.env :: X.outer) := fun hm => by
        obtain ⟨_, o1, e1, no⟩ := fly.2.2.1.mem hm
        rw [here] at e1
        cases e1
        exact no _ hd
      refine ⟨fun z => nf (List.mem_filterMap.mpr ⟨X.env, List.mem_cons_self, by rw [fr, z]⟩), fun hm => ?_⟩
      obtain ⟨e, me, q⟩ := List.mem_filterMap.mp hm
      exact nf (List.mem_filterMap.mpr ⟨e, List.mem_cons_of_mem _ me, q⟩)
    exact chain (U := g) ok nd ni loc na (fun g2 fly2 u2 => J.landed nb fly2.1 ((up.trans u1).trans u2) os ag) off c8 g fly (Heap.UpToSlots.refl _) w
  refine wpAny_Try_except (wpAny_mono ((bd (wSome X.K D i l) (X.pn ++ pins) held take PassesOwn.looking).run [] s τ G D (I.toTry _) h) (fun f s1 out => ?_) (fun e s1 he => he))
  cases f with
  | ret u =>
    obtain ⟨v, τ1, G1, J1, r, q⟩ := out
    exact ⟨v, τ1, G1, J1.ofTry ok, r, q⟩
  | next =>
    obtain ⟨τ1, G1, J1, q⟩ := out
    exact wpAny_execs_nil ⟨τ1, G1, J1.ofTry ok, q⟩
  | brk =>
    obtain ⟨τ1, G1, J1, q⟩ := out
    exact ⟨τ1, G1, J1.ofTry ok, q⟩
  | cont =>
    obtain ⟨τ1, G1, J1, q⟩ := out
    exact ⟨τ1, G1, J1.ofTry ok, q⟩
end
end MV
namespace K00
open PySem PySem.Spec PyProof.Rows L2 MV
def topS (i : Nat) : Stmt := PySem.Challenge.pw_mendvault_k00_errors.main.body.getD i (.Pass ⟨0, 0, 0, 0⟩)
structure Txt (mg : Str → Option Value) : Prop where
  n_Exception : mg "Exception" = none
  n_ValueError : mg "ValueError" = none
  n_bool : mg "bool" = none
  n_int : mg "int" = none
  n_isinstance : mg "isinstance" = none
  n_len : mg "len" = none
  n_max : mg "max" = none
  n_range : mg "range" = none
  n_str : mg "str" = none
local macro_rules | `(tactic| walk_at "side") => `(tactic| first
  | decide
  | omega
  | (dsimp only; omega)
  | exact mul_lt _ _
  | (refine xor_lt ?_ ?_ <;> walk_at "side")
  | exact ln2 | exact ln1 | exact ln0 | exact ln3 | exact ln4 | exact ln5 | exact ln6 | exact ln7 | exact ln8 | exact ln9 | exact ln10 | exact ln11 | exact ln12)
local macro_rules | `(tactic| walk_at "rd1") => `(tactic| first
  | refine Exists.intro _ (And.intro rfl ?_)
  | refine Exists.intro _ (Exists.intro _ (And.intro rfl (And.intro rfl ?_)))
  | refine Exists.intro _ (Exists.intro _ (And.intro rfl ?_))
  | refine And.intro rfl ?_
  | refine And.intro (by walk_at "side") ?_
  | refine And.intro (And.intro (by walk_at "side") (by walk_at "side")) ?_
  | refine And.intro (Or.inr (And.intro (by (first | decide | omega)) (by (first | decide | omega)))) ?_
  | refine And.intro (Or.inl (And.intro (by (first | decide | omega)) (by (first | decide | omega)))) ?_
  | refine And.intro (Or.inl (by omega)) ?_
  | refine And.intro (Or.inr (by omega)) ?_
  | refine Or.inl (Exists.intro _ (And.intro rfl ?_)))
local macro_rules | `(tactic| walk_at "rd") => `(tactic| repeat walk_at "rd1")
section
variable {P : Program} {w : World} {K : PySem.W.Frag} {mg : Str → Option Value} {base : Heap}
abbrev s_law_cell : Stmt := topS 11
theorem sc_law_cell : FnScope ["script", "k"] ["script", "k"] (defScope s_law_cell) := ⟨rfl, rfl, rfl, by decide +kernel, rfl, by decide +kernel, by decide +kernel⟩
theorem ok_cell {f : Addr} {fd : FuncData} {k : Nat} (F : Fun K "_law_cell" "_law_cell" s_law_cell f fd) (T : Txt mg) : FnOk P w K mg base CX0 (k + 1) f fd ["script", "k"] (spCell K) := by
  refine F.ok sc_law_cell (fun vs H Q E h => ?_) (fun cdv A outer s H vs Q E hr h => ?_)
  · obtain ⟨l, ns, j, rfl, _⟩ := h
    rfl
  · obtain ⟨l, ns, j, rfl, hs, q⟩ := h
    refine ⟨_, (pss_cons (ps_if (pt_cmpR op_lt (pv 1) (pe_callB call_len_seq (by rfl) T.n_len (by decide +kernel) (pa_cons (pv 0) pa_nil)) (nomark _))
    (pss_one (ps_ret (pe_ix ix_list (pv 0) (pv 1) (fun _ _ => rfl))))
    pss_nil)
    (pss_one (ps_ret pe_int))), ?_⟩
    walk_at "rd"
    refine ⟨_, _, by rfl, .inl hs, ?_⟩
    walk_at "rd"
    refine ite2 (fun e => ?_) (fun e => ?_)
    · have e' := of_decide_eq_true e
      rw [List.length_map] at e'
      walk_at "rd"
      exact ⟨_, _, _, _, by rfl, by rfl, hs, atI_cell (by omega), q⟩
    · have e' := dec_ne e
      rw [List.length_map] at e'
      walk_at "rd"
      rw [cell_out (by omega)] at q
      exact q

abbrev s_law_mix : Stmt := topS 12
theorem sc_law_mix : FnScope ["cell", "salt", "one"] ["cell", "salt"] (defScope s_law_mix) := ⟨rfl, rfl, rfl, by decide +kernel, rfl, by decide +kernel, by decide +kernel⟩
theorem ok_mix {f : Addr} {fd : FuncData} {k : Nat} (F : Fun K "_law_mix" "_law_mix" s_law_mix f fd) (T : Txt mg) : FnOk P w K mg base CX0 (k + 1) f fd ["cell", "salt"] spMix := by
  refine F.ok sc_law_mix (fun vs H Q E h => ?_) (fun cdv A outer s H vs Q E hr h => ?_)
  · obtain ⟨l, ns, rfl, _⟩ := h
    rfl
  · obtain ⟨c, z, rfl, q⟩ := h
    have hr := mix1_r c z
    refine ⟨_, (pss_cons (ps_set (i := 2) sc_law_mix.nd rfl (Or.inl rfl) (pe_op op_mod (pe_callTy call_int1 (by rfl) T.n_int (by decide +kernel) (pa_cons (pe_op op_add (pe_op op_add (pe_op op_mul (pv 0) pe_int) (pe_op op_mul (pv 1) pe_int)) pe_int) pa_nil)) pe_int))
    (pss_one (ps_ret (pe_op op_mod (pe_callTy call_int1 (by rfl) T.n_int (by decide +kernel) (pa_cons (pe_op op_add (pe_op op_add (pe_op op_mul (pv 2) (pv 2)) (pe_op op_mul (pv 2) pe_int)) (pe_op op_mul (pv 1) pe_int)) pa_nil)) pe_int)))), ?_⟩
    walk_at "rd"
    exact q

abbrev s_law_box : Stmt := topS 13
theorem sc_law_box : FnScope ["script", "at", "cell"] ["script", "at"] (defScope s_law_box) := ⟨rfl, rfl, rfl, by decide +kernel, rfl, by decide +kernel, by decide +kernel⟩
/-- the box: four whole numbers in a list -/
def Bx (H : Hp) (b : Addr) : Prop := ∃ c d z n : Int, H b = some (.lst [.int c, .int d, .int z, .int n])
def spBox (K : PySem.W.Frag) : Sp := fun vs H Q _ => ∃ (l : Addr) (ns : List Int) (j : Nat), vs = [.ref l, .int (j : Int)] ∧ SqL K H l (ns.map V.int) ∧ ∀ b H', Same H H' → H b = none → Bx H' b → Q (.ref b) H'
theorem ok_box {f : Addr} {fd : FuncData} {k : Nat} (F : Fun K "_law_box" "_law_box" s_law_box f fd) (T : Txt mg) (c_law_cell : Called P w K mg base CX0 "_law_cell" k ["script", "k"] (spCell K)) : FnOk P w K mg base CX0 (k + 1) f fd ["script", "at"] (spBox K) := by
  refine F.ok sc_law_box (fun vs H Q E h => ?_) (fun cdv A outer s H vs Q E hr h => ?_)
  · obtain ⟨l, ns, j, rfl, _⟩ := h
    rfl
  · obtain ⟨l, ns, j, rfl, hs, q⟩ := h
    refine ⟨_, (pss_cons (ps_set (i := 2) sc_law_box.nd rfl (Or.inl rfl) (pe_own c_law_cell hr (by rfl) pass0 (pa_cons (pv 0) (pa_cons (pv 1) pa_nil))))
    (pss_one (ps_ret (pe_lst (pa_cons (pe_callB (call_max2 rfl) (by rfl) T.n_max (by decide +kernel) (pa_cons pe_int (pa_cons (pe_op op_sub (pv 2) (pe_op op_pow pe_int pe_int)) pa_nil))) (pa_cons pe_int (pa_cons (pe_op op_mod (pe_callTy call_int1 (by rfl) T.n_int (by decide +kernel) (pa_cons (pv 2) pa_nil)) pe_int) (pa_cons pe_int pa_nil)))))))), ?_⟩
    walk_at "rd"
    refine ⟨l, ns, j, by rfl, hs, ?_⟩
    walk_at "rd"
    exact fun p np => q p _ (same_new np _) np ⟨_, _, _, _, upd_same⟩

abbrev s_law_draw : Stmt := topS 14
theorem sc_law_draw : FnScope ["box", "many", "drawn"] ["box", "many"] (defScope s_law_draw) := ⟨rfl, rfl, rfl, by decide +kernel, rfl, by decide +kernel, by decide +kernel⟩
def spDraw : Sp := fun vs H Q _ => ∃ (b : Addr) (m : Nat) (c d z n : Int), vs = [.ref b, .int (m : Int)] ∧ (0 < m ∧ m ≤ 5000) ∧ H b = some (.lst [.int c, .int d, .int z, .int n]) ∧ ∀ (v : Nat) (c' d' z' n' : Int), v < m → Q (.int (v : Int)) (upd H b (.lst [.int c', .int d', .int z', .int n']))
theorem upd_twice {H : Hp} {a : Addr} {x y : HO} : upd (upd H a x) a y = upd H a y := by
  funext b
  by_cases h : b = a
  · rw [h, upd_same, upd_same]
  · rw [upd_ne h, upd_ne h, upd_ne h]
theorem emod_nat {i : Int} {m : Nat} (h : 0 < m) : (i % (m : Int)).toNat < m := by
  have := Int.emod_lt_of_pos i (show (0 : Int) < (m : Int) by omega)
  have := Int.emod_nonneg i (show (m : Int) ≠ 0 by omega)
  omega
theorem ok_draw {f : Addr} {fd : FuncData} {k : Nat} (F : Fun K "_law_draw" "_law_draw" s_law_draw f fd) (T : Txt mg) (c_law_mix : Called P w K mg base CX0 "_law_mix" k ["cell", "salt"] spMix) : FnOk P w K mg base CX0 (k + 1) f fd ["box", "many"] spDraw := by
  refine F.ok sc_law_draw (fun vs H Q E h => ?_) (fun cdv A outer s H vs Q E hr h => ?_)
  · obtain ⟨b, m, c, d, z, n, rfl, _⟩ := h
    rfl
  · obtain ⟨b, m, c, d, z, n, rfl, ⟨m0, m1⟩, hb, q⟩ := h
    refine ⟨_, (pss_cons (ps_if (PW.pt (pw_and (pt_cmpR op_gt (pe_ix ix_list (pv 0) pe_int (fun _ _ => rfl)) pe_int (nomark _)) (pw_and1 (pt_cmpR op_gt (pe_ix ix_list (pv 0) pe_int (fun _ _ => rfl)) pe_int (nomark _)))))
    (pss_cons (ps_set (i := 2) sc_law_draw.nd rfl (Or.inl rfl) (pe_op op_modI (pe_callTy call_int1 (by rfl) T.n_int (by decide +kernel) (pa_cons (pe_ix ix_list (pv 0) pe_int (fun _ _ => rfl)) pa_nil)) (pv 1)))
    (pss_cons (ps_asg (pe_op op_fdiv (pe_ix ix_list (pv 0) pe_int (fun _ _ => rfl)) (pv 1)) (pg_sub (pv 0) pe_int set_list))
    (pss_cons (ps_asg (pe_op op_sub (pe_ix ix_list (pv 0) pe_int (fun _ _ => rfl)) pe_int) (pg_sub (pv 0) pe_int set_list))
    (pss_one (ps_ret (pv 2))))))
    pss_nil)
    (pss_cons (ps_asg (pe_op op_add (pe_ix ix_list (pv 0) pe_int (fun _ _ => rfl)) pe_int) (pg_sub (pv 0) pe_int set_list))
    (pss_one (ps_ret (pe_op op_modI (pe_callTy call_int1 (by rfl) T.n_int (by decide +kernel) (pa_cons (pe_own c_law_mix hr (by rfl) pass0 (pa_cons (pe_ix ix_list (pv 0) pe_int (fun _ _ => rfl)) (pa_cons (pe_ix ix_list (pv 0) pe_int (fun _ _ => rfl)) pa_nil))) pa_nil)) (pv 1)))))), ?_⟩
    walk_at "rd"
    refine ⟨b, _, 0, _, by rfl, by rfl, .of hb, by rfl, ?_⟩
    walk_at "rd"
    refine ite2 (fun e => ?_) (fun e => ?_)
    · walk_at "rd"
      refine ⟨b, _, 3, _, by rfl, by rfl, .of hb, by rfl, ?_⟩
      walk_at "rd"
      refine ite2 (fun e => ?_) (fun e => ?_)
      · walk_at "rd"
        refine ⟨b, _, 0, _, by rfl, by rfl, .of hb, by rfl, ?_⟩
        walk_at "rd"
        refine ⟨b, _, 0, _, by rfl, by rfl, .of hb, by rfl, ?_⟩
        walk_at "rd"
        refine ⟨b, _, 0, _, by rfl, by rfl, hb, by rfl, ?_⟩
        walk_at "rd"
        refine ⟨b, _, 3, _, by rfl, by rfl, .of upd_same, by rfl, ?_⟩
        walk_at "rd"
        refine ⟨b, _, 3, _, by rfl, by rfl, upd_same, by rfl, ?_⟩
        walk_at "rd"
        rw [upd_twice]
        exact q (c % (m : Int)).toNat _ _ _ _ (emod_nat m0)
      · walk_at "rd"
        refine ⟨b, _, 1, _, by rfl, by rfl, .of hb, by rfl, ?_⟩
        walk_at "rd"
        refine ⟨b, _, 1, _, by rfl, by rfl, hb, by rfl, ?_⟩
        walk_at "rd"
        refine ⟨b, _, 2, _, by rfl, by rfl, .of upd_same, by rfl, ?_⟩
        walk_at "rd"
        refine ⟨b, _, 1, _, by rfl, by rfl, .of upd_same, by rfl, ?_⟩
        walk_at "rd"
        exact q (mix z (d + 1) % (m : Int)).toNat _ _ _ _ (emod_nat m0)
    · walk_at "rd"
      refine ⟨b, _, 1, _, by rfl, by rfl, .of hb, by rfl, ?_⟩
      walk_at "rd"
      refine ⟨b, _, 1, _, by rfl, by rfl, hb, by rfl, ?_⟩
      walk_at "rd"
      refine ⟨b, _, 2, _, by rfl, by rfl, .of upd_same, by rfl, ?_⟩
      walk_at "rd"
      refine ⟨b, _, 1, _, by rfl, by rfl, .of upd_same, by rfl, ?_⟩
      walk_at "rd"
      exact q (mix z (d + 1) % (m : Int)).toNat _ _ _ _ (emod_nat m0)

local macro_rules | `(tactic| walk_at "rd1") => `(tactic| first
  | refine Exists.intro _ (Exists.intro _ (Exists.intro _ (Exists.intro _ (And.intro rfl (And.intro rfl (And.intro (SqL.of (by first | assumption | exact upd_same)) (And.intro rfl ?_)))))))
  | refine Exists.intro _ (Exists.intro _ (Exists.intro _ (Exists.intro _ (And.intro rfl (And.intro rfl (And.intro (by first | assumption | exact upd_same) (And.intro rfl ?_)))))))
  | refine Exists.intro _ (Exists.intro _ (And.intro rfl (And.intro (Or.inl (SqL.of (by first | assumption | exact upd_same))) ?_)))
  | refine Exists.intro _ (Exists.intro _ (And.intro rfl (And.intro (SqL.of (by first | assumption | exact upd_same)) ?_)))
  | refine And.intro (by assumption) ?_
  | refine Exists.intro _ (Exists.intro _ (Exists.intro _ (And.intro rfl ?_))))

abbrev s_law_text : Stmt := topS 15
theorem sc_law_text : FnScope ["box", "kind", "words", "signs", "k"] ["box"] (defScope s_law_text) := ⟨rfl, rfl, rfl, by decide +kernel, rfl, by decide +kernel, by decide +kernel⟩
theorem len_ones : ∀ l : List Nat, ((l.map fun c => (⟨#[c]⟩ : Str)).map (fun x => x.length)).sum = l.length
  | [] => rfl
  | c :: l => by
    rw [List.map_cons, List.map_cons, List.sum_cons, len_ones l, List.length_cons]
    show 1 + _ = _
    omega
def SB (b : Addr) (H H' : Hp) : Prop := ∀ a o, a ≠ b → H a = some o → H' a = some o
theorem SB.mut {b : Addr} {H H' : Hp} {o : HO} (s : SB b H H') : SB b H (upd H' b o) := fun a u n h => by rw [upd_ne n]; exact s a u n h
theorem SB.new {b D : Addr} {H H' : Hp} {o : HO} (s : SB b H H') (h : H D = none) : SB b H (upd H' D o) := fun a u n e => by
  rw [upd_ne (fun z => by rw [z, h] at e; cases e)]
  exact s a u n e
theorem Bx.put {H : Hp} {b D : Addr} {o : HO} (h : Bx H b) (n : D ≠ b) : Bx (upd H D o) b := by
  obtain ⟨c, d, z, k, h⟩ := h
  exact ⟨c, d, z, k, by rw [upd_ne n.symm]; exact h⟩
def sg41 : Str := "abcdefghijklmnopqrstuvwxyz0123456789 _-AZ"
theorem sg41_len : sg41.length = 41 := by decide +kernel
theorem sg41_at {v : Nat} (h : v < 41) : ∃ c, sg41.cps.toList[v]? = some c := ⟨_, List.getElem?_eq_getElem (show v < sg41.cps.toList.length by rw [Array.length_toList]; show v < sg41.length; rw [sg41_len]; exact h)⟩
def spText00 : Sp := fun vs H Q _ => ∃ b : Addr, vs = [.ref b] ∧ Bx H b ∧ ∀ (z : Str) H', SB b H H' → Bx H' b → z.length ≤ 1000 → Q (.str z) H'
theorem ok_text00 {f : Addr} {fd : FuncData} {k : Nat} (F : Fun K "_law_text" "_law_text" s_law_text f fd) (T : Txt mg) (c_law_draw : Called P w K mg base CX0 "_law_draw" k ["box", "many"] spDraw) : FnOk P w K mg base CX0 (k + 1) f fd ["box"] spText00 := by
  refine F.ok sc_law_text (fun vs H Q E h => ?_) (fun cdv A outer s H vs Q E hr h => ?_)
  · obtain ⟨b, rfl, _⟩ := h
    rfl
  · obtain ⟨b, rfl, ⟨c, d, z, n, hb⟩, q⟩ := h
    refine ⟨_, (pss_cons (ps_set (i := 1) sc_law_text.nd rfl (Or.inl rfl) (pe_own c_law_draw hr (by rfl) pass0 (pa_cons (pv 0) (pa_cons pe_int pa_nil))))
    (pss_cons (ps_if (pt_cmpR nop_eq (pv 1) pe_int (nomark _))
    (pss_cons (ps_set (i := 2) sc_law_text.nd rfl (Or.inl rfl) (pe_lst (pa_cons pe_str (pa_cons pe_str (pa_cons pe_str (pa_cons pe_str (pa_cons pe_str (pa_cons pe_str (pa_cons pe_str (pa_cons pe_str (pa_cons pe_str (pa_cons pe_str pa_nil))))))))))))
    (pss_one (ps_ret (pe_ix ix_n (pv 2) (pe_own c_law_draw hr (by rfl) pass0 (pa_cons (pv 0) (pa_cons pe_int pa_nil))) (fun _ _ => rfl)))))
    pss_nil)
    (pss_cons (ps_set (i := 3) sc_law_text.nd rfl (Or.inr rfl) pe_str)
    (pss_one (ps_ret (pe_join pe_str (pe_lc (own := [("k", 4)]) (g := gName 4) (tt := tYes) rfl sc_law_text.nd (pi_range1 (by rfl) T.n_range (pa_cons (pe_op nop_add pe_int (pe_own c_law_draw hr (by rfl) pass0 (pa_cons (pv 0) (pa_cons pe_int pa_nil)))) pa_nil)) (blkOk_by (N := ["box", "kind", "words", "signs", "k"]) (sc := defScope s_law_text) (by decide +kernel)) (fun _ _ _ _ _ => (pg_name (i := 4) sc_law_text.nd rfl (Or.inl rfl))) (fun _ _ _ _ _ => pts_nil) (fun _ _ _ _ _ => (pe_ix (show IxR _ rIxS from ix_str) (pv 3) (pe_own c_law_draw hr (by rfl) pass0 (pa_cons (pv 0) (pa_cons pe_int pa_nil))) (fun _ _ => rfl)))))))))), ?_⟩
    walk_at "rd"
    refine ⟨b, 3, c, d, z, n, by rfl, by decide, hb, fun v1 c1 d1 z1 n1 hv1 => ?_⟩
    have s1 : SB b H (upd H b (.lst [.int c1, .int d1, .int z1, .int n1])) := SB.mut fun _ _ _ h => h
    have b1 : upd H b (.lst [.int c1, .int d1, .int z1, .int n1]) b = some (.lst [.int c1, .int d1, .int z1, .int n1]) := upd_same
    generalize upd H b (.lst [.int c1, .int d1, .int z1, .int n1]) = H1 at *
    walk_at "rd"
    refine ite2 (fun e => ?_) (fun e => ?_)
    · walk_at "rd"
      intro wl nwl
      have nwb : wl ≠ b := fun e => by rw [e, b1] at nwl; cases nwl
      have nw0 : H wl = none := by
        cases e : H wl with
        | none => rfl
        | some o =>
          rw [s1 _ _ nwb e] at nwl
          cases nwl
      have gw : upd H1 wl (.lst [V.str "lost", V.str "parted", V.str "far", V.str "names", V.str "signs", V.str "labels", V.str "edits", V.str "stripes", V.str "epochs", V.str ""]) wl = some (.lst [V.str "lost", V.str "parted", V.str "far", V.str "names", V.str "signs", V.str "labels", V.str "edits", V.str "stripes", V.str "epochs", V.str ""]) := upd_same
      have s2 : SB b H (upd H1 wl (.lst [V.str "lost", V.str "parted", V.str "far", V.str "names", V.str "signs", V.str "labels", V.str "edits", V.str "stripes", V.str "epochs", V.str ""])) := s1.new nw0
      have b2 : upd H1 wl (.lst [V.str "lost", V.str "parted", V.str "far", V.str "names", V.str "signs", V.str "labels", V.str "edits", V.str "stripes", V.str "epochs", V.str ""]) b = some (.lst [.int c1, .int d1, .int z1, .int n1]) := by rw [upd_ne nwb.symm]; exact b1
      generalize upd H1 wl (.lst [V.str "lost", V.str "parted", V.str "far", V.str "names", V.str "signs", V.str "labels", V.str "edits", V.str "stripes", V.str "epochs", V.str ""]) = H2 at *
      walk_at "rd"
      refine ⟨b, 10, c1, d1, z1, n1, by rfl, by decide, b2, fun v2 c2 d2 z2 n2 hv2 => ?_⟩
      have hv2 : v2 < 10 := hv2
      have s3 : SB b H (upd H2 b (.lst [.int c2, .int d2, .int z2, .int n2])) := s2.mut
      have b3 : upd H2 b (.lst [.int c2, .int d2, .int z2, .int n2]) b = some (.lst [.int c2, .int d2, .int z2, .int n2]) := upd_same
      have gw3 : upd H2 b (.lst [.int c2, .int d2, .int z2, .int n2]) wl = some (.lst [V.str "lost", V.str "parted", V.str "far", V.str "names", V.str "signs", V.str "labels", V.str "edits", V.str "stripes", V.str "epochs", V.str ""]) := by rw [upd_ne nwb]; exact gw
      generalize upd H2 b (.lst [.int c2, .int d2, .int z2, .int n2]) = H3 at *
      walk_at "rd"
      obtain ⟨zz, ez, lz⟩ : ∃ zz : Str, ([V.str "lost", V.str "parted", V.str "far", V.str "names", V.str "signs", V.str "labels", V.str "edits", V.str "stripes", V.str "epochs", V.str ""] : List V)[v2]? = some (.str zz) ∧ zz.length ≤ 1000 := by
        match v2, hv2 with
        | 0, _ => exact ⟨_, rfl, by decide +kernel⟩
        | 1, _ => exact ⟨_, rfl, by decide +kernel⟩
        | 2, _ => exact ⟨_, rfl, by decide +kernel⟩
        | 3, _ => exact ⟨_, rfl, by decide +kernel⟩
        | 4, _ => exact ⟨_, rfl, by decide +kernel⟩
        | 5, _ => exact ⟨_, rfl, by decide +kernel⟩
        | 6, _ => exact ⟨_, rfl, by decide +kernel⟩
        | 7, _ => exact ⟨_, rfl, by decide +kernel⟩
        | 8, _ => exact ⟨_, rfl, by decide +kernel⟩
        | 9, _ => exact ⟨_, rfl, by decide +kernel⟩
      refine ⟨wl, _, v2, _, by rfl, by rfl, .inl (.of gw3), ez, ?_⟩
      exact q zz _ s3 ⟨_, _, _, _, b3⟩ lz
    · walk_at "rd"
      refine ⟨⟨_, rfl⟩, ?_⟩
      walk_at "rd"
      refine ⟨b, 8, c1, d1, z1, n1, by rfl, by decide, b1, fun v2 c2 d2 z2 n2 hv2 => ?_⟩
      have hv2 : v2 < 8 := hv2
      have s2 : SB b H (upd H1 b (.lst [.int c2, .int d2, .int z2, .int n2])) := s1.mut
      have b2 : upd H1 b (.lst [.int c2, .int d2, .int z2, .int n2]) b = some (.lst [.int c2, .int d2, .int z2, .int n2]) := upd_same
      generalize upd H1 b (.lst [.int c2, .int d2, .int z2, .int n2]) = H2 at *
      walk_at "rd"
      intro D nD
      have nDb : D ≠ b := fun e => by rw [e, b2] at nD; cases nD
      have nD0 : H D = none := by
        cases e : H D with
        | none => rfl
        | some o =>
          rw [s2 _ _ nDb e] at nD
          cases nD
      refine lc_it walk_range (fun i G => SB b H G ∧ Bx G b ∧ ∃ l : List Nat, G D = some (.lst ((l.map fun c => (⟨#[c]⟩ : Str)).map V.str)) ∧ l.length = i) ⟨s2.new nD0, Bx.put ⟨_, _, _, _, b2⟩ nDb, [], upd_same, rfl⟩ (fun _ _ _ _ => trivial) ?_ ?_
      · rintro i x0 J1 J2 hi ⟨y1, ⟨c3, d3, z3, n3, y2⟩, l, y3, y4⟩ ⟨rfl, rfl⟩
        have hi : i < 1 + v2 := by
          have h := hi
          dsimp only at h
          omega
        walk_at "rd"
        refine ⟨b, 41, c3, d3, z3, n3, by rfl, by decide, y2, fun v4 c4 d4 z4 n4 hv4 => ?_⟩
        obtain ⟨ch, hc⟩ := sg41_at hv4
        refine ⟨sg41, _, ch, by rfl, by rfl, (by rw [sg41_len]; exact Nat.le_of_lt (sz_lt (by decide))), atI_nat hc, ?_⟩
        refine ⟨_, (by rw [upd_ne nDb]; exact y3), ?_, y1.mut.new nD0, Bx.put ⟨_, _, _, _, upd_same⟩ nDb, l ++ [ch], ?_, by rw [List.length_append, y4] <;> rfl⟩
        · rw [List.length_map, List.length_map, y4]
          exact sz_lt (by omega)
        · rw [List.map_append, List.map_append]
          exact upd_same
      · rintro J1 ⟨y1, y2, l, y3, y4⟩
        have y4 : l.length = 1 + v2 := by
          have h := y4
          dsimp only at h
          omega
        walk_at "rd"
        refine ⟨_, D, l.map fun c => (⟨#[c]⟩ : Str), by rfl, by rfl, .inl (.of y3), ?_, ?_⟩
        · rw [len_ones l]
          show l.length + _ * 0 ≤ _
          omega
        · refine q _ _ y1 y2 ?_
          rw [PySem.W.KT.join_ones _ (fun a m => by
            obtain ⟨c, _, rfl⟩ := List.mem_map.mp m
            rfl), List.length_map]
          omega
abbrev s_law_is_number : Stmt := topS 16
theorem sc_law_is_number : FnScope ["told", "due"] ["told", "due"] (defScope s_law_is_number) := ⟨rfl, rfl, rfl, by decide +kernel, rfl, by decide +kernel, by decide +kernel⟩
def spIsNum00 : Sp := fun vs H Q _ => ∃ i : Int, vs = [.int i, .int i] ∧ Q (.bl true) H
theorem ok_isnum00 {f : Addr} {fd : FuncData} {k : Nat} (F : Fun K "_law_is_number" "_law_is_number" s_law_is_number f fd) (T : Txt mg) : FnOk P w K mg base CX0 (k + 1) f fd ["told", "due"] spIsNum00 := by
  refine F.ok sc_law_is_number (fun vs H Q E h => ?_) (fun cdv A outer s H vs Q E hr h => ?_)
  · obtain ⟨i, rfl, _⟩ := h
    rfl
  · obtain ⟨i, rfl, q⟩ := h
    refine ⟨_, (pss_one (ps_ret (pe_and (pe_callB call_isi (by rfl) T.n_isinstance (by decide +kernel) (pa_cons (pv 0) (pa_cons (pe_bltn (v := .ty "int") (u := .type "int") (by rfl) T.n_int (by decide +kernel) rfl) pa_nil))) (pe_and (pe_not (pe_callB call_isi (by rfl) T.n_isinstance (by decide +kernel) (pa_cons (pv 0) (pa_cons (pe_bltn (v := .ty "bool") (u := .type "bool") (by rfl) T.n_bool (by decide +kernel) rfl) pa_nil)))) (pe_one (pe_cmpR op_eq (pv 0) (pv 1) (nomark _))))))), ?_⟩
    walk_at "rd"
    refine ⟨_, _, _, _, true, by rfl, .ty _, ty_int, kit_ty (by decide +kernel), ?_⟩
    walk_at "rd"
    refine ⟨_, _, _, _, false, by rfl, .ty _, ty_int, kit_ty (by decide +kernel), ?_⟩
    walk_at "rd"
    show Q (V.bl (decide (V.int i = V.int i))) _
    rw [decide_eq_true rfl]
    exact q
abbrev s_law_is_text : Stmt := topS 17
theorem sc_law_is_text : FnScope ["told", "due"] ["told", "due"] (defScope s_law_is_text) := ⟨rfl, rfl, rfl, by decide +kernel, rfl, by decide +kernel, by decide +kernel⟩
def spIsTxt00 : Sp := fun vs H Q _ => ∃ z : Str, vs = [.str z, .str z] ∧ Q (.bl true) H
theorem ok_istxt00 {f : Addr} {fd : FuncData} {k : Nat} (F : Fun K "_law_is_text" "_law_is_text" s_law_is_text f fd) (T : Txt mg) : FnOk P w K mg base CX0 (k + 1) f fd ["told", "due"] spIsTxt00 := by
  refine F.ok sc_law_is_text (fun vs H Q E h => ?_) (fun cdv A outer s H vs Q E hr h => ?_)
  · obtain ⟨z, rfl, _⟩ := h
    rfl
  · obtain ⟨z, rfl, q⟩ := h
    refine ⟨_, (pss_one (ps_ret (pe_and (pe_callB call_isi (by rfl) T.n_isinstance (by decide +kernel) (pa_cons (pv 0) (pa_cons (pe_bltn (v := .ty "str") (u := .type "str") (by rfl) T.n_str (by decide +kernel) rfl) pa_nil))) (pe_one (pe_cmpR op_eq (pv 0) (pv 1) (nomark _)))))), ?_⟩
    walk_at "rd"
    refine ⟨_, _, _, _, true, by rfl, .ty _, ty_str, kit_ty (by decide +kernel), ?_⟩
    walk_at "rd"
    show Q (V.bl (decide (V.str z = V.str z))) _
    rw [decide_eq_true rfl]
    exact q

abbrev s_law_alone : Stmt := topS 18
theorem sc_law_alone : FnScope ["made", "kind", "kinds", "k"] ["made", "kind"] (defScope s_law_alone) := ⟨rfl, rfl, rfl, by decide +kernel, rfl, by decide +kernel, by decide +kernel⟩
structure Er8 where
  c0 : Addr
  c1 : Addr
  c2 : Addr
  c3 : Addr
  c4 : Addr
  c5 : Addr
  c6 : Addr
  c7 : Addr
  v : Addr
def Er8.at (e : Er8) : Nat → Addr
  | 0 => e.c0 | 1 => e.c1 | 2 => e.c2 | 3 => e.c3 | 4 => e.c4 | 5 => e.c5 | 6 => e.c6 | _ => e.c7
/-- what the class of this kind says of the others -/
structure ErK (K : PySem.W.Frag) (e : Er8) (n : Nat) : Prop where
  ex : ErrC K (e.at n)
  i0 : PySem.W.kitOne K (.ref (e.at n)) (.ref e.c0) = some (decide (0 = n))
  i1 : PySem.W.kitOne K (.ref (e.at n)) (.ref e.c1) = some (decide (1 = n))
  i2 : PySem.W.kitOne K (.ref (e.at n)) (.ref e.c2) = some (decide (2 = n))
  i3 : PySem.W.kitOne K (.ref (e.at n)) (.ref e.c3) = some (decide (3 = n))
  i4 : PySem.W.kitOne K (.ref (e.at n)) (.ref e.c4) = some (decide (4 = n))
  i5 : PySem.W.kitOne K (.ref (e.at n)) (.ref e.c5) = some (decide (5 = n))
  i6 : PySem.W.kitOne K (.ref (e.at n)) (.ref e.c6) = some (decide (6 = n))
  i7 : PySem.W.kitOne K (.ref (e.at n)) (.ref e.c7) = some (decide (7 = n))
  kv : PySem.W.kitOne K (.ref (e.at n)) (.ref e.v) = some true
  ke : PySem.W.kitOne K (.ref (e.at n)) (.type "Exception") = some true
  kq : PySem.W.kitOne K (.ref (e.at n)) (.type "ValueError") = some false
structure Er8M (mg : Str → Option Value) (e : Er8) : Prop where
  m0 : mg "BadValue" = some (.ref e.c0)
  m1 : mg "BadText" = some (.ref e.c1)
  m2 : mg "BadPaper" = some (.ref e.c2)
  m3 : mg "BadLine" = some (.ref e.c3)
  m4 : mg "Beyond" = some (.ref e.c4)
  m5 : mg "NoRoom" = some (.ref e.c5)
  m6 : mg "BadName" = some (.ref e.c6)
  m7 : mg "NothingThere" = some (.ref e.c7)
  mv : mg "VaultError" = some (.ref e.v)
def spAlone (K : PySem.W.Frag) (e : Er8) : Sp := fun vs H Q _ => ∃ (a d : Addr) (fs : List (Str × V)) (n : Nat), vs = [.ref a, .int (n : Int)] ∧ n < 8 ∧ ErK K e n ∧ H a = some (ExD (e.at n) d a) ∧ H d = some (.xd fs) ∧ ∀ H', Same H H' → Q (.bl true) H'
theorem ok_alone {f : Addr} {fd : FuncData} {k : Nat} {e8 : Er8} (F : Fun K "_law_alone" "_law_alone" s_law_alone f fd) (T : Txt mg) (M : Er8M mg e8) : FnOk P w K mg base CX0 (k + 1) f fd ["made", "kind"] (spAlone K e8) := by
  refine F.ok sc_law_alone (fun vs H Q E h => ?_) (fun cdv A outer s H vs Q E hr h => ?_)
  · obtain ⟨a, d, fs, n, rfl, _⟩ := h
    rfl
  · obtain ⟨a, d, fs, n, rfl, n8, ek, ha, hd, q⟩ := h
    obtain ⟨a_BadValue, a_BadText, a_BadPaper, a_BadLine, a_Beyond, a_NoRoom, a_BadName, a_NothingThere, a_VaultError⟩ := e8
    obtain ⟨m_BadValue, m_BadText, m_BadPaper, m_BadLine, m_Beyond, m_NoRoom, m_BadName, m_NothingThere, m_VaultError⟩ := M
    refine ⟨_, (pss_cons (ps_set (i := 2) sc_law_alone.nd rfl (Or.inl rfl) (pe_lst (pa_cons (pe_callB call_isV (by rfl) T.n_isinstance (by decide +kernel) (pa_cons (pv 0) (pa_cons (pe_glob (v := .ref a_BadValue) rfl m_BadValue rfl) pa_nil))) (pa_cons (pe_callB call_isV (by rfl) T.n_isinstance (by decide +kernel) (pa_cons (pv 0) (pa_cons (pe_glob (v := .ref a_BadText) rfl m_BadText rfl) pa_nil))) (pa_cons (pe_callB call_isV (by rfl) T.n_isinstance (by decide +kernel) (pa_cons (pv 0) (pa_cons (pe_glob (v := .ref a_BadPaper) rfl m_BadPaper rfl) pa_nil))) pa_nil)))))
    (pss_cons (ps_set (i := 2) sc_law_alone.nd rfl (Or.inl rfl) (pe_op op_cat (pv 2) (pe_lst (pa_cons (pe_callB call_isV (by rfl) T.n_isinstance (by decide +kernel) (pa_cons (pv 0) (pa_cons (pe_glob (v := .ref a_BadLine) rfl m_BadLine rfl) pa_nil))) (pa_cons (pe_callB call_isV (by rfl) T.n_isinstance (by decide +kernel) (pa_cons (pv 0) (pa_cons (pe_glob (v := .ref a_Beyond) rfl m_Beyond rfl) pa_nil))) (pa_cons (pe_callB call_isV (by rfl) T.n_isinstance (by decide +kernel) (pa_cons (pv 0) (pa_cons (pe_glob (v := .ref a_NoRoom) rfl m_NoRoom rfl) pa_nil))) pa_nil))))))
    (pss_cons (ps_set (i := 2) sc_law_alone.nd rfl (Or.inl rfl) (pe_op op_cat (pv 2) (pe_lst (pa_cons (pe_callB call_isV (by rfl) T.n_isinstance (by decide +kernel) (pa_cons (pv 0) (pa_cons (pe_glob (v := .ref a_BadName) rfl m_BadName rfl) pa_nil))) (pa_cons (pe_callB call_isV (by rfl) T.n_isinstance (by decide +kernel) (pa_cons (pv 0) (pa_cons (pe_glob (v := .ref a_NothingThere) rfl m_NothingThere rfl) pa_nil))) pa_nil)))))
    (pss_cons (ps_for PassesOwn.never rfl (pi_range1 (by rfl) T.n_range (pa_cons pe_int pa_nil)) (pg_name (i := 3) sc_law_alone.nd rfl (Or.inl rfl))
    (pss_one (ps_if (pt_cmpR op_ne (pe_ix ix_list (pv 2) (pv 3) (fun _ _ => rfl)) (pe_cmpR op_eq (pv 3) (pv 1) (nomark _)) (nomark _))
    (pss_one (ps_ret pe_bl))
    pss_nil)))
    (pss_one (ps_ret (pe_and (pe_callB call_isV (by rfl) T.n_isinstance (by decide +kernel) (pa_cons (pv 0) (pa_cons (pe_glob (v := .ref a_VaultError) rfl m_VaultError rfl) pa_nil))) (pe_and (pe_callB call_isV (by rfl) T.n_isinstance (by decide +kernel) (pa_cons (pv 0) (pa_cons (pe_bltn (v := .ty "Exception") (u := .type "Exception") (by rfl) T.n_Exception (by decide +kernel) rfl) pa_nil))) (pe_one (pe_not (pe_callB call_isV (by rfl) T.n_isinstance (by decide +kernel) (pa_cons (pv 0) (pa_cons (pe_bltn (v := .ty "ValueError") (u := .type "ValueError") (by rfl) T.n_ValueError (by decide +kernel) rfl) pa_nil))))))))))))), ?_⟩
    walk_at "rd"
    refine ⟨a, _, d, fs, _, _, _, by rfl, .own _, ek.ex, ha, hd, ek.i0, ?_⟩
    walk_at "rd"
    refine ⟨a, _, d, fs, _, _, _, by rfl, .own _, ek.ex, ha, hd, ek.i1, ?_⟩
    walk_at "rd"
    refine ⟨a, _, d, fs, _, _, _, by rfl, .own _, ek.ex, ha, hd, ek.i2, ?_⟩
    walk_at "rd"
    intro l1 nl1
    have z := same_new nl1 (.lst [V.bl (decide (0 = n)), V.bl (decide (1 = n)), V.bl (decide (2 = n))])
    have gl1 : upd H l1 (.lst [V.bl (decide (0 = n)), V.bl (decide (1 = n)), V.bl (decide (2 = n))]) l1 = some (.lst [V.bl (decide (0 = n)), V.bl (decide (1 = n)), V.bl (decide (2 = n))]) := upd_same
    generalize upd H l1 (.lst [V.bl (decide (0 = n)), V.bl (decide (1 = n)), V.bl (decide (2 = n))]) = H1 at *
    replace ha := z _ _ ha
    replace hd := z _ _ hd
    have sA := z
    clear z nl1
    walk_at "rd"
    refine ⟨a, _, d, fs, _, _, _, by rfl, .own _, ek.ex, ha, hd, ek.i3, ?_⟩
    walk_at "rd"
    refine ⟨a, _, d, fs, _, _, _, by rfl, .own _, ek.ex, ha, hd, ek.i4, ?_⟩
    walk_at "rd"
    refine ⟨a, _, d, fs, _, _, _, by rfl, .own _, ek.ex, ha, hd, ek.i5, ?_⟩
    walk_at "rd"
    intro l2 nl2
    have z := same_new nl2 (.lst [V.bl (decide (3 = n)), V.bl (decide (4 = n)), V.bl (decide (5 = n))])
    have gl2 : upd H1 l2 (.lst [V.bl (decide (3 = n)), V.bl (decide (4 = n)), V.bl (decide (5 = n))]) l2 = some (.lst [V.bl (decide (3 = n)), V.bl (decide (4 = n)), V.bl (decide (5 = n))]) := upd_same
    generalize upd H1 l2 (.lst [V.bl (decide (3 = n)), V.bl (decide (4 = n)), V.bl (decide (5 = n))]) = H2 at *
    replace ha := z _ _ ha
    replace hd := z _ _ hd
    replace gl1 := z _ _ gl1
    replace sA := sA.trans z
    clear z nl2
    walk_at "rd"
    refine ⟨l1, l2, _, _, by rfl, by rfl, gl1, gl2, (Nat.le_of_lt (sz_lt (show 6 < 100000 by decide))), fun l3 nl3 => ?_⟩
    have z := same_new nl3 (.lst ([V.bl (decide (0 = n)), V.bl (decide (1 = n)), V.bl (decide (2 = n))] ++ [V.bl (decide (3 = n)), V.bl (decide (4 = n)), V.bl (decide (5 = n))]))
    have gl3 : upd H2 l3 (.lst ([V.bl (decide (0 = n)), V.bl (decide (1 = n)), V.bl (decide (2 = n))] ++ [V.bl (decide (3 = n)), V.bl (decide (4 = n)), V.bl (decide (5 = n))])) l3 = some (.lst [V.bl (decide (0 = n)), V.bl (decide (1 = n)), V.bl (decide (2 = n)), V.bl (decide (3 = n)), V.bl (decide (4 = n)), V.bl (decide (5 = n))]) := upd_same
    generalize upd H2 l3 (.lst ([V.bl (decide (0 = n)), V.bl (decide (1 = n)), V.bl (decide (2 = n))] ++ [V.bl (decide (3 = n)), V.bl (decide (4 = n)), V.bl (decide (5 = n))])) = H3 at *
    replace ha := z _ _ ha
    replace hd := z _ _ hd
    replace sA := sA.trans z
    clear z nl3 gl1 gl2
    walk_at "rd"
    refine ⟨a, _, d, fs, _, _, _, by rfl, .own _, ek.ex, ha, hd, ek.i6, ?_⟩
    walk_at "rd"
    refine ⟨a, _, d, fs, _, _, _, by rfl, .own _, ek.ex, ha, hd, ek.i7, ?_⟩
    walk_at "rd"
    intro l4 nl4
    have z := same_new nl4 (.lst [V.bl (decide (6 = n)), V.bl (decide (7 = n))])
    have gl4 : upd H3 l4 (.lst [V.bl (decide (6 = n)), V.bl (decide (7 = n))]) l4 = some (.lst [V.bl (decide (6 = n)), V.bl (decide (7 = n))]) := upd_same
    generalize upd H3 l4 (.lst [V.bl (decide (6 = n)), V.bl (decide (7 = n))]) = H4 at *
    replace ha := z _ _ ha
    replace hd := z _ _ hd
    replace gl3 := z _ _ gl3
    replace sA := sA.trans z
    clear z nl4
    walk_at "rd"
    refine ⟨l3, l4, _, _, by rfl, by rfl, gl3, gl4, (Nat.le_of_lt (sz_lt (show 8 < 100000 by decide))), fun l5 nl5 => ?_⟩
    have z := same_new nl5 (.lst ([V.bl (decide (0 = n)), V.bl (decide (1 = n)), V.bl (decide (2 = n)), V.bl (decide (3 = n)), V.bl (decide (4 = n)), V.bl (decide (5 = n))] ++ [V.bl (decide (6 = n)), V.bl (decide (7 = n))]))
    have gl5 : upd H4 l5 (.lst ([V.bl (decide (0 = n)), V.bl (decide (1 = n)), V.bl (decide (2 = n)), V.bl (decide (3 = n)), V.bl (decide (4 = n)), V.bl (decide (5 = n))] ++ [V.bl (decide (6 = n)), V.bl (decide (7 = n))])) l5 = some (.lst [V.bl (decide (0 = n)), V.bl (decide (1 = n)), V.bl (decide (2 = n)), V.bl (decide (3 = n)), V.bl (decide (4 = n)), V.bl (decide (5 = n)), V.bl (decide (6 = n)), V.bl (decide (7 = n))]) := upd_same
    generalize upd H4 l5 (.lst ([V.bl (decide (0 = n)), V.bl (decide (1 = n)), V.bl (decide (2 = n)), V.bl (decide (3 = n)), V.bl (decide (4 = n)), V.bl (decide (5 = n))] ++ [V.bl (decide (6 = n)), V.bl (decide (7 = n))])) = H5 at *
    replace ha := z _ _ ha
    replace hd := z _ _ hd
    replace sA := sA.trans z
    clear z nl5 gl3 gl4
    walk_at "rd"
    try (refine ⟨by decide, ?_⟩)
    refine for_range (lo := 0) (n := 8) (fun i σ G => G = H5 ∧ ∃ v3 : Option V, σ = [some (.ref a), some (.int (n : Int)), some (.ref l5), v3]) ⟨rfl, _, by rfl⟩ ?_ ?_
    · rintro i σ G hi ⟨rfl, v3, rfl⟩
      have ei : ([V.bl (decide (0 = n)), V.bl (decide (1 = n)), V.bl (decide (2 = n)), V.bl (decide (3 = n)), V.bl (decide (4 = n)), V.bl (decide (5 = n)), V.bl (decide (6 = n)), V.bl (decide (7 = n))] : List V)[i]? = some (.bl (decide (i = n))) := by
        match i, hi with
        | 0, _ => rfl
        | 1, _ => rfl
        | 2, _ => rfl
        | 3, _ => rfl
        | 4, _ => rfl
        | 5, _ => rfl
        | 6, _ => rfl
        | 7, _ => rfl
      rw [Int.zero_add]
      walk_at "rd"
      refine ⟨l5, _, (i : Int), _, by rfl, by rfl, .of gl5, atI_nat ei, ?_⟩
      walk_at "rd"
      have ee : decide (V.int (i : Int) = V.int (n : Int)) = decide (i = n) := by
        by_cases h : i = n
        · subst h
          rw [decide_eq_true rfl, decide_eq_true rfl]
        · rw [decide_eq_false h, decide_eq_false (fun z => h (by injection z with z; omega))]
      try (rw [ee])
      walk_at "rd"
      exact iteNS rfl ⟨rfl, _, by rfl⟩
    · rintro σ G ⟨rfl, v3, rfl⟩
      walk_at "rd"
      refine ⟨a, _, d, fs, _, _, _, by rfl, .own _, ek.ex, ha, hd, ek.kv, ?_⟩
      walk_at "rd"
      refine ⟨a, _, d, fs, _, _, _, by rfl, .ty _, ek.ex, ha, hd, ek.ke, ?_⟩
      walk_at "rd"
      refine ⟨a, _, d, fs, _, _, _, by rfl, .ty _, ek.ex, ha, hd, ek.kq, ?_⟩
      walk_at "rd"
      exact q _ sA

abbrev s_law_numbered : Stmt := topS 19
theorem sc_law_numbered : FnScope ["at", "other", "first", "second", "k"] ["at", "other"] (defScope s_law_numbered) := ⟨rfl, rfl, rfl, by decide +kernel, rfl, by decide +kernel, by decide +kernel⟩
def ErAt (H : Hp) (C a : Addr) (fld : Str) (v : V) : Prop := ∃ d, H a = some (ExD C d a) ∧ H d = some (.xd [(fld, v)])
theorem ErAt.same {H H' : Hp} {C a : Addr} {fld : Str} {v : V} (z : Same H H') (h : ErAt H C a fld v) : ErAt H' C a fld v := by
  obtain ⟨d, h1, h2⟩ := h
  exact ⟨d, z _ _ h1, z _ _ h2⟩
theorem er_made {H : Hp} {C a d : Addr} {fld : Str} {v : V} (na : H a = none) (nd : H d = none) (ne : a ≠ d) : Same H (upd (upd H d (.xd [(fld, v)])) a (ExD C d a)) ∧ ErAt (upd (upd H d (.xd [(fld, v)])) a (ExD C d a)) C a fld v :=
  ⟨(same_new nd _).trans (same_new (by rw [upd_ne ne]; exact na) _), d, upd_same, by rw [upd_ne ne.symm]; exact upd_same⟩
def spNumd (K : PySem.W.Frag) : Sp := fun vs H Q _ => ∃ i j : Int, vs = [.int i, .int j] ∧ ∀ H', Same H H' → Q (.bl true) H'
theorem ok_numd {f D0 I0 D1 I1 D2 I2 D3 I3 : Addr} {fd : FuncData} {k : Nat} {e8 : Er8} (F : Fun K "_law_numbered" "_law_numbered" s_law_numbered f fd) (T : Txt mg) (E_BadValue : EAt "BadValue" "BadValue.__init__" K mg e8.c0 D0 I0) (E_BadText : EAt "BadText" "BadText.__init__" K mg e8.c1 D1 I1) (E_BadPaper : EAt "BadPaper" "BadPaper.__init__" K mg e8.c2 D2 I2) (E_BadLine : EAt "BadLine" "BadLine.__init__" K mg e8.c3 D3 I3) (ek : ∀ n, n < 8 → ErK K e8 n) (c_law_is_number : Called P w K mg base CX0 "_law_is_number" k ["told", "due"] spIsNum00) (c_law_alone : Called P w K mg base CX0 "_law_alone" k ["made", "kind"] (spAlone K e8)) : FnOk P w K mg base CX0 (k + 1) f fd ["at", "other"] (spNumd K) := by
  refine F.ok sc_law_numbered (fun vs H Q E h => ?_) (fun cdv A outer s H vs Q E hr h => ?_)
  · obtain ⟨i, j, rfl, _⟩ := h
    rfl
  · obtain ⟨i, j, rfl, q⟩ := h
    refine ⟨_, (pss_cons (ps_set (i := 2) sc_law_numbered.nd rfl (Or.inl rfl) (pe_lst (pa_cons (pe_mkV PySem.Mve.made_at E_BadValue hr (pa_cons (pv 0) pa_nil)) (pa_cons (pe_mkV PySem.Mve.made_at E_BadText hr (pa_cons (pv 0) pa_nil)) (pa_cons (pe_mkV PySem.Mve.made_at E_BadPaper hr (pa_cons (pv 0) pa_nil)) (pa_cons (pe_mkV PySem.Mve.made_at E_BadLine hr (pa_cons (pv 0) pa_nil)) pa_nil))))))
    (pss_cons (ps_set (i := 3) sc_law_numbered.nd rfl (Or.inl rfl) (pe_lst (pa_cons (pe_mkV PySem.Mve.made_at E_BadValue hr (pa_cons (pv 1) pa_nil)) (pa_cons (pe_mkV PySem.Mve.made_at E_BadText hr (pa_cons (pv 1) pa_nil)) (pa_cons (pe_mkV PySem.Mve.made_at E_BadPaper hr (pa_cons (pv 1) pa_nil)) (pa_cons (pe_mkV PySem.Mve.made_at E_BadLine hr (pa_cons (pv 1) pa_nil)) pa_nil))))))
    (pss_cons (ps_for PassesOwn.never rfl (pi_range1 (by rfl) T.n_range (pa_cons pe_int pa_nil)) (pg_name (i := 4) sc_law_numbered.nd rfl (Or.inl rfl))
    (pss_cons (ps_if (PW.pt (pw_or (pt_not (pt_val (pe_own c_law_is_number hr (by rfl) pass0 (pa_cons (pe_fldA (pe_ix ix_list (pv 2) (pv 4) (fun _ _ => rfl))) (pa_cons (pv 0) pa_nil))))) (pw_or1 (pt_not (pt_val (pe_own c_law_is_number hr (by rfl) pass0 (pa_cons (pe_fldA (pe_ix ix_list (pv 3) (pv 4) (fun _ _ => rfl))) (pa_cons (pv 1) pa_nil))))))))
    (pss_one (ps_ret pe_bl))
    pss_nil)
    (pss_one (ps_if (pt_not (pt_val (pe_own c_law_alone hr (by rfl) pass0 (pa_cons (pe_ix ix_list (pv 2) (pv 4) (fun _ _ => rfl)) (pa_cons (pv 4) pa_nil)))))
    (pss_one (ps_ret pe_bl))
    pss_nil))))
    (pss_one (ps_ret pe_bl))))), ?_⟩
    have sA := Same.refl H
    walk_at "rd"
    intro a0 da0 na0 ma0 oa0
    obtain ⟨z, fa0⟩ := er_made (C := e8.c0) (fld := "at") (v := .int i) na0 ma0 oa0
    generalize upd (upd H da0 (.xd [(("at" : Str), .int i)])) a0 (ExD e8.c0 da0 a0) = H1 at *
    replace sA := sA.trans z
    clear z na0 ma0 oa0
    walk_at "rd"
    intro a1 da1 na1 ma1 oa1
    obtain ⟨z, fa1⟩ := er_made (C := e8.c1) (fld := "at") (v := .int i) na1 ma1 oa1
    generalize upd (upd H1 da1 (.xd [(("at" : Str), .int i)])) a1 (ExD e8.c1 da1 a1) = H2 at *
    replace fa0 := fa0.same z
    replace sA := sA.trans z
    clear z na1 ma1 oa1
    walk_at "rd"
    intro a2 da2 na2 ma2 oa2
    obtain ⟨z, fa2⟩ := er_made (C := e8.c2) (fld := "at") (v := .int i) na2 ma2 oa2
    generalize upd (upd H2 da2 (.xd [(("at" : Str), .int i)])) a2 (ExD e8.c2 da2 a2) = H3 at *
    replace fa0 := fa0.same z
    replace fa1 := fa1.same z
    replace sA := sA.trans z
    clear z na2 ma2 oa2
    walk_at "rd"
    intro a3 da3 na3 ma3 oa3
    obtain ⟨z, fa3⟩ := er_made (C := e8.c3) (fld := "at") (v := .int i) na3 ma3 oa3
    generalize upd (upd H3 da3 (.xd [(("at" : Str), .int i)])) a3 (ExD e8.c3 da3 a3) = H4 at *
    replace fa0 := fa0.same z
    replace fa1 := fa1.same z
    replace fa2 := fa2.same z
    replace sA := sA.trans z
    clear z na3 ma3 oa3
    walk_at "rd"
    intro l1 nl1
    have z := same_new nl1 (.lst [V.ref a0, V.ref a1, V.ref a2, V.ref a3])
    have gl1 : upd H4 l1 (.lst [V.ref a0, V.ref a1, V.ref a2, V.ref a3]) l1 = some (.lst [V.ref a0, V.ref a1, V.ref a2, V.ref a3]) := upd_same
    generalize upd H4 l1 (.lst [V.ref a0, V.ref a1, V.ref a2, V.ref a3]) = H5 at *
    replace fa0 := fa0.same z
    replace fa1 := fa1.same z
    replace fa2 := fa2.same z
    replace fa3 := fa3.same z
    replace sA := sA.trans z
    clear z nl1
    walk_at "rd"
    intro b0 db0 nb0 mb0 ob0
    obtain ⟨z, fb0⟩ := er_made (C := e8.c0) (fld := "at") (v := .int j) nb0 mb0 ob0
    generalize upd (upd H5 db0 (.xd [(("at" : Str), .int j)])) b0 (ExD e8.c0 db0 b0) = H6 at *
    replace fa0 := fa0.same z
    replace fa1 := fa1.same z
    replace fa2 := fa2.same z
    replace fa3 := fa3.same z
    replace gl1 := z _ _ gl1
    replace sA := sA.trans z
    clear z nb0 mb0 ob0
    walk_at "rd"
    intro b1 db1 nb1 mb1 ob1
    obtain ⟨z, fb1⟩ := er_made (C := e8.c1) (fld := "at") (v := .int j) nb1 mb1 ob1
    generalize upd (upd H6 db1 (.xd [(("at" : Str), .int j)])) b1 (ExD e8.c1 db1 b1) = H7 at *
    replace fa0 := fa0.same z
    replace fa1 := fa1.same z
    replace fa2 := fa2.same z
    replace fa3 := fa3.same z
    replace gl1 := z _ _ gl1
    replace fb0 := fb0.same z
    replace sA := sA.trans z
    clear z nb1 mb1 ob1
    walk_at "rd"
    intro b2 db2 nb2 mb2 ob2
    obtain ⟨z, fb2⟩ := er_made (C := e8.c2) (fld := "at") (v := .int j) nb2 mb2 ob2
    generalize upd (upd H7 db2 (.xd [(("at" : Str), .int j)])) b2 (ExD e8.c2 db2 b2) = H8 at *
    replace fa0 := fa0.same z
    replace fa1 := fa1.same z
    replace fa2 := fa2.same z
    replace fa3 := fa3.same z
    replace gl1 := z _ _ gl1
    replace fb0 := fb0.same z
    replace fb1 := fb1.same z
    replace sA := sA.trans z
    clear z nb2 mb2 ob2
    walk_at "rd"
    intro b3 db3 nb3 mb3 ob3
    obtain ⟨z, fb3⟩ := er_made (C := e8.c3) (fld := "at") (v := .int j) nb3 mb3 ob3
    generalize upd (upd H8 db3 (.xd [(("at" : Str), .int j)])) b3 (ExD e8.c3 db3 b3) = H9 at *
    replace fa0 := fa0.same z
    replace fa1 := fa1.same z
    replace fa2 := fa2.same z
    replace fa3 := fa3.same z
    replace gl1 := z _ _ gl1
    replace fb0 := fb0.same z
    replace fb1 := fb1.same z
    replace fb2 := fb2.same z
    replace sA := sA.trans z
    clear z nb3 mb3 ob3
    walk_at "rd"
    intro l2 nl2
    have z := same_new nl2 (.lst [V.ref b0, V.ref b1, V.ref b2, V.ref b3])
    have gl2 : upd H9 l2 (.lst [V.ref b0, V.ref b1, V.ref b2, V.ref b3]) l2 = some (.lst [V.ref b0, V.ref b1, V.ref b2, V.ref b3]) := upd_same
    generalize upd H9 l2 (.lst [V.ref b0, V.ref b1, V.ref b2, V.ref b3]) = H10 at *
    replace fa0 := fa0.same z
    replace fa1 := fa1.same z
    replace fa2 := fa2.same z
    replace fa3 := fa3.same z
    replace gl1 := z _ _ gl1
    replace fb0 := fb0.same z
    replace fb1 := fb1.same z
    replace fb2 := fb2.same z
    replace fb3 := fb3.same z
    replace sA := sA.trans z
    clear z nl2
    walk_at "rd"
    try (refine ⟨by decide, ?_⟩)
    refine for_range (lo := 0) (n := 4) (fun m σ G => (∃ v4 : Option V, σ = [some (.int i), some (.int j), some (.ref l1), some (.ref l2), v4]) ∧ Same H G ∧ G l1 = some (.lst [V.ref a0, V.ref a1, V.ref a2, V.ref a3]) ∧ G l2 = some (.lst [V.ref b0, V.ref b1, V.ref b2, V.ref b3]) ∧ ErAt G e8.c0 a0 "at" (.int i) ∧ ErAt G e8.c1 a1 "at" (.int i) ∧ ErAt G e8.c2 a2 "at" (.int i) ∧ ErAt G e8.c3 a3 "at" (.int i) ∧ ErAt G e8.c0 b0 "at" (.int j) ∧ ErAt G e8.c1 b1 "at" (.int j) ∧ ErAt G e8.c2 b2 "at" (.int j) ∧ ErAt G e8.c3 b3 "at" (.int j)) ⟨⟨_, by rfl⟩, sA, gl1, gl2, fa0, fa1, fa2, fa3, fb0, fb1, fb2, fb3⟩ ?_ ?_
    · clear sA gl1 gl2 fa0 fa1 fa2 fa3 fb0 fb1 fb2 fb3
      rintro m σ G hm ⟨⟨v4, rfl⟩, sA, gl1, gl2, fa0, fa1, fa2, fa3, fb0, fb1, fb2, fb3⟩
      rw [Int.zero_add]
      obtain ⟨x, y, ex, ey, fx, fy, fc⟩ : ∃ (x y : Addr), ([V.ref a0, V.ref a1, V.ref a2, V.ref a3] : List V)[m]? = some (.ref x) ∧ ([V.ref b0, V.ref b1, V.ref b2, V.ref b3] : List V)[m]? = some (.ref y) ∧ ErAt G (e8.at m) x "at" (.int i) ∧ ErAt G (e8.at m) y "at" (.int j) ∧ FldC K (e8.at m) "at" := by
        match m, hm with
        | 0, _ => exact ⟨a0, b0, rfl, rfl, fa0, fb0, FldC.of E_BadValue⟩
        | 1, _ => exact ⟨a1, b1, rfl, rfl, fa1, fb1, FldC.of E_BadText⟩
        | 2, _ => exact ⟨a2, b2, rfl, rfl, fa2, fb2, FldC.of E_BadPaper⟩
        | 3, _ => exact ⟨a3, b3, rfl, rfl, fa3, fb3, FldC.of E_BadLine⟩
      obtain ⟨dx, hx1, hx2⟩ := fx
      obtain ⟨dy, hy1, hy2⟩ := fy
      walk_at "rd"
      refine ⟨l1, _, (m : Int), _, by rfl, by rfl, .of gl1, atI_nat ex, ?_⟩
      walk_at "rd"
      refine ⟨x, _, dx, _, by rfl, fc, hx1, hx2, ?_⟩
      walk_at "rd"
      try (refine ⟨i, by rfl, ?_⟩)
      walk_at "rd"
      refine ⟨l2, _, (m : Int), _, by rfl, by rfl, .of gl2, atI_nat ey, ?_⟩
      walk_at "rd"
      refine ⟨y, _, dy, _, by rfl, fc, hy1, hy2, ?_⟩
      walk_at "rd"
      try (refine ⟨j, by rfl, ?_⟩)
      walk_at "rd"
      refine ⟨l1, _, (m : Int), _, by rfl, by rfl, .of gl1, atI_nat ex, ?_⟩
      walk_at "rd"
      refine ⟨x, dx, _, m, by rfl, by omega, ek m (by omega), hx1, hx2, fun G' z => ?_⟩
      have sA' := sA.trans z
      have gl1' := z _ _ gl1
      have gl2' := z _ _ gl2
      have fa0' := fa0.same z
      have fa1' := fa1.same z
      have fa2' := fa2.same z
      have fa3' := fa3.same z
      have fb0' := fb0.same z
      have fb1' := fb1.same z
      have fb2' := fb2.same z
      have fb3' := fb3.same z
      walk_at "rd"
      first
        | exact ⟨⟨_, by rfl⟩, sA', gl1', gl2', fa0', fa1', fa2', fa3', fb0', fb1', fb2', fb3'⟩
        | exact ⟨fa0', fa1', fa2', fa3', fb0', fb1', fb2', fb3'⟩
    · rintro σ G ⟨⟨v4, rfl⟩, sA, _⟩
      walk_at "rd"
      exact q _ sA

abbrev s_law_worded : Stmt := topS 20
theorem sc_law_worded : FnScope ["word", "other", "first", "second", "names", "others", "k"] ["word", "other"] (defScope s_law_worded) := ⟨rfl, rfl, rfl, by decide +kernel, rfl, by decide +kernel, by decide +kernel⟩
def spWord00 (K : PySem.W.Frag) : Sp := fun vs H Q _ => ∃ i j : Str, vs = [.str i, .str j] ∧ ∀ H', Same H H' → Q (.bl true) H'
theorem ok_word00 {f D0 I0 D1 I1 D2 I2 D3 I3 : Addr} {fd : FuncData} {k : Nat} {e8 : Er8} (F : Fun K "_law_worded" "_law_worded" s_law_worded f fd) (T : Txt mg) (E_Beyond : EWd "Beyond" "Beyond.__init__" K mg e8.c4 D0 I0) (E_NoRoom : EWd "NoRoom" "NoRoom.__init__" K mg e8.c5 D1 I1) (E_BadName : ENm "BadName" "BadName.__init__" K mg e8.c6 D2 I2) (E_NothingThere : ENm "NothingThere" "NothingThere.__init__" K mg e8.c7 D3 I3) (ek : ∀ n, n < 8 → ErK K e8 n) (c_law_is_text : Called P w K mg base CX0 "_law_is_text" k ["told", "due"] spIsTxt00) (c_law_alone : Called P w K mg base CX0 "_law_alone" k ["made", "kind"] (spAlone K e8)) : FnOk P w K mg base CX0 (k + 1) f fd ["word", "other"] (spWord00 K) := by
  refine F.ok sc_law_worded (fun vs H Q E h => ?_) (fun cdv A outer s H vs Q E hr h => ?_)
  · obtain ⟨i, j, rfl, _⟩ := h
    rfl
  · obtain ⟨i, j, rfl, q⟩ := h
    refine ⟨_, (pss_cons (ps_set (i := 2) sc_law_worded.nd rfl (Or.inl rfl) (pe_lst (pa_cons (pe_mkV PySem.Mve.made_word E_Beyond hr (pa_cons (pv 0) pa_nil)) (pa_cons (pe_mkV PySem.Mve.made_word E_NoRoom hr (pa_cons (pv 0) pa_nil)) pa_nil))))
    (pss_cons (ps_set (i := 3) sc_law_worded.nd rfl (Or.inl rfl) (pe_lst (pa_cons (pe_mkV PySem.Mve.made_word E_Beyond hr (pa_cons (pv 1) pa_nil)) (pa_cons (pe_mkV PySem.Mve.made_word E_NoRoom hr (pa_cons (pv 1) pa_nil)) pa_nil))))
    (pss_cons (ps_set (i := 4) sc_law_worded.nd rfl (Or.inl rfl) (pe_lst (pa_cons (pe_mkV PySem.Mve.made_name E_BadName hr (pa_cons (pv 0) pa_nil)) (pa_cons (pe_mkV PySem.Mve.made_name E_NothingThere hr (pa_cons (pv 0) pa_nil)) pa_nil))))
    (pss_cons (ps_set (i := 5) sc_law_worded.nd rfl (Or.inl rfl) (pe_lst (pa_cons (pe_mkV PySem.Mve.made_name E_BadName hr (pa_cons (pv 1) pa_nil)) (pa_cons (pe_mkV PySem.Mve.made_name E_NothingThere hr (pa_cons (pv 1) pa_nil)) pa_nil))))
    (pss_cons (ps_for PassesOwn.never rfl (pi_range1 (by rfl) T.n_range (pa_cons pe_int pa_nil)) (pg_name (i := 6) sc_law_worded.nd rfl (Or.inl rfl))
    (pss_cons (ps_if (PW.pt (pw_or (pt_not (pt_val (pe_own c_law_is_text hr (by rfl) pass0 (pa_cons (pe_fldA (pe_ix ix_n (pv 2) (pv 6) (fun _ _ => rfl))) (pa_cons (pv 0) pa_nil))))) (pw_or1 (pt_not (pt_val (pe_own c_law_is_text hr (by rfl) pass0 (pa_cons (pe_fldA (pe_ix ix_n (pv 3) (pv 6) (fun _ _ => rfl))) (pa_cons (pv 1) pa_nil))))))))
    (pss_one (ps_ret pe_bl))
    pss_nil)
    (pss_cons (ps_if (PW.pt (pw_or (pt_not (pt_val (pe_own c_law_is_text hr (by rfl) pass0 (pa_cons (pe_fldA (pe_ix ix_n (pv 4) (pv 6) (fun _ _ => rfl))) (pa_cons (pv 0) pa_nil))))) (pw_or1 (pt_not (pt_val (pe_own c_law_is_text hr (by rfl) pass0 (pa_cons (pe_fldA (pe_ix ix_n (pv 5) (pv 6) (fun _ _ => rfl))) (pa_cons (pv 1) pa_nil))))))))
    (pss_one (ps_ret pe_bl))
    pss_nil)
    (pss_one (ps_if (PW.pt (pw_or (pt_not (pt_val (pe_own c_law_alone hr (by rfl) pass0 (pa_cons (pe_ix ix_n (pv 2) (pv 6) (fun _ _ => rfl)) (pa_cons (pe_op nop_add pe_int (pv 6)) pa_nil))))) (pw_or1 (pt_not (pt_val (pe_own c_law_alone hr (by rfl) pass0 (pa_cons (pe_ix ix_n (pv 4) (pv 6) (fun _ _ => rfl)) (pa_cons (pe_op nop_add pe_int (pv 6)) pa_nil))))))))
    (pss_one (ps_ret pe_bl))
    pss_nil)))))
    (pss_one (ps_ret pe_bl))))))), ?_⟩
    have sA := Same.refl H
    walk_at "rd"
    intro a0 da0 na0 ma0 oa0
    obtain ⟨z, fa0⟩ := er_made (C := e8.c4) (fld := "word") (v := .str i) na0 ma0 oa0
    generalize upd (upd H da0 (.xd [(("word" : Str), .str i)])) a0 (ExD e8.c4 da0 a0) = H1 at *
    replace sA := sA.trans z
    clear z na0 ma0 oa0
    walk_at "rd"
    intro a1 da1 na1 ma1 oa1
    obtain ⟨z, fa1⟩ := er_made (C := e8.c5) (fld := "word") (v := .str i) na1 ma1 oa1
    generalize upd (upd H1 da1 (.xd [(("word" : Str), .str i)])) a1 (ExD e8.c5 da1 a1) = H2 at *
    replace fa0 := fa0.same z
    replace sA := sA.trans z
    clear z na1 ma1 oa1
    walk_at "rd"
    intro l1 nl1
    have z := same_new nl1 (.lst [V.ref a0, V.ref a1])
    have gl1 : upd H2 l1 (.lst [V.ref a0, V.ref a1]) l1 = some (.lst [V.ref a0, V.ref a1]) := upd_same
    generalize upd H2 l1 (.lst [V.ref a0, V.ref a1]) = H3 at *
    replace fa0 := fa0.same z
    replace fa1 := fa1.same z
    replace sA := sA.trans z
    clear z nl1
    walk_at "rd"
    intro b0 db0 nb0 mb0 ob0
    obtain ⟨z, fb0⟩ := er_made (C := e8.c4) (fld := "word") (v := .str j) nb0 mb0 ob0
    generalize upd (upd H3 db0 (.xd [(("word" : Str), .str j)])) b0 (ExD e8.c4 db0 b0) = H4 at *
    replace fa0 := fa0.same z
    replace fa1 := fa1.same z
    replace gl1 := z _ _ gl1
    replace sA := sA.trans z
    clear z nb0 mb0 ob0
    walk_at "rd"
    intro b1 db1 nb1 mb1 ob1
    obtain ⟨z, fb1⟩ := er_made (C := e8.c5) (fld := "word") (v := .str j) nb1 mb1 ob1
    generalize upd (upd H4 db1 (.xd [(("word" : Str), .str j)])) b1 (ExD e8.c5 db1 b1) = H5 at *
    replace fa0 := fa0.same z
    replace fa1 := fa1.same z
    replace gl1 := z _ _ gl1
    replace fb0 := fb0.same z
    replace sA := sA.trans z
    clear z nb1 mb1 ob1
    walk_at "rd"
    intro l2 nl2
    have z := same_new nl2 (.lst [V.ref b0, V.ref b1])
    have gl2 : upd H5 l2 (.lst [V.ref b0, V.ref b1]) l2 = some (.lst [V.ref b0, V.ref b1]) := upd_same
    generalize upd H5 l2 (.lst [V.ref b0, V.ref b1]) = H6 at *
    replace fa0 := fa0.same z
    replace fa1 := fa1.same z
    replace gl1 := z _ _ gl1
    replace fb0 := fb0.same z
    replace fb1 := fb1.same z
    replace sA := sA.trans z
    clear z nl2
    walk_at "rd"
    intro x0 dx0 nx0 mx0 ox0
    obtain ⟨z, fx0⟩ := er_made (C := e8.c6) (fld := "name") (v := .str i) nx0 mx0 ox0
    generalize upd (upd H6 dx0 (.xd [(("name" : Str), .str i)])) x0 (ExD e8.c6 dx0 x0) = H7 at *
    replace fa0 := fa0.same z
    replace fa1 := fa1.same z
    replace gl1 := z _ _ gl1
    replace fb0 := fb0.same z
    replace fb1 := fb1.same z
    replace gl2 := z _ _ gl2
    replace sA := sA.trans z
    clear z nx0 mx0 ox0
    walk_at "rd"
    intro x1 dx1 nx1 mx1 ox1
    obtain ⟨z, fx1⟩ := er_made (C := e8.c7) (fld := "name") (v := .str i) nx1 mx1 ox1
    generalize upd (upd H7 dx1 (.xd [(("name" : Str), .str i)])) x1 (ExD e8.c7 dx1 x1) = H8 at *
    replace fa0 := fa0.same z
    replace fa1 := fa1.same z
    replace gl1 := z _ _ gl1
    replace fb0 := fb0.same z
    replace fb1 := fb1.same z
    replace gl2 := z _ _ gl2
    replace fx0 := fx0.same z
    replace sA := sA.trans z
    clear z nx1 mx1 ox1
    walk_at "rd"
    intro l3 nl3
    have z := same_new nl3 (.lst [V.ref x0, V.ref x1])
    have gl3 : upd H8 l3 (.lst [V.ref x0, V.ref x1]) l3 = some (.lst [V.ref x0, V.ref x1]) := upd_same
    generalize upd H8 l3 (.lst [V.ref x0, V.ref x1]) = H9 at *
    replace fa0 := fa0.same z
    replace fa1 := fa1.same z
    replace gl1 := z _ _ gl1
    replace fb0 := fb0.same z
    replace fb1 := fb1.same z
    replace gl2 := z _ _ gl2
    replace fx0 := fx0.same z
    replace fx1 := fx1.same z
    replace sA := sA.trans z
    clear z nl3
    walk_at "rd"
    intro y0 dy0 ny0 my0 oy0
    obtain ⟨z, fy0⟩ := er_made (C := e8.c6) (fld := "name") (v := .str j) ny0 my0 oy0
    generalize upd (upd H9 dy0 (.xd [(("name" : Str), .str j)])) y0 (ExD e8.c6 dy0 y0) = H10 at *
    replace fa0 := fa0.same z
    replace fa1 := fa1.same z
    replace gl1 := z _ _ gl1
    replace fb0 := fb0.same z
    replace fb1 := fb1.same z
    replace gl2 := z _ _ gl2
    replace fx0 := fx0.same z
    replace fx1 := fx1.same z
    replace gl3 := z _ _ gl3
    replace sA := sA.trans z
    clear z ny0 my0 oy0
    walk_at "rd"
    intro y1 dy1 ny1 my1 oy1
    obtain ⟨z, fy1⟩ := er_made (C := e8.c7) (fld := "name") (v := .str j) ny1 my1 oy1
    generalize upd (upd H10 dy1 (.xd [(("name" : Str), .str j)])) y1 (ExD e8.c7 dy1 y1) = H11 at *
    replace fa0 := fa0.same z
    replace fa1 := fa1.same z
    replace gl1 := z _ _ gl1
    replace fb0 := fb0.same z
    replace fb1 := fb1.same z
    replace gl2 := z _ _ gl2
    replace fx0 := fx0.same z
    replace fx1 := fx1.same z
    replace gl3 := z _ _ gl3
    replace fy0 := fy0.same z
    replace sA := sA.trans z
    clear z ny1 my1 oy1
    walk_at "rd"
    intro l4 nl4
    have z := same_new nl4 (.lst [V.ref y0, V.ref y1])
    have gl4 : upd H11 l4 (.lst [V.ref y0, V.ref y1]) l4 = some (.lst [V.ref y0, V.ref y1]) := upd_same
    generalize upd H11 l4 (.lst [V.ref y0, V.ref y1]) = H12 at *
    replace fa0 := fa0.same z
    replace fa1 := fa1.same z
    replace gl1 := z _ _ gl1
    replace fb0 := fb0.same z
    replace fb1 := fb1.same z
    replace gl2 := z _ _ gl2
    replace fx0 := fx0.same z
    replace fx1 := fx1.same z
    replace gl3 := z _ _ gl3
    replace fy0 := fy0.same z
    replace fy1 := fy1.same z
    replace sA := sA.trans z
    clear z nl4
    walk_at "rd"
    try (refine ⟨by decide, ?_⟩)
    refine for_range (lo := 0) (n := 2) (fun m σ G => (∃ v6 : Option V, σ = [some (.str i), some (.str j), some (.ref l1), some (.ref l2), some (.ref l3), some (.ref l4), v6]) ∧ Same H G ∧ G l1 = some (.lst [V.ref a0, V.ref a1]) ∧ G l2 = some (.lst [V.ref b0, V.ref b1]) ∧ G l3 = some (.lst [V.ref x0, V.ref x1]) ∧ G l4 = some (.lst [V.ref y0, V.ref y1]) ∧ ErAt G e8.c4 a0 "word" (.str i) ∧ ErAt G e8.c5 a1 "word" (.str i) ∧ ErAt G e8.c4 b0 "word" (.str j) ∧ ErAt G e8.c5 b1 "word" (.str j) ∧ ErAt G e8.c6 x0 "name" (.str i) ∧ ErAt G e8.c7 x1 "name" (.str i) ∧ ErAt G e8.c6 y0 "name" (.str j) ∧ ErAt G e8.c7 y1 "name" (.str j)) ⟨⟨_, by rfl⟩, sA, gl1, gl2, gl3, gl4, fa0, fa1, fb0, fb1, fx0, fx1, fy0, fy1⟩ ?_ ?_
    · clear sA gl1 gl2 gl3 gl4 fa0 fa1 fb0 fb1 fx0 fx1 fy0 fy1
      rintro m σ G hm ⟨⟨v6, rfl⟩, sA, gl1, gl2, gl3, gl4, fa0, fa1, fb0, fb1, fx0, fx1, fy0, fy1⟩
      rw [Int.zero_add]
      obtain ⟨p, ep, fp, cp⟩ : ∃ p : Addr, ([V.ref a0, V.ref a1] : List V)[m]? = some (.ref p) ∧ ErAt G (e8.at (4 + m)) p "word" (.str i) ∧ FldC K (e8.at (4 + m)) "word" := by
        match m, hm with
        | 0, _ => exact ⟨a0, rfl, fa0, FldC.of E_Beyond⟩
        | 1, _ => exact ⟨a1, rfl, fa1, FldC.of E_NoRoom⟩
      obtain ⟨dp, hp1, hp2⟩ := fp
      obtain ⟨q, eq, fq, cq⟩ : ∃ q : Addr, ([V.ref b0, V.ref b1] : List V)[m]? = some (.ref q) ∧ ErAt G (e8.at (4 + m)) q "word" (.str j) ∧ FldC K (e8.at (4 + m)) "word" := by
        match m, hm with
        | 0, _ => exact ⟨b0, rfl, fb0, FldC.of E_Beyond⟩
        | 1, _ => exact ⟨b1, rfl, fb1, FldC.of E_NoRoom⟩
      obtain ⟨dq, hq1, hq2⟩ := fq
      obtain ⟨r, er, fr, cr⟩ : ∃ r : Addr, ([V.ref x0, V.ref x1] : List V)[m]? = some (.ref r) ∧ ErAt G (e8.at (6 + m)) r "name" (.str i) ∧ FldC K (e8.at (6 + m)) "name" := by
        match m, hm with
        | 0, _ => exact ⟨x0, rfl, fx0, FldC.of E_BadName⟩
        | 1, _ => exact ⟨x1, rfl, fx1, FldC.of E_NothingThere⟩
      obtain ⟨dr, hr1, hr2⟩ := fr
      obtain ⟨s, es, fs, cs⟩ : ∃ s : Addr, ([V.ref y0, V.ref y1] : List V)[m]? = some (.ref s) ∧ ErAt G (e8.at (6 + m)) s "name" (.str j) ∧ FldC K (e8.at (6 + m)) "name" := by
        match m, hm with
        | 0, _ => exact ⟨y0, rfl, fy0, FldC.of E_BadName⟩
        | 1, _ => exact ⟨y1, rfl, fy1, FldC.of E_NothingThere⟩
      obtain ⟨ds, hs1, hs2⟩ := fs
      walk_at "rd"
      refine ⟨l1, _, m, _, by rfl, by rfl, .inl (.of gl1), ep, ?_⟩
      walk_at "rd"
      refine ⟨p, _, dp, _, by rfl, cp, hp1, hp2, ?_⟩
      walk_at "rd"
      try (refine ⟨i, by rfl, ?_⟩)
      walk_at "rd"
      refine ⟨l2, _, m, _, by rfl, by rfl, .inl (.of gl2), eq, ?_⟩
      walk_at "rd"
      refine ⟨q, _, dq, _, by rfl, cq, hq1, hq2, ?_⟩
      walk_at "rd"
      try (refine ⟨j, by rfl, ?_⟩)
      walk_at "rd"
      refine ⟨l3, _, m, _, by rfl, by rfl, .inl (.of gl3), er, ?_⟩
      walk_at "rd"
      refine ⟨r, _, dr, _, by rfl, cr, hr1, hr2, ?_⟩
      walk_at "rd"
      try (refine ⟨i, by rfl, ?_⟩)
      walk_at "rd"
      refine ⟨l4, _, m, _, by rfl, by rfl, .inl (.of gl4), es, ?_⟩
      walk_at "rd"
      refine ⟨s, _, ds, _, by rfl, cs, hs1, hs2, ?_⟩
      walk_at "rd"
      try (refine ⟨j, by rfl, ?_⟩)
      walk_at "rd"
      refine ⟨l1, _, m, _, by rfl, by rfl, .inl (.of gl1), ep, ?_⟩
      walk_at "rd"
      refine ⟨p, dp, _, 4 + m, by rfl, by omega, ek (4 + m) (by omega), hp1, hp2, fun Gp z => ?_⟩
      replace gl1 := z _ _ gl1
      replace gl2 := z _ _ gl2
      replace gl3 := z _ _ gl3
      replace gl4 := z _ _ gl4
      replace fa0 := fa0.same z
      replace fa1 := fa1.same z
      replace fb0 := fb0.same z
      replace fb1 := fb1.same z
      replace fx0 := fx0.same z
      replace fx1 := fx1.same z
      replace fy0 := fy0.same z
      replace fy1 := fy1.same z
      replace sA := sA.trans z
      replace hr1 := z _ _ hr1
      replace hr2 := z _ _ hr2
      clear z
      walk_at "rd"
      refine ⟨l3, _, m, _, by rfl, by rfl, .inl (.of gl3), er, ?_⟩
      walk_at "rd"
      refine ⟨r, dr, _, 6 + m, by rfl, by omega, ek (6 + m) (by omega), hr1, hr2, fun Gr z => ?_⟩
      replace gl1 := z _ _ gl1
      replace gl2 := z _ _ gl2
      replace gl3 := z _ _ gl3
      replace gl4 := z _ _ gl4
      replace fa0 := fa0.same z
      replace fa1 := fa1.same z
      replace fb0 := fb0.same z
      replace fb1 := fb1.same z
      replace fx0 := fx0.same z
      replace fx1 := fx1.same z
      replace fy0 := fy0.same z
      replace fy1 := fy1.same z
      replace sA := sA.trans z
      walk_at "rd"
      first
        | exact ⟨⟨_, by rfl⟩, sA, gl1, gl2, gl3, gl4, fa0, fa1, fb0, fb1, fx0, fx1, fy0, fy1⟩
        | exact ⟨fa0, fa1, fb0, fb1, fx0, fx1, fy0, fy1⟩
    · rintro σ G ⟨⟨v6, rfl⟩, sA, _⟩
      walk_at "rd"
      exact q _ sA

abbrev s_law_raise : Stmt := topS 21
theorem sc_law_raise : FnScope ["kind", "at", "word"] ["kind", "at", "word"] (defScope s_law_raise) := ⟨rfl, rfl, rfl, by decide +kernel, rfl, by decide +kernel, by decide +kernel⟩
def erF (i : Int) (w : Str) : Nat → Str × V
  | 0 => ("at", .int i) | 1 => ("at", .int i) | 2 => ("at", .int i) | 3 => ("at", .int i) | 4 => ("word", .str w) | 5 => ("word", .str w) | 6 => ("name", .str w) | _ => ("name", .str w)
def spRaise00 (e8 : Er8) : Sp := fun vs H _ E => ∃ (n : Nat) (i : Int) (w : Str), vs = [.int (n : Int), .int i, .str w] ∧ n < 8 ∧ ∀ d, H d = none → E (.ref (e8.at n)) (some d) (upd H d (.xd [erF i w n]))
theorem ok_raise00 {f D0 I0 D1 I1 D2 I2 D3 I3 D4 I4 D5 I5 D6 I6 D7 I7 : Addr} {fd : FuncData} {k : Nat} {e8 : Er8} (F : Fun K "_law_raise" "_law_raise" s_law_raise f fd) (T : Txt mg) (E_BadValue : EAt "BadValue" "BadValue.__init__" K mg e8.c0 D0 I0) (E_BadText : EAt "BadText" "BadText.__init__" K mg e8.c1 D1 I1) (E_BadPaper : EAt "BadPaper" "BadPaper.__init__" K mg e8.c2 D2 I2) (E_BadLine : EAt "BadLine" "BadLine.__init__" K mg e8.c3 D3 I3) (E_Beyond : EWd "Beyond" "Beyond.__init__" K mg e8.c4 D4 I4) (E_NoRoom : EWd "NoRoom" "NoRoom.__init__" K mg e8.c5 D5 I5) (E_BadName : ENm "BadName" "BadName.__init__" K mg e8.c6 D6 I6) (E_NothingThere : ENm "NothingThere" "NothingThere.__init__" K mg e8.c7 D7 I7) : FnOk P w K mg base (L2.CX P w) (k + 1) f fd ["kind", "at", "word"] (spRaise00 e8) := by
  refine F.okX sc_law_raise (fun vs H Q E h => ?_) (fun cdv A outer s H vs Q E hr h => ?_)
  · obtain ⟨n, i, w, rfl, _⟩ := h
    rfl
  · obtain ⟨n, i, w, rfl, n8, q⟩ := h
    refine ⟨_, (pss_cons (ps_if (pt_cmpR nop_eq (pv 0) pe_int (nomark _))
    (pss_one (ps_raiseE PySem.Mve.made_at E_BadValue rfl hr (takes_of rfl rfl rfl rfl) (by exact (pa_cons (pv 1) pa_nil))))
    pss_nil)
    (pss_cons (ps_if (pt_cmpR nop_eq (pv 0) pe_int (nomark _))
    (pss_one (ps_raiseE PySem.Mve.made_at E_BadText rfl hr (takes_of rfl rfl rfl rfl) (by exact (pa_cons (pv 1) pa_nil))))
    pss_nil)
    (pss_cons (ps_if (pt_cmpR nop_eq (pv 0) pe_int (nomark _))
    (pss_one (ps_raiseE PySem.Mve.made_at E_BadPaper rfl hr (takes_of rfl rfl rfl rfl) (by exact (pa_cons (pv 1) pa_nil))))
    pss_nil)
    (pss_cons (ps_if (pt_cmpR nop_eq (pv 0) pe_int (nomark _))
    (pss_one (ps_raiseE PySem.Mve.made_at E_BadLine rfl hr (takes_of rfl rfl rfl rfl) (by exact (pa_cons (pv 1) pa_nil))))
    pss_nil)
    (pss_cons (ps_if (pt_cmpR nop_eq (pv 0) pe_int (nomark _))
    (pss_one (ps_raiseE PySem.Mve.made_word E_Beyond rfl hr (takes_of rfl rfl rfl rfl) (by exact (pa_cons (pv 2) pa_nil))))
    pss_nil)
    (pss_cons (ps_if (pt_cmpR nop_eq (pv 0) pe_int (nomark _))
    (pss_one (ps_raiseE PySem.Mve.made_word E_NoRoom rfl hr (takes_of rfl rfl rfl rfl) (by exact (pa_cons (pv 2) pa_nil))))
    pss_nil)
    (pss_cons (ps_if (pt_cmpR nop_eq (pv 0) pe_int (nomark _))
    (pss_one (ps_raiseE PySem.Mve.made_name E_BadName rfl hr (takes_of rfl rfl rfl rfl) (by exact (pa_cons (pv 2) pa_nil))))
    pss_nil)
    (pss_one (ps_raiseE PySem.Mve.made_name E_NothingThere rfl hr (takes_of rfl rfl rfl rfl) (by exact (pa_cons (pv 2) pa_nil))))))))))), ?_⟩
    match n, n8 with
    | 0, _ =>
      walk_at "rd"
      exact fun d nd => q d nd
    | 1, _ =>
      walk_at "rd"
      exact fun d nd => q d nd
    | 2, _ =>
      walk_at "rd"
      exact fun d nd => q d nd
    | 3, _ =>
      walk_at "rd"
      exact fun d nd => q d nd
    | 4, _ =>
      walk_at "rd"
      exact fun d nd => q d nd
    | 5, _ =>
      walk_at "rd"
      exact fun d nd => q d nd
    | 6, _ =>
      walk_at "rd"
      exact fun d nd => q d nd
    | 7, _ =>
      walk_at "rd"
      exact fun d nd => q d nd
abbrev s_law_beneath : Stmt := topS 23
theorem sc_law_beneath : FnScope ["kind", "at", "word"] ["kind", "at", "word"] (defScope s_law_beneath) := ⟨rfl, rfl, rfl, by decide +kernel, rfl, by decide +kernel, by decide +kernel⟩
def spBen00 : Sp := fun vs H Q _ => ∃ (n : Nat) (i : Int) (w : Str), vs = [.int (n : Int), .int i, .str w] ∧ n < 8 ∧ ∀ H', Same H H' → Q (.bl true) H'
theorem ok_ben00 {f : Addr} {fd : FuncData} {k : Nat} {e8 : Er8} (F : Fun K "_law_beneath" "_law_beneath" s_law_beneath f fd) (T : Txt mg) (m_VaultError : mg "VaultError" = some (.ref e8.v)) (em : ∀ n, n < 8 → PySem.W.exmOne K (.ref (e8.at n)) (.ref e8.v) = some true) (c_law_raise : Called P w K mg base (L2.CX P w) "_law_raise" k ["kind", "at", "word"] (spRaise00 e8)) : FnOk P w K mg base CX0 (k + 1) f fd ["kind", "at", "word"] spBen00 := by
  refine F.ok sc_law_beneath (fun vs H Q E h => ?_) (fun cdv A outer s H vs Q E hr h => ?_)
  · obtain ⟨n, i, w, rfl, _⟩ := h
    rfl
  · obtain ⟨n, i, w, rfl, n8, q⟩ := h
    refine ⟨_, (pss_cons (ps_try_only rfl rfl ⟨rfl, by decide, Or.inl m_VaultError⟩ takes0 (fun W pn xe tk _ => (pss_one (ps_expr (pe_ownS c_law_raise hr (by rfl) (fun σ => passAt tk σ) (pa_cons (pv 0) (pa_cons (pv 1) (pa_cons (pv 2) pa_nil)))))))
    (fun ae oe cls d pn hz hf => (pss_one (ps_ret pe_bl))))
    (pss_one (ps_ret pe_bl))), ?_⟩
    walk_at "rd"
    intro d nd
    refine ⟨true, em n n8, fun _ a0 _ => ?_, fun q => Bool.noConfusion q⟩
    walk_at "rd"
    exact q _ (same_new nd _)

theorem ok_isnumH {f : Addr} {fd : FuncData} {k : Nat} (F : Fun K "_law_is_number" "_law_is_number" s_law_is_number f fd) (T : Txt mg) : L2H.FnH P w K mg base CX0 (k + 1) f fd ["told", "due"] spIsNum00 := by
  refine F.okH sc_law_is_number (fun vs H Q E h => ?_) (fun cdv A outer s H vs Q E p hot hr h => ?_)
  · obtain ⟨i, rfl, _⟩ := h
    rfl
  · obtain ⟨i, rfl, q⟩ := h
    refine ⟨_, (pss_one (ps_ret (pe_and (pe_callB call_isi (by rfl) T.n_isinstance (by decide +kernel) (pa_cons (pv 0) (pa_cons (pe_bltn (v := .ty "int") (u := .type "int") (by rfl) T.n_int (by decide +kernel) rfl) pa_nil))) (pe_and (pe_not (pe_callB call_isi (by rfl) T.n_isinstance (by decide +kernel) (pa_cons (pv 0) (pa_cons (pe_bltn (v := .ty "bool") (u := .type "bool") (by rfl) T.n_bool (by decide +kernel) rfl) pa_nil)))) (pe_one (pe_cmpR op_eq (pv 0) (pv 1) (nomark _))))))), ?_⟩
    walk_at "rd"
    refine ⟨_, _, _, _, true, by rfl, .ty _, ty_int, kit_ty (by decide +kernel), ?_⟩
    walk_at "rd"
    refine ⟨_, _, _, _, false, by rfl, .ty _, ty_int, kit_ty (by decide +kernel), ?_⟩
    walk_at "rd"
    show Q (V.bl (decide (V.int i = V.int i))) _
    rw [decide_eq_true rfl]
    exact q
theorem ok_istxtH {f : Addr} {fd : FuncData} {k : Nat} (F : Fun K "_law_is_text" "_law_is_text" s_law_is_text f fd) (T : Txt mg) : L2H.FnH P w K mg base CX0 (k + 1) f fd ["told", "due"] spIsTxt00 := by
  refine F.okH sc_law_is_text (fun vs H Q E h => ?_) (fun cdv A outer s H vs Q E p hot hr h => ?_)
  · obtain ⟨z, rfl, _⟩ := h
    rfl
  · obtain ⟨z, rfl, q⟩ := h
    refine ⟨_, (pss_one (ps_ret (pe_and (pe_callB call_isi (by rfl) T.n_isinstance (by decide +kernel) (pa_cons (pv 0) (pa_cons (pe_bltn (v := .ty "str") (u := .type "str") (by rfl) T.n_str (by decide +kernel) rfl) pa_nil))) (pe_one (pe_cmpR op_eq (pv 0) (pv 1) (nomark _)))))), ?_⟩
    walk_at "rd"
    refine ⟨_, _, _, _, true, by rfl, .ty _, ty_str, kit_ty (by decide +kernel), ?_⟩
    walk_at "rd"
    show Q (V.bl (decide (V.str z = V.str z))) _
    rw [decide_eq_true rfl]
    exact q
theorem ok_raise00N {f D0 I0 D1 I1 D2 I2 D3 I3 D4 I4 D5 I5 D6 I6 D7 I7 : Addr} {fd : FuncData} {k : Nat} {e8 : Er8} (F : Fun K "_law_raise" "_law_raise" s_law_raise f fd) (T : Txt mg) (E_BadValue : EAt "BadValue" "BadValue.__init__" K mg e8.c0 D0 I0) (E_BadText : EAt "BadText" "BadText.__init__" K mg e8.c1 D1 I1) (E_BadPaper : EAt "BadPaper" "BadPaper.__init__" K mg e8.c2 D2 I2) (E_BadLine : EAt "BadLine" "BadLine.__init__" K mg e8.c3 D3 I3) (E_Beyond : EWd "Beyond" "Beyond.__init__" K mg e8.c4 D4 I4) (E_NoRoom : EWd "NoRoom" "NoRoom.__init__" K mg e8.c5 D5 I5) (E_BadName : ENm "BadName" "BadName.__init__" K mg e8.c6 D6 I6) (E_NothingThere : ENm "NothingThere" "NothingThere.__init__" K mg e8.c7 D7 I7) : FnOk P w K mg base (L2N.CX P w) (k + 1) f fd ["kind", "at", "word"] (spRaise00 e8) := by
  refine F.okN sc_law_raise (fun vs H Q E h => ?_) (fun cdv A outer s H vs Q E hr h => ?_)
  · obtain ⟨n, i, w, rfl, _⟩ := h
    rfl
  · obtain ⟨n, i, w, rfl, n8, q⟩ := h
    refine ⟨_, (pss_cons (ps_if (pt_cmpR nop_eq (pv 0) pe_int (nomark _))
    (pss_one (ps_raiseEN PySem.Mve.made_at E_BadValue rfl hr (L2N.takes_of rfl rfl rfl rfl) (by exact (pa_cons (pv 1) pa_nil))))
    pss_nil)
    (pss_cons (ps_if (pt_cmpR nop_eq (pv 0) pe_int (nomark _))
    (pss_one (ps_raiseEN PySem.Mve.made_at E_BadText rfl hr (L2N.takes_of rfl rfl rfl rfl) (by exact (pa_cons (pv 1) pa_nil))))
    pss_nil)
    (pss_cons (ps_if (pt_cmpR nop_eq (pv 0) pe_int (nomark _))
    (pss_one (ps_raiseEN PySem.Mve.made_at E_BadPaper rfl hr (L2N.takes_of rfl rfl rfl rfl) (by exact (pa_cons (pv 1) pa_nil))))
    pss_nil)
    (pss_cons (ps_if (pt_cmpR nop_eq (pv 0) pe_int (nomark _))
    (pss_one (ps_raiseEN PySem.Mve.made_at E_BadLine rfl hr (L2N.takes_of rfl rfl rfl rfl) (by exact (pa_cons (pv 1) pa_nil))))
    pss_nil)
    (pss_cons (ps_if (pt_cmpR nop_eq (pv 0) pe_int (nomark _))
    (pss_one (ps_raiseEN PySem.Mve.made_word E_Beyond rfl hr (L2N.takes_of rfl rfl rfl rfl) (by exact (pa_cons (pv 2) pa_nil))))
    pss_nil)
    (pss_cons (ps_if (pt_cmpR nop_eq (pv 0) pe_int (nomark _))
    (pss_one (ps_raiseEN PySem.Mve.made_word E_NoRoom rfl hr (L2N.takes_of rfl rfl rfl rfl) (by exact (pa_cons (pv 2) pa_nil))))
    pss_nil)
    (pss_cons (ps_if (pt_cmpR nop_eq (pv 0) pe_int (nomark _))
    (pss_one (ps_raiseEN PySem.Mve.made_name E_BadName rfl hr (L2N.takes_of rfl rfl rfl rfl) (by exact (pa_cons (pv 2) pa_nil))))
    pss_nil)
    (pss_one (ps_raiseEN PySem.Mve.made_name E_NothingThere rfl hr (L2N.takes_of rfl rfl rfl rfl) (by exact (pa_cons (pv 2) pa_nil))))))))))), ?_⟩
    match n, n8 with
    | 0, _ =>
      walk_at "rd"
      exact fun d nd => q d nd
    | 1, _ =>
      walk_at "rd"
      exact fun d nd => q d nd
    | 2, _ =>
      walk_at "rd"
      exact fun d nd => q d nd
    | 3, _ =>
      walk_at "rd"
      exact fun d nd => q d nd
    | 4, _ =>
      walk_at "rd"
      exact fun d nd => q d nd
    | 5, _ =>
      walk_at "rd"
      exact fun d nd => q d nd
    | 6, _ =>
      walk_at "rd"
      exact fun d nd => q d nd
    | 7, _ =>
      walk_at "rd"
      exact fun d nd => q d nd

abbrev s_law_caught : Stmt := topS 22
theorem sc_law_caught : FnScope ["kind", "at", "word", "e"] ["kind", "at", "word"] (defScope s_law_caught) := ⟨rfl, rfl, rfl, by decide +kernel, rfl, by decide +kernel, by decide +kernel⟩
theorem ok_caught00 {f D0 I0 D1 I1 D2 I2 D3 I3 D4 I4 D5 I5 D6 I6 D7 I7 : Addr} {fd : FuncData} {k : Nat} {e8 : Er8} (F : Fun K "_law_caught" "_law_caught" s_law_caught f fd) (T : Txt mg) (E_BadValue : EAt "BadValue" "BadValue.__init__" K mg e8.c0 D0 I0) (E_BadText : EAt "BadText" "BadText.__init__" K mg e8.c1 D1 I1) (E_BadPaper : EAt "BadPaper" "BadPaper.__init__" K mg e8.c2 D2 I2) (E_BadLine : EAt "BadLine" "BadLine.__init__" K mg e8.c3 D3 I3) (E_Beyond : EWd "Beyond" "Beyond.__init__" K mg e8.c4 D4 I4) (E_NoRoom : EWd "NoRoom" "NoRoom.__init__" K mg e8.c5 D5 I5) (E_BadName : ENm "BadName" "BadName.__init__" K mg e8.c6 D6 I6) (E_NothingThere : ENm "NothingThere" "NothingThere.__init__" K mg e8.c7 D7 I7) (ex : ∀ n j, n < 8 → j < 8 → PySem.W.exmOne K (.ref (e8.at n)) (.ref (e8.at j)) = some (decide (j = n))) (c_law_raise : Called P w K mg base (L2N.CX P w) "_law_raise" k ["kind", "at", "word"] (spRaise00 e8)) (c_law_is_numberH : CalledH P w K mg base "_law_is_number" k ["told", "due"] spIsNum00) (c_law_is_textH : CalledH P w K mg base "_law_is_text" k ["told", "due"] spIsTxt00) : FnOk P w K mg base CX0 (k + 1) f fd ["kind", "at", "word"] spBen00 := by
  refine F.ok sc_law_caught (fun vs H Q E h => ?_) (fun cdv A outer s H vs Q E hr h => ?_)
  · obtain ⟨n, i, w, rfl, _⟩ := h
    rfl
  · obtain ⟨n, i, w, rfl, n8, q⟩ := h
    refine ⟨_, (pss_cons (ps_tryN (i := 3) rfl rfl sc_law_caught.nd rfl rfl (fun W pn xe tk _ => (pss_one (ps_expr (pe_ownS c_law_raise hr (by rfl) (fun σ => L2N.passAt tk σ) (pa_cons (pv 0) (pa_cons (pv 1) (pa_cons (pv 2) pa_nil)))))))
    (Cls8.cons ⟨rfl, by decide, Or.inl E_NothingThere.gC⟩ (fun ae oe cls d pn hz hf => (pss_one (ps_ret (pe_and (pe_cmpR nop_eq (pv 0) pe_int (nomark _)) (pe_one (pe_ownH c_law_is_textH ⟨hr.dp, hr.un⟩ (hot_suite hz hf) (by rfl) (pa_cons (pe_byE E_NothingThere hz.zc hf (pv 3)) (pa_cons (pv 2) pa_nil))))))))
    (Cls8.cons ⟨rfl, by decide, Or.inl E_BadName.gC⟩ (fun ae oe cls d pn hz hf => (pss_one (ps_ret (pe_and (pe_cmpR nop_eq (pv 0) pe_int (nomark _)) (pe_one (pe_ownH c_law_is_textH ⟨hr.dp, hr.un⟩ (hot_suite hz hf) (by rfl) (pa_cons (pe_byE E_BadName hz.zc hf (pv 3)) (pa_cons (pv 2) pa_nil))))))))
    (Cls8.cons ⟨rfl, by decide, Or.inl E_NoRoom.gC⟩ (fun ae oe cls d pn hz hf => (pss_one (ps_ret (pe_and (pe_cmpR nop_eq (pv 0) pe_int (nomark _)) (pe_one (pe_ownH c_law_is_textH ⟨hr.dp, hr.un⟩ (hot_suite hz hf) (by rfl) (pa_cons (pe_byE E_NoRoom hz.zc hf (pv 3)) (pa_cons (pv 2) pa_nil))))))))
    (Cls8.cons ⟨rfl, by decide, Or.inl E_Beyond.gC⟩ (fun ae oe cls d pn hz hf => (pss_one (ps_ret (pe_and (pe_cmpR nop_eq (pv 0) pe_int (nomark _)) (pe_one (pe_ownH c_law_is_textH ⟨hr.dp, hr.un⟩ (hot_suite hz hf) (by rfl) (pa_cons (pe_byE E_Beyond hz.zc hf (pv 3)) (pa_cons (pv 2) pa_nil))))))))
    (Cls8.cons ⟨rfl, by decide, Or.inl E_BadLine.gC⟩ (fun ae oe cls d pn hz hf => (pss_one (ps_ret (pe_and (pe_cmpR nop_eq (pv 0) pe_int (nomark _)) (pe_one (pe_ownH c_law_is_numberH ⟨hr.dp, hr.un⟩ (hot_suite hz hf) (by rfl) (pa_cons (pe_byE E_BadLine hz.zc hf (pv 3)) (pa_cons (pv 1) pa_nil))))))))
    (Cls8.cons ⟨rfl, by decide, Or.inl E_BadPaper.gC⟩ (fun ae oe cls d pn hz hf => (pss_one (ps_ret (pe_and (pe_cmpR nop_eq (pv 0) pe_int (nomark _)) (pe_one (pe_ownH c_law_is_numberH ⟨hr.dp, hr.un⟩ (hot_suite hz hf) (by rfl) (pa_cons (pe_byE E_BadPaper hz.zc hf (pv 3)) (pa_cons (pv 1) pa_nil))))))))
    (Cls8.cons ⟨rfl, by decide, Or.inl E_BadText.gC⟩ (fun ae oe cls d pn hz hf => (pss_one (ps_ret (pe_and (pe_cmpR nop_eq (pv 0) pe_int (nomark _)) (pe_one (pe_ownH c_law_is_numberH ⟨hr.dp, hr.un⟩ (hot_suite hz hf) (by rfl) (pa_cons (pe_byE E_BadText hz.zc hf (pv 3)) (pa_cons (pv 1) pa_nil))))))))
    (Cls8.cons ⟨rfl, by decide, Or.inl E_BadValue.gC⟩ (fun ae oe cls d pn hz hf => (pss_one (ps_ret (pe_and (pe_cmpR nop_eq (pv 0) pe_int (nomark _)) (pe_one (pe_ownH c_law_is_numberH ⟨hr.dp, hr.un⟩ (hot_suite hz hf) (by rfl) (pa_cons (pe_byE E_BadValue hz.zc hf (pv 3)) (pa_cons (pv 1) pa_nil))))))))
    Cls8.nil)))))))))
    (pss_one (ps_ret pe_bl))), ?_⟩
    walk_at "rd"
    intro d nd
    match n, n8 with
    | 0, _ =>
      refine ⟨false, ex 0 7 (by decide) (by decide), fun z => Bool.noConfusion z, fun _ => ?_⟩
      refine ⟨false, ex 0 6 (by decide) (by decide), fun z => Bool.noConfusion z, fun _ => ?_⟩
      refine ⟨false, ex 0 5 (by decide) (by decide), fun z => Bool.noConfusion z, fun _ => ?_⟩
      refine ⟨false, ex 0 4 (by decide) (by decide), fun z => Bool.noConfusion z, fun _ => ?_⟩
      refine ⟨false, ex 0 3 (by decide) (by decide), fun z => Bool.noConfusion z, fun _ => ?_⟩
      refine ⟨false, ex 0 2 (by decide) (by decide), fun z => Bool.noConfusion z, fun _ => ?_⟩
      refine ⟨false, ex 0 1 (by decide) (by decide), fun z => Bool.noConfusion z, fun _ => ?_⟩
      refine ⟨true, ex 0 0 (by decide) (by decide), fun _ a0 _ => ?_, fun z => Bool.noConfusion z⟩
      walk_at "rd"
      refine ⟨d, _, rfl, upd_same, ?_⟩
      walk_at "rd"
      exact q _ (same_new nd _)
    | 1, _ =>
      refine ⟨false, ex 1 7 (by decide) (by decide), fun z => Bool.noConfusion z, fun _ => ?_⟩
      refine ⟨false, ex 1 6 (by decide) (by decide), fun z => Bool.noConfusion z, fun _ => ?_⟩
      refine ⟨false, ex 1 5 (by decide) (by decide), fun z => Bool.noConfusion z, fun _ => ?_⟩
      refine ⟨false, ex 1 4 (by decide) (by decide), fun z => Bool.noConfusion z, fun _ => ?_⟩
      refine ⟨false, ex 1 3 (by decide) (by decide), fun z => Bool.noConfusion z, fun _ => ?_⟩
      refine ⟨false, ex 1 2 (by decide) (by decide), fun z => Bool.noConfusion z, fun _ => ?_⟩
      refine ⟨true, ex 1 1 (by decide) (by decide), fun _ a0 _ => ?_, fun z => Bool.noConfusion z⟩
      walk_at "rd"
      refine ⟨d, _, rfl, upd_same, ?_⟩
      walk_at "rd"
      exact q _ (same_new nd _)
    | 2, _ =>
      refine ⟨false, ex 2 7 (by decide) (by decide), fun z => Bool.noConfusion z, fun _ => ?_⟩
      refine ⟨false, ex 2 6 (by decide) (by decide), fun z => Bool.noConfusion z, fun _ => ?_⟩
      refine ⟨false, ex 2 5 (by decide) (by decide), fun z => Bool.noConfusion z, fun _ => ?_⟩
      refine ⟨false, ex 2 4 (by decide) (by decide), fun z => Bool.noConfusion z, fun _ => ?_⟩
      refine ⟨false, ex 2 3 (by decide) (by decide), fun z => Bool.noConfusion z, fun _ => ?_⟩
      refine ⟨true, ex 2 2 (by decide) (by decide), fun _ a0 _ => ?_, fun z => Bool.noConfusion z⟩
      walk_at "rd"
      refine ⟨d, _, rfl, upd_same, ?_⟩
      walk_at "rd"
      exact q _ (same_new nd _)
    | 3, _ =>
      refine ⟨false, ex 3 7 (by decide) (by decide), fun z => Bool.noConfusion z, fun _ => ?_⟩
      refine ⟨false, ex 3 6 (by decide) (by decide), fun z => Bool.noConfusion z, fun _ => ?_⟩
      refine ⟨false, ex 3 5 (by decide) (by decide), fun z => Bool.noConfusion z, fun _ => ?_⟩
      refine ⟨false, ex 3 4 (by decide) (by decide), fun z => Bool.noConfusion z, fun _ => ?_⟩
      refine ⟨true, ex 3 3 (by decide) (by decide), fun _ a0 _ => ?_, fun z => Bool.noConfusion z⟩
      walk_at "rd"
      refine ⟨d, _, rfl, upd_same, ?_⟩
      walk_at "rd"
      exact q _ (same_new nd _)
    | 4, _ =>
      refine ⟨false, ex 4 7 (by decide) (by decide), fun z => Bool.noConfusion z, fun _ => ?_⟩
      refine ⟨false, ex 4 6 (by decide) (by decide), fun z => Bool.noConfusion z, fun _ => ?_⟩
      refine ⟨false, ex 4 5 (by decide) (by decide), fun z => Bool.noConfusion z, fun _ => ?_⟩
      refine ⟨true, ex 4 4 (by decide) (by decide), fun _ a0 _ => ?_, fun z => Bool.noConfusion z⟩
      walk_at "rd"
      refine ⟨d, _, rfl, upd_same, ?_⟩
      walk_at "rd"
      exact q _ (same_new nd _)
    | 5, _ =>
      refine ⟨false, ex 5 7 (by decide) (by decide), fun z => Bool.noConfusion z, fun _ => ?_⟩
      refine ⟨false, ex 5 6 (by decide) (by decide), fun z => Bool.noConfusion z, fun _ => ?_⟩
      refine ⟨true, ex 5 5 (by decide) (by decide), fun _ a0 _ => ?_, fun z => Bool.noConfusion z⟩
      walk_at "rd"
      refine ⟨d, _, rfl, upd_same, ?_⟩
      walk_at "rd"
      exact q _ (same_new nd _)
    | 6, _ =>
      refine ⟨false, ex 6 7 (by decide) (by decide), fun z => Bool.noConfusion z, fun _ => ?_⟩
      refine ⟨true, ex 6 6 (by decide) (by decide), fun _ a0 _ => ?_, fun z => Bool.noConfusion z⟩
      walk_at "rd"
      refine ⟨d, _, rfl, upd_same, ?_⟩
      walk_at "rd"
      exact q _ (same_new nd _)
    | 7, _ =>
      refine ⟨true, ex 7 7 (by decide) (by decide), fun _ a0 _ => ?_, fun z => Bool.noConfusion z⟩
      walk_at "rd"
      refine ⟨d, _, rfl, upd_same, ?_⟩
      walk_at "rd"
      exact q _ (same_new nd _)

abbrev s_law : Stmt := topS 24
theorem sc_law : FnScope ["script", "box", "far", "at", "word", "kind"] ["script"] (defScope s_law) := ⟨rfl, rfl, rfl, by decide +kernel, rfl, by decide +kernel, by decide +kernel⟩
theorem ok_law {f : Addr} {fd : FuncData} {k : Nat} (F : Fun K "law" "law" s_law f fd) (T : Txt mg) (c_law_box : Called P w K mg base CX0 "_law_box" k ["script", "at"] (spBox K)) (c_law_draw : Called P w K mg base CX0 "_law_draw" k ["box", "many"] spDraw) (c_law_text : Called P w K mg base CX0 "_law_text" k ["box"] spText00) (c_law_numbered : Called P w K mg base CX0 "_law_numbered" k ["at", "other"] (spNumd K)) (c_law_worded : Called P w K mg base CX0 "_law_worded" k ["word", "other"] (spWord00 K)) (c_law_caught : Called P w K mg base CX0 "_law_caught" k ["kind", "at", "word"] spBen00) (c_law_beneath : Called P w K mg base CX0 "_law_beneath" k ["kind", "at", "word"] spBen00) : FnOk P w K mg base CX0 (k + 1) f fd ["script"] (spLaw K) := by
  refine F.ok sc_law (fun vs H Q E h => ?_) (fun cdv A outer s H vs Q E hr h => ?_)
  · obtain ⟨a, b, rfl, _⟩ := h
    rfl
  · obtain ⟨sp, ns, rfl, hl, hn, q⟩ := h
    refine ⟨_, (pss_cons (ps_set (i := 1) sc_law.nd rfl (Or.inl rfl) (pe_own c_law_box hr (by rfl) pass0 (pa_cons (pv 0) (pa_cons pe_int pa_nil))))
    (pss_cons (ps_set (i := 2) sc_law.nd rfl (Or.inl rfl) (pe_own c_law_box hr (by rfl) pass0 (pa_cons (pv 0) (pa_cons pe_int pa_nil))))
    (pss_cons (ps_set (i := 3) sc_law.nd rfl (Or.inl rfl) (pe_own c_law_draw hr (by rfl) pass0 (pa_cons (pv 1) (pa_cons pe_int pa_nil))))
    (pss_cons (ps_set (i := 4) sc_law.nd rfl (Or.inl rfl) (pe_own c_law_text hr (by rfl) pass0 (pa_cons (pv 1) pa_nil)))
    (pss_cons (ps_if (PW.pt (pw_or (pt_not (pt_val (pe_own c_law_numbered hr (by rfl) pass0 (pa_cons (pv 3) (pa_cons (pe_own c_law_draw hr (by rfl) pass0 (pa_cons (pv 2) (pa_cons pe_int pa_nil))) pa_nil))))) (pw_or1 (pt_not (pt_val (pe_own c_law_worded hr (by rfl) pass0 (pa_cons (pv 4) (pa_cons (pe_own c_law_text hr (by rfl) pass0 (pa_cons (pv 2) pa_nil)) pa_nil))))))))
    (pss_one (ps_ret pe_bl))
    pss_nil)
    (pss_cons (ps_for PassesOwn.never rfl (pi_range1 (by rfl) T.n_range (pa_cons pe_int pa_nil)) (pg_name (i := 5) sc_law.nd rfl (Or.inl rfl))
    (pss_one (ps_if (PW.pt (pw_or (pt_not (pt_val (pe_own c_law_caught hr (by rfl) pass0 (pa_cons (pv 5) (pa_cons (pv 3) (pa_cons (pv 4) pa_nil)))))) (pw_or1 (pt_not (pt_val (pe_own c_law_beneath hr (by rfl) pass0 (pa_cons (pv 5) (pa_cons (pv 3) (pa_cons (pv 4) pa_nil)))))))))
    (pss_one (ps_ret pe_bl))
    pss_nil)))
    (pss_one (ps_ret pe_bl)))))))), ?_⟩
    walk_at "rd"
    refine ⟨sp, ns, 0, by rfl, hl, fun b H1 z nb b1 => ?_⟩
    have hl1 := z.seq hl
    clear z
    walk_at "rd"
    refine ⟨sp, ns, 1, by rfl, hl1, fun b2 H2 z nb2 bb2 => ?_⟩
    obtain ⟨c, d, y, n, hb⟩ := b1
    have ne : b2 ≠ b := fun e => by rw [e, hb] at nb2; cases nb2
    have hb := z _ _ hb
    clear z nb nb2 hl1
    walk_at "rd"
    refine ⟨b, 1000, c, d, y, n, by rfl, by decide, hb, fun v1 c1 d1 z1 n1 hv1 => ?_⟩
    have g1 : Bx (upd H2 b (.lst [.int c1, .int d1, .int z1, .int n1])) b := ⟨_, _, _, _, upd_same⟩
    have g2 : Bx (upd H2 b (.lst [.int c1, .int d1, .int z1, .int n1])) b2 := bb2.put ne.symm
    generalize upd H2 b (.lst [.int c1, .int d1, .int z1, .int n1]) = H3 at *
    clear hb bb2
    walk_at "rd"
    intro w1 H4 s4 g4 lw1
    obtain ⟨c2, d2, y2, n2, h2⟩ := g2
    have h2 := s4 _ _ ne h2
    clear s4 g1
    walk_at "rd"
    refine ⟨b2, 9, c2, d2, y2, n2, by rfl, by decide, h2, fun v2 c3 d3 z3 n3 hv2 => ?_⟩
    have g2 : Bx (upd H4 b2 (.lst [.int c3, .int d3, .int z3, .int n3])) b2 := ⟨_, _, _, _, upd_same⟩
    generalize upd H4 b2 (.lst [.int c3, .int d3, .int z3, .int n3]) = H5 at *
    clear h2 g4
    walk_at "rd"
    first
      | refine ⟨(v1 : Int), (v2 : Int), by rfl, fun H6 z => ?_⟩
      | intro H6 z
    obtain ⟨c4, d4, y4, n4, h4⟩ := g2
    have g2 : Bx H6 b2 := ⟨_, _, _, _, z _ _ h4⟩
    clear z h4
    walk_at "rd"
    intro w2 H7 s7 g7 lw2
    walk_at "rd"
    first
      | refine ⟨w1, w2, by rfl, fun H8 z => ?_⟩
      | intro H8 z
    walk_at "rd"
    try (refine ⟨by decide, ?_⟩)
    refine for_range (lo := 0) (n := 8) (fun m σ G => ∃ v5 : Option V, σ = [some (.ref sp), some (.ref b), some (.ref b2), some (.int (v1 : Int)), some (.str w1), v5]) ⟨_, by rfl⟩ ?_ ?_
    · rintro m σ G hm ⟨v5, rfl⟩
      rw [Int.zero_add]
      walk_at "rd"
      first
        | refine ⟨m, (v1 : Int), w1, by rfl, hm, fun G1 z => ?_⟩
        | intro G1 z
      walk_at "rd"
      first
        | refine ⟨m, (v1 : Int), w1, by rfl, hm, fun G2 z => ?_⟩
        | intro G2 z
      walk_at "rd"
      try exact ⟨_, by rfl⟩
    · rintro σ G ⟨v5, rfl⟩
      walk_at "rd"
      exact q _

end
theorem all_mk {l : PySem.W.OpenLaw} {w : World} {K : PySem.W.Frag} {h : Heap} {mg : Str → Option Value} {fa : Addr} (X : K.In h) (G : h.Ns mainGlobals mg) (hfa : mg "law" = some (.ref fa))
    {f_law_cell : Addr} {od_law_cell an_law_cell : Option Addr} {sl_law_cell : Array (Option Value)} {oc_law_cell kV_law_cell dc_law_cell pm_law_cell cd_law_cell ct_law_cell : Value}
    {f_law_mix : Addr} {od_law_mix an_law_mix : Option Addr} {sl_law_mix : Array (Option Value)} {oc_law_mix kV_law_mix dc_law_mix pm_law_mix cd_law_mix ct_law_mix : Value}
    {f_law_box : Addr} {od_law_box an_law_box : Option Addr} {sl_law_box : Array (Option Value)} {oc_law_box kV_law_box dc_law_box pm_law_box cd_law_box ct_law_box : Value}
    {f_law_draw : Addr} {od_law_draw an_law_draw : Option Addr} {sl_law_draw : Array (Option Value)} {oc_law_draw kV_law_draw dc_law_draw pm_law_draw cd_law_draw ct_law_draw : Value}
    {f_law_text : Addr} {od_law_text an_law_text : Option Addr} {sl_law_text : Array (Option Value)} {oc_law_text kV_law_text dc_law_text pm_law_text cd_law_text ct_law_text : Value}
    {f_law_is_number : Addr} {od_law_is_number an_law_is_number : Option Addr} {sl_law_is_number : Array (Option Value)} {oc_law_is_number kV_law_is_number dc_law_is_number pm_law_is_number cd_law_is_number ct_law_is_number : Value}
    {f_law_is_text : Addr} {od_law_is_text an_law_is_text : Option Addr} {sl_law_is_text : Array (Option Value)} {oc_law_is_text kV_law_is_text dc_law_is_text pm_law_is_text cd_law_is_text ct_law_is_text : Value}
    {f_law_alone : Addr} {od_law_alone an_law_alone : Option Addr} {sl_law_alone : Array (Option Value)} {oc_law_alone kV_law_alone dc_law_alone pm_law_alone cd_law_alone ct_law_alone : Value}
    {f_law_numbered : Addr} {od_law_numbered an_law_numbered : Option Addr} {sl_law_numbered : Array (Option Value)} {oc_law_numbered kV_law_numbered dc_law_numbered pm_law_numbered cd_law_numbered ct_law_numbered : Value}
    {f_law_worded : Addr} {od_law_worded an_law_worded : Option Addr} {sl_law_worded : Array (Option Value)} {oc_law_worded kV_law_worded dc_law_worded pm_law_worded cd_law_worded ct_law_worded : Value}
    {f_law_raise : Addr} {od_law_raise an_law_raise : Option Addr} {sl_law_raise : Array (Option Value)} {oc_law_raise kV_law_raise dc_law_raise pm_law_raise cd_law_raise ct_law_raise : Value}
    {f_law_caught : Addr} {od_law_caught an_law_caught : Option Addr} {sl_law_caught : Array (Option Value)} {oc_law_caught kV_law_caught dc_law_caught pm_law_caught cd_law_caught ct_law_caught : Value}
    {f_law_beneath : Addr} {od_law_beneath an_law_beneath : Option Addr} {sl_law_beneath : Array (Option Value)} {oc_law_beneath kV_law_beneath dc_law_beneath pm_law_beneath cd_law_beneath ct_law_beneath : Value}
    {f_law : Addr} {od_law an_law : Option Addr} {sl_law : Array (Option Value)} {oc_law kV_law dc_law pm_law cd_law ct_law : Value}
    {C_BadValue D_BadValue I_BadValue : Addr} {nm_BadValue q_BadValue : Str} {N_BadValue : Addr} {bs_BadValue : List Value} {sn_BadValue : List Str} {sub_BadValue : List Value} {ab_BadValue : Bool} {col_BadValue : Option Bool} {dd_BadValue : Option Addr} {m0_BadValue m1_BadValue m2_BadValue m3_BadValue m5_BadValue : Option Value} {od_BadValue an_BadValue : Option Addr} {sl_BadValue : Array (Option Value)} {oc_BadValue dc_BadValue pm_BadValue cd_BadValue ct_BadValue : Value} {p1_BadValue p2_BadValue q1_BadValue q2_BadValue q3_BadValue q4_BadValue : Pos}
    {C_Beyond D_Beyond I_Beyond : Addr} {nm_Beyond q_Beyond : Str} {N_Beyond : Addr} {bs_Beyond : List Value} {sn_Beyond : List Str} {sub_Beyond : List Value} {ab_Beyond : Bool} {col_Beyond : Option Bool} {dd_Beyond : Option Addr} {m0_Beyond m1_Beyond m2_Beyond m3_Beyond m5_Beyond : Option Value} {od_Beyond an_Beyond : Option Addr} {sl_Beyond : Array (Option Value)} {oc_Beyond dc_Beyond pm_Beyond cd_Beyond ct_Beyond : Value} {p1_Beyond p2_Beyond q1_Beyond q2_Beyond q3_Beyond q4_Beyond : Pos}
    {C_BadName D_BadName I_BadName : Addr} {nm_BadName q_BadName : Str} {N_BadName : Addr} {bs_BadName : List Value} {sn_BadName : List Str} {sub_BadName : List Value} {ab_BadName : Bool} {col_BadName : Option Bool} {dd_BadName : Option Addr} {m0_BadName m1_BadName m2_BadName m3_BadName m5_BadName : Option Value} {od_BadName an_BadName : Option Addr} {sl_BadName : Array (Option Value)} {oc_BadName dc_BadName pm_BadName cd_BadName ct_BadName : Value} {p1_BadName p2_BadName q1_BadName q2_BadName q3_BadName q4_BadName : Pos}
    {C_NothingThere D_NothingThere I_NothingThere : Addr} {nm_NothingThere q_NothingThere : Str} {N_NothingThere : Addr} {bs_NothingThere : List Value} {sn_NothingThere : List Str} {sub_NothingThere : List Value} {ab_NothingThere : Bool} {col_NothingThere : Option Bool} {dd_NothingThere : Option Addr} {m0_NothingThere m1_NothingThere m2_NothingThere m3_NothingThere m5_NothingThere : Option Value} {od_NothingThere an_NothingThere : Option Addr} {sl_NothingThere : Array (Option Value)} {oc_NothingThere dc_NothingThere pm_NothingThere cd_NothingThere ct_NothingThere : Value} {p1_NothingThere p2_NothingThere q1_NothingThere q2_NothingThere q3_NothingThere q4_NothingThere : Pos}
    {C_NoRoom D_NoRoom I_NoRoom : Addr} {nm_NoRoom q_NoRoom : Str} {N_NoRoom : Addr} {bs_NoRoom : List Value} {sn_NoRoom : List Str} {sub_NoRoom : List Value} {ab_NoRoom : Bool} {col_NoRoom : Option Bool} {dd_NoRoom : Option Addr} {m0_NoRoom m1_NoRoom m2_NoRoom m3_NoRoom m5_NoRoom : Option Value} {od_NoRoom an_NoRoom : Option Addr} {sl_NoRoom : Array (Option Value)} {oc_NoRoom dc_NoRoom pm_NoRoom cd_NoRoom ct_NoRoom : Value} {p1_NoRoom p2_NoRoom q1_NoRoom q2_NoRoom q3_NoRoom q4_NoRoom : Pos}
    {C_BadText D_BadText I_BadText : Addr} {nm_BadText q_BadText : Str} {N_BadText : Addr} {bs_BadText : List Value} {sn_BadText : List Str} {sub_BadText : List Value} {ab_BadText : Bool} {col_BadText : Option Bool} {dd_BadText : Option Addr} {m0_BadText m1_BadText m2_BadText m3_BadText m5_BadText : Option Value} {od_BadText an_BadText : Option Addr} {sl_BadText : Array (Option Value)} {oc_BadText dc_BadText pm_BadText cd_BadText ct_BadText : Value} {p1_BadText p2_BadText q1_BadText q2_BadText q3_BadText q4_BadText : Pos}
    {C_BadPaper D_BadPaper I_BadPaper : Addr} {nm_BadPaper q_BadPaper : Str} {N_BadPaper : Addr} {bs_BadPaper : List Value} {sn_BadPaper : List Str} {sub_BadPaper : List Value} {ab_BadPaper : Bool} {col_BadPaper : Option Bool} {dd_BadPaper : Option Addr} {m0_BadPaper m1_BadPaper m2_BadPaper m3_BadPaper m5_BadPaper : Option Value} {od_BadPaper an_BadPaper : Option Addr} {sl_BadPaper : Array (Option Value)} {oc_BadPaper dc_BadPaper pm_BadPaper cd_BadPaper ct_BadPaper : Value} {p1_BadPaper p2_BadPaper q1_BadPaper q2_BadPaper q3_BadPaper q4_BadPaper : Pos}
    {C_BadLine D_BadLine I_BadLine : Addr} {nm_BadLine q_BadLine : Str} {N_BadLine : Addr} {bs_BadLine : List Value} {sn_BadLine : List Str} {sub_BadLine : List Value} {ab_BadLine : Bool} {col_BadLine : Option Bool} {dd_BadLine : Option Addr} {m0_BadLine m1_BadLine m2_BadLine m3_BadLine m5_BadLine : Option Value} {od_BadLine an_BadLine : Option Addr} {sl_BadLine : Array (Option Value)} {oc_BadLine dc_BadLine pm_BadLine cd_BadLine ct_BadLine : Value} {p1_BadLine p2_BadLine q1_BadLine q2_BadLine q3_BadLine q4_BadLine : Pos}
    {a_VaultError : Addr}
    (a_law_cell : PySem.W.nsIn K mainGlobals "_law_cell" = some (some (.ref f_law_cell)))
    (l_law_cell : K.lookup f_law_cell = some ⟨oc_law_cell, od_law_cell, .func (PySem.W.fnOf "_law_cell" "_law_cell" (defArgs s_law_cell) (defBody s_law_cell) (defScope s_law_cell) .none kV_law_cell dc_law_cell pm_law_cell an_law_cell cd_law_cell ct_law_cell), sl_law_cell⟩)
    (c_law_cell : PySem.W.codeIn K cd_law_cell "_law_cell" = true)
    (k_law_cell : PySem.W.keepIn K (.ref f_law_cell) = true)
    (a_law_mix : PySem.W.nsIn K mainGlobals "_law_mix" = some (some (.ref f_law_mix)))
    (l_law_mix : K.lookup f_law_mix = some ⟨oc_law_mix, od_law_mix, .func (PySem.W.fnOf "_law_mix" "_law_mix" (defArgs s_law_mix) (defBody s_law_mix) (defScope s_law_mix) .none kV_law_mix dc_law_mix pm_law_mix an_law_mix cd_law_mix ct_law_mix), sl_law_mix⟩)
    (c_law_mix : PySem.W.codeIn K cd_law_mix "_law_mix" = true)
    (k_law_mix : PySem.W.keepIn K (.ref f_law_mix) = true)
    (a_law_box : PySem.W.nsIn K mainGlobals "_law_box" = some (some (.ref f_law_box)))
    (l_law_box : K.lookup f_law_box = some ⟨oc_law_box, od_law_box, .func (PySem.W.fnOf "_law_box" "_law_box" (defArgs s_law_box) (defBody s_law_box) (defScope s_law_box) .none kV_law_box dc_law_box pm_law_box an_law_box cd_law_box ct_law_box), sl_law_box⟩)
    (c_law_box : PySem.W.codeIn K cd_law_box "_law_box" = true)
    (k_law_box : PySem.W.keepIn K (.ref f_law_box) = true)
    (a_law_draw : PySem.W.nsIn K mainGlobals "_law_draw" = some (some (.ref f_law_draw)))
    (l_law_draw : K.lookup f_law_draw = some ⟨oc_law_draw, od_law_draw, .func (PySem.W.fnOf "_law_draw" "_law_draw" (defArgs s_law_draw) (defBody s_law_draw) (defScope s_law_draw) .none kV_law_draw dc_law_draw pm_law_draw an_law_draw cd_law_draw ct_law_draw), sl_law_draw⟩)
    (c_law_draw : PySem.W.codeIn K cd_law_draw "_law_draw" = true)
    (k_law_draw : PySem.W.keepIn K (.ref f_law_draw) = true)
    (a_law_text : PySem.W.nsIn K mainGlobals "_law_text" = some (some (.ref f_law_text)))
    (l_law_text : K.lookup f_law_text = some ⟨oc_law_text, od_law_text, .func (PySem.W.fnOf "_law_text" "_law_text" (defArgs s_law_text) (defBody s_law_text) (defScope s_law_text) .none kV_law_text dc_law_text pm_law_text an_law_text cd_law_text ct_law_text), sl_law_text⟩)
    (c_law_text : PySem.W.codeIn K cd_law_text "_law_text" = true)
    (k_law_text : PySem.W.keepIn K (.ref f_law_text) = true)
    (a_law_is_number : PySem.W.nsIn K mainGlobals "_law_is_number" = some (some (.ref f_law_is_number)))
    (l_law_is_number : K.lookup f_law_is_number = some ⟨oc_law_is_number, od_law_is_number, .func (PySem.W.fnOf "_law_is_number" "_law_is_number" (defArgs s_law_is_number) (defBody s_law_is_number) (defScope s_law_is_number) .none kV_law_is_number dc_law_is_number pm_law_is_number an_law_is_number cd_law_is_number ct_law_is_number), sl_law_is_number⟩)
    (c_law_is_number : PySem.W.codeIn K cd_law_is_number "_law_is_number" = true)
    (k_law_is_number : PySem.W.keepIn K (.ref f_law_is_number) = true)
    (a_law_is_text : PySem.W.nsIn K mainGlobals "_law_is_text" = some (some (.ref f_law_is_text)))
    (l_law_is_text : K.lookup f_law_is_text = some ⟨oc_law_is_text, od_law_is_text, .func (PySem.W.fnOf "_law_is_text" "_law_is_text" (defArgs s_law_is_text) (defBody s_law_is_text) (defScope s_law_is_text) .none kV_law_is_text dc_law_is_text pm_law_is_text an_law_is_text cd_law_is_text ct_law_is_text), sl_law_is_text⟩)
    (c_law_is_text : PySem.W.codeIn K cd_law_is_text "_law_is_text" = true)
    (k_law_is_text : PySem.W.keepIn K (.ref f_law_is_text) = true)
    (a_law_alone : PySem.W.nsIn K mainGlobals "_law_alone" = some (some (.ref f_law_alone)))
    (l_law_alone : K.lookup f_law_alone = some ⟨oc_law_alone, od_law_alone, .func (PySem.W.fnOf "_law_alone" "_law_alone" (defArgs s_law_alone) (defBody s_law_alone) (defScope s_law_alone) .none kV_law_alone dc_law_alone pm_law_alone an_law_alone cd_law_alone ct_law_alone), sl_law_alone⟩)
    (c_law_alone : PySem.W.codeIn K cd_law_alone "_law_alone" = true)
    (k_law_alone : PySem.W.keepIn K (.ref f_law_alone) = true)
    (a_law_numbered : PySem.W.nsIn K mainGlobals "_law_numbered" = some (some (.ref f_law_numbered)))
    (l_law_numbered : K.lookup f_law_numbered = some ⟨oc_law_numbered, od_law_numbered, .func (PySem.W.fnOf "_law_numbered" "_law_numbered" (defArgs s_law_numbered) (defBody s_law_numbered) (defScope s_law_numbered) .none kV_law_numbered dc_law_numbered pm_law_numbered an_law_numbered cd_law_numbered ct_law_numbered), sl_law_numbered⟩)
    (c_law_numbered : PySem.W.codeIn K cd_law_numbered "_law_numbered" = true)
    (k_law_numbered : PySem.W.keepIn K (.ref f_law_numbered) = true)
    (a_law_worded : PySem.W.nsIn K mainGlobals "_law_worded" = some (some (.ref f_law_worded)))
    (l_law_worded : K.lookup f_law_worded = some ⟨oc_law_worded, od_law_worded, .func (PySem.W.fnOf "_law_worded" "_law_worded" (defArgs s_law_worded) (defBody s_law_worded) (defScope s_law_worded) .none kV_law_worded dc_law_worded pm_law_worded an_law_worded cd_law_worded ct_law_worded), sl_law_worded⟩)
    (c_law_worded : PySem.W.codeIn K cd_law_worded "_law_worded" = true)
    (k_law_worded : PySem.W.keepIn K (.ref f_law_worded) = true)
    (a_law_raise : PySem.W.nsIn K mainGlobals "_law_raise" = some (some (.ref f_law_raise)))
    (l_law_raise : K.lookup f_law_raise = some ⟨oc_law_raise, od_law_raise, .func (PySem.W.fnOf "_law_raise" "_law_raise" (defArgs s_law_raise) (defBody s_law_raise) (defScope s_law_raise) .none kV_law_raise dc_law_raise pm_law_raise an_law_raise cd_law_raise ct_law_raise), sl_law_raise⟩)
    (c_law_raise : PySem.W.codeIn K cd_law_raise "_law_raise" = true)
    (k_law_raise : PySem.W.keepIn K (.ref f_law_raise) = true)
    (a_law_caught : PySem.W.nsIn K mainGlobals "_law_caught" = some (some (.ref f_law_caught)))
    (l_law_caught : K.lookup f_law_caught = some ⟨oc_law_caught, od_law_caught, .func (PySem.W.fnOf "_law_caught" "_law_caught" (defArgs s_law_caught) (defBody s_law_caught) (defScope s_law_caught) .none kV_law_caught dc_law_caught pm_law_caught an_law_caught cd_law_caught ct_law_caught), sl_law_caught⟩)
    (c_law_caught : PySem.W.codeIn K cd_law_caught "_law_caught" = true)
    (k_law_caught : PySem.W.keepIn K (.ref f_law_caught) = true)
    (a_law_beneath : PySem.W.nsIn K mainGlobals "_law_beneath" = some (some (.ref f_law_beneath)))
    (l_law_beneath : K.lookup f_law_beneath = some ⟨oc_law_beneath, od_law_beneath, .func (PySem.W.fnOf "_law_beneath" "_law_beneath" (defArgs s_law_beneath) (defBody s_law_beneath) (defScope s_law_beneath) .none kV_law_beneath dc_law_beneath pm_law_beneath an_law_beneath cd_law_beneath ct_law_beneath), sl_law_beneath⟩)
    (c_law_beneath : PySem.W.codeIn K cd_law_beneath "_law_beneath" = true)
    (k_law_beneath : PySem.W.keepIn K (.ref f_law_beneath) = true)
    (a_law : PySem.W.nsIn K mainGlobals "law" = some (some (.ref f_law)))
    (l_law : K.lookup f_law = some ⟨oc_law, od_law, .func (PySem.W.fnOf "law" "law" (defArgs s_law) (defBody s_law) (defScope s_law) .none kV_law dc_law pm_law an_law cd_law ct_law), sl_law⟩)
    (c_law : PySem.W.codeIn K cd_law "law" = true)
    (k_law : PySem.W.keepIn K (.ref f_law) = true)
    (z_Exception : PySem.W.nsIn K mainGlobals "Exception" = some none)
    (z_ValueError : PySem.W.nsIn K mainGlobals "ValueError" = some none)
    (z_bool : PySem.W.nsIn K mainGlobals "bool" = some none)
    (z_int : PySem.W.nsIn K mainGlobals "int" = some none)
    (z_isinstance : PySem.W.nsIn K mainGlobals "isinstance" = some none)
    (z_len : PySem.W.nsIn K mainGlobals "len" = some none)
    (z_max : PySem.W.nsIn K mainGlobals "max" = some none)
    (z_range : PySem.W.nsIn K mainGlobals "range" = some none)
    (z_str : PySem.W.nsIn K mainGlobals "str" = some none)
    (g_BadValue : PySem.W.nsIn K mainGlobals "BadValue" = some (some (.ref C_BadValue)))
    (x_BadValue : K.lookup C_BadValue = some (excClassObj nm_BadValue q_BadValue C_BadValue N_BadValue bs_BadValue (.ref D_BadValue :: PySem.ESX.exTail) true sn_BadValue sub_BadValue ab_BadValue col_BadValue dd_BadValue m0_BadValue m1_BadValue m2_BadValue m3_BadValue m5_BadValue "Exception.__new__"))
    (sa_BadValue : PySem.W.findIn K (.ref C_BadValue) "__setattr__" = some (some (.builtin "object.__setattr__")))
    (ga_BadValue : PySem.W.findIn K (.ref C_BadValue) "__getattribute__" = some (some (.builtin "BaseException.__getattribute__")))
    (gg_BadValue : PySem.W.findIn K (.ref C_BadValue) "__getattr__" = some none)
    (nf_BadValue : PySem.W.findIn K (.ref C_BadValue) "at" = some none)
    (ii_BadValue : PySem.W.findIn K (.ref C_BadValue) "__init__" = some (some (.ref I_BadValue)))
    (tf_BadValue : PySem.W.typeIn K (.ref I_BadValue) = some (.type "function"))
    (lf_BadValue : K.lookup I_BadValue = some ⟨oc_BadValue, od_BadValue, .func (PySem.W.fnOf "__init__" "BadValue.__init__" (PySem.Mve.iA_at p1_BadValue p2_BadValue) (PySem.Mve.iB_at q1_BadValue q2_BadValue q3_BadValue q4_BadValue) PySem.Mve.iS_at .none .none dc_BadValue pm_BadValue an_BadValue cd_BadValue ct_BadValue), sl_BadValue⟩)
    (cf_BadValue : PySem.W.codeIn K cd_BadValue "BadValue.__init__" = true)
    (kc_BadValue : PySem.W.keepIn K (.ref C_BadValue) = true)
    (ec_BadValue : PySem.W.subIn K (.ref C_BadValue) (.type "BaseException") = some true)
    (tc_BadValue : PySem.W.typeIn K (.ref C_BadValue) = some (.type "type"))
    (hc_BadValue : PySem.W.hasDictIn K C_BadValue = true)
    (ic_BadValue : PySem.W.isClsIn K C_BadValue = true)
    (sc_BadValue : PySem.W.subIn K (.ref C_BadValue) (.ref C_BadValue) = some true)
    (g_Beyond : PySem.W.nsIn K mainGlobals "Beyond" = some (some (.ref C_Beyond)))
    (x_Beyond : K.lookup C_Beyond = some (excClassObj nm_Beyond q_Beyond C_Beyond N_Beyond bs_Beyond (.ref D_Beyond :: PySem.ESX.exTail) true sn_Beyond sub_Beyond ab_Beyond col_Beyond dd_Beyond m0_Beyond m1_Beyond m2_Beyond m3_Beyond m5_Beyond "Exception.__new__"))
    (sa_Beyond : PySem.W.findIn K (.ref C_Beyond) "__setattr__" = some (some (.builtin "object.__setattr__")))
    (ga_Beyond : PySem.W.findIn K (.ref C_Beyond) "__getattribute__" = some (some (.builtin "BaseException.__getattribute__")))
    (gg_Beyond : PySem.W.findIn K (.ref C_Beyond) "__getattr__" = some none)
    (nf_Beyond : PySem.W.findIn K (.ref C_Beyond) "word" = some none)
    (ii_Beyond : PySem.W.findIn K (.ref C_Beyond) "__init__" = some (some (.ref I_Beyond)))
    (tf_Beyond : PySem.W.typeIn K (.ref I_Beyond) = some (.type "function"))
    (lf_Beyond : K.lookup I_Beyond = some ⟨oc_Beyond, od_Beyond, .func (PySem.W.fnOf "__init__" "Beyond.__init__" (PySem.Mve.iA_word p1_Beyond p2_Beyond) (PySem.Mve.iB_word q1_Beyond q2_Beyond q3_Beyond q4_Beyond) PySem.Mve.iS_word .none .none dc_Beyond pm_Beyond an_Beyond cd_Beyond ct_Beyond), sl_Beyond⟩)
    (cf_Beyond : PySem.W.codeIn K cd_Beyond "Beyond.__init__" = true)
    (kc_Beyond : PySem.W.keepIn K (.ref C_Beyond) = true)
    (ec_Beyond : PySem.W.subIn K (.ref C_Beyond) (.type "BaseException") = some true)
    (tc_Beyond : PySem.W.typeIn K (.ref C_Beyond) = some (.type "type"))
    (hc_Beyond : PySem.W.hasDictIn K C_Beyond = true)
    (ic_Beyond : PySem.W.isClsIn K C_Beyond = true)
    (sc_Beyond : PySem.W.subIn K (.ref C_Beyond) (.ref C_Beyond) = some true)
    (g_BadName : PySem.W.nsIn K mainGlobals "BadName" = some (some (.ref C_BadName)))
    (x_BadName : K.lookup C_BadName = some (excClassObj nm_BadName q_BadName C_BadName N_BadName bs_BadName (.ref D_BadName :: PySem.ESX.exTail) true sn_BadName sub_BadName ab_BadName col_BadName dd_BadName m0_BadName m1_BadName m2_BadName m3_BadName m5_BadName "Exception.__new__"))
    (sa_BadName : PySem.W.findIn K (.ref C_BadName) "__setattr__" = some (some (.builtin "object.__setattr__")))
    (ga_BadName : PySem.W.findIn K (.ref C_BadName) "__getattribute__" = some (some (.builtin "BaseException.__getattribute__")))
    (gg_BadName : PySem.W.findIn K (.ref C_BadName) "__getattr__" = some none)
    (nf_BadName : PySem.W.findIn K (.ref C_BadName) "name" = some none)
    (ii_BadName : PySem.W.findIn K (.ref C_BadName) "__init__" = some (some (.ref I_BadName)))
    (tf_BadName : PySem.W.typeIn K (.ref I_BadName) = some (.type "function"))
    (lf_BadName : K.lookup I_BadName = some ⟨oc_BadName, od_BadName, .func (PySem.W.fnOf "__init__" "BadName.__init__" (PySem.Mve.iA_name p1_BadName p2_BadName) (PySem.Mve.iB_name q1_BadName q2_BadName q3_BadName q4_BadName) PySem.Mve.iS_name .none .none dc_BadName pm_BadName an_BadName cd_BadName ct_BadName), sl_BadName⟩)
    (cf_BadName : PySem.W.codeIn K cd_BadName "BadName.__init__" = true)
    (kc_BadName : PySem.W.keepIn K (.ref C_BadName) = true)
    (ec_BadName : PySem.W.subIn K (.ref C_BadName) (.type "BaseException") = some true)
    (tc_BadName : PySem.W.typeIn K (.ref C_BadName) = some (.type "type"))
    (hc_BadName : PySem.W.hasDictIn K C_BadName = true)
    (ic_BadName : PySem.W.isClsIn K C_BadName = true)
    (sc_BadName : PySem.W.subIn K (.ref C_BadName) (.ref C_BadName) = some true)
    (g_NothingThere : PySem.W.nsIn K mainGlobals "NothingThere" = some (some (.ref C_NothingThere)))
    (x_NothingThere : K.lookup C_NothingThere = some (excClassObj nm_NothingThere q_NothingThere C_NothingThere N_NothingThere bs_NothingThere (.ref D_NothingThere :: PySem.ESX.exTail) true sn_NothingThere sub_NothingThere ab_NothingThere col_NothingThere dd_NothingThere m0_NothingThere m1_NothingThere m2_NothingThere m3_NothingThere m5_NothingThere "Exception.__new__"))
    (sa_NothingThere : PySem.W.findIn K (.ref C_NothingThere) "__setattr__" = some (some (.builtin "object.__setattr__")))
    (ga_NothingThere : PySem.W.findIn K (.ref C_NothingThere) "__getattribute__" = some (some (.builtin "BaseException.__getattribute__")))
    (gg_NothingThere : PySem.W.findIn K (.ref C_NothingThere) "__getattr__" = some none)
    (nf_NothingThere : PySem.W.findIn K (.ref C_NothingThere) "name" = some none)
    (ii_NothingThere : PySem.W.findIn K (.ref C_NothingThere) "__init__" = some (some (.ref I_NothingThere)))
    (tf_NothingThere : PySem.W.typeIn K (.ref I_NothingThere) = some (.type "function"))
    (lf_NothingThere : K.lookup I_NothingThere = some ⟨oc_NothingThere, od_NothingThere, .func (PySem.W.fnOf "__init__" "NothingThere.__init__" (PySem.Mve.iA_name p1_NothingThere p2_NothingThere) (PySem.Mve.iB_name q1_NothingThere q2_NothingThere q3_NothingThere q4_NothingThere) PySem.Mve.iS_name .none .none dc_NothingThere pm_NothingThere an_NothingThere cd_NothingThere ct_NothingThere), sl_NothingThere⟩)
    (cf_NothingThere : PySem.W.codeIn K cd_NothingThere "NothingThere.__init__" = true)
    (kc_NothingThere : PySem.W.keepIn K (.ref C_NothingThere) = true)
    (ec_NothingThere : PySem.W.subIn K (.ref C_NothingThere) (.type "BaseException") = some true)
    (tc_NothingThere : PySem.W.typeIn K (.ref C_NothingThere) = some (.type "type"))
    (hc_NothingThere : PySem.W.hasDictIn K C_NothingThere = true)
    (ic_NothingThere : PySem.W.isClsIn K C_NothingThere = true)
    (sc_NothingThere : PySem.W.subIn K (.ref C_NothingThere) (.ref C_NothingThere) = some true)
    (g_NoRoom : PySem.W.nsIn K mainGlobals "NoRoom" = some (some (.ref C_NoRoom)))
    (x_NoRoom : K.lookup C_NoRoom = some (excClassObj nm_NoRoom q_NoRoom C_NoRoom N_NoRoom bs_NoRoom (.ref D_NoRoom :: PySem.ESX.exTail) true sn_NoRoom sub_NoRoom ab_NoRoom col_NoRoom dd_NoRoom m0_NoRoom m1_NoRoom m2_NoRoom m3_NoRoom m5_NoRoom "Exception.__new__"))
    (sa_NoRoom : PySem.W.findIn K (.ref C_NoRoom) "__setattr__" = some (some (.builtin "object.__setattr__")))
    (ga_NoRoom : PySem.W.findIn K (.ref C_NoRoom) "__getattribute__" = some (some (.builtin "BaseException.__getattribute__")))
    (gg_NoRoom : PySem.W.findIn K (.ref C_NoRoom) "__getattr__" = some none)
    (nf_NoRoom : PySem.W.findIn K (.ref C_NoRoom) "word" = some none)
    (ii_NoRoom : PySem.W.findIn K (.ref C_NoRoom) "__init__" = some (some (.ref I_NoRoom)))
    (tf_NoRoom : PySem.W.typeIn K (.ref I_NoRoom) = some (.type "function"))
    (lf_NoRoom : K.lookup I_NoRoom = some ⟨oc_NoRoom, od_NoRoom, .func (PySem.W.fnOf "__init__" "NoRoom.__init__" (PySem.Mve.iA_word p1_NoRoom p2_NoRoom) (PySem.Mve.iB_word q1_NoRoom q2_NoRoom q3_NoRoom q4_NoRoom) PySem.Mve.iS_word .none .none dc_NoRoom pm_NoRoom an_NoRoom cd_NoRoom ct_NoRoom), sl_NoRoom⟩)
    (cf_NoRoom : PySem.W.codeIn K cd_NoRoom "NoRoom.__init__" = true)
    (kc_NoRoom : PySem.W.keepIn K (.ref C_NoRoom) = true)
    (ec_NoRoom : PySem.W.subIn K (.ref C_NoRoom) (.type "BaseException") = some true)
    (tc_NoRoom : PySem.W.typeIn K (.ref C_NoRoom) = some (.type "type"))
    (hc_NoRoom : PySem.W.hasDictIn K C_NoRoom = true)
    (ic_NoRoom : PySem.W.isClsIn K C_NoRoom = true)
    (sc_NoRoom : PySem.W.subIn K (.ref C_NoRoom) (.ref C_NoRoom) = some true)
    (g_BadText : PySem.W.nsIn K mainGlobals "BadText" = some (some (.ref C_BadText)))
    (x_BadText : K.lookup C_BadText = some (excClassObj nm_BadText q_BadText C_BadText N_BadText bs_BadText (.ref D_BadText :: PySem.ESX.exTail) true sn_BadText sub_BadText ab_BadText col_BadText dd_BadText m0_BadText m1_BadText m2_BadText m3_BadText m5_BadText "Exception.__new__"))
    (sa_BadText : PySem.W.findIn K (.ref C_BadText) "__setattr__" = some (some (.builtin "object.__setattr__")))
    (ga_BadText : PySem.W.findIn K (.ref C_BadText) "__getattribute__" = some (some (.builtin "BaseException.__getattribute__")))
    (gg_BadText : PySem.W.findIn K (.ref C_BadText) "__getattr__" = some none)
    (nf_BadText : PySem.W.findIn K (.ref C_BadText) "at" = some none)
    (ii_BadText : PySem.W.findIn K (.ref C_BadText) "__init__" = some (some (.ref I_BadText)))
    (tf_BadText : PySem.W.typeIn K (.ref I_BadText) = some (.type "function"))
    (lf_BadText : K.lookup I_BadText = some ⟨oc_BadText, od_BadText, .func (PySem.W.fnOf "__init__" "BadText.__init__" (PySem.Mve.iA_at p1_BadText p2_BadText) (PySem.Mve.iB_at q1_BadText q2_BadText q3_BadText q4_BadText) PySem.Mve.iS_at .none .none dc_BadText pm_BadText an_BadText cd_BadText ct_BadText), sl_BadText⟩)
    (cf_BadText : PySem.W.codeIn K cd_BadText "BadText.__init__" = true)
    (kc_BadText : PySem.W.keepIn K (.ref C_BadText) = true)
    (ec_BadText : PySem.W.subIn K (.ref C_BadText) (.type "BaseException") = some true)
    (tc_BadText : PySem.W.typeIn K (.ref C_BadText) = some (.type "type"))
    (hc_BadText : PySem.W.hasDictIn K C_BadText = true)
    (ic_BadText : PySem.W.isClsIn K C_BadText = true)
    (sc_BadText : PySem.W.subIn K (.ref C_BadText) (.ref C_BadText) = some true)
    (g_BadPaper : PySem.W.nsIn K mainGlobals "BadPaper" = some (some (.ref C_BadPaper)))
    (x_BadPaper : K.lookup C_BadPaper = some (excClassObj nm_BadPaper q_BadPaper C_BadPaper N_BadPaper bs_BadPaper (.ref D_BadPaper :: PySem.ESX.exTail) true sn_BadPaper sub_BadPaper ab_BadPaper col_BadPaper dd_BadPaper m0_BadPaper m1_BadPaper m2_BadPaper m3_BadPaper m5_BadPaper "Exception.__new__"))
    (sa_BadPaper : PySem.W.findIn K (.ref C_BadPaper) "__setattr__" = some (some (.builtin "object.__setattr__")))
    (ga_BadPaper : PySem.W.findIn K (.ref C_BadPaper) "__getattribute__" = some (some (.builtin "BaseException.__getattribute__")))
    (gg_BadPaper : PySem.W.findIn K (.ref C_BadPaper) "__getattr__" = some none)
    (nf_BadPaper : PySem.W.findIn K (.ref C_BadPaper) "at" = some none)
    (ii_BadPaper : PySem.W.findIn K (.ref C_BadPaper) "__init__" = some (some (.ref I_BadPaper)))
    (tf_BadPaper : PySem.W.typeIn K (.ref I_BadPaper) = some (.type "function"))
    (lf_BadPaper : K.lookup I_BadPaper = some ⟨oc_BadPaper, od_BadPaper, .func (PySem.W.fnOf "__init__" "BadPaper.__init__" (PySem.Mve.iA_at p1_BadPaper p2_BadPaper) (PySem.Mve.iB_at q1_BadPaper q2_BadPaper q3_BadPaper q4_BadPaper) PySem.Mve.iS_at .none .none dc_BadPaper pm_BadPaper an_BadPaper cd_BadPaper ct_BadPaper), sl_BadPaper⟩)
    (cf_BadPaper : PySem.W.codeIn K cd_BadPaper "BadPaper.__init__" = true)
    (kc_BadPaper : PySem.W.keepIn K (.ref C_BadPaper) = true)
    (ec_BadPaper : PySem.W.subIn K (.ref C_BadPaper) (.type "BaseException") = some true)
    (tc_BadPaper : PySem.W.typeIn K (.ref C_BadPaper) = some (.type "type"))
    (hc_BadPaper : PySem.W.hasDictIn K C_BadPaper = true)
    (ic_BadPaper : PySem.W.isClsIn K C_BadPaper = true)
    (sc_BadPaper : PySem.W.subIn K (.ref C_BadPaper) (.ref C_BadPaper) = some true)
    (g_BadLine : PySem.W.nsIn K mainGlobals "BadLine" = some (some (.ref C_BadLine)))
    (x_BadLine : K.lookup C_BadLine = some (excClassObj nm_BadLine q_BadLine C_BadLine N_BadLine bs_BadLine (.ref D_BadLine :: PySem.ESX.exTail) true sn_BadLine sub_BadLine ab_BadLine col_BadLine dd_BadLine m0_BadLine m1_BadLine m2_BadLine m3_BadLine m5_BadLine "Exception.__new__"))
    (sa_BadLine : PySem.W.findIn K (.ref C_BadLine) "__setattr__" = some (some (.builtin "object.__setattr__")))
    (ga_BadLine : PySem.W.findIn K (.ref C_BadLine) "__getattribute__" = some (some (.builtin "BaseException.__getattribute__")))
    (gg_BadLine : PySem.W.findIn K (.ref C_BadLine) "__getattr__" = some none)
    (nf_BadLine : PySem.W.findIn K (.ref C_BadLine) "at" = some none)
    (ii_BadLine : PySem.W.findIn K (.ref C_BadLine) "__init__" = some (some (.ref I_BadLine)))
    (tf_BadLine : PySem.W.typeIn K (.ref I_BadLine) = some (.type "function"))
    (lf_BadLine : K.lookup I_BadLine = some ⟨oc_BadLine, od_BadLine, .func (PySem.W.fnOf "__init__" "BadLine.__init__" (PySem.Mve.iA_at p1_BadLine p2_BadLine) (PySem.Mve.iB_at q1_BadLine q2_BadLine q3_BadLine q4_BadLine) PySem.Mve.iS_at .none .none dc_BadLine pm_BadLine an_BadLine cd_BadLine ct_BadLine), sl_BadLine⟩)
    (cf_BadLine : PySem.W.codeIn K cd_BadLine "BadLine.__init__" = true)
    (kc_BadLine : PySem.W.keepIn K (.ref C_BadLine) = true)
    (ec_BadLine : PySem.W.subIn K (.ref C_BadLine) (.type "BaseException") = some true)
    (tc_BadLine : PySem.W.typeIn K (.ref C_BadLine) = some (.type "type"))
    (hc_BadLine : PySem.W.hasDictIn K C_BadLine = true)
    (ic_BadLine : PySem.W.isClsIn K C_BadLine = true)
    (sc_BadLine : PySem.W.subIn K (.ref C_BadLine) (.ref C_BadLine) = some true)
    (g_VaultError : PySem.W.nsIn K mainGlobals "VaultError" = some (some (.ref a_VaultError)))
    (sp_x : PySem.W.specialIn K (.builtin "object.__class__") "__get__" = some (some (.builtin "getset_descriptor.__get__")))
    (tk_x : PySem.W.takesIn K (.builtin "object.__class__") = some true)
    (cc_BadValue : PySem.W.findIn K (.ref C_BadValue) "__class__" = some (some (.builtin "object.__class__")))
    (mo_BadValue : PySem.W.mroIn K C_BadValue (.type "object") = some true)
    (kv_BadValue : PySem.W.kitOne K (.ref C_BadValue) (.ref a_VaultError) = some true)
    (cc_Beyond : PySem.W.findIn K (.ref C_Beyond) "__class__" = some (some (.builtin "object.__class__")))
    (mo_Beyond : PySem.W.mroIn K C_Beyond (.type "object") = some true)
    (kv_Beyond : PySem.W.kitOne K (.ref C_Beyond) (.ref a_VaultError) = some true)
    (cc_BadName : PySem.W.findIn K (.ref C_BadName) "__class__" = some (some (.builtin "object.__class__")))
    (mo_BadName : PySem.W.mroIn K C_BadName (.type "object") = some true)
    (kv_BadName : PySem.W.kitOne K (.ref C_BadName) (.ref a_VaultError) = some true)
    (cc_NothingThere : PySem.W.findIn K (.ref C_NothingThere) "__class__" = some (some (.builtin "object.__class__")))
    (mo_NothingThere : PySem.W.mroIn K C_NothingThere (.type "object") = some true)
    (kv_NothingThere : PySem.W.kitOne K (.ref C_NothingThere) (.ref a_VaultError) = some true)
    (cc_NoRoom : PySem.W.findIn K (.ref C_NoRoom) "__class__" = some (some (.builtin "object.__class__")))
    (mo_NoRoom : PySem.W.mroIn K C_NoRoom (.type "object") = some true)
    (kv_NoRoom : PySem.W.kitOne K (.ref C_NoRoom) (.ref a_VaultError) = some true)
    (cc_BadText : PySem.W.findIn K (.ref C_BadText) "__class__" = some (some (.builtin "object.__class__")))
    (mo_BadText : PySem.W.mroIn K C_BadText (.type "object") = some true)
    (kv_BadText : PySem.W.kitOne K (.ref C_BadText) (.ref a_VaultError) = some true)
    (cc_BadPaper : PySem.W.findIn K (.ref C_BadPaper) "__class__" = some (some (.builtin "object.__class__")))
    (mo_BadPaper : PySem.W.mroIn K C_BadPaper (.type "object") = some true)
    (kv_BadPaper : PySem.W.kitOne K (.ref C_BadPaper) (.ref a_VaultError) = some true)
    (cc_BadLine : PySem.W.findIn K (.ref C_BadLine) "__class__" = some (some (.builtin "object.__class__")))
    (mo_BadLine : PySem.W.mroIn K C_BadLine (.type "object") = some true)
    (kv_BadLine : PySem.W.kitOne K (.ref C_BadLine) (.ref a_VaultError) = some true)
    (ev_V : PySem.W.subIn K (.ref a_VaultError) (.type "BaseException") = some true)
    (hv_V : PySem.W.hasDictIn K a_VaultError = true)
    (tv_V : PySem.W.typeIn K (.ref a_VaultError) = some (.type "type"))
    (kk_0_0 : PySem.W.kitOne K (.ref C_BadValue) (.ref C_BadValue) = some true)
    (kk_0_1 : PySem.W.kitOne K (.ref C_BadValue) (.ref C_BadText) = some false)
    (xx_0_1 : PySem.W.subIn K (.ref C_BadValue) (.ref C_BadText) = some false)
    (kk_0_2 : PySem.W.kitOne K (.ref C_BadValue) (.ref C_BadPaper) = some false)
    (xx_0_2 : PySem.W.subIn K (.ref C_BadValue) (.ref C_BadPaper) = some false)
    (kk_0_3 : PySem.W.kitOne K (.ref C_BadValue) (.ref C_BadLine) = some false)
    (xx_0_3 : PySem.W.subIn K (.ref C_BadValue) (.ref C_BadLine) = some false)
    (kk_0_4 : PySem.W.kitOne K (.ref C_BadValue) (.ref C_Beyond) = some false)
    (xx_0_4 : PySem.W.subIn K (.ref C_BadValue) (.ref C_Beyond) = some false)
    (kk_0_5 : PySem.W.kitOne K (.ref C_BadValue) (.ref C_NoRoom) = some false)
    (xx_0_5 : PySem.W.subIn K (.ref C_BadValue) (.ref C_NoRoom) = some false)
    (kk_0_6 : PySem.W.kitOne K (.ref C_BadValue) (.ref C_BadName) = some false)
    (xx_0_6 : PySem.W.subIn K (.ref C_BadValue) (.ref C_BadName) = some false)
    (kk_0_7 : PySem.W.kitOne K (.ref C_BadValue) (.ref C_NothingThere) = some false)
    (xx_0_7 : PySem.W.subIn K (.ref C_BadValue) (.ref C_NothingThere) = some false)
    (ke_0 : PySem.W.kitOne K (.ref C_BadValue) (.type "Exception") = some true)
    (kq_0 : PySem.W.kitOne K (.ref C_BadValue) (.type "ValueError") = some false)
    (xv_0 : PySem.W.subIn K (.ref C_BadValue) (.ref a_VaultError) = some true)
    (kk_1_0 : PySem.W.kitOne K (.ref C_BadText) (.ref C_BadValue) = some false)
    (xx_1_0 : PySem.W.subIn K (.ref C_BadText) (.ref C_BadValue) = some false)
    (kk_1_1 : PySem.W.kitOne K (.ref C_BadText) (.ref C_BadText) = some true)
    (kk_1_2 : PySem.W.kitOne K (.ref C_BadText) (.ref C_BadPaper) = some false)
    (xx_1_2 : PySem.W.subIn K (.ref C_BadText) (.ref C_BadPaper) = some false)
    (kk_1_3 : PySem.W.kitOne K (.ref C_BadText) (.ref C_BadLine) = some false)
    (xx_1_3 : PySem.W.subIn K (.ref C_BadText) (.ref C_BadLine) = some false)
    (kk_1_4 : PySem.W.kitOne K (.ref C_BadText) (.ref C_Beyond) = some false)
    (xx_1_4 : PySem.W.subIn K (.ref C_BadText) (.ref C_Beyond) = some false)
    (kk_1_5 : PySem.W.kitOne K (.ref C_BadText) (.ref C_NoRoom) = some false)
    (xx_1_5 : PySem.W.subIn K (.ref C_BadText) (.ref C_NoRoom) = some false)
    (kk_1_6 : PySem.W.kitOne K (.ref C_BadText) (.ref C_BadName) = some false)
    (xx_1_6 : PySem.W.subIn K (.ref C_BadText) (.ref C_BadName) = some false)
    (kk_1_7 : PySem.W.kitOne K (.ref C_BadText) (.ref C_NothingThere) = some false)
    (xx_1_7 : PySem.W.subIn K (.ref C_BadText) (.ref C_NothingThere) = some false)
    (ke_1 : PySem.W.kitOne K (.ref C_BadText) (.type "Exception") = some true)
    (kq_1 : PySem.W.kitOne K (.ref C_BadText) (.type "ValueError") = some false)
    (xv_1 : PySem.W.subIn K (.ref C_BadText) (.ref a_VaultError) = some true)
    (kk_2_0 : PySem.W.kitOne K (.ref C_BadPaper) (.ref C_BadValue) = some false)
    (xx_2_0 : PySem.W.subIn K (.ref C_BadPaper) (.ref C_BadValue) = some false)
    (kk_2_1 : PySem.W.kitOne K (.ref C_BadPaper) (.ref C_BadText) = some false)
    (xx_2_1 : PySem.W.subIn K (.ref C_BadPaper) (.ref C_BadText) = some false)
    (kk_2_2 : PySem.W.kitOne K (.ref C_BadPaper) (.ref C_BadPaper) = some true)
    (kk_2_3 : PySem.W.kitOne K (.ref C_BadPaper) (.ref C_BadLine) = some false)
    (xx_2_3 : PySem.W.subIn K (.ref C_BadPaper) (.ref C_BadLine) = some false)
    (kk_2_4 : PySem.W.kitOne K (.ref C_BadPaper) (.ref C_Beyond) = some false)
    (xx_2_4 : PySem.W.subIn K (.ref C_BadPaper) (.ref C_Beyond) = some false)
    (kk_2_5 : PySem.W.kitOne K (.ref C_BadPaper) (.ref C_NoRoom) = some false)
    (xx_2_5 : PySem.W.subIn K (.ref C_BadPaper) (.ref C_NoRoom) = some false)
    (kk_2_6 : PySem.W.kitOne K (.ref C_BadPaper) (.ref C_BadName) = some false)
    (xx_2_6 : PySem.W.subIn K (.ref C_BadPaper) (.ref C_BadName) = some false)
    (kk_2_7 : PySem.W.kitOne K (.ref C_BadPaper) (.ref C_NothingThere) = some false)
    (xx_2_7 : PySem.W.subIn K (.ref C_BadPaper) (.ref C_NothingThere) = some false)
    (ke_2 : PySem.W.kitOne K (.ref C_BadPaper) (.type "Exception") = some true)
    (kq_2 : PySem.W.kitOne K (.ref C_BadPaper) (.type "ValueError") = some false)
    (xv_2 : PySem.W.subIn K (.ref C_BadPaper) (.ref a_VaultError) = some true)
    (kk_3_0 : PySem.W.kitOne K (.ref C_BadLine) (.ref C_BadValue) = some false)
    (xx_3_0 : PySem.W.subIn K (.ref C_BadLine) (.ref C_BadValue) = some false)
    (kk_3_1 : PySem.W.kitOne K (.ref C_BadLine) (.ref C_BadText) = some false)
    (xx_3_1 : PySem.W.subIn K (.ref C_BadLine) (.ref C_BadText) = some false)
    (kk_3_2 : PySem.W.kitOne K (.ref C_BadLine) (.ref C_BadPaper) = some false)
    (xx_3_2 : PySem.W.subIn K (.ref C_BadLine) (.ref C_BadPaper) = some false)
    (kk_3_3 : PySem.W.kitOne K (.ref C_BadLine) (.ref C_BadLine) = some true)
    (kk_3_4 : PySem.W.kitOne K (.ref C_BadLine) (.ref C_Beyond) = some false)
    (xx_3_4 : PySem.W.subIn K (.ref C_BadLine) (.ref C_Beyond) = some false)
    (kk_3_5 : PySem.W.kitOne K (.ref C_BadLine) (.ref C_NoRoom) = some false)
    (xx_3_5 : PySem.W.subIn K (.ref C_BadLine) (.ref C_NoRoom) = some false)
    (kk_3_6 : PySem.W.kitOne K (.ref C_BadLine) (.ref C_BadName) = some false)
    (xx_3_6 : PySem.W.subIn K (.ref C_BadLine) (.ref C_BadName) = some false)
    (kk_3_7 : PySem.W.kitOne K (.ref C_BadLine) (.ref C_NothingThere) = some false)
    (xx_3_7 : PySem.W.subIn K (.ref C_BadLine) (.ref C_NothingThere) = some false)
    (ke_3 : PySem.W.kitOne K (.ref C_BadLine) (.type "Exception") = some true)
    (kq_3 : PySem.W.kitOne K (.ref C_BadLine) (.type "ValueError") = some false)
    (xv_3 : PySem.W.subIn K (.ref C_BadLine) (.ref a_VaultError) = some true)
    (kk_4_0 : PySem.W.kitOne K (.ref C_Beyond) (.ref C_BadValue) = some false)
    (xx_4_0 : PySem.W.subIn K (.ref C_Beyond) (.ref C_BadValue) = some false)
    (kk_4_1 : PySem.W.kitOne K (.ref C_Beyond) (.ref C_BadText) = some false)
    (xx_4_1 : PySem.W.subIn K (.ref C_Beyond) (.ref C_BadText) = some false)
    (kk_4_2 : PySem.W.kitOne K (.ref C_Beyond) (.ref C_BadPaper) = some false)
    (xx_4_2 : PySem.W.subIn K (.ref C_Beyond) (.ref C_BadPaper) = some false)
    (kk_4_3 : PySem.W.kitOne K (.ref C_Beyond) (.ref C_BadLine) = some false)
    (xx_4_3 : PySem.W.subIn K (.ref C_Beyond) (.ref C_BadLine) = some false)
    (kk_4_4 : PySem.W.kitOne K (.ref C_Beyond) (.ref C_Beyond) = some true)
    (kk_4_5 : PySem.W.kitOne K (.ref C_Beyond) (.ref C_NoRoom) = some false)
    (xx_4_5 : PySem.W.subIn K (.ref C_Beyond) (.ref C_NoRoom) = some false)
    (kk_4_6 : PySem.W.kitOne K (.ref C_Beyond) (.ref C_BadName) = some false)
    (xx_4_6 : PySem.W.subIn K (.ref C_Beyond) (.ref C_BadName) = some false)
    (kk_4_7 : PySem.W.kitOne K (.ref C_Beyond) (.ref C_NothingThere) = some false)
    (xx_4_7 : PySem.W.subIn K (.ref C_Beyond) (.ref C_NothingThere) = some false)
    (ke_4 : PySem.W.kitOne K (.ref C_Beyond) (.type "Exception") = some true)
    (kq_4 : PySem.W.kitOne K (.ref C_Beyond) (.type "ValueError") = some false)
    (xv_4 : PySem.W.subIn K (.ref C_Beyond) (.ref a_VaultError) = some true)
    (kk_5_0 : PySem.W.kitOne K (.ref C_NoRoom) (.ref C_BadValue) = some false)
    (xx_5_0 : PySem.W.subIn K (.ref C_NoRoom) (.ref C_BadValue) = some false)
    (kk_5_1 : PySem.W.kitOne K (.ref C_NoRoom) (.ref C_BadText) = some false)
    (xx_5_1 : PySem.W.subIn K (.ref C_NoRoom) (.ref C_BadText) = some false)
    (kk_5_2 : PySem.W.kitOne K (.ref C_NoRoom) (.ref C_BadPaper) = some false)
    (xx_5_2 : PySem.W.subIn K (.ref C_NoRoom) (.ref C_BadPaper) = some false)
    (kk_5_3 : PySem.W.kitOne K (.ref C_NoRoom) (.ref C_BadLine) = some false)
    (xx_5_3 : PySem.W.subIn K (.ref C_NoRoom) (.ref C_BadLine) = some false)
    (kk_5_4 : PySem.W.kitOne K (.ref C_NoRoom) (.ref C_Beyond) = some false)
    (xx_5_4 : PySem.W.subIn K (.ref C_NoRoom) (.ref C_Beyond) = some false)
    (kk_5_5 : PySem.W.kitOne K (.ref C_NoRoom) (.ref C_NoRoom) = some true)
    (kk_5_6 : PySem.W.kitOne K (.ref C_NoRoom) (.ref C_BadName) = some false)
    (xx_5_6 : PySem.W.subIn K (.ref C_NoRoom) (.ref C_BadName) = some false)
    (kk_5_7 : PySem.W.kitOne K (.ref C_NoRoom) (.ref C_NothingThere) = some false)
    (xx_5_7 : PySem.W.subIn K (.ref C_NoRoom) (.ref C_NothingThere) = some false)
    (ke_5 : PySem.W.kitOne K (.ref C_NoRoom) (.type "Exception") = some true)
    (kq_5 : PySem.W.kitOne K (.ref C_NoRoom) (.type "ValueError") = some false)
    (xv_5 : PySem.W.subIn K (.ref C_NoRoom) (.ref a_VaultError) = some true)
    (kk_6_0 : PySem.W.kitOne K (.ref C_BadName) (.ref C_BadValue) = some false)
    (xx_6_0 : PySem.W.subIn K (.ref C_BadName) (.ref C_BadValue) = some false)
    (kk_6_1 : PySem.W.kitOne K (.ref C_BadName) (.ref C_BadText) = some false)
    (xx_6_1 : PySem.W.subIn K (.ref C_BadName) (.ref C_BadText) = some false)
    (kk_6_2 : PySem.W.kitOne K (.ref C_BadName) (.ref C_BadPaper) = some false)
    (xx_6_2 : PySem.W.subIn K (.ref C_BadName) (.ref C_BadPaper) = some false)
    (kk_6_3 : PySem.W.kitOne K (.ref C_BadName) (.ref C_BadLine) = some false)
    (xx_6_3 : PySem.W.subIn K (.ref C_BadName) (.ref C_BadLine) = some false)
    (kk_6_4 : PySem.W.kitOne K (.ref C_BadName) (.ref C_Beyond) = some false)
    (xx_6_4 : PySem.W.subIn K (.ref C_BadName) (.ref C_Beyond) = some false)
    (kk_6_5 : PySem.W.kitOne K (.ref C_BadName) (.ref C_NoRoom) = some false)
    (xx_6_5 : PySem.W.subIn K (.ref C_BadName) (.ref C_NoRoom) = some false)
    (kk_6_6 : PySem.W.kitOne K (.ref C_BadName) (.ref C_BadName) = some true)
    (kk_6_7 : PySem.W.kitOne K (.ref C_BadName) (.ref C_NothingThere) = some false)
    (xx_6_7 : PySem.W.subIn K (.ref C_BadName) (.ref C_NothingThere) = some false)
    (ke_6 : PySem.W.kitOne K (.ref C_BadName) (.type "Exception") = some true)
    (kq_6 : PySem.W.kitOne K (.ref C_BadName) (.type "ValueError") = some false)
    (xv_6 : PySem.W.subIn K (.ref C_BadName) (.ref a_VaultError) = some true)
    (kk_7_0 : PySem.W.kitOne K (.ref C_NothingThere) (.ref C_BadValue) = some false)
    (xx_7_0 : PySem.W.subIn K (.ref C_NothingThere) (.ref C_BadValue) = some false)
    (kk_7_1 : PySem.W.kitOne K (.ref C_NothingThere) (.ref C_BadText) = some false)
    (xx_7_1 : PySem.W.subIn K (.ref C_NothingThere) (.ref C_BadText) = some false)
    (kk_7_2 : PySem.W.kitOne K (.ref C_NothingThere) (.ref C_BadPaper) = some false)
    (xx_7_2 : PySem.W.subIn K (.ref C_NothingThere) (.ref C_BadPaper) = some false)
    (kk_7_3 : PySem.W.kitOne K (.ref C_NothingThere) (.ref C_BadLine) = some false)
    (xx_7_3 : PySem.W.subIn K (.ref C_NothingThere) (.ref C_BadLine) = some false)
    (kk_7_4 : PySem.W.kitOne K (.ref C_NothingThere) (.ref C_Beyond) = some false)
    (xx_7_4 : PySem.W.subIn K (.ref C_NothingThere) (.ref C_Beyond) = some false)
    (kk_7_5 : PySem.W.kitOne K (.ref C_NothingThere) (.ref C_NoRoom) = some false)
    (xx_7_5 : PySem.W.subIn K (.ref C_NothingThere) (.ref C_NoRoom) = some false)
    (kk_7_6 : PySem.W.kitOne K (.ref C_NothingThere) (.ref C_BadName) = some false)
    (xx_7_6 : PySem.W.subIn K (.ref C_NothingThere) (.ref C_BadName) = some false)
    (kk_7_7 : PySem.W.kitOne K (.ref C_NothingThere) (.ref C_NothingThere) = some true)
    (ke_7 : PySem.W.kitOne K (.ref C_NothingThere) (.type "Exception") = some true)
    (kq_7 : PySem.W.kitOne K (.ref C_NothingThere) (.type "ValueError") = some false)
    (xv_7 : PySem.W.subIn K (.ref C_NothingThere) (.ref a_VaultError) = some true) :
    ∃ fd : FuncData, (∀ (s : Shared) (v : Value), BindsTo s fd ⟨[v], []⟩ [("script", v)]) ∧ ∀ base : Heap, K.In base → base.Ns mainGlobals mg → FnOk l.prog w K mg base CX0 4 fa fd ["script"] (spLaw K) := by
  have e := hfa.symm.trans (PySem.W.mg_of X G a_law)
  cases e
  have T : Txt mg := ⟨PySem.W.mg_none_of X G z_Exception, PySem.W.mg_none_of X G z_ValueError, PySem.W.mg_none_of X G z_bool, PySem.W.mg_none_of X G z_int, PySem.W.mg_none_of X G z_isinstance, PySem.W.mg_none_of X G z_len, PySem.W.mg_none_of X G z_max, PySem.W.mg_none_of X G z_range, PySem.W.mg_none_of X G z_str⟩
  have F_law_cell := fun_mk (st := s_law_cell) l_law_cell c_law_cell k_law_cell
  have m_law_cell := PySem.W.mg_of X G a_law_cell
  have b_law_cell := F_law_cell.binds (ps := ["script", "k"]) fun _ _ _ _ _ _ us hl => match us, hl with | [_, _], _ => rfl
  have F_law_mix := fun_mk (st := s_law_mix) l_law_mix c_law_mix k_law_mix
  have m_law_mix := PySem.W.mg_of X G a_law_mix
  have b_law_mix := F_law_mix.binds (ps := ["cell", "salt"]) fun _ _ _ _ _ _ us hl => match us, hl with | [_, _], _ => rfl
  have F_law_box := fun_mk (st := s_law_box) l_law_box c_law_box k_law_box
  have m_law_box := PySem.W.mg_of X G a_law_box
  have b_law_box := F_law_box.binds (ps := ["script", "at"]) fun _ _ _ _ _ _ us hl => match us, hl with | [_, _], _ => rfl
  have F_law_draw := fun_mk (st := s_law_draw) l_law_draw c_law_draw k_law_draw
  have m_law_draw := PySem.W.mg_of X G a_law_draw
  have b_law_draw := F_law_draw.binds (ps := ["box", "many"]) fun _ _ _ _ _ _ us hl => match us, hl with | [_, _], _ => rfl
  have F_law_text := fun_mk (st := s_law_text) l_law_text c_law_text k_law_text
  have m_law_text := PySem.W.mg_of X G a_law_text
  have b_law_text := F_law_text.binds (ps := ["box"]) fun _ _ _ _ _ _ us hl => match us, hl with | [_], _ => rfl
  have F_law_is_number := fun_mk (st := s_law_is_number) l_law_is_number c_law_is_number k_law_is_number
  have m_law_is_number := PySem.W.mg_of X G a_law_is_number
  have b_law_is_number := F_law_is_number.binds (ps := ["told", "due"]) fun _ _ _ _ _ _ us hl => match us, hl with | [_, _], _ => rfl
  have F_law_is_text := fun_mk (st := s_law_is_text) l_law_is_text c_law_is_text k_law_is_text
  have m_law_is_text := PySem.W.mg_of X G a_law_is_text
  have b_law_is_text := F_law_is_text.binds (ps := ["told", "due"]) fun _ _ _ _ _ _ us hl => match us, hl with | [_, _], _ => rfl
  have F_law_alone := fun_mk (st := s_law_alone) l_law_alone c_law_alone k_law_alone
  have m_law_alone := PySem.W.mg_of X G a_law_alone
  have b_law_alone := F_law_alone.binds (ps := ["made", "kind"]) fun _ _ _ _ _ _ us hl => match us, hl with | [_, _], _ => rfl
  have F_law_numbered := fun_mk (st := s_law_numbered) l_law_numbered c_law_numbered k_law_numbered
  have m_law_numbered := PySem.W.mg_of X G a_law_numbered
  have b_law_numbered := F_law_numbered.binds (ps := ["at", "other"]) fun _ _ _ _ _ _ us hl => match us, hl with | [_, _], _ => rfl
  have F_law_worded := fun_mk (st := s_law_worded) l_law_worded c_law_worded k_law_worded
  have m_law_worded := PySem.W.mg_of X G a_law_worded
  have b_law_worded := F_law_worded.binds (ps := ["word", "other"]) fun _ _ _ _ _ _ us hl => match us, hl with | [_, _], _ => rfl
  have F_law_raise := fun_mk (st := s_law_raise) l_law_raise c_law_raise k_law_raise
  have m_law_raise := PySem.W.mg_of X G a_law_raise
  have b_law_raise := F_law_raise.binds (ps := ["kind", "at", "word"]) fun _ _ _ _ _ _ us hl => match us, hl with | [_, _, _], _ => rfl
  have F_law_caught := fun_mk (st := s_law_caught) l_law_caught c_law_caught k_law_caught
  have m_law_caught := PySem.W.mg_of X G a_law_caught
  have b_law_caught := F_law_caught.binds (ps := ["kind", "at", "word"]) fun _ _ _ _ _ _ us hl => match us, hl with | [_, _, _], _ => rfl
  have F_law_beneath := fun_mk (st := s_law_beneath) l_law_beneath c_law_beneath k_law_beneath
  have m_law_beneath := PySem.W.mg_of X G a_law_beneath
  have b_law_beneath := F_law_beneath.binds (ps := ["kind", "at", "word"]) fun _ _ _ _ _ _ us hl => match us, hl with | [_, _, _], _ => rfl
  have F_law := fun_mk (st := s_law) l_law c_law k_law
  have m_law := PySem.W.mg_of X G a_law
  have b_law := F_law.binds (ps := ["script"]) fun _ _ _ _ _ _ us hl => match us, hl with | [_], _ => rfl
  have E_BadValue : EAt "BadValue" "BadValue.__init__" K mg C_BadValue D_BadValue I_BadValue := { gC := PySem.W.mg_of X G g_BadValue, cls := ⟨nm_BadValue, q_BadValue, N_BadValue, bs_BadValue, sn_BadValue, sub_BadValue, ab_BadValue, col_BadValue, dd_BadValue, m0_BadValue, m1_BadValue, m2_BadValue, m3_BadValue, m5_BadValue, x_BadValue⟩, sa := sa_BadValue, ga := ga_BadValue, gg := gg_BadValue, noN := nf_BadValue, iC := ii_BadValue, tC := tf_BadValue, kC := kc_BadValue, exC := ec_BadValue, tyC := tc_BadValue, hdC := hc_BadValue, te := exm_own ec_BadValue ic_BadValue tc_BadValue sc_BadValue, fn := ⟨_, _, _, _, _, _, _, _, _, _, _, _, _, _, lf_BadValue, cf_BadValue⟩ }
  have E_Beyond : EWd "Beyond" "Beyond.__init__" K mg C_Beyond D_Beyond I_Beyond := { gC := PySem.W.mg_of X G g_Beyond, cls := ⟨nm_Beyond, q_Beyond, N_Beyond, bs_Beyond, sn_Beyond, sub_Beyond, ab_Beyond, col_Beyond, dd_Beyond, m0_Beyond, m1_Beyond, m2_Beyond, m3_Beyond, m5_Beyond, x_Beyond⟩, sa := sa_Beyond, ga := ga_Beyond, gg := gg_Beyond, noN := nf_Beyond, iC := ii_Beyond, tC := tf_Beyond, kC := kc_Beyond, exC := ec_Beyond, tyC := tc_Beyond, hdC := hc_Beyond, te := exm_own ec_Beyond ic_Beyond tc_Beyond sc_Beyond, fn := ⟨_, _, _, _, _, _, _, _, _, _, _, _, _, _, lf_Beyond, cf_Beyond⟩ }
  have E_BadName : ENm "BadName" "BadName.__init__" K mg C_BadName D_BadName I_BadName := { gC := PySem.W.mg_of X G g_BadName, cls := ⟨nm_BadName, q_BadName, N_BadName, bs_BadName, sn_BadName, sub_BadName, ab_BadName, col_BadName, dd_BadName, m0_BadName, m1_BadName, m2_BadName, m3_BadName, m5_BadName, x_BadName⟩, sa := sa_BadName, ga := ga_BadName, gg := gg_BadName, noN := nf_BadName, iC := ii_BadName, tC := tf_BadName, kC := kc_BadName, exC := ec_BadName, tyC := tc_BadName, hdC := hc_BadName, te := exm_own ec_BadName ic_BadName tc_BadName sc_BadName, fn := ⟨_, _, _, _, _, _, _, _, _, _, _, _, _, _, lf_BadName, cf_BadName⟩ }
  have E_NothingThere : ENm "NothingThere" "NothingThere.__init__" K mg C_NothingThere D_NothingThere I_NothingThere := { gC := PySem.W.mg_of X G g_NothingThere, cls := ⟨nm_NothingThere, q_NothingThere, N_NothingThere, bs_NothingThere, sn_NothingThere, sub_NothingThere, ab_NothingThere, col_NothingThere, dd_NothingThere, m0_NothingThere, m1_NothingThere, m2_NothingThere, m3_NothingThere, m5_NothingThere, x_NothingThere⟩, sa := sa_NothingThere, ga := ga_NothingThere, gg := gg_NothingThere, noN := nf_NothingThere, iC := ii_NothingThere, tC := tf_NothingThere, kC := kc_NothingThere, exC := ec_NothingThere, tyC := tc_NothingThere, hdC := hc_NothingThere, te := exm_own ec_NothingThere ic_NothingThere tc_NothingThere sc_NothingThere, fn := ⟨_, _, _, _, _, _, _, _, _, _, _, _, _, _, lf_NothingThere, cf_NothingThere⟩ }
  have E_NoRoom : EWd "NoRoom" "NoRoom.__init__" K mg C_NoRoom D_NoRoom I_NoRoom := { gC := PySem.W.mg_of X G g_NoRoom, cls := ⟨nm_NoRoom, q_NoRoom, N_NoRoom, bs_NoRoom, sn_NoRoom, sub_NoRoom, ab_NoRoom, col_NoRoom, dd_NoRoom, m0_NoRoom, m1_NoRoom, m2_NoRoom, m3_NoRoom, m5_NoRoom, x_NoRoom⟩, sa := sa_NoRoom, ga := ga_NoRoom, gg := gg_NoRoom, noN := nf_NoRoom, iC := ii_NoRoom, tC := tf_NoRoom, kC := kc_NoRoom, exC := ec_NoRoom, tyC := tc_NoRoom, hdC := hc_NoRoom, te := exm_own ec_NoRoom ic_NoRoom tc_NoRoom sc_NoRoom, fn := ⟨_, _, _, _, _, _, _, _, _, _, _, _, _, _, lf_NoRoom, cf_NoRoom⟩ }
  have E_BadText : EAt "BadText" "BadText.__init__" K mg C_BadText D_BadText I_BadText := { gC := PySem.W.mg_of X G g_BadText, cls := ⟨nm_BadText, q_BadText, N_BadText, bs_BadText, sn_BadText, sub_BadText, ab_BadText, col_BadText, dd_BadText, m0_BadText, m1_BadText, m2_BadText, m3_BadText, m5_BadText, x_BadText⟩, sa := sa_BadText, ga := ga_BadText, gg := gg_BadText, noN := nf_BadText, iC := ii_BadText, tC := tf_BadText, kC := kc_BadText, exC := ec_BadText, tyC := tc_BadText, hdC := hc_BadText, te := exm_own ec_BadText ic_BadText tc_BadText sc_BadText, fn := ⟨_, _, _, _, _, _, _, _, _, _, _, _, _, _, lf_BadText, cf_BadText⟩ }
  have E_BadPaper : EAt "BadPaper" "BadPaper.__init__" K mg C_BadPaper D_BadPaper I_BadPaper := { gC := PySem.W.mg_of X G g_BadPaper, cls := ⟨nm_BadPaper, q_BadPaper, N_BadPaper, bs_BadPaper, sn_BadPaper, sub_BadPaper, ab_BadPaper, col_BadPaper, dd_BadPaper, m0_BadPaper, m1_BadPaper, m2_BadPaper, m3_BadPaper, m5_BadPaper, x_BadPaper⟩, sa := sa_BadPaper, ga := ga_BadPaper, gg := gg_BadPaper, noN := nf_BadPaper, iC := ii_BadPaper, tC := tf_BadPaper, kC := kc_BadPaper, exC := ec_BadPaper, tyC := tc_BadPaper, hdC := hc_BadPaper, te := exm_own ec_BadPaper ic_BadPaper tc_BadPaper sc_BadPaper, fn := ⟨_, _, _, _, _, _, _, _, _, _, _, _, _, _, lf_BadPaper, cf_BadPaper⟩ }
  have E_BadLine : EAt "BadLine" "BadLine.__init__" K mg C_BadLine D_BadLine I_BadLine := { gC := PySem.W.mg_of X G g_BadLine, cls := ⟨nm_BadLine, q_BadLine, N_BadLine, bs_BadLine, sn_BadLine, sub_BadLine, ab_BadLine, col_BadLine, dd_BadLine, m0_BadLine, m1_BadLine, m2_BadLine, m3_BadLine, m5_BadLine, x_BadLine⟩, sa := sa_BadLine, ga := ga_BadLine, gg := gg_BadLine, noN := nf_BadLine, iC := ii_BadLine, tC := tf_BadLine, kC := kc_BadLine, exC := ec_BadLine, tyC := tc_BadLine, hdC := hc_BadLine, te := exm_own ec_BadLine ic_BadLine tc_BadLine sc_BadLine, fn := ⟨_, _, _, _, _, _, _, _, _, _, _, _, _, _, lf_BadLine, cf_BadLine⟩ }
  have XI_BadValue : ErrC K C_BadValue := ⟨ic_BadValue, ga_BadValue, gg_BadValue, ec_BadValue, cc_BadValue, sp_x, tk_x, mo_BadValue⟩
  have XI_Beyond : ErrC K C_Beyond := ⟨ic_Beyond, ga_Beyond, gg_Beyond, ec_Beyond, cc_Beyond, sp_x, tk_x, mo_Beyond⟩
  have XI_BadName : ErrC K C_BadName := ⟨ic_BadName, ga_BadName, gg_BadName, ec_BadName, cc_BadName, sp_x, tk_x, mo_BadName⟩
  have XI_NothingThere : ErrC K C_NothingThere := ⟨ic_NothingThere, ga_NothingThere, gg_NothingThere, ec_NothingThere, cc_NothingThere, sp_x, tk_x, mo_NothingThere⟩
  have XI_NoRoom : ErrC K C_NoRoom := ⟨ic_NoRoom, ga_NoRoom, gg_NoRoom, ec_NoRoom, cc_NoRoom, sp_x, tk_x, mo_NoRoom⟩
  have XI_BadText : ErrC K C_BadText := ⟨ic_BadText, ga_BadText, gg_BadText, ec_BadText, cc_BadText, sp_x, tk_x, mo_BadText⟩
  have XI_BadPaper : ErrC K C_BadPaper := ⟨ic_BadPaper, ga_BadPaper, gg_BadPaper, ec_BadPaper, cc_BadPaper, sp_x, tk_x, mo_BadPaper⟩
  have XI_BadLine : ErrC K C_BadLine := ⟨ic_BadLine, ga_BadLine, gg_BadLine, ec_BadLine, cc_BadLine, sp_x, tk_x, mo_BadLine⟩
  have m_VaultError := PySem.W.mg_of X G g_VaultError
  refine ⟨PySem.W.fnOf "law" "law" (defArgs s_law) (defBody s_law) (defScope s_law) .none kV_law dc_law pm_law an_law cd_law ct_law, fun s v => .of_eq rfl, fun base _ _ => ?_⟩
  let e8 : Er8 := ⟨C_BadValue, C_BadText, C_BadPaper, C_BadLine, C_Beyond, C_NoRoom, C_BadName, C_NothingThere, a_VaultError⟩
  have M : Er8M _ e8 := ⟨E_BadValue.gC, E_BadText.gC, E_BadPaper.gC, E_BadLine.gC, E_Beyond.gC, E_NoRoom.gC, E_BadName.gC, E_NothingThere.gC, m_VaultError⟩
  have ek : ∀ n, n < 8 → ErK K e8 n := fun n hn => by
    match n, hn with
    | 0, _ => exact ⟨XI_BadValue, kk_0_0, kk_0_1, kk_0_2, kk_0_3, kk_0_4, kk_0_5, kk_0_6, kk_0_7, kv_BadValue, ke_0, kq_0⟩
    | 1, _ => exact ⟨XI_BadText, kk_1_0, kk_1_1, kk_1_2, kk_1_3, kk_1_4, kk_1_5, kk_1_6, kk_1_7, kv_BadText, ke_1, kq_1⟩
    | 2, _ => exact ⟨XI_BadPaper, kk_2_0, kk_2_1, kk_2_2, kk_2_3, kk_2_4, kk_2_5, kk_2_6, kk_2_7, kv_BadPaper, ke_2, kq_2⟩
    | 3, _ => exact ⟨XI_BadLine, kk_3_0, kk_3_1, kk_3_2, kk_3_3, kk_3_4, kk_3_5, kk_3_6, kk_3_7, kv_BadLine, ke_3, kq_3⟩
    | 4, _ => exact ⟨XI_Beyond, kk_4_0, kk_4_1, kk_4_2, kk_4_3, kk_4_4, kk_4_5, kk_4_6, kk_4_7, kv_Beyond, ke_4, kq_4⟩
    | 5, _ => exact ⟨XI_NoRoom, kk_5_0, kk_5_1, kk_5_2, kk_5_3, kk_5_4, kk_5_5, kk_5_6, kk_5_7, kv_NoRoom, ke_5, kq_5⟩
    | 6, _ => exact ⟨XI_BadName, kk_6_0, kk_6_1, kk_6_2, kk_6_3, kk_6_4, kk_6_5, kk_6_6, kk_6_7, kv_BadName, ke_6, kq_6⟩
    | 7, _ => exact ⟨XI_NothingThere, kk_7_0, kk_7_1, kk_7_2, kk_7_3, kk_7_4, kk_7_5, kk_7_6, kk_7_7, kv_NothingThere, ke_7, kq_7⟩
  have xm : ∀ n j, n < 8 → j < 8 → PySem.W.exmOne K (.ref (e8.at n)) (.ref (e8.at j)) = some (decide (j = n)) := fun n j hn hj => by
    match n, hn with
    | 0, _ =>
      match j, hj with
      | 0, _ => exact PySem.W.exm_ref ec_BadValue hc_BadValue tc_BadValue sc_BadValue
      | 1, _ => exact PySem.W.exm_ref ec_BadText hc_BadText tc_BadText xx_0_1
      | 2, _ => exact PySem.W.exm_ref ec_BadPaper hc_BadPaper tc_BadPaper xx_0_2
      | 3, _ => exact PySem.W.exm_ref ec_BadLine hc_BadLine tc_BadLine xx_0_3
      | 4, _ => exact PySem.W.exm_ref ec_Beyond hc_Beyond tc_Beyond xx_0_4
      | 5, _ => exact PySem.W.exm_ref ec_NoRoom hc_NoRoom tc_NoRoom xx_0_5
      | 6, _ => exact PySem.W.exm_ref ec_BadName hc_BadName tc_BadName xx_0_6
      | 7, _ => exact PySem.W.exm_ref ec_NothingThere hc_NothingThere tc_NothingThere xx_0_7
    | 1, _ =>
      match j, hj with
      | 0, _ => exact PySem.W.exm_ref ec_BadValue hc_BadValue tc_BadValue xx_1_0
      | 1, _ => exact PySem.W.exm_ref ec_BadText hc_BadText tc_BadText sc_BadText
      | 2, _ => exact PySem.W.exm_ref ec_BadPaper hc_BadPaper tc_BadPaper xx_1_2
      | 3, _ => exact PySem.W.exm_ref ec_BadLine hc_BadLine tc_BadLine xx_1_3
      | 4, _ => exact PySem.W.exm_ref ec_Beyond hc_Beyond tc_Beyond xx_1_4
      | 5, _ => exact PySem.W.exm_ref ec_NoRoom hc_NoRoom tc_NoRoom xx_1_5
      | 6, _ => exact PySem.W.exm_ref ec_BadName hc_BadName tc_BadName xx_1_6
      | 7, _ => exact PySem.W.exm_ref ec_NothingThere hc_NothingThere tc_NothingThere xx_1_7
    | 2, _ =>
      match j, hj with
      | 0, _ => exact PySem.W.exm_ref ec_BadValue hc_BadValue tc_BadValue xx_2_0
      | 1, _ => exact PySem.W.exm_ref ec_BadText hc_BadText tc_BadText xx_2_1
      | 2, _ => exact PySem.W.exm_ref ec_BadPaper hc_BadPaper tc_BadPaper sc_BadPaper
      | 3, _ => exact PySem.W.exm_ref ec_BadLine hc_BadLine tc_BadLine xx_2_3
      | 4, _ => exact PySem.W.exm_ref ec_Beyond hc_Beyond tc_Beyond xx_2_4
      | 5, _ => exact PySem.W.exm_ref ec_NoRoom hc_NoRoom tc_NoRoom xx_2_5
      | 6, _ => exact PySem.W.exm_ref ec_BadName hc_BadName tc_BadName xx_2_6
      | 7, _ => exact PySem.W.exm_ref ec_NothingThere hc_NothingThere tc_NothingThere xx_2_7
    | 3, _ =>
      match j, hj with
      | 0, _ => exact PySem.W.exm_ref ec_BadValue hc_BadValue tc_BadValue xx_3_0
      | 1, _ => exact PySem.W.exm_ref ec_BadText hc_BadText tc_BadText xx_3_1
      | 2, _ => exact PySem.W.exm_ref ec_BadPaper hc_BadPaper tc_BadPaper xx_3_2
      | 3, _ => exact PySem.W.exm_ref ec_BadLine hc_BadLine tc_BadLine sc_BadLine
      | 4, _ => exact PySem.W.exm_ref ec_Beyond hc_Beyond tc_Beyond xx_3_4
      | 5, _ => exact PySem.W.exm_ref ec_NoRoom hc_NoRoom tc_NoRoom xx_3_5
      | 6, _ => exact PySem.W.exm_ref ec_BadName hc_BadName tc_BadName xx_3_6
      | 7, _ => exact PySem.W.exm_ref ec_NothingThere hc_NothingThere tc_NothingThere xx_3_7
    | 4, _ =>
      match j, hj with
      | 0, _ => exact PySem.W.exm_ref ec_BadValue hc_BadValue tc_BadValue xx_4_0
      | 1, _ => exact PySem.W.exm_ref ec_BadText hc_BadText tc_BadText xx_4_1
      | 2, _ => exact PySem.W.exm_ref ec_BadPaper hc_BadPaper tc_BadPaper xx_4_2
      | 3, _ => exact PySem.W.exm_ref ec_BadLine hc_BadLine tc_BadLine xx_4_3
      | 4, _ => exact PySem.W.exm_ref ec_Beyond hc_Beyond tc_Beyond sc_Beyond
      | 5, _ => exact PySem.W.exm_ref ec_NoRoom hc_NoRoom tc_NoRoom xx_4_5
      | 6, _ => exact PySem.W.exm_ref ec_BadName hc_BadName tc_BadName xx_4_6
      | 7, _ => exact PySem.W.exm_ref ec_NothingThere hc_NothingThere tc_NothingThere xx_4_7
    | 5, _ =>
      match j, hj with
      | 0, _ => exact PySem.W.exm_ref ec_BadValue hc_BadValue tc_BadValue xx_5_0
      | 1, _ => exact PySem.W.exm_ref ec_BadText hc_BadText tc_BadText xx_5_1
      | 2, _ => exact PySem.W.exm_ref ec_BadPaper hc_BadPaper tc_BadPaper xx_5_2
      | 3, _ => exact PySem.W.exm_ref ec_BadLine hc_BadLine tc_BadLine xx_5_3
      | 4, _ => exact PySem.W.exm_ref ec_Beyond hc_Beyond tc_Beyond xx_5_4
      | 5, _ => exact PySem.W.exm_ref ec_NoRoom hc_NoRoom tc_NoRoom sc_NoRoom
      | 6, _ => exact PySem.W.exm_ref ec_BadName hc_BadName tc_BadName xx_5_6
      | 7, _ => exact PySem.W.exm_ref ec_NothingThere hc_NothingThere tc_NothingThere xx_5_7
    | 6, _ =>
      match j, hj with
      | 0, _ => exact PySem.W.exm_ref ec_BadValue hc_BadValue tc_BadValue xx_6_0
      | 1, _ => exact PySem.W.exm_ref ec_BadText hc_BadText tc_BadText xx_6_1
      | 2, _ => exact PySem.W.exm_ref ec_BadPaper hc_BadPaper tc_BadPaper xx_6_2
      | 3, _ => exact PySem.W.exm_ref ec_BadLine hc_BadLine tc_BadLine xx_6_3
      | 4, _ => exact PySem.W.exm_ref ec_Beyond hc_Beyond tc_Beyond xx_6_4
      | 5, _ => exact PySem.W.exm_ref ec_NoRoom hc_NoRoom tc_NoRoom xx_6_5
      | 6, _ => exact PySem.W.exm_ref ec_BadName hc_BadName tc_BadName sc_BadName
      | 7, _ => exact PySem.W.exm_ref ec_NothingThere hc_NothingThere tc_NothingThere xx_6_7
    | 7, _ =>
      match j, hj with
      | 0, _ => exact PySem.W.exm_ref ec_BadValue hc_BadValue tc_BadValue xx_7_0
      | 1, _ => exact PySem.W.exm_ref ec_BadText hc_BadText tc_BadText xx_7_1
      | 2, _ => exact PySem.W.exm_ref ec_BadPaper hc_BadPaper tc_BadPaper xx_7_2
      | 3, _ => exact PySem.W.exm_ref ec_BadLine hc_BadLine tc_BadLine xx_7_3
      | 4, _ => exact PySem.W.exm_ref ec_Beyond hc_Beyond tc_Beyond xx_7_4
      | 5, _ => exact PySem.W.exm_ref ec_NoRoom hc_NoRoom tc_NoRoom xx_7_5
      | 6, _ => exact PySem.W.exm_ref ec_BadName hc_BadName tc_BadName xx_7_6
      | 7, _ => exact PySem.W.exm_ref ec_NothingThere hc_NothingThere tc_NothingThere sc_NothingThere
  have em : ∀ n, n < 8 → PySem.W.exmOne K (.ref (e8.at n)) (.ref e8.v) = some true := fun n hn => by
    match n, hn with
    | 0, _ => exact PySem.W.exm_ref ev_V hv_V tv_V xv_0
    | 1, _ => exact PySem.W.exm_ref ev_V hv_V tv_V xv_1
    | 2, _ => exact PySem.W.exm_ref ev_V hv_V tv_V xv_2
    | 3, _ => exact PySem.W.exm_ref ev_V hv_V tv_V xv_3
    | 4, _ => exact PySem.W.exm_ref ev_V hv_V tv_V xv_4
    | 5, _ => exact PySem.W.exm_ref ev_V hv_V tv_V xv_5
    | 6, _ => exact PySem.W.exm_ref ev_V hv_V tv_V xv_6
    | 7, _ => exact PySem.W.exm_ref ev_V hv_V tv_V xv_7
  have c_cell1 := called (P := l.prog) (w := w) (base := base) F_law_cell m_law_cell b_law_cell (ok_cell (k := 0) F_law_cell T)
  have c_mix1 := called (P := l.prog) (w := w) (base := base) F_law_mix m_law_mix b_law_mix (ok_mix (k := 0) F_law_mix T)
  have c_box2 := called F_law_box m_law_box b_law_box (ok_box F_law_box T c_cell1)
  have c_draw2 := called F_law_draw m_law_draw b_law_draw (ok_draw F_law_draw T c_mix1)
  have c_text3 := called F_law_text m_law_text b_law_text (ok_text00 F_law_text T c_draw2)
  have c_isnum1 := called (P := l.prog) (w := w) (base := base) F_law_is_number m_law_is_number b_law_is_number (ok_isnum00 (k := 0) F_law_is_number T)
  have c_istxt1 := called (P := l.prog) (w := w) (base := base) F_law_is_text m_law_is_text b_law_is_text (ok_istxt00 (k := 0) F_law_is_text T)
  have h_isnum1 := calledH (P := l.prog) (w := w) (base := base) F_law_is_number m_law_is_number b_law_is_number (ok_isnumH (k := 0) F_law_is_number T)
  have h_istxt1 := calledH (P := l.prog) (w := w) (base := base) F_law_is_text m_law_is_text b_law_is_text (ok_istxtH (k := 0) F_law_is_text T)
  have c_alone1 := called (P := l.prog) (w := w) (base := base) F_law_alone m_law_alone b_law_alone (ok_alone (e8 := e8) (k := 0) F_law_alone T M)
  have c_numd2 := called F_law_numbered m_law_numbered b_law_numbered (ok_numd (e8 := e8) F_law_numbered T E_BadValue E_BadText E_BadPaper E_BadLine ek c_isnum1 c_alone1)
  have c_word2 := called F_law_worded m_law_worded b_law_worded (ok_word00 (e8 := e8) F_law_worded T E_Beyond E_NoRoom E_BadName E_NothingThere ek c_istxt1 c_alone1)
  have c_raise1 := called (P := l.prog) (w := w) (base := base) F_law_raise m_law_raise b_law_raise (ok_raise00 (e8 := e8) (k := 0) F_law_raise T E_BadValue E_BadText E_BadPaper E_BadLine E_Beyond E_NoRoom E_BadName E_NothingThere)
  have c_raiseN1 := called (P := l.prog) (w := w) (base := base) F_law_raise m_law_raise b_law_raise (ok_raise00N (e8 := e8) (k := 0) F_law_raise T E_BadValue E_BadText E_BadPaper E_BadLine E_Beyond E_NoRoom E_BadName E_NothingThere)
  have c_ben2 := called F_law_beneath m_law_beneath b_law_beneath (ok_ben00 (e8 := e8) F_law_beneath T m_VaultError em c_raise1)
  have c_caught2 := called F_law_caught m_law_caught b_law_caught (ok_caught00 (e8 := e8) F_law_caught T E_BadValue E_BadText E_BadPaper E_BadLine E_Beyond E_NoRoom E_BadName E_NothingThere xm c_raiseN1 h_isnum1 h_istxt1)
  exact (ok_law (k := 3) F_law T (c_box2.mono (by decide)) (c_draw2.mono (by decide)) c_text3 (c_numd2.mono (by decide)) (c_word2.mono (by decide)) (c_caught2.mono (by decide)) (c_ben2.mono (by decide)))
end K00
open PySem PySem.W PyProof.Rows
set_option maxRecDepth 100000 in
set_option maxHeartbeats 0 in
theorem PySem.Challenge.cw_mendvault_k00_errors_holds : PySem.Challenge.rw_mendvault_k00_errors.Holds := by
  w_on; o_law; k_head; (case hw => w_witness2)
  k_fill
  refine L2.walk_of (l := PySem.Challenge.rw_mendvault_k00_errors) (n := 63) (k := 4) (x := "script") (CX := fun _ => L2.CX0) (sp := fun w => MV.spLaw _) rfl (by decide) rfl ⟨rfl, by decide, by decide⟩ (fun w h Y => PySem.W.kIn_of Y) ?F (fun _ _ a ns hl _ hS => ⟨a, ns, rfl, hS, hl, fun _ => rfl⟩) (fun _ _ _ _ _ h => h)
  case F =>
    intro w mg fa h KX G hmg
    refine' K00.all_mk KX G hmg ?a_law_cell ?l_law_cell ?c_law_cell ?k_law_cell ?a_law_mix ?l_law_mix ?c_law_mix ?k_law_mix ?a_law_box ?l_law_box ?c_law_box ?k_law_box ?a_law_draw ?l_law_draw ?c_law_draw ?k_law_draw ?a_law_text ?l_law_text ?c_law_text ?k_law_text ?a_law_is_number ?l_law_is_number ?c_law_is_number ?k_law_is_number ?a_law_is_text ?l_law_is_text ?c_law_is_text ?k_law_is_text ?a_law_alone ?l_law_alone ?c_law_alone ?k_law_alone ?a_law_numbered ?l_law_numbered ?c_law_numbered ?k_law_numbered ?a_law_worded ?l_law_worded ?c_law_worded ?k_law_worded ?a_law_raise ?l_law_raise ?c_law_raise ?k_law_raise ?a_law_caught ?l_law_caught ?c_law_caught ?k_law_caught ?a_law_beneath ?l_law_beneath ?c_law_beneath ?k_law_beneath ?a_law ?l_law ?c_law ?k_law ?z_Exception ?z_ValueError ?z_bool ?z_int ?z_isinstance ?z_len ?z_max ?z_range ?z_str ?g_BadValue ?x_BadValue ?sa_BadValue ?ga_BadValue ?gg_BadValue ?nf_BadValue ?ii_BadValue ?tf_BadValue ?lf_BadValue ?cf_BadValue ?kc_BadValue ?ec_BadValue ?tc_BadValue ?hc_BadValue ?ic_BadValue ?sc_BadValue ?g_Beyond ?x_Beyond ?sa_Beyond ?ga_Beyond ?gg_Beyond ?nf_Beyond ?ii_Beyond ?tf_Beyond ?lf_Beyond ?cf_Beyond ?kc_Beyond ?ec_Beyond ?tc_Beyond ?hc_Beyond ?ic_Beyond ?sc_Beyond ?g_BadName ?x_BadName ?sa_BadName ?ga_BadName ?gg_BadName ?nf_BadName ?ii_BadName ?tf_BadName ?lf_BadName ?cf_BadName ?kc_BadName ?ec_BadName ?tc_BadName ?hc_BadName ?ic_BadName ?sc_BadName ?g_NothingThere ?x_NothingThere ?sa_NothingThere ?ga_NothingThere ?gg_NothingThere ?nf_NothingThere ?ii_NothingThere ?tf_NothingThere ?lf_NothingThere ?cf_NothingThere ?kc_NothingThere ?ec_NothingThere ?tc_NothingThere ?hc_NothingThere ?ic_NothingThere ?sc_NothingThere ?g_NoRoom ?x_NoRoom ?sa_NoRoom ?ga_NoRoom ?gg_NoRoom ?nf_NoRoom ?ii_NoRoom ?tf_NoRoom ?lf_NoRoom ?cf_NoRoom ?kc_NoRoom ?ec_NoRoom ?tc_NoRoom ?hc_NoRoom ?ic_NoRoom ?sc_NoRoom ?g_BadText ?x_BadText ?sa_BadText ?ga_BadText ?gg_BadText ?nf_BadText ?ii_BadText ?tf_BadText ?lf_BadText ?cf_BadText ?kc_BadText ?ec_BadText ?tc_BadText ?hc_BadText ?ic_BadText ?sc_BadText ?g_BadPaper ?x_BadPaper ?sa_BadPaper ?ga_BadPaper ?gg_BadPaper ?nf_BadPaper ?ii_BadPaper ?tf_BadPaper ?lf_BadPaper ?cf_BadPaper ?kc_BadPaper ?ec_BadPaper ?tc_BadPaper ?hc_BadPaper ?ic_BadPaper ?sc_BadPaper ?g_BadLine ?x_BadLine ?sa_BadLine ?ga_BadLine ?gg_BadLine ?nf_BadLine ?ii_BadLine ?tf_BadLine ?lf_BadLine ?cf_BadLine ?kc_BadLine ?ec_BadLine ?tc_BadLine ?hc_BadLine ?ic_BadLine ?sc_BadLine ?g_VaultError ?sp_x ?tk_x ?cc_BadValue ?mo_BadValue ?kv_BadValue ?cc_Beyond ?mo_Beyond ?kv_Beyond ?cc_BadName ?mo_BadName ?kv_BadName ?cc_NothingThere ?mo_NothingThere ?kv_NothingThere ?cc_NoRoom ?mo_NoRoom ?kv_NoRoom ?cc_BadText ?mo_BadText ?kv_BadText ?cc_BadPaper ?mo_BadPaper ?kv_BadPaper ?cc_BadLine ?mo_BadLine ?kv_BadLine ?ev_V ?hv_V ?tv_V ?kk_0_0 ?kk_0_1 ?xx_0_1 ?kk_0_2 ?xx_0_2 ?kk_0_3 ?xx_0_3 ?kk_0_4 ?xx_0_4 ?kk_0_5 ?xx_0_5 ?kk_0_6 ?xx_0_6 ?kk_0_7 ?xx_0_7 ?ke_0 ?kq_0 ?xv_0 ?kk_1_0 ?xx_1_0 ?kk_1_1 ?kk_1_2 ?xx_1_2 ?kk_1_3 ?xx_1_3 ?kk_1_4 ?xx_1_4 ?kk_1_5 ?xx_1_5 ?kk_1_6 ?xx_1_6 ?kk_1_7 ?xx_1_7 ?ke_1 ?kq_1 ?xv_1 ?kk_2_0 ?xx_2_0 ?kk_2_1 ?xx_2_1 ?kk_2_2 ?kk_2_3 ?xx_2_3 ?kk_2_4 ?xx_2_4 ?kk_2_5 ?xx_2_5 ?kk_2_6 ?xx_2_6 ?kk_2_7 ?xx_2_7 ?ke_2 ?kq_2 ?xv_2 ?kk_3_0 ?xx_3_0 ?kk_3_1 ?xx_3_1 ?kk_3_2 ?xx_3_2 ?kk_3_3 ?kk_3_4 ?xx_3_4 ?kk_3_5 ?xx_3_5 ?kk_3_6 ?xx_3_6 ?kk_3_7 ?xx_3_7 ?ke_3 ?kq_3 ?xv_3 ?kk_4_0 ?xx_4_0 ?kk_4_1 ?xx_4_1 ?kk_4_2 ?xx_4_2 ?kk_4_3 ?xx_4_3 ?kk_4_4 ?kk_4_5 ?xx_4_5 ?kk_4_6 ?xx_4_6 ?kk_4_7 ?xx_4_7 ?ke_4 ?kq_4 ?xv_4 ?kk_5_0 ?xx_5_0 ?kk_5_1 ?xx_5_1 ?kk_5_2 ?xx_5_2 ?kk_5_3 ?xx_5_3 ?kk_5_4 ?xx_5_4 ?kk_5_5 ?kk_5_6 ?xx_5_6 ?kk_5_7 ?xx_5_7 ?ke_5 ?kq_5 ?xv_5 ?kk_6_0 ?xx_6_0 ?kk_6_1 ?xx_6_1 ?kk_6_2 ?xx_6_2 ?kk_6_3 ?xx_6_3 ?kk_6_4 ?xx_6_4 ?kk_6_5 ?xx_6_5 ?kk_6_6 ?kk_6_7 ?xx_6_7 ?ke_6 ?kq_6 ?xv_6 ?kk_7_0 ?xx_7_0 ?kk_7_1 ?xx_7_1 ?kk_7_2 ?xx_7_2 ?kk_7_3 ?xx_7_3 ?kk_7_4 ?xx_7_4 ?kk_7_5 ?xx_7_5 ?kk_7_6 ?xx_7_6 ?kk_7_7 ?ke_7 ?kq_7 ?xv_7
    (case a_law_cell => k_is)
    (case l_law_cell => k_is)
    (case c_law_cell => k_is)
    (case k_law_cell => k_is)
    (case a_law_mix => k_is)
    (case l_law_mix => k_is)
    (case c_law_mix => k_is)
    (case k_law_mix => k_is)
    (case a_law_box => k_is)
    (case l_law_box => k_is)
    (case c_law_box => k_is)
    (case k_law_box => k_is)
    (case a_law_draw => k_is)
    (case l_law_draw => k_is)
    (case c_law_draw => k_is)
    (case k_law_draw => k_is)
    (case a_law_text => k_is)
    (case l_law_text => k_is)
    (case c_law_text => k_is)
    (case k_law_text => k_is)
    (case a_law_is_number => k_is)
    (case l_law_is_number => k_is)
    (case c_law_is_number => k_is)
    (case k_law_is_number => k_is)
    (case a_law_is_text => k_is)
    (case l_law_is_text => k_is)
    (case c_law_is_text => k_is)
    (case k_law_is_text => k_is)
    (case a_law_alone => k_is)
    (case l_law_alone => k_is)
    (case c_law_alone => k_is)
    (case k_law_alone => k_is)
    (case a_law_numbered => k_is)
    (case l_law_numbered => k_is)
    (case c_law_numbered => k_is)
    (case k_law_numbered => k_is)
    (case a_law_worded => k_is)
    (case l_law_worded => k_is)
    (case c_law_worded => k_is)
    (case k_law_worded => k_is)
    (case a_law_raise => k_is)
    (case l_law_raise => k_is)
    (case c_law_raise => k_is)
    (case k_law_raise => k_is)
    (case a_law_caught => k_is)
    (case l_law_caught => k_is)
    (case c_law_caught => k_is)
    (case k_law_caught => k_is)
    (case a_law_beneath => k_is)
    (case l_law_beneath => k_is)
    (case c_law_beneath => k_is)
    (case k_law_beneath => k_is)
    (case a_law => k_is)
    (case l_law => k_is)
    (case c_law => k_is)
    (case k_law => k_is)
    (case z_Exception => k_is)
    (case z_ValueError => k_is)
    (case z_bool => k_is)
    (case z_int => k_is)
    (case z_isinstance => k_is)
    (case z_len => k_is)
    (case z_max => k_is)
    (case z_range => k_is)
    (case z_str => k_is)
    (case g_BadValue => k_is)
    (case x_BadValue => k_is)
    (case sa_BadValue => k_is)
    (case ga_BadValue => k_is)
    (case gg_BadValue => k_is)
    (case nf_BadValue => k_is)
    (case ii_BadValue => k_is)
    (case tf_BadValue => k_is)
    (case lf_BadValue => k_is)
    (case cf_BadValue => k_is)
    (case kc_BadValue => k_is)
    (case ec_BadValue => k_is)
    (case tc_BadValue => k_is)
    (case hc_BadValue => k_is)
    (case ic_BadValue => k_is)
    (case sc_BadValue => first | rfl | k_is)
    (case g_Beyond => k_is)
    (case x_Beyond => k_is)
    (case sa_Beyond => k_is)
    (case ga_Beyond => k_is)
    (case gg_Beyond => k_is)
    (case nf_Beyond => k_is)
    (case ii_Beyond => k_is)
    (case tf_Beyond => k_is)
    (case lf_Beyond => k_is)
    (case cf_Beyond => k_is)
    (case kc_Beyond => k_is)
    (case ec_Beyond => k_is)
    (case tc_Beyond => k_is)
    (case hc_Beyond => k_is)
    (case ic_Beyond => k_is)
    (case sc_Beyond => first | rfl | k_is)
    (case g_BadName => k_is)
    (case x_BadName => k_is)
    (case sa_BadName => k_is)
    (case ga_BadName => k_is)
    (case gg_BadName => k_is)
    (case nf_BadName => k_is)
    (case ii_BadName => k_is)
    (case tf_BadName => k_is)
    (case lf_BadName => k_is)
    (case cf_BadName => k_is)
    (case kc_BadName => k_is)
    (case ec_BadName => k_is)
    (case tc_BadName => k_is)
    (case hc_BadName => k_is)
    (case ic_BadName => k_is)
    (case sc_BadName => first | rfl | k_is)
    (case g_NothingThere => k_is)
    (case x_NothingThere => k_is)
    (case sa_NothingThere => k_is)
    (case ga_NothingThere => k_is)
    (case gg_NothingThere => k_is)
    (case nf_NothingThere => k_is)
    (case ii_NothingThere => k_is)
    (case tf_NothingThere => k_is)
    (case lf_NothingThere => k_is)
    (case cf_NothingThere => k_is)
    (case kc_NothingThere => k_is)
    (case ec_NothingThere => k_is)
    (case tc_NothingThere => k_is)
    (case hc_NothingThere => k_is)
    (case ic_NothingThere => k_is)
    (case sc_NothingThere => first | rfl | k_is)
    (case g_NoRoom => k_is)
    (case x_NoRoom => k_is)
    (case sa_NoRoom => k_is)
    (case ga_NoRoom => k_is)
    (case gg_NoRoom => k_is)
    (case nf_NoRoom => k_is)
    (case ii_NoRoom => k_is)
    (case tf_NoRoom => k_is)
    (case lf_NoRoom => k_is)
    (case cf_NoRoom => k_is)
    (case kc_NoRoom => k_is)
    (case ec_NoRoom => k_is)
    (case tc_NoRoom => k_is)
    (case hc_NoRoom => k_is)
    (case ic_NoRoom => k_is)
    (case sc_NoRoom => first | rfl | k_is)
    (case g_BadText => k_is)
    (case x_BadText => k_is)
    (case sa_BadText => k_is)
    (case ga_BadText => k_is)
    (case gg_BadText => k_is)
    (case nf_BadText => k_is)
    (case ii_BadText => k_is)
    (case tf_BadText => k_is)
    (case lf_BadText => k_is)
    (case cf_BadText => k_is)
    (case kc_BadText => k_is)
    (case ec_BadText => k_is)
    (case tc_BadText => k_is)
    (case hc_BadText => k_is)
    (case ic_BadText => k_is)
    (case sc_BadText => first | rfl | k_is)
    (case g_BadPaper => k_is)
    (case x_BadPaper => k_is)
    (case sa_BadPaper => k_is)
    (case ga_BadPaper => k_is)
    (case gg_BadPaper => k_is)
    (case nf_BadPaper => k_is)
    (case ii_BadPaper => k_is)
    (case tf_BadPaper => k_is)
    (case lf_BadPaper => k_is)
    (case cf_BadPaper => k_is)
    (case kc_BadPaper => k_is)
    (case ec_BadPaper => k_is)
    (case tc_BadPaper => k_is)
    (case hc_BadPaper => k_is)
    (case ic_BadPaper => k_is)
    (case sc_BadPaper => first | rfl | k_is)
    (case g_BadLine => k_is)
    (case x_BadLine => k_is)
    (case sa_BadLine => k_is)
    (case ga_BadLine => k_is)
    (case gg_BadLine => k_is)
    (case nf_BadLine => k_is)
    (case ii_BadLine => k_is)
    (case tf_BadLine => k_is)
    (case lf_BadLine => k_is)
    (case cf_BadLine => k_is)
    (case kc_BadLine => k_is)
    (case ec_BadLine => k_is)
    (case tc_BadLine => k_is)
    (case hc_BadLine => k_is)
    (case ic_BadLine => k_is)
    (case sc_BadLine => first | rfl | k_is)
    (case g_VaultError => k_is)
    (case sp_x => k_is)
    (case tk_x => k_is)
    (case cc_BadValue => k_is)
    (case mo_BadValue => k_is)
    (case kv_BadValue => kit_is)
    (case cc_Beyond => k_is)
    (case mo_Beyond => k_is)
    (case kv_Beyond => kit_is)
    (case cc_BadName => k_is)
    (case mo_BadName => k_is)
    (case kv_BadName => kit_is)
    (case cc_NothingThere => k_is)
    (case mo_NothingThere => k_is)
    (case kv_NothingThere => kit_is)
    (case cc_NoRoom => k_is)
    (case mo_NoRoom => k_is)
    (case kv_NoRoom => kit_is)
    (case cc_BadText => k_is)
    (case mo_BadText => k_is)
    (case kv_BadText => kit_is)
    (case cc_BadPaper => k_is)
    (case mo_BadPaper => k_is)
    (case kv_BadPaper => kit_is)
    (case cc_BadLine => k_is)
    (case mo_BadLine => k_is)
    (case kv_BadLine => kit_is)
    (case ev_V => first | k_is | rfl)
    (case hv_V => first | k_is | rfl)
    (case tv_V => first | k_is | rfl)
    (case kk_0_0 => kit_is)
    (case kk_0_1 => kit_is)
    (case xx_0_1 => first | k_is | rfl)
    (case kk_0_2 => kit_is)
    (case xx_0_2 => first | k_is | rfl)
    (case kk_0_3 => kit_is)
    (case xx_0_3 => first | k_is | rfl)
    (case kk_0_4 => kit_is)
    (case xx_0_4 => first | k_is | rfl)
    (case kk_0_5 => kit_is)
    (case xx_0_5 => first | k_is | rfl)
    (case kk_0_6 => kit_is)
    (case xx_0_6 => first | k_is | rfl)
    (case kk_0_7 => kit_is)
    (case xx_0_7 => first | k_is | rfl)
    (case ke_0 => kit_is)
    (case kq_0 => kit_is)
    (case xv_0 => first | k_is | rfl)
    (case kk_1_0 => kit_is)
    (case xx_1_0 => first | k_is | rfl)
    (case kk_1_1 => kit_is)
    (case kk_1_2 => kit_is)
    (case xx_1_2 => first | k_is | rfl)
    (case kk_1_3 => kit_is)
    (case xx_1_3 => first | k_is | rfl)
    (case kk_1_4 => kit_is)
    (case xx_1_4 => first | k_is | rfl)
    (case kk_1_5 => kit_is)
    (case xx_1_5 => first | k_is | rfl)
    (case kk_1_6 => kit_is)
    (case xx_1_6 => first | k_is | rfl)
    (case kk_1_7 => kit_is)
    (case xx_1_7 => first | k_is | rfl)
    (case ke_1 => kit_is)
    (case kq_1 => kit_is)
    (case xv_1 => first | k_is | rfl)
    (case kk_2_0 => kit_is)
    (case xx_2_0 => first | k_is | rfl)
    (case kk_2_1 => kit_is)
    (case xx_2_1 => first | k_is | rfl)
    (case kk_2_2 => kit_is)
    (case kk_2_3 => kit_is)
    (case xx_2_3 => first | k_is | rfl)
    (case kk_2_4 => kit_is)
    (case xx_2_4 => first | k_is | rfl)
    (case kk_2_5 => kit_is)
    (case xx_2_5 => first | k_is | rfl)
    (case kk_2_6 => kit_is)
    (case xx_2_6 => first | k_is | rfl)
    (case kk_2_7 => kit_is)
    (case xx_2_7 => first | k_is | rfl)
    (case ke_2 => kit_is)
    (case kq_2 => kit_is)
    (case xv_2 => first | k_is | rfl)
    (case kk_3_0 => kit_is)
    (case xx_3_0 => first | k_is | rfl)
    (case kk_3_1 => kit_is)
    (case xx_3_1 => first | k_is | rfl)
    (case kk_3_2 => kit_is)
    (case xx_3_2 => first | k_is | rfl)
    (case kk_3_3 => kit_is)
    (case kk_3_4 => kit_is)
    (case xx_3_4 => first | k_is | rfl)
    (case kk_3_5 => kit_is)
    (case xx_3_5 => first | k_is | rfl)
    (case kk_3_6 => kit_is)
    (case xx_3_6 => first | k_is | rfl)
    (case kk_3_7 => kit_is)
    (case xx_3_7 => first | k_is | rfl)
    (case ke_3 => kit_is)
    (case kq_3 => kit_is)
    (case xv_3 => first | k_is | rfl)
    (case kk_4_0 => kit_is)
    (case xx_4_0 => first | k_is | rfl)
    (case kk_4_1 => kit_is)
    (case xx_4_1 => first | k_is | rfl)
    (case kk_4_2 => kit_is)
    (case xx_4_2 => first | k_is | rfl)
    (case kk_4_3 => kit_is)
    (case xx_4_3 => first | k_is | rfl)
    (case kk_4_4 => kit_is)
    (case kk_4_5 => kit_is)
    (case xx_4_5 => first | k_is | rfl)
    (case kk_4_6 => kit_is)
    (case xx_4_6 => first | k_is | rfl)
    (case kk_4_7 => kit_is)
    (case xx_4_7 => first | k_is | rfl)
    (case ke_4 => kit_is)
    (case kq_4 => kit_is)
    (case xv_4 => first | k_is | rfl)
    (case kk_5_0 => kit_is)
    (case xx_5_0 => first | k_is | rfl)
    (case kk_5_1 => kit_is)
    (case xx_5_1 => first | k_is | rfl)
    (case kk_5_2 => kit_is)
    (case xx_5_2 => first | k_is | rfl)
    (case kk_5_3 => kit_is)
    (case xx_5_3 => first | k_is | rfl)
    (case kk_5_4 => kit_is)
    (case xx_5_4 => first | k_is | rfl)
    (case kk_5_5 => kit_is)
    (case kk_5_6 => kit_is)
    (case xx_5_6 => first | k_is | rfl)
    (case kk_5_7 => kit_is)
    (case xx_5_7 => first | k_is | rfl)
    (case ke_5 => kit_is)
    (case kq_5 => kit_is)
    (case xv_5 => first | k_is | rfl)
    (case kk_6_0 => kit_is)
    (case xx_6_0 => first | k_is | rfl)
    (case kk_6_1 => kit_is)
    (case xx_6_1 => first | k_is | rfl)
    (case kk_6_2 => kit_is)
    (case xx_6_2 => first | k_is | rfl)
    (case kk_6_3 => kit_is)
    (case xx_6_3 => first | k_is | rfl)
    (case kk_6_4 => kit_is)
    (case xx_6_4 => first | k_is | rfl)
    (case kk_6_5 => kit_is)
    (case xx_6_5 => first | k_is | rfl)
    (case kk_6_6 => kit_is)
    (case kk_6_7 => kit_is)
    (case xx_6_7 => first | k_is | rfl)
    (case ke_6 => kit_is)
    (case kq_6 => kit_is)
    (case xv_6 => first | k_is | rfl)
    (case kk_7_0 => kit_is)
    (case xx_7_0 => first | k_is | rfl)
    (case kk_7_1 => kit_is)
    (case xx_7_1 => first | k_is | rfl)
    (case kk_7_2 => kit_is)
    (case xx_7_2 => first | k_is | rfl)
    (case kk_7_3 => kit_is)
    (case xx_7_3 => first | k_is | rfl)
    (case kk_7_4 => kit_is)
    (case xx_7_4 => first | k_is | rfl)
    (case kk_7_5 => kit_is)
    (case xx_7_5 => first | k_is | rfl)
    (case kk_7_6 => kit_is)
    (case xx_7_6 => first | k_is | rfl)
    (case kk_7_7 => kit_is)
    (case ke_7 => kit_is)
    (case kq_7 => kit_is)
    (case xv_7 => first | k_is | rfl)

