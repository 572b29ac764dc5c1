import PyProof.Rows.All
import Wide.All
import OpenK.AllK
import Wide.FinOn
import HandS.ForMost
import HandS.IsInst
import HandS.MakeKwOnly
import HandS.Rev
import HandS.RevRange
import HandS.Zip
import HandS.Defaults
import HandS.More
import HandS.ForExc
import HandS.ExcSuper
import HandS.HotCalls
import PySem.Challenge.RW_mendvault_k03_powers_and_logarithms
set_option Elab.async false
set_option linter.all false
set_option maxRecDepth 100000
set_option maxHeartbeats 4000000
/-! Own mathematics: the field of 128 elements over Nat, by tables packed into numbers. -/
namespace MV
def powN : Nat := 179343145154286468999787348634966713635650659649736789414148021345911460223011165278843182007619610859593311888318488159128904538903604560337988443507032135323526942362685217139502154598999203791264386173164389839521109337246772858340806352412195616840658205728602791057560876167481289674224934752276972033
def lgN : Nat := 85299566321267760859882959404293287561914986092030414439102485899448894882442126012717921087539931761252616783538567363632140652556524324457790506479341977747011430397942856861852895404352684004849115400841281323173832260191922844437182647048573120541323249961997723919153927873044867097585891997657669369856
def powL : List Nat := [1, 2, 4, 8, 16, 32, 64, 3, 6, 12, 24, 48, 96, 67, 5, 10, 20, 40, 80, 35, 70, 15, 30, 60, 120, 115, 101, 73, 17, 34, 68, 11, 22, 44, 88, 51, 102, 79, 29, 58, 116, 107, 85, 41, 82, 39, 78, 31, 62, 124, 123, 117, 105, 81, 33, 66, 7, 14, 28, 56, 112, 99, 69, 9, 18, 36, 72, 19, 38, 76, 27, 54, 108, 91, 53, 106, 87, 45, 90, 55, 110, 95, 61, 122, 119, 109, 89, 49, 98, 71, 13, 26, 52, 104, 83, 37, 74, 23, 46, 92, 59, 118, 111, 93, 57, 114, 103, 77, 25, 50, 100, 75, 21, 42, 84, 43, 86, 47, 94, 63, 126, 127, 125, 121, 113, 97, 65]
def lgL : List Nat := [0, 0, 1, 7, 2, 14, 8, 56, 3, 63, 15, 31, 9, 90, 57, 21, 4, 28, 64, 67, 16, 112, 32, 97, 10, 108, 91, 70, 58, 38, 22, 47, 5, 54, 29, 19, 65, 95, 68, 45, 17, 43, 113, 115, 33, 77, 98, 117, 11, 87, 109, 35, 92, 74, 71, 79, 59, 104, 39, 100, 23, 82, 48, 119, 6, 126, 55, 13, 30, 62, 20, 89, 66, 27, 96, 111, 69, 107, 46, 37, 18, 53, 44, 94, 114, 42, 116, 76, 34, 86, 78, 73, 99, 103, 118, 81, 12, 125, 88, 61, 110, 26, 36, 106, 93, 52, 75, 41, 72, 85, 80, 102, 60, 124, 105, 25, 40, 51, 101, 84, 24, 123, 83, 50, 49, 122, 120, 121]
/-- 2 to the i-th -/
def pw (i : Nat) : Nat := (powN >>> (8 * i)) % 256
/-- the logarithm -/
def lg (a : Nat) : Nat := (lgN >>> (8 * a)) % 256
def mul (a b : Nat) : Nat := if a = 0 then 0 else if b = 0 then 0 else pw ((lg a + lg b) % 127)
def inv (a : Nat) : Nat := pw ((127 - lg a) % 127)
def allN (n : Nat) (f : Nat → Bool) : Bool := (List.range n).all f
theorem allN_of {n : Nat} {f : Nat → Bool} (h : allN n f = true) {i : Nat} (hi : i < n) : f i = true := by
  unfold allN at h
  exact List.all_eq_true.mp h i (List.mem_range.mpr hi)

theorem powL_get {i : Nat} (h : i < 127) : powL[i]? = some (pw i) := by
  have q := allN_of (n := 127) (f := fun i => powL[i]? == some (pw i)) (by decide +kernel) h
  exact eq_of_beq q
theorem lgL_get {i : Nat} (h : i < 128) : lgL[i]? = some (lg i) := by
  have q := allN_of (n := 128) (f := fun i => lgL[i]? == some (lg i)) (by decide +kernel) h
  exact eq_of_beq q
theorem pw_ok {i : Nat} (h : i < 127) : pw i < 128 ∧ pw i ≠ 0 ∧ lg (pw i) = i := by
  have q := allN_of (n := 127) (f := fun i => decide (pw i < 128 ∧ pw i ≠ 0 ∧ lg (pw i) = i)) (by decide +kernel) h
  exact of_decide_eq_true q
theorem lg_ok {a : Nat} (h : a < 128) : lg a < 127 ∧ (a ≠ 0 → pw (lg a) = a) := by
  have q := allN_of (n := 128) (f := fun a => decide (lg a < 127 ∧ (a ≠ 0 → pw (lg a) = a))) (by decide +kernel) h
  exact of_decide_eq_true q
theorem pw_lg {a : Nat} (h : a < 128) (h0 : a ≠ 0) : pw (lg a) = a := (lg_ok h).2 h0
theorem lg_lt {a : Nat} (h : a < 128) : lg a < 127 := (lg_ok h).1
theorem pw_inj {i j : Nat} (hi : i < 127) (hj : j < 127) (e : pw i = pw j) : i = j := by
  rw [← (pw_ok hi).2.2, ← (pw_ok hj).2.2, e]
theorem mul_zero_left (b : Nat) : mul 0 b = 0 := by unfold mul; simp
theorem mul_zero_right (a : Nat) : mul a 0 = 0 := by unfold mul; simp
theorem mul_nz {a b : Nat} (ha : a ≠ 0) (hb : b ≠ 0) : mul a b = pw ((lg a + lg b) % 127) := by unfold mul; simp [ha, hb]
theorem mul_lt (a b : Nat) : mul a b < 128 := by
  unfold mul
  by_cases ha : a = 0
  · simp [ha]
  · by_cases hb : b = 0
    · simp [hb]
    · simp only [ha, hb, if_false]
      exact (pw_ok (Nat.mod_lt _ (by decide))).1
theorem mul_ne_zero {a b : Nat} (ha : a ≠ 0) (hb : b ≠ 0) : mul a b ≠ 0 := by
  rw [mul_nz ha hb]
  exact (pw_ok (Nat.mod_lt _ (by decide))).2.1
theorem mul_comm (a b : Nat) : mul a b = mul b a := by
  by_cases ha : a = 0
  · subst ha; rw [mul_zero_left, mul_zero_right]
  · by_cases hb : b = 0
    · subst hb; rw [mul_zero_left, mul_zero_right]
    · rw [mul_nz ha hb, mul_nz hb ha, Nat.add_comm]
theorem lg_mul {a b : Nat} (ha : a ≠ 0) (hb : b ≠ 0) : lg (mul a b) = (lg a + lg b) % 127 := by
  rw [mul_nz ha hb]
  exact (pw_ok (Nat.mod_lt _ (by decide))).2.2
theorem mul_assoc (a b c : Nat) : mul (mul a b) c = mul a (mul b c) := by
  by_cases ha : a = 0
  · subst ha; simp only [mul_zero_left]
  · by_cases hb : b = 0
    · subst hb; simp only [mul_zero_left, mul_zero_right]
    · by_cases hc : c = 0
      · subst hc; simp only [mul_zero_right]
      · rw [mul_nz (mul_ne_zero ha hb) hc, mul_nz ha (mul_ne_zero hb hc), lg_mul ha hb, lg_mul hb hc]
        congr 1
        omega
theorem mul_one {a : Nat} (h : a < 128) : mul a 1 = a := by
  have q := allN_of (n := 128) (f := fun a => mul a 1 == a) (by decide +kernel) h
  exact eq_of_beq q
theorem one_mul {a : Nat} (h : a < 128) : mul 1 a = a := by rw [mul_comm, mul_one h]
theorem inv_ok {a : Nat} (h : a < 128) (h0 : a ≠ 0) : mul a (inv a) = 1 ∧ inv a < 128 ∧ inv a ≠ 0 := by
  have q := allN_of (n := 128) (f := fun a => decide (a ≠ 0 → mul a (inv a) = 1 ∧ inv a < 128 ∧ inv a ≠ 0)) (by decide +kernel) h
  exact of_decide_eq_true q h0
/-! sums -/
theorem xor_lt {a b : Nat} (ha : a < 128) (hb : b < 128) : a ^^^ b < 128 := Nat.xor_lt_two_pow (n := 7) ha hb
/-- the multiple of c that the bits of a tell -/
def lin (c a : Nat) : Nat :=
  (cond (a.testBit 0) (mul c 1) 0) ^^^ (cond (a.testBit 1) (mul c 2) 0) ^^^ (cond (a.testBit 2) (mul c 4) 0) ^^^ (cond (a.testBit 3) (mul c 8) 0) ^^^
  (cond (a.testBit 4) (mul c 16) 0) ^^^ (cond (a.testBit 5) (mul c 32) 0) ^^^ (cond (a.testBit 6) (mul c 64) 0)
theorem all2_of {f : Nat → Nat → Bool} (h : allN 128 (fun a => allN 128 (f a)) = true) {a b : Nat} (ha : a < 128) (hb : b < 128) : f a b = true :=
  allN_of (allN_of h ha) hb
theorem mul_lin {c a : Nat} (hc : c < 128) (ha : a < 128) : mul c a = lin c a := by
  have q := all2_of (f := fun c a => mul c a == lin c a) (by decide +kernel) hc ha
  exact eq_of_beq q
theorem cond_xor (p q : Bool) (m : Nat) : cond (p ^^ q) m 0 = cond p m 0 ^^^ cond q m 0 := by
  cases p <;> cases q <;> simp
theorem lin_xor (c a b : Nat) : lin c (a ^^^ b) = lin c a ^^^ lin c b := by
  unfold lin
  simp only [Nat.testBit_xor, cond_xor]
  ac_rfl
theorem mul_xor {c a b : Nat} (hc : c < 128) (ha : a < 128) (hb : b < 128) : mul c (a ^^^ b) = mul c a ^^^ mul c b := by
  rw [mul_lin hc (xor_lt ha hb), mul_lin hc ha, mul_lin hc hb, lin_xor]
theorem xor_mul {c a b : Nat} (hc : c < 128) (ha : a < 128) (hb : b < 128) : mul (a ^^^ b) c = mul a c ^^^ mul b c := by
  rw [mul_comm, mul_xor hc ha hb, mul_comm c a, mul_comm c b]
/-! the reckoning bit by bit -/
def ltStep (s : Nat × Nat × Nat) : Nat × Nat × Nat :=
  (cond (s.2.1 % 2 == 1) (s.1 ^^^ s.2.2) s.1, s.2.1 / 2, cond (Nat.ble 128 (2 * s.2.2)) ((2 * s.2.2) ^^^ 131) (2 * s.2.2))
def ltRun : Nat → Nat × Nat × Nat → Nat × Nat × Nat
  | 0, s => s
  | n + 1, s => ltStep (ltRun n s)
def ltimes (a b : Nat) : Nat := (ltRun 7 (0, b, a)).1
theorem ltimes_mul {a b : Nat} (ha : a < 128) (hb : b < 128) : ltimes a b = mul a b := by
  have q := all2_of (f := fun a b => ltimes a b == mul a b) (by decide +kernel) ha hb
  exact eq_of_beq q
theorem ltRun_lt {b a : Nat} (ha : a < 128) (n : Nat) : (ltRun n (0, b, a)).2.2 < 128 ∧ (ltRun n (0, b, a)).1 < 128 := by
  induction n with
  | zero => exact ⟨ha, by show 0 < 128; decide⟩
  | succ n ih =>
    obtain ⟨h1, h2⟩ := ih
    show (ltStep _).2.2 < 128 ∧ (ltStep _).1 < 128
    generalize ltRun n (0, b, a) = s at h1 h2 ⊢
    unfold ltStep
    refine ⟨?_, ?_⟩
    · cases e : Nat.ble 128 (2 * s.2.2) with
      | true =>
        have q := allN_of (n := 128) (f := fun x => decide (128 ≤ 2 * x → (2 * x) ^^^ 131 < 128)) (by decide +kernel) h1
        exact of_decide_eq_true q (Nat.le_of_ble_eq_true e)
      | false =>
        show 2 * s.2.2 < 128
        have := Nat.not_le_of_not_ble_eq_true (by rw [e]; decide : ¬ Nat.ble 128 (2 * s.2.2) = true)
        omega
    · cases s.2.1 % 2 == 1 with
      | true => exact xor_lt h2 h1
      | false => exact h2
/-- added, weight by weight -/
def laStep (a b : Nat) (t w : Nat) : Nat := t + (a / w + b / w) % 2 * w
def ladd (a b : Nat) : Nat := [1, 2, 4, 8, 16, 32, 64].foldl (laStep a b) 0
theorem ladd_xor {a b : Nat} (ha : a < 128) (hb : b < 128) : ladd a b = a ^^^ b := by
  have q := all2_of (f := fun a b => ladd a b == a ^^^ b) (by decide +kernel) ha hb
  exact eq_of_beq q
/-! powers in turn, quotients -/
def dbl (x : Nat) : Nat := if 2 * x > 127 then (2 * x) ^^^ 131 else 2 * x
theorem dbl_pw {i : Nat} (h : i < 126) : dbl (pw i) = pw (i + 1) := by
  have q := allN_of (n := 126) (f := fun i => dbl (pw i) == pw (i + 1)) (by decide +kernel) h
  exact eq_of_beq q
theorem powL_eq : powL = (List.range 127).map pw := by decide +kernel
theorem lg_inv {b : Nat} (hb : b < 128) (h0 : b ≠ 0) : lg (inv b) = (127 - lg b) % 127 := by
  unfold inv
  exact (pw_ok (Nat.mod_lt _ (by decide))).2.2
theorem quot_ok {a b : Nat} (ha : a < 128) (hb : b < 128) (a0 : a ≠ 0) (b0 : b ≠ 0) : mul a (inv b) = pw ((lg a + (127 - lg b)) % 127) := by
  rw [mul_nz a0 (inv_ok hb b0).2.2, lg_inv hb b0]
  congr 1
  omega
theorem mul_quot {a b : Nat} (ha : a < 128) (hb : b < 128) (b0 : b ≠ 0) : mul b (mul a (inv b)) = a := by
  rw [mul_comm a, ← mul_assoc, (inv_ok hb b0).1, one_mul ha]
theorem one_quot {b : Nat} (hb : b < 128) (b0 : b ≠ 0) : mul 1 (inv b) = inv b := one_mul (inv_ok hb b0).2.1
/-- a to the n-th -/
def fpow (a : Nat) : Nat → Nat
  | 0 => 1
  | n + 1 => mul (fpow a n) a
theorem fpow_pw {a : Nat} (a0 : a ≠ 0) : ∀ n, fpow a n = pw ((lg a * n) % 127)
  | 0 => by
    rw [Nat.mul_zero]
    show 1 = pw (0 % 127)
    decide +kernel
  | n + 1 => by
    show mul (fpow a n) a = _
    have h := fpow_pw a0 n
    have hp := pw_ok (i := (lg a * n) % 127) (Nat.mod_lt _ (by decide))
    rw [h, mul_nz hp.2.1 a0, hp.2.2, Nat.mul_succ]
    congr 1
    omega
theorem fpow_zero {n : Nat} (h : n ≠ 0) : fpow 0 n = 0 := by
  cases n with
  | zero => exact absurd rfl h
  | succ n => exact mul_zero_right _
theorem fpow_lt (a : Nat) : ∀ n, fpow a n < 128
  | 0 => by show 1 < 128; decide
  | n + 1 => mul_lt _ _
end MV

set_option Elab.async false
set_option linter.all false
set_option maxRecDepth 100000
set_option maxHeartbeats 4000000
/-! Own words over the hand layer: calls of own defs, what stays, what is alike. -/
namespace MV
open PySem PySem.Spec PyProof.Rows L2

/-- a def of the text, by its name, and its promise -/
structure Called (P : Program) (w : World) (K : PySem.W.Frag) (mg : Str → Option Value) (base : Heap) (CX : CXT) (x : Str) (k : Nat) (ps : List Str) (sp : Sp) : Prop where
  ex : ∃ (f : Addr) (fd : FuncData), FnOk P w K mg base CX k f fd ps sp ∧ mg x = some (.ref f) ∧ PySem.W.keepIn K (.ref f) = true ∧ Binds K fd ps []
/-- how a call by keywords alone binds -/
def KPerm (K : PySem.W.Frag) (mg : Str → Option Value) (x : Str) (ps ks : List Str) (g : List Value → List Value → List Value) (gV : List V → List V → List V) : Prop :=
  ∀ (f : Addr), mg x = some (.ref f) → ∃ fd : FuncData, (∀ (P : Program) (w : World) (base : Heap) (CX : CXT) (k : Nat) (sp : Sp) (fd' : FuncData), True) ∧ KBinds K fd ps ks g gV
section
variable {P : Program} {w : World} {K : PySem.W.Frag} {mg : Str → Option Value} {base : Heap} {CX : CXT}
theorem Called.mono {x : Str} {j k : Nat} {ps : List Str} {sp : Sp} (c : Called P w K mg base CX x j ps sp) (h : j ≤ k) : Called P w K mg base CX x k ps sp := by
  obtain ⟨f, fd, F, m, kp, b⟩ := c.ex
  exact ⟨f, fd, F.mono h, m, kp, b⟩
end
/-- the same, called by keywords alone: ks their names -/
structure CalledK (P : Program) (w : World) (K : PySem.W.Frag) (mg : Str → Option Value) (base : Heap) (CX : CXT) (x : Str) (k : Nat) (ps ks : List Str) (gV : List V → List V → List V) (sp : Sp) : Prop where
  ex : ∃ (f : Addr) (fd : FuncData) (g : List Value → List Value → List Value), FnOk P w K mg base CX k f fd ps sp ∧ mg x = some (.ref f) ∧ PySem.W.keepIn K (.ref f) = true ∧ KBinds K fd ps ks g gV
section
variable {X : Cx} {CX : CXT} {k : Nat} {ps ks : List Str} {sp : Sp} {E : XK} {x : Str} {p pos : Pos} {e : Expr} {es : List Expr} {kws : List Keyword} {t tk : TA} {gV : List V → List V → List V}
theorem pe_own (C : Called X.prog X.w X.K X.mg X.base CX x k ps sp) (hr : Room k X.A) (hg : Gl X x) (hx : Passes CX X E)
    (ha : PA X (e :: es) t) (hdb : (x == ("__debug__" : Str)) = false := by decide) (he : starEach (e :: es) X.env = (false, eval e X.env) :: starEach es X.env := by rfl) (hpl : (backTo pos (starEach es X.env)).any (·.1) = false := by rfl) :
    PE X (.Call (.Name x p) (e :: es) [] pos) (tCall sp [] E t) := by
  obtain ⟨f, fd, F, m, kp, b⟩ := C.ex
  exact pe_call F hr hg m kp b .nil hx ha hdb he hpl
theorem pe_own0 (C : Called X.prog X.w X.K X.mg X.base CX x k ps sp) (hr : Room k X.A) (hg : Gl X x) (hx : Passes CX X E)
    (hdb : (x == ("__debug__" : Str)) = false := by decide) : PE X (.Call (.Name x p) [] [] pos) (tCall sp [] E tNil) := by
  obtain ⟨f, fd, F, m, kp, b⟩ := C.ex
  exact pe_call0 F hr hg m kp b .nil hx hdb
/-- f(k = v, ..) -/
theorem pe_ownK (C : CalledK X.prog X.w X.K X.mg X.base CX x k ps ks gV sp) (hr : Room k X.A) (hg : Gl X x) (hx : Passes CX X E) (hkw : PK X kws tk)
    (hall : (backToKw pos (keywordEach kws X.env)).all (·.1.isSome) = true := by rfl) (hks : (backToKw pos (keywordEach kws X.env)).filterMap (·.1) = ks := by rfl) (hdb : (x == ("__debug__" : Str)) = false := by decide)
    (hpl : ((backTo pos (starEach [] X.env)).any (·.1) || (backToKw pos (keywordEach kws X.env)).any (·.1.isNone)) = false := by rfl) :
    PE X (.Call (.Name x p) [] kws pos) (tCallK sp gV E tNil tk) := by
  obtain ⟨f, fd, g, F, hm, hk, hb⟩ := C.ex
  refine ⟨fun pins s σ H Q I h => ?_⟩
  refine wpAny_Call_Name_kw (ld_glob I hg hm ?_ hdb)
  refine PySem.W.callWith_KW0 (h₀ := X.base) I.ok.mod.kin hk hall ?_ hpl
  refine thn (hkw.run pos pins s σ H _ I h) fun ws s2 ⟨zs, H2, I2, rz, q2⟩ => ⟨I2.kIn, ?_⟩
  rw [hks]
  exact run_fnk (us := []) (vs := []) F hr hb hx I2 .nil rz q2
/-- f(e, .., k = v, ..) -/
theorem pe_ownKA (C : CalledK X.prog X.w X.K X.mg X.base CX x k ps ks gV sp) (hr : Room k X.A) (hg : Gl X x) (hx : Passes CX X E) (ha : PA X (e :: es) t) (hkw : PK X kws tk)
    (hall : (backToKw pos (keywordEach kws X.env)).all (·.1.isSome) = true := by rfl) (hks : (backToKw pos (keywordEach kws X.env)).filterMap (·.1) = ks := by rfl)
    (hdb : (x == ("__debug__" : Str)) = false := by decide) (he : starEach (e :: es) X.env = (false, eval e X.env) :: starEach es X.env := by rfl)
    (hpl : ((backTo pos (starEach (e :: es) X.env)).any (·.1) || (backToKw pos (keywordEach kws X.env)).any (·.1.isNone)) = false := by rfl) :
    PE X (.Call (.Name x p) (e :: es) kws pos) (tCallK sp gV E t tk) := by
  obtain ⟨f, fd, g, F, hm, hk, hb⟩ := C.ex
  exact pe_callK F hr hg hm hk hb hx ha hkw hall hks hdb he hpl
end
/-! ### what stays -/
theorem same_new {H : Hp} {p : Addr} (h : H p = none) (o : HO) : Same H (upd H p o) := fun b u q => by rw [upd_ne (ne_of_none q h)]; exact q
theorem same_tup {K : PySem.W.Frag} {H H' : Hp} {a : Addr} {xs : List V} (e : Same H H') (h : SqT K H a xs) : SqT K H' a xs := by
  rcases h with (h | ⟨o, h⟩) | h
  · exact .inl (.inl (e _ _ h))
  · exact .inl (.inr ⟨o, e _ _ h⟩)
  · exact .inr h
theorem same_lst {H H' : Hp} {a : Addr} {o : HO} (e : Same H H') (h : H a = some o) : H' a = some o := e _ _ h
/-- an object that H doesn't know may change -/
theorem same_mut {H H' : Hp} {p : Addr} {o : HO} (e : Same H H') (h : H p = none) : Same H (upd H' p o) := fun a u ha => by
  rw [upd_ne (ne_of_none ha h)]
  exact e a u ha
/-! ### types -/
theorem ty_tup {K : PySem.W.Frag} {H : Hp} {a : Addr} {xs : List V} (h : SqT K H a xs) : TyX K H (.ref a) (.type "tuple") := by
  rcases h with (h | ⟨o, h⟩) | ⟨o, its, n, hk, hc, _⟩
  · exact .base (.tup h)
  · exact .fTuple h
  · exact .kTuple hk hc
theorem ty_lst {K : PySem.W.Frag} {H : Hp} {a : Addr} {xs : List V} (h : SqL K H a xs) : TyX K H (.ref a) (.type "list") := by
  rcases h with (h | ⟨o, h⟩) | ⟨o, its, n, hk, hc, _⟩
  · exact .base (.lst h)
  · exact .base (.frz h)
  · exact .kList hk hc
theorem ty_int {K : PySem.W.Frag} {H : Hp} {i : Int} : TyX K H (.int i) (.type "int") := .base (.int i)
theorem ty_bl {K : PySem.W.Frag} {H : Hp} {i : Bool} : TyX K H (.bl i) (.type "bool") := .base (.bl i)
theorem ty_str {K : PySem.W.Frag} {H : Hp} {i : Str} : TyX K H (.str i) (.type "str") := .base (.str i)
theorem ty_non {K : PySem.W.Frag} {H : Hp} : TyX K H .non (.type "NoneType") := .base .non
/-! ### what is alike, to a depth -/
def Scal (x y : V) : Prop := x = y ∧ (x = .non ∨ (∃ b, x = .bl b) ∨ (∃ i, x = .int i) ∨ ∃ s, x = .str s)
/-- the same int, text, bool or None; or tuples, or lists, of alike items -/
inductive Alike (K : PySem.W.Frag) : Nat → Hp → V → V → Prop where
  | scal {n : Nat} {H : Hp} {x y : V} (h : Scal x y) : Alike K n H x y
  | seq {n : Nat} {H : Hp} {p q : Addr} {xs ys : List V} (hs : (SqT K H p xs ∧ SqT K H q ys) ∨ (SqL K H p xs ∧ SqL K H q ys)) (hl : xs.length = ys.length) (hz : xs.length ≤ 100000)
    (hi : ∀ (i : Nat) (x' y' : V), xs[i]? = some x' → ys[i]? = some y' → Alike K n H x' y') : Alike K (n + 1) H (.ref p) (.ref q)
theorem alike_zero {K : PySem.W.Frag} {H : Hp} {x y : V} (h : Alike K 0 H x y) : Scal x y := by
  cases h with
  | scal h => exact h
theorem alike_succ {K : PySem.W.Frag} {n : Nat} {H : Hp} {x y : V} (h : Alike K (n + 1) H x y) : Scal x y ∨
      ∃ p q xs ys, x = .ref p ∧ y = .ref q ∧ ((SqT K H p xs ∧ SqT K H q ys) ∨ (SqL K H p xs ∧ SqL K H q ys)) ∧ xs.length = ys.length ∧ xs.length ≤ 100000 ∧ ∀ (i : Nat) (x' y' : V), xs[i]? = some x' → ys[i]? = some y' → Alike K n H x' y' := by
  cases h with
  | scal h => exact .inl h
  | seq hs hl hz hi => exact .inr ⟨_, _, _, _, rfl, rfl, hs, hl, hz, hi⟩
theorem Alike.same {K : PySem.W.Frag} : ∀ {n : Nat} {H H' : Hp} {x y : V}, Same H H' → Alike K n H x y → Alike K n H' x y
  | 0, _, _, _, _, _, h => .scal (alike_zero h)
  | n + 1, H, H', x, y, e, h => by
    rcases alike_succ h with h | ⟨p, q, xs, ys, hx, hy, hs, hl, hz, hi⟩
    · exact Alike.scal h
    · subst hx hy
      refine Alike.seq ?_ hl hz fun i x' y' a b => (hi i x' y' a b).same e
      rcases hs with ⟨a, b⟩ | ⟨a, b⟩
      · exact .inl ⟨same_tup e a, same_tup e b⟩
      · exact .inr ⟨e.seq a, e.seq b⟩
theorem Alike.int {K : PySem.W.Frag} {H : Hp} {i : Int} {n : Nat} : Alike K n H (.int i) (.int i) := Alike.scal ⟨rfl, .inr (.inr (.inl ⟨i, rfl⟩))⟩
theorem Alike.str {K : PySem.W.Frag} {H : Hp} {i : Str} {n : Nat} : Alike K n H (.str i) (.str i) := Alike.scal ⟨rfl, .inr (.inr (.inr ⟨i, rfl⟩))⟩
theorem Alike.ints {α : Type} {K : PySem.W.Frag} {H : Hp} {n : Nat} {f : α → V} {l : List α} (hf : ∀ a, ∃ i, f a = .int i) {i : Nat} {x y : V} (a : (l.map f)[i]? = some x) (b : (l.map f)[i]? = some y) : Alike K n H x y := by
  have e : x = y := Option.some.inj (a.symm.trans b)
  subst e
  rw [List.getElem?_map] at a
  cases h : l[i]? with
  | none => rw [h] at a; cases a
  | some u =>
    rw [h] at a
    obtain ⟨j, hj⟩ := hf u
    have e : x = .int j := (Option.some.inj a).symm.trans hj
    rw [e]
    exact Alike.int
/-- a row as a value -/
abbrev rowV (l : List Nat) : List V := l.map fun (n : Nat) => V.int (n : Int)
theorem Alike.rowT {K : PySem.W.Frag} {H : Hp} {n : Nat} {p q : Addr} {l : List Nat} (a : SqT K H p (rowV l)) (b : SqT K H q (rowV l)) (hz : l.length ≤ 100000) : Alike K (n + 1) H (.ref p) (.ref q) :=
  Alike.seq (.inl ⟨a, b⟩) rfl (by rw [List.length_map]; exact hz) fun _ _ _ x y => Alike.ints (fun a => ⟨_, rfl⟩) x y
theorem Alike.rowL {K : PySem.W.Frag} {H : Hp} {n : Nat} {p q : Addr} {l : List Nat} (a : SqL K H p (rowV l)) (b : SqL K H q (rowV l)) (hz : l.length ≤ 100000) : Alike K (n + 1) H (.ref p) (.ref q) :=
  Alike.seq (.inr ⟨a, b⟩) rfl (by rw [List.length_map]; exact hz) fun _ _ _ x y => Alike.ints (fun a => ⟨_, rfl⟩) x y
/-- two lists or tuples of two -/
theorem Alike.two {K : PySem.W.Frag} {H : Hp} {n : Nat} {p q : Addr} {a b c d : V} (h : (SqT K H p [a, b] ∧ SqT K H q [c, d]) ∨ (SqL K H p [a, b] ∧ SqL K H q [c, d])) (h1 : Alike K n H a c) (h2 : Alike K n H b d) : Alike K (n + 1) H (.ref p) (.ref q) :=
  Alike.seq h rfl (by show 2 ≤ 100000; decide) fun i x' y' e f => by
    match i with
    | 0 => cases e; cases f; exact h1
    | 1 => cases e; cases f; exact h2
    | i + 2 => cases e
theorem Alike.nat {K : PySem.W.Frag} {H : Hp} {i j : Nat} {n : Nat} (e : i = j) : Alike K n H (.int (i : Int)) (.int (j : Int)) := by
  rw [e]
  exact Alike.int
/-! ### promises of a law's helpers -/
def spAlike (K : PySem.W.Frag) (n : Nat) : Sp := fun vs H Q _ => ∃ x y, vs = [x, y] ∧ Alike K n H x y ∧ ∀ H', Same H H' → Q (.bl true) H'
/-- the mixing of a cell -/
def mix1 (c s : Int) : Int := (c * 48271 + s * 69621 + 12345) % 2147483647
def mix (c s : Int) : Int := (mix1 c s * mix1 c s + mix1 c s * 16807 + s * 7919) % 2147483629
theorem mix1_r (c s : Int) : 0 ≤ mix1 c s ∧ mix1 c s < 2147483647 := ⟨Int.emod_nonneg _ (by decide), Int.emod_lt_of_pos _ (by decide)⟩
theorem mix_r (c s : Int) : 0 ≤ mix c s ∧ mix c s < 2147483629 := ⟨Int.emod_nonneg _ (by decide), Int.emod_lt_of_pos _ (by decide)⟩
def spMix : Sp := fun vs H Q _ => ∃ c s : Int, vs = [.int c, .int s] ∧ Q (.int (mix c s)) H
/-- a def of two symbols -/
def spSym2 (f : Nat → Nat → Nat) : Sp := fun vs H Q _ => ∃ a b : Nat, vs = [.int (a : Int), .int (b : Int)] ∧ (a < 128 ∧ b < 128) ∧ Q (.int (f a b : Nat)) H
theorem nat_of {x : Int} {m : Int} (hm : 0 < m) : ∃ n : Nat, x % m = (n : Int) ∧ (n : Int) < m :=
  ⟨(x % m).toNat, (Int.toNat_of_nonneg (Int.emod_nonneg _ (by omega))).symm, by rw [Int.toNat_of_nonneg (Int.emod_nonneg _ (by omega))]; exact Int.emod_lt_of_pos _ hm⟩
theorem sym_of (x : Int) : ∃ n : Nat, x % 128 = (n : Int) ∧ n < 128 := by
  obtain ⟨n, e, h⟩ := nat_of (x := x) (m := 128) (by decide)
  exact ⟨n, e, by omega⟩
theorem row_at {l : List Nat} {i n : Nat} (h : l[i]? = some n) : atI (rowV l) (i : Int) = some (.int (n : Int)) := atI_nat (by rw [List.getElem?_map, h] <;> rfl)
theorem xor_cast (a b : Nat) : Builtin.bitXor (a : Int) (b : Int) = ((a ^^^ b : Nat) : Int) := by
  rw [Bits.bitXor_pp (Int.natCast_nonneg _) (Int.natCast_nonneg _)]
  rfl
/-! ### the field's tables as the program has them -/
structure Tabs (K : PySem.W.Frag) (mg : Str → Option Value) (pl ll : List Nat) : Prop where
  pow : ∃ a : Addr, mg "POWERS" = some (.ref a) ∧ ∀ H, SqT K H a (rowV pl)
  log : ∃ a : Addr, mg "LOGARITHMS" = some (.ref a) ∧ ∀ H, SqT K H a (rowV ll)
  ord : ∃ t : Tok, mg "ORDER" = some (.int 127 t)
theorem vint_eq {i j : Int} (h : decide (V.int i = V.int j) = true) : i = j := V.int.inj (of_decide_eq_true h)
theorem vint_ne {i j : Int} (h : ¬ decide (V.int i = V.int j) = true) : i ≠ j := fun e => h (decide_eq_true (by rw [e]))
theorem dec_ne {p : Prop} [Decidable p] (h : ¬ decide p = true) : ¬ p := fun e => h (decide_eq_true e)
/-- a branch that is taken, that is not taken -/
theorem iteP {c A B : Prop} [Decidable c] (hc : c) (h : A) : if c then A else B := by
  rw [if_pos hc]
  exact h
theorem iteN {c A B : Prop} [Decidable c] (hc : ¬ c) (h : B) : if c then A else B := by
  rw [if_neg hc]
  exact h
theorem iteB {c : Bool} {A B : Prop} (hc : c = false) (h : B) : if c = true then A else B := by
  rw [hc]
  exact iteF h
/-! ### isinstance with the built-in kinds -/
theorem kit_seqT {K : PySem.W.Frag} : PySem.W.kitAny K (.type "tuple") [.type "tuple", .type "list"] = some true :=
  kitAny_cons (b := true) (kit_ty (by decide +kernel)) (fun h => nomatch h) fun _ => rfl
theorem kit_seqL {K : PySem.W.Frag} : PySem.W.kitAny K (.type "list") [.type "tuple", .type "list"] = some true :=
  kitAny_cons (b := false) (kit_ty (by decide +kernel)) (fun _ => kitAny_cons (b := true) (kit_ty (by decide +kernel)) (fun h => nomatch h) fun _ => rfl) fun h => nomatch h
theorem kit_seqN {K : PySem.W.Frag} {t : String} (h1 : kitB t "tuple" = some false) (h2 : kitB t "list" = some false) : PySem.W.kitAny K (.type t) [.type "tuple", .type "list"] = some false :=
  kitAny_cons (b := false) (kit_ty h1) (fun _ => kitAny_cons (b := false) (kit_ty h2) (fun _ => kitAny_nil) fun h => nomatch h) fun h => nomatch h
theorem cls_seq : Paired ClsV [V.ty "tuple", V.ty "list"] [Value.type "tuple", Value.type "list"] := .cons (.ty _) (.cons (.ty _) .nil)
/-- a scalar's kind -/
inductive SK : V → String → Prop where
  | int (i : Int) : SK (.int i) "int"
  | bl (b : Bool) : SK (.bl b) "bool"
  | str (s : Str) : SK (.str s) "str"
  | non : SK .non "NoneType"
theorem SK.ty {K : PySem.W.Frag} {H : Hp} {x : V} {t : String} (h : SK x t) : TyX K H x (.type t) := by
  cases h with
  | int i => exact ty_int
  | bl b => exact ty_bl
  | str s => exact ty_str
  | non => exact ty_non
def spA (K : PySem.W.Frag) : Nat → Sp
  | 0 => fun _ _ _ _ => False
  | n + 1 => spAlike K n
theorem spA_no {P : Program} {w : World} {K : PySem.W.Frag} {mg : Str → Option Value} {base : Heap} {f : Addr} {fd : FuncData} {ps : List Str} : FnOk P w K mg base CX0 0 f fd ps (spA K 0) :=
  ⟨fun vs H Q E h => absurd h id, fun A outer s H args us vs Q E _ _ _ _ h => absurd h id⟩
theorem room_mono {j k : Nat} {A : Around} (r : Room k A) (h : j ≤ k) : Room j A := r.mono h
theorem sz_ok {n : Nat} (h : n ≤ 100000) : n ≤ sizeLine := Nat.le_trans h (by decide)
theorem sz_lt {n : Nat} (h : n < 100000) : n < sizeLine := Nat.lt_of_lt_of_le h (by decide)
theorem iteC {c : Bool} {A B : Prop} (hc : c = true) (h : A) : if c = true then A else B := by
  rw [hc]
  exact iteT h
theorem ix_any {K : PySem.W.Frag} {H : Hp} {p : Addr} {xs : List V} {i : Nat} {v : V} {Q : VK} (h : SqL K H p xs ∨ SqT K H p xs) (e : xs[i]? = some v) (q : Q v H) : rIx K (.ref p) (.int (i : Int)) H Q := by
  rcases h with h | h
  · exact .inl ⟨_, _, _, _, rfl, rfl, h, atI_nat e, q⟩
  · exact .inr (.inl ⟨_, _, _, _, rfl, rfl, h, atI_nat e, q⟩)
theorem kind_seq {K : PySem.W.Frag} {H : Hp} {p q : Addr} {xs ys : List V} (h : (SqT K H p xs ∧ SqT K H q ys) ∨ (SqL K H p xs ∧ SqL K H q ys)) :
    ∃ (ty : String) (b1 b2 : Bool), (∀ H', Same H H' → TyX K H' (.ref p) (.type ty) ∧ TyX K H' (.ref q) (.type ty) ∧ (SqL K H' p xs ∨ SqT K H' p xs) ∧ (SqL K H' q ys ∨ SqT K H' q ys)) ∧
      PySem.W.kitAny K (.type ty) [.type "tuple", .type "list"] = some true ∧ PySem.W.kitOne K (.type ty) (.type "tuple") = some b1 ∧ PySem.W.kitOne K (.type ty) (.type "list") = some b2 := by
  rcases h with ⟨a, b⟩ | ⟨a, b⟩
  · exact ⟨"tuple", true, false, fun H' e => ⟨ty_tup (same_tup e a), ty_tup (same_tup e b), .inr (same_tup e a), .inr (same_tup e b)⟩, kit_seqT, kit_ty (by decide +kernel), kit_ty (by decide +kernel)⟩
  · exact ⟨"list", false, true, fun H' e => ⟨ty_lst (e.seq a), ty_lst (e.seq b), .inl (e.seq a), .inl (e.seq b)⟩, kit_seqL, kit_ty (by decide +kernel), kit_ty (by decide +kernel)⟩
theorem not_self {A B : Prop} {b : Bool} (h : B) : if (!decide (V.bl b = V.bl b)) = true then A else B := iteNS rfl h
theorem foldl_take {α β : Type} (f : β → α → β) (z : β) {l : List α} {i : Nat} {w : α} (h : l[i]? = some w) : (l.take (i + 1)).foldl f z = f ((l.take i).foldl f z) w := by
  rw [List.take_add_one, h]
  show ((l.take i) ++ [w]).foldl f z = _
  rw [List.foldl_append]
  rfl
theorem rowV_at {l : List Nat} {i : Nat} {x : V} (h : (rowV l)[i]? = some x) : ∃ n, l[i]? = some n ∧ x = .int (n : Int) := by
  rw [List.getElem?_map] at h
  cases e : l[i]? with
  | none => rw [e] at h; cases h
  | some n =>
    rw [e] at h
    exact ⟨n, rfl, (Option.some.inj h).symm⟩
/-- .. that leaves new things behind -/
def spSym2N (f : Nat → Nat → Nat) : Sp := fun vs H Q _ => ∃ a b : Nat, vs = [.int (a : Int), .int (b : Int)] ∧ (a < 128 ∧ b < 128) ∧ ∀ H', Same H H' → Q (.int (f a b : Nat)) H'
/-! ### keywords alone -/
def gSame {α : Type} : List α → List α → List α
  | [], ws => ws
  | _ :: _, _ => []
def gSwap {α : Type} : List α → List α → List α
  | [], [x, y] => [y, x]
  | _, _ => []
section
variable {K : PySem.W.Frag} {x qual : Str} {st : Stmt} {f : Addr} {fd : FuncData}
theorem kb_same {ps : List Str} (F : Fun K x qual st f fd) (h0 : ps ≠ [])
    (h : ∀ (kV doc pm : Value) (an : Option Addr) (cdv ct : Value) (ws : List Value), ws.length = ps.length → bindArgs (PySem.W.fnOf x qual (defArgs st) (defBody st) (defScope st) .none kV doc pm an cdv ct) ⟨[], ps.zip ws⟩ = pure (ps.zip ws)) : KBinds K fd ps ps gSame gSame := by
  obtain ⟨oc, od, kV, doc, pm, an, cdv, ct, osl, rfl, lk, hcd⟩ := F.ex
  refine ⟨fun s us ws _ hl => ?_, fun {vs us zs ws} r q => ?_⟩
  · cases us with
    | nil => exact .of_eq (h kV doc pm an cdv ct ws hl)
    | cons u r =>
      exfalso
      cases ps with
      | nil => exact h0 rfl
      | cons p t => cases hl
  · cases r with
    | nil => exact q
    | cons a b => exact .nil
theorem kb_swap {p q : Str} (F : Fun K x qual st f fd)
    (h : ∀ (kV doc pm : Value) (an : Option Addr) (cdv ct : Value) (u v : Value), bindArgs (PySem.W.fnOf x qual (defArgs st) (defBody st) (defScope st) .none kV doc pm an cdv ct) ⟨[], [(q, u), (p, v)]⟩ = pure [(p, v), (q, u)]) : KBinds K fd [p, q] [q, p] gSwap gSwap := by
  obtain ⟨oc, od, kV, doc, pm, an, cdv, ct, osl, rfl, lk, hcd⟩ := F.ex
  refine ⟨fun s us ws _ hl => ?_, fun {vs us zs ws} r q => ?_⟩
  · match us, ws, hl with
    | [], [u, v], _ => exact .of_eq (h kV doc pm an cdv ct u v)
  · cases r with
    | cons a b => exact .nil
    | nil =>
      cases q with
      | nil => exact .nil
      | cons a b =>
        cases b with
        | nil => exact .nil
        | cons c d =>
          cases d with
          | nil => exact .cons c (.cons a .nil)
          | cons _ _ => exact .nil
end
/-! ### operators over numbers from 0 on -/
def rN2 (C : Nat → Nat → Prop) (f : Nat → Nat → Nat) : R2 := fun x y H Q => ∃ i j : Nat, x = .int (i : Int) ∧ y = .int (j : Int) ∧ C i j ∧ Q (.int (f i j : Nat)) H
def rN0 (f : Nat → Nat → Nat) : R2 := fun x y H Q => ∃ i j : Nat, x = .int (i : Int) ∧ y = .int (j : Int) ∧ Q (.int (f i j : Nat)) H
def rNB (f : Nat → Nat → Bool) : R2 := fun x y H Q => ∃ i j : Nat, x = .int (i : Int) ∧ y = .int (j : Int) ∧ Q (.bl (f i j)) H
section
variable {X : Cx} {f : Value → Value → Sem Value} {r r' : R2}
theorem op_imp (h : OpR X f r) (i : ∀ x y H Q, r' x y H Q → r x y H Q) : OpR X f r' := fun pins s σ H x y v u Q I a b q => h pins s σ H x y v u Q I a b (i x y H Q q)
theorem op_modI : OpR X (binaryOp .Mod) (rI (fun _ j => 0 < j) fun i j => .int ((i % j).toNat : Nat)) := op_imp op_mod fun x y H Q ⟨i, j, hx, hy, c, q⟩ => ⟨i, j, hx, hy, c, by
  dsimp only at q ⊢
  rw [Int.toNat_of_nonneg (Int.emod_nonneg i (by omega))] at q
  exact q⟩
theorem nop_add : OpR X (binaryOp .Add) (rN0 fun i j => i + j) := op_imp op_add fun x y H Q ⟨i, j, hx, hy, q⟩ => ⟨i, j, hx, hy, by
  dsimp only at q ⊢
  rw [Int.natCast_add] at q
  exact q⟩
theorem nop_mul : OpR X (binaryOp .Mult) (rN2 (fun i j => i < 2 ^ 64 ∨ j < 2 ^ 64) fun i j => i * j) := op_imp op_mul fun x y H Q ⟨i, j, hx, hy, c, q⟩ => ⟨i, j, hx, hy, by
  rcases c with c | c
  · exact .inl ⟨by omega, by omega⟩
  · exact .inr ⟨by omega, by omega⟩, by
  dsimp only at q ⊢
  rw [Int.natCast_mul] at q
  exact q⟩
theorem nop_div : OpR X (binaryOp .FloorDiv) (rN2 (fun _ j => 0 < j ∧ j < 1073741824) fun i j => i / j) := op_imp op_fdiv fun x y H Q ⟨i, j, hx, hy, c, q⟩ => ⟨i, j, hx, hy, ⟨by omega, by omega⟩, by
  dsimp only at q ⊢
  rw [Int.natCast_ediv] at q
  exact q⟩
theorem nop_mod : OpR X (binaryOp .Mod) (rN2 (fun _ j => 0 < j) fun i j => i % j) := op_imp op_mod fun x y H Q ⟨i, j, hx, hy, c, q⟩ => ⟨i, j, hx, hy, by omega, by
  dsimp only at q ⊢
  rw [Int.natCast_emod] at q
  exact q⟩
theorem nop_xor : OpR X (binaryOp .BitXor) (rN0 fun i j => i ^^^ j) := op_imp op_xor fun x y H Q ⟨i, j, hx, hy, q⟩ => ⟨i, j, hx, hy, by
  dsimp only at q ⊢
  rw [xor_cast]
  exact q⟩
theorem nop_sub : OpR X (binaryOp .Sub) (rN2 (fun i j => j ≤ i) fun i j => i - j) := op_imp op_sub fun x y H Q ⟨i, j, hx, hy, c, q⟩ => ⟨i, j, hx, hy, by
  dsimp only at q ⊢
  rw [Int.ofNat_sub c] at q
  exact q⟩
theorem nop_eq : OpR X (compareOp .Eq) (rNB fun i j => decide (i = j)) := op_imp op_eq fun x y H Q ⟨i, j, hx, hy, q⟩ => by
  subst hx hy
  refine ⟨rfl, ?_⟩
  have e : decide (V.int (i : Int) = V.int (j : Int)) = decide (i = j) := decide_eq_decide.mpr ⟨fun z => Int.ofNat.inj (V.int.inj z), fun z => by rw [z]⟩
  rw [e]
  exact q
theorem nop_ne : OpR X (compareOp .NotEq) (rNB fun i j => decide (i ≠ j)) := op_imp op_ne fun x y H Q ⟨i, j, hx, hy, q⟩ => by
  subst hx hy
  refine ⟨rfl, ?_⟩
  have e : (!decide (V.int (i : Int) = V.int (j : Int))) = decide (i ≠ j) := by
    rw [show decide (V.int (i : Int) = V.int (j : Int)) = decide (i = j) from decide_eq_decide.mpr ⟨fun z => Int.ofNat.inj (V.int.inj z), fun z => by rw [z]⟩]
    by_cases h : i = j <;> simp [h]
  rw [e]
  exact q
theorem nop_lt : OpR X (compareOp .Lt) (rNB fun i j => decide (i < j)) := op_imp op_lt fun x y H Q ⟨i, j, hx, hy, q⟩ => ⟨i, j, hx, hy, by
  dsimp only at q ⊢
  rw [show decide ((i : Int) < (j : Int)) = decide (i < j) from decide_eq_decide.mpr Int.ofNat_lt]
  exact q⟩
theorem nop_gt : OpR X (compareOp .Gt) (rNB fun i j => decide (i > j)) := op_imp op_gt fun x y H Q ⟨i, j, hx, hy, q⟩ => ⟨i, j, hx, hy, by
  have e : decide ((i : Int) > (j : Int)) = decide (i > j) := decide_eq_decide.mpr Int.ofNat_lt
  dsimp only at q ⊢
  first | (rw [e]; exact q) | (rw [show decide ((j : Int) < (i : Int)) = decide (i > j) from e]; exact q)⟩
theorem nop_le : OpR X (compareOp .LtE) (rNB fun i j => decide (i ≤ j)) := op_imp op_le fun x y H Q ⟨i, j, hx, hy, q⟩ => ⟨i, j, hx, hy, by
  dsimp only at q ⊢
  rw [show decide ((i : Int) ≤ (j : Int)) = decide (i ≤ j) from decide_eq_decide.mpr Int.ofNat_le]
  exact q⟩
theorem nop_ge : OpR X (compareOp .GtE) (rNB fun i j => decide (i ≥ j)) := op_imp op_ge fun x y H Q ⟨i, j, hx, hy, q⟩ => ⟨i, j, hx, hy, by
  have e : decide ((i : Int) ≥ (j : Int)) = decide (i ≥ j) := decide_eq_decide.mpr Int.ofNat_le
  dsimp only at q ⊢
  first | (rw [e]; exact q) | (rw [show decide ((j : Int) ≤ (i : Int)) = decide (i ≥ j) from e]; exact q)⟩
/-- xs[i], i from 0 on -/
def rIxN (K : PySem.W.Frag) : R2 := fun x y H Q => ∃ (p : Addr) (xs : List V) (i : Nat) (v : V), x = .ref p ∧ y = .int (i : Int) ∧ (SqL K H p xs ∨ SqT K H p xs) ∧ xs[i]? = some v ∧ Q v H
theorem ix_n : IxR X (rIxN X.K) := fun value slice pins s σ H x y v u Q I a b ⟨p, xs, i, w, hx, hy, h, e, q⟩ hs => by
  subst hx hy
  exact ix_seq value slice pins s σ H _ _ v u Q I a b (ix_any h e q) hs
end
theorem ln0 : ([] : List V).length ≤ sizeLine := by show 0 ≤ sizeLine; decide
theorem ln1 {a : V} : ([a] : List V).length ≤ sizeLine := by show 1 ≤ sizeLine; decide
theorem ln2 {a b : V} : ([a, b] : List V).length ≤ sizeLine := by show 2 ≤ sizeLine; decide
theorem ln3 {a b c : V} : ([a, b, c] : List V).length ≤ sizeLine := by show 3 ≤ sizeLine; decide
theorem ln4 {a b c d : V} : ([a, b, c, d] : List V).length ≤ sizeLine := by show 4 ≤ sizeLine; decide
theorem ln5 {a b c d e : V} : ([a, b, c, d, e] : List V).length ≤ sizeLine := by show 5 ≤ sizeLine; decide
theorem ln6 {a b c d e f : V} : ([a, b, c, d, e, f] : List V).length ≤ sizeLine := by show 6 ≤ sizeLine; decide
theorem ln7 {a b c d e f g : V} : ([a, b, c, d, e, f, g] : List V).length ≤ sizeLine := by show 7 ≤ sizeLine; decide
theorem ln8 {a b c d e f g h : V} : ([a, b, c, d, e, f, g, h] : List V).length ≤ sizeLine := by show 8 ≤ sizeLine; decide
theorem vals_of : ∀ {xs : List V} {us : List Value}, us.map absV = xs.map some → Vals xs us
  | [], [], _ => .nil
  | [], _ :: _, h => nomatch h
  | _ :: _, [], h => nomatch h
  | x :: xs, u :: us, h => by
    rw [List.map_cons, List.map_cons] at h
    injection h with h1 h2
    refine .cons ?_ (vals_of h2)
    cases u <;> first | (cases h1; first | exact ⟨_, rfl⟩ | rfl) | cases h1
theorem tup_written {K : PySem.W.Frag} {a : Addr} {dd : Option Addr} {its : Array Value} {n : Nat} {sl : Array (Option Value)} {xs : List V} (l : K.lookup a = some ⟨.type "tuple", dd, .seq its n, sl⟩) (h : its.toList.map absV = xs.map some) (hz : its.toList.length ≤ 1000) (H : Hp) : SqT K H a xs :=
  .inr ⟨_, its, n, l, rfl, rfl, Nat.le_of_lt (small1000 (by rw [← Array.length_toList]; exact hz)), vals_of h⟩
theorem called {P : Program} {w : World} {K : PySem.W.Frag} {mg : Str → Option Value} {base : Heap} {CX : CXT} {x qual : Str} {st : Stmt} {f : Addr} {fd : FuncData} {k : Nat} {ps : List Str} {sp : Sp} (F : Fun K x qual st f fd) (m : mg x = some (.ref f)) (b : Binds K fd ps []) (h : FnOk P w K mg base CX k f fd ps sp) :
    Called P w K mg base CX x k ps sp := ⟨f, fd, h, m, F.kp, b⟩
theorem calledK {P : Program} {w : World} {K : PySem.W.Frag} {mg : Str → Option Value} {base : Heap} {CX : CXT} {x qual : Str} {st : Stmt} {f : Addr} {fd : FuncData} {k : Nat} {ps ks : List Str} {sp : Sp} {g : List Value → List Value → List Value} {gV : List V → List V → List V} (F : Fun K x qual st f fd) (m : mg x = some (.ref f)) (b : KBinds K fd ps ks g gV) (h : FnOk P w K mg base CX k f fd ps sp) :
    CalledK P w K mg base CX x k ps ks gV sp := ⟨f, fd, g, h, m, F.kp, b⟩
theorem call_imp {X : Cx} {f : Value} {r r' : List V → Hp → VK → Prop} (h : CallR X f r) (i : ∀ xs H Q, r' xs H Q → r xs H Q) : CallR X f r' := fun pins s σ H xs us Q I a q => h pins s σ H xs us Q I a (i xs H Q q)
theorem ncall_min2 {X : Cx} (hc : X.calm = true) : CallR X (.builtin "min") (fun xs H Q => ∃ m n : Nat, xs = [.int (m : Int), .int (n : Int)] ∧ Q (.int ((if n < m then n else m : Nat) : Int)) H) := call_imp (call_min2 hc) fun xs H Q ⟨m, n, hx, q⟩ => ⟨m, n, hx, by
  by_cases h : n < m
  · rw [if_pos h] at q
    rw [if_pos (Int.ofNat_lt.mpr h)]
    exact q
  · rw [if_neg h] at q
    rw [if_neg (fun z => h (Int.ofNat_lt.mp z))]
    exact q⟩
theorem ncall_max2 {X : Cx} (hc : X.calm = true) : CallR X (.builtin "max") (fun xs H Q => ∃ m n : Nat, xs = [.int (m : Int), .int (n : Int)] ∧ Q (.int ((if n > m then n else m : Nat) : Int)) H) := call_imp (call_max2 hc) fun xs H Q ⟨m, n, hx, q⟩ => ⟨m, n, hx, by
  by_cases h : n > m
  · rw [if_pos h] at q
    rw [if_pos (Int.ofNat_lt.mpr h)]
    exact q
  · rw [if_neg h] at q
    rw [if_neg (fun z => h (Int.ofNat_lt.mp z))]
    exact q⟩
theorem ln9 {a b c d e f g h i : V} : ([a, b, c, d, e, f, g, h, i] : List V).length ≤ sizeLine := by show 9 ≤ sizeLine; decide
theorem ln10 {a b c d e f g h i j : V} : ([a, b, c, d, e, f, g, h, i, j] : List V).length ≤ sizeLine := by show 10 ≤ sizeLine; decide
theorem ln11 {a b c d e f g h i j k : V} : ([a, b, c, d, e, f, g, h, i, j, k] : List V).length ≤ sizeLine := by show 11 ≤ sizeLine; decide
theorem ln12 {a b c d e f g h i j k l : V} : ([a, b, c, d, e, f, g, h, i, j, k, l] : List V).length ≤ sizeLine := by show 12 ≤ sizeLine; decide
/-- what law(script) promises -/
def spLaw (K : PySem.W.Frag) : Sp := fun vs H Q _ => ∃ (a : Addr) (ns : List Int), vs = [.ref a] ∧ SqL K H a (ns.map V.int) ∧ ns.length ≤ 63 ∧ ∀ H', Q (.bl true) H'
end MV

set_option Elab.async false
set_option linter.all false
set_option maxRecDepth 100000
set_option maxHeartbeats 4000000
/-! An own error class whose base is an own class that stands right over Exception; its __init__ stores its one argument in a field. -/
namespace PySem
namespace Mve
open PySem.W PySem.Calls PyProof.Rows PySem.HandSPX
/-! the text of __init__ with the field at -/
def iA_at (p1 p2 : Pos) : Arguments := { posonlyargs := [], args := [{ arg := "self", annotation := none, pos := p1 }, { arg := "at", annotation := none, pos := p2 }], vararg := none, kwonlyargs := [], kw_defaults := [], kwarg := none, defaults := [] }
def iB_at (q1 q2 q3 q4 : Pos) : List Stmt := [.Assign [.Attribute (.Name "self" q1) "at" q2] (.Name "at" q3) q4]
def iS_at : Scope := { kind := .function, names := [(PySem.Str.ofString "self", .local), (PySem.Str.ofString "at", .local)], isGenerator := false, isCoroutine := false, more := [] }

structure ETxt (x qual fld : Str) (iB : Pos → Pos → Pos → Pos → List Stmt) (iA : Pos → Pos → Arguments) (iS : Scope) (K : Frag) (mg : Str → Option Value) (C D fI : Addr) : Prop where
  gC : mg x = some (.ref C)
  cls : ∃ nm q N bs sn sub ab col dd k0 k1 k2 k3 k5, K.lookup C = some (excClassObj nm q C N bs (.ref D :: ESX.exTail) true sn sub ab col dd k0 k1 k2 k3 k5 "Exception.__new__")
  sa : findIn K (.ref C) "__setattr__" = some (some (.builtin "object.__setattr__"))
  ga : findIn K (.ref C) "__getattribute__" = some (some (.builtin "BaseException.__getattribute__"))
  gg : findIn K (.ref C) "__getattr__" = some none
  noN : findIn K (.ref C) fld = some none
  iC : findIn K (.ref C) "__init__" = some (some (.ref fI))
  tC : typeIn K (.ref fI) = some (.type "function")
  kC : keepIn K (.ref C) = true
  exC : subIn K (.ref C) (.type "BaseException") = some true
  tyC : typeIn K (.ref C) = some (.type "type")
  hdC : hasDictIn K C = true
  te : exmOne K (.ref C) (.ref C) = some true
  fn : ∃ (oc : Value) (od : Option Addr) (doc pm : Value) (an : Option Addr) (cdv ct : Value) (osl : Array (Option Value)) (p1 p2 q1 q2 q3 q4 : Pos),
    K.lookup fI = some ⟨oc, od, .func (fnOf "__init__" qual (iA p1 p2) (iB q1 q2 q3 q4) iS .none .none doc pm an cdv ct), osl⟩ ∧ codeIn K cdv qual = true
theorem one_fits (v : Value) : [v].length ≤ sizeLine := by rw [sizeLine_eq]; exact (by decide : 1 ≤ 16777216)
/-- what __init__ leaves of a fresh error at x -/
structure Left (fld : Str) (h h' : Heap) (x C dx t1 : Addr) (v : Value) : Prop where
  keep : ∀ b o, b ≠ x → h.get? b = some o → h'.get? b = some o
  obj : h'.get? x = some { cls := .ref C, dict := some dx, data := .fields #[.ref t1, .none, .none, .none, .bool false, .none] }
  big : h.objs.size ≤ dx
  ne : dx ≠ x
  ns : h'.Ns1 dx (fun y => if y = fld then some v else none)
/-- a made error at e -/
structure Made (fld : Str) (h h' : Heap) (e C d : Addr) (v : Value) : Prop where
  keep : ∀ b o, h.get? b = some o → h'.get? b = some o
  new : h.objs.size ≤ e
  obj : ∃ oe vs, h'.get? e = some oe ∧ oe.cls = .ref C ∧ oe.dict = some d ∧ oe.data = .fields vs ∧ vs[1]? = some .none ∧ vs[2]? = some .none
  big : h.objs.size ≤ d
  ne : d ≠ e
  ns : h'.Ns1 d (fun y => if y = fld then some v else none)
theorem tail2_has {C D : Addr} (X : String) : (Value.ref C :: Value.ref D :: ESX.exTail).contains (.type X) = ESX.exTail.contains (.type X) := by
  rw [List.contains_cons, List.contains_cons]
  rfl
theorem tail1_has {D : Addr} (X : String) : (Value.ref D :: ESX.exTail).contains (.type X) = ESX.exTail.contains (.type X) := by
  rw [List.contains_cons]
  rfl
section
variable {prog : Program} {w : World} {A : Around} {R : Result → Shared → Prop} {hp : Heap} {g : Array GenState} {d : Drawn} {t : Nat} {os : OsState}
open Builtin Builtin.ObjectAttr in
/-- x.fld = v on an error without a dict as yet -/
theorem store_first {K : W.Frag} {name : Str} {tk : Tok} {v : Value} {x C D : Addr} {fv : Array Value} {cd : ClassData} (X : K.In hp) (hx : hp.get? x = some { cls := .ref C, data := .fields fv }) (hcd : W.clsIn K C = some cd)
    (hm : cd.mro = .ref C :: .ref D :: ESX.exTail) (hh : cd.hasDict = true) (ha : W.findIn K (.ref C) name = some none)
    (hq : ∀ h' tk' dx, (∀ b o, b ≠ x → hp.get? b = some o → h'.get? b = some o) → hp.objs.size ≤ dx → dx ≠ x → h'.get? x = some { cls := .ref C, dict := some dx, data := .fields fv } → h'.Ns1 dx (fun y => if y = name then some v else none) → R (.ok (.ret .none)) ⟨h', g, d, tk', os⟩) :
    codeAny (model prog w) A (.call (.builtin "object.__setattr__") ⟨[.ref x, .str name tk, v], []⟩) R ⟨hp, g, d, t, os⟩ := by
  have J : W.InstAt hp x { cls := .ref C, data := .fields fv } C none := ⟨hx, rfl, rfl, trivial⟩
  have SO := F.store_object
  have apart : x ≠ hp.objs.size := Nat.ne_of_lt (Heap.lt_size hx)
  have inO : W.Looks (model prog w) hp (isInstance (.ref x) (.type "object")) true := by
    refine J.type.andThen (W.looks_mroIn X ?_)
    unfold W.mroIn
    rw [hcd, Option.bind_some, hm, if_neg (show ¬ (List.isEmpty (Value.ref C :: Value.ref D :: ESX.exTail) = true) from Bool.false_ne_true), tail2_has]
    decide +kernel
  refine codeAny_call_builtin SO.slot.plain SO.entry ?_
  refine @W.check_slot (model prog w) _ _ ⟨hp, g, d, t, os⟩ "object.__setattr__" "object" "__setattr__" (.ref x) [.str name tk, v] [] _ SO.kind SO.split inO (SO.args (.ref x) (.str name tk) v) ?_
  have lookM : W.Looks (model prog w) hp (mroOf (.ref C)) cd.mro := (W.looks_clsIn X hcd).andThen .now
  have lookC : W.Looks (model prog w) hp (classData C) cd := W.looks_clsIn X hcd
  have noTaker : W.Looks (model prog w) hp (storeTaker? none) none := .now
  have pass2 : refuseLoop (.ref x) "__setattr__" cd.mro = pure () := by
    rw [hm, refuseLoop_ref, refuseLoop_ref]
    exact F.store_Exception.passes _
  rw [W.osa_eq, refuse_eq]
  refine wpAny_bind (wpAny_bind (J.type.at (wpAny_bind (lookM.at ?_))))
  rw [pass2]
  refine wpAny_pure (wpAny_bind (J.type.at (wpAny_bind ((W.looks_findIn X ha).at (wpAny_bind (noTaker.at ?_))))))
  obtain ⟨_, _, _, _, _, dct, _, _, _, _, _⟩ := cd
  dsimp only at hh
  subst hh
  show wpAny _ _ (storeInOwnDict (.ref x) (.ref C) (.str name tk) name v false) _ _ _
  unfold storeInOwnDict ownDictForStores
  repeat (first | with_reducible refine HandSPX.store_in_new ?_ ?_ | with_reducible refine lookC.at ?_ | with_reducible refine wpAny_loadPart_at hx ?_ | wp_step)
  · refine ⟨_, #[], _,
      (Heap.get?_update_ne _ _ _ _ apart.symm).trans (Heap.get?_push_at rfl rfl),
      rfl, fun z hz => absurd hz (by simp), fun _ => rfl⟩
  · intro h' tk' hn' hs
    refine hq h' tk' hp.objs.size (fun b o hb ho => ?_) (Nat.le_refl _) apart.symm ?_ hn'
    · refine (hs.2 b (Nat.ne_of_lt (Heap.lt_size ho))).trans ?_
      exact (Heap.get?_update_ne _ _ _ _ hb).trans (Heap.get?_push_of_some _ ho)
    · have hx2 : (hp.push { cls := .type "dict", data := .dict #[] }).get? x = some { cls := .ref C, data := .fields fv } := Heap.get?_push_of_some _ hx
      exact (hs.2 x apart).trans (Heap.get?_update_self _ hx2 rfl)
end
theorem ld_loc {M : Model} {s : Shared} {name : Str} {scope : Scope} {L a : Addr} {cd : Value} {m : Str → Option Value} {x : Str} {pos : Pos} {v : Value} {Q : Value → Shared → Prop} {A : Around} {E : Value → Shared → Prop} (hn : s.heap.Ns L m) (hv : m x = some v) (h : Q v s)
    (hk : scope.kind = .function := by rfl) (hl : (envOfC name scope L a cd).kindOf x = some .local := by rfl) (hd : (x == ("__debug__" : Str)) = false := by decide) : wpAny M A (eval (.Name x pos) (envOfC name scope L a cd)) Q E s :=
  wpAny_Name (wpAny_loadName_local hk hl hn hv h) hd
end Mve
end PySem
namespace L2
open PySem PySem.Spec PyProof.Rows
/-- the class's making, said apart (shown for each field's name) -/
def Makes (x qual fld : Str) (iB : Pos → Pos → Pos → Pos → List Stmt) (iA : Pos → Pos → Arguments) (iS : Scope) : Prop :=
  ∀ {prog : Program} {w : World} {A : Around} {R : Result → Shared → Prop} {s : Shared} {K : PySem.W.Frag} {mg : Str → Option Value} {C D fI : Addr} (_ : PySem.Mve.ETxt x qual fld iB iA iS K mg C D fI) {v : Value}, K.In s.heap → s.heap.NoLimit → A.depth + 1 < recursionLimit →
    (∀ h' tk e d, PySem.Mve.Made fld s.heap h' e C d v → R (.ok (.ret (.ref e))) { s with heap := h', toks := tk }) → codeAny (model prog w) A (.call (.ref C) ⟨[v], []⟩) R s
end L2
namespace PySem
namespace Mve
open PySem.W PySem.Calls PyProof.Rows PySem.HandSPX
section
variable {prog : Program} {w : World} {A : Around} {R : Result → Shared → Prop} {s : Shared} {K : Frag} {mg : Str → Option Value} {C D fI : Addr} {x qual : Str}
theorem init_at (T : ETxt x qual "at" iB_at iA_at iS_at K mg C D fI) {x0 t0 : Addr} {v : Value} (X : K.In s.heap) (hlim : s.heap.NoLimit) (hx : s.heap.get? x0 = some (excO C t0)) (hnx : K.lookup x0 = none) (hroom : A.depth < recursionLimit)
    (hq : ∀ h' tk dx, Left "at" s.heap h' x0 C dx t0 v → R (.ok (.ret .none)) { s with heap := h', toks := tk }) : codeAny (model prog w) A (.call (.ref fI) ⟨[.ref x0, v], []⟩) R s := by
  obtain ⟨oc, od, doc, pm, an, cdv, ct, osl, p1, p2, q1, q2, q3, q4, ho, hcd⟩ := T.fn
  obtain ⟨nm, q, N, bs, sn, sub, ab, col, dd, k0, k1, k2, k3, k5, hC⟩ := T.cls
  have hcl : clsIn K C = some { name := nm, bases := bs, mro := .ref C :: .ref D :: ESX.exTail, ns := N, qualname := q, hasDict := true, slotNames := sn, subclasses := sub, abstract := ab, collection := col, hasDel := false } := by
    unfold clsIn
    rw [hC] <;> rfl
  refine Att.call_fn (binds := [("self", .ref x0), ("at", v)]) X hlim ho hcd hroom (BindsTo.of_eq (by first | rfl | with_unfolding_all rfl)) (by first | rfl | decide | with_unfolding_all rfl) (fun s₁ IC => ?_) rfl rfl rfl
  obtain ⟨h₁, tk₁, rfl⟩ := IC.toInCall.same
  have kp : ∀ b o, s.heap.get? b = some o → h₁.get? b = some o := IC.toInCall.keep
  have hn := IC.toInCall.ns
  have X₁ : K.In h₁ := X.keeps kp
  have hx₁ := kp _ _ hx
  show wpAny _ _ (execs _ _) _ _ _
  refine wpAny_execs_cons (plainObj_wpAny_Assign_Attribute ?_)
  refine ld_loc (v := v) hn (by first | rfl | with_unfolding_all rfl | kernel_rfl) (ld_loc (v := .ref x0) hn (by first | rfl | with_unfolding_all rfl | kernel_rfl) ?_)
  refine set_plain X₁ (ox := excO C t0) (od := none) ⟨hx₁, rfl, rfl, trivial⟩ T.sa ?_
  refine store_first X₁ hx₁ hcl rfl rfl T.noN (fun h₃ tk₃ dx k₃ dn dne hx₃ hn₃ => ?_)
  show wpAny _ _ (execs _ _) _ _ _
  have lt : s.heap.objs.size < h₁.objs.size := hn.lt
  exact wpAny_execs_nil (hq h₃ tk₃ dx ⟨fun b o hb e => k₃ b o hb (kp b o e), hx₃, Nat.le_of_lt (Nat.lt_of_lt_of_le lt dn), dne, hn₃⟩)
theorem made_at : L2.Makes x qual "at" iB_at iA_at iS_at := by
  intro prog w A R s K mg C D fI T v X hlim hroom hq
  obtain ⟨nm, q, N, bs, sn, sub, ab, col, dd, k0, k1, k2, k3, k5, hC⟩ := T.cls
  obtain ⟨hp, g, dr, tk, os⟩ := s
  have kp : ∀ b o, hp.get? b = some o → ((hp.push (kdv_tup [v])).push (excO C hp.objs.size)).get? b = some o := fun b o e => Heap.get?_push_of_some _ (Heap.get?_push_of_some _ e)
  have here : ((hp.push (kdv_tup [v])).push (excO C hp.objs.size)).get? (hp.objs.size + 1) = some (excO C hp.objs.size) := by heap_get
  have hnx : K.lookup (hp.objs.size + 1) = none := by
    cases e : K.lookup (hp.objs.size + 1) with
    | none => rfl
    | some o => exact absurd (Nat.lt_of_succ_lt (Heap.lt_size (X _ _ e))) (Nat.lt_irrefl _)
  refine call_own F.excBase_Exception (fun X => tail1_has X) (X _ _ hC) (looks_findIn X T.iC) (fun self => bind_fn X self T.tC) (one_fits v) ?_
  refine init_at (s := ⟨(hp.push (kdv_tup [v])).push (excO C hp.objs.size), g, dr, tk, os⟩) T (X.keeps kp) (hlim.keeps kp) here hnx hroom fun h' tk' dx ⟨k', hx, dn, dne, hns⟩ => ?_
  have old : ∀ b o, hp.get? b = some o → h'.get? b = some o := fun b o e => k' b o (Nat.ne_of_lt (Nat.lt_succ_of_lt (Heap.lt_size e))) (kp b o e)
  have big : hp.objs.size + 1 + 1 ≤ dx := by
    first | (simpa only [Heap.size_push] using dn) | exact dn | (have q := dn; rw [Heap.size_push, Heap.size_push] at q; exact q)
  exact ⟨rfl, hq h' tk' (hp.objs.size + 1) dx ⟨old, Nat.le_succ _, ⟨_, _, hx, rfl, rfl, rfl, rfl, rfl⟩, (by show hp.objs.size ≤ dx; omega), dne, hns⟩⟩
end

end Mve
end PySem
namespace L2
open PySem PySem.Spec PyProof.Rows
theorem relO_one {v : V} {v' : Value} {fld : Str} (r : RelV v v') (f : Str) : RelO (List.lookup f [(fld, v)]) (if f = fld then some v' else none) := by
  by_cases hw : f = fld
  · rw [if_pos hw, hw, show List.lookup fld [(fld, v)] = some v by simp [List.lookup]]
    exact r
  · have ne : (f == fld) = false := by simpa using hw
    rw [if_neg hw, show List.lookup f [(fld, v)] = none by simp [List.lookup, ne]]
    trivial
/-- C(e), an error of one field -/
def tMkE (C : Addr) (fld : Str) (ta : TA) : St → Hp → XK → Prop := fun σ H Q => ta σ H fun vs H1 => ∃ v, vs = [v] ∧ ∀ d, H1 d = none → Q (.ref C) (some d) (upd H1 d (.xd [(fld, v)]))
def tRaiseE (C : Addr) (fld : Str) (W : WX) (ta : TA) : TS := fun _ σ H => tMkE C fld ta σ H fun cls d H' => W cls d σ H'
/-- n.fld, n the error that the suite holds -/
def tByE (C : Addr) (fld : Str) (a : Addr) (cls : Value) (d : Option Addr) (te : TE) : TE := fun σ H Q => te σ H fun x H1 => x = .ref a ∧ cls = .ref C ∧ ∃ (dd : Addr) (v : V), d = some dd ∧ H1 dd = some (.xd [(fld, v)]) ∧ Q v H1
section
variable {X : Cx} {C D fI : Addr} {x qual fld : Str} {iB : Pos → Pos → Pos → Pos → List Stmt} {iA : Pos → Pos → Arguments} {iS : Scope}
theorem pmk_err {a : Expr} {ta : TA} {p pos : Pos} {k : Nat} (mk : Makes x qual fld iB iA iS) (T : PySem.Mve.ETxt x qual fld iB iA iS X.K X.mg C D fI) (hr : Room k X.A) (ha : PA X [a] ta) (hg : Gl X x := by rfl) (hdb : (x == ("__debug__" : Str)) = false := by decide)
    (he : starEach (a :: []) X.env = (false, eval a X.env) :: starEach [] X.env := by rfl) (hpl : (backTo pos (starEach [] X.env)).any (·.1) = false := by rfl) : PMk X (.Call (.Name x p) [a] [] pos) (tMkE C fld ta) := by
  intro pins s σ H Q I h
  refine wpAny_Call_Name_kw (ld_glob I hg T.gC ?_ hdb)
  refine PySem.W.callWith_K (h₀ := X.base) I.ok.mod.kin T.kC ?_ he hpl
  refine thn (ha.run pos pins s σ H _ I h) fun us s1 ⟨vs, H1, I1, r1, v, ev, q1⟩ => ⟨I1.kIn, ?_⟩
  subst ev
  cases r1 with
  | cons rv rn =>
    rename_i v' us'
    cases rn
    have lim := I1.nolimit
    obtain ⟨hp, g, dr, tk, os⟩ := s1
    have deep : X.A.depth + 1 < recursionLimit := by have := hr.dp; omega
    refine wpAny_call (mk T I1.kIn lim deep fun h' tk' e d M => ?_)
    show MkP X pins σ Q (.ref e) ⟨h', g, dr, tk', os⟩
    obtain ⟨oe, fv, hoe, hc, hd, hdat, h1, h2⟩ := M.obj
    obtain ⟨G', g1, g2⟩ := restrict h' fun b => decide (b ≠ e)
    have away : ∀ b, b ≠ e → G'.get? b = h'.get? b := fun b hb => g1 b (decide_eq_true hb)
    have gone : G'.get? e = none := g2 e (by simp)
    have old : ∀ b o, hp.get? b = some o → G'.get? b = some o := fun b o q => by
      rw [away b (Nat.ne_of_lt (Nat.lt_of_lt_of_le (Heap.lt_size q) M.new))]
      exact M.keep b o q
    have fresh : H1 d = none := I1.hok.fresh M.big
    have ob : ObjOk X.prog X.w (upd H1 d (.xd [(fld, v)])) G' d (.xd [(fld, v)]) := ⟨_, M.ns.at (fun o q => (away d M.ne).trans q), fun f => relO_one rv f⟩
    have J : Inv X pins σ (upd H1 d (.xd [(fld, v)])) ⟨G', g, dr, tk', os⟩ := I1.laid (t' := tk') old M.big ob
    refine ⟨e, oe, fv, ⟨G', g, dr, tk', os⟩, _, .ref C, some d, rfl, J, fun b o q => ?_, gone, hoe, ⟨hc, hd⟩, hdat, h1, ?_, rfl, I1.bare, raises_own T.exC T.tyC, q1 d fresh⟩
    · by_cases hb : b = e
      · have q' : G'.get? b = some o := q
        rw [hb, gone] at q'
        cases q'
      · exact (away b hb).symm.trans q
    · rw [upd_ne (Ne.symm M.ne)]
      exact I1.hok.fresh M.new
theorem ps_raiseE {a : Expr} {ta : TA} {W : WX} {p pos pos2 : Pos} {k : Nat} (mk : Makes x qual fld iB iA iS) (T : PySem.Mve.ETxt x qual fld iB iA iS X.K X.mg C D fI) (hc : X.calm = true) (hr : Room k X.A) (tk : Takes X W) (ha : PA X [a] ta) (hg : Gl X x := by rfl) (hdb : (x == ("__debug__" : Str)) = false := by decide)
    (he : starEach (a :: []) X.env = (false, eval a X.env) :: starEach [] X.env := by rfl) (hpl : (backTo pos (starEach [] X.env)).any (·.1) = false := by rfl) :
    PS X (.Raise (some (.Call (.Name x p) [a] [] pos)) none pos2) (tRaiseE C fld W ta) := ps_raise hc tk (pmk_err mk T hr ha hg hdb he hpl)
theorem pe_byE {a : Addr} {oe : Obj} {cls : Value} {d : Option Addr} {pn : List (Addr × Obj)} {e : Expr} {te : TE} {pos : Pos} (T : PySem.Mve.ETxt x qual fld iB iA iS X.K X.mg C D fI) (hz : Zc cls d oe) (hf : ∃ vs, oe.data = .fields vs) (he : PE (X.suite a ((a, oe) :: pn)) e te)
    (hb : attributeBase e fld X.env (eval e X.env) = eval e X.env := by rfl) : PE (X.suite a ((a, oe) :: pn)) (.Attribute e fld pos) (tByE C fld a cls d te) := by
  refine ⟨fun pins s σ H Q I h => ?_⟩
  refine attr_of hb (thn (he.run pins s σ H _ I h) fun u s1 ⟨y, H1, I1, rx, ey, ec, dd, v, ed, ea, q⟩ => ?_)
  subst ey ec ed
  obtain rfl : u = Value.ref a := rx
  obtain ⟨ha, _⟩ := I1.pin (a, oe) (List.mem_append_left _ List.mem_cons_self)
  obtain ⟨vs, hd⟩ := hf
  have hx : ObjOk X.prog X.w H1 s1.heap dd (.xd [(fld, v)]) := I1.hok dd _ ea
  obtain ⟨mA, hns, hr⟩ := hx
  obtain ⟨od, ho, hl⟩ := lookIn_ns hns
  have l : List.lookup fld [(fld, v)] = some v := by simp [List.lookup]
  obtain ⟨u, hu, ru⟩ := RelO.some_of (v := v) (o := mA fld) (by rw [← l]; exact hr fld)
  have J : PySem.W.InstAt s1.heap a oe C (some od) := ⟨ha, hz.1, by unfold PySem.W.notCls; rw [hd] <;> rfl, by rw [hz.2]; exact ho⟩
  refine HandSPX.exc_get I1.kIn J T.ga T.gg T.exC ?_ (handed_of ru) ⟨v, H1, I1.tok _, ru, q⟩
  exact PySem.W.findObj_own T.hdC T.noN rfl (by rw [hl, hu])
end
end L2
namespace MV
open PySem PySem.Spec PyProof.Rows L2
section
variable {X : Cx} {CX : CXT} {k : Nat} {ps : List Str} {sp : Sp} {x : Str} {p pos : Pos} {e : Expr} {es : List Expr} {t : TA} {E : L2.St → XK}
theorem pe_ownS (C : Called X.prog X.w X.K X.mg X.base CX x k ps sp) (hr : Room k X.A) (hg : Gl X x) (hx : ∀ σ, PassesAt CX X σ (E σ))
    (ha : PA X (e :: es) t) (hdb : (x == ("__debug__" : Str)) = false := by decide) (he : starEach (e :: es) X.env = (false, eval e X.env) :: starEach es X.env := by rfl) (hpl : (backTo pos (starEach es X.env)).any (·.1) = false := by rfl) :
    PE X (.Call (.Name x p) (e :: es) [] pos) (tCallS sp E t) := by
  obtain ⟨f, fd, F, m, kp, b⟩ := C.ex
  exact pe_callS F hr hg m kp b hx ha hdb he hpl
end
/-- the errors of the program, with their field at -/
abbrev EAt (x qual : Str) (K : PySem.W.Frag) (mg : Str → Option Value) (C D fI : Addr) : Prop := PySem.Mve.ETxt x qual "at" PySem.Mve.iB_at PySem.Mve.iA_at PySem.Mve.iS_at K mg C D fI
/-- what inverse promises -/
def spInv (C : Addr) : Sp := fun vs H Q E => ∃ a : Nat, vs = [.int (a : Int)] ∧ a < 128 ∧ (a = 0 → ∀ d : Addr, H d = none → E (.ref C) (some d) (upd H d (.xd [(("at" : Str), .int 0)]))) ∧ (a ≠ 0 → Q (.int (inv a : Nat)) H)
def spOver (C : Addr) : Sp := fun vs H Q E => ∃ a b : Nat, vs = [.int (a : Int), .int (b : Int)] ∧ (a < 128 ∧ b < 128) ∧ (b = 0 → ∀ d : Addr, H d = none → E (.ref C) (some d) (upd H d (.xd [(("at" : Str), .int 1)]))) ∧ (b ≠ 0 → Q (.int (mul a (inv b) : Nat)) H)
/-- a new list of the powers of 2 -/
def spPowers : Sp := fun vs H Q _ => vs = [] ∧ ∀ p H', Same H H' → H' p = some (.lst (rowV powL)) → Q (.ref p) H'
def spQuot (K : PySem.W.Frag) : Sp := fun vs H Q _ => ∃ (p : Addr) (a b : Nat), vs = [.ref p, .int (a : Int), .int (b : Int)] ∧ SqL K H p (rowV powL) ∧ (a < 128 ∧ b < 128) ∧ b ≠ 0 ∧ Q (.int (mul a (inv b) : Nat)) H
/-- ('told', value) or ('refused', place) -/
def askedW (w a b : Nat) : Str := if (w = 0 ∧ a = 0) ∨ (w ≠ 0 ∧ b = 0) then "refused" else "told"
def askedN (w a b : Nat) : Int := if w = 0 then (if a = 0 then 0 else (inv a : Nat)) else (if b = 0 then 1 else (mul a (inv b) : Nat))
def spAsked : Sp := fun vs H Q _ => ∃ w a b : Nat, vs = [.int (w : Int), .int (a : Int), .int (b : Int)] ∧ (a < 128 ∧ b < 128) ∧ ∀ p H', Same H H' → H' p = some (.tup [.str (askedW w a b), .int (askedN w a b)]) → Q (.ref p) H'
theorem flat_rowV (l : List Nat) : (rowV l).all flatV = true := by
  rw [List.all_map]
  exact List.all_eq_true.mpr fun _ _ => rfl
/-- an error of the class at S is what «except S» names -/
theorem exm_own {K : PySem.W.Frag} {S : Addr} (h1 : PySem.W.subIn K (.ref S) (.type "BaseException") = some true) (h2 : PySem.W.isClsIn K S = true) (h3 : PySem.W.typeIn K (.ref S) = some (.type "type")) (h4 : PySem.W.subIn K (.ref S) (.ref S) = some true) : PySem.W.exmOne K (.ref S) (.ref S) = some true := by
  have a : (PySem.W.subIn K (.ref S) (.type "BaseException") == some true) = true := by rw [h1] <;> rfl
  have b : ((PySem.W.clsIn K S).isSome && PySem.W.typeIn K (.ref S) == some (.type "type")) = true := by
    rw [show (PySem.W.clsIn K S).isSome = true from h2, h3] <;> rfl
  unfold PySem.W.exmOne PySem.W.kitCls
  rw [if_pos a]
  dsimp only
  rw [if_pos b]
  exact h4
end MV

set_option Elab.async false
set_option linter.all false
set_option maxRecDepth 100000
set_option maxHeartbeats 4000000
/-! The same errors where defs are called within an except suite (their context is None). -/
namespace L2
open PySem PySem.Spec PyProof.Rows
section
variable {X : Cx} {C D fI : Addr} {x qual fld : Str} {iB : Pos → Pos → Pos → Pos → List Stmt} {iA : Pos → Pos → Arguments} {iS : Scope}
theorem pmk_errN {a : Expr} {ta : TA} {p pos : Pos} {k : Nat} (mk : Makes x qual fld iB iA iS) (T : PySem.Mve.ETxt x qual fld iB iA iS X.K X.mg C D fI) (hr : Room k X.A) (ha : PA X [a] ta) (hg : Gl X x := by rfl) (hdb : (x == ("__debug__" : Str)) = false := by decide)
    (he : starEach (a :: []) X.env = (false, eval a X.env) :: starEach [] X.env := by rfl) (hpl : (backTo pos (starEach [] X.env)).any (·.1) = false := by rfl) : L2N.PMk X (.Call (.Name x p) [a] [] pos) (tMkE C fld ta) := by
  intro pins s σ H Q I h
  refine wpAny_Call_Name_kw (ld_glob I hg T.gC ?_ hdb)
  refine PySem.W.callWith_K (h₀ := X.base) I.ok.mod.kin T.kC ?_ he hpl
  refine thn (ha.run pos pins s σ H _ I h) fun us s1 ⟨vs, H1, I1, r1, v, ev, q1⟩ => ⟨I1.kIn, ?_⟩
  subst ev
  cases r1 with
  | cons rv rn =>
    rename_i v' us'
    cases rn
    have lim := I1.nolimit
    obtain ⟨hp, g, dr, tk, os⟩ := s1
    have deep : X.A.depth + 1 < recursionLimit := by have := hr.dp; omega
    refine wpAny_call (mk T I1.kIn lim deep fun h' tk' e d M => ?_)
    show L2N.MkP X pins σ Q (.ref e) ⟨h', g, dr, tk', os⟩
    obtain ⟨oe, fv, hoe, hc, hd, hdat, h1, h2⟩ := M.obj
    obtain ⟨G', g1, g2⟩ := restrict h' fun b => decide (b ≠ e)
    have away : ∀ b, b ≠ e → G'.get? b = h'.get? b := fun b hb => g1 b (decide_eq_true hb)
    have gone : G'.get? e = none := g2 e (by simp)
    have old : ∀ b o, hp.get? b = some o → G'.get? b = some o := fun b o q => by
      rw [away b (Nat.ne_of_lt (Nat.lt_of_lt_of_le (Heap.lt_size q) M.new))]
      exact M.keep b o q
    have fresh : H1 d = none := I1.hok.fresh M.big
    have ob : ObjOk X.prog X.w (upd H1 d (.xd [(fld, v)])) G' d (.xd [(fld, v)]) := ⟨_, M.ns.at (fun o q => (away d M.ne).trans q), fun f => relO_one rv f⟩
    have J : Inv X pins σ (upd H1 d (.xd [(fld, v)])) ⟨G', g, dr, tk', os⟩ := I1.laid (t' := tk') old M.big ob
    refine ⟨e, oe, fv, ⟨G', g, dr, tk', os⟩, _, .ref C, some d, rfl, J, fun b o q => ?_, gone, hoe, ⟨hc, hd, fun ws ew => by
      rw [hdat] at ew
      cases ew
      exact h2⟩, hdat, h1, ?_, rfl, I1.bare, raises_own T.exC T.tyC, q1 d fresh⟩
    · by_cases hb : b = e
      · have q' : G'.get? b = some o := q
        rw [hb, gone] at q'
        cases q'
      · exact (away b hb).symm.trans q
    · rw [upd_ne (Ne.symm M.ne)]
      exact I1.hok.fresh M.new
theorem ps_raiseEN {a : Expr} {ta : TA} {W : WX} {p pos pos2 : Pos} {k : Nat} (mk : Makes x qual fld iB iA iS) (T : PySem.Mve.ETxt x qual fld iB iA iS X.K X.mg C D fI) (hc : X.calm = true) (hr : Room k X.A) (tk : L2N.Takes X W) (ha : PA X [a] ta) (hg : Gl X x := by rfl) (hdb : (x == ("__debug__" : Str)) = false := by decide)
    (he : starEach (a :: []) X.env = (false, eval a X.env) :: starEach [] X.env := by rfl) (hpl : (backTo pos (starEach [] X.env)).any (·.1) = false := by rfl) :
    PS X (.Raise (some (.Call (.Name x p) [a] [] pos)) none pos2) (tRaiseE C fld W ta) := L2N.ps_raise hc tk (pmk_errN mk T hr ha hg hdb he hpl)
theorem passN {X : Cx} : Passes (L2N.CX X.prog X.w) X E0 := fun _ _ _ _ _ _ _ h => by
  obtain ⟨_, _, _, _, _, _, _, _, _, _, _, _, z⟩ := h
  exact z.elim
theorem takes0N {X : Cx} : L2N.Takes X (fun _ _ _ _ => False) := fun _ _ x => by
  obtain ⟨_, _, _, _, _, _, _, _, _, _, _, _, _, _, _, _, z⟩ := x
  exact z.elim
end
section
variable {P : Program} {w : World} {K : PySem.W.Frag} {mg : Str → Option Value} {base : Heap}
theorem Fun.okN {x qual : Str} {st : Stmt} {f : Addr} {fd : FuncData} {N ps : List Str} {k : Nat} {sp : Sp} (F : Fun K x qual st f fd) (S : FnScope N ps (defScope st)) (len : ∀ vs H Q E, sp vs H Q E → vs.length = ps.length)
    (hbody : ∀ (cdv : Value) (A : Around) (outer : List Env) (s : Shared) (H : Hp) (vs : List V) (Q : VK) (E : XK), Room k (A.deeper (envOfC qual (defScope st) s.heap.objs.size f cdv)) → sp vs H Q E →
      ∃ t, PSs (cxOf (L2N.CX P w) P w K mg base N qual (defScope st) f cdv A outer s H E) (defBody st) t ∧ t { nx := fun _ H' => Q .non H', rt := Q } (start N vs) H) : FnOk P w K mg base (L2N.CX P w) (k + 1) f fd ps sp := by
  obtain ⟨_, _, _, _, _, _, _, _, _, rfl, lk, hcd⟩ := F.ex
  exact fn_of lk hcd S len fun A outer s H vs Q E hr hsp => hbody _ A outer s H vs Q E hr hsp
/-- a def called in a suite -/
theorem Fun.okH {x qual : Str} {st : Stmt} {f : Addr} {fd : FuncData} {N ps : List Str} {k : Nat} {sp : Sp} (F : Fun K x qual st f fd) (S : FnScope N ps (defScope st)) (len : ∀ vs H Q E, sp vs H Q E → vs.length = ps.length)
    (hbody : ∀ (cdv : Value) (A : Around) (outer : List Env) (s : Shared) (H : Hp) (vs : List V) (Q : VK) (E : XK) (p : Addr × Obj), L2H.HotC (L2H.cxH CX0 P w K mg base N qual (defScope st) f cdv A outer s H E p).nox → L2H.RoomH k (A.deeper (envOfC qual (defScope st) s.heap.objs.size f cdv)) → sp vs H Q E →
      ∃ t, PSs (L2H.cxH CX0 P w K mg base N qual (defScope st) f cdv A outer s H E p).nox (defBody st) t ∧ t { nx := fun _ H' => Q .non H', rt := Q } (start N vs) H) : L2H.FnH P w K mg base CX0 (k + 1) f fd ps sp := by
  obtain ⟨_, _, _, _, _, _, _, _, _, rfl, lk, hcd⟩ := F.ex
  refine L2H.fn_ofH lk hcd S len fun A outer s H vs Q E p hot hr hsp => ?_
  obtain ⟨t, h, q⟩ := hbody _ A outer s H vs Q E p ⟨p, hot, List.mem_cons_self⟩ hr hsp
  exact ⟨t, h.nox, q⟩
end
end L2
namespace MV
open PySem PySem.Spec PyProof.Rows L2
structure CalledH (P : Program) (w : World) (K : PySem.W.Frag) (mg : Str → Option Value) (base : Heap) (x : Str) (k : Nat) (ps : List Str) (sp : Sp) : Prop where
  ex : ∃ (f : Addr) (fd : FuncData), L2H.FnH P w K mg base CX0 k f fd ps sp ∧ mg x = some (.ref f) ∧ PySem.W.keepIn K (.ref f) = true ∧ Binds K fd ps []
theorem calledH {P : Program} {w : World} {K : PySem.W.Frag} {mg : Str → Option Value} {base : Heap} {x qual : Str} {st : Stmt} {f : Addr} {fd : FuncData} {k : Nat} {ps : List Str} {sp : Sp} (F : Fun K x qual st f fd) (m : mg x = some (.ref f)) (b : Binds K fd ps []) (h : L2H.FnH P w K mg base CX0 k f fd ps sp) :
    CalledH P w K mg base x k ps sp := ⟨f, fd, h, m, F.kp, b⟩
theorem pe_ownH {X : Cx} {k : Nat} {ps : List Str} {sp : Sp} {x : Str} {p pos : Pos} {e : Expr} {es : List Expr} {t : TA} (C : CalledH X.prog X.w X.K X.mg X.base x k ps sp) (hr : L2H.RoomH k X.A) (hc : L2H.HotC X) (hg : Gl X x)
    (ha : PA X (e :: es) t) (hdb : (x == ("__debug__" : Str)) = false := by decide) (he : starEach (e :: es) X.env = (false, eval e X.env) :: starEach es X.env := by rfl) (hpl : (backTo pos (starEach es X.env)).any (·.1) = false := by rfl) :
    PE X (.Call (.Name x p) (e :: es) [] pos) (tCallS sp (fun _ => E0) t) := by
  obtain ⟨f, fd, F, m, kp, b⟩ := C.ex
  exact L2H.pe_callH F hr hc hg m kp b (fun _ _ _ _ _ _ _ h => h.elim) ha hdb he hpl
theorem fnH_no {P : Program} {w : World} {K : PySem.W.Frag} {mg : Str → Option Value} {base : Heap} {f : Addr} {fd : FuncData} {ps : List Str} : L2H.FnH P w K mg base CX0 0 f fd ps (fun _ _ _ _ => False) :=
  ⟨fun vs H Q E h => h.elim, fun A outer s H args us vs Q E p _ _ _ _ _ _ h => h.elim⟩
/-- two equal ints -/
def spSame : Sp := fun vs H Q _ => ∃ i : Int, vs = [.int i, .int i] ∧ ∀ H', Same H H' → Q (.bl true) H'
theorem hot_suite {X : Cx} {a : Addr} {oe : Obj} {cls : Value} {d : Option Addr} {pn : List (Addr × Obj)} (hz : L2N.Zn cls d oe) (hf : ∃ vs, oe.data = .fields vs) : L2H.HotC (X.suite a ((a, oe) :: pn)) := by
  obtain ⟨vs, hd⟩ := hf
  exact ⟨(a, oe), ⟨rfl, vs, hd, hz.2.2 vs hd⟩, List.mem_cons_self⟩
end MV
namespace K03
open PySem PySem.Spec PyProof.Rows L2 MV
def topS (i : Nat) : Stmt := PySem.Challenge.pw_mendvault_k03_powers_and_logarithms.main.body.getD i (.Pass ⟨0, 0, 0, 0⟩)
structure Txt (mg : Str → Option Value) : Prop where
  n_bool : mg "bool" = none
  n_int : mg "int" = none
  n_isinstance : mg "isinstance" = none
  n_len : mg "len" = none
  n_list : mg "list" = none
  n_min : mg "min" = none
  n_range : mg "range" = none
  n_str : mg "str" = none
  n_tuple : mg "tuple" = none
local macro_rules | `(tactic| walk_at "side") => `(tactic| first
  | decide
  | omega
  | (dsimp only; omega)
  | exact mul_lt _ _
  | (refine xor_lt ?_ ?_ <;> walk_at "side")
  | exact ln2 | exact ln1 | exact ln0 | exact ln3 | exact ln4 | exact ln5 | exact ln6 | exact ln7 | exact ln8 | exact ln9 | exact ln10 | exact ln11 | exact ln12)
local macro_rules | `(tactic| walk_at "rd1") => `(tactic| first
  | refine Exists.intro _ (And.intro (by rfl) ?_)
  | refine Exists.intro _ (Exists.intro _ (And.intro (by rfl) (And.intro (by rfl) ?_)))
  | refine Exists.intro _ (Exists.intro _ (And.intro (by rfl) ?_))
  | refine And.intro (by rfl) ?_
  | refine And.intro (by walk_at "side") ?_
  | refine And.intro (And.intro (by walk_at "side") (by walk_at "side")) ?_
  | refine And.intro (.inr ⟨by (first | decide | omega), by (first | decide | omega)⟩) ?_
  | refine And.intro (.inl ⟨by (first | decide | omega), by (first | decide | omega)⟩) ?_
  | refine And.intro (.inl (by omega)) ?_
  | refine And.intro (.inr (by omega)) ?_
  | refine .inl (Exists.intro _ (And.intro (by rfl) ?_)))
local macro_rules | `(tactic| walk_at "rd") => `(tactic| repeat walk_at "rd1")
section
variable {P : Program} {w : World} {K : PySem.W.Frag} {mg : Str → Option Value} {base : Heap}
abbrev s_power : Stmt := topS 7
theorem sc_power : FnScope ["a", "n"] ["a", "n"] (defScope s_power) := ⟨rfl, rfl, rfl, by decide +kernel, rfl, by decide +kernel, by decide +kernel⟩
def spPow : Sp := fun vs H Q _ => ∃ a n : Nat, vs = [.int (a : Int), .int (n : Int)] ∧ (a < 128 ∧ n ≤ 1000) ∧ Q (.int (fpow a n : Nat)) H
theorem ok_power {f : Addr} {fd : FuncData} {k : Nat} (F : Fun K "power" "power" s_power f fd) (B : Tabs K mg powL lgL) : FnOk P w K mg base CX0 (k + 1) f fd ["a", "n"] spPow := by
  refine F.ok sc_power (fun vs H Q E h => ?_) (fun cdv A outer s H vs Q E hr h => ?_)
  · obtain ⟨a, b, rfl, _⟩ := h
    rfl
  · obtain ⟨a, n, rfl, ⟨ha, hn⟩, q⟩ := h
    obtain ⟨a_POWERS, m_POWERS, tP⟩ := B.pow
    obtain ⟨a_LOGARITHMS, m_LOGARITHMS, tL⟩ := B.log
    obtain ⟨tO, m_ORDER⟩ := B.ord
    refine ⟨_, (pss_cons (ps_if (pt_cmpR nop_eq (pv 1) pe_int (nomark _))
    (pss_one (ps_ret pe_int))
    pss_nil)
    (pss_cons (ps_if (pt_cmpR nop_eq (pv 0) pe_int (nomark _))
    (pss_one (ps_ret pe_int))
    pss_nil)
    (pss_one (ps_ret (pe_ix ix_n (pe_glob (v := .ref a_POWERS) rfl m_POWERS rfl) (pe_op nop_mod (pe_op nop_mul (pe_ix ix_n (pe_glob (v := .ref a_LOGARITHMS) rfl m_LOGARITHMS rfl) (pv 0) (fun _ _ => rfl)) (pv 1)) (pe_glob (v := .int 127) rfl m_ORDER ⟨_, rfl⟩)) (fun _ _ => rfl)))))), ?_⟩
    walk_at "rd"
    refine ite2 (fun e => ?_) (fun e => ?_)
    · have n0 : n = 0 := of_decide_eq_true e
      subst n0
      walk_at "rd"
      exact q
    · have n0 : n ≠ 0 := dec_ne e
      walk_at "rd"
      refine ite2 (fun e => ?_) (fun e => ?_)
      · have a0 : a = 0 := of_decide_eq_true e
        subst a0
        walk_at "rd"
        rw [fpow_zero n0] at q
        exact q
      · have a0 : a ≠ 0 := dec_ne e
        have hl := lg_lt ha
        walk_at "rd"
        refine ⟨_, _, _, _, by rfl, by rfl, .inr (tL _), by rw [List.getElem?_map, lgL_get ha]; rfl, ?_⟩
        walk_at "rd"
        refine ⟨_, _, _, _, by rfl, by rfl, .inr (tP _), by rw [List.getElem?_map, powL_get (Nat.mod_lt _ (by decide))]; rfl, ?_⟩
        rw [fpow_pw a0 n] at q
        exact q

abbrev s_logarithm : Stmt := topS 8
theorem sc_logarithm : FnScope ["a"] ["a"] (defScope s_logarithm) := ⟨rfl, rfl, rfl, by decide +kernel, rfl, by decide +kernel, by decide +kernel⟩
def spLog (C : Addr) : Sp := fun vs H Q E => ∃ a : Nat, vs = [.int (a : Int)] ∧ a < 128 ∧ (a = 0 → ∀ d : Addr, H d = none → E (.ref C) (some d) (upd H d (.xd [(("at" : Str), .int 0)]))) ∧ (a ≠ 0 → Q (.int (lg a : Nat)) H)
theorem ok_logarithm {f C D fI : Addr} {fd : FuncData} {k : Nat} (F : Fun K "logarithm" "logarithm" s_logarithm f fd) (B : Tabs K mg powL lgL) (E_BadValue : EAt "BadValue" "BadValue.__init__" K mg C D fI) : FnOk P w K mg base (L2N.CX P w) (k + 1) f fd ["a"] (spLog C) := by
  refine F.okN sc_logarithm (fun vs H Q E h => ?_) (fun cdv A outer s H vs Q E hr h => ?_)
  · obtain ⟨a, rfl, _⟩ := h
    rfl
  · obtain ⟨a, rfl, ha, q0, q⟩ := h
    obtain ⟨a_LOGARITHMS, m_LOGARITHMS, tL⟩ := B.log
    refine ⟨_, (pss_cons (ps_if (pt_cmpR nop_eq (pv 0) pe_int (nomark _))
    (pss_one (ps_raiseEN PySem.Mve.made_at E_BadValue rfl hr (L2N.takes_of rfl rfl rfl rfl) (by exact (pa_cons pe_int pa_nil))))
    pss_nil)
    (pss_one (ps_ret (pe_ix ix_n (pe_glob (v := .ref a_LOGARITHMS) rfl m_LOGARITHMS rfl) (pv 0) (fun _ _ => rfl))))), ?_⟩
    walk_at "rd"
    refine ite2 (fun e => ?_) (fun e => ?_)
    · walk_at "rd"
      exact q0 (of_decide_eq_true e)
    · have a0 : a ≠ 0 := dec_ne e
      walk_at "rd"
      refine ⟨_, _, _, _, by rfl, by rfl, .inr (tL _), by rw [List.getElem?_map, lgL_get ha]; rfl, ?_⟩
      exact q a0

abbrev s_law_cell : Stmt := topS 10
theorem sc_law_cell : FnScope ["script", "k"] ["script", "k"] (defScope s_law_cell) := ⟨rfl, rfl, rfl, by decide +kernel, rfl, by decide +kernel, by decide +kernel⟩
theorem ok_cell {f : Addr} {fd : FuncData} {k : Nat} (F : Fun K "_law_cell" "_law_cell" s_law_cell f fd) (T : Txt mg) : FnOk P w K mg base CX0 (k + 1) f fd ["script", "k"] (spCell K) := by
  refine F.ok sc_law_cell (fun vs H Q E h => ?_) (fun cdv A outer s H vs Q E hr h => ?_)
  · obtain ⟨l, ns, j, rfl, _⟩ := h
    rfl
  · obtain ⟨l, ns, j, rfl, hs, q⟩ := h
    refine ⟨_, (pss_cons (ps_if (pt_cmpR op_lt (pv 1) (pe_callB call_len_seq (by rfl) T.n_len (by decide +kernel) (pa_cons (pv 0) pa_nil)) (nomark _))
    (pss_one (ps_ret (pe_ix ix_list (pv 0) (pv 1) (fun _ _ => rfl))))
    pss_nil)
    (pss_one (ps_ret pe_int))), ?_⟩
    walk_at "rd"
    refine ⟨_, _, by rfl, .inl hs, ?_⟩
    walk_at "rd"
    refine ite2 (fun e => ?_) (fun e => ?_)
    · have e' := of_decide_eq_true e
      rw [List.length_map] at e'
      walk_at "rd"
      exact ⟨_, _, _, _, by rfl, by rfl, hs, atI_cell (by omega), q⟩
    · have e' := dec_ne e
      rw [List.length_map] at e'
      walk_at "rd"
      rw [cell_out (by omega)] at q
      exact q

abbrev s_law_mix : Stmt := topS 11
theorem sc_law_mix : FnScope ["cell", "salt", "one"] ["cell", "salt"] (defScope s_law_mix) := ⟨rfl, rfl, rfl, by decide +kernel, rfl, by decide +kernel, by decide +kernel⟩
theorem ok_mix {f : Addr} {fd : FuncData} {k : Nat} (F : Fun K "_law_mix" "_law_mix" s_law_mix f fd) (T : Txt mg) : FnOk P w K mg base CX0 (k + 1) f fd ["cell", "salt"] spMix := by
  refine F.ok sc_law_mix (fun vs H Q E h => ?_) (fun cdv A outer s H vs Q E hr h => ?_)
  · obtain ⟨l, ns, rfl, _⟩ := h
    rfl
  · obtain ⟨c, z, rfl, q⟩ := h
    have hr := mix1_r c z
    refine ⟨_, (pss_cons (ps_set (i := 2) sc_law_mix.nd rfl (Or.inl rfl) (pe_op op_mod (pe_callTy call_int1 (by rfl) T.n_int (by decide +kernel) (pa_cons (pe_op op_add (pe_op op_add (pe_op op_mul (pv 0) pe_int) (pe_op op_mul (pv 1) pe_int)) pe_int) pa_nil)) pe_int))
    (pss_one (ps_ret (pe_op op_mod (pe_callTy call_int1 (by rfl) T.n_int (by decide +kernel) (pa_cons (pe_op op_add (pe_op op_add (pe_op op_mul (pv 2) (pv 2)) (pe_op op_mul (pv 2) pe_int)) (pe_op op_mul (pv 1) pe_int)) pa_nil)) pe_int)))), ?_⟩
    walk_at "rd"
    exact q

abbrev s_law_alike : Stmt := topS 12
theorem sc_law_alike : FnScope ["told", "due", "k"] ["told", "due"] (defScope s_law_alike) := ⟨rfl, rfl, rfl, by decide +kernel, rfl, by decide +kernel, by decide +kernel⟩
theorem ok_alike {f : Addr} {fd : FuncData} {n : Nat} (F : Fun K "_law_alike" "_law_alike" s_law_alike f fd) (T : Txt mg) (c_law_alike : Called P w K mg base CX0 "_law_alike" n ["told", "due"] (spA K n)) :
    FnOk P w K mg base CX0 (n + 1) f fd ["told", "due"] (spA K (n + 1)) := by
  refine F.ok sc_law_alike (fun vs H Q E h => ?_) (fun cdv A outer s H vs Q E hr h => ?_)
  · obtain ⟨x, y, rfl, _⟩ := h
    rfl
  · obtain ⟨x, y, rfl, al, q⟩ := h
    refine ⟨_, (pss_cons (ps_if (pt_val (pe_callB call_isiT (by rfl) T.n_isinstance (by decide +kernel) (pa_cons (pv 1) (pa_cons (pe_tup (pa_cons (pe_bltn (v := .ty "tuple") (u := .type "tuple") (by rfl) T.n_tuple (by decide +kernel) rfl) (pa_cons (pe_bltn (v := .ty "list") (u := .type "list") (by rfl) T.n_list (by decide +kernel) rfl) pa_nil))) pa_nil))))
    (pss_cons (ps_if (PW.pt (pw_or (pt_cmpR op_ne (pe_callB call_isi (by rfl) T.n_isinstance (by decide +kernel) (pa_cons (pv 0) (pa_cons (pe_bltn (v := .ty "tuple") (u := .type "tuple") (by rfl) T.n_tuple (by decide +kernel) rfl) pa_nil))) (pe_callB call_isi (by rfl) T.n_isinstance (by decide +kernel) (pa_cons (pv 1) (pa_cons (pe_bltn (v := .ty "tuple") (u := .type "tuple") (by rfl) T.n_tuple (by decide +kernel) rfl) pa_nil))) (nomark _)) (pw_or1 (pt_cmpR op_ne (pe_callB call_isi (by rfl) T.n_isinstance (by decide +kernel) (pa_cons (pv 0) (pa_cons (pe_bltn (v := .ty "list") (u := .type "list") (by rfl) T.n_list (by decide +kernel) rfl) pa_nil))) (pe_callB call_isi (by rfl) T.n_isinstance (by decide +kernel) (pa_cons (pv 1) (pa_cons (pe_bltn (v := .ty "list") (u := .type "list") (by rfl) T.n_list (by decide +kernel) rfl) pa_nil))) (nomark _)))))
    (pss_one (ps_ret pe_bl))
    pss_nil)
    (pss_cons (ps_if (pt_cmpR op_ne (pe_callB call_len_seq (by rfl) T.n_len (by decide +kernel) (pa_cons (pv 0) pa_nil)) (pe_callB call_len_seq (by rfl) T.n_len (by decide +kernel) (pa_cons (pv 1) pa_nil)) (nomark _))
    (pss_one (ps_ret pe_bl))
    pss_nil)
    (pss_cons (ps_for PassesOwn.never rfl (pi_range1 (by rfl) T.n_range (pa_cons (pe_callB call_len_seq (by rfl) T.n_len (by decide +kernel) (pa_cons (pv 1) pa_nil)) pa_nil)) (pg_name (i := 2) sc_law_alike.nd rfl (Or.inl rfl))
    (pss_one (ps_if (pt_not (pt_val (pe_own c_law_alike hr (by rfl) pass0 (pa_cons (pe_ix ix_seq (pv 0) (pv 2) (fun _ _ => rfl)) (pa_cons (pe_ix ix_seq (pv 1) (pv 2) (fun _ _ => rfl)) pa_nil)))))
    (pss_one (ps_ret pe_bl))
    pss_nil)))
    (pss_one (ps_ret pe_bl)))))
    pss_nil)
    (pss_cons (ps_if (pt_cmpR op_isN (pv 1) pe_non (nomark _))
    (pss_one (ps_ret (pe_cmpR op_isN (pv 0) pe_non (nomark _))))
    pss_nil)
    (pss_cons (ps_if (pt_val (pe_callB call_isi (by rfl) T.n_isinstance (by decide +kernel) (pa_cons (pv 1) (pa_cons (pe_bltn (v := .ty "bool") (u := .type "bool") (by rfl) T.n_bool (by decide +kernel) rfl) pa_nil))))
    (pss_one (ps_ret (pe_and (pe_callB call_isi (by rfl) T.n_isinstance (by decide +kernel) (pa_cons (pv 0) (pa_cons (pe_bltn (v := .ty "bool") (u := .type "bool") (by rfl) T.n_bool (by decide +kernel) rfl) pa_nil))) (pe_one (pe_cmpR op_eq (pv 0) (pv 1) (nomark _))))))
    pss_nil)
    (pss_cons (ps_if (pt_val (pe_callB call_isi (by rfl) T.n_isinstance (by decide +kernel) (pa_cons (pv 1) (pa_cons (pe_bltn (v := .ty "str") (u := .type "str") (by rfl) T.n_str (by decide +kernel) rfl) pa_nil))))
    (pss_one (ps_ret (pe_and (pe_callB call_isi (by rfl) T.n_isinstance (by decide +kernel) (pa_cons (pv 0) (pa_cons (pe_bltn (v := .ty "str") (u := .type "str") (by rfl) T.n_str (by decide +kernel) rfl) pa_nil))) (pe_one (pe_cmpR op_eq (pv 0) (pv 1) (nomark _))))))
    pss_nil)
    (pss_one (ps_ret (pe_and (pe_callB call_isi (by rfl) T.n_isinstance (by decide +kernel) (pa_cons (pv 0) (pa_cons (pe_bltn (v := .ty "int") (u := .type "int") (by rfl) T.n_int (by decide +kernel) rfl) pa_nil))) (pe_and (pe_not (pe_callB call_isi (by rfl) T.n_isinstance (by decide +kernel) (pa_cons (pv 0) (pa_cons (pe_bltn (v := .ty "bool") (u := .type "bool") (by rfl) T.n_bool (by decide +kernel) rfl) pa_nil)))) (pe_one (pe_cmpR op_eq (pv 0) (pv 1) (nomark _))))))))))), ?_⟩
    walk_at "rd"
    intro t ht
    have sT : Same H _ := same_new ht (.tup [V.ty "tuple", V.ty "list"])
    have al' : Scal x y ∨ ∃ m p q xs ys, n = m + 1 ∧ x = .ref p ∧ y = .ref q ∧ ((SqT K H p xs ∧ SqT K H q ys) ∨ (SqL K H p xs ∧ SqL K H q ys)) ∧ xs.length = ys.length ∧ xs.length ≤ 100000 ∧ ∀ (i : Nat) (x' y' : V), xs[i]? = some x' → ys[i]? = some y' → Alike K m H x' y' := by
      cases n with
      | zero =>
        exact .inl (alike_zero al)
      | succ m =>
        rcases alike_succ al with al | ⟨p, q, xs, ys, r⟩
        · exact .inl al
        · exact .inr ⟨m, p, q, xs, ys, rfl, r⟩
    rcases al' with ⟨rfl, hk⟩ | ⟨m, p, q', xs, ys, rfl, rfl, rfl, hs, hl, hz, hi⟩
    · have isF : ∀ i : Int, decide (V.int i = V.non) = false := fun i => decide_eq_false (fun z => nomatch z)
      rcases hk with rfl | ⟨b, rfl⟩ | ⟨i, rfl⟩ | ⟨z, rfl⟩
      · refine ⟨_, _, _, _, _, false, by rfl, upd_same, cls_seq, ty_non, kit_seqN (by decide +kernel) (by decide +kernel), ?_⟩
        walk_at "rd"
        exact q _ sT
      · refine ⟨_, _, _, _, _, false, by rfl, upd_same, cls_seq, ty_bl, kit_seqN (by decide +kernel) (by decide +kernel), ?_⟩
        walk_at "rd"
        refine ⟨_, _, _, _, true, by rfl, .ty _, ty_bl, kit_ty (by decide +kernel), ?_⟩
        walk_at "rd"
        refine ⟨_, _, _, _, true, by rfl, .ty _, ty_bl, kit_ty (by decide +kernel), ?_⟩
        walk_at "rd"
        show Q (V.bl (decide (V.bl b = V.bl b))) _
        rw [decide_eq_true rfl]
        exact q _ sT
      · refine ⟨_, _, _, _, _, false, by rfl, upd_same, cls_seq, ty_int, kit_seqN (by decide +kernel) (by decide +kernel), ?_⟩
        walk_at "rd"
        refine ⟨_, _, _, _, false, by rfl, .ty _, ty_int, kit_ty (by decide +kernel), ?_⟩
        walk_at "rd"
        refine ⟨_, _, _, _, false, by rfl, .ty _, ty_int, kit_ty (by decide +kernel), ?_⟩
        walk_at "rd"
        refine ⟨_, _, _, _, true, by rfl, .ty _, ty_int, kit_ty (by decide +kernel), ?_⟩
        walk_at "rd"
        refine ⟨_, _, _, _, false, by rfl, .ty _, ty_int, kit_ty (by decide +kernel), ?_⟩
        walk_at "rd"
        show Q (V.bl (decide (V.int i = V.int i))) _
        rw [decide_eq_true rfl]
        exact q _ sT
      · refine ⟨_, _, _, _, _, false, by rfl, upd_same, cls_seq, ty_str, kit_seqN (by decide +kernel) (by decide +kernel), ?_⟩
        walk_at "rd"
        refine ⟨_, _, _, _, false, by rfl, .ty _, ty_str, kit_ty (by decide +kernel), ?_⟩
        walk_at "rd"
        refine ⟨_, _, _, _, true, by rfl, .ty _, ty_str, kit_ty (by decide +kernel), ?_⟩
        walk_at "rd"
        refine ⟨_, _, _, _, true, by rfl, .ty _, ty_str, kit_ty (by decide +kernel), ?_⟩
        walk_at "rd"
        show Q (V.bl (decide (V.str z = V.str z))) _
        rw [decide_eq_true rfl]
        exact q _ sT
    · obtain ⟨ty, b1, b2, hty, k1, k2, k3⟩ := kind_seq hs
      obtain ⟨tp, tq, lp, lq⟩ := hty _ sT
      refine ⟨_, _, _, _, _, true, by rfl, upd_same, cls_seq, tq, k1, ?_⟩
      walk_at "rd"
      refine ⟨_, _, _, _, b1, by rfl, .ty _, tp, k2, ?_⟩
      walk_at "rd"
      refine ⟨_, _, _, _, b1, by rfl, .ty _, tq, k2, ?_⟩
      walk_at "rd"
      refine not_self ?_
      walk_at "rd"
      refine ⟨_, _, _, _, b2, by rfl, .ty _, tp, k3, ?_⟩
      walk_at "rd"
      refine ⟨_, _, _, _, b2, by rfl, .ty _, tq, k3, ?_⟩
      walk_at "rd"
      refine not_self ?_
      walk_at "rd"
      refine ⟨_, _, by rfl, lp, ?_⟩
      walk_at "rd"
      refine ⟨_, _, by rfl, lq, ?_⟩
      walk_at "rd"
      refine iteNS (by rw [hl]) ?_
      walk_at "rd"
      refine ⟨_, _, by rfl, lq, ?_⟩
      walk_at "rd"
      rw [← hl]
      refine for_range (lo := 0) (n := xs.length) (fun i σ H' => ∃ v, σ = [some (.ref p), some (.ref q'), v] ∧ Same H H') ⟨none, rfl, sT⟩ ?_ ?_
      · rintro i σ H1 hi' ⟨v, rfl, s1⟩
        obtain ⟨_, _, lp, lq⟩ := hty _ s1
        have ex : xs[i]? = some xs[i] := List.getElem?_eq_getElem hi'
        have ey : ys[i]? = some (ys[i]'(by omega)) := List.getElem?_eq_getElem (by omega)
        rw [Int.zero_add]
        walk_at "rd"
        refine ix_any lp ex ?_
        walk_at "rd"
        refine ix_any lq ey ?_
        walk_at "rd"
        refine ⟨(hi i _ _ ex ey).same s1, fun H2 s2 => ?_⟩
        walk_at "rd"
        exact s1.trans s2
      · rintro σ H1 ⟨v, rfl, s1⟩
        walk_at "rd"
        exact q _ s1

theorem ok_alikeH {f : Addr} {fd : FuncData} {n : Nat} (F : Fun K "_law_alike" "_law_alike" s_law_alike f fd) (T : Txt mg) (c_law_alikeH : CalledH P w K mg base "_law_alike" n ["told", "due"] (fun _ _ _ _ => False)) :
    L2H.FnH P w K mg base CX0 (n + 1) f fd ["told", "due"] spSame := by
  refine F.okH sc_law_alike (fun vs H Q E h => ?_) (fun cdv A outer s H vs Q E p hot hr h => ?_)
  · obtain ⟨i, rfl, _⟩ := h
    rfl
  · obtain ⟨i, rfl, q⟩ := h
    refine ⟨_, (pss_cons (ps_if (pt_val (pe_callB call_isiT (by rfl) T.n_isinstance (by decide +kernel) (pa_cons (pv 1) (pa_cons (pe_tup (pa_cons (pe_bltn (v := .ty "tuple") (u := .type "tuple") (by rfl) T.n_tuple (by decide +kernel) rfl) (pa_cons (pe_bltn (v := .ty "list") (u := .type "list") (by rfl) T.n_list (by decide +kernel) rfl) pa_nil))) pa_nil))))
    (pss_cons (ps_if (PW.pt (pw_or (pt_cmpR op_ne (pe_callB call_isi (by rfl) T.n_isinstance (by decide +kernel) (pa_cons (pv 0) (pa_cons (pe_bltn (v := .ty "tuple") (u := .type "tuple") (by rfl) T.n_tuple (by decide +kernel) rfl) pa_nil))) (pe_callB call_isi (by rfl) T.n_isinstance (by decide +kernel) (pa_cons (pv 1) (pa_cons (pe_bltn (v := .ty "tuple") (u := .type "tuple") (by rfl) T.n_tuple (by decide +kernel) rfl) pa_nil))) (nomark _)) (pw_or1 (pt_cmpR op_ne (pe_callB call_isi (by rfl) T.n_isinstance (by decide +kernel) (pa_cons (pv 0) (pa_cons (pe_bltn (v := .ty "list") (u := .type "list") (by rfl) T.n_list (by decide +kernel) rfl) pa_nil))) (pe_callB call_isi (by rfl) T.n_isinstance (by decide +kernel) (pa_cons (pv 1) (pa_cons (pe_bltn (v := .ty "list") (u := .type "list") (by rfl) T.n_list (by decide +kernel) rfl) pa_nil))) (nomark _)))))
    (pss_one (ps_ret pe_bl))
    pss_nil)
    (pss_cons (ps_if (pt_cmpR op_ne (pe_callB call_len_seq (by rfl) T.n_len (by decide +kernel) (pa_cons (pv 0) pa_nil)) (pe_callB call_len_seq (by rfl) T.n_len (by decide +kernel) (pa_cons (pv 1) pa_nil)) (nomark _))
    (pss_one (ps_ret pe_bl))
    pss_nil)
    (pss_cons (L2H.ps_forH PassesOwn.never hot (L2H.pi_range1H (by rfl) T.n_range (pa_cons (pe_callB call_len_seq (by rfl) T.n_len (by decide +kernel) (pa_cons (pv 1) pa_nil)) pa_nil)) (pg_name (i := 2) sc_law_alike.nd rfl (Or.inl rfl))
    (pss_one (ps_if (pt_not (pt_val (pe_ownH c_law_alikeH hr hot (by rfl) (pa_cons (pe_ix ix_seq (pv 0) (pv 2) (fun _ _ => rfl)) (pa_cons (pe_ix ix_seq (pv 1) (pv 2) (fun _ _ => rfl)) pa_nil)))))
    (pss_one (ps_ret pe_bl))
    pss_nil)))
    (pss_one (ps_ret pe_bl)))))
    pss_nil)
    (pss_cons (ps_if (pt_cmpR op_isN (pv 1) pe_non (nomark _))
    (pss_one (ps_ret (pe_cmpR op_isN (pv 0) pe_non (nomark _))))
    pss_nil)
    (pss_cons (ps_if (pt_val (pe_callB call_isi (by rfl) T.n_isinstance (by decide +kernel) (pa_cons (pv 1) (pa_cons (pe_bltn (v := .ty "bool") (u := .type "bool") (by rfl) T.n_bool (by decide +kernel) rfl) pa_nil))))
    (pss_one (ps_ret (pe_and (pe_callB call_isi (by rfl) T.n_isinstance (by decide +kernel) (pa_cons (pv 0) (pa_cons (pe_bltn (v := .ty "bool") (u := .type "bool") (by rfl) T.n_bool (by decide +kernel) rfl) pa_nil))) (pe_one (pe_cmpR op_eq (pv 0) (pv 1) (nomark _))))))
    pss_nil)
    (pss_cons (ps_if (pt_val (pe_callB call_isi (by rfl) T.n_isinstance (by decide +kernel) (pa_cons (pv 1) (pa_cons (pe_bltn (v := .ty "str") (u := .type "str") (by rfl) T.n_str (by decide +kernel) rfl) pa_nil))))
    (pss_one (ps_ret (pe_and (pe_callB call_isi (by rfl) T.n_isinstance (by decide +kernel) (pa_cons (pv 0) (pa_cons (pe_bltn (v := .ty "str") (u := .type "str") (by rfl) T.n_str (by decide +kernel) rfl) pa_nil))) (pe_one (pe_cmpR op_eq (pv 0) (pv 1) (nomark _))))))
    pss_nil)
    (pss_one (ps_ret (pe_and (pe_callB call_isi (by rfl) T.n_isinstance (by decide +kernel) (pa_cons (pv 0) (pa_cons (pe_bltn (v := .ty "int") (u := .type "int") (by rfl) T.n_int (by decide +kernel) rfl) pa_nil))) (pe_and (pe_not (pe_callB call_isi (by rfl) T.n_isinstance (by decide +kernel) (pa_cons (pv 0) (pa_cons (pe_bltn (v := .ty "bool") (u := .type "bool") (by rfl) T.n_bool (by decide +kernel) rfl) pa_nil)))) (pe_one (pe_cmpR op_eq (pv 0) (pv 1) (nomark _))))))))))), ?_⟩
    walk_at "rd"
    intro t ht
    have sT : Same H _ := same_new ht (.tup [V.ty "tuple", V.ty "list"])
    refine ⟨_, _, _, _, _, false, by rfl, upd_same, cls_seq, ty_int, kit_seqN (by decide +kernel) (by decide +kernel), ?_⟩
    walk_at "rd"
    refine ⟨_, _, _, _, false, by rfl, .ty _, ty_int, kit_ty (by decide +kernel), ?_⟩
    walk_at "rd"
    refine ⟨_, _, _, _, false, by rfl, .ty _, ty_int, kit_ty (by decide +kernel), ?_⟩
    walk_at "rd"
    refine ⟨_, _, _, _, true, by rfl, .ty _, ty_int, kit_ty (by decide +kernel), ?_⟩
    walk_at "rd"
    refine ⟨_, _, _, _, false, by rfl, .ty _, ty_int, kit_ty (by decide +kernel), ?_⟩
    walk_at "rd"
    show Q (V.bl (decide (V.int i = V.int i))) _
    rw [decide_eq_true rfl]
    exact q _ sT

abbrev s_law_times : Stmt := topS 13
theorem sc_law_times : FnScope ["a", "b", "total", "left", "one", "k"] ["a", "b"] (defScope s_law_times) := ⟨rfl, rfl, rfl, by decide +kernel, rfl, by decide +kernel, by decide +kernel⟩
theorem ok_ltimes {f : Addr} {fd : FuncData} {k : Nat} (F : Fun K "_law_times" "_law_times" s_law_times f fd) (T : Txt mg) : FnOk P w K mg base CX0 (k + 1) f fd ["a", "b"] (spSym2 mul) := by
  refine F.ok sc_law_times (fun vs H Q E h => ?_) (fun cdv A outer s H vs Q E hr h => ?_)
  · obtain ⟨a, b, rfl, _⟩ := h
    rfl
  · obtain ⟨a, b, rfl, ⟨ha, hb⟩, q⟩ := h
    refine ⟨_, (pss_cons (ps_set (i := 2) sc_law_times.nd rfl (Or.inl rfl) pe_int)
    (pss_cons (ps_set (i := 3) sc_law_times.nd rfl (Or.inl rfl) (pv 1))
    (pss_cons (ps_set (i := 4) sc_law_times.nd rfl (Or.inl rfl) (pv 0))
    (pss_cons (ps_for PassesOwn.never rfl (pi_range1 (by rfl) T.n_range (pa_cons pe_int pa_nil)) (pg_name (i := 5) sc_law_times.nd rfl (Or.inl rfl))
    (pss_cons (ps_if (pt_cmpR op_eq (pe_op op_mod (pe_callTy call_int1 (by rfl) T.n_int (by decide +kernel) (pa_cons (pv 3) pa_nil)) pe_int) pe_int (nomark _))
    (pss_one (ps_set (i := 2) sc_law_times.nd rfl (Or.inl rfl) (pe_op op_xor (pv 2) (pv 4))))
    pss_nil)
    (pss_cons (ps_set (i := 3) sc_law_times.nd rfl (Or.inl rfl) (pe_op op_fdiv (pv 3) pe_int))
    (pss_cons (ps_set (i := 4) sc_law_times.nd rfl (Or.inl rfl) (pe_op op_mul pe_int (pv 4)))
    (pss_one (ps_if (pt_cmpR op_gt (pv 4) pe_int (nomark _))
    (pss_one (ps_set (i := 4) sc_law_times.nd rfl (Or.inl rfl) (pe_op op_xor (pv 4) pe_int)))
    pss_nil))))))
    (pss_one (ps_ret (pv 2))))))), ?_⟩
    walk_at "rd"
    refine for_range (lo := 0) (n := 7) (fun i σ H' => ∃ t l o v, σ = [some (.int (a : Int)), some (.int (b : Int)), some (.int t), some (.int l), some (.int o), v] ∧ (t = ((ltRun i (0, b, a)).1 : Nat) ∧ l = ((ltRun i (0, b, a)).2.1 : Nat) ∧ o = ((ltRun i (0, b, a)).2.2 : Nat)) ∧ H' = H) ⟨_, _, _, _, rfl, ⟨rfl, rfl, rfl⟩, rfl⟩ ?_ ?_
    · rintro i σ H1 _ ⟨t, l, o, v, rfl, ⟨et, el, eo⟩, rfl⟩
      have hb2 := ltRun_lt (b := b) ha i
      have es : ltRun (i + 1) (0, b, a) = ltStep (ltRun i (0, b, a)) := rfl
      rw [es]
      generalize ltRun i (0, b, a) = u at et el eo hb2 ⊢
      obtain ⟨t', l', o'⟩ := u
      dsimp only at et el eo hb2
      subst et el eo
      walk_at "rd"
      have e2 : ltStep (t', l', o') = (cond (l' % 2 == 1) (t' ^^^ o') t', l' / 2, cond (Nat.ble 128 (2 * o')) ((2 * o') ^^^ 131) (2 * o')) := rfl
      rw [e2]
      dsimp only
      have ex : Builtin.bitXor (2 * (o' : Int)) 131 = (((2 * o') ^^^ 131 : Nat) : Int) := xor_cast (2 * o') 131
      refine ite2 (fun c1 => ?_) (fun c1 => ?_)
      · have c1' := vint_eq c1
        have h1 : (l' % 2 == 1) = true := beq_iff_eq.mpr (by omega)
        walk_at "rd"
        refine ite2 (fun c2 => ?_) (fun c2 => ?_)
        · have c2' := of_decide_eq_true c2
          have h2 : Nat.ble 128 (2 * o') = true := Nat.ble_eq_true_of_le (by omega)
          walk_at "rd"
          refine ⟨_, _, _, _, rfl, ⟨?_, by omega, ?_⟩, rfl⟩
          · rw [h1, xor_cast] <;> rfl
          · rw [h2, ex] <;> rfl
        · have c2' := dec_ne c2
          have h2 : Nat.ble 128 (2 * o') = false := Bool.eq_false_iff.mpr fun z => by have := Nat.le_of_ble_eq_true z; omega
          walk_at "rd"
          refine ⟨_, _, _, _, rfl, ⟨?_, by omega, ?_⟩, rfl⟩
          · rw [h1, xor_cast] <;> rfl
          · rw [h2] <;> rfl
      · have c1' := vint_ne c1
        have h1 : (l' % 2 == 1) = false := beq_eq_false_iff_ne.mpr (by omega)
        walk_at "rd"
        refine ite2 (fun c2 => ?_) (fun c2 => ?_)
        · have c2' := of_decide_eq_true c2
          have h2 : Nat.ble 128 (2 * o') = true := Nat.ble_eq_true_of_le (by omega)
          walk_at "rd"
          refine ⟨_, _, _, _, rfl, ⟨?_, by omega, ?_⟩, rfl⟩
          · rw [h1] <;> rfl
          · rw [h2, ex] <;> rfl
        · have c2' := dec_ne c2
          have h2 : Nat.ble 128 (2 * o') = false := Bool.eq_false_iff.mpr fun z => by have := Nat.le_of_ble_eq_true z; omega
          walk_at "rd"
          refine ⟨_, _, _, _, rfl, ⟨?_, by omega, ?_⟩, rfl⟩
          · rw [h1] <;> rfl
          · rw [h2] <;> rfl
    · rintro σ H1 ⟨t, l, o, v, rfl, ⟨et, _, _⟩, rfl⟩
      walk_at "rd"
      rw [et, show (ltRun 7 (0, b, a)).1 = ltimes a b from rfl, ltimes_mul ha hb]
      exact q

abbrev s_law_row : Stmt := topS 14
theorem sc_law_row : FnScope ["a", "many", "row", "k"] ["a", "many"] (defScope s_law_row) := ⟨rfl, rfl, rfl, by decide +kernel, rfl, by decide +kernel, by decide +kernel⟩
def powRow (a n : Nat) : List Nat := (List.range n).map (fpow a)
theorem powRow_at {a n i : Nat} (h : i < n) : (rowV (powRow a n))[i]? = some (.int (fpow a i : Nat)) := by
  unfold powRow
  rw [List.getElem?_map, List.getElem?_map, List.getElem?_range h] <;> rfl
theorem powRow_succ (a n : Nat) : rowV (powRow a (n + 1)) = rowV (powRow a n) ++ [V.int (fpow a n : Nat)] := by
  unfold powRow
  rw [List.range_succ, List.map_append, rowV, List.map_append] <;> rfl
theorem powRow_len (a n : Nat) : (rowV (powRow a n)).length = n := by
  unfold powRow
  rw [List.length_map, List.length_map, List.length_range]
def spRow : Sp := fun vs H Q _ => ∃ a n : Nat, vs = [.int (a : Int), .int (n : Int)] ∧ (a < 128 ∧ n ≤ 1000) ∧ ∀ p H', Same H H' → H' p = some (.lst (rowV (powRow a (n + 1)))) → Q (.ref p) H'
theorem ok_row {f : Addr} {fd : FuncData} {k : Nat} (F : Fun K "_law_row" "_law_row" s_law_row f fd) (T : Txt mg) (c_law_times : Called P w K mg base CX0 "_law_times" k ["a", "b"] (spSym2 mul)) : FnOk P w K mg base CX0 (k + 1) f fd ["a", "many"] spRow := by
  refine F.ok sc_law_row (fun vs H Q E h => ?_) (fun cdv A outer s H vs Q E hr h => ?_)
  · obtain ⟨a, b, rfl, _⟩ := h
    rfl
  · obtain ⟨a, n, rfl, ⟨ha, hn⟩, q⟩ := h
    refine ⟨_, (pss_cons (ps_set (i := 2) sc_law_row.nd rfl (Or.inl rfl) (pe_lst (pa_cons pe_int pa_nil)))
    (pss_cons (ps_for PassesOwn.never rfl (pi_range1 (by rfl) T.n_range (pa_cons (pv 1) pa_nil)) (pg_name (i := 3) sc_law_row.nd rfl (Or.inl rfl))
    (pss_one (ps_expr (pe_bm PySem.F.plainAttrs_list PySem.F.slot_list_append PySem.F.type_list_append mt_append (pv 2) (pa_cons (pe_own c_law_times hr (by rfl) pass0 (pa_cons (pe_ix ix_n (pv 2) (pv 3) (fun _ _ => rfl)) (pa_cons (pv 0) pa_nil))) pa_nil)))))
    (pss_one (ps_ret (pv 2))))), ?_⟩
    walk_at "rd"
    intro l nl
    rw [show ([V.int 1] : List V) = rowV (powRow a 1) from rfl]
    walk_at "rd"
    refine for_range (lo := 0) (n := n) (fun i σ H' => ∃ v1, σ = [some (.int (a : Int)), some (.int (n : Int)), some (.ref l), v1] ∧ Same H H' ∧ H' l = some (.lst (rowV (powRow a (i + 1))))) ⟨_, rfl, same_new nl _, upd_same⟩ ?_ ?_
    · rintro i σ H1 hi ⟨v1, rfl, s1, h1⟩
      rw [Int.zero_add, powRow_succ]
      have hf := fpow_lt a i
      walk_at "rd"
      refine ⟨.inl ⟨rfl, _, .of h1⟩, ?_⟩
      walk_at "rd"
      refine ⟨_, _, _, _, by rfl, by rfl, .inl (.of h1), powRow_at (Nat.lt_succ_self i), ?_⟩
      walk_at "rd"
      exact ⟨_, _, _, rfl, rfl, h1, by rw [powRow_len]; exact sz_lt (by omega), _, rfl, same_mut s1 nl, upd_same⟩
    · rintro σ H1 ⟨v1, rfl, s1, h1⟩
      walk_at "rd"
      exact q _ _ s1 h1

abbrev s_law_refused : Stmt := topS 15
theorem sc_law_refused : FnScope ["e"] [] (defScope s_law_refused) := ⟨rfl, rfl, rfl, by decide +kernel, rfl, by decide +kernel, by decide +kernel⟩
def spTrue : Sp := fun vs H Q _ => vs = [] ∧ ∀ H', Same H H' → Q (.bl true) H'
theorem ok_refused {f C D fI : Addr} {fd : FuncData} {k : Nat} (F : Fun K "_law_refused" "_law_refused" s_law_refused f fd) (E_BadValue : EAt "BadValue" "BadValue.__init__" K mg C D fI)
    (c_logarithm : Called P w K mg base (L2N.CX P w) "logarithm" k ["a"] (spLog C)) (c_law_alikeH : CalledH P w K mg base "_law_alike" k ["told", "due"] spSame) : FnOk P w K mg base CX0 (k + 1) f fd [] spTrue := by
  refine F.ok sc_law_refused (fun vs H Q E h => ?_) (fun cdv A outer s H vs Q E hr h => ?_)
  · obtain ⟨rfl, _⟩ := h
    rfl
  · obtain ⟨rfl, q⟩ := h
    refine ⟨_, (pss_cons (L2N.ps_try_as (i := 0) rfl rfl sc_law_refused.nd rfl rfl ⟨rfl, by decide, Or.inl E_BadValue.gC⟩ takes0N (fun W pn xe tk _ => (pss_one (ps_expr (pe_ownS c_logarithm hr (by rfl) (fun σ => L2N.passAt tk σ) (pa_cons pe_int pa_nil)))))
    (fun ae oe cls d pn hz hf => (pss_one (ps_ret (pe_ownH c_law_alikeH ⟨hr.dp, hr.un⟩ (hot_suite hz hf) (by rfl) (pa_cons (pe_byE E_BadValue hz.zc hf (pv 0)) (pa_cons pe_int pa_nil)))))))
    (pss_one (ps_ret pe_bl))), ?_⟩
    walk_at "rd"
    refine ⟨fun _ d nd => ?_, fun z => absurd rfl z⟩
    refine ⟨true, E_BadValue.te, fun _ a0 _ => ?_, fun q => Bool.noConfusion q⟩
    walk_at "rd"
    refine ⟨d, _, rfl, upd_same, ?_⟩
    walk_at "rd"
    intro H2 s2
    exact q _ ((same_new nd _).trans s2)

abbrev s_law : Stmt := topS 16
theorem sc_law : FnScope ["script", "a", "high", "row", "n", "powers", "known", "turn", "b", "one"] ["script"] (defScope s_law) := ⟨rfl, rfl, rfl, by decide +kernel, rfl, by decide +kernel, by decide +kernel⟩
theorem menu3 (x i : Nat) (hx : x < 127) : ∃ c : Nat, (rowV [0, 126, x])[if i < 2 then i else 2]? = some (.int (c : Int)) ∧ c < 127 := by
  have h : ∀ j, j < 3 → ∃ c : Nat, (rowV [0, 126, x])[j]? = some (.int (c : Int)) ∧ c < 127 := fun j hj => by
    match j, hj with
    | 0, _ => exact ⟨0, rfl, by decide⟩
    | 1, _ => exact ⟨126, rfl, by decide⟩
    | 2, _ => exact ⟨x, rfl, hx⟩
  exact h _ (by split <;> omega)
theorem fpow_two {n : Nat} (h : n < 127) : fpow 2 n = pw n := by
  rw [fpow_pw (by decide), show lg 2 = 1 by decide +kernel, Nat.one_mul, Nat.mod_eq_of_lt h]
theorem fpow_nought (n : Nat) : fpow 0 n = if n = 0 then 1 else 0 := by
  by_cases h : n = 0
  · rw [if_pos h, h]
    rfl
  · rw [if_neg h, fpow_zero h]
/-- the dict of the powers told so far -/
def Known (kvs : List (Key × V)) (i : Nat) : Prop := kvs.length ≤ i ∧ ∀ j, j < 127 → valV kvs (Sum.inl ((pw j : Nat) : Int)) = if j < i then some (.int (j : Int)) else none
theorem Known.put {kvs : List (Key × V)} {i : Nat} (h : Known kvs i) (hi : i < 127) : Known (putK kvs (Sum.inl ((pw i : Nat) : Int)) (.int (i : Int))) (i + 1) := by
  obtain ⟨h1, h2⟩ := h
  have hn : valV kvs (Sum.inl ((pw i : Nat) : Int)) = none := by rw [h2 i hi, if_neg (Nat.lt_irrefl _)]
  refine ⟨?_, fun j hj => ?_⟩
  · rw [putK_new _ hn, List.length_append]
    show kvs.length + 1 ≤ i + 1
    omega
  · rw [valV_put, h2 j hj]
    by_cases e : j = i
    · subst e
      rw [if_pos rfl, if_pos (Nat.lt_succ_self _)]
    · have ne : ¬ (Sum.inl ((pw j : Nat) : Int) : Key) = Sum.inl ((pw i : Nat) : Int) := fun z => e (pw_inj hj hi (Int.ofNat.inj (Sum.inl.inj z)))
      rw [if_neg ne]
      by_cases l : j < i
      · rw [if_pos l, if_pos (by omega)]
      · rw [if_neg l, if_neg (by omega)]
theorem Known.at {kvs : List (Key × V)} {b : Nat} (h : Known kvs 127) (hb : b < 128) (b0 : b ≠ 0) : valV kvs (Sum.inl (b : Int)) = some (.int (lg b : Nat)) := by
  have q := h.2 (lg b) (lg_lt hb)
  rw [pw_lg hb b0, if_pos (lg_lt hb)] at q
  exact q
theorem row2_at {c : Nat} (h : c < 127) : (rowV (powRow 2 127))[c]? = some (.int (pw c : Nat)) := by
  rw [powRow_at h, fpow_two h]
theorem ok_law {f C : Addr} {fd : FuncData} {k : Nat} (F : Fun K "law" "law" s_law f fd) (T : Txt mg)
    (c_law_cell : Called P w K mg base CX0 "_law_cell" k ["script", "k"] (spCell K)) (c_law_mix : Called P w K mg base CX0 "_law_mix" k ["cell", "salt"] spMix)
    (c_law_alike : Called P w K mg base CX0 "_law_alike" k ["told", "due"] (spA K 1)) (c_law_row : Called P w K mg base CX0 "_law_row" k ["a", "many"] spRow) (c_law_refused : Called P w K mg base CX0 "_law_refused" k [] spTrue)
    (c_power : Called P w K mg base CX0 "power" k ["a", "n"] spPow) (c_logarithm : Called P w K mg base (L2N.CX P w) "logarithm" k ["a"] (spLog C))
    (kb_power_n_a : CalledK P w K mg base CX0 "power" k ["a", "n"] ["n", "a"] gSwap spPow) (kb_logarithm_a : CalledK P w K mg base (L2N.CX P w) "logarithm" k ["a"] ["a"] gSame (spLog C)) : FnOk P w K mg base CX0 (k + 1) f fd ["script"] (spLaw K) := by
  refine F.ok sc_law (fun vs H Q E h => ?_) (fun cdv A outer s H vs Q E hr h => ?_)
  · obtain ⟨a, b, rfl, _⟩ := h
    rfl
  · obtain ⟨l, ns, rfl, hl, hn, q⟩ := h
    have hu := hu_of hr
    refine ⟨_, (pss_cons (ps_set (i := 1) sc_law.nd rfl (Or.inl rfl) (pe_op op_modI (pe_callTy call_int1 (by rfl) T.n_int (by decide +kernel) (pa_cons (pe_own c_law_cell hr (by rfl) pass0 (pa_cons (pv 0) (pa_cons pe_int pa_nil))) pa_nil)) pe_int))
    (pss_cons (ps_set (i := 2) sc_law.nd rfl (Or.inl rfl) (pe_op op_modI (pe_callTy call_int1 (by rfl) T.n_int (by decide +kernel) (pa_cons (pe_own c_law_cell hr (by rfl) pass0 (pa_cons (pv 0) (pa_cons pe_int pa_nil))) pa_nil)) pe_int))
    (pss_cons (ps_set (i := 3) sc_law.nd rfl (Or.inl rfl) (pe_own c_law_row hr (by rfl) pass0 (pa_cons (pv 1) (pa_cons (pv 2) pa_nil))))
    (pss_cons (ps_for PassesOwn.never rfl (pi_list (pe_lst (pa_cons pe_int (pa_cons pe_int (pa_cons pe_int (pa_cons pe_int (pa_cons pe_int (pa_cons pe_int (pa_cons pe_int (pa_cons (pe_op nop_div (pv 2) pe_int) (pa_cons (pv 2) pa_nil))))))))))) (pg_name (i := 4) sc_law.nd rfl (Or.inl rfl))
    (pss_one (ps_if (PW.pt (pw_and (pt_cmpR nop_le (pv 4) (pv 2) (nomark _)) (pw_and1 (pt_not (pt_val (pe_own c_law_alike hr (by rfl) pass0 (pa_cons (pe_own c_power hr (by rfl) pass0 (pa_cons (pv 1) (pa_cons (pv 4) pa_nil))) (pa_cons (pe_ix ix_n (pv 3) (pv 4) (fun _ _ => rfl)) pa_nil))))))))
    (pss_one (ps_ret pe_bl))
    pss_nil)))
    (pss_cons (ps_if (PW.pt (pw_or (pt_not (pt_val (pe_own c_law_alike hr (by rfl) pass0 (pa_cons (pe_ownK kb_power_n_a hr (by rfl) pass0 (pk_cons (pv 2) (pk_cons (pv 1) pk_nil))) (pa_cons (pe_ix ix_n (pv 3) (pv 2) (fun _ _ => rfl)) pa_nil))))) (pw_or1 (pt_not (pt_val (pe_own c_law_alike hr (by rfl) pass0 (pa_cons (pe_own c_power hr (by rfl) pass0 (pa_cons pe_int (pa_cons pe_int pa_nil))) (pa_cons pe_int pa_nil))))))))
    (pss_one (ps_ret pe_bl))
    pss_nil)
    (pss_cons (ps_if (pt_not (pt_val (pe_own c_law_alike hr (by rfl) pass0 (pa_cons (pe_own c_power hr (by rfl) pass0 (pa_cons pe_int (pa_cons (pv 2) pa_nil))) (pa_cons (pe_callTy call_int1 (by rfl) T.n_int (by decide +kernel) (pa_cons (pe_cmpR nop_eq (pv 2) pe_int (nomark _)) pa_nil)) pa_nil)))))
    (pss_one (ps_ret pe_bl))
    pss_nil)
    (pss_cons (ps_set (i := 5) sc_law.nd rfl (Or.inl rfl) (pe_own c_law_row hr (by rfl) pass0 (pa_cons pe_int (pa_cons pe_int pa_nil))))
    (pss_cons (ps_set (i := 6) sc_law.nd rfl (Or.inl rfl) pe_dnewK)
    (pss_cons (ps_for PassesOwn.never rfl (pi_range1 (by rfl) T.n_range (pa_cons pe_int pa_nil)) (pg_name (i := 4) sc_law.nd rfl (Or.inl rfl))
    (pss_one (ps_dput hu (pv 6) (pe_ix ix_n (pv 5) (pv 4) (fun _ _ => rfl)) (pv 4) rfl)))
    (pss_cons (ps_for PassesOwn.never rfl (pi_range1 (by rfl) T.n_range (pa_cons pe_int pa_nil)) (pg_name (i := 7) sc_law.nd rfl (Or.inl rfl))
    (pss_cons (ps_set (i := 4) sc_law.nd rfl (Or.inl rfl) (pe_ix ix_n (pe_lst (pa_cons pe_int (pa_cons pe_int (pa_cons (pe_op op_modI (pe_callTy call_int1 (by rfl) T.n_int (by decide +kernel) (pa_cons (pe_own c_law_mix hr (by rfl) pass0 (pa_cons (pe_own c_law_cell hr (by rfl) pass0 (pa_cons (pv 0) (pa_cons pe_int pa_nil))) (pa_cons (pv 7) pa_nil))) pa_nil)) pe_int) pa_nil)))) (pe_callB (ncall_min2 rfl) (by rfl) T.n_min (by decide +kernel) (pa_cons pe_int (pa_cons (pv 7) pa_nil))) (fun _ _ => rfl)))
    (pss_one (ps_if (PW.pt (pw_or (pt_not (pt_val (pe_own c_law_alike hr (by rfl) pass0 (pa_cons (pe_own c_power hr (by rfl) pass0 (pa_cons pe_int (pa_cons (pv 4) pa_nil))) (pa_cons (pe_ix ix_n (pv 5) (pv 4) (fun _ _ => rfl)) pa_nil))))) (pw_or1 (pt_not (pt_val (pe_own c_law_alike hr (by rfl) pass0 (pa_cons (pe_own c_logarithm hr (by rfl) passN (pa_cons (pe_ix ix_n (pv 5) (pv 4) (fun _ _ => rfl)) pa_nil)) (pa_cons (pv 4) pa_nil))))))))
    (pss_one (ps_ret pe_bl))
    pss_nil))))
    (pss_cons (ps_for PassesOwn.never rfl (pi_range2 (by rfl) T.n_range (pa_cons pe_int (pa_cons pe_int pa_nil))) (pg_name (i := 8) sc_law.nd rfl (Or.inl rfl))
    (pss_one (ps_if (pt_cmp (pc_dnotin hu (pv 8) (pv 6)))
    (pss_one (ps_ret pe_bl))
    pss_nil)))
    (pss_cons (ps_set (i := 9) sc_law.nd rfl (Or.inl rfl) (pe_op nop_add pe_int (pe_op op_modI (pe_callTy call_int1 (by rfl) T.n_int (by decide +kernel) (pa_cons (pe_own c_law_mix hr (by rfl) pass0 (pa_cons (pe_own c_law_cell hr (by rfl) pass0 (pa_cons (pv 0) (pa_cons pe_int pa_nil))) (pa_cons pe_int pa_nil))) pa_nil)) pe_int)))
    (pss_one (ps_ret (pe_and (pe_own c_law_alike hr (by rfl) pass0 (pa_cons (pe_ownK kb_logarithm_a hr (by rfl) passN (pk_cons (pv 9) pk_nil)) (pa_cons (pe_dget hu (pv 6) (pv 9) (fun _ _ => rfl)) pa_nil))) (pe_and (pe_own c_law_alike hr (by rfl) pass0 (pa_cons (pe_own c_power hr (by rfl) pass0 (pa_cons pe_int (pa_cons (pe_own c_logarithm hr (by rfl) passN (pa_cons (pv 9) pa_nil)) pa_nil))) (pa_cons (pv 9) pa_nil))) (pe_one (pe_own0 c_law_refused hr (by rfl) pass0)))))))))))))))))), ?_⟩
    walk_at "rd"
    refine ⟨_, ns, 0, by rfl, hl, ?_⟩
    walk_at "rd"
    refine ⟨_, ns, 1, by rfl, hl, ?_⟩
    walk_at "rd"
    intro row H1 s1 h1
    walk_at "rd"
    intro m nm
    have ha : (cellOf ns 0 % 128).toNat < 128 := by omega
    have hh : (cellOf ns 1 % 1001).toNat ≤ 1000 := by omega
    have lr : SqL K H1 row (rowV (powRow (cellOf ns 0 % 128).toNat ((cellOf ns 1 % 1001).toNat + 1))) := .of h1
    have s2 : Same H1 _ := same_new nm (.lst (rowV [0, 1, 2, 7, 126, 127, 128, (cellOf ns 1 % 1001).toNat / 2, (cellOf ns 1 % 1001).toNat]))
    have lm : SqL K (upd H1 m (.lst (rowV [0, 1, 2, 7, 126, 127, 128, (cellOf ns 1 % 1001).toNat / 2, (cellOf ns 1 % 1001).toNat]))) m (rowV [0, 1, 2, 7, 126, 127, 128, (cellOf ns 1 % 1001).toNat / 2, (cellOf ns 1 % 1001).toNat]) := .of upd_same
    refine ⟨_, rfl, ⟨_, lm⟩, for_list (K := K) (a := m) (xs := rowV [0, 1, 2, 7, 126, 127, 128, (cellOf ns 1 % 1001).toNat / 2, (cellOf ns 1 % 1001).toNat]) (fun i σ H' => ∃ v1, σ = [some (.ref l), some (.int ((cellOf ns 0 % 128).toNat : Nat)), some (.int ((cellOf ns 1 % 1001).toNat : Nat)), some (.ref row), v1, none, none, none, none, none] ∧ Same (upd H1 m (.lst (rowV [0, 1, 2, 7, 126, 127, 128, (cellOf ns 1 % 1001).toNat / 2, (cellOf ns 1 % 1001).toNat]))) H') ⟨_, rfl, Same.refl _⟩ (fun i σ H' _ ⟨_, _, z⟩ => z.seq lm) ?_ ?_⟩
    · rintro i x σ H2 hx ⟨v1, rfl, s3⟩
      obtain ⟨n, hn', rfl⟩ := rowV_at hx
      have s4 := s2.trans s3
      generalize (cellOf ns 0 % 128).toNat = a at ha lr ⊢
      generalize (cellOf ns 1 % 1001).toNat = hi at hh lr lm s4 s3 s2 hn' ⊢
      walk_at "rd"
      refine ite2 (fun e => ?_) (fun e => ?_)
      · have le : n ≤ hi := of_decide_eq_true e
        walk_at "rd"
        refine ⟨_, _, _, _, by rfl, by rfl, .inl (s4.seq lr), powRow_at (Nat.lt_succ_of_le le), ?_⟩
        walk_at "rd"
        refine ⟨Alike.int, fun H3 s5 => ?_⟩
        walk_at "rd"
        exact s3.trans s5
      · walk_at "rd"
        exact s3
    · rintro σ H2 ⟨v1, rfl, s3⟩
      have s4 := s2.trans s3
      generalize (cellOf ns 0 % 128).toNat = a at ha lr ⊢
      generalize (cellOf ns 1 % 1001).toNat = hi at hh lr s4 ⊢
      walk_at "rd"
      refine ⟨_, _, _, _, by rfl, by rfl, .inl (s4.seq lr), powRow_at (Nat.lt_succ_self hi), ?_⟩
      walk_at "rd"
      refine ⟨Alike.int, fun H3 s5 => ?_⟩
      walk_at "rd"
      refine ⟨Alike.nat (i := fpow 0 0) (j := 1) rfl, fun H4 s6 => ?_⟩
      walk_at "rd"
      refine .inr ⟨_, rfl, ?_⟩
      walk_at "rd"
      have e0 : (if decide (hi = 0) = true then (1 : Int) else 0) = ((fpow 0 hi : Nat) : Int) := by
        rw [fpow_nought]
        by_cases z : hi = 0
        · rw [if_pos z, if_pos (decide_eq_true z)] <;> rfl
        · rw [if_neg z, if_neg (by simp [z])] <;> rfl
      refine ⟨?_, fun H5 s7 => ?_⟩
      · show Alike K _ _ (V.int ((fpow 0 hi : Nat) : Int)) (V.int (if decide (hi = 0) = true then 1 else 0))
        rw [e0]
        exact Alike.int
      walk_at "rd"
      intro pw0 H6 s8 h6
      have lp : SqL K H6 pw0 (rowV (powRow 2 127)) := .of h6
      walk_at "rd"
      intro d nd
      have s9 : Same H6 _ := same_new nd (.dK [])
      walk_at "rd"
      refine for_range (lo := 0) (n := 127) (fun i σ H' => ∃ v1 kvs, σ = [some (.ref l), some (.int (a : Int)), some (.int (hi : Int)), some (.ref row), v1, some (.ref pw0), some (.ref d), none, none, none] ∧ Same H6 H' ∧ H' d = some (.dK kvs) ∧ Known kvs i) ⟨_, [], rfl, s9, upd_same, Nat.le_refl _, fun j _ => by rw [if_neg (Nat.not_lt_zero j)]; rfl⟩ ?_ ?_
      · rintro i σ H7 hi' ⟨v2, kvs, rfl, s10, hd, kn⟩
        rw [Int.zero_add]
        walk_at "rd"
        refine ⟨_, _, _, _, by rfl, by rfl, .inl (s10.seq lp), row2_at hi', ?_⟩
        refine ⟨d, _, rfl, DPut.k (k := Sum.inl ((pw i : Nat) : Int)) hd (sz_lt (by have := kn.1; omega)), ?_⟩
        exact ⟨_, _, rfl, same_mut s10 nd, upd_same, kn.put hi'⟩
      · rintro σ H7 ⟨v2, kvs, rfl, s10, hd, kn⟩
        walk_at "rd"
        refine for_range (lo := 0) (n := 12) (fun i σ H' => ∃ v1 v3, σ = [some (.ref l), some (.int (a : Int)), some (.int (hi : Int)), some (.ref row), v1, some (.ref pw0), some (.ref d), v3, none, none] ∧ Same H7 H') ⟨_, _, rfl, Same.refl _⟩ ?_ ?_
        · rintro i σ H8 hi' ⟨v3, v4, rfl, s11⟩
          rw [Int.zero_add]
          have s12 := s10.trans s11
          have sl : SqL K H8 l (ns.map V.int) := s12.seq (s8.seq (s7.seq (s6.seq (s5.seq (s4.seq (s1.seq hl))))))
          walk_at "rd"
          refine ⟨_, ns, 3, by rfl, sl, ?_⟩
          walk_at "rd"
          intro m2 nm2
          have s13 : Same H8 _ := same_new nm2 (.lst (rowV [0, 126, (mix (cellOf ns 3) i % 127).toNat]))
          walk_at "rd"
          obtain ⟨c, hc, c127⟩ := menu3 (mix (cellOf ns 3) i % 127).toNat i (by omega)
          refine ⟨_, _, _, _, by rfl, by rfl, .inl (.of upd_same), hc, ?_⟩
          walk_at "rd"
          have hpc := pw_ok c127
          have lp2 := s13.seq (s12.seq lp)
          refine ⟨_, _, _, _, by rfl, by rfl, .inl lp2, row2_at c127, ?_⟩
          walk_at "rd"
          refine ⟨Alike.nat (fpow_two c127), fun H9 s14 => ?_⟩
          walk_at "rd"
          refine ⟨_, _, _, _, by rfl, by rfl, .inl (s14.seq lp2), row2_at c127, ?_⟩
          walk_at "rd"
          intro _
          walk_at "rd"
          refine ⟨Alike.nat hpc.2.2, fun H10 s15 => ?_⟩
          walk_at "rd"
          exact s11.trans (s13.trans (s14.trans s15))
        · rintro σ H8 ⟨v3, v4, rfl, s11⟩
          have hd8 := s11 _ _ hd
          walk_at "rd"
          refine for_range (lo := 1) (n := 127) (fun i σ H' => ∃ v5, σ = [some (.ref l), some (.int (a : Int)), some (.int (hi : Int)), some (.ref row), v3, some (.ref pw0), some (.ref d), v4, v5, none] ∧ H' = H8) ⟨_, rfl, rfl⟩ ?_ ?_
          · rintro i σ H9 hi' ⟨v5, rfl, rfl⟩
            have eb : (1 : Int) + (i : Int) = ((1 + i : Nat) : Int) := by omega
            rw [eb]
            have kv := kn.at (b := 1 + i) (by omega) (by omega)
            walk_at "rd"
            refine ⟨d, _, rfl, DGet.k (k := Sum.inl ((1 + i : Nat) : Int)) hd8, ?_⟩
            rw [kv]
            walk_at "rd"
            rfl
          · rintro σ H9 ⟨v5, rfl, rfl⟩
            have s12 := s10.trans s11
            have sl : SqL K H9 l (ns.map V.int) := s12.seq (s8.seq (s7.seq (s6.seq (s5.seq (s4.seq (s1.seq hl))))))
            have ho : 1 + (mix (cellOf ns 2) 2 % 127).toNat < 128 := by omega
            have kv := kn.at (b := 1 + (mix (cellOf ns 2) 2 % 127).toNat) ho (by omega)
            have hlo := lg_lt ho
            walk_at "rd"
            refine ⟨_, ns, 2, by rfl, sl, ?_⟩
            walk_at "rd"
            intro _
            walk_at "rd"
            refine ⟨d, _, rfl, (by rw [← kv]; exact DGet.k (k := Sum.inl ((1 + (mix (cellOf ns 2) 2 % 127).toNat : Nat) : Int)) hd8), ?_⟩
            walk_at "rd"
            refine ⟨Alike.int, fun H10 s13 => ?_⟩
            walk_at "rd"
            intro _
            walk_at "rd"
            refine ⟨Alike.nat ?_, fun H11 s14 => ?_⟩
            · show fpow 2 (lg (1 + (mix (cellOf ns 2) 2 % 127).toNat)) = 1 + (mix (cellOf ns 2) 2 % 127).toNat
              rw [fpow_two hlo, pw_lg ho (by omega)]
            walk_at "rd"
            intro H12 s15
            exact q _

end
theorem all_mk {l : PySem.W.OpenLaw} {w : World} {K : PySem.W.Frag} {h : Heap} {mg : Str → Option Value} {fa : Addr} (X : K.In h) (G : h.Ns mainGlobals mg) (hfa : mg "law" = some (.ref fa))
    {f_power : Addr} {od_power an_power : Option Addr} {sl_power : Array (Option Value)} {oc_power kV_power dc_power pm_power cd_power ct_power : Value}
    {f_logarithm : Addr} {od_logarithm an_logarithm : Option Addr} {sl_logarithm : Array (Option Value)} {oc_logarithm kV_logarithm dc_logarithm pm_logarithm cd_logarithm ct_logarithm : Value}
    {f_law_cell : Addr} {od_law_cell an_law_cell : Option Addr} {sl_law_cell : Array (Option Value)} {oc_law_cell kV_law_cell dc_law_cell pm_law_cell cd_law_cell ct_law_cell : Value}
    {f_law_mix : Addr} {od_law_mix an_law_mix : Option Addr} {sl_law_mix : Array (Option Value)} {oc_law_mix kV_law_mix dc_law_mix pm_law_mix cd_law_mix ct_law_mix : Value}
    {f_law_alike : Addr} {od_law_alike an_law_alike : Option Addr} {sl_law_alike : Array (Option Value)} {oc_law_alike kV_law_alike dc_law_alike pm_law_alike cd_law_alike ct_law_alike : Value}
    {f_law_times : Addr} {od_law_times an_law_times : Option Addr} {sl_law_times : Array (Option Value)} {oc_law_times kV_law_times dc_law_times pm_law_times cd_law_times ct_law_times : Value}
    {f_law_row : Addr} {od_law_row an_law_row : Option Addr} {sl_law_row : Array (Option Value)} {oc_law_row kV_law_row dc_law_row pm_law_row cd_law_row ct_law_row : Value}
    {f_law_refused : Addr} {od_law_refused an_law_refused : Option Addr} {sl_law_refused : Array (Option Value)} {oc_law_refused kV_law_refused dc_law_refused pm_law_refused cd_law_refused ct_law_refused : Value}
    {f_law : Addr} {od_law an_law : Option Addr} {sl_law : Array (Option Value)} {oc_law kV_law dc_law pm_law cd_law ct_law : Value}
    {t_ORDER : Tok}
    {a_POWERS : Addr} {d_POWERS : Option Addr} {i_POWERS : Array Value} {n_POWERS : Nat} {s_POWERS : Array (Option Value)}
    {a_LOGARITHMS : Addr} {d_LOGARITHMS : Option Addr} {i_LOGARITHMS : Array Value} {n_LOGARITHMS : Nat} {s_LOGARITHMS : Array (Option Value)}
    {C_BadValue D_BadValue I_BadValue : Addr} {nm_BadValue q_BadValue : Str} {N_BadValue : Addr} {bs_BadValue : List Value} {sn_BadValue : List Str} {sub_BadValue : List Value} {ab_BadValue : Bool} {col_BadValue : Option Bool} {dd_BadValue : Option Addr} {m0_BadValue m1_BadValue m2_BadValue m3_BadValue m5_BadValue : Option Value} {od_BadValue an_BadValue : Option Addr} {sl_BadValue : Array (Option Value)} {oc_BadValue dc_BadValue pm_BadValue cd_BadValue ct_BadValue : Value} {p1_BadValue p2_BadValue q1_BadValue q2_BadValue q3_BadValue q4_BadValue : Pos}
    (a_power : PySem.W.nsIn K mainGlobals "power" = some (some (.ref f_power)))
    (l_power : K.lookup f_power = some ⟨oc_power, od_power, .func (PySem.W.fnOf "power" "power" (defArgs s_power) (defBody s_power) (defScope s_power) .none kV_power dc_power pm_power an_power cd_power ct_power), sl_power⟩)
    (c_power : PySem.W.codeIn K cd_power "power" = true)
    (k_power : PySem.W.keepIn K (.ref f_power) = true)
    (a_logarithm : PySem.W.nsIn K mainGlobals "logarithm" = some (some (.ref f_logarithm)))
    (l_logarithm : K.lookup f_logarithm = some ⟨oc_logarithm, od_logarithm, .func (PySem.W.fnOf "logarithm" "logarithm" (defArgs s_logarithm) (defBody s_logarithm) (defScope s_logarithm) .none kV_logarithm dc_logarithm pm_logarithm an_logarithm cd_logarithm ct_logarithm), sl_logarithm⟩)
    (c_logarithm : PySem.W.codeIn K cd_logarithm "logarithm" = true)
    (k_logarithm : PySem.W.keepIn K (.ref f_logarithm) = true)
    (a_law_cell : PySem.W.nsIn K mainGlobals "_law_cell" = some (some (.ref f_law_cell)))
    (l_law_cell : K.lookup f_law_cell = some ⟨oc_law_cell, od_law_cell, .func (PySem.W.fnOf "_law_cell" "_law_cell" (defArgs s_law_cell) (defBody s_law_cell) (defScope s_law_cell) .none kV_law_cell dc_law_cell pm_law_cell an_law_cell cd_law_cell ct_law_cell), sl_law_cell⟩)
    (c_law_cell : PySem.W.codeIn K cd_law_cell "_law_cell" = true)
    (k_law_cell : PySem.W.keepIn K (.ref f_law_cell) = true)
    (a_law_mix : PySem.W.nsIn K mainGlobals "_law_mix" = some (some (.ref f_law_mix)))
    (l_law_mix : K.lookup f_law_mix = some ⟨oc_law_mix, od_law_mix, .func (PySem.W.fnOf "_law_mix" "_law_mix" (defArgs s_law_mix) (defBody s_law_mix) (defScope s_law_mix) .none kV_law_mix dc_law_mix pm_law_mix an_law_mix cd_law_mix ct_law_mix), sl_law_mix⟩)
    (c_law_mix : PySem.W.codeIn K cd_law_mix "_law_mix" = true)
    (k_law_mix : PySem.W.keepIn K (.ref f_law_mix) = true)
    (a_law_alike : PySem.W.nsIn K mainGlobals "_law_alike" = some (some (.ref f_law_alike)))
    (l_law_alike : K.lookup f_law_alike = some ⟨oc_law_alike, od_law_alike, .func (PySem.W.fnOf "_law_alike" "_law_alike" (defArgs s_law_alike) (defBody s_law_alike) (defScope s_law_alike) .none kV_law_alike dc_law_alike pm_law_alike an_law_alike cd_law_alike ct_law_alike), sl_law_alike⟩)
    (c_law_alike : PySem.W.codeIn K cd_law_alike "_law_alike" = true)
    (k_law_alike : PySem.W.keepIn K (.ref f_law_alike) = true)
    (a_law_times : PySem.W.nsIn K mainGlobals "_law_times" = some (some (.ref f_law_times)))
    (l_law_times : K.lookup f_law_times = some ⟨oc_law_times, od_law_times, .func (PySem.W.fnOf "_law_times" "_law_times" (defArgs s_law_times) (defBody s_law_times) (defScope s_law_times) .none kV_law_times dc_law_times pm_law_times an_law_times cd_law_times ct_law_times), sl_law_times⟩)
    (c_law_times : PySem.W.codeIn K cd_law_times "_law_times" = true)
    (k_law_times : PySem.W.keepIn K (.ref f_law_times) = true)
    (a_law_row : PySem.W.nsIn K mainGlobals "_law_row" = some (some (.ref f_law_row)))
    (l_law_row : K.lookup f_law_row = some ⟨oc_law_row, od_law_row, .func (PySem.W.fnOf "_law_row" "_law_row" (defArgs s_law_row) (defBody s_law_row) (defScope s_law_row) .none kV_law_row dc_law_row pm_law_row an_law_row cd_law_row ct_law_row), sl_law_row⟩)
    (c_law_row : PySem.W.codeIn K cd_law_row "_law_row" = true)
    (k_law_row : PySem.W.keepIn K (.ref f_law_row) = true)
    (a_law_refused : PySem.W.nsIn K mainGlobals "_law_refused" = some (some (.ref f_law_refused)))
    (l_law_refused : K.lookup f_law_refused = some ⟨oc_law_refused, od_law_refused, .func (PySem.W.fnOf "_law_refused" "_law_refused" (defArgs s_law_refused) (defBody s_law_refused) (defScope s_law_refused) .none kV_law_refused dc_law_refused pm_law_refused an_law_refused cd_law_refused ct_law_refused), sl_law_refused⟩)
    (c_law_refused : PySem.W.codeIn K cd_law_refused "_law_refused" = true)
    (k_law_refused : PySem.W.keepIn K (.ref f_law_refused) = true)
    (a_law : PySem.W.nsIn K mainGlobals "law" = some (some (.ref f_law)))
    (l_law : K.lookup f_law = some ⟨oc_law, od_law, .func (PySem.W.fnOf "law" "law" (defArgs s_law) (defBody s_law) (defScope s_law) .none kV_law dc_law pm_law an_law cd_law ct_law), sl_law⟩)
    (c_law : PySem.W.codeIn K cd_law "law" = true)
    (k_law : PySem.W.keepIn K (.ref f_law) = true)
    (g_ORDER : PySem.W.nsIn K mainGlobals "ORDER" = some (some (.int 127 t_ORDER)))
    (g_POWERS : PySem.W.nsIn K mainGlobals "POWERS" = some (some (.ref a_POWERS)))
    (l_POWERS : K.lookup a_POWERS = some ⟨.type "tuple", d_POWERS, .seq i_POWERS n_POWERS, s_POWERS⟩)
    (v_POWERS : i_POWERS.toList.map absV = (rowV powL).map some)
    (z_POWERS : i_POWERS.toList.length ≤ 1000)
    (g_LOGARITHMS : PySem.W.nsIn K mainGlobals "LOGARITHMS" = some (some (.ref a_LOGARITHMS)))
    (l_LOGARITHMS : K.lookup a_LOGARITHMS = some ⟨.type "tuple", d_LOGARITHMS, .seq i_LOGARITHMS n_LOGARITHMS, s_LOGARITHMS⟩)
    (v_LOGARITHMS : i_LOGARITHMS.toList.map absV = (rowV lgL).map some)
    (z_LOGARITHMS : i_LOGARITHMS.toList.length ≤ 1000)
    (z_bool : PySem.W.nsIn K mainGlobals "bool" = some none)
    (z_int : PySem.W.nsIn K mainGlobals "int" = some none)
    (z_isinstance : PySem.W.nsIn K mainGlobals "isinstance" = some none)
    (z_len : PySem.W.nsIn K mainGlobals "len" = some none)
    (z_list : PySem.W.nsIn K mainGlobals "list" = some none)
    (z_min : PySem.W.nsIn K mainGlobals "min" = some none)
    (z_range : PySem.W.nsIn K mainGlobals "range" = some none)
    (z_str : PySem.W.nsIn K mainGlobals "str" = some none)
    (z_tuple : PySem.W.nsIn K mainGlobals "tuple" = some none)
    (g_BadValue : PySem.W.nsIn K mainGlobals "BadValue" = some (some (.ref C_BadValue)))
    (x_BadValue : K.lookup C_BadValue = some (excClassObj nm_BadValue q_BadValue C_BadValue N_BadValue bs_BadValue (.ref D_BadValue :: PySem.ESX.exTail) true sn_BadValue sub_BadValue ab_BadValue col_BadValue dd_BadValue m0_BadValue m1_BadValue m2_BadValue m3_BadValue m5_BadValue "Exception.__new__"))
    (sa_BadValue : PySem.W.findIn K (.ref C_BadValue) "__setattr__" = some (some (.builtin "object.__setattr__")))
    (ga_BadValue : PySem.W.findIn K (.ref C_BadValue) "__getattribute__" = some (some (.builtin "BaseException.__getattribute__")))
    (gg_BadValue : PySem.W.findIn K (.ref C_BadValue) "__getattr__" = some none)
    (nf_BadValue : PySem.W.findIn K (.ref C_BadValue) "at" = some none)
    (ii_BadValue : PySem.W.findIn K (.ref C_BadValue) "__init__" = some (some (.ref I_BadValue)))
    (tf_BadValue : PySem.W.typeIn K (.ref I_BadValue) = some (.type "function"))
    (lf_BadValue : K.lookup I_BadValue = some ⟨oc_BadValue, od_BadValue, .func (PySem.W.fnOf "__init__" "BadValue.__init__" (PySem.Mve.iA_at p1_BadValue p2_BadValue) (PySem.Mve.iB_at q1_BadValue q2_BadValue q3_BadValue q4_BadValue) PySem.Mve.iS_at .none .none dc_BadValue pm_BadValue an_BadValue cd_BadValue ct_BadValue), sl_BadValue⟩)
    (cf_BadValue : PySem.W.codeIn K cd_BadValue "BadValue.__init__" = true)
    (kc_BadValue : PySem.W.keepIn K (.ref C_BadValue) = true)
    (ec_BadValue : PySem.W.subIn K (.ref C_BadValue) (.type "BaseException") = some true)
    (tc_BadValue : PySem.W.typeIn K (.ref C_BadValue) = some (.type "type"))
    (hc_BadValue : PySem.W.hasDictIn K C_BadValue = true)
    (ic_BadValue : PySem.W.isClsIn K C_BadValue = true)
    (sc_BadValue : PySem.W.subIn K (.ref C_BadValue) (.ref C_BadValue) = some true) :
    ∃ fd : FuncData, (∀ (s : Shared) (v : Value), BindsTo s fd ⟨[v], []⟩ [("script", v)]) ∧ ∀ base : Heap, K.In base → base.Ns mainGlobals mg → FnOk l.prog w K mg base CX0 6 fa fd ["script"] (spLaw K) := by
  have e := hfa.symm.trans (PySem.W.mg_of X G a_law)
  cases e
  have T : Txt mg := ⟨PySem.W.mg_none_of X G z_bool, PySem.W.mg_none_of X G z_int, PySem.W.mg_none_of X G z_isinstance, PySem.W.mg_none_of X G z_len, PySem.W.mg_none_of X G z_list, PySem.W.mg_none_of X G z_min, PySem.W.mg_none_of X G z_range, PySem.W.mg_none_of X G z_str, PySem.W.mg_none_of X G z_tuple⟩
  have m_ORDER := PySem.W.mg_of X G g_ORDER
  have m_POWERS := PySem.W.mg_of X G g_POWERS
  have v_POWERS := tup_written l_POWERS v_POWERS z_POWERS
  have m_LOGARITHMS := PySem.W.mg_of X G g_LOGARITHMS
  have v_LOGARITHMS := tup_written l_LOGARITHMS v_LOGARITHMS z_LOGARITHMS
  have F_power := fun_mk (st := s_power) l_power c_power k_power
  have m_power := PySem.W.mg_of X G a_power
  have b_power := F_power.binds (ps := ["a", "n"]) fun _ _ _ _ _ _ us hl => match us, hl with | [_, _], _ => rfl
  have F_logarithm := fun_mk (st := s_logarithm) l_logarithm c_logarithm k_logarithm
  have m_logarithm := PySem.W.mg_of X G a_logarithm
  have b_logarithm := F_logarithm.binds (ps := ["a"]) fun _ _ _ _ _ _ us hl => match us, hl with | [_], _ => rfl
  have F_law_cell := fun_mk (st := s_law_cell) l_law_cell c_law_cell k_law_cell
  have m_law_cell := PySem.W.mg_of X G a_law_cell
  have b_law_cell := F_law_cell.binds (ps := ["script", "k"]) fun _ _ _ _ _ _ us hl => match us, hl with | [_, _], _ => rfl
  have F_law_mix := fun_mk (st := s_law_mix) l_law_mix c_law_mix k_law_mix
  have m_law_mix := PySem.W.mg_of X G a_law_mix
  have b_law_mix := F_law_mix.binds (ps := ["cell", "salt"]) fun _ _ _ _ _ _ us hl => match us, hl with | [_, _], _ => rfl
  have F_law_alike := fun_mk (st := s_law_alike) l_law_alike c_law_alike k_law_alike
  have m_law_alike := PySem.W.mg_of X G a_law_alike
  have b_law_alike := F_law_alike.binds (ps := ["told", "due"]) fun _ _ _ _ _ _ us hl => match us, hl with | [_, _], _ => rfl
  have F_law_times := fun_mk (st := s_law_times) l_law_times c_law_times k_law_times
  have m_law_times := PySem.W.mg_of X G a_law_times
  have b_law_times := F_law_times.binds (ps := ["a", "b"]) fun _ _ _ _ _ _ us hl => match us, hl with | [_, _], _ => rfl
  have F_law_row := fun_mk (st := s_law_row) l_law_row c_law_row k_law_row
  have m_law_row := PySem.W.mg_of X G a_law_row
  have b_law_row := F_law_row.binds (ps := ["a", "many"]) fun _ _ _ _ _ _ us hl => match us, hl with | [_, _], _ => rfl
  have F_law_refused := fun_mk (st := s_law_refused) l_law_refused c_law_refused k_law_refused
  have m_law_refused := PySem.W.mg_of X G a_law_refused
  have b_law_refused := F_law_refused.binds (ps := []) fun _ _ _ _ _ _ us hl => match us, hl with | [], _ => rfl
  have F_law := fun_mk (st := s_law) l_law c_law k_law
  have m_law := PySem.W.mg_of X G a_law
  have b_law := F_law.binds (ps := ["script"]) fun _ _ _ _ _ _ us hl => match us, hl with | [_], _ => rfl
  have E_BadValue : EAt "BadValue" "BadValue.__init__" K mg C_BadValue D_BadValue I_BadValue := { gC := PySem.W.mg_of X G g_BadValue, cls := ⟨nm_BadValue, q_BadValue, N_BadValue, bs_BadValue, sn_BadValue, sub_BadValue, ab_BadValue, col_BadValue, dd_BadValue, m0_BadValue, m1_BadValue, m2_BadValue, m3_BadValue, m5_BadValue, x_BadValue⟩, sa := sa_BadValue, ga := ga_BadValue, gg := gg_BadValue, noN := nf_BadValue, iC := ii_BadValue, tC := tf_BadValue, kC := kc_BadValue, exC := ec_BadValue, tyC := tc_BadValue, hdC := hc_BadValue, te := exm_own ec_BadValue ic_BadValue tc_BadValue sc_BadValue, fn := ⟨_, _, _, _, _, _, _, _, _, _, _, _, _, _, lf_BadValue, cf_BadValue⟩ }
  refine ⟨PySem.W.fnOf "law" "law" (defArgs s_law) (defBody s_law) (defScope s_law) .none kV_law dc_law pm_law an_law cd_law ct_law, fun s v => .of_eq rfl, fun base _ _ => ?_⟩
  have B : Tabs K mg powL lgL := ⟨⟨_, m_POWERS, v_POWERS⟩, ⟨_, m_LOGARITHMS, v_LOGARITHMS⟩, ⟨_, m_ORDER⟩⟩
  have c_alike0 := called (P := l.prog) (w := w) (base := base) F_law_alike m_law_alike b_law_alike (spA_no (K := K))
  have c_alike1 := called F_law_alike m_law_alike b_law_alike (ok_alike F_law_alike T c_alike0)
  have c_alike2 := called F_law_alike m_law_alike b_law_alike (ok_alike F_law_alike T c_alike1)
  have h_alike0 := calledH (P := l.prog) (w := w) (K := K) (base := base) F_law_alike m_law_alike b_law_alike fnH_no
  have h_alike1 := calledH F_law_alike m_law_alike b_law_alike (ok_alikeH F_law_alike T h_alike0)
  have kb1 : KBinds K _ ["a"] ["a"] gSame gSame := kb_same F_logarithm (fun h => nomatch h) fun _ _ _ _ _ _ us hl => match us, hl with | [_], _ => rfl
  have kb2 : KBinds K _ ["a", "n"] ["n", "a"] gSwap gSwap := kb_swap F_power fun _ _ _ _ _ _ _ _ => rfl
  have t1 := called (P := l.prog) (w := w) (base := base) F_law_times m_law_times b_law_times (ok_ltimes (k := 0) F_law_times T)
  have lg0 := called (P := l.prog) (w := w) (base := base) F_logarithm m_logarithm b_logarithm (ok_logarithm (k := 0) F_logarithm B E_BadValue)
  exact ok_law (k := 5) F_law T (called F_law_cell m_law_cell b_law_cell (ok_cell F_law_cell T)) (called F_law_mix m_law_mix b_law_mix (ok_mix F_law_mix T))
    (c_alike1.mono (by decide)) (called F_law_row m_law_row b_law_row (ok_row F_law_row T (t1.mono (by decide)))) (called F_law_refused m_law_refused b_law_refused ((ok_refused (k := 1) F_law_refused E_BadValue lg0 h_alike1).mono (by decide)))
    (called F_power m_power b_power (ok_power F_power B)) (lg0.mono (by decide))
    (calledK F_power m_power kb2 (ok_power F_power B)) (calledK F_logarithm m_logarithm kb1 (ok_logarithm F_logarithm B E_BadValue))
end K03
open PySem PySem.W PyProof.Rows
set_option maxRecDepth 100000 in
set_option maxHeartbeats 0 in
theorem PySem.Challenge.cw_mendvault_k03_powers_and_logarithms_holds : PySem.Challenge.rw_mendvault_k03_powers_and_logarithms.Holds := by
  w_on; o_law; k_head; (case hw => w_witness2)
  k_fill
  refine L2.walk_of (l := PySem.Challenge.rw_mendvault_k03_powers_and_logarithms) (n := 63) (k := 6) (x := "script") (CX := fun _ => L2.CX0) (sp := fun w => MV.spLaw _) rfl (by decide) rfl ⟨rfl, by decide, by decide⟩ (fun w h Y => PySem.W.kIn_of Y) ?F (fun _ _ a ns hl _ hS => ⟨a, ns, rfl, hS, hl, fun _ => rfl⟩) (fun _ _ _ _ _ h => h)
  case F =>
    intro w mg fa h KX G hmg
    refine' K03.all_mk KX G hmg ?a_power ?l_power ?c_power ?k_power ?a_logarithm ?l_logarithm ?c_logarithm ?k_logarithm ?a_law_cell ?l_law_cell ?c_law_cell ?k_law_cell ?a_law_mix ?l_law_mix ?c_law_mix ?k_law_mix ?a_law_alike ?l_law_alike ?c_law_alike ?k_law_alike ?a_law_times ?l_law_times ?c_law_times ?k_law_times ?a_law_row ?l_law_row ?c_law_row ?k_law_row ?a_law_refused ?l_law_refused ?c_law_refused ?k_law_refused ?a_law ?l_law ?c_law ?k_law ?g_ORDER ?g_POWERS ?l_POWERS ?v_POWERS ?z_POWERS ?g_LOGARITHMS ?l_LOGARITHMS ?v_LOGARITHMS ?z_LOGARITHMS ?z_bool ?z_int ?z_isinstance ?z_len ?z_list ?z_min ?z_range ?z_str ?z_tuple ?g_BadValue ?x_BadValue ?sa_BadValue ?ga_BadValue ?gg_BadValue ?nf_BadValue ?ii_BadValue ?tf_BadValue ?lf_BadValue ?cf_BadValue ?kc_BadValue ?ec_BadValue ?tc_BadValue ?hc_BadValue ?ic_BadValue ?sc_BadValue
    (case a_power => k_is)
    (case l_power => k_is)
    (case c_power => k_is)
    (case k_power => k_is)
    (case a_logarithm => k_is)
    (case l_logarithm => k_is)
    (case c_logarithm => k_is)
    (case k_logarithm => k_is)
    (case a_law_cell => k_is)
    (case l_law_cell => k_is)
    (case c_law_cell => k_is)
    (case k_law_cell => k_is)
    (case a_law_mix => k_is)
    (case l_law_mix => k_is)
    (case c_law_mix => k_is)
    (case k_law_mix => k_is)
    (case a_law_alike => k_is)
    (case l_law_alike => k_is)
    (case c_law_alike => k_is)
    (case k_law_alike => k_is)
    (case a_law_times => k_is)
    (case l_law_times => k_is)
    (case c_law_times => k_is)
    (case k_law_times => k_is)
    (case a_law_row => k_is)
    (case l_law_row => k_is)
    (case c_law_row => k_is)
    (case k_law_row => k_is)
    (case a_law_refused => k_is)
    (case l_law_refused => k_is)
    (case c_law_refused => k_is)
    (case k_law_refused => k_is)
    (case a_law => k_is)
    (case l_law => k_is)
    (case c_law => k_is)
    (case k_law => k_is)
    (case g_ORDER => k_is)
    (case g_POWERS => k_is)
    (case l_POWERS => k_is)
    (case v_POWERS => first | rfl | kernel_rfl)
    (case z_POWERS => first | decide | (exact Nat.le_of_ble_eq_true rfl))
    (case g_LOGARITHMS => k_is)
    (case l_LOGARITHMS => k_is)
    (case v_LOGARITHMS => first | rfl | kernel_rfl)
    (case z_LOGARITHMS => first | decide | (exact Nat.le_of_ble_eq_true rfl))
    (case z_bool => k_is)
    (case z_int => k_is)
    (case z_isinstance => k_is)
    (case z_len => k_is)
    (case z_list => k_is)
    (case z_min => k_is)
    (case z_range => k_is)
    (case z_str => k_is)
    (case z_tuple => k_is)
    (case g_BadValue => k_is)
    (case x_BadValue => k_is)
    (case sa_BadValue => k_is)
    (case ga_BadValue => k_is)
    (case gg_BadValue => k_is)
    (case nf_BadValue => k_is)
    (case ii_BadValue => k_is)
    (case tf_BadValue => k_is)
    (case lf_BadValue => k_is)
    (case cf_BadValue => k_is)
    (case kc_BadValue => k_is)
    (case ec_BadValue => k_is)
    (case tc_BadValue => k_is)
    (case hc_BadValue => k_is)
    (case ic_BadValue => k_is)
    (case sc_BadValue => first | rfl | k_is)

