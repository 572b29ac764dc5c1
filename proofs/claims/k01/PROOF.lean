import PyProof.Rows.All
import Wide.All
import OpenK.AllK
import Wide.FinOn
import HandS.ForMost
import HandS.IsInst
import HandS.MakeKwOnly
import HandS.Rev
import HandS.RevRange
import HandS.Zip
import HandS.Defaults
import HandS.More
import PySem.Challenge.RW_mendvault_k01_sums_and_products
set_option Elab.async false
set_option linter.all false
set_option maxRecDepth 100000
set_option maxHeartbeats 4000000
/-! Own mathematics: the field of 128 elements over Nat, by tables packed into numbers. -/
namespace MV
def powN : Nat := 179343145154286468999787348634966713635650659649736789414148021345911460223011165278843182007619610859593311888318488159128904538903604560337988443507032135323526942362685217139502154598999203791264386173164389839521109337246772858340806352412195616840658205728602791057560876167481289674224934752276972033
def lgN : Nat := 85299566321267760859882959404293287561914986092030414439102485899448894882442126012717921087539931761252616783538567363632140652556524324457790506479341977747011430397942856861852895404352684004849115400841281323173832260191922844437182647048573120541323249961997723919153927873044867097585891997657669369856
def powL : List Nat := [1, 2, 4, 8, 16, 32, 64, 3, 6, 12, 24, 48, 96, 67, 5, 10, 20, 40, 80, 35, 70, 15, 30, 60, 120, 115, 101, 73, 17, 34, 68, 11, 22, 44, 88, 51, 102, 79, 29, 58, 116, 107, 85, 41, 82, 39, 78, 31, 62, 124, 123, 117, 105, 81, 33, 66, 7, 14, 28, 56, 112, 99, 69, 9, 18, 36, 72, 19, 38, 76, 27, 54, 108, 91, 53, 106, 87, 45, 90, 55, 110, 95, 61, 122, 119, 109, 89, 49, 98, 71, 13, 26, 52, 104, 83, 37, 74, 23, 46, 92, 59, 118, 111, 93, 57, 114, 103, 77, 25, 50, 100, 75, 21, 42, 84, 43, 86, 47, 94, 63, 126, 127, 125, 121, 113, 97, 65]
def lgL : List Nat := [0, 0, 1, 7, 2, 14, 8, 56, 3, 63, 15, 31, 9, 90, 57, 21, 4, 28, 64, 67, 16, 112, 32, 97, 10, 108, 91, 70, 58, 38, 22, 47, 5, 54, 29, 19, 65, 95, 68, 45, 17, 43, 113, 115, 33, 77, 98, 117, 11, 87, 109, 35, 92, 74, 71, 79, 59, 104, 39, 100, 23, 82, 48, 119, 6, 126, 55, 13, 30, 62, 20, 89, 66, 27, 96, 111, 69, 107, 46, 37, 18, 53, 44, 94, 114, 42, 116, 76, 34, 86, 78, 73, 99, 103, 118, 81, 12, 125, 88, 61, 110, 26, 36, 106, 93, 52, 75, 41, 72, 85, 80, 102, 60, 124, 105, 25, 40, 51, 101, 84, 24, 123, 83, 50, 49, 122, 120, 121]
/-- 2 to the i-th -/
def pw (i : Nat) : Nat := (powN >>> (8 * i)) % 256
/-- the logarithm -/
def lg (a : Nat) : Nat := (lgN >>> (8 * a)) % 256
def mul (a b : Nat) : Nat := if a = 0 then 0 else if b = 0 then 0 else pw ((lg a + lg b) % 127)
def inv (a : Nat) : Nat := pw ((127 - lg a) % 127)
def allN (n : Nat) (f : Nat → Bool) : Bool := (List.range n).all f
theorem allN_of {n : Nat} {f : Nat → Bool} (h : allN n f = true) {i : Nat} (hi : i < n) : f i = true := by
  unfold allN at h
  exact List.all_eq_true.mp h i (List.mem_range.mpr hi)

theorem powL_get {i : Nat} (h : i < 127) : powL[i]? = some (pw i) := by
  have q := allN_of (n := 127) (f := fun i => powL[i]? == some (pw i)) (by decide +kernel) h
  exact eq_of_beq q
theorem lgL_get {i : Nat} (h : i < 128) : lgL[i]? = some (lg i) := by
  have q := allN_of (n := 128) (f := fun i => lgL[i]? == some (lg i)) (by decide +kernel) h
  exact eq_of_beq q
theorem pw_ok {i : Nat} (h : i < 127) : pw i < 128 ∧ pw i ≠ 0 ∧ lg (pw i) = i := by
  have q := allN_of (n := 127) (f := fun i => decide (pw i < 128 ∧ pw i ≠ 0 ∧ lg (pw i) = i)) (by decide +kernel) h
  exact of_decide_eq_true q
theorem lg_ok {a : Nat} (h : a < 128) : lg a < 127 ∧ (a ≠ 0 → pw (lg a) = a) := by
  have q := allN_of (n := 128) (f := fun a => decide (lg a < 127 ∧ (a ≠ 0 → pw (lg a) = a))) (by decide +kernel) h
  exact of_decide_eq_true q
theorem pw_lg {a : Nat} (h : a < 128) (h0 : a ≠ 0) : pw (lg a) = a := (lg_ok h).2 h0
theorem lg_lt {a : Nat} (h : a < 128) : lg a < 127 := (lg_ok h).1
theorem pw_inj {i j : Nat} (hi : i < 127) (hj : j < 127) (e : pw i = pw j) : i = j := by
  rw [← (pw_ok hi).2.2, ← (pw_ok hj).2.2, e]
theorem mul_zero_left (b : Nat) : mul 0 b = 0 := by unfold mul; simp
theorem mul_zero_right (a : Nat) : mul a 0 = 0 := by unfold mul; simp
theorem mul_nz {a b : Nat} (ha : a ≠ 0) (hb : b ≠ 0) : mul a b = pw ((lg a + lg b) % 127) := by unfold mul; simp [ha, hb]
theorem mul_lt (a b : Nat) : mul a b < 128 := by
  unfold mul
  by_cases ha : a = 0
  · simp [ha]
  · by_cases hb : b = 0
    · simp [hb]
    · simp only [ha, hb, if_false]
      exact (pw_ok (Nat.mod_lt _ (by decide))).1
theorem mul_ne_zero {a b : Nat} (ha : a ≠ 0) (hb : b ≠ 0) : mul a b ≠ 0 := by
  rw [mul_nz ha hb]
  exact (pw_ok (Nat.mod_lt _ (by decide))).2.1
theorem mul_comm (a b : Nat) : mul a b = mul b a := by
  by_cases ha : a = 0
  · subst ha; rw [mul_zero_left, mul_zero_right]
  · by_cases hb : b = 0
    · subst hb; rw [mul_zero_left, mul_zero_right]
    · rw [mul_nz ha hb, mul_nz hb ha, Nat.add_comm]
theorem lg_mul {a b : Nat} (ha : a ≠ 0) (hb : b ≠ 0) : lg (mul a b) = (lg a + lg b) % 127 := by
  rw [mul_nz ha hb]
  exact (pw_ok (Nat.mod_lt _ (by decide))).2.2
theorem mul_assoc (a b c : Nat) : mul (mul a b) c = mul a (mul b c) := by
  by_cases ha : a = 0
  · subst ha; simp only [mul_zero_left]
  · by_cases hb : b = 0
    · subst hb; simp only [mul_zero_left, mul_zero_right]
    · by_cases hc : c = 0
      · subst hc; simp only [mul_zero_right]
      · rw [mul_nz (mul_ne_zero ha hb) hc, mul_nz ha (mul_ne_zero hb hc), lg_mul ha hb, lg_mul hb hc]
        congr 1
        omega
theorem mul_one {a : Nat} (h : a < 128) : mul a 1 = a := by
  have q := allN_of (n := 128) (f := fun a => mul a 1 == a) (by decide +kernel) h
  exact eq_of_beq q
theorem one_mul {a : Nat} (h : a < 128) : mul 1 a = a := by rw [mul_comm, mul_one h]
theorem inv_ok {a : Nat} (h : a < 128) (h0 : a ≠ 0) : mul a (inv a) = 1 ∧ inv a < 128 ∧ inv a ≠ 0 := by
  have q := allN_of (n := 128) (f := fun a => decide (a ≠ 0 → mul a (inv a) = 1 ∧ inv a < 128 ∧ inv a ≠ 0)) (by decide +kernel) h
  exact of_decide_eq_true q h0
/-! sums -/
theorem xor_lt {a b : Nat} (ha : a < 128) (hb : b < 128) : a ^^^ b < 128 := Nat.xor_lt_two_pow (n := 7) ha hb
/-- the multiple of c that the bits of a tell -/
def lin (c a : Nat) : Nat :=
  (cond (a.testBit 0) (mul c 1) 0) ^^^ (cond (a.testBit 1) (mul c 2) 0) ^^^ (cond (a.testBit 2) (mul c 4) 0) ^^^ (cond (a.testBit 3) (mul c 8) 0) ^^^
  (cond (a.testBit 4) (mul c 16) 0) ^^^ (cond (a.testBit 5) (mul c 32) 0) ^^^ (cond (a.testBit 6) (mul c 64) 0)
theorem all2_of {f : Nat → Nat → Bool} (h : allN 128 (fun a => allN 128 (f a)) = true) {a b : Nat} (ha : a < 128) (hb : b < 128) : f a b = true :=
  allN_of (allN_of h ha) hb
theorem mul_lin {c a : Nat} (hc : c < 128) (ha : a < 128) : mul c a = lin c a := by
  have q := all2_of (f := fun c a => mul c a == lin c a) (by decide +kernel) hc ha
  exact eq_of_beq q
theorem cond_xor (p q : Bool) (m : Nat) : cond (p ^^ q) m 0 = cond p m 0 ^^^ cond q m 0 := by
  cases p <;> cases q <;> simp
theorem lin_xor (c a b : Nat) : lin c (a ^^^ b) = lin c a ^^^ lin c b := by
  unfold lin
  simp only [Nat.testBit_xor, cond_xor]
  ac_rfl
theorem mul_xor {c a b : Nat} (hc : c < 128) (ha : a < 128) (hb : b < 128) : mul c (a ^^^ b) = mul c a ^^^ mul c b := by
  rw [mul_lin hc (xor_lt ha hb), mul_lin hc ha, mul_lin hc hb, lin_xor]
theorem xor_mul {c a b : Nat} (hc : c < 128) (ha : a < 128) (hb : b < 128) : mul (a ^^^ b) c = mul a c ^^^ mul b c := by
  rw [mul_comm, mul_xor hc ha hb, mul_comm c a, mul_comm c b]
/-! the reckoning bit by bit -/
def ltStep (s : Nat × Nat × Nat) : Nat × Nat × Nat :=
  (cond (s.2.1 % 2 == 1) (s.1 ^^^ s.2.2) s.1, s.2.1 / 2, cond (Nat.ble 128 (2 * s.2.2)) ((2 * s.2.2) ^^^ 131) (2 * s.2.2))
def ltRun : Nat → Nat × Nat × Nat → Nat × Nat × Nat
  | 0, s => s
  | n + 1, s => ltStep (ltRun n s)
def ltimes (a b : Nat) : Nat := (ltRun 7 (0, b, a)).1
theorem ltimes_mul {a b : Nat} (ha : a < 128) (hb : b < 128) : ltimes a b = mul a b := by
  have q := all2_of (f := fun a b => ltimes a b == mul a b) (by decide +kernel) ha hb
  exact eq_of_beq q
theorem ltRun_lt {b a : Nat} (ha : a < 128) (n : Nat) : (ltRun n (0, b, a)).2.2 < 128 ∧ (ltRun n (0, b, a)).1 < 128 := by
  induction n with
  | zero => exact ⟨ha, by show 0 < 128; decide⟩
  | succ n ih =>
    obtain ⟨h1, h2⟩ := ih
    show (ltStep _).2.2 < 128 ∧ (ltStep _).1 < 128
    generalize ltRun n (0, b, a) = s at h1 h2 ⊢
    unfold ltStep
    refine ⟨?_, ?_⟩
    · cases e : Nat.ble 128 (2 * s.2.2) with
      | true =>
        have q := allN_of (n := 128) (f := fun x => decide (128 ≤ 2 * x → (2 * x) ^^^ 131 < 128)) (by decide +kernel) h1
        exact of_decide_eq_true q (Nat.le_of_ble_eq_true e)
      | false =>
        show 2 * s.2.2 < 128
        have := Nat.not_le_of_not_ble_eq_true (by rw [e]; decide : ¬ Nat.ble 128 (2 * s.2.2) = true)
        omega
    · cases s.2.1 % 2 == 1 with
      | true => exact xor_lt h2 h1
      | false => exact h2
/-- added, weight by weight -/
def laStep (a b : Nat) (t w : Nat) : Nat := t + (a / w + b / w) % 2 * w
def ladd (a b : Nat) : Nat := [1, 2, 4, 8, 16, 32, 64].foldl (laStep a b) 0
theorem ladd_xor {a b : Nat} (ha : a < 128) (hb : b < 128) : ladd a b = a ^^^ b := by
  have q := all2_of (f := fun a b => ladd a b == a ^^^ b) (by decide +kernel) ha hb
  exact eq_of_beq q
end MV

set_option Elab.async false
set_option linter.all false
set_option maxRecDepth 100000
set_option maxHeartbeats 4000000
/-! Own words over the hand layer: calls of own defs, what stays, what is alike. -/
namespace MV
open PySem PySem.Spec PyProof.Rows L2

/-- a def of the text, by its name, and its promise -/
structure Called (P : Program) (w : World) (K : PySem.W.Frag) (mg : Str → Option Value) (base : Heap) (CX : CXT) (x : Str) (k : Nat) (ps : List Str) (sp : Sp) : Prop where
  ex : ∃ (f : Addr) (fd : FuncData), FnOk P w K mg base CX k f fd ps sp ∧ mg x = some (.ref f) ∧ PySem.W.keepIn K (.ref f) = true ∧ Binds K fd ps []
/-- how a call by keywords alone binds -/
def KPerm (K : PySem.W.Frag) (mg : Str → Option Value) (x : Str) (ps ks : List Str) (g : List Value → List Value → List Value) (gV : List V → List V → List V) : Prop :=
  ∀ (f : Addr), mg x = some (.ref f) → ∃ fd : FuncData, (∀ (P : Program) (w : World) (base : Heap) (CX : CXT) (k : Nat) (sp : Sp) (fd' : FuncData), True) ∧ KBinds K fd ps ks g gV
section
variable {P : Program} {w : World} {K : PySem.W.Frag} {mg : Str → Option Value} {base : Heap} {CX : CXT}
theorem Called.mono {x : Str} {j k : Nat} {ps : List Str} {sp : Sp} (c : Called P w K mg base CX x j ps sp) (h : j ≤ k) : Called P w K mg base CX x k ps sp := by
  obtain ⟨f, fd, F, m, kp, b⟩ := c.ex
  exact ⟨f, fd, F.mono h, m, kp, b⟩
end
/-- the same, called by keywords alone: ks their names -/
structure CalledK (P : Program) (w : World) (K : PySem.W.Frag) (mg : Str → Option Value) (base : Heap) (CX : CXT) (x : Str) (k : Nat) (ps ks : List Str) (gV : List V → List V → List V) (sp : Sp) : Prop where
  ex : ∃ (f : Addr) (fd : FuncData) (g : List Value → List Value → List Value), FnOk P w K mg base CX k f fd ps sp ∧ mg x = some (.ref f) ∧ PySem.W.keepIn K (.ref f) = true ∧ KBinds K fd ps ks g gV
section
variable {X : Cx} {CX : CXT} {k : Nat} {ps ks : List Str} {sp : Sp} {E : XK} {x : Str} {p pos : Pos} {e : Expr} {es : List Expr} {kws : List Keyword} {t tk : TA} {gV : List V → List V → List V}
theorem pe_own (C : Called X.prog X.w X.K X.mg X.base CX x k ps sp) (hr : Room k X.A) (hg : Gl X x) (hx : Passes CX X E)
    (ha : PA X (e :: es) t) (hdb : (x == ("__debug__" : Str)) = false := by decide) (he : starEach (e :: es) X.env = (false, eval e X.env) :: starEach es X.env := by rfl) (hpl : (backTo pos (starEach es X.env)).any (·.1) = false := by rfl) :
    PE X (.Call (.Name x p) (e :: es) [] pos) (tCall sp [] E t) := by
  obtain ⟨f, fd, F, m, kp, b⟩ := C.ex
  exact pe_call F hr hg m kp b .nil hx ha hdb he hpl
theorem pe_own0 (C : Called X.prog X.w X.K X.mg X.base CX x k ps sp) (hr : Room k X.A) (hg : Gl X x) (hx : Passes CX X E)
    (hdb : (x == ("__debug__" : Str)) = false := by decide) : PE X (.Call (.Name x p) [] [] pos) (tCall sp [] E tNil) := by
  obtain ⟨f, fd, F, m, kp, b⟩ := C.ex
  exact pe_call0 F hr hg m kp b .nil hx hdb
/-- f(k = v, ..) -/
theorem pe_ownK (C : CalledK X.prog X.w X.K X.mg X.base CX x k ps ks gV sp) (hr : Room k X.A) (hg : Gl X x) (hx : Passes CX X E) (hkw : PK X kws tk)
    (hall : (backToKw pos (keywordEach kws X.env)).all (·.1.isSome) = true := by rfl) (hks : (backToKw pos (keywordEach kws X.env)).filterMap (·.1) = ks := by rfl) (hdb : (x == ("__debug__" : Str)) = false := by decide)
    (hpl : ((backTo pos (starEach [] X.env)).any (·.1) || (backToKw pos (keywordEach kws X.env)).any (·.1.isNone)) = false := by rfl) :
    PE X (.Call (.Name x p) [] kws pos) (tCallK sp gV E tNil tk) := by
  obtain ⟨f, fd, g, F, hm, hk, hb⟩ := C.ex
  refine ⟨fun pins s σ H Q I h => ?_⟩
  refine wpAny_Call_Name_kw (ld_glob I hg hm ?_ hdb)
  refine PySem.W.callWith_KW0 (h₀ := X.base) I.ok.mod.kin hk hall ?_ hpl
  refine thn (hkw.run pos pins s σ H _ I h) fun ws s2 ⟨zs, H2, I2, rz, q2⟩ => ⟨I2.kIn, ?_⟩
  rw [hks]
  exact run_fnk (us := []) (vs := []) F hr hb hx I2 .nil rz q2
/-- f(e, .., k = v, ..) -/
theorem pe_ownKA (C : CalledK X.prog X.w X.K X.mg X.base CX x k ps ks gV sp) (hr : Room k X.A) (hg : Gl X x) (hx : Passes CX X E) (ha : PA X (e :: es) t) (hkw : PK X kws tk)
    (hall : (backToKw pos (keywordEach kws X.env)).all (·.1.isSome) = true := by rfl) (hks : (backToKw pos (keywordEach kws X.env)).filterMap (·.1) = ks := by rfl)
    (hdb : (x == ("__debug__" : Str)) = false := by decide) (he : starEach (e :: es) X.env = (false, eval e X.env) :: starEach es X.env := by rfl)
    (hpl : ((backTo pos (starEach (e :: es) X.env)).any (·.1) || (backToKw pos (keywordEach kws X.env)).any (·.1.isNone)) = false := by rfl) :
    PE X (.Call (.Name x p) (e :: es) kws pos) (tCallK sp gV E t tk) := by
  obtain ⟨f, fd, g, F, hm, hk, hb⟩ := C.ex
  exact pe_callK F hr hg hm hk hb hx ha hkw hall hks hdb he hpl
end
/-! ### what stays -/
theorem same_new {H : Hp} {p : Addr} (h : H p = none) (o : HO) : Same H (upd H p o) := fun b u q => by rw [upd_ne (ne_of_none q h)]; exact q
theorem same_tup {K : PySem.W.Frag} {H H' : Hp} {a : Addr} {xs : List V} (e : Same H H') (h : SqT K H a xs) : SqT K H' a xs := by
  rcases h with (h | ⟨o, h⟩) | h
  · exact .inl (.inl (e _ _ h))
  · exact .inl (.inr ⟨o, e _ _ h⟩)
  · exact .inr h
theorem same_lst {H H' : Hp} {a : Addr} {o : HO} (e : Same H H') (h : H a = some o) : H' a = some o := e _ _ h
/-- an object that H doesn't know may change -/
theorem same_mut {H H' : Hp} {p : Addr} {o : HO} (e : Same H H') (h : H p = none) : Same H (upd H' p o) := fun a u ha => by
  rw [upd_ne (ne_of_none ha h)]
  exact e a u ha
/-! ### types -/
theorem ty_tup {K : PySem.W.Frag} {H : Hp} {a : Addr} {xs : List V} (h : SqT K H a xs) : TyX K H (.ref a) (.type "tuple") := by
  rcases h with (h | ⟨o, h⟩) | ⟨o, its, n, hk, hc, _⟩
  · exact .base (.tup h)
  · exact .fTuple h
  · exact .kTuple hk hc
theorem ty_lst {K : PySem.W.Frag} {H : Hp} {a : Addr} {xs : List V} (h : SqL K H a xs) : TyX K H (.ref a) (.type "list") := by
  rcases h with (h | ⟨o, h⟩) | ⟨o, its, n, hk, hc, _⟩
  · exact .base (.lst h)
  · exact .base (.frz h)
  · exact .kList hk hc
theorem ty_int {K : PySem.W.Frag} {H : Hp} {i : Int} : TyX K H (.int i) (.type "int") := .base (.int i)
theorem ty_bl {K : PySem.W.Frag} {H : Hp} {i : Bool} : TyX K H (.bl i) (.type "bool") := .base (.bl i)
theorem ty_str {K : PySem.W.Frag} {H : Hp} {i : Str} : TyX K H (.str i) (.type "str") := .base (.str i)
theorem ty_non {K : PySem.W.Frag} {H : Hp} : TyX K H .non (.type "NoneType") := .base .non
/-! ### what is alike, to a depth -/
def Scal (x y : V) : Prop := x = y ∧ (x = .non ∨ (∃ b, x = .bl b) ∨ (∃ i, x = .int i) ∨ ∃ s, x = .str s)
/-- the same int, text, bool or None; or tuples, or lists, of alike items -/
inductive Alike (K : PySem.W.Frag) : Nat → Hp → V → V → Prop where
  | scal {n : Nat} {H : Hp} {x y : V} (h : Scal x y) : Alike K n H x y
  | seq {n : Nat} {H : Hp} {p q : Addr} {xs ys : List V} (hs : (SqT K H p xs ∧ SqT K H q ys) ∨ (SqL K H p xs ∧ SqL K H q ys)) (hl : xs.length = ys.length) (hz : xs.length ≤ 100000)
    (hi : ∀ (i : Nat) (x' y' : V), xs[i]? = some x' → ys[i]? = some y' → Alike K n H x' y') : Alike K (n + 1) H (.ref p) (.ref q)
theorem alike_zero {K : PySem.W.Frag} {H : Hp} {x y : V} (h : Alike K 0 H x y) : Scal x y := by
  cases h with
  | scal h => exact h
theorem alike_succ {K : PySem.W.Frag} {n : Nat} {H : Hp} {x y : V} (h : Alike K (n + 1) H x y) : Scal x y ∨
      ∃ p q xs ys, x = .ref p ∧ y = .ref q ∧ ((SqT K H p xs ∧ SqT K H q ys) ∨ (SqL K H p xs ∧ SqL K H q ys)) ∧ xs.length = ys.length ∧ xs.length ≤ 100000 ∧ ∀ (i : Nat) (x' y' : V), xs[i]? = some x' → ys[i]? = some y' → Alike K n H x' y' := by
  cases h with
  | scal h => exact .inl h
  | seq hs hl hz hi => exact .inr ⟨_, _, _, _, rfl, rfl, hs, hl, hz, hi⟩
theorem Alike.same {K : PySem.W.Frag} : ∀ {n : Nat} {H H' : Hp} {x y : V}, Same H H' → Alike K n H x y → Alike K n H' x y
  | 0, _, _, _, _, _, h => .scal (alike_zero h)
  | n + 1, H, H', x, y, e, h => by
    rcases alike_succ h with h | ⟨p, q, xs, ys, hx, hy, hs, hl, hz, hi⟩
    · exact Alike.scal h
    · subst hx hy
      refine Alike.seq ?_ hl hz fun i x' y' a b => (hi i x' y' a b).same e
      rcases hs with ⟨a, b⟩ | ⟨a, b⟩
      · exact .inl ⟨same_tup e a, same_tup e b⟩
      · exact .inr ⟨e.seq a, e.seq b⟩
theorem Alike.int {K : PySem.W.Frag} {H : Hp} {i : Int} {n : Nat} : Alike K n H (.int i) (.int i) := Alike.scal ⟨rfl, .inr (.inr (.inl ⟨i, rfl⟩))⟩
theorem Alike.str {K : PySem.W.Frag} {H : Hp} {i : Str} {n : Nat} : Alike K n H (.str i) (.str i) := Alike.scal ⟨rfl, .inr (.inr (.inr ⟨i, rfl⟩))⟩
theorem Alike.ints {α : Type} {K : PySem.W.Frag} {H : Hp} {n : Nat} {f : α → V} {l : List α} (hf : ∀ a, ∃ i, f a = .int i) {i : Nat} {x y : V} (a : (l.map f)[i]? = some x) (b : (l.map f)[i]? = some y) : Alike K n H x y := by
  have e : x = y := Option.some.inj (a.symm.trans b)
  subst e
  rw [List.getElem?_map] at a
  cases h : l[i]? with
  | none => rw [h] at a; cases a
  | some u =>
    rw [h] at a
    obtain ⟨j, hj⟩ := hf u
    have e : x = .int j := (Option.some.inj a).symm.trans hj
    rw [e]
    exact Alike.int
/-- a row as a value -/
abbrev rowV (l : List Nat) : List V := l.map fun (n : Nat) => V.int (n : Int)
theorem Alike.rowT {K : PySem.W.Frag} {H : Hp} {n : Nat} {p q : Addr} {l : List Nat} (a : SqT K H p (rowV l)) (b : SqT K H q (rowV l)) (hz : l.length ≤ 100000) : Alike K (n + 1) H (.ref p) (.ref q) :=
  Alike.seq (.inl ⟨a, b⟩) rfl (by rw [List.length_map]; exact hz) fun _ _ _ x y => Alike.ints (fun a => ⟨_, rfl⟩) x y
theorem Alike.rowL {K : PySem.W.Frag} {H : Hp} {n : Nat} {p q : Addr} {l : List Nat} (a : SqL K H p (rowV l)) (b : SqL K H q (rowV l)) (hz : l.length ≤ 100000) : Alike K (n + 1) H (.ref p) (.ref q) :=
  Alike.seq (.inr ⟨a, b⟩) rfl (by rw [List.length_map]; exact hz) fun _ _ _ x y => Alike.ints (fun a => ⟨_, rfl⟩) x y
/-- two lists or tuples of two -/
theorem Alike.two {K : PySem.W.Frag} {H : Hp} {n : Nat} {p q : Addr} {a b c d : V} (h : (SqT K H p [a, b] ∧ SqT K H q [c, d]) ∨ (SqL K H p [a, b] ∧ SqL K H q [c, d])) (h1 : Alike K n H a c) (h2 : Alike K n H b d) : Alike K (n + 1) H (.ref p) (.ref q) :=
  Alike.seq h rfl (by show 2 ≤ 100000; decide) fun i x' y' e f => by
    match i with
    | 0 => cases e; cases f; exact h1
    | 1 => cases e; cases f; exact h2
    | i + 2 => cases e
theorem Alike.nat {K : PySem.W.Frag} {H : Hp} {i j : Nat} {n : Nat} (e : i = j) : Alike K n H (.int (i : Int)) (.int (j : Int)) := by
  rw [e]
  exact Alike.int
/-! ### promises of a law's helpers -/
def spAlike (K : PySem.W.Frag) (n : Nat) : Sp := fun vs H Q _ => ∃ x y, vs = [x, y] ∧ Alike K n H x y ∧ ∀ H', Same H H' → Q (.bl true) H'
/-- the mixing of a cell -/
def mix1 (c s : Int) : Int := (c * 48271 + s * 69621 + 12345) % 2147483647
def mix (c s : Int) : Int := (mix1 c s * mix1 c s + mix1 c s * 16807 + s * 7919) % 2147483629
theorem mix1_r (c s : Int) : 0 ≤ mix1 c s ∧ mix1 c s < 2147483647 := ⟨Int.emod_nonneg _ (by decide), Int.emod_lt_of_pos _ (by decide)⟩
theorem mix_r (c s : Int) : 0 ≤ mix c s ∧ mix c s < 2147483629 := ⟨Int.emod_nonneg _ (by decide), Int.emod_lt_of_pos _ (by decide)⟩
def spMix : Sp := fun vs H Q _ => ∃ c s : Int, vs = [.int c, .int s] ∧ Q (.int (mix c s)) H
/-- a def of two symbols -/
def spSym2 (f : Nat → Nat → Nat) : Sp := fun vs H Q _ => ∃ a b : Nat, vs = [.int (a : Int), .int (b : Int)] ∧ (a < 128 ∧ b < 128) ∧ Q (.int (f a b : Nat)) H
theorem nat_of {x : Int} {m : Int} (hm : 0 < m) : ∃ n : Nat, x % m = (n : Int) ∧ (n : Int) < m :=
  ⟨(x % m).toNat, (Int.toNat_of_nonneg (Int.emod_nonneg _ (by omega))).symm, by rw [Int.toNat_of_nonneg (Int.emod_nonneg _ (by omega))]; exact Int.emod_lt_of_pos _ hm⟩
theorem sym_of (x : Int) : ∃ n : Nat, x % 128 = (n : Int) ∧ n < 128 := by
  obtain ⟨n, e, h⟩ := nat_of (x := x) (m := 128) (by decide)
  exact ⟨n, e, by omega⟩
theorem row_at {l : List Nat} {i n : Nat} (h : l[i]? = some n) : atI (rowV l) (i : Int) = some (.int (n : Int)) := atI_nat (by rw [List.getElem?_map, h] <;> rfl)
theorem xor_cast (a b : Nat) : Builtin.bitXor (a : Int) (b : Int) = ((a ^^^ b : Nat) : Int) := by
  rw [Bits.bitXor_pp (Int.natCast_nonneg _) (Int.natCast_nonneg _)]
  rfl
/-! ### the field's tables as the program has them -/
structure Tabs (K : PySem.W.Frag) (mg : Str → Option Value) (pl ll : List Nat) : Prop where
  pow : ∃ a : Addr, mg "POWERS" = some (.ref a) ∧ ∀ H, SqT K H a (rowV pl)
  log : ∃ a : Addr, mg "LOGARITHMS" = some (.ref a) ∧ ∀ H, SqT K H a (rowV ll)
  ord : ∃ t : Tok, mg "ORDER" = some (.int 127 t)
theorem vint_eq {i j : Int} (h : decide (V.int i = V.int j) = true) : i = j := V.int.inj (of_decide_eq_true h)
theorem vint_ne {i j : Int} (h : ¬ decide (V.int i = V.int j) = true) : i ≠ j := fun e => h (decide_eq_true (by rw [e]))
theorem dec_ne {p : Prop} [Decidable p] (h : ¬ decide p = true) : ¬ p := fun e => h (decide_eq_true e)
/-- a branch that is taken, that is not taken -/
theorem iteP {c A B : Prop} [Decidable c] (hc : c) (h : A) : if c then A else B := by
  rw [if_pos hc]
  exact h
theorem iteN {c A B : Prop} [Decidable c] (hc : ¬ c) (h : B) : if c then A else B := by
  rw [if_neg hc]
  exact h
theorem iteB {c : Bool} {A B : Prop} (hc : c = false) (h : B) : if c = true then A else B := by
  rw [hc]
  exact iteF h
/-! ### isinstance with the built-in kinds -/
theorem kit_seqT {K : PySem.W.Frag} : PySem.W.kitAny K (.type "tuple") [.type "tuple", .type "list"] = some true :=
  kitAny_cons (b := true) (kit_ty (by decide +kernel)) (fun h => nomatch h) fun _ => rfl
theorem kit_seqL {K : PySem.W.Frag} : PySem.W.kitAny K (.type "list") [.type "tuple", .type "list"] = some true :=
  kitAny_cons (b := false) (kit_ty (by decide +kernel)) (fun _ => kitAny_cons (b := true) (kit_ty (by decide +kernel)) (fun h => nomatch h) fun _ => rfl) fun h => nomatch h
theorem kit_seqN {K : PySem.W.Frag} {t : String} (h1 : kitB t "tuple" = some false) (h2 : kitB t "list" = some false) : PySem.W.kitAny K (.type t) [.type "tuple", .type "list"] = some false :=
  kitAny_cons (b := false) (kit_ty h1) (fun _ => kitAny_cons (b := false) (kit_ty h2) (fun _ => kitAny_nil) fun h => nomatch h) fun h => nomatch h
theorem cls_seq : Paired ClsV [V.ty "tuple", V.ty "list"] [Value.type "tuple", Value.type "list"] := .cons (.ty _) (.cons (.ty _) .nil)
/-- a scalar's kind -/
inductive SK : V → String → Prop where
  | int (i : Int) : SK (.int i) "int"
  | bl (b : Bool) : SK (.bl b) "bool"
  | str (s : Str) : SK (.str s) "str"
  | non : SK .non "NoneType"
theorem SK.ty {K : PySem.W.Frag} {H : Hp} {x : V} {t : String} (h : SK x t) : TyX K H x (.type t) := by
  cases h with
  | int i => exact ty_int
  | bl b => exact ty_bl
  | str s => exact ty_str
  | non => exact ty_non
def spA (K : PySem.W.Frag) : Nat → Sp
  | 0 => fun _ _ _ _ => False
  | n + 1 => spAlike K n
theorem spA_no {P : Program} {w : World} {K : PySem.W.Frag} {mg : Str → Option Value} {base : Heap} {f : Addr} {fd : FuncData} {ps : List Str} : FnOk P w K mg base CX0 0 f fd ps (spA K 0) :=
  ⟨fun vs H Q E h => absurd h id, fun A outer s H args us vs Q E _ _ _ _ h => absurd h id⟩
theorem room_mono {j k : Nat} {A : Around} (r : Room k A) (h : j ≤ k) : Room j A := r.mono h
theorem sz_ok {n : Nat} (h : n ≤ 100000) : n ≤ sizeLine := Nat.le_trans h (by decide)
theorem sz_lt {n : Nat} (h : n < 100000) : n < sizeLine := Nat.lt_of_lt_of_le h (by decide)
theorem iteC {c : Bool} {A B : Prop} (hc : c = true) (h : A) : if c = true then A else B := by
  rw [hc]
  exact iteT h
theorem ix_any {K : PySem.W.Frag} {H : Hp} {p : Addr} {xs : List V} {i : Nat} {v : V} {Q : VK} (h : SqL K H p xs ∨ SqT K H p xs) (e : xs[i]? = some v) (q : Q v H) : rIx K (.ref p) (.int (i : Int)) H Q := by
  rcases h with h | h
  · exact .inl ⟨_, _, _, _, rfl, rfl, h, atI_nat e, q⟩
  · exact .inr (.inl ⟨_, _, _, _, rfl, rfl, h, atI_nat e, q⟩)
theorem kind_seq {K : PySem.W.Frag} {H : Hp} {p q : Addr} {xs ys : List V} (h : (SqT K H p xs ∧ SqT K H q ys) ∨ (SqL K H p xs ∧ SqL K H q ys)) :
    ∃ (ty : String) (b1 b2 : Bool), (∀ H', Same H H' → TyX K H' (.ref p) (.type ty) ∧ TyX K H' (.ref q) (.type ty) ∧ (SqL K H' p xs ∨ SqT K H' p xs) ∧ (SqL K H' q ys ∨ SqT K H' q ys)) ∧
      PySem.W.kitAny K (.type ty) [.type "tuple", .type "list"] = some true ∧ PySem.W.kitOne K (.type ty) (.type "tuple") = some b1 ∧ PySem.W.kitOne K (.type ty) (.type "list") = some b2 := by
  rcases h with ⟨a, b⟩ | ⟨a, b⟩
  · exact ⟨"tuple", true, false, fun H' e => ⟨ty_tup (same_tup e a), ty_tup (same_tup e b), .inr (same_tup e a), .inr (same_tup e b)⟩, kit_seqT, kit_ty (by decide +kernel), kit_ty (by decide +kernel)⟩
  · exact ⟨"list", false, true, fun H' e => ⟨ty_lst (e.seq a), ty_lst (e.seq b), .inl (e.seq a), .inl (e.seq b)⟩, kit_seqL, kit_ty (by decide +kernel), kit_ty (by decide +kernel)⟩
theorem not_self {A B : Prop} {b : Bool} (h : B) : if (!decide (V.bl b = V.bl b)) = true then A else B := iteNS rfl h
theorem foldl_take {α β : Type} (f : β → α → β) (z : β) {l : List α} {i : Nat} {w : α} (h : l[i]? = some w) : (l.take (i + 1)).foldl f z = f ((l.take i).foldl f z) w := by
  rw [List.take_add_one, h]
  show ((l.take i) ++ [w]).foldl f z = _
  rw [List.foldl_append]
  rfl
theorem rowV_at {l : List Nat} {i : Nat} {x : V} (h : (rowV l)[i]? = some x) : ∃ n, l[i]? = some n ∧ x = .int (n : Int) := by
  rw [List.getElem?_map] at h
  cases e : l[i]? with
  | none => rw [e] at h; cases h
  | some n =>
    rw [e] at h
    exact ⟨n, rfl, (Option.some.inj h).symm⟩
/-- .. that leaves new things behind -/
def spSym2N (f : Nat → Nat → Nat) : Sp := fun vs H Q _ => ∃ a b : Nat, vs = [.int (a : Int), .int (b : Int)] ∧ (a < 128 ∧ b < 128) ∧ ∀ H', Same H H' → Q (.int (f a b : Nat)) H'
/-! ### keywords alone -/
def gSame {α : Type} : List α → List α → List α
  | [], ws => ws
  | _ :: _, _ => []
def gSwap {α : Type} : List α → List α → List α
  | [], [x, y] => [y, x]
  | _, _ => []
section
variable {K : PySem.W.Frag} {x qual : Str} {st : Stmt} {f : Addr} {fd : FuncData}
theorem kb_same {ps : List Str} (F : Fun K x qual st f fd) (h0 : ps ≠ [])
    (h : ∀ (kV doc pm : Value) (an : Option Addr) (cdv ct : Value) (ws : List Value), ws.length = ps.length → bindArgs (PySem.W.fnOf x qual (defArgs st) (defBody st) (defScope st) .none kV doc pm an cdv ct) ⟨[], ps.zip ws⟩ = pure (ps.zip ws)) : KBinds K fd ps ps gSame gSame := by
  obtain ⟨oc, od, kV, doc, pm, an, cdv, ct, osl, rfl, lk, hcd⟩ := F.ex
  refine ⟨fun s us ws _ hl => ?_, fun {vs us zs ws} r q => ?_⟩
  · cases us with
    | nil => exact .of_eq (h kV doc pm an cdv ct ws hl)
    | cons u r =>
      exfalso
      cases ps with
      | nil => exact h0 rfl
      | cons p t => cases hl
  · cases r with
    | nil => exact q
    | cons a b => exact .nil
theorem kb_swap {p q : Str} (F : Fun K x qual st f fd)
    (h : ∀ (kV doc pm : Value) (an : Option Addr) (cdv ct : Value) (u v : Value), bindArgs (PySem.W.fnOf x qual (defArgs st) (defBody st) (defScope st) .none kV doc pm an cdv ct) ⟨[], [(q, u), (p, v)]⟩ = pure [(p, v), (q, u)]) : KBinds K fd [p, q] [q, p] gSwap gSwap := by
  obtain ⟨oc, od, kV, doc, pm, an, cdv, ct, osl, rfl, lk, hcd⟩ := F.ex
  refine ⟨fun s us ws _ hl => ?_, fun {vs us zs ws} r q => ?_⟩
  · match us, ws, hl with
    | [], [u, v], _ => exact .of_eq (h kV doc pm an cdv ct u v)
  · cases r with
    | cons a b => exact .nil
    | nil =>
      cases q with
      | nil => exact .nil
      | cons a b =>
        cases b with
        | nil => exact .nil
        | cons c d =>
          cases d with
          | nil => exact .cons c (.cons a .nil)
          | cons _ _ => exact .nil
end
/-! ### operators over numbers from 0 on -/
def rN2 (C : Nat → Nat → Prop) (f : Nat → Nat → Nat) : R2 := fun x y H Q => ∃ i j : Nat, x = .int (i : Int) ∧ y = .int (j : Int) ∧ C i j ∧ Q (.int (f i j : Nat)) H
def rN0 (f : Nat → Nat → Nat) : R2 := fun x y H Q => ∃ i j : Nat, x = .int (i : Int) ∧ y = .int (j : Int) ∧ Q (.int (f i j : Nat)) H
def rNB (f : Nat → Nat → Bool) : R2 := fun x y H Q => ∃ i j : Nat, x = .int (i : Int) ∧ y = .int (j : Int) ∧ Q (.bl (f i j)) H
section
variable {X : Cx} {f : Value → Value → Sem Value} {r r' : R2}
theorem op_imp (h : OpR X f r) (i : ∀ x y H Q, r' x y H Q → r x y H Q) : OpR X f r' := fun pins s σ H x y v u Q I a b q => h pins s σ H x y v u Q I a b (i x y H Q q)
theorem op_modI : OpR X (binaryOp .Mod) (rI (fun _ j => 0 < j) fun i j => .int ((i % j).toNat : Nat)) := op_imp op_mod fun x y H Q ⟨i, j, hx, hy, c, q⟩ => ⟨i, j, hx, hy, c, by
  dsimp only at q ⊢
  rw [Int.toNat_of_nonneg (Int.emod_nonneg i (by omega))] at q
  exact q⟩
theorem nop_add : OpR X (binaryOp .Add) (rN0 fun i j => i + j) := op_imp op_add fun x y H Q ⟨i, j, hx, hy, q⟩ => ⟨i, j, hx, hy, by
  dsimp only at q ⊢
  rw [Int.natCast_add] at q
  exact q⟩
theorem nop_mul : OpR X (binaryOp .Mult) (rN2 (fun i j => i < 2 ^ 64 ∨ j < 2 ^ 64) fun i j => i * j) := op_imp op_mul fun x y H Q ⟨i, j, hx, hy, c, q⟩ => ⟨i, j, hx, hy, by
  rcases c with c | c
  · exact .inl ⟨by omega, by omega⟩
  · exact .inr ⟨by omega, by omega⟩, by
  dsimp only at q ⊢
  rw [Int.natCast_mul] at q
  exact q⟩
theorem nop_div : OpR X (binaryOp .FloorDiv) (rN2 (fun _ j => 0 < j ∧ j < 1073741824) fun i j => i / j) := op_imp op_fdiv fun x y H Q ⟨i, j, hx, hy, c, q⟩ => ⟨i, j, hx, hy, ⟨by omega, by omega⟩, by
  dsimp only at q ⊢
  rw [Int.natCast_ediv] at q
  exact q⟩
theorem nop_mod : OpR X (binaryOp .Mod) (rN2 (fun _ j => 0 < j) fun i j => i % j) := op_imp op_mod fun x y H Q ⟨i, j, hx, hy, c, q⟩ => ⟨i, j, hx, hy, by omega, by
  dsimp only at q ⊢
  rw [Int.natCast_emod] at q
  exact q⟩
theorem nop_xor : OpR X (binaryOp .BitXor) (rN0 fun i j => i ^^^ j) := op_imp op_xor fun x y H Q ⟨i, j, hx, hy, q⟩ => ⟨i, j, hx, hy, by
  dsimp only at q ⊢
  rw [xor_cast]
  exact q⟩
theorem nop_sub : OpR X (binaryOp .Sub) (rN2 (fun i j => j ≤ i) fun i j => i - j) := op_imp op_sub fun x y H Q ⟨i, j, hx, hy, c, q⟩ => ⟨i, j, hx, hy, by
  dsimp only at q ⊢
  rw [Int.ofNat_sub c] at q
  exact q⟩
theorem nop_eq : OpR X (compareOp .Eq) (rNB fun i j => decide (i = j)) := op_imp op_eq fun x y H Q ⟨i, j, hx, hy, q⟩ => by
  subst hx hy
  refine ⟨rfl, ?_⟩
  have e : decide (V.int (i : Int) = V.int (j : Int)) = decide (i = j) := decide_eq_decide.mpr ⟨fun z => Int.ofNat.inj (V.int.inj z), fun z => by rw [z]⟩
  rw [e]
  exact q
theorem nop_ne : OpR X (compareOp .NotEq) (rNB fun i j => decide (i ≠ j)) := op_imp op_ne fun x y H Q ⟨i, j, hx, hy, q⟩ => by
  subst hx hy
  refine ⟨rfl, ?_⟩
  have e : (!decide (V.int (i : Int) = V.int (j : Int))) = decide (i ≠ j) := by
    rw [show decide (V.int (i : Int) = V.int (j : Int)) = decide (i = j) from decide_eq_decide.mpr ⟨fun z => Int.ofNat.inj (V.int.inj z), fun z => by rw [z]⟩]
    by_cases h : i = j <;> simp [h]
  rw [e]
  exact q
theorem nop_lt : OpR X (compareOp .Lt) (rNB fun i j => decide (i < j)) := op_imp op_lt fun x y H Q ⟨i, j, hx, hy, q⟩ => ⟨i, j, hx, hy, by
  dsimp only at q ⊢
  rw [show decide ((i : Int) < (j : Int)) = decide (i < j) from decide_eq_decide.mpr Int.ofNat_lt]
  exact q⟩
theorem nop_gt : OpR X (compareOp .Gt) (rNB fun i j => decide (i > j)) := op_imp op_gt fun x y H Q ⟨i, j, hx, hy, q⟩ => ⟨i, j, hx, hy, by
  have e : decide ((i : Int) > (j : Int)) = decide (i > j) := decide_eq_decide.mpr Int.ofNat_lt
  dsimp only at q ⊢
  first | (rw [e]; exact q) | (rw [show decide ((j : Int) < (i : Int)) = decide (i > j) from e]; exact q)⟩
theorem nop_le : OpR X (compareOp .LtE) (rNB fun i j => decide (i ≤ j)) := op_imp op_le fun x y H Q ⟨i, j, hx, hy, q⟩ => ⟨i, j, hx, hy, by
  dsimp only at q ⊢
  rw [show decide ((i : Int) ≤ (j : Int)) = decide (i ≤ j) from decide_eq_decide.mpr Int.ofNat_le]
  exact q⟩
theorem nop_ge : OpR X (compareOp .GtE) (rNB fun i j => decide (i ≥ j)) := op_imp op_ge fun x y H Q ⟨i, j, hx, hy, q⟩ => ⟨i, j, hx, hy, by
  have e : decide ((i : Int) ≥ (j : Int)) = decide (i ≥ j) := decide_eq_decide.mpr Int.ofNat_le
  dsimp only at q ⊢
  first | (rw [e]; exact q) | (rw [show decide ((j : Int) ≤ (i : Int)) = decide (i ≥ j) from e]; exact q)⟩
/-- xs[i], i from 0 on -/
def rIxN (K : PySem.W.Frag) : R2 := fun x y H Q => ∃ (p : Addr) (xs : List V) (i : Nat) (v : V), x = .ref p ∧ y = .int (i : Int) ∧ (SqL K H p xs ∨ SqT K H p xs) ∧ xs[i]? = some v ∧ Q v H
theorem ix_n : IxR X (rIxN X.K) := fun value slice pins s σ H x y v u Q I a b ⟨p, xs, i, w, hx, hy, h, e, q⟩ hs => by
  subst hx hy
  exact ix_seq value slice pins s σ H _ _ v u Q I a b (ix_any h e q) hs
end
theorem ln0 : ([] : List V).length ≤ sizeLine := by show 0 ≤ sizeLine; decide
theorem ln1 {a : V} : ([a] : List V).length ≤ sizeLine := by show 1 ≤ sizeLine; decide
theorem ln2 {a b : V} : ([a, b] : List V).length ≤ sizeLine := by show 2 ≤ sizeLine; decide
theorem ln3 {a b c : V} : ([a, b, c] : List V).length ≤ sizeLine := by show 3 ≤ sizeLine; decide
theorem ln4 {a b c d : V} : ([a, b, c, d] : List V).length ≤ sizeLine := by show 4 ≤ sizeLine; decide
theorem ln5 {a b c d e : V} : ([a, b, c, d, e] : List V).length ≤ sizeLine := by show 5 ≤ sizeLine; decide
theorem ln6 {a b c d e f : V} : ([a, b, c, d, e, f] : List V).length ≤ sizeLine := by show 6 ≤ sizeLine; decide
theorem ln7 {a b c d e f g : V} : ([a, b, c, d, e, f, g] : List V).length ≤ sizeLine := by show 7 ≤ sizeLine; decide
theorem ln8 {a b c d e f g h : V} : ([a, b, c, d, e, f, g, h] : List V).length ≤ sizeLine := by show 8 ≤ sizeLine; decide
theorem vals_of : ∀ {xs : List V} {us : List Value}, us.map absV = xs.map some → Vals xs us
  | [], [], _ => .nil
  | [], _ :: _, h => nomatch h
  | _ :: _, [], h => nomatch h
  | x :: xs, u :: us, h => by
    rw [List.map_cons, List.map_cons] at h
    injection h with h1 h2
    refine .cons ?_ (vals_of h2)
    cases u <;> first | (cases h1; first | exact ⟨_, rfl⟩ | rfl) | cases h1
theorem tup_written {K : PySem.W.Frag} {a : Addr} {dd : Option Addr} {its : Array Value} {n : Nat} {sl : Array (Option Value)} {xs : List V} (l : K.lookup a = some ⟨.type "tuple", dd, .seq its n, sl⟩) (h : its.toList.map absV = xs.map some) (hz : its.toList.length ≤ 1000) (H : Hp) : SqT K H a xs :=
  .inr ⟨_, its, n, l, rfl, rfl, Nat.le_of_lt (small1000 (by rw [← Array.length_toList]; exact hz)), vals_of h⟩
theorem called {P : Program} {w : World} {K : PySem.W.Frag} {mg : Str → Option Value} {base : Heap} {CX : CXT} {x qual : Str} {st : Stmt} {f : Addr} {fd : FuncData} {k : Nat} {ps : List Str} {sp : Sp} (F : Fun K x qual st f fd) (m : mg x = some (.ref f)) (b : Binds K fd ps []) (h : FnOk P w K mg base CX k f fd ps sp) :
    Called P w K mg base CX x k ps sp := ⟨f, fd, h, m, F.kp, b⟩
theorem calledK {P : Program} {w : World} {K : PySem.W.Frag} {mg : Str → Option Value} {base : Heap} {CX : CXT} {x qual : Str} {st : Stmt} {f : Addr} {fd : FuncData} {k : Nat} {ps ks : List Str} {sp : Sp} {g : List Value → List Value → List Value} {gV : List V → List V → List V} (F : Fun K x qual st f fd) (m : mg x = some (.ref f)) (b : KBinds K fd ps ks g gV) (h : FnOk P w K mg base CX k f fd ps sp) :
    CalledK P w K mg base CX x k ps ks gV sp := ⟨f, fd, g, h, m, F.kp, b⟩
/-- what law(script) promises -/
def spLaw (K : PySem.W.Frag) : Sp := fun vs H Q _ => ∃ (a : Addr) (ns : List Int), vs = [.ref a] ∧ SqL K H a (ns.map V.int) ∧ ns.length ≤ 63 ∧ ∀ H', Q (.bl true) H'
end MV
namespace K01
open PySem PySem.Spec PyProof.Rows L2 MV
def topS (i : Nat) : Stmt := PySem.Challenge.pw_mendvault_k01_sums_and_products.main.body.getD i (.Pass ⟨0, 0, 0, 0⟩)
structure Txt (mg : Str → Option Value) : Prop where
  n_bool : mg "bool" = none
  n_int : mg "int" = none
  n_isinstance : mg "isinstance" = none
  n_len : mg "len" = none
  n_list : mg "list" = none
  n_range : mg "range" = none
  n_str : mg "str" = none
  n_tuple : mg "tuple" = none
local macro_rules | `(tactic| walk_at "side") => `(tactic| first
  | decide
  | omega
  | exact mul_lt _ _
  | (refine xor_lt ?_ ?_ <;> walk_at "side")
  | exact ln2 | exact ln1 | exact ln0 | exact ln3 | exact ln4 | exact ln5 | exact ln6 | exact ln7 | exact ln8)
local macro_rules | `(tactic| walk_at "rd1") => `(tactic| first
  | refine Exists.intro _ (And.intro (by rfl) ?_)
  | refine Exists.intro _ (Exists.intro _ (And.intro (by rfl) (And.intro (by rfl) ?_)))
  | refine Exists.intro _ (Exists.intro _ (And.intro (by rfl) ?_))
  | refine And.intro (by rfl) ?_
  | refine And.intro (by walk_at "side") ?_
  | refine And.intro (And.intro (by walk_at "side") (by walk_at "side")) ?_
  | refine And.intro (.inr ⟨by (first | decide | omega), by (first | decide | omega)⟩) ?_
  | refine And.intro (.inl ⟨by (first | decide | omega), by (first | decide | omega)⟩) ?_
  | refine And.intro (.inl (by omega)) ?_
  | refine And.intro (.inr (by omega)) ?_
  | refine .inl (Exists.intro _ (And.intro (by rfl) ?_)))
local macro_rules | `(tactic| walk_at "rd") => `(tactic| repeat walk_at "rd1")
section
variable {P : Program} {w : World} {K : PySem.W.Frag} {mg : Str → Option Value} {base : Heap}
abbrev s_added : Stmt := topS 5
theorem sc_added : FnScope ["a", "b"] ["a", "b"] (defScope s_added) := ⟨rfl, rfl, rfl, by decide +kernel, rfl, by decide +kernel, by decide +kernel⟩
theorem ok_added {f : Addr} {fd : FuncData} {k : Nat} (F : Fun K "added" "added" s_added f fd) : FnOk P w K mg base CX0 (k + 1) f fd ["a", "b"] (spSym2 fun a b => a ^^^ b) := by
  refine F.ok sc_added (fun vs H Q E h => ?_) (fun cdv A outer s H vs Q E hr h => ?_)
  · obtain ⟨a, b, rfl, _⟩ := h
    rfl
  · obtain ⟨a, b, rfl, hab, q⟩ := h
    refine ⟨_, (pss_one (ps_ret (pe_op op_xor (pv 0) (pv 1)))), ?_⟩
    walk_at "rd"
    show Q (V.int (Builtin.bitXor a b)) H
    rw [xor_cast]
    exact q

abbrev s_times : Stmt := topS 6
theorem sc_times : FnScope ["a", "b"] ["a", "b"] (defScope s_times) := ⟨rfl, rfl, rfl, by decide +kernel, rfl, by decide +kernel, by decide +kernel⟩
theorem ok_times {f : Addr} {fd : FuncData} {k : Nat} (F : Fun K "times" "times" s_times f fd) (B : Tabs K mg powL lgL) : FnOk P w K mg base CX0 (k + 1) f fd ["a", "b"] (spSym2 mul) := by
  refine F.ok sc_times (fun vs H Q E h => ?_) (fun cdv A outer s H vs Q E hr h => ?_)
  · obtain ⟨a, b, rfl, _⟩ := h
    rfl
  · obtain ⟨a, b, rfl, ⟨ha, hb⟩, q⟩ := h
    obtain ⟨a_POWERS, m_POWERS, tP⟩ := B.pow
    obtain ⟨a_LOGARITHMS, m_LOGARITHMS, tL⟩ := B.log
    obtain ⟨tO, m_ORDER⟩ := B.ord
    refine ⟨_, (pss_cons (ps_if (PW.pt (pw_or (pt_cmpR op_eq (pv 0) pe_int (nomark _)) (pw_or1 (pt_cmpR op_eq (pv 1) pe_int (nomark _)))))
    (pss_one (ps_ret pe_int))
    pss_nil)
    (pss_one (ps_ret (pe_ix ix_tup (pe_glob (v := .ref a_POWERS) rfl m_POWERS rfl) (pe_op op_mod (pe_op op_add (pe_ix ix_tup (pe_glob (v := .ref a_LOGARITHMS) rfl m_LOGARITHMS rfl) (pv 0) (fun _ _ => rfl)) (pe_ix ix_tup (pe_glob (v := .ref a_LOGARITHMS) rfl m_LOGARITHMS rfl) (pv 1) (fun _ _ => rfl))) (pe_glob (v := .int 127) rfl m_ORDER ⟨_, rfl⟩)) (fun _ _ => rfl))))), ?_⟩
    walk_at "rd"
    refine ite2 (fun e => ?_) (fun e => ?_)
    · walk_at "rd"
      have e' := vint_eq e
      have ea : a = 0 := by omega
      subst ea
      rw [mul_zero_left] at q
      exact iteT q
    · walk_at "rd"
      have ea := vint_ne e
      refine ite2 (fun e => ?_) (fun e => ?_)
      · have e' := vint_eq e
        have eb : b = 0 := by omega
        subst eb
        rw [mul_zero_right] at q
        exact q
      · have eb := vint_ne e
        walk_at "rd"
        refine ⟨_, _, _, _, by rfl, by rfl, tL _, row_at (lgL_get ha), ?_⟩
        walk_at "rd"
        refine ⟨_, _, _, _, by rfl, by rfl, tL _, row_at (lgL_get hb), ?_⟩
        walk_at "rd"
        have hz : ((lg a : Int) + (lg b : Int)) % 127 = (((lg a + lg b) % 127 : Nat) : Int) := by omega
        have hP : atI (rowV powL) (((lg a : Int) + (lg b : Int)) % 127) = some (.int (pw ((lg a + lg b) % 127) : Nat)) := by
          rw [hz]
          exact row_at (powL_get (Nat.mod_lt _ (by decide)))
        refine ⟨_, _, _, _, by rfl, by rfl, tP _, hP, ?_⟩
        rw [mul_nz (by omega) (by omega)] at q
        exact q

abbrev s_law_cell : Stmt := topS 8
theorem sc_law_cell : FnScope ["script", "k"] ["script", "k"] (defScope s_law_cell) := ⟨rfl, rfl, rfl, by decide +kernel, rfl, by decide +kernel, by decide +kernel⟩
theorem ok_cell {f : Addr} {fd : FuncData} {k : Nat} (F : Fun K "_law_cell" "_law_cell" s_law_cell f fd) (T : Txt mg) : FnOk P w K mg base CX0 (k + 1) f fd ["script", "k"] (spCell K) := by
  refine F.ok sc_law_cell (fun vs H Q E h => ?_) (fun cdv A outer s H vs Q E hr h => ?_)
  · obtain ⟨l, ns, j, rfl, _⟩ := h
    rfl
  · obtain ⟨l, ns, j, rfl, hs, q⟩ := h
    refine ⟨_, (pss_cons (ps_if (pt_cmpR op_lt (pv 1) (pe_callB call_len_seq (by rfl) T.n_len (by decide +kernel) (pa_cons (pv 0) pa_nil)) (nomark _))
    (pss_one (ps_ret (pe_ix ix_list (pv 0) (pv 1) (fun _ _ => rfl))))
    pss_nil)
    (pss_one (ps_ret pe_int))), ?_⟩
    walk_at "rd"
    refine ⟨_, _, by rfl, .inl hs, ?_⟩
    walk_at "rd"
    refine ite2 (fun e => ?_) (fun e => ?_)
    · have e' := of_decide_eq_true e
      rw [List.length_map] at e'
      walk_at "rd"
      exact ⟨_, _, _, _, by rfl, by rfl, hs, atI_cell (by omega), q⟩
    · have e' := dec_ne e
      rw [List.length_map] at e'
      walk_at "rd"
      rw [cell_out (by omega)] at q
      exact q

abbrev s_law_mix : Stmt := topS 9
theorem sc_law_mix : FnScope ["cell", "salt", "one"] ["cell", "salt"] (defScope s_law_mix) := ⟨rfl, rfl, rfl, by decide +kernel, rfl, by decide +kernel, by decide +kernel⟩
theorem ok_mix {f : Addr} {fd : FuncData} {k : Nat} (F : Fun K "_law_mix" "_law_mix" s_law_mix f fd) (T : Txt mg) : FnOk P w K mg base CX0 (k + 1) f fd ["cell", "salt"] spMix := by
  refine F.ok sc_law_mix (fun vs H Q E h => ?_) (fun cdv A outer s H vs Q E hr h => ?_)
  · obtain ⟨l, ns, rfl, _⟩ := h
    rfl
  · obtain ⟨c, z, rfl, q⟩ := h
    have hr := mix1_r c z
    refine ⟨_, (pss_cons (ps_set (i := 2) sc_law_mix.nd rfl (Or.inl rfl) (pe_op op_mod (pe_callTy call_int1 (by rfl) T.n_int (by decide +kernel) (pa_cons (pe_op op_add (pe_op op_add (pe_op op_mul (pv 0) pe_int) (pe_op op_mul (pv 1) pe_int)) pe_int) pa_nil)) pe_int))
    (pss_one (ps_ret (pe_op op_mod (pe_callTy call_int1 (by rfl) T.n_int (by decide +kernel) (pa_cons (pe_op op_add (pe_op op_add (pe_op op_mul (pv 2) (pv 2)) (pe_op op_mul (pv 2) pe_int)) (pe_op op_mul (pv 1) pe_int)) pa_nil)) pe_int)))), ?_⟩
    walk_at "rd"
    exact q

abbrev s_law_alike : Stmt := topS 10
theorem sc_law_alike : FnScope ["told", "due", "k"] ["told", "due"] (defScope s_law_alike) := ⟨rfl, rfl, rfl, by decide +kernel, rfl, by decide +kernel, by decide +kernel⟩
theorem ok_alike {f : Addr} {fd : FuncData} {n : Nat} (F : Fun K "_law_alike" "_law_alike" s_law_alike f fd) (T : Txt mg) (c_law_alike : Called P w K mg base CX0 "_law_alike" n ["told", "due"] (spA K n)) :
    FnOk P w K mg base CX0 (n + 1) f fd ["told", "due"] (spA K (n + 1)) := by
  refine F.ok sc_law_alike (fun vs H Q E h => ?_) (fun cdv A outer s H vs Q E hr h => ?_)
  · obtain ⟨x, y, rfl, _⟩ := h
    rfl
  · obtain ⟨x, y, rfl, al, q⟩ := h
    refine ⟨_, (pss_cons (ps_if (pt_val (pe_callB call_isiT (by rfl) T.n_isinstance (by decide +kernel) (pa_cons (pv 1) (pa_cons (pe_tup (pa_cons (pe_bltn (v := .ty "tuple") (u := .type "tuple") (by rfl) T.n_tuple (by decide +kernel) rfl) (pa_cons (pe_bltn (v := .ty "list") (u := .type "list") (by rfl) T.n_list (by decide +kernel) rfl) pa_nil))) pa_nil))))
    (pss_cons (ps_if (PW.pt (pw_or (pt_cmpR op_ne (pe_callB call_isi (by rfl) T.n_isinstance (by decide +kernel) (pa_cons (pv 0) (pa_cons (pe_bltn (v := .ty "tuple") (u := .type "tuple") (by rfl) T.n_tuple (by decide +kernel) rfl) pa_nil))) (pe_callB call_isi (by rfl) T.n_isinstance (by decide +kernel) (pa_cons (pv 1) (pa_cons (pe_bltn (v := .ty "tuple") (u := .type "tuple") (by rfl) T.n_tuple (by decide +kernel) rfl) pa_nil))) (nomark _)) (pw_or1 (pt_cmpR op_ne (pe_callB call_isi (by rfl) T.n_isinstance (by decide +kernel) (pa_cons (pv 0) (pa_cons (pe_bltn (v := .ty "list") (u := .type "list") (by rfl) T.n_list (by decide +kernel) rfl) pa_nil))) (pe_callB call_isi (by rfl) T.n_isinstance (by decide +kernel) (pa_cons (pv 1) (pa_cons (pe_bltn (v := .ty "list") (u := .type "list") (by rfl) T.n_list (by decide +kernel) rfl) pa_nil))) (nomark _)))))
    (pss_one (ps_ret pe_bl))
    pss_nil)
    (pss_cons (ps_if (pt_cmpR op_ne (pe_callB call_len_seq (by rfl) T.n_len (by decide +kernel) (pa_cons (pv 0) pa_nil)) (pe_callB call_len_seq (by rfl) T.n_len (by decide +kernel) (pa_cons (pv 1) pa_nil)) (nomark _))
    (pss_one (ps_ret pe_bl))
    pss_nil)
    (pss_cons (ps_for PassesOwn.never rfl (pi_range1 (by rfl) T.n_range (pa_cons (pe_callB call_len_seq (by rfl) T.n_len (by decide +kernel) (pa_cons (pv 1) pa_nil)) pa_nil)) (pg_name (i := 2) sc_law_alike.nd rfl (Or.inl rfl))
    (pss_one (ps_if (pt_not (pt_val (pe_own c_law_alike hr (by rfl) pass0 (pa_cons (pe_ix ix_seq (pv 0) (pv 2) (fun _ _ => rfl)) (pa_cons (pe_ix ix_seq (pv 1) (pv 2) (fun _ _ => rfl)) pa_nil)))))
    (pss_one (ps_ret pe_bl))
    pss_nil)))
    (pss_one (ps_ret pe_bl)))))
    pss_nil)
    (pss_cons (ps_if (pt_cmpR op_isN (pv 1) pe_non (nomark _))
    (pss_one (ps_ret (pe_cmpR op_isN (pv 0) pe_non (nomark _))))
    pss_nil)
    (pss_cons (ps_if (pt_val (pe_callB call_isi (by rfl) T.n_isinstance (by decide +kernel) (pa_cons (pv 1) (pa_cons (pe_bltn (v := .ty "bool") (u := .type "bool") (by rfl) T.n_bool (by decide +kernel) rfl) pa_nil))))
    (pss_one (ps_ret (pe_and (pe_callB call_isi (by rfl) T.n_isinstance (by decide +kernel) (pa_cons (pv 0) (pa_cons (pe_bltn (v := .ty "bool") (u := .type "bool") (by rfl) T.n_bool (by decide +kernel) rfl) pa_nil))) (pe_one (pe_cmpR op_eq (pv 0) (pv 1) (nomark _))))))
    pss_nil)
    (pss_cons (ps_if (pt_val (pe_callB call_isi (by rfl) T.n_isinstance (by decide +kernel) (pa_cons (pv 1) (pa_cons (pe_bltn (v := .ty "str") (u := .type "str") (by rfl) T.n_str (by decide +kernel) rfl) pa_nil))))
    (pss_one (ps_ret (pe_and (pe_callB call_isi (by rfl) T.n_isinstance (by decide +kernel) (pa_cons (pv 0) (pa_cons (pe_bltn (v := .ty "str") (u := .type "str") (by rfl) T.n_str (by decide +kernel) rfl) pa_nil))) (pe_one (pe_cmpR op_eq (pv 0) (pv 1) (nomark _))))))
    pss_nil)
    (pss_one (ps_ret (pe_and (pe_callB call_isi (by rfl) T.n_isinstance (by decide +kernel) (pa_cons (pv 0) (pa_cons (pe_bltn (v := .ty "int") (u := .type "int") (by rfl) T.n_int (by decide +kernel) rfl) pa_nil))) (pe_and (pe_not (pe_callB call_isi (by rfl) T.n_isinstance (by decide +kernel) (pa_cons (pv 0) (pa_cons (pe_bltn (v := .ty "bool") (u := .type "bool") (by rfl) T.n_bool (by decide +kernel) rfl) pa_nil)))) (pe_one (pe_cmpR op_eq (pv 0) (pv 1) (nomark _))))))))))), ?_⟩
    walk_at "rd"
    intro t ht
    have sT : Same H _ := same_new ht (.tup [V.ty "tuple", V.ty "list"])
    have al' : Scal x y ∨ ∃ m p q xs ys, n = m + 1 ∧ x = .ref p ∧ y = .ref q ∧ ((SqT K H p xs ∧ SqT K H q ys) ∨ (SqL K H p xs ∧ SqL K H q ys)) ∧ xs.length = ys.length ∧ xs.length ≤ 100000 ∧ ∀ (i : Nat) (x' y' : V), xs[i]? = some x' → ys[i]? = some y' → Alike K m H x' y' := by
      cases n with
      | zero =>
        exact .inl (alike_zero al)
      | succ m =>
        rcases alike_succ al with al | ⟨p, q, xs, ys, r⟩
        · exact .inl al
        · exact .inr ⟨m, p, q, xs, ys, rfl, r⟩
    rcases al' with ⟨rfl, hk⟩ | ⟨m, p, q', xs, ys, rfl, rfl, rfl, hs, hl, hz, hi⟩
    · have isF : ∀ i : Int, decide (V.int i = V.non) = false := fun i => decide_eq_false (fun z => nomatch z)
      rcases hk with rfl | ⟨b, rfl⟩ | ⟨i, rfl⟩ | ⟨z, rfl⟩
      · refine ⟨_, _, _, _, _, false, by rfl, upd_same, cls_seq, ty_non, kit_seqN (by decide +kernel) (by decide +kernel), ?_⟩
        walk_at "rd"
        exact q _ sT
      · refine ⟨_, _, _, _, _, false, by rfl, upd_same, cls_seq, ty_bl, kit_seqN (by decide +kernel) (by decide +kernel), ?_⟩
        walk_at "rd"
        refine ⟨_, _, _, _, true, by rfl, .ty _, ty_bl, kit_ty (by decide +kernel), ?_⟩
        walk_at "rd"
        refine ⟨_, _, _, _, true, by rfl, .ty _, ty_bl, kit_ty (by decide +kernel), ?_⟩
        walk_at "rd"
        show Q (V.bl (decide (V.bl b = V.bl b))) _
        rw [decide_eq_true rfl]
        exact q _ sT
      · refine ⟨_, _, _, _, _, false, by rfl, upd_same, cls_seq, ty_int, kit_seqN (by decide +kernel) (by decide +kernel), ?_⟩
        walk_at "rd"
        refine ⟨_, _, _, _, false, by rfl, .ty _, ty_int, kit_ty (by decide +kernel), ?_⟩
        walk_at "rd"
        refine ⟨_, _, _, _, false, by rfl, .ty _, ty_int, kit_ty (by decide +kernel), ?_⟩
        walk_at "rd"
        refine ⟨_, _, _, _, true, by rfl, .ty _, ty_int, kit_ty (by decide +kernel), ?_⟩
        walk_at "rd"
        refine ⟨_, _, _, _, false, by rfl, .ty _, ty_int, kit_ty (by decide +kernel), ?_⟩
        walk_at "rd"
        show Q (V.bl (decide (V.int i = V.int i))) _
        rw [decide_eq_true rfl]
        exact q _ sT
      · refine ⟨_, _, _, _, _, false, by rfl, upd_same, cls_seq, ty_str, kit_seqN (by decide +kernel) (by decide +kernel), ?_⟩
        walk_at "rd"
        refine ⟨_, _, _, _, false, by rfl, .ty _, ty_str, kit_ty (by decide +kernel), ?_⟩
        walk_at "rd"
        refine ⟨_, _, _, _, true, by rfl, .ty _, ty_str, kit_ty (by decide +kernel), ?_⟩
        walk_at "rd"
        refine ⟨_, _, _, _, true, by rfl, .ty _, ty_str, kit_ty (by decide +kernel), ?_⟩
        walk_at "rd"
        show Q (V.bl (decide (V.str z = V.str z))) _
        rw [decide_eq_true rfl]
        exact q _ sT
    · obtain ⟨ty, b1, b2, hty, k1, k2, k3⟩ := kind_seq hs
      obtain ⟨tp, tq, lp, lq⟩ := hty _ sT
      refine ⟨_, _, _, _, _, true, by rfl, upd_same, cls_seq, tq, k1, ?_⟩
      walk_at "rd"
      refine ⟨_, _, _, _, b1, by rfl, .ty _, tp, k2, ?_⟩
      walk_at "rd"
      refine ⟨_, _, _, _, b1, by rfl, .ty _, tq, k2, ?_⟩
      walk_at "rd"
      refine not_self ?_
      walk_at "rd"
      refine ⟨_, _, _, _, b2, by rfl, .ty _, tp, k3, ?_⟩
      walk_at "rd"
      refine ⟨_, _, _, _, b2, by rfl, .ty _, tq, k3, ?_⟩
      walk_at "rd"
      refine not_self ?_
      walk_at "rd"
      refine ⟨_, _, by rfl, lp, ?_⟩
      walk_at "rd"
      refine ⟨_, _, by rfl, lq, ?_⟩
      walk_at "rd"
      refine iteNS (by rw [hl]) ?_
      walk_at "rd"
      refine ⟨_, _, by rfl, lq, ?_⟩
      walk_at "rd"
      rw [← hl]
      refine for_range (lo := 0) (n := xs.length) (fun i σ H' => ∃ v, σ = [some (.ref p), some (.ref q'), v] ∧ Same H H') ⟨none, rfl, sT⟩ ?_ ?_
      · rintro i σ H1 hi' ⟨v, rfl, s1⟩
        obtain ⟨_, _, lp, lq⟩ := hty _ s1
        have ex : xs[i]? = some xs[i] := List.getElem?_eq_getElem hi'
        have ey : ys[i]? = some (ys[i]'(by omega)) := List.getElem?_eq_getElem (by omega)
        rw [Int.zero_add]
        walk_at "rd"
        refine ix_any lp ex ?_
        walk_at "rd"
        refine ix_any lq ey ?_
        walk_at "rd"
        refine ⟨(hi i _ _ ex ey).same s1, fun H2 s2 => ?_⟩
        walk_at "rd"
        exact s1.trans s2
      · rintro σ H1 ⟨v, rfl, s1⟩
        walk_at "rd"
        exact q _ s1

abbrev s_law_added : Stmt := topS 11
theorem sc_law_added : FnScope ["a", "b", "total", "weight", "bit"] ["a", "b"] (defScope s_law_added) := ⟨rfl, rfl, rfl, by decide +kernel, rfl, by decide +kernel, by decide +kernel⟩
theorem ok_ladd {f : Addr} {fd : FuncData} {k : Nat} (F : Fun K "_law_added" "_law_added" s_law_added f fd) (T : Txt mg) : FnOk P w K mg base CX0 (k + 1) f fd ["a", "b"] (spSym2N fun a b => a ^^^ b) := by
  refine F.ok sc_law_added (fun vs H Q E h => ?_) (fun cdv A outer s H vs Q E hr h => ?_)
  · obtain ⟨a, b, rfl, _⟩ := h
    rfl
  · obtain ⟨a, b, rfl, ⟨ha, hb⟩, q⟩ := h
    refine ⟨_, (pss_cons (ps_set (i := 2) sc_law_added.nd rfl (Or.inl rfl) pe_int)
    (pss_cons (ps_for PassesOwn.never rfl (pi_list (pe_lst (pa_cons pe_int (pa_cons pe_int (pa_cons pe_int (pa_cons pe_int (pa_cons pe_int (pa_cons pe_int (pa_cons pe_int pa_nil))))))))) (pg_name (i := 3) sc_law_added.nd rfl (Or.inl rfl))
    (pss_cons (ps_set (i := 4) sc_law_added.nd rfl (Or.inl rfl) (pe_op op_add (pe_op op_fdiv (pv 0) (pv 3)) (pe_op op_fdiv (pv 1) (pv 3))))
    (pss_one (ps_set (i := 2) sc_law_added.nd rfl (Or.inl rfl) (pe_op op_add (pv 2) (pe_op op_mul (pe_op op_mod (pe_callTy call_int1 (by rfl) T.n_int (by decide +kernel) (pa_cons (pv 4) pa_nil)) pe_int) (pv 3)))))))
    (pss_one (ps_ret (pv 2))))), ?_⟩
    walk_at "rd"
    intro l hl
    have s1 : Same H _ := same_new hl (.lst (rowV [1, 2, 4, 8, 16, 32, 64]))
    refine ⟨_, rfl, ⟨_, .of upd_same⟩, for_list (xs := rowV [1, 2, 4, 8, 16, 32, 64]) (fun i σ H' => ∃ T v1 v2, σ = [some (.int (a : Int)), some (.int (b : Int)), some (.int T), v1, v2] ∧ T = ((([1, 2, 4, 8, 16, 32, 64] : List Nat).take i).foldl (laStep a b) 0 : Nat) ∧ H' = upd H l (.lst (rowV [1, 2, 4, 8, 16, 32, 64]))) ⟨_, _, _, rfl, rfl, rfl⟩ ?_ ?_ ?_⟩
    · rintro i σ H1 _ ⟨T, v1, v2, rfl, _, rfl⟩
      exact .of upd_same
    · rintro i x σ H1 hx ⟨T, v1, v2, rfl, eT, rfl⟩
      obtain ⟨n, hn, rfl⟩ := rowV_at hx
      have hn0 : 0 < n ∧ n < 128 := by
        have := List.mem_of_getElem? hn
        simp only [List.mem_cons, List.mem_nil_iff, or_false] at this
        omega
      walk_at "rd"
      refine ⟨_, _, _, rfl, ?_, rfl⟩
      rw [foldl_take _ _ hn, eT]
      show _ = ((laStep a b _ n : Nat) : Int)
      unfold laStep
      push_cast
      rfl
    · rintro σ H1 ⟨T, v1, v2, rfl, eT, rfl⟩
      walk_at "rd"
      have e : ([1, 2, 4, 8, 16, 32, 64] : List Nat).take (rowV [1, 2, 4, 8, 16, 32, 64]).length = [1, 2, 4, 8, 16, 32, 64] := rfl
      rw [e, show (([1, 2, 4, 8, 16, 32, 64] : List Nat).foldl (laStep a b) 0) = ladd a b from rfl, ladd_xor ha hb] at eT
      rw [eT]
      exact q _ s1

abbrev s_law_times : Stmt := topS 12
theorem sc_law_times : FnScope ["a", "b", "total", "left", "one", "k"] ["a", "b"] (defScope s_law_times) := ⟨rfl, rfl, rfl, by decide +kernel, rfl, by decide +kernel, by decide +kernel⟩
theorem ok_ltimes {f : Addr} {fd : FuncData} {k : Nat} (F : Fun K "_law_times" "_law_times" s_law_times f fd) (T : Txt mg) : FnOk P w K mg base CX0 (k + 1) f fd ["a", "b"] (spSym2 mul) := by
  refine F.ok sc_law_times (fun vs H Q E h => ?_) (fun cdv A outer s H vs Q E hr h => ?_)
  · obtain ⟨a, b, rfl, _⟩ := h
    rfl
  · obtain ⟨a, b, rfl, ⟨ha, hb⟩, q⟩ := h
    refine ⟨_, (pss_cons (ps_set (i := 2) sc_law_times.nd rfl (Or.inl rfl) pe_int)
    (pss_cons (ps_set (i := 3) sc_law_times.nd rfl (Or.inl rfl) (pv 1))
    (pss_cons (ps_set (i := 4) sc_law_times.nd rfl (Or.inl rfl) (pv 0))
    (pss_cons (ps_for PassesOwn.never rfl (pi_range1 (by rfl) T.n_range (pa_cons pe_int pa_nil)) (pg_name (i := 5) sc_law_times.nd rfl (Or.inl rfl))
    (pss_cons (ps_if (pt_cmpR op_eq (pe_op op_mod (pe_callTy call_int1 (by rfl) T.n_int (by decide +kernel) (pa_cons (pv 3) pa_nil)) pe_int) pe_int (nomark _))
    (pss_one (ps_set (i := 2) sc_law_times.nd rfl (Or.inl rfl) (pe_op op_xor (pv 2) (pv 4))))
    pss_nil)
    (pss_cons (ps_set (i := 3) sc_law_times.nd rfl (Or.inl rfl) (pe_op op_fdiv (pv 3) pe_int))
    (pss_cons (ps_set (i := 4) sc_law_times.nd rfl (Or.inl rfl) (pe_op op_mul pe_int (pv 4)))
    (pss_one (ps_if (pt_cmpR op_gt (pv 4) pe_int (nomark _))
    (pss_one (ps_set (i := 4) sc_law_times.nd rfl (Or.inl rfl) (pe_op op_xor (pv 4) pe_int)))
    pss_nil))))))
    (pss_one (ps_ret (pv 2))))))), ?_⟩
    walk_at "rd"
    refine for_range (lo := 0) (n := 7) (fun i σ H' => ∃ t l o v, σ = [some (.int (a : Int)), some (.int (b : Int)), some (.int t), some (.int l), some (.int o), v] ∧ (t = ((ltRun i (0, b, a)).1 : Nat) ∧ l = ((ltRun i (0, b, a)).2.1 : Nat) ∧ o = ((ltRun i (0, b, a)).2.2 : Nat)) ∧ H' = H) ⟨_, _, _, _, rfl, ⟨rfl, rfl, rfl⟩, rfl⟩ ?_ ?_
    · rintro i σ H1 _ ⟨t, l, o, v, rfl, ⟨et, el, eo⟩, rfl⟩
      have hb2 := ltRun_lt (b := b) ha i
      have es : ltRun (i + 1) (0, b, a) = ltStep (ltRun i (0, b, a)) := rfl
      rw [es]
      generalize ltRun i (0, b, a) = u at et el eo hb2 ⊢
      obtain ⟨t', l', o'⟩ := u
      dsimp only at et el eo hb2
      subst et el eo
      walk_at "rd"
      have e2 : ltStep (t', l', o') = (cond (l' % 2 == 1) (t' ^^^ o') t', l' / 2, cond (Nat.ble 128 (2 * o')) ((2 * o') ^^^ 131) (2 * o')) := rfl
      rw [e2]
      dsimp only
      have ex : Builtin.bitXor (2 * (o' : Int)) 131 = (((2 * o') ^^^ 131 : Nat) : Int) := xor_cast (2 * o') 131
      refine ite2 (fun c1 => ?_) (fun c1 => ?_)
      · have c1' := vint_eq c1
        have h1 : (l' % 2 == 1) = true := beq_iff_eq.mpr (by omega)
        walk_at "rd"
        refine ite2 (fun c2 => ?_) (fun c2 => ?_)
        · have c2' := of_decide_eq_true c2
          have h2 : Nat.ble 128 (2 * o') = true := Nat.ble_eq_true_of_le (by omega)
          walk_at "rd"
          refine ⟨_, _, _, _, rfl, ⟨?_, by omega, ?_⟩, rfl⟩
          · rw [h1, xor_cast] <;> rfl
          · rw [h2, ex] <;> rfl
        · have c2' := dec_ne c2
          have h2 : Nat.ble 128 (2 * o') = false := Bool.eq_false_iff.mpr fun z => by have := Nat.le_of_ble_eq_true z; omega
          walk_at "rd"
          refine ⟨_, _, _, _, rfl, ⟨?_, by omega, ?_⟩, rfl⟩
          · rw [h1, xor_cast] <;> rfl
          · rw [h2] <;> rfl
      · have c1' := vint_ne c1
        have h1 : (l' % 2 == 1) = false := beq_eq_false_iff_ne.mpr (by omega)
        walk_at "rd"
        refine ite2 (fun c2 => ?_) (fun c2 => ?_)
        · have c2' := of_decide_eq_true c2
          have h2 : Nat.ble 128 (2 * o') = true := Nat.ble_eq_true_of_le (by omega)
          walk_at "rd"
          refine ⟨_, _, _, _, rfl, ⟨?_, by omega, ?_⟩, rfl⟩
          · rw [h1] <;> rfl
          · rw [h2, ex] <;> rfl
        · have c2' := dec_ne c2
          have h2 : Nat.ble 128 (2 * o') = false := Bool.eq_false_iff.mpr fun z => by have := Nat.le_of_ble_eq_true z; omega
          walk_at "rd"
          refine ⟨_, _, _, _, rfl, ⟨?_, by omega, ?_⟩, rfl⟩
          · rw [h1] <;> rfl
          · rw [h2] <;> rfl
    · rintro σ H1 ⟨t, l, o, v, rfl, ⟨et, _, _⟩, rfl⟩
      walk_at "rd"
      rw [et, show (ltRun 7 (0, b, a)).1 = ltimes a b from rfl, ltimes_mul ha hb]
      exact q

abbrev s_law_pair : Stmt := topS 13
theorem sc_law_pair : FnScope ["a", "b", "due"] ["a", "b"] (defScope s_law_pair) := ⟨rfl, rfl, rfl, by decide +kernel, rfl, by decide +kernel, by decide +kernel⟩
theorem ok_pair {f : Addr} {fd : FuncData} {k : Nat} (F : Fun K "_law_pair" "_law_pair" s_law_pair f fd) (T : Txt mg)
    (c_law_added : Called P w K mg base CX0 "_law_added" k ["a", "b"] (spSym2N fun a b => a ^^^ b)) (c_law_times : Called P w K mg base CX0 "_law_times" k ["a", "b"] (spSym2 mul))
    (c_added : Called P w K mg base CX0 "added" k ["a", "b"] (spSym2 fun a b => a ^^^ b)) (c_times : Called P w K mg base CX0 "times" k ["a", "b"] (spSym2 mul))
    (c_law_alike : Called P w K mg base CX0 "_law_alike" k ["told", "due"] (spA K 2)) : FnOk P w K mg base CX0 (k + 1) f fd ["a", "b"] (fun vs H Q _ => ∃ a b : Nat, vs = [.int (a : Int), .int (b : Int)] ∧ (a < 128 ∧ b < 128) ∧ ∀ H', Same H H' → Q (.bl true) H') := by
  refine F.ok sc_law_pair (fun vs H Q E h => ?_) (fun cdv A outer s H vs Q E hr h => ?_)
  · obtain ⟨a, b, rfl, _⟩ := h
    rfl
  · obtain ⟨a, b, rfl, ⟨ha, hb⟩, q⟩ := h
    refine ⟨_, (pss_cons (ps_set (i := 2) sc_law_pair.nd rfl (Or.inl rfl) (pe_lst (pa_cons (pe_own c_law_added hr (by rfl) pass0 (pa_cons (pv 0) (pa_cons (pv 1) pa_nil))) (pa_cons (pe_own c_law_times hr (by rfl) pass0 (pa_cons (pv 0) (pa_cons (pv 1) pa_nil))) pa_nil))))
    (pss_one (ps_ret (pe_and (pe_own c_law_alike hr (by rfl) pass0 (pa_cons (pe_lst (pa_cons (pe_own c_added hr (by rfl) pass0 (pa_cons (pv 0) (pa_cons (pv 1) pa_nil))) (pa_cons (pe_own c_times hr (by rfl) pass0 (pa_cons (pv 0) (pa_cons (pv 1) pa_nil))) pa_nil))) (pa_cons (pv 2) pa_nil))) (pe_one (pe_own c_law_alike hr (by rfl) pass0 (pa_cons (pe_lst (pa_cons (pe_own c_added hr (by rfl) pass0 (pa_cons (pv 1) (pa_cons (pv 0) pa_nil))) (pa_cons (pe_own c_times hr (by rfl) pass0 (pa_cons (pv 1) (pa_cons (pv 0) pa_nil))) pa_nil))) (pa_cons (pv 2) pa_nil)))))))), ?_⟩
    walk_at "rd"
    intro H1 s1
    walk_at "rd"
    intro l nl
    have s2 : Same H1 _ := same_new nl (.lst [V.int (a ^^^ b : Nat), V.int (mul a b : Nat)])
    have dl : SqL K (upd H1 l (.lst [V.int (a ^^^ b : Nat), V.int (mul a b : Nat)])) l [V.int (a ^^^ b : Nat), V.int (mul a b : Nat)] := .of upd_same
    walk_at "rd"
    intro l2 nl2
    have s3 : Same _ _ := same_new nl2 (.lst [V.int (a ^^^ b : Nat), V.int (mul a b : Nat)])
    walk_at "rd"
    refine ⟨Alike.two (.inr ⟨.of upd_same, s3.seq dl⟩) Alike.int Alike.int, fun H2 s4 => ?_⟩
    walk_at "rd"
    have dl2 := s4.seq (s3.seq dl)
    intro l3 nl3
    have s5 : Same _ _ := same_new nl3 (.lst [V.int (b ^^^ a : Nat), V.int (mul b a : Nat)])
    walk_at "rd"
    have e1 : b ^^^ a = a ^^^ b := Nat.xor_comm b a
    have e2 : mul b a = mul a b := mul_comm b a
    refine ⟨Alike.two (.inr ⟨.of upd_same, s5.seq dl2⟩) (Alike.nat e1) (Alike.nat e2), fun H3 s6 => ?_⟩
    walk_at "rd"
    exact q _ (s1.trans (s2.trans (s3.trans (s4.trans (s5.trans s6)))))

abbrev s_law : Stmt := topS 14
theorem sc_law : FnScope ["script", "a", "first", "c", "b"] ["script"] (defScope s_law) := ⟨rfl, rfl, rfl, by decide +kernel, rfl, by decide +kernel, by decide +kernel⟩
def spPair : Sp := fun vs H Q _ => ∃ a b : Nat, vs = [.int (a : Int), .int (b : Int)] ∧ (a < 128 ∧ b < 128) ∧ ∀ H', Same H H' → Q (.bl true) H'
theorem ok_law {f : Addr} {fd : FuncData} {k : Nat} (F : Fun K "law" "law" s_law f fd) (T : Txt mg) (m_MODULUS : ∃ t, mg "MODULUS" = some (.int 131 t))
    (c_law_cell : Called P w K mg base CX0 "_law_cell" k ["script", "k"] (spCell K)) (c_law_mix : Called P w K mg base CX0 "_law_mix" k ["cell", "salt"] spMix)
    (c_law_added : Called P w K mg base CX0 "_law_added" k ["a", "b"] (spSym2N fun a b => a ^^^ b)) (c_law_times : Called P w K mg base CX0 "_law_times" k ["a", "b"] (spSym2 mul))
    (c_added : Called P w K mg base CX0 "added" k ["a", "b"] (spSym2 fun a b => a ^^^ b)) (c_times : Called P w K mg base CX0 "times" k ["a", "b"] (spSym2 mul))
    (kb_added_a_b : CalledK P w K mg base CX0 "added" k ["a", "b"] ["a", "b"] gSame (spSym2 fun a b => a ^^^ b)) (kb_times_b_a : CalledK P w K mg base CX0 "times" k ["a", "b"] ["b", "a"] gSwap (spSym2 mul))
    (c_law_alike : Called P w K mg base CX0 "_law_alike" k ["told", "due"] (spA K 2)) (c_law_pair : Called P w K mg base CX0 "_law_pair" k ["a", "b"] spPair) : FnOk P w K mg base CX0 (k + 1) f fd ["script"] (spLaw K) := by
  refine F.ok sc_law (fun vs H Q E h => ?_) (fun cdv A outer s H vs Q E hr h => ?_)
  · obtain ⟨a, b, rfl, _⟩ := h
    rfl
  · obtain ⟨l, ns, rfl, hl, hn, q⟩ := h
    obtain ⟨tM, m_MODULUS⟩ := m_MODULUS
    refine ⟨_, (pss_cons (ps_set (i := 1) sc_law.nd rfl (Or.inl rfl) (pe_op op_modI (pe_callTy call_int1 (by rfl) T.n_int (by decide +kernel) (pa_cons (pe_own c_law_cell hr (by rfl) pass0 (pa_cons (pv 0) (pa_cons pe_int pa_nil))) pa_nil)) pe_int))
    (pss_cons (ps_set (i := 2) sc_law.nd rfl (Or.inl rfl) (pe_own c_law_mix hr (by rfl) pass0 (pa_cons (pe_own c_law_cell hr (by rfl) pass0 (pa_cons (pv 0) (pa_cons pe_int pa_nil))) (pa_cons pe_int pa_nil))))
    (pss_cons (ps_set (i := 3) sc_law.nd rfl (Or.inl rfl) (pe_op op_modI (pe_callTy call_int1 (by rfl) T.n_int (by decide +kernel) (pa_cons (pv 2) pa_nil)) pe_int))
    (pss_cons (ps_if (pt_not (pt_val (pe_own c_law_alike hr (by rfl) pass0 (pa_cons (pe_glob (v := .int 131) rfl m_MODULUS ⟨_, rfl⟩) (pa_cons pe_int pa_nil)))))
    (pss_one (ps_ret pe_bl))
    pss_nil)
    (pss_cons (ps_for PassesOwn.never rfl (pi_range1 (by rfl) T.n_range (pa_cons pe_int pa_nil)) (pg_name (i := 4) sc_law.nd rfl (Or.inl rfl))
    (pss_one (ps_if (pt_not (pt_val (pe_own c_law_pair hr (by rfl) pass0 (pa_cons (pv 1) (pa_cons (pv 4) pa_nil)))))
    (pss_one (ps_ret pe_bl))
    pss_nil)))
    (pss_cons (ps_set (i := 4) sc_law.nd rfl (Or.inl rfl) (pe_op op_modI (pe_callTy call_int1 (by rfl) T.n_int (by decide +kernel) (pa_cons (pe_own c_law_cell hr (by rfl) pass0 (pa_cons (pv 0) (pa_cons pe_int pa_nil))) pa_nil)) pe_int))
    (pss_cons (ps_if (pt_not (pt_val (pe_own c_law_alike hr (by rfl) pass0 (pa_cons (pe_lst (pa_cons (pe_ownK kb_added_a_b hr (by rfl) pass0 (pk_cons (pv 1) (pk_cons (pv 3) pk_nil))) (pa_cons (pe_ownK kb_times_b_a hr (by rfl) pass0 (pk_cons (pv 1) (pk_cons (pv 3) pk_nil))) pa_nil))) (pa_cons (pe_lst (pa_cons (pe_own c_law_added hr (by rfl) pass0 (pa_cons (pv 1) (pa_cons (pv 3) pa_nil))) (pa_cons (pe_own c_law_times hr (by rfl) pass0 (pa_cons (pv 3) (pa_cons (pv 1) pa_nil))) pa_nil))) pa_nil)))))
    (pss_one (ps_ret pe_bl))
    pss_nil)
    (pss_cons (ps_if (pt_not (pt_val (pe_own c_law_alike hr (by rfl) pass0 (pa_cons (pe_own c_times hr (by rfl) pass0 (pa_cons (pv 3) (pa_cons (pe_own c_added hr (by rfl) pass0 (pa_cons (pv 1) (pa_cons (pv 4) pa_nil))) pa_nil))) (pa_cons (pe_own c_law_added hr (by rfl) pass0 (pa_cons (pe_own c_law_times hr (by rfl) pass0 (pa_cons (pv 3) (pa_cons (pv 1) pa_nil))) (pa_cons (pe_own c_law_times hr (by rfl) pass0 (pa_cons (pv 3) (pa_cons (pv 4) pa_nil))) pa_nil))) pa_nil)))))
    (pss_one (ps_ret pe_bl))
    pss_nil)
    (pss_one (ps_ret (pe_and (pe_own c_law_alike hr (by rfl) pass0 (pa_cons (pe_own c_times hr (by rfl) pass0 (pa_cons (pe_own c_times hr (by rfl) pass0 (pa_cons (pv 1) (pa_cons (pv 4) pa_nil))) (pa_cons (pv 3) pa_nil))) (pa_cons (pe_own c_times hr (by rfl) pass0 (pa_cons (pv 1) (pa_cons (pe_own c_times hr (by rfl) pass0 (pa_cons (pv 4) (pa_cons (pv 3) pa_nil))) pa_nil))) pa_nil))) (pe_one (pe_own c_law_pair hr (by rfl) pass0 (pa_cons (pv 4) (pa_cons (pv 3) pa_nil))))))))))))))), ?_⟩
    walk_at "rd"
    refine ⟨_, ns, 0, by rfl, hl, ?_⟩
    walk_at "rd"
    refine ⟨_, ns, 1, by rfl, hl, ?_⟩
    walk_at "rd"
    refine ⟨Alike.int, fun H1 s1 => ?_⟩
    walk_at "rd"
    refine for_range (lo := 0) (n := 128) (fun i σ H' => ∃ v, σ = [some (.ref l), some (.int ((cellOf ns 0 % 128).toNat : Nat)), some (.int (mix (cellOf ns 1) 1)), some (.int ((mix (cellOf ns 1) 1 % 128).toNat : Nat)), v] ∧ Same H H') ⟨none, rfl, s1⟩ ?_ ?_
    · rintro i σ H2 hi ⟨v, rfl, s2⟩
      rw [Int.zero_add]
      walk_at "rd"
      intro H3 s3
      walk_at "rd"
      exact s2.trans s3
    · have ha : (cellOf ns 0 % 128).toNat < 128 := by omega
      have hc : (mix (cellOf ns 1) 1 % 128).toNat < 128 := by omega
      have hb : (cellOf ns 2 % 128).toNat < 128 := by omega
      generalize (cellOf ns 0 % 128).toNat = a at ha ⊢
      generalize (mix (cellOf ns 1) 1 % 128).toNat = c at hc ⊢
      rintro σ H2 ⟨v, rfl, s2⟩
      walk_at "rd"
      refine ⟨_, ns, 2, by rfl, s2.seq hl, ?_⟩
      walk_at "rd"
      intro d1 nd1
      have s3 : Same H2 _ := same_new nd1 (.lst [V.int (a ^^^ c : Nat), V.int (mul c a : Nat)])
      walk_at "rd"
      intro H3 s4
      walk_at "rd"
      intro d2 nd2
      have s5 : Same H3 _ := same_new nd2 (.lst [V.int (a ^^^ c : Nat), V.int (mul c a : Nat)])
      walk_at "rd"
      have dl : SqL K (upd H2 d1 (.lst [V.int (a ^^^ c : Nat), V.int (mul c a : Nat)])) d1 [V.int (a ^^^ c : Nat), V.int (mul c a : Nat)] := .of upd_same
      refine ⟨Alike.two (.inr ⟨s5.seq (s4.seq dl), .of upd_same⟩) Alike.int Alike.int, fun H4 s6 => ?_⟩
      walk_at "rd"
      intro H5 s7
      walk_at "rd"
      refine ⟨Alike.nat (mul_xor hc ha hb), fun H6 s8 => ?_⟩
      walk_at "rd"
      refine ⟨Alike.nat (mul_assoc _ _ _), fun H7 s9 => ?_⟩
      walk_at "rd"
      intro H8 s10
      exact q _

end
theorem all_mk {l : PySem.W.OpenLaw} {w : World} {K : PySem.W.Frag} {h : Heap} {mg : Str → Option Value} {fa : Addr} (X : K.In h) (G : h.Ns mainGlobals mg) (hfa : mg "law" = some (.ref fa))
    {f_added : Addr} {od_added an_added : Option Addr} {sl_added : Array (Option Value)} {oc_added kV_added dc_added pm_added cd_added ct_added : Value}
    {f_times : Addr} {od_times an_times : Option Addr} {sl_times : Array (Option Value)} {oc_times kV_times dc_times pm_times cd_times ct_times : Value}
    {f_law_cell : Addr} {od_law_cell an_law_cell : Option Addr} {sl_law_cell : Array (Option Value)} {oc_law_cell kV_law_cell dc_law_cell pm_law_cell cd_law_cell ct_law_cell : Value}
    {f_law_mix : Addr} {od_law_mix an_law_mix : Option Addr} {sl_law_mix : Array (Option Value)} {oc_law_mix kV_law_mix dc_law_mix pm_law_mix cd_law_mix ct_law_mix : Value}
    {f_law_alike : Addr} {od_law_alike an_law_alike : Option Addr} {sl_law_alike : Array (Option Value)} {oc_law_alike kV_law_alike dc_law_alike pm_law_alike cd_law_alike ct_law_alike : Value}
    {f_law_added : Addr} {od_law_added an_law_added : Option Addr} {sl_law_added : Array (Option Value)} {oc_law_added kV_law_added dc_law_added pm_law_added cd_law_added ct_law_added : Value}
    {f_law_times : Addr} {od_law_times an_law_times : Option Addr} {sl_law_times : Array (Option Value)} {oc_law_times kV_law_times dc_law_times pm_law_times cd_law_times ct_law_times : Value}
    {f_law_pair : Addr} {od_law_pair an_law_pair : Option Addr} {sl_law_pair : Array (Option Value)} {oc_law_pair kV_law_pair dc_law_pair pm_law_pair cd_law_pair ct_law_pair : Value}
    {f_law : Addr} {od_law an_law : Option Addr} {sl_law : Array (Option Value)} {oc_law kV_law dc_law pm_law cd_law ct_law : Value}
    {t_MODULUS : Tok}
    {t_ORDER : Tok}
    {a_POWERS : Addr} {d_POWERS : Option Addr} {i_POWERS : Array Value} {n_POWERS : Nat} {s_POWERS : Array (Option Value)}
    {a_LOGARITHMS : Addr} {d_LOGARITHMS : Option Addr} {i_LOGARITHMS : Array Value} {n_LOGARITHMS : Nat} {s_LOGARITHMS : Array (Option Value)}
    (a_added : PySem.W.nsIn K mainGlobals "added" = some (some (.ref f_added)))
    (l_added : K.lookup f_added = some ⟨oc_added, od_added, .func (PySem.W.fnOf "added" "added" (defArgs s_added) (defBody s_added) (defScope s_added) .none kV_added dc_added pm_added an_added cd_added ct_added), sl_added⟩)
    (c_added : PySem.W.codeIn K cd_added "added" = true)
    (k_added : PySem.W.keepIn K (.ref f_added) = true)
    (a_times : PySem.W.nsIn K mainGlobals "times" = some (some (.ref f_times)))
    (l_times : K.lookup f_times = some ⟨oc_times, od_times, .func (PySem.W.fnOf "times" "times" (defArgs s_times) (defBody s_times) (defScope s_times) .none kV_times dc_times pm_times an_times cd_times ct_times), sl_times⟩)
    (c_times : PySem.W.codeIn K cd_times "times" = true)
    (k_times : PySem.W.keepIn K (.ref f_times) = true)
    (a_law_cell : PySem.W.nsIn K mainGlobals "_law_cell" = some (some (.ref f_law_cell)))
    (l_law_cell : K.lookup f_law_cell = some ⟨oc_law_cell, od_law_cell, .func (PySem.W.fnOf "_law_cell" "_law_cell" (defArgs s_law_cell) (defBody s_law_cell) (defScope s_law_cell) .none kV_law_cell dc_law_cell pm_law_cell an_law_cell cd_law_cell ct_law_cell), sl_law_cell⟩)
    (c_law_cell : PySem.W.codeIn K cd_law_cell "_law_cell" = true)
    (k_law_cell : PySem.W.keepIn K (.ref f_law_cell) = true)
    (a_law_mix : PySem.W.nsIn K mainGlobals "_law_mix" = some (some (.ref f_law_mix)))
    (l_law_mix : K.lookup f_law_mix = some ⟨oc_law_mix, od_law_mix, .func (PySem.W.fnOf "_law_mix" "_law_mix" (defArgs s_law_mix) (defBody s_law_mix) (defScope s_law_mix) .none kV_law_mix dc_law_mix pm_law_mix an_law_mix cd_law_mix ct_law_mix), sl_law_mix⟩)
    (c_law_mix : PySem.W.codeIn K cd_law_mix "_law_mix" = true)
    (k_law_mix : PySem.W.keepIn K (.ref f_law_mix) = true)
    (a_law_alike : PySem.W.nsIn K mainGlobals "_law_alike" = some (some (.ref f_law_alike)))
    (l_law_alike : K.lookup f_law_alike = some ⟨oc_law_alike, od_law_alike, .func (PySem.W.fnOf "_law_alike" "_law_alike" (defArgs s_law_alike) (defBody s_law_alike) (defScope s_law_alike) .none kV_law_alike dc_law_alike pm_law_alike an_law_alike cd_law_alike ct_law_alike), sl_law_alike⟩)
    (c_law_alike : PySem.W.codeIn K cd_law_alike "_law_alike" = true)
    (k_law_alike : PySem.W.keepIn K (.ref f_law_alike) = true)
    (a_law_added : PySem.W.nsIn K mainGlobals "_law_added" = some (some (.ref f_law_added)))
    (l_law_added : K.lookup f_law_added = some ⟨oc_law_added, od_law_added, .func (PySem.W.fnOf "_law_added" "_law_added" (defArgs s_law_added) (defBody s_law_added) (defScope s_law_added) .none kV_law_added dc_law_added pm_law_added an_law_added cd_law_added ct_law_added), sl_law_added⟩)
    (c_law_added : PySem.W.codeIn K cd_law_added "_law_added" = true)
    (k_law_added : PySem.W.keepIn K (.ref f_law_added) = true)
    (a_law_times : PySem.W.nsIn K mainGlobals "_law_times" = some (some (.ref f_law_times)))
    (l_law_times : K.lookup f_law_times = some ⟨oc_law_times, od_law_times, .func (PySem.W.fnOf "_law_times" "_law_times" (defArgs s_law_times) (defBody s_law_times) (defScope s_law_times) .none kV_law_times dc_law_times pm_law_times an_law_times cd_law_times ct_law_times), sl_law_times⟩)
    (c_law_times : PySem.W.codeIn K cd_law_times "_law_times" = true)
    (k_law_times : PySem.W.keepIn K (.ref f_law_times) = true)
    (a_law_pair : PySem.W.nsIn K mainGlobals "_law_pair" = some (some (.ref f_law_pair)))
    (l_law_pair : K.lookup f_law_pair = some ⟨oc_law_pair, od_law_pair, .func (PySem.W.fnOf "_law_pair" "_law_pair" (defArgs s_law_pair) (defBody s_law_pair) (defScope s_law_pair) .none kV_law_pair dc_law_pair pm_law_pair an_law_pair cd_law_pair ct_law_pair), sl_law_pair⟩)
    (c_law_pair : PySem.W.codeIn K cd_law_pair "_law_pair" = true)
    (k_law_pair : PySem.W.keepIn K (.ref f_law_pair) = true)
    (a_law : PySem.W.nsIn K mainGlobals "law" = some (some (.ref f_law)))
    (l_law : K.lookup f_law = some ⟨oc_law, od_law, .func (PySem.W.fnOf "law" "law" (defArgs s_law) (defBody s_law) (defScope s_law) .none kV_law dc_law pm_law an_law cd_law ct_law), sl_law⟩)
    (c_law : PySem.W.codeIn K cd_law "law" = true)
    (k_law : PySem.W.keepIn K (.ref f_law) = true)
    (g_MODULUS : PySem.W.nsIn K mainGlobals "MODULUS" = some (some (.int 131 t_MODULUS)))
    (g_ORDER : PySem.W.nsIn K mainGlobals "ORDER" = some (some (.int 127 t_ORDER)))
    (g_POWERS : PySem.W.nsIn K mainGlobals "POWERS" = some (some (.ref a_POWERS)))
    (l_POWERS : K.lookup a_POWERS = some ⟨.type "tuple", d_POWERS, .seq i_POWERS n_POWERS, s_POWERS⟩)
    (v_POWERS : i_POWERS.toList.map absV = (rowV powL).map some)
    (z_POWERS : i_POWERS.toList.length ≤ 1000)
    (g_LOGARITHMS : PySem.W.nsIn K mainGlobals "LOGARITHMS" = some (some (.ref a_LOGARITHMS)))
    (l_LOGARITHMS : K.lookup a_LOGARITHMS = some ⟨.type "tuple", d_LOGARITHMS, .seq i_LOGARITHMS n_LOGARITHMS, s_LOGARITHMS⟩)
    (v_LOGARITHMS : i_LOGARITHMS.toList.map absV = (rowV lgL).map some)
    (z_LOGARITHMS : i_LOGARITHMS.toList.length ≤ 1000)
    (z_bool : PySem.W.nsIn K mainGlobals "bool" = some none)
    (z_int : PySem.W.nsIn K mainGlobals "int" = some none)
    (z_isinstance : PySem.W.nsIn K mainGlobals "isinstance" = some none)
    (z_len : PySem.W.nsIn K mainGlobals "len" = some none)
    (z_list : PySem.W.nsIn K mainGlobals "list" = some none)
    (z_range : PySem.W.nsIn K mainGlobals "range" = some none)
    (z_str : PySem.W.nsIn K mainGlobals "str" = some none)
    (z_tuple : PySem.W.nsIn K mainGlobals "tuple" = some none) :
    ∃ fd : FuncData, (∀ (s : Shared) (v : Value), BindsTo s fd ⟨[v], []⟩ [("script", v)]) ∧ ∀ base : Heap, K.In base → base.Ns mainGlobals mg → FnOk l.prog w K mg base CX0 4 fa fd ["script"] (spLaw K) := by
  have e := hfa.symm.trans (PySem.W.mg_of X G a_law)
  cases e
  have T : Txt mg := ⟨PySem.W.mg_none_of X G z_bool, PySem.W.mg_none_of X G z_int, PySem.W.mg_none_of X G z_isinstance, PySem.W.mg_none_of X G z_len, PySem.W.mg_none_of X G z_list, PySem.W.mg_none_of X G z_range, PySem.W.mg_none_of X G z_str, PySem.W.mg_none_of X G z_tuple⟩
  have m_MODULUS := PySem.W.mg_of X G g_MODULUS
  have m_ORDER := PySem.W.mg_of X G g_ORDER
  have m_POWERS := PySem.W.mg_of X G g_POWERS
  have v_POWERS := tup_written l_POWERS v_POWERS z_POWERS
  have m_LOGARITHMS := PySem.W.mg_of X G g_LOGARITHMS
  have v_LOGARITHMS := tup_written l_LOGARITHMS v_LOGARITHMS z_LOGARITHMS
  have F_added := fun_mk (st := s_added) l_added c_added k_added
  have m_added := PySem.W.mg_of X G a_added
  have b_added := F_added.binds (ps := ["a", "b"]) fun _ _ _ _ _ _ us hl => match us, hl with | [_, _], _ => rfl
  have F_times := fun_mk (st := s_times) l_times c_times k_times
  have m_times := PySem.W.mg_of X G a_times
  have b_times := F_times.binds (ps := ["a", "b"]) fun _ _ _ _ _ _ us hl => match us, hl with | [_, _], _ => rfl
  have F_law_cell := fun_mk (st := s_law_cell) l_law_cell c_law_cell k_law_cell
  have m_law_cell := PySem.W.mg_of X G a_law_cell
  have b_law_cell := F_law_cell.binds (ps := ["script", "k"]) fun _ _ _ _ _ _ us hl => match us, hl with | [_, _], _ => rfl
  have F_law_mix := fun_mk (st := s_law_mix) l_law_mix c_law_mix k_law_mix
  have m_law_mix := PySem.W.mg_of X G a_law_mix
  have b_law_mix := F_law_mix.binds (ps := ["cell", "salt"]) fun _ _ _ _ _ _ us hl => match us, hl with | [_, _], _ => rfl
  have F_law_alike := fun_mk (st := s_law_alike) l_law_alike c_law_alike k_law_alike
  have m_law_alike := PySem.W.mg_of X G a_law_alike
  have b_law_alike := F_law_alike.binds (ps := ["told", "due"]) fun _ _ _ _ _ _ us hl => match us, hl with | [_, _], _ => rfl
  have F_law_added := fun_mk (st := s_law_added) l_law_added c_law_added k_law_added
  have m_law_added := PySem.W.mg_of X G a_law_added
  have b_law_added := F_law_added.binds (ps := ["a", "b"]) fun _ _ _ _ _ _ us hl => match us, hl with | [_, _], _ => rfl
  have F_law_times := fun_mk (st := s_law_times) l_law_times c_law_times k_law_times
  have m_law_times := PySem.W.mg_of X G a_law_times
  have b_law_times := F_law_times.binds (ps := ["a", "b"]) fun _ _ _ _ _ _ us hl => match us, hl with | [_, _], _ => rfl
  have F_law_pair := fun_mk (st := s_law_pair) l_law_pair c_law_pair k_law_pair
  have m_law_pair := PySem.W.mg_of X G a_law_pair
  have b_law_pair := F_law_pair.binds (ps := ["a", "b"]) fun _ _ _ _ _ _ us hl => match us, hl with | [_, _], _ => rfl
  have F_law := fun_mk (st := s_law) l_law c_law k_law
  have m_law := PySem.W.mg_of X G a_law
  have b_law := F_law.binds (ps := ["script"]) fun _ _ _ _ _ _ us hl => match us, hl with | [_], _ => rfl
  refine ⟨PySem.W.fnOf "law" "law" (defArgs s_law) (defBody s_law) (defScope s_law) .none kV_law dc_law pm_law an_law cd_law ct_law, fun s v => .of_eq rfl, fun base _ _ => ?_⟩
  have B : Tabs K mg powL lgL := ⟨⟨_, m_POWERS, v_POWERS⟩, ⟨_, m_LOGARITHMS, v_LOGARITHMS⟩, ⟨_, m_ORDER⟩⟩
  have c_alike0 := called (P := l.prog) (w := w) (base := base) F_law_alike m_law_alike b_law_alike (spA_no (K := K))
  have c_alike1 := called F_law_alike m_law_alike b_law_alike (ok_alike F_law_alike T c_alike0)
  have c_alike2 := called F_law_alike m_law_alike b_law_alike (ok_alike F_law_alike T c_alike1)
  have kb1 : KBinds K _ ["a", "b"] ["a", "b"] gSame gSame := kb_same F_added (fun h => nomatch h) fun _ _ _ _ _ _ us hl => match us, hl with | [_, _], _ => rfl
  have kb2 : KBinds K _ ["a", "b"] ["b", "a"] gSwap gSwap := kb_swap F_times fun _ _ _ _ _ _ _ _ => rfl
  refine ok_law F_law T ⟨_, m_MODULUS⟩ (called F_law_cell m_law_cell b_law_cell (ok_cell F_law_cell T)) (called F_law_mix m_law_mix b_law_mix (ok_mix F_law_mix T))
    (called F_law_added m_law_added b_law_added (ok_ladd F_law_added T)) (called F_law_times m_law_times b_law_times (ok_ltimes F_law_times T))
    (called F_added m_added b_added (ok_added F_added)) (called F_times m_times b_times (ok_times F_times B))
    (calledK F_added m_added kb1 (ok_added F_added)) (calledK F_times m_times kb2 (ok_times F_times B))
    (c_alike2.mono (by decide)) (called F_law_pair m_law_pair b_law_pair (ok_pair F_law_pair T (called F_law_added m_law_added b_law_added (ok_ladd F_law_added T)) (called F_law_times m_law_times b_law_times (ok_ltimes F_law_times T))
    (called F_added m_added b_added (ok_added F_added)) (called F_times m_times b_times (ok_times F_times B)) c_alike2))
end K01
open PySem PySem.W PyProof.Rows
set_option maxRecDepth 100000 in
set_option maxHeartbeats 0 in
theorem PySem.Challenge.cw_mendvault_k01_sums_and_products_holds : PySem.Challenge.rw_mendvault_k01_sums_and_products.Holds := by
  w_on; o_law; k_head; (case hw => w_witness2)
  k_fill
  refine L2.walk_of (l := PySem.Challenge.rw_mendvault_k01_sums_and_products) (n := 63) (k := 4) (x := "script") (CX := fun _ => L2.CX0) (sp := fun w => MV.spLaw _) rfl (by decide) rfl ⟨rfl, by decide, by decide⟩ (fun w h Y => PySem.W.kIn_of Y) ?F (fun _ _ a ns hl _ hS => ⟨a, ns, rfl, hS, hl, fun _ => rfl⟩) (fun _ _ _ _ _ h => h)
  case F =>
    intro w mg fa h KX G hmg
    refine' K01.all_mk KX G hmg ?a_added ?l_added ?c_added ?k_added ?a_times ?l_times ?c_times ?k_times ?a_law_cell ?l_law_cell ?c_law_cell ?k_law_cell ?a_law_mix ?l_law_mix ?c_law_mix ?k_law_mix ?a_law_alike ?l_law_alike ?c_law_alike ?k_law_alike ?a_law_added ?l_law_added ?c_law_added ?k_law_added ?a_law_times ?l_law_times ?c_law_times ?k_law_times ?a_law_pair ?l_law_pair ?c_law_pair ?k_law_pair ?a_law ?l_law ?c_law ?k_law ?g_MODULUS ?g_ORDER ?g_POWERS ?l_POWERS ?v_POWERS ?z_POWERS ?g_LOGARITHMS ?l_LOGARITHMS ?v_LOGARITHMS ?z_LOGARITHMS ?z_bool ?z_int ?z_isinstance ?z_len ?z_list ?z_range ?z_str ?z_tuple
    (case a_added => k_is)
    (case l_added => k_is)
    (case c_added => k_is)
    (case k_added => k_is)
    (case a_times => k_is)
    (case l_times => k_is)
    (case c_times => k_is)
    (case k_times => k_is)
    (case a_law_cell => k_is)
    (case l_law_cell => k_is)
    (case c_law_cell => k_is)
    (case k_law_cell => k_is)
    (case a_law_mix => k_is)
    (case l_law_mix => k_is)
    (case c_law_mix => k_is)
    (case k_law_mix => k_is)
    (case a_law_alike => k_is)
    (case l_law_alike => k_is)
    (case c_law_alike => k_is)
    (case k_law_alike => k_is)
    (case a_law_added => k_is)
    (case l_law_added => k_is)
    (case c_law_added => k_is)
    (case k_law_added => k_is)
    (case a_law_times => k_is)
    (case l_law_times => k_is)
    (case c_law_times => k_is)
    (case k_law_times => k_is)
    (case a_law_pair => k_is)
    (case l_law_pair => k_is)
    (case c_law_pair => k_is)
    (case k_law_pair => k_is)
    (case a_law => k_is)
    (case l_law => k_is)
    (case c_law => k_is)
    (case k_law => k_is)
    (case g_MODULUS => k_is)
    (case g_ORDER => k_is)
    (case g_POWERS => k_is)
    (case l_POWERS => k_is)
    (case v_POWERS => first | rfl | kernel_rfl)
    (case z_POWERS => first | decide | (exact Nat.le_of_ble_eq_true rfl))
    (case g_LOGARITHMS => k_is)
    (case l_LOGARITHMS => k_is)
    (case v_LOGARITHMS => first | rfl | kernel_rfl)
    (case z_LOGARITHMS => first | decide | (exact Nat.le_of_ble_eq_true rfl))
    (case z_bool => k_is)
    (case z_int => k_is)
    (case z_isinstance => k_is)
    (case z_len => k_is)
    (case z_list => k_is)
    (case z_range => k_is)
    (case z_str => k_is)
    (case z_tuple => k_is)

